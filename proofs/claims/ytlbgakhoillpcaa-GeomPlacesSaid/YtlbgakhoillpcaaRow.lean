/-
  From what the rows hand over to what the walks take: slices of bytes that came in.
-/
import Derived.Test.YtlbgakhoillpcaaWB
import Derived.ProofKit
import Derived.OpenShut
namespace Go.Proofs.Ytlbgakhoillpcaa
open Go.RowKit

theorem slice_good {P : Program} {w : World} {base : Nat} {t e : TypeId} {x : Addr} {len cap : Nat} (ht : P.underlying t = some (.slice e)) (h : Value.okWide P w .any base t (.slice (some x) len cap)) : x.spot = none ∧ x.block < w.heap.size := by
  simp only [Value.okWide, ht, Cell.okWide, Cell.ok] at h
  obtain ⟨_, _, _, h1, row, cells, h2, _⟩ := h
  refine ⟨h1, ?_⟩
  unfold World.shape? at h2
  split at h2
  · rename_i hb
    exact (Array.getElem?_eq_some_iff.1 hb).1
  · cases h2

/-- What a slice of integers that came in is. -/
def IsRow (k : IntKind) (w : World) (a : Option Addr) (len cap : Nat) (zs : List Int) : Prop :=
  (a = none ∧ len = 0 ∧ cap = 0 ∧ zs = []) ∨
  ∃ x, a = some x ∧ len ≤ cap ∧ cap ≤ maxLen ∧ zs.length = cap ∧ (∀ i, i < zs.length → w.cell? (x.add i) = some (.int k (zs.getD i 0))) ∧ ∀ n ∈ zs, (Lit.int k n).wf = true

open Go.ChangeShapes Go.WideShapes in
theorem row_of {H : Type} {enc : TypeId × Value → H} {P : Program} {W : World} {base : Nat} {held : Bool} {t e : TypeId} {k : IntKind} {a : Option Addr} {len cap : Nat} {d : DataW H} {p : List MemPlace} (ht : P.underlying t = some (.slice e)) (he : P.underlying e = some (.int k)) (hc : P.cellsOf e = 1)
    (h : DataW.Trod enc P W base (fun _ => true) held t (.slice a len cap) d p) : ∃ zs, IsRow k W a len cap zs := by
  obtain ⟨fuel, hf⟩ := h
  rcases open_ints ht he hc hf with ⟨hcs, _⟩ | ⟨x, l, c, zs, hcs, _, hl, hm, hz, _, hcell, hwz⟩
  · simp [Value.cells] at hcs
    obtain ⟨rfl, rfl, rfl⟩ := hcs
    exact ⟨[], .inl ⟨rfl, rfl, rfl, rfl⟩⟩
  · simp [Value.cells] at hcs
    obtain ⟨rfl, rfl, rfl⟩ := hcs
    exact ⟨zs, .inr ⟨_, rfl, hl, hm, by simpa using hz, hcell, hwz⟩⟩

theorem row_bts {w : World} {a : Option Addr} {len cap : Nat} {zs : List Int} (h : IsRow .u8 w a len cap zs) (hs : ∀ x, a = some x → x.spot = none ∧ x.block < w.heap.size) :
    len = (zs.take len).length ∧ Bts w (.slice a len cap) (zs.take len) ∧ (∀ n ∈ zs.take len, 0 ≤ n ∧ n < 256) ∧ (∀ k, (Value.slice a len cap).ownBlock = some k → k < w.heap.size) ∧ len ≤ maxLen := by
  rcases h with ⟨rfl, rfl, rfl, rfl⟩ | ⟨x, rfl, hl, hm, hz, hc, hw⟩
  · exact ⟨rfl, .inl ⟨rfl, rfl⟩, by simp, by simp [Value.ownBlock], Nat.zero_le _⟩
  · obtain ⟨hsp, hb⟩ := hs x rfl
    obtain ⟨b, off, sp⟩ := x
    simp only at hsp hb
    subst hsp
    have hlen : (zs.take len).length = len := by simp; omega
    refine ⟨hlen.symm, .inr ⟨b, off, cap, by rw [hlen], by omega, fun i hi => ?_⟩, fun n hn => ?_, fun k hk => ?_, by omega⟩
    · rw [hlen] at hi
      have := hc i (by omega)
      rw [addr_add] at this
      rw [this]
      simp [List.getElem?_take, hi]
    · have := hw n (List.mem_of_mem_take hn)
      simp [Lit.wf, IntKind.has, IntKind.min, IntKind.max, IntKind.bits, IntKind.signed] at this
      omega
    · simp [Value.ownBlock] at hk
      omega

end Go.Proofs.Ytlbgakhoillpcaa
