/-
  What a law's row says of lengths: a slice's, and those of a slice's strings.
-/
import Derived.Test.YthailmoeggdfhaaRX
import Derived.SizedLaws
import Derived.Deep.Slices
namespace Go.Proofs.Ythailmoeggdfhaa
set_option linter.unusedVariables false
set_option linter.unusedSimpArgs false
set_option maxRecDepth 100000
open Go.RowKit Go.ChangeShapes Go.WideShapes Go.Deep

theorem slice_lens {P : Program} {w : World} {base : Nat} {t e : TypeId} {a : Option Addr} {len cap : Nat} (ht : P.underlying t = some (.slice e)) (h : Value.okWide P w .any base t (.slice a len cap)) : len ≤ cap ∧ cap ≤ 9223372036854775807 := by
  cases a with
  | none =>
    simp only [Value.okWide, ht, Cell.okWide, Cell.ok] at h
    cases len <;> cases cap <;> simp_all
  | some x =>
    simp only [Value.okWide, ht, Cell.okWide, Cell.ok] at h
    have h2 : (cap : Int) ≤ 9223372036854775807 := h.2.1
    exact ⟨h.1, by omega⟩

section
variable {H : Type} {enc : TypeId × Value → H} {P : Program} {w : World} {base : Nat} {held : Bool}
theorem weightsAll_str {e : TypeId} : ∀ {l : List ByteArray} {s : ByteArray}, s ∈ l → s.size ∈ DataW.weightsAll (H := H) P e (strs l)
  | [], _, h => by cases h
  | x :: l, s, h => by
    show s.size ∈ DataW.weights P e (DataW.lit (.string x.data.toList)) ++ DataW.weightsAll P e (strs l)
    rw [List.mem_append]
    rcases List.mem_cons.1 h with rfl | h
    · exact .inl (by simp [DataW.weights])
    · exact .inr (weightsAll_str h)
theorem open_strs_sized {t e : TypeId} {a : Option Addr} {len cap : Nat} {fuel : Nat} {x : DataW H × List MemPlace} (ht : P.underlying t = some (.slice e)) (he : P.underlying e = some .string) (hc : P.cellsOf e = 1)
    (h : DataW.trod enc P w base (fun _ => true) held fuel t [.slice a len cap] = some x) (hz : ∀ n ∈ x.1.weights P t, n ≤ reachBytes) : ∃ ss, IsStrs w a len cap ss ∧ ∀ s ∈ ss, s.size ≤ 140737488351232 := by
  rcases open_strings ht he hc h with ⟨hcs, _⟩ | ⟨b, l, c, ss, hcs, _, hl, hm, hz2, hx, hcell, hw⟩
  · simp at hcs
    obtain ⟨rfl, rfl, rfl⟩ := hcs
    exact ⟨[], .inl ⟨rfl, rfl, rfl, rfl⟩, by simp⟩
  · simp at hcs
    obtain ⟨rfl, rfl, rfl⟩ := hcs
    refine ⟨ss, .inr ⟨b, rfl, hl, hm, by simpa using hz2, hcell, hw⟩, fun s hs => ?_⟩
    have h1 : s.size ≤ reachBytes := by
      refine hz _ ?_
      rw [hx]
      simp only [DataW.weights, ht]
      rw [← List.take_append_drop len ss, List.mem_append] at hs
      refine List.mem_cons_of_mem _ (List.mem_append.2 ?_)
      rcases hs with hs | hs
      · exact .inl (weightsAll_str hs)
      · exact .inr (weightsAll_str hs)
    unfold reachBytes at h1
    omega
/-- A slice's own reach. -/
theorem slice_reach {t e : TypeId} {a : Option Addr} {len cap : Nat} {fuel : Nat} {x : DataW H × List MemPlace} (ht : P.underlying t = some (.slice e))
    (h : DataW.trod enc P w base (fun _ => true) held fuel t [.slice a len cap] = some x) (hz : ∀ n ∈ x.1.weights P t, n ≤ reachBytes) : len * P.bytesOf e ≤ 140737488351232 := by
  rcases open_slice ht h with ⟨h0, _⟩ | ⟨b, n, c, m, q, D, Pl, hcs, _, h1, h2, hm, hx, _⟩
  · simp at h0
    obtain ⟨-, rfl, -⟩ := h0
    omega
  · simp at hcs
    obtain ⟨-, rfl, -⟩ := hcs
    have h3 := hz ((((List.range len).map D).length + ((List.range (m - len)).map fun j => D (len + j)).length) * P.bytesOf e) (by rw [hx]; simp [DataW.weights, ht])
    rw [List.length_map, List.length_range] at h3
    unfold reachBytes at h3
    have h4 : len * P.bytesOf e ≤ (len + ((List.range (m - len)).map fun j => D (len + j)).length) * P.bytesOf e := Nat.mul_le_mul_right _ (Nat.le_add_right _ _)
    omega
end

end Go.Proofs.Ythailmoeggdfhaa
