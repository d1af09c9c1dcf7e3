/-
  Package power: the laws' walks: fixed, PowerLasts, PowerTells.
-/
import Derived.Test.YtaobamnfgpllcaaPB
import Derived.Test.YtaobamnfgpllcaaRec
namespace Go.Proofs.Ytaobamnfgpllcaa
open Go.RowKit

def spE (x : Int) (g : Bool) : Int := if g then 12 else if x = 0 then 11 else 0
def spX (x : Int) (g : Bool) : Int := if g then x else if 0 < x then x - 1 else x
def spG (x : Int) (g : Bool) : Bool := g || x == 0
def spO (g : Bool) (o : Int) : Int := if g then o else o + 1

theorem spend_any (b : Nat) (x : Int) (g : Bool) (o : Int) (w : World) (h : PowAt w b x g o) (hx : -9223372036854775808 ≤ x) (hx' : x ≤ 9223372036854775807) (h0 : 0 ≤ o) (h1 : o < 1000000) :
    Calls Try.prog 30 #[.pointer (some ⟨b, 0, none⟩)] w (Turns b (spX x g) (spG x g) (spO g o) (.int .i64 (spE x g)) w) := by
  cases g
  · have := spend_there b x o w h hx hx' h0 h1
    simpa [spX, spG, spO, spE] using this
  · have := spend_gone b x o w h
    simpa [spX, spG, spO, spE] using this
theorem gb_below {w w' : World} {b B : Nat} (h : w.grownBy w' (some b)) (hb : B ≤ b) (hB : B ≤ w.heap.size) : Below B w w' :=
  ⟨h.os, h.tape, h.output, h.size, fun k hk => h.block k (by omega) (by simp; omega)⟩
theorem gb_below0 {w w' : World} {B : Nat} (h : w.grownBy w' none) (hB : B ≤ w.heap.size) : Below B w w' := ⟨h.os, h.tape, h.output, h.size, fun k hk => h.block k (by omega) (by simp)⟩

def TrueB (w : World) : Ending → World → Prop := fun e w' => e = .returned (.bool true) ∧ Below w.heap.size w w'

/-- The acts of a row. -/
theorem acts_of {w : World} {a : Option Addr} {len cap : Nat} (h : IsRecs [.inl .u8, .inl .i64] w a len cap) (hs : ∀ x, a = some x → x.spot = none ∧ x.block < w.heap.size) :
    ∃ ks ns : Nat → Int, ((a = none ∧ len = 0 ∧ cap = 0) ∨ ∃ b off, a = some ⟨b, off, none⟩ ∧ b < w.heap.size ∧ ∀ i, i < len → w.cell? ⟨b, off + i * 2, none⟩ = some (.int .u8 (ks i)) ∧ w.cell? ⟨b, off + i * 2 + 1, none⟩ = some (.int .i64 (ns i))) ∧
      (∀ i, i < len → (0 ≤ ks i ∧ ks i ≤ 255) ∧ -9223372036854775808 ≤ ns i ∧ ns i ≤ 9223372036854775807) ∧ len ≤ maxLen := by
  rcases h with ⟨rfl, rfl, rfl⟩ | ⟨x, rfl, h1, h2, h3⟩
  · exact ⟨fun _ => 0, fun _ => 0, .inl ⟨rfl, rfl, rfl⟩, fun i hi => by omega, Nat.zero_le _⟩
  · obtain ⟨hsp, hb⟩ := hs x rfl
    obtain ⟨b, off, sp⟩ := x
    simp only at hsp hb
    subst hsp
    refine ⟨fun i => intOf ((w.cell? ⟨b, off + i * 2, none⟩).getD undef), fun i => intOf ((w.cell? ⟨b, off + i * 2 + 1, none⟩).getD undef), .inr ⟨b, off, rfl, hb, fun i hi => ?_⟩, fun i hi => ?_, by omega⟩
    · obtain ⟨v, hc, n, rfl, _⟩ := h3 i hi 0 _ rfl
      obtain ⟨u, hd, m, rfl, _⟩ := h3 i hi 1 _ rfl
      rw [addr_add] at hc hd
      simp only [List.length_cons, List.length_nil, Nat.add_zero, Nat.zero_add, Nat.reduceAdd, ← Nat.add_assoc] at hc hd
      constructor
      · rw [hc]; simp only [hc, Option.getD_some, intOf]
      · rw [hd]; simp only [hd, Option.getD_some, intOf]
    · obtain ⟨v, hc, n, rfl, hw⟩ := h3 i hi 0 _ rfl
      obtain ⟨u, hd, m, rfl, hw2⟩ := h3 i hi 1 _ rfl
      rw [addr_add] at hc hd
      simp only [List.length_cons, List.length_nil, Nat.add_zero, Nat.zero_add, Nat.reduceAdd, ← Nat.add_assoc] at hc hd
      simp [Lit.wf, IntKind.min, IntKind.max, IntKind.bits, IntKind.signed] at hw hw2
      simp only [hc, hd, Option.getD_some, intOf]
      omega

end Go.Proofs.Ytaobamnfgpllcaa
