/-
  Layer 15's laws, over the program's own code and what came in.
-/
import Derived.Test.YtnfhibigidkhkaaQN
import Derived.Test.YtnfhibigidkhkaaRow
namespace Go.Proofs.Ytnfhibigidkhkaa
set_option linter.unusedVariables false
set_option linter.unusedSimpArgs false
set_option maxRecDepth 100000
open Go.RowKit

theorem row_ints15 {w : World} {a : Option Addr} {len cap : Nat} {zs : List Int} (h : IsRow .i64 w a len cap zs) (hs : ∀ x, a = some x → x.spot = none ∧ x.block < w.heap.size) :
    Ints w (.slice a len cap) (zs.take len) ∧ (zs.take len).length ≤ 9223372036854775807 := by
  rcases h with ⟨rfl, rfl, rfl, rfl⟩ | ⟨x, rfl, hl, hm, hz, hc, _⟩
  · exact ⟨.inl ⟨rfl, rfl⟩, by simp⟩
  · obtain ⟨hsp, hb⟩ := hs x rfl
    obtain ⟨b, off, sp⟩ := x
    simp only at hsp hb
    subst hsp
    have hlen : (zs.take len).length = len := by simp; omega
    unfold maxLen at hm
    refine ⟨.inr (.inl ⟨b, off, cap, by rw [hlen], by omega, fun i hi => ?_⟩), by omega⟩
    rw [hlen] at hi
    have := hc i (by omega)
    rw [addr_add] at this
    rw [this]
    simp [hi]
theorem below15 {w w' : World} (h : w.grownBy w' none) : Below w.heap.size w w' := ⟨h.os, h.tape, h.output, h.size, fun k hk => h.block k hk (by simp)⟩
def Tru15 (w : World) (e : Ending) (w' : World) : Prop := e = .returned (.bool true) ∧ Below w.heap.size w w'

theorem victimGreedy_own {a : Option Addr} {len cap : Nat} {zs : List Int} {w : World} (h : IsRow .i64 w a len cap zs) (hs : ∀ x, a = some x → x.spot = none ∧ x.block < w.heap.size) :
    Calls Try.prog 3 #[.slice a len cap] w (Tru15 w) := by
  obtain ⟨hI, hl⟩ := row_ints15 h hs
  exact (victimGreedy_any vicGreedy_any fix15_any _ _ w hI hl).mono fun e w' h => ⟨h.1, below15 h.2⟩
theorem victimLeast_own {a : Option Addr} {len cap : Nat} {zs : List Int} {w : World} (h : IsRow .i64 w a len cap zs) (hs : ∀ x, a = some x → x.spot = none ∧ x.block < w.heap.size) :
    Calls Try.prog 5 #[.slice a len cap] w (Tru15 w) := by
  obtain ⟨hI, hl⟩ := row_ints15 h hs
  exact (victimLeast_any vicGreedy_any fix15_any _ _ w hI hl).mono fun e w' h => ⟨h.1, below15 h.2⟩
theorem victimBenefit_own {a b c : Option Addr} {len cap lenb capb lenc capc : Nat} {zs gs es : List Int} {p : Int} {w : World} (h : IsRow .i64 w a len cap zs) (hs : ∀ x, a = some x → x.spot = none ∧ x.block < w.heap.size)
    (h2 : IsRow .i64 w b lenb capb gs) (hs2 : ∀ x, b = some x → x.spot = none ∧ x.block < w.heap.size) (h3 : IsRow .i64 w c lenc capc es) (hs3 : ∀ x, c = some x → x.spot = none ∧ x.block < w.heap.size) :
    Calls Try.prog 4 #[.slice a len cap, .slice b lenb capb, .int .i64 p, .slice c lenc capc] w (Tru15 w) := by
  obtain ⟨hI, hl⟩ := row_ints15 h hs
  obtain ⟨hI2, hl2⟩ := row_ints15 h2 hs2
  obtain ⟨hI3, hl3⟩ := row_ints15 h3 hs3
  exact (victimBenefit_any vicBenefit_any vicSpread_any fix15_any _ _ _ _ _ _ p w hI hI2 hI3 hl hl2 hl3).mono fun e w' h => ⟨h.1, below15 h.2⟩

end Go.Proofs.Ytnfhibigidkhkaa
