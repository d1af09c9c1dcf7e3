/-
  Layer 17: the laws over the program's own calls; pages that came in.
-/
import Derived.Test.YtigfohofbpjldaaIP
import Derived.Test.YtigfohofbpjldaaRY
import Derived.Below
namespace Go.Proofs.Ytigfohofbpjldaa
set_option linter.unusedVariables false
set_option linter.unusedSimpArgs false
set_option maxRecDepth 100000
open Go.RowKit

theorem below17 {w w' : World} (h : w.grownBy w' none) : Below w.heap.size w w' := ⟨h.os, h.tape, h.output, h.size, fun k hk => h.block k hk (by simp)⟩
theorem pages17_of {w : World} {a : Option Addr} {len cap : Nat} (h : IsRecX [.int .i64, .int .i64, .bool, .int .i64, .int .i64, .int .i64, .int .i64, .int .i64, .bool, .str] w a len cap) (hs : ∀ x, a = some x → x.spot = none ∧ x.block < w.heap.size) :
    ∃ L : List Fnd, L.length ≤ 9223372036854775807 ∧ RowF w (.slice a len cap) L ∧ ∀ k, (Value.slice a len cap).ownBlock = some k → k < w.heap.size := by
  rcases h with ⟨rfl, rfl, rfl⟩ | ⟨x, rfl, hl, hm, hz⟩
  · exact ⟨[], by simp, ⟨none, 0, rfl, fun i hi => by simp at hi⟩, fun k hk => by simp [Value.ownBlock] at hk⟩
  · obtain ⟨hsp, hblk⟩ := hs x rfl
    obtain ⟨b, off, sp⟩ := x
    simp only at hsp hblk
    subst hsp
    unfold maxLen at hm
    have key : ∀ i, ∃ f : Fnd, i < len → w.rangeAt b (off + i * 10) (fndC f).toList := by
      intro i
      by_cases hi : i < len
      · obtain ⟨v0, g0, x0, rfl, _⟩ := hz i hi 0 _ rfl
        obtain ⟨v1, g1, x1, rfl, _⟩ := hz i hi 1 _ rfl
        obtain ⟨v2, g2, x2, rfl⟩ := hz i hi 2 _ rfl
        obtain ⟨v3, g3, x3, rfl, _⟩ := hz i hi 3 _ rfl
        obtain ⟨v4, g4, x4, rfl, _⟩ := hz i hi 4 _ rfl
        obtain ⟨v5, g5, x5, rfl, _⟩ := hz i hi 5 _ rfl
        obtain ⟨v6, g6, x6, rfl, _⟩ := hz i hi 6 _ rfl
        obtain ⟨v7, g7, x7, rfl, _⟩ := hz i hi 7 _ rfl
        obtain ⟨v8, g8, x8, rfl⟩ := hz i hi 8 _ rfl
        obtain ⟨v9, g9, x9, rfl, _⟩ := hz i hi 9 _ rfl
        refine ⟨⟨x0, x1, x2, x3, x4, x5, x6, x7, x8, x9⟩, fun _ j u hj => ?_⟩
        rw [addr_add] at g0 g1 g2 g3 g4 g5 g6 g7 g8 g9
        match j, hj with
        | 0, hj => simp [fndC] at hj; subst hj; simpa [Nat.add_assoc] using g0
        | 1, hj => simp [fndC] at hj; subst hj; simpa [Nat.add_assoc] using g1
        | 2, hj => simp [fndC] at hj; subst hj; simpa [Nat.add_assoc] using g2
        | 3, hj => simp [fndC] at hj; subst hj; simpa [Nat.add_assoc] using g3
        | 4, hj => simp [fndC] at hj; subst hj; simpa [Nat.add_assoc] using g4
        | 5, hj => simp [fndC] at hj; subst hj; simpa [Nat.add_assoc] using g5
        | 6, hj => simp [fndC] at hj; subst hj; simpa [Nat.add_assoc] using g6
        | 7, hj => simp [fndC] at hj; subst hj; simpa [Nat.add_assoc] using g7
        | 8, hj => simp [fndC] at hj; subst hj; simpa [Nat.add_assoc] using g8
        | 9, hj => simp [fndC] at hj; subst hj; simpa [Nat.add_assoc] using g9
        | j + 10, hj => simp [fndC] at hj
      · exact ⟨noF, fun h => absurd h hi⟩
    refine ⟨(List.range len).map (fun i => Classical.choose (key i)), by simp; omega, ⟨some ⟨b, off, none⟩, cap, by simp, fun i hi => ?_⟩, fun k hk => by simp [Value.ownBlock] at hk; omega⟩
    have hi' : i < len := by simpa using hi
    refine ⟨b, off, rfl, ?_⟩
    have h1 := Classical.choose_spec (key i) hi'
    have h2 : ((List.range len).map (fun i => Classical.choose (key i))).getD i noF = Classical.choose (key i) := by
      rw [List.getD_eq_getElem?_getD, List.getElem?_map, List.getElem?_range hi']
      rfl
    rw [h2]
    exact h1

theorem healTells_own (a : Option Addr) (len cap : Nat) (B tn ep sz : Int) (w : World) (h : IsRecX [.int .i64, .int .i64, .bool, .int .i64, .int .i64, .int .i64, .int .i64, .int .i64, .bool, .str] w a len cap) (hs : ∀ x, a = some x → x.spot = none ∧ x.block < w.heap.size) :
    Calls Try.prog 3 #[.slice a len cap, .int .i64 B, .int .i64 tn, .int .i64 ep, .int .i64 sz] w fun e w' => e = .returned (.bool true) ∧ Below w.heap.size w w' := by
  obtain ⟨L, h1, h2, h3⟩ := pages17_of h hs
  exact (healTells_any heal_c fix_17 _ L B tn ep sz w h2 h3 h1).mono fun e w' h => ⟨h.1, below17 h.2⟩
theorem healVoid_own (a : Option Addr) (len cap : Nat) (B tn ep sz : Int) (w : World) (h : IsRecX [.int .i64, .int .i64, .bool, .int .i64, .int .i64, .int .i64, .int .i64, .int .i64, .bool, .str] w a len cap) (hs : ∀ x, a = some x → x.spot = none ∧ x.block < w.heap.size) :
    Calls Try.prog 5 #[.slice a len cap, .int .i64 B, .int .i64 tn, .int .i64 ep, .int .i64 sz] w fun e w' => e = .returned (.bool true) ∧ Below w.heap.size w w' := by
  obtain ⟨L, h1, h2, h3⟩ := pages17_of h hs
  exact (healVoid_any void_c fix_17 _ L B tn ep sz w h2 h3 h1).mono fun e w' h => ⟨h.1, below17 h.2⟩

end Go.Proofs.Ytigfohofbpjldaa
