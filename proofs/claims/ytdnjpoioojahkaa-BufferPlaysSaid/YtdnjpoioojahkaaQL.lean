/-
  Layer 13: BufferPlays and BufferNone over the program's own calls; the acts that came in.
-/
import Derived.Test.YtdnjpoioojahkaaQK
import Derived.Test.YtdnjpoioojahkaaRY
import Derived.Below
namespace Go.Proofs.Ytdnjpoioojahkaa
set_option linter.unusedVariables false
set_option linter.unusedSimpArgs false
set_option maxRecDepth 100000
open Go.RowKit

theorem below13 {w w' : World} (h : w.grownBy w' none) : Below w.heap.size w w' := ⟨h.os, h.tape, h.output, h.size, fun k hk => h.block k hk (by simp)⟩
theorem acts13_of {w : World} {a : Option Addr} {len cap : Nat} (h : IsRecX [.int .u8, .int .i64, .int .i64, .str] w a len cap) (hs : ∀ x, a = some x → x.spot = none ∧ x.block < w.heap.size) : ∃ K C, Acts13 w a len K C := by
  rcases h with ⟨rfl, rfl, rfl⟩ | ⟨x, rfl, hl, hm, hz⟩
  · exact ⟨fun _ => 0, fun _ => noChg, by omega, fun i hi => by omega⟩
  · obtain ⟨hsp, hblk⟩ := hs x rfl
    obtain ⟨b, off, sp⟩ := x
    simp only at hsp hblk
    subst hsp
    unfold maxLen at hm
    have key : ∀ i, ∃ q : Int × Chg, i < len → w.rangeAt b (off + i * 4) (actC q.1 q.2).toList ∧ (0 ≤ q.1 ∧ q.1 ≤ 255) ∧ q.2.dt.size ≤ 9223372036854775807 := by
      intro i
      by_cases hi : i < len
      · obtain ⟨v0, g0, k, rfl, hk⟩ := hz i hi 0 _ rfl
        obtain ⟨v1, g1, pl, rfl, _⟩ := hz i hi 1 _ rfl
        obtain ⟨v2, g2, kd, rfl, _⟩ := hz i hi 2 _ rfl
        obtain ⟨v3, g3, dt, rfl, hd⟩ := hz i hi 3 _ rfl
        refine ⟨⟨k, ⟨pl, kd, dt⟩⟩, fun _ => ⟨fun j u hj => ?_, ?_, ?_⟩⟩
        · rw [addr_add] at g0 g1 g2 g3
          match j, hj with
          | 0, hj => simp [actC] at hj; subst hj; simpa [Nat.add_assoc] using g0
          | 1, hj => simp [actC] at hj; subst hj; simpa [Nat.add_assoc] using g1
          | 2, hj => simp [actC] at hj; subst hj; simpa [Nat.add_assoc] using g2
          | 3, hj => simp [actC] at hj; subst hj; simpa [Nat.add_assoc] using g3
          | j + 4, hj => simp [actC] at hj
        · simpa [Lit.wf, IntKind.min, IntKind.max, IntKind.bits, IntKind.signed] using hk
        · unfold maxLen at hd
          exact hd
      · exact ⟨⟨0, noChg⟩, fun h => absurd h hi⟩
    refine ⟨fun i => (Classical.choose (key i)).1, fun i => (Classical.choose (key i)).2, by omega, fun i hi => ?_⟩
    obtain ⟨h1, h2, h3⟩ := Classical.choose_spec (key i) hi
    exact ⟨⟨b, off, rfl, h1, hblk⟩, h2, h3⟩

theorem bufferPlays_own (a : Option Addr) (len cap : Nat) (p : Int) (w : World) (h : IsRecX [.int .u8, .int .i64, .int .i64, .str] w a len cap) (hs : ∀ x, a = some x → x.spot = none ∧ x.block < w.heap.size) :
    Calls Try.prog 3 #[.slice a len cap, .int .i64 p] w fun e w' => e = .returned (.bool true) ∧ Below w.heap.size w w' := by
  obtain ⟨K, C, hA⟩ := acts13_of h hs
  exact (bufferPlays_any buf_c fix_13 a len cap p K C w hA).mono fun e w' h => ⟨h.1, below13 h.2⟩
theorem bufferNone_own (c : Chg) (p : Int) (w : World) :
    Calls Try.prog 4 #[chgV c, .int .i64 p] w fun e w' => e = .returned (.bool true) ∧ Below w.heap.size w w' :=
  (bufferNone_any buf_n fix_13 c p w).mono fun e w' h => ⟨h.1, below13 h.2⟩

end Go.Proofs.Ytdnjpoioojahkaa
