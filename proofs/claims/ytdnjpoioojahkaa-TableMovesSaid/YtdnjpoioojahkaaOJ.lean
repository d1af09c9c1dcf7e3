/-
  Layer 14: TableMoves and TablePlays, of acts that came in.
-/
import Derived.Test.YtdnjpoioojahkaaOI
namespace Go.Proofs.Ytdnjpoioojahkaa
set_option linter.unusedVariables false
set_option linter.unusedSimpArgs false
set_option maxRecDepth 100000
open Go.RowKit

theorem below14 {w w' : World} (h : w.grownBy w' none) : Below w.heap.size w w' := ⟨h.os, h.tape, h.output, h.size, fun k hk => h.block k hk (by simp)⟩
theorem tableMoves_own (a : Option Addr) (len cap : Nat) (w : World) (h : IsRecs [.inl .u8, .inl .i64, .inl .i64, .inl .i64] w a len cap) (hs : ∀ x, a = some x → x.spot = none ∧ x.block < w.heap.size) :
    Calls Try.prog 6 #[.slice a len cap] w fun e w' => e = .returned (.bool true) ∧ Below w.heap.size w w' := by
  obtain ⟨X, hX⟩ := acts14_of h hs
  exact (tableMoves_any a len cap X w hX).mono fun e w' h => ⟨h.1, below14 h.2⟩
theorem tablePlays_own (b p : Int) (a : Option Addr) (len cap : Nat) (w : World) (h : IsRecs [.inl .u8, .inl .i64, .inl .i64, .inl .i64] w a len cap) (hs : ∀ x, a = some x → x.spot = none ∧ x.block < w.heap.size) :
    Calls Try.prog 5 #[.int .i64 b, .int .i64 p, .slice a len cap] w fun e w' => e = .returned (.bool true) ∧ Below w.heap.size w w' := by
  obtain ⟨X, hX⟩ := acts14_of h hs
  exact (tablePlays_any b p a len cap X w hX).mono fun e w' h => ⟨h.1, below14 h.2⟩

end Go.Proofs.Ytdnjpoioojahkaa
