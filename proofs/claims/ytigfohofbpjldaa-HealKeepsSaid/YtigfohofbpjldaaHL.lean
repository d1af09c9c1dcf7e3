/-
  Layer 17: HealKeeps over the program's own calls.
-/
import Derived.Test.YtigfohofbpjldaaHK
import Derived.Test.YtigfohofbpjldaaHJ
namespace Go.Proofs.Ytigfohofbpjldaa
set_option linter.unusedVariables false
set_option linter.unusedSimpArgs false
set_option maxRecDepth 100000
open Go.RowKit

theorem healKeeps_own (a : Option Addr) (len cap : Nat) (B tn ep sz : Int) (w : World) (h : IsRecX [.int .i64, .int .i64, .bool, .int .i64, .int .i64, .int .i64, .int .i64, .int .i64, .bool, .str] w a len cap) (hs : ∀ x, a = some x → x.spot = none ∧ x.block < w.heap.size) :
    Calls Try.prog 4 #[.slice a len cap, .int .i64 B, .int .i64 tn, .int .i64 ep, .int .i64 sz] w fun e w' => e = .returned (.bool true) ∧ Below w.heap.size w w' := by
  obtain ⟨L, h1, h2, h3⟩ := pages17_of h hs
  exact (healKeeps_any heal_c fix_17 _ L B tn ep sz w h2 h3 h1).mono fun e w' h => ⟨h.1, below17 h.2⟩

end Go.Proofs.Ytigfohofbpjldaa
