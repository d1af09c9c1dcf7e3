/-
  The walks of the small functions of package word that make no memory: isSize, Fits (and the document's), stopped.
-/
import Derived.Test.YtigfohofbpjldaaRows
import Derived.WalkKit
import Derived.WalkSpells
import Derived.WalkLawsBesides
import Derived.BigQuiet
import Derived.Deep.QuietTactic
import Derived.Lib.Hide
namespace Go.Proofs.Ytigfohofbpjldaa
set_option linter.unusedVariables false
set_option linter.unusedSimpArgs false
set_option maxRecDepth 100000
open Go.RowKit

theorem ret_bool {a b : Bool} (h : a = b) : Ending.returned (.bool a) = .returned (.bool b) := by rw [h]
theorem ret_int {k : IntKind} {a b : Int} (h : a = b) : Ending.returned (.int k a) = .returned (.int k b) := by rw [h]

def sizeB (n : Int) : Bool := decide (n = 1 ∨ n = 2 ∨ n = 4)

/-- Whether a number can be written by so many bytes. -/
def fitsB (v n : Int) : Bool := decide (0 ≤ v ∧ ((n = 1 ∧ v ≤ 255) ∨ (n = 2 ∧ v ≤ 65535) ∨ (n = 4 ∧ v ≤ 4294967295)))

theorem fits_u64 (v : Int) (h0 : 0 ≤ v) (h1 : v ≤ 9223372036854775807) : IntKind.u64.wrap v = v := by
  simp [IntKind.wrap, IntKind.bits, IntKind.signed]
  omega

end Go.Proofs.Ytigfohofbpjldaa
