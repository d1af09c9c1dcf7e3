/-
  The document's Create.
-/
import Derived.Test.YtkcdddpbmbhelaaEJ
namespace Go.Proofs.Ytkcdddpbmbhelaa
open Go.RowKit

theorem missT_five {L : Led} {t : Int} (h : inB t 0 3 = false) : missT L t = 5 := by unfold missT; rw [h]; rfl
theorem missT_in {L : Led} {k : Nat} (h : k < 4) : missT L k = if (L.t k).th = true then 0 else 6 := by
  unfold missT
  rw [if_pos (by simp [inB]; omega)]
  simp only [Int.toNat_natCast]

end Go.Proofs.Ytkcdddpbmbhelaa
