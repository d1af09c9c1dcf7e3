/-
  THE LAW HouseNone: its row's closed facts, apart: they want the memory for themselves.
-/
import Derived.Test.YtfgifgglcafadaaGreatDoorRows
import Derived.ProofKit
namespace Go.Proofs.YtfgifgglcafadaaGreatDoor.houseNone
open Go.ChangeShapes Go.WideShapes Go.ChangeAt Go.RowKit

theorem facts : joinedFacts Tryz.pinned.checked.prog 6 Tryz.f6 Rows.houseNoneSpec Rows.houseNoneRow = true := by kernel_rfl
end Go.Proofs.YtfgifgglcafadaaGreatDoor.houseNone
