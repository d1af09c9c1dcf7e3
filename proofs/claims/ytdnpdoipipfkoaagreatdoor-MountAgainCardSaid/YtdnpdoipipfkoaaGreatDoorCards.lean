/-
  DERIVED. GIVEN WITH THE SEED: THE CARDS: each row of YtdnpdoipipfkoaaGreatDoorRows.lean that lists a variable, with what it lists TIED to the program's text (the seventh form; the later family's looks); each row that meets fmt, with fmt's text TOLD by the authors' own Lean function (tested against real Go, not proved from fmt's source: count such statements apart). THE CARD IS WHAT COUNTS. Prove the row's statement (the work); the ties are given (YtdnpdoipipfkoaaGreatDoorTie.lean); close each card by the builder's one call (the guide's Derived/Test/ToyasCard.lean, 'card_holds'). Laid BY PROGRAM, IN A SANDBOX (cutbox-door.mjs). By AI agents, Wed Nov 11 2026. No macro, syntax, notation, axiom, sorry.
-/
import Derived.Test.YtdnpdoipipfkoaaGreatDoorRows
import GoSem.ClaimSeven
namespace Go.Proofs.YtdnpdoipipfkoaaGreatDoor
namespace Rows

/-- THE TIED CARD OF 'almshouselaw19.MountPrefix'. -/
def mountPrefixCard : Claim7 := { stood := { row := mountPrefixRow, standIns := [], harness := (true, "0eb2675fdebf06b46f42b6336b2bf2d58844bb0704311fb617606326fdd33c38"), looks := false }, kinds := [], alts := [], laidByText := true, laidKinds := [.data], laidTests := true, laidLooks := .later }
def MountPrefixCardSaid : Prop := Claim7.holds Tryz.pinned (.plain (OpenSpec.ofChange mountPrefixSpec)) mountPrefixCard

/-- THE TIED CARD OF 'almshouselaw19.MountAgain'. -/
def mountAgainCard : Claim7 := { stood := { row := mountAgainRow, standIns := [], harness := (true, "0eb2675fdebf06b46f42b6336b2bf2d58844bb0704311fb617606326fdd33c38"), looks := false }, kinds := [], alts := [], laidByText := true, laidKinds := [.data], laidTests := true, laidLooks := .later }
def MountAgainCardSaid : Prop := Claim7.holds Tryz.pinned (.plain (OpenSpec.ofChange mountAgainSpec)) mountAgainCard

/-- THE TIED CARD OF 'almshouselaw19.MountOthers'. -/
def mountOthersCard : Claim7 := { stood := { row := mountOthersRow, standIns := [], harness := (true, "0eb2675fdebf06b46f42b6336b2bf2d58844bb0704311fb617606326fdd33c38"), looks := false }, kinds := [], alts := [], laidByText := true, laidKinds := [.data], laidTests := true, laidLooks := .later }
def MountOthersCardSaid : Prop := Claim7.holds Tryz.pinned (.plain (OpenSpec.ofChange mountOthersSpec)) mountOthersCard

/-- THE SECOND FORM's CARD OF 'almshouselaw19.MountPrefix'. -/
def mountPrefixUptoCard : Claim7 := { stood := { row := mountPrefixUptoRow, standIns := [], harness := (true, "0eb2675fdebf06b46f42b6336b2bf2d58844bb0704311fb617606326fdd33c38"), looks := false }, kinds := [], alts := [], laidByText := true, laidKinds := [.data], laidTests := true, laidLooks := .later }
def MountPrefixUptoCardSaid : Prop := Claim7.holds Tryz.pinned (.plain (OpenSpec.upto mountPrefixSpec)) mountPrefixUptoCard

/-- THE SECOND FORM's CARD OF 'almshouselaw19.MountAgain'. -/
def mountAgainUptoCard : Claim7 := { stood := { row := mountAgainUptoRow, standIns := [], harness := (true, "0eb2675fdebf06b46f42b6336b2bf2d58844bb0704311fb617606326fdd33c38"), looks := false }, kinds := [], alts := [], laidByText := true, laidKinds := [.data], laidTests := true, laidLooks := .later }
def MountAgainUptoCardSaid : Prop := Claim7.holds Tryz.pinned (.plain (OpenSpec.upto mountAgainSpec)) mountAgainUptoCard

/-- THE SECOND FORM's CARD OF 'almshouselaw19.MountOthers'. -/
def mountOthersUptoCard : Claim7 := { stood := { row := mountOthersUptoRow, standIns := [], harness := (true, "0eb2675fdebf06b46f42b6336b2bf2d58844bb0704311fb617606326fdd33c38"), looks := false }, kinds := [], alts := [], laidByText := true, laidKinds := [.data], laidTests := true, laidLooks := .later }
def MountOthersUptoCardSaid : Prop := Claim7.holds Tryz.pinned (.plain (OpenSpec.upto mountOthersSpec)) mountOthersUptoCard
end Rows
end Go.Proofs.YtdnpdoipipfkoaaGreatDoor
