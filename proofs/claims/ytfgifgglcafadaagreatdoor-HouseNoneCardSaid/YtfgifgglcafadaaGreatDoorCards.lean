/-
  DERIVED. GIVEN WITH THE SEED: THE CARDS: each row of YtfgifgglcafadaaGreatDoorRows.lean that lists a variable, with what it lists TIED to the program's text (the seventh form; the later family's looks); each row that meets fmt, with fmt's text TOLD by the authors' own Lean function (tested against real Go, not proved from fmt's source: count such statements apart). THE CARD IS WHAT COUNTS. Prove the row's statement (the work); the ties are given (YtfgifgglcafadaaGreatDoorTie.lean); close each card by the builder's one call (the guide's Derived/Test/ToyasCard.lean, 'card_holds'). Laid BY PROGRAM, IN A SANDBOX (cutbox-door.mjs). By AI agents, Wed Nov 11 2026. No macro, syntax, notation, axiom, sorry.
-/
import Derived.Test.YtfgifgglcafadaaGreatDoorRows
import GoSem.ClaimSeven
namespace Go.Proofs.YtfgifgglcafadaaGreatDoor
namespace Rows

/-- THE TIED CARD OF 'almshouselaw21.HouseErrors'. -/
def houseErrorsCard : Claim7 := { stood := { row := houseErrorsRow, standIns := [], harness := (true, "6c3556467d7b87eb9e45ee87f6605414251cb1ee8ff9d354b4da3fae740bd5a3"), looks := false }, kinds := [], alts := [], laidByText := true, laidKinds := [.data], laidTests := true, laidLooks := .later }
def HouseErrorsCardSaid : Prop := Claim7.holds Tryz.pinned (.plain (OpenSpec.ofChange houseErrorsSpec)) houseErrorsCard

/-- THE TIED CARD OF 'almshouselaw21.HouseBlank'. -/
def houseBlankCard : Claim7 := { stood := { row := houseBlankRow, standIns := [], harness := (true, "6c3556467d7b87eb9e45ee87f6605414251cb1ee8ff9d354b4da3fae740bd5a3"), looks := false }, kinds := [], alts := [], laidByText := true, laidKinds := [.data], laidTests := true, laidLooks := .later }
def HouseBlankCardSaid : Prop := Claim7.holds Tryz.pinned (.plain (OpenSpec.ofChange houseBlankSpec)) houseBlankCard

/-- THE TIED CARD OF 'almshouselaw21.HouseMounts'. -/
def houseMountsCard : Claim7 := { stood := { row := houseMountsRow, standIns := [], harness := (true, "6c3556467d7b87eb9e45ee87f6605414251cb1ee8ff9d354b4da3fae740bd5a3"), looks := false }, kinds := [], alts := [], laidByText := true, laidKinds := [.data], laidTests := true, laidLooks := .later }
def HouseMountsCardSaid : Prop := Claim7.holds Tryz.pinned (.plain (OpenSpec.ofChange houseMountsSpec)) houseMountsCard

/-- THE TIED CARD OF 'almshouselaw21.HouseNone'. -/
def houseNoneCard : Claim7 := { stood := { row := houseNoneRow, standIns := [], harness := (true, "6c3556467d7b87eb9e45ee87f6605414251cb1ee8ff9d354b4da3fae740bd5a3"), looks := false }, kinds := [], alts := [], laidByText := true, laidKinds := [.data], laidTests := true, laidLooks := .later }
def HouseNoneCardSaid : Prop := Claim7.holds Tryz.pinned (.plain (OpenSpec.ofChange houseNoneSpec)) houseNoneCard

/-- THE SECOND FORM's CARD OF 'almshouselaw21.HouseErrors'. -/
def houseErrorsUptoCard : Claim7 := { stood := { row := houseErrorsUptoRow, standIns := [], harness := (true, "6c3556467d7b87eb9e45ee87f6605414251cb1ee8ff9d354b4da3fae740bd5a3"), looks := false }, kinds := [], alts := [], laidByText := true, laidKinds := [.data], laidTests := true, laidLooks := .later }
def HouseErrorsUptoCardSaid : Prop := Claim7.holds Tryz.pinned (.plain (OpenSpec.upto houseErrorsSpec)) houseErrorsUptoCard

/-- THE SECOND FORM's CARD OF 'almshouselaw21.HouseBlank'. -/
def houseBlankUptoCard : Claim7 := { stood := { row := houseBlankUptoRow, standIns := [], harness := (true, "6c3556467d7b87eb9e45ee87f6605414251cb1ee8ff9d354b4da3fae740bd5a3"), looks := false }, kinds := [], alts := [], laidByText := true, laidKinds := [.data], laidTests := true, laidLooks := .later }
def HouseBlankUptoCardSaid : Prop := Claim7.holds Tryz.pinned (.plain (OpenSpec.upto houseBlankSpec)) houseBlankUptoCard

/-- THE SECOND FORM's CARD OF 'almshouselaw21.HouseMounts'. -/
def houseMountsUptoCard : Claim7 := { stood := { row := houseMountsUptoRow, standIns := [], harness := (true, "6c3556467d7b87eb9e45ee87f6605414251cb1ee8ff9d354b4da3fae740bd5a3"), looks := false }, kinds := [], alts := [], laidByText := true, laidKinds := [.data], laidTests := true, laidLooks := .later }
def HouseMountsUptoCardSaid : Prop := Claim7.holds Tryz.pinned (.plain (OpenSpec.upto houseMountsSpec)) houseMountsUptoCard

/-- THE SECOND FORM's CARD OF 'almshouselaw21.HouseNone'. -/
def houseNoneUptoCard : Claim7 := { stood := { row := houseNoneUptoRow, standIns := [], harness := (true, "6c3556467d7b87eb9e45ee87f6605414251cb1ee8ff9d354b4da3fae740bd5a3"), looks := false }, kinds := [], alts := [], laidByText := true, laidKinds := [.data], laidTests := true, laidLooks := .later }
def HouseNoneUptoCardSaid : Prop := Claim7.holds Tryz.pinned (.plain (OpenSpec.upto houseNoneSpec)) houseNoneUptoCard
end Rows
end Go.Proofs.YtfgifgglcafadaaGreatDoor
