/-
  DERIVED. GIVEN WITH THE SEED: THE CARDS: each row of YtjlecncamfdcfaaDoorRows.lean that lists a variable, with what it lists TIED to the program's text (the seventh form; the later family's looks); each row that meets fmt, with fmt's text TOLD by the authors' own Lean function (tested against real Go, not proved from fmt's source: count such statements apart). THE CARD IS WHAT COUNTS. Prove the row's statement (the work); the ties are given (YtjlecncamfdcfaaDoorTie.lean); close each card by the builder's one call (the guide's Derived/Test/ToyasCard.lean, 'card_holds'). Laid BY PROGRAM, IN A SANDBOX (cutbox-door.mjs). By AI agents, Wed Nov 11 2026. No macro, syntax, notation, axiom, sorry.
-/
import Derived.Test.YtjlecncamfdcfaaDoorRows
import GoSem.ClaimSeven
namespace Go.Proofs.YtjlecncamfdcfaaDoor
namespace Rows

/-- THE TIED CARD OF 'almshouselaw08.TagBytes'. -/
def tagBytesCard : Claim7 := { stood := { row := tagBytesRow, standIns := [], harness := (true, "9e38f3035a277b140a5e984021d98e7b2c7b7e700b83b7ed9e7d074b1580dea5"), looks := false }, kinds := [], alts := [], laidByText := true, laidKinds := [.data], laidTests := true, laidLooks := .later }
def TagBytesCardSaid : Prop := Claim7.holds Tryd.pinned (.plain (OpenSpec.ofChange tagBytesSpec)) tagBytesCard

/-- THE TIED CARD OF 'almshouselaw08.TagParses'. -/
def tagParsesCard : Claim7 := { stood := { row := tagParsesRow, standIns := [], harness := (true, "9e38f3035a277b140a5e984021d98e7b2c7b7e700b83b7ed9e7d074b1580dea5"), looks := false }, kinds := [], alts := [], laidByText := true, laidKinds := [.data], laidTests := true, laidLooks := .later }
def TagParsesCardSaid : Prop := Claim7.holds Tryd.pinned (.plain (OpenSpec.ofChange tagParsesSpec)) tagParsesCard

/-- THE TIED CARD OF 'almshouselaw08.TagOrder'. -/
def tagOrderCard : Claim7 := { stood := { row := tagOrderRow, standIns := [], harness := (true, "9e38f3035a277b140a5e984021d98e7b2c7b7e700b83b7ed9e7d074b1580dea5"), looks := false }, kinds := [], alts := [], laidByText := true, laidKinds := [.data], laidTests := true, laidLooks := .later }
def TagOrderCardSaid : Prop := Claim7.holds Tryd.pinned (.plain (OpenSpec.ofChange tagOrderSpec)) tagOrderCard

/-- THE SECOND FORM's CARD OF 'almshouselaw08.TagBytes'. -/
def tagBytesUptoCard : Claim7 := { stood := { row := tagBytesUptoRow, standIns := [], harness := (true, "9e38f3035a277b140a5e984021d98e7b2c7b7e700b83b7ed9e7d074b1580dea5"), looks := false }, kinds := [], alts := [], laidByText := true, laidKinds := [.data], laidTests := true, laidLooks := .later }
def TagBytesUptoCardSaid : Prop := Claim7.holds Tryd.pinned (.plain (OpenSpec.upto tagBytesSpec)) tagBytesUptoCard

/-- THE SECOND FORM's CARD OF 'almshouselaw08.TagParses'. -/
def tagParsesUptoCard : Claim7 := { stood := { row := tagParsesUptoRow, standIns := [], harness := (true, "9e38f3035a277b140a5e984021d98e7b2c7b7e700b83b7ed9e7d074b1580dea5"), looks := false }, kinds := [], alts := [], laidByText := true, laidKinds := [.data], laidTests := true, laidLooks := .later }
def TagParsesUptoCardSaid : Prop := Claim7.holds Tryd.pinned (.plain (OpenSpec.upto tagParsesSpec)) tagParsesUptoCard

/-- THE SECOND FORM's CARD OF 'almshouselaw08.TagOrder'. -/
def tagOrderUptoCard : Claim7 := { stood := { row := tagOrderUptoRow, standIns := [], harness := (true, "9e38f3035a277b140a5e984021d98e7b2c7b7e700b83b7ed9e7d074b1580dea5"), looks := false }, kinds := [], alts := [], laidByText := true, laidKinds := [.data], laidTests := true, laidLooks := .later }
def TagOrderUptoCardSaid : Prop := Claim7.holds Tryd.pinned (.plain (OpenSpec.upto tagOrderSpec)) tagOrderUptoCard
end Rows
end Go.Proofs.YtjlecncamfdcfaaDoor
