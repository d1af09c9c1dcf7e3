/-
  DERIVED. GIVEN WITH THE SEED: THE CARDS: each row of YtfibpgfjlmlpaaaGreatDoorRows.lean that lists a variable, with what it lists TIED to the program's text (the seventh form; the later family's looks); each row that meets fmt, with fmt's text TOLD by the authors' own Lean function (tested against real Go, not proved from fmt's source: count such statements apart). THE CARD IS WHAT COUNTS. Prove the row's statement (the work); the ties are given (YtfibpgfjlmlpaaaGreatDoorTie.lean); close each card by the builder's one call (the guide's Derived/Test/ToyasCard.lean, 'card_holds'). Laid BY PROGRAM, IN A SANDBOX (cutbox-door.mjs). By AI agents, Wed Nov 11 2026. No macro, syntax, notation, axiom, sorry.
-/
import Derived.Test.YtfibpgfjlmlpaaaGreatDoorRows
import GoSem.ClaimSeven
namespace Go.Proofs.YtfibpgfjlmlpaaaGreatDoor
namespace Rows

/-- THE TIED CARD OF 'almshouselaw18.StoreReads'. -/
def storeReadsCard : Claim7 := { stood := { row := storeReadsRow, standIns := [], harness := (true, "e5f8020e8a87331f9b5b079c7afe7f72dc93d11d8cd26634bf38444b24c27bb9"), looks := false }, kinds := [], alts := [], laidByText := true, laidKinds := [.data], laidTests := true, laidLooks := .later }
def StoreReadsCardSaid : Prop := Claim7.holds Tryz.pinned (.plain (OpenSpec.ofChange storeReadsSpec)) storeReadsCard

/-- THE TIED CARD OF 'almshouselaw18.StoreBound'. -/
def storeBoundCard : Claim7 := { stood := { row := storeBoundRow, standIns := [], harness := (true, "e5f8020e8a87331f9b5b079c7afe7f72dc93d11d8cd26634bf38444b24c27bb9"), looks := false }, kinds := [], alts := [], laidByText := true, laidKinds := [.data], laidTests := true, laidLooks := .later }
def StoreBoundCardSaid : Prop := Claim7.holds Tryz.pinned (.plain (OpenSpec.ofChange storeBoundSpec)) storeBoundCard

/-- THE TIED CARD OF 'almshouselaw18.StoreRoom'. -/
def storeRoomCard : Claim7 := { stood := { row := storeRoomRow, standIns := [], harness := (true, "e5f8020e8a87331f9b5b079c7afe7f72dc93d11d8cd26634bf38444b24c27bb9"), looks := false }, kinds := [], alts := [], laidByText := true, laidKinds := [.data], laidTests := true, laidLooks := .later }
def StoreRoomCardSaid : Prop := Claim7.holds Tryz.pinned (.plain (OpenSpec.ofChange storeRoomSpec)) storeRoomCard

/-- THE TIED CARD OF 'almshouselaw18.StoreFull'. -/
def storeFullCard : Claim7 := { stood := { row := storeFullRow, standIns := [], harness := (true, "e5f8020e8a87331f9b5b079c7afe7f72dc93d11d8cd26634bf38444b24c27bb9"), looks := false }, kinds := [], alts := [], laidByText := true, laidKinds := [.data], laidTests := true, laidLooks := .later }
def StoreFullCardSaid : Prop := Claim7.holds Tryz.pinned (.plain (OpenSpec.ofChange storeFullSpec)) storeFullCard

/-- THE TIED CARD OF 'almshouselaw19.MountPrefix'. -/
def mountPrefixCard : Claim7 := { stood := { row := mountPrefixRow, standIns := [], harness := (true, "e5f8020e8a87331f9b5b079c7afe7f72dc93d11d8cd26634bf38444b24c27bb9"), looks := false }, kinds := [], alts := [], laidByText := true, laidKinds := [.data], laidTests := true, laidLooks := .later }
def MountPrefixCardSaid : Prop := Claim7.holds Tryz.pinned (.plain (OpenSpec.ofChange mountPrefixSpec)) mountPrefixCard

/-- THE TIED CARD OF 'almshouselaw19.MountAgain'. -/
def mountAgainCard : Claim7 := { stood := { row := mountAgainRow, standIns := [], harness := (true, "e5f8020e8a87331f9b5b079c7afe7f72dc93d11d8cd26634bf38444b24c27bb9"), looks := false }, kinds := [], alts := [], laidByText := true, laidKinds := [.data], laidTests := true, laidLooks := .later }
def MountAgainCardSaid : Prop := Claim7.holds Tryz.pinned (.plain (OpenSpec.ofChange mountAgainSpec)) mountAgainCard

/-- THE TIED CARD OF 'almshouselaw19.MountOthers'. -/
def mountOthersCard : Claim7 := { stood := { row := mountOthersRow, standIns := [], harness := (true, "e5f8020e8a87331f9b5b079c7afe7f72dc93d11d8cd26634bf38444b24c27bb9"), looks := false }, kinds := [], alts := [], laidByText := true, laidKinds := [.data], laidTests := true, laidLooks := .later }
def MountOthersCardSaid : Prop := Claim7.holds Tryz.pinned (.plain (OpenSpec.ofChange mountOthersSpec)) mountOthersCard

/-- THE SECOND FORM's CARD OF 'almshouselaw18.StoreReads'. -/
def storeReadsUptoCard : Claim7 := { stood := { row := storeReadsUptoRow, standIns := [], harness := (true, "e5f8020e8a87331f9b5b079c7afe7f72dc93d11d8cd26634bf38444b24c27bb9"), looks := false }, kinds := [], alts := [], laidByText := true, laidKinds := [.data], laidTests := true, laidLooks := .later }
def StoreReadsUptoCardSaid : Prop := Claim7.holds Tryz.pinned (.plain (OpenSpec.upto storeReadsSpec)) storeReadsUptoCard

/-- THE SECOND FORM's CARD OF 'almshouselaw18.StoreBound'. -/
def storeBoundUptoCard : Claim7 := { stood := { row := storeBoundUptoRow, standIns := [], harness := (true, "e5f8020e8a87331f9b5b079c7afe7f72dc93d11d8cd26634bf38444b24c27bb9"), looks := false }, kinds := [], alts := [], laidByText := true, laidKinds := [.data], laidTests := true, laidLooks := .later }
def StoreBoundUptoCardSaid : Prop := Claim7.holds Tryz.pinned (.plain (OpenSpec.upto storeBoundSpec)) storeBoundUptoCard

/-- THE SECOND FORM's CARD OF 'almshouselaw18.StoreRoom'. -/
def storeRoomUptoCard : Claim7 := { stood := { row := storeRoomUptoRow, standIns := [], harness := (true, "e5f8020e8a87331f9b5b079c7afe7f72dc93d11d8cd26634bf38444b24c27bb9"), looks := false }, kinds := [], alts := [], laidByText := true, laidKinds := [.data], laidTests := true, laidLooks := .later }
def StoreRoomUptoCardSaid : Prop := Claim7.holds Tryz.pinned (.plain (OpenSpec.upto storeRoomSpec)) storeRoomUptoCard

/-- THE SECOND FORM's CARD OF 'almshouselaw18.StoreFull'. -/
def storeFullUptoCard : Claim7 := { stood := { row := storeFullUptoRow, standIns := [], harness := (true, "e5f8020e8a87331f9b5b079c7afe7f72dc93d11d8cd26634bf38444b24c27bb9"), looks := false }, kinds := [], alts := [], laidByText := true, laidKinds := [.data], laidTests := true, laidLooks := .later }
def StoreFullUptoCardSaid : Prop := Claim7.holds Tryz.pinned (.plain (OpenSpec.upto storeFullSpec)) storeFullUptoCard

/-- THE SECOND FORM's CARD OF 'almshouselaw19.MountPrefix'. -/
def mountPrefixUptoCard : Claim7 := { stood := { row := mountPrefixUptoRow, standIns := [], harness := (true, "e5f8020e8a87331f9b5b079c7afe7f72dc93d11d8cd26634bf38444b24c27bb9"), looks := false }, kinds := [], alts := [], laidByText := true, laidKinds := [.data], laidTests := true, laidLooks := .later }
def MountPrefixUptoCardSaid : Prop := Claim7.holds Tryz.pinned (.plain (OpenSpec.upto mountPrefixSpec)) mountPrefixUptoCard

/-- THE SECOND FORM's CARD OF 'almshouselaw19.MountAgain'. -/
def mountAgainUptoCard : Claim7 := { stood := { row := mountAgainUptoRow, standIns := [], harness := (true, "e5f8020e8a87331f9b5b079c7afe7f72dc93d11d8cd26634bf38444b24c27bb9"), looks := false }, kinds := [], alts := [], laidByText := true, laidKinds := [.data], laidTests := true, laidLooks := .later }
def MountAgainUptoCardSaid : Prop := Claim7.holds Tryz.pinned (.plain (OpenSpec.upto mountAgainSpec)) mountAgainUptoCard

/-- THE SECOND FORM's CARD OF 'almshouselaw19.MountOthers'. -/
def mountOthersUptoCard : Claim7 := { stood := { row := mountOthersUptoRow, standIns := [], harness := (true, "e5f8020e8a87331f9b5b079c7afe7f72dc93d11d8cd26634bf38444b24c27bb9"), looks := false }, kinds := [], alts := [], laidByText := true, laidKinds := [.data], laidTests := true, laidLooks := .later }
def MountOthersUptoCardSaid : Prop := Claim7.holds Tryz.pinned (.plain (OpenSpec.upto mountOthersSpec)) mountOthersUptoCard
end Rows
end Go.Proofs.YtfibpgfjlmlpaaaGreatDoor
