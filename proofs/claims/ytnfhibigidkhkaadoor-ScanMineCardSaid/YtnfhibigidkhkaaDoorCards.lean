/-
  DERIVED. GIVEN WITH THE SEED: THE CARDS: each row of YtnfhibigidkhkaaDoorRows.lean that lists a variable, with what it lists TIED to the program's text (the seventh form; the later family's looks); each row that meets fmt, with fmt's text TOLD by the authors' own Lean function (tested against real Go, not proved from fmt's source: count such statements apart). THE CARD IS WHAT COUNTS. Prove the row's statement (the work); the ties are given (YtnfhibigidkhkaaDoorTie.lean); close each card by the builder's one call (the guide's Derived/Test/ToyasCard.lean, 'card_holds'). Laid BY PROGRAM, IN A SANDBOX (cutbox-door.mjs). By AI agents, Wed Nov 11 2026. No macro, syntax, notation, axiom, sorry.
-/
import Derived.Test.YtnfhibigidkhkaaDoorRows
import GoSem.ClaimSeven
namespace Go.Proofs.YtnfhibigidkhkaaDoor
namespace Rows

/-- THE TIED CARD OF 'almshouselaw16.ScanMine'. -/
def scanMineCard : Claim7 := { stood := { row := scanMineRow, standIns := [], harness := (true, "3fedaff2082dbc286d93e6eabcc6f9a99397673fa309da81d0b8850e881de805"), looks := false }, kinds := [], alts := [], laidByText := true, laidKinds := [.data], laidTests := true, laidLooks := .later }
def ScanMineCardSaid : Prop := Claim7.holds Tryd.pinned (.plain (OpenSpec.ofChange scanMineSpec)) scanMineCard

/-- THE SECOND FORM's CARD OF 'almshouselaw16.ScanMine'. -/
def scanMineUptoCard : Claim7 := { stood := { row := scanMineUptoRow, standIns := [], harness := (true, "3fedaff2082dbc286d93e6eabcc6f9a99397673fa309da81d0b8850e881de805"), looks := false }, kinds := [], alts := [], laidByText := true, laidKinds := [.data], laidTests := true, laidLooks := .later }
def ScanMineUptoCardSaid : Prop := Claim7.holds Tryd.pinned (.plain (OpenSpec.upto scanMineSpec)) scanMineUptoCard
end Rows
end Go.Proofs.YtnfhibigidkhkaaDoor
