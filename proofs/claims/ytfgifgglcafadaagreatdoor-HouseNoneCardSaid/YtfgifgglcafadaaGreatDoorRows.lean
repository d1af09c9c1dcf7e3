/-
  NARROWER THAN 'FOR EVERY INPUT', by the rows' own cells (each row's printed sentence says how): HouseErrors: laid · HouseBlank: laid · HouseMounts: laid · HouseNone: laid.
  DERIVED. THE GIVEN ROWS OF THIS SEAT. 4 by the template 'for every input the law returns true; each argument reads behind the call as it read before'; 0 by the template 'total and deterministic' (their statements: YtfgifgglcafadaaGreatDoorTotals.lean).
  GIVEN WITH THE SEED: the statements are not yours to turn. If you find one false, say at which input.
  Laid BY PROGRAM, IN A SANDBOX (cutbox-rows.mjs): the forced cells as the released guide's own fill.sh prints them over the translation 376b7b8f6dd828c4… (all of the seat's roots in one cut). By AI agents, Wed Nov 11 2026. No macro, syntax, notation, axiom, sorry.
-/
import Derived.Test.YtfgifgglcafadaaGreatDoorChecked
import GoSem.Claim
import GoSem.ClaimJoined
import GoSem.ClaimMapViews
import Derived.JoinedTies
import Derived.KernelRfl
namespace Go.Proofs.YtfgifgglcafadaaGreatDoor
/- THE CELL 'sum', in the pinned program and in every row, IS THE sha256 OF THE DUMP (.gsa) THAT YtfgifgglcafadaaGreatDoorProg.lean LOADS. Nothing in Lean hashes anything: it is a label: what it is worth is what the hold of that sum in a sandbox is worth. -/
noncomputable def Tryz.pinned : Pinned := { name := "ytfgifgglcafadaagreatdoor", sum := "376b7b8f6dd828c4d622987755e58b7e66f60a1ffcb315a4bb27901c5c9f707f", checked := Tryz.checked }
namespace Rows
def none {H : Type} : Left H := { results := [], args := [] }

/- WHAT THE LISTED PACKAGE-LEVEL VARIABLES READ AS WHEN THE CALL BEGINS. Each datum BY PROGRAM (the guide's laid-datum.mjs) off the statement by which the dump's own 'gosem.cut.vars' lays the variable. In a bare row this is a premise. The card (YtfgifgglcafadaaGreatDoorCards.lean) ties it to the program's text. -/
def laid_almshouse_tag_fields {H : Type} : DataW H := .agg [.agg [.lit (.int .i64 1), .lit (.int .i64 0), .lit (.int .i64 3)], .agg [.lit (.int .i64 4), .lit (.int .i64 0), .lit (.int .i64 2147483647)], .agg [.lit (.int .i64 1), .lit (.int .i64 0), .lit (.int .i64 63)], .agg [.lit (.int .i64 4), .lit (.int .i64 0), .lit (.int .i64 2147483647)], .agg [.lit (.int .i64 1), .lit (.int .i64 1), .lit (.int .i64 2)]]

/-- 'almshouselaw21.HouseErrors': WHATEVER THE INPUT: true; the input reads as it did. -/
def houseErrorsSpec : ChangeSpec := { name := "houseErrors", fn := fun _ => fun
  | [d1, d2, d3] => { results := [.lit (.bool true)], args := [d1, d2, d3] }
  | _ => none }
def houseErrorsRow : OpenClaim := { program := "ytfgifgglcafadaagreatdoor", sum := "376b7b8f6dd828c4d622987755e58b7e66f60a1ffcb315a4bb27901c5c9f707f", func := "almshouse/almshouselaw21.HouseErrors", spec := "houseErrors", inPlace := ["sync/atomic.StoreInt64", "sync/atomic.StoreUint32", "sync/atomic.LoadUint32", "sync/atomic.AddInt64", "sync/atomic.LoadInt64"], unfollowed := true, recurses := true, named := ["almshouse/tag.fields"], apart := false, laid := [("almshouse/tag.fields", laid_almshouse_tag_fields)] }
def HouseErrorsSaid : Prop := houseErrorsRow.holds Tryz.pinned (OpenSpec.ofChange houseErrorsSpec)

/-- ITS FALSE NEIGHBOUR: 'it returns false'. Refute it at one input. -/
def houseErrorsWrong : ChangeSpec := { name := "houseErrors", fn := fun _ => fun
  | [d1, d2, d3] => { results := [.lit (.bool false)], args := [d1, d2, d3] }
  | _ => none }
def HouseErrorsWrongFalsely : Prop := houseErrorsRow.holds Tryz.pinned (OpenSpec.ofChange houseErrorsWrong)

/-- 'almshouselaw21.HouseBlank': WHATEVER THE INPUT: true; the input reads as it did. -/
def houseBlankSpec : ChangeSpec := { name := "houseBlank", fn := fun _ => fun
  | [d1, d2] => { results := [.lit (.bool true)], args := [d1, d2] }
  | _ => none }
def houseBlankRow : OpenClaim := { program := "ytfgifgglcafadaagreatdoor", sum := "376b7b8f6dd828c4d622987755e58b7e66f60a1ffcb315a4bb27901c5c9f707f", func := "almshouse/almshouselaw21.HouseBlank", spec := "houseBlank", inPlace := ["sync/atomic.StoreInt64", "sync/atomic.StoreUint32", "sync/atomic.LoadUint32", "sync/atomic.AddInt64", "sync/atomic.LoadInt64"], unfollowed := true, recurses := true, named := ["almshouse/tag.fields"], apart := false, laid := [("almshouse/tag.fields", laid_almshouse_tag_fields)] }
def HouseBlankSaid : Prop := houseBlankRow.holds Tryz.pinned (OpenSpec.ofChange houseBlankSpec)

/-- ITS FALSE NEIGHBOUR: 'it returns false'. Refute it at one input. -/
def houseBlankWrong : ChangeSpec := { name := "houseBlank", fn := fun _ => fun
  | [d1, d2] => { results := [.lit (.bool false)], args := [d1, d2] }
  | _ => none }
def HouseBlankWrongFalsely : Prop := houseBlankRow.holds Tryz.pinned (OpenSpec.ofChange houseBlankWrong)

/-- 'almshouselaw21.HouseMounts': WHATEVER THE INPUT: true; the input reads as it did. -/
def houseMountsSpec : ChangeSpec := { name := "houseMounts", fn := fun _ => fun
  | [d1, d2, d3] => { results := [.lit (.bool true)], args := [d1, d2, d3] }
  | _ => none }
def houseMountsRow : OpenClaim := { program := "ytfgifgglcafadaagreatdoor", sum := "376b7b8f6dd828c4d622987755e58b7e66f60a1ffcb315a4bb27901c5c9f707f", func := "almshouse/almshouselaw21.HouseMounts", spec := "houseMounts", inPlace := ["sync/atomic.StoreInt64", "sync/atomic.StoreUint32", "sync/atomic.LoadUint32", "sync/atomic.AddInt64", "sync/atomic.LoadInt64"], unfollowed := true, recurses := true, named := ["almshouse/tag.fields"], apart := false, laid := [("almshouse/tag.fields", laid_almshouse_tag_fields)] }
def HouseMountsSaid : Prop := houseMountsRow.holds Tryz.pinned (OpenSpec.ofChange houseMountsSpec)

/-- ITS FALSE NEIGHBOUR: 'it returns false'. Refute it at one input. -/
def houseMountsWrong : ChangeSpec := { name := "houseMounts", fn := fun _ => fun
  | [d1, d2, d3] => { results := [.lit (.bool false)], args := [d1, d2, d3] }
  | _ => none }
def HouseMountsWrongFalsely : Prop := houseMountsRow.holds Tryz.pinned (OpenSpec.ofChange houseMountsWrong)

/-- 'almshouselaw21.HouseNone': WHATEVER THE INPUT: true; the input reads as it did. -/
def houseNoneSpec : ChangeSpec := { name := "houseNone", fn := fun _ => fun
  | [d] => { results := [.lit (.bool true)], args := [d] }
  | _ => none }
def houseNoneRow : OpenClaim := { program := "ytfgifgglcafadaagreatdoor", sum := "376b7b8f6dd828c4d622987755e58b7e66f60a1ffcb315a4bb27901c5c9f707f", func := "almshouse/almshouselaw21.HouseNone", spec := "houseNone", inPlace := ["sync/atomic.StoreInt64", "sync/atomic.StoreUint32", "sync/atomic.LoadUint32", "sync/atomic.AddInt64", "sync/atomic.LoadInt64"], unfollowed := true, recurses := true, named := ["almshouse/tag.fields"], apart := false, laid := [("almshouse/tag.fields", laid_almshouse_tag_fields)] }
def HouseNoneSaid : Prop := houseNoneRow.holds Tryz.pinned (OpenSpec.ofChange houseNoneSpec)

/-- ITS FALSE NEIGHBOUR: 'it returns false'. Refute it at one input. -/
def houseNoneWrong : ChangeSpec := { name := "houseNone", fn := fun _ => fun
  | [d] => { results := [.lit (.bool false)], args := [d] }
  | _ => none }
def HouseNoneWrongFalsely : Prop := houseNoneRow.holds Tryz.pinned (OpenSpec.ofChange houseNoneWrong)

/- THE SECOND FORM. 'bulk': how many values and letters a reading holds, each counted each time it is reached (what is shared counts as often as it is met; a slice's spare places count too). A statement '..UptoSaid' is the law's where the arguments, and the package variables that the reading takes, are together of bulk at most 1048576: NARROWER than '..Said'. Prove '..Said' where nothing that the law and all that it calls make is longer than what came in: it says more and counts as full. Else prove '..UptoSaid'. A law counts once. -/
mutual
def uptoBulk {H : Type} : DataW H → Nat
  | .lit (.string bytes) => bytes.length + 1
  | .lit _ => 1
  | .nil => 1
  | .ptr d => uptoBulk d + 1
  | .slice elems spare => uptoBulkAll elems + uptoBulkAll spare + 1
  | .agg parts => uptoBulkAll parts + 1
  | .iface _ d => uptoBulk d + 1
  | .map entries => uptoBulkEntries entries + 1
  | .held _ => 1
def uptoBulkAll {H : Type} : List (DataW H) → Nat
  | [] => 0
  | d :: r => uptoBulk d + uptoBulkAll r
def uptoBulkEntries {H : Type} : List (Lit × DataW H) → Nat
  | [] => 0
  | x :: r => uptoBulkEntry x + uptoBulkEntries r
def uptoBulkEntry {H : Type} : Lit × DataW H → Nat
  | (.string bytes, d) => bytes.length + uptoBulk d + 1
  | (_, d) => uptoBulk d + 1
 end
def uptoSmall : (H : Type) → List (DataW H) → Bool := fun _ ds => decide (uptoBulkAll ds ≤ 1048576)
def OpenSpec.upto (s : _root_.Go.ChangeSpec) : _root_.Go.OpenSpec := { _root_.Go.OpenSpec.ofChange s with cond := some uptoSmall }

/-- 'almshouselaw21.HouseErrors', WHERE WHAT IT READS IS OF BULK AT MOST 1048576: true; the input reads as it did. -/
def houseErrorsUptoRow : OpenClaim := { program := "ytfgifgglcafadaagreatdoor", sum := "376b7b8f6dd828c4d622987755e58b7e66f60a1ffcb315a4bb27901c5c9f707f", func := "almshouse/almshouselaw21.HouseErrors", spec := "houseErrors", inPlace := ["sync/atomic.StoreInt64", "sync/atomic.StoreUint32", "sync/atomic.LoadUint32", "sync/atomic.AddInt64", "sync/atomic.LoadInt64"], unfollowed := true, recurses := true, named := ["almshouse/tag.fields"], apart := false, laid := [("almshouse/tag.fields", laid_almshouse_tag_fields)], narrowed := true }
def HouseErrorsUptoSaid : Prop := houseErrorsUptoRow.holds Tryz.pinned (OpenSpec.upto houseErrorsSpec)

/-- 'almshouselaw21.HouseBlank', WHERE WHAT IT READS IS OF BULK AT MOST 1048576: true; the input reads as it did. -/
def houseBlankUptoRow : OpenClaim := { program := "ytfgifgglcafadaagreatdoor", sum := "376b7b8f6dd828c4d622987755e58b7e66f60a1ffcb315a4bb27901c5c9f707f", func := "almshouse/almshouselaw21.HouseBlank", spec := "houseBlank", inPlace := ["sync/atomic.StoreInt64", "sync/atomic.StoreUint32", "sync/atomic.LoadUint32", "sync/atomic.AddInt64", "sync/atomic.LoadInt64"], unfollowed := true, recurses := true, named := ["almshouse/tag.fields"], apart := false, laid := [("almshouse/tag.fields", laid_almshouse_tag_fields)], narrowed := true }
def HouseBlankUptoSaid : Prop := houseBlankUptoRow.holds Tryz.pinned (OpenSpec.upto houseBlankSpec)

/-- 'almshouselaw21.HouseMounts', WHERE WHAT IT READS IS OF BULK AT MOST 1048576: true; the input reads as it did. -/
def houseMountsUptoRow : OpenClaim := { program := "ytfgifgglcafadaagreatdoor", sum := "376b7b8f6dd828c4d622987755e58b7e66f60a1ffcb315a4bb27901c5c9f707f", func := "almshouse/almshouselaw21.HouseMounts", spec := "houseMounts", inPlace := ["sync/atomic.StoreInt64", "sync/atomic.StoreUint32", "sync/atomic.LoadUint32", "sync/atomic.AddInt64", "sync/atomic.LoadInt64"], unfollowed := true, recurses := true, named := ["almshouse/tag.fields"], apart := false, laid := [("almshouse/tag.fields", laid_almshouse_tag_fields)], narrowed := true }
def HouseMountsUptoSaid : Prop := houseMountsUptoRow.holds Tryz.pinned (OpenSpec.upto houseMountsSpec)

/-- 'almshouselaw21.HouseNone', WHERE WHAT IT READS IS OF BULK AT MOST 1048576: true; the input reads as it did. -/
def houseNoneUptoRow : OpenClaim := { program := "ytfgifgglcafadaagreatdoor", sum := "376b7b8f6dd828c4d622987755e58b7e66f60a1ffcb315a4bb27901c5c9f707f", func := "almshouse/almshouselaw21.HouseNone", spec := "houseNone", inPlace := ["sync/atomic.StoreInt64", "sync/atomic.StoreUint32", "sync/atomic.LoadUint32", "sync/atomic.AddInt64", "sync/atomic.LoadInt64"], unfollowed := true, recurses := true, named := ["almshouse/tag.fields"], apart := false, laid := [("almshouse/tag.fields", laid_almshouse_tag_fields)], narrowed := true }
def HouseNoneUptoSaid : Prop := houseNoneUptoRow.holds Tryz.pinned (OpenSpec.upto houseNoneSpec)

end Rows
end Go.Proofs.YtfgifgglcafadaaGreatDoor
