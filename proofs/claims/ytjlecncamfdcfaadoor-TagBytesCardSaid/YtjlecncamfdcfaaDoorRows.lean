/-
  NARROWER THAN 'FOR EVERY INPUT', by the rows' own cells (each row's printed sentence says how): TagBytes: laid · TagParses: laid · TagOrder: laid.
  DERIVED. THE GIVEN ROWS OF THIS SEAT. 3 by the template 'for every input the law returns true; each argument reads behind the call as it read before'; 0 by the template 'total and deterministic' (their statements: YtjlecncamfdcfaaDoorTotals.lean).
  GIVEN WITH THE SEED: the statements are not yours to turn. If you find one false, say at which input.
  Laid BY PROGRAM, IN A SANDBOX (cutbox-rows.mjs): the forced cells as the released guide's own fill.sh prints them over the translation aba7b9b533bb3732… (all of the seat's roots in one cut). By AI agents, Wed Nov 11 2026. No macro, syntax, notation, axiom, sorry.
-/
import Derived.Test.YtjlecncamfdcfaaDoorChecked
import GoSem.Claim
import GoSem.ClaimJoined
import GoSem.ClaimMapViews
import Derived.JoinedTies
import Derived.KernelRfl
namespace Go.Proofs.YtjlecncamfdcfaaDoor
/- THE CELL 'sum', in the pinned program and in every row, IS THE sha256 OF THE DUMP (.gsa) THAT YtjlecncamfdcfaaDoorProg.lean LOADS. Nothing in Lean hashes anything: it is a label: what it is worth is what the hold of that sum in a sandbox is worth. -/
noncomputable def Tryd.pinned : Pinned := { name := "ytjlecncamfdcfaadoor", sum := "aba7b9b533bb3732aa71ad451807d5adf8331c2090e62b8da91fd152e6090ffe", checked := Tryd.checked }
namespace Rows
def none {H : Type} : Left H := { results := [], args := [] }

/- WHAT THE LISTED PACKAGE-LEVEL VARIABLES READ AS WHEN THE CALL BEGINS. Each datum BY PROGRAM (the guide's laid-datum.mjs) off the statement by which the dump's own 'gosem.cut.vars' lays the variable. In a bare row this is a premise. The card (YtjlecncamfdcfaaDoorCards.lean) ties it to the program's text. -/
def laid_almshouse_tag_fields {H : Type} : DataW H := .agg [.agg [.lit (.int .i64 1), .lit (.int .i64 0), .lit (.int .i64 3)], .agg [.lit (.int .i64 4), .lit (.int .i64 0), .lit (.int .i64 2147483647)], .agg [.lit (.int .i64 1), .lit (.int .i64 0), .lit (.int .i64 63)], .agg [.lit (.int .i64 4), .lit (.int .i64 0), .lit (.int .i64 2147483647)], .agg [.lit (.int .i64 1), .lit (.int .i64 1), .lit (.int .i64 2)]]

/-- 'almshouselaw08.TagBytes': WHATEVER THE INPUT: true; the input reads as it did. -/
def tagBytesSpec : ChangeSpec := { name := "tagBytes", fn := fun _ => fun
  | [d1, d2] => { results := [.lit (.bool true)], args := [d1, d2] }
  | _ => none }
def tagBytesRow : OpenClaim := { program := "ytjlecncamfdcfaadoor", sum := "aba7b9b533bb3732aa71ad451807d5adf8331c2090e62b8da91fd152e6090ffe", func := "almshouse/almshouselaw08.TagBytes", spec := "tagBytes", named := ["almshouse/tag.fields"], apart := false, laid := [("almshouse/tag.fields", laid_almshouse_tag_fields)] }
def TagBytesSaid : Prop := tagBytesRow.holds Tryd.pinned (OpenSpec.ofChange tagBytesSpec)

/-- ITS FALSE NEIGHBOUR: 'it returns false'. Refute it at one input. -/
def tagBytesWrong : ChangeSpec := { name := "tagBytes", fn := fun _ => fun
  | [d1, d2] => { results := [.lit (.bool false)], args := [d1, d2] }
  | _ => none }
def TagBytesWrongFalsely : Prop := tagBytesRow.holds Tryd.pinned (OpenSpec.ofChange tagBytesWrong)

/-- 'almshouselaw08.TagParses': WHATEVER THE INPUT: true; the input reads as it did. -/
def tagParsesSpec : ChangeSpec := { name := "tagParses", fn := fun _ => fun
  | [d1, d2, d3] => { results := [.lit (.bool true)], args := [d1, d2, d3] }
  | _ => none }
def tagParsesRow : OpenClaim := { program := "ytjlecncamfdcfaadoor", sum := "aba7b9b533bb3732aa71ad451807d5adf8331c2090e62b8da91fd152e6090ffe", func := "almshouse/almshouselaw08.TagParses", spec := "tagParses", named := ["almshouse/tag.fields"], apart := false, laid := [("almshouse/tag.fields", laid_almshouse_tag_fields)] }
def TagParsesSaid : Prop := tagParsesRow.holds Tryd.pinned (OpenSpec.ofChange tagParsesSpec)

/-- ITS FALSE NEIGHBOUR: 'it returns false'. Refute it at one input. -/
def tagParsesWrong : ChangeSpec := { name := "tagParses", fn := fun _ => fun
  | [d1, d2, d3] => { results := [.lit (.bool false)], args := [d1, d2, d3] }
  | _ => none }
def TagParsesWrongFalsely : Prop := tagParsesRow.holds Tryd.pinned (OpenSpec.ofChange tagParsesWrong)

/-- 'almshouselaw08.TagOrder': WHATEVER THE INPUT: true; the input reads as it did. -/
def tagOrderSpec : ChangeSpec := { name := "tagOrder", fn := fun _ => fun
  | [d1, d2, d3] => { results := [.lit (.bool true)], args := [d1, d2, d3] }
  | _ => none }
def tagOrderRow : OpenClaim := { program := "ytjlecncamfdcfaadoor", sum := "aba7b9b533bb3732aa71ad451807d5adf8331c2090e62b8da91fd152e6090ffe", func := "almshouse/almshouselaw08.TagOrder", spec := "tagOrder", named := ["almshouse/tag.fields"], apart := false, laid := [("almshouse/tag.fields", laid_almshouse_tag_fields)] }
def TagOrderSaid : Prop := tagOrderRow.holds Tryd.pinned (OpenSpec.ofChange tagOrderSpec)

/-- ITS FALSE NEIGHBOUR: 'it returns false'. Refute it at one input. -/
def tagOrderWrong : ChangeSpec := { name := "tagOrder", fn := fun _ => fun
  | [d1, d2, d3] => { results := [.lit (.bool false)], args := [d1, d2, d3] }
  | _ => none }
def TagOrderWrongFalsely : Prop := tagOrderRow.holds Tryd.pinned (OpenSpec.ofChange tagOrderWrong)

/- THE SECOND FORM. 'bulk': how many values and letters a reading holds, each counted each time it is reached (what is shared counts as often as it is met; a slice's spare places count too). A statement '..UptoSaid' is the law's where the arguments, and the package variables that the reading takes, are together of bulk at most 1048576: NARROWER than '..Said'. Prove '..Said' where nothing that the law and all that it calls make is longer than what came in: it says more and counts as full. Else prove '..UptoSaid'. A law counts once. -/
mutual
def uptoBulk {H : Type} : DataW H → Nat
  | .lit (.string bytes) => bytes.length + 1
  | .lit _ => 1
  | .nil => 1
  | .ptr d => uptoBulk d + 1
  | .slice elems spare => uptoBulkAll elems + uptoBulkAll spare + 1
  | .agg parts => uptoBulkAll parts + 1
  | .iface _ d => uptoBulk d + 1
  | .map entries => uptoBulkEntries entries + 1
  | .held _ => 1
def uptoBulkAll {H : Type} : List (DataW H) → Nat
  | [] => 0
  | d :: r => uptoBulk d + uptoBulkAll r
def uptoBulkEntries {H : Type} : List (Lit × DataW H) → Nat
  | [] => 0
  | x :: r => uptoBulkEntry x + uptoBulkEntries r
def uptoBulkEntry {H : Type} : Lit × DataW H → Nat
  | (.string bytes, d) => bytes.length + uptoBulk d + 1
  | (_, d) => uptoBulk d + 1
 end
def uptoSmall : (H : Type) → List (DataW H) → Bool := fun _ ds => decide (uptoBulkAll ds ≤ 1048576)
def OpenSpec.upto (s : _root_.Go.ChangeSpec) : _root_.Go.OpenSpec := { _root_.Go.OpenSpec.ofChange s with cond := some uptoSmall }

/-- 'almshouselaw08.TagBytes', WHERE WHAT IT READS IS OF BULK AT MOST 1048576: true; the input reads as it did. -/
def tagBytesUptoRow : OpenClaim := { program := "ytjlecncamfdcfaadoor", sum := "aba7b9b533bb3732aa71ad451807d5adf8331c2090e62b8da91fd152e6090ffe", func := "almshouse/almshouselaw08.TagBytes", spec := "tagBytes", named := ["almshouse/tag.fields"], apart := false, laid := [("almshouse/tag.fields", laid_almshouse_tag_fields)], narrowed := true }
def TagBytesUptoSaid : Prop := tagBytesUptoRow.holds Tryd.pinned (OpenSpec.upto tagBytesSpec)

/-- 'almshouselaw08.TagParses', WHERE WHAT IT READS IS OF BULK AT MOST 1048576: true; the input reads as it did. -/
def tagParsesUptoRow : OpenClaim := { program := "ytjlecncamfdcfaadoor", sum := "aba7b9b533bb3732aa71ad451807d5adf8331c2090e62b8da91fd152e6090ffe", func := "almshouse/almshouselaw08.TagParses", spec := "tagParses", named := ["almshouse/tag.fields"], apart := false, laid := [("almshouse/tag.fields", laid_almshouse_tag_fields)], narrowed := true }
def TagParsesUptoSaid : Prop := tagParsesUptoRow.holds Tryd.pinned (OpenSpec.upto tagParsesSpec)

/-- 'almshouselaw08.TagOrder', WHERE WHAT IT READS IS OF BULK AT MOST 1048576: true; the input reads as it did. -/
def tagOrderUptoRow : OpenClaim := { program := "ytjlecncamfdcfaadoor", sum := "aba7b9b533bb3732aa71ad451807d5adf8331c2090e62b8da91fd152e6090ffe", func := "almshouse/almshouselaw08.TagOrder", spec := "tagOrder", named := ["almshouse/tag.fields"], apart := false, laid := [("almshouse/tag.fields", laid_almshouse_tag_fields)], narrowed := true }
def TagOrderUptoSaid : Prop := tagOrderUptoRow.holds Tryd.pinned (OpenSpec.upto tagOrderSpec)

end Rows
end Go.Proofs.YtjlecncamfdcfaaDoor
