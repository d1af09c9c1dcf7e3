/-
  NARROWER THAN 'FOR EVERY INPUT', by the rows' own cells (each row's printed sentence says how): MountPrefix: laid · MountAgain: laid · MountOthers: laid.
  DERIVED. THE GIVEN ROWS OF THIS SEAT. 3 by the template 'for every input the law returns true; each argument reads behind the call as it read before'; 0 by the template 'total and deterministic' (their statements: YtdnpdoipipfkoaaGreatDoorTotals.lean).
  GIVEN WITH THE SEED: the statements are not yours to turn. If you find one false, say at which input.
  Laid BY PROGRAM, IN A SANDBOX (cutbox-rows.mjs): the forced cells as the released guide's own fill.sh prints them over the translation 4aa6762f148a08a5… (all of the seat's roots in one cut). By AI agents, Wed Nov 11 2026. No macro, syntax, notation, axiom, sorry.
-/
import Derived.Test.YtdnpdoipipfkoaaGreatDoorChecked
import GoSem.Claim
import GoSem.ClaimJoined
import GoSem.ClaimMapViews
import Derived.JoinedTies
import Derived.KernelRfl
namespace Go.Proofs.YtdnpdoipipfkoaaGreatDoor
/- THE CELL 'sum', in the pinned program and in every row, IS THE sha256 OF THE DUMP (.gsa) THAT YtdnpdoipipfkoaaGreatDoorProg.lean LOADS. Nothing in Lean hashes anything: it is a label: what it is worth is what the hold of that sum in a sandbox is worth. -/
noncomputable def Tryz.pinned : Pinned := { name := "ytdnpdoipipfkoaagreatdoor", sum := "4aa6762f148a08a5a1a9b5c05d20d2c5d99974b22deac08c294f056b64b28522", checked := Tryz.checked }
namespace Rows
def none {H : Type} : Left H := { results := [], args := [] }

/- WHAT THE LISTED PACKAGE-LEVEL VARIABLES READ AS WHEN THE CALL BEGINS. Each datum BY PROGRAM (the guide's laid-datum.mjs) off the statement by which the dump's own 'gosem.cut.vars' lays the variable. In a bare row this is a premise. The card (YtdnpdoipipfkoaaGreatDoorCards.lean) ties it to the program's text. -/
def laid_almshouse_tag_fields {H : Type} : DataW H := .agg [.agg [.lit (.int .i64 1), .lit (.int .i64 0), .lit (.int .i64 3)], .agg [.lit (.int .i64 4), .lit (.int .i64 0), .lit (.int .i64 2147483647)], .agg [.lit (.int .i64 1), .lit (.int .i64 0), .lit (.int .i64 63)], .agg [.lit (.int .i64 4), .lit (.int .i64 0), .lit (.int .i64 2147483647)], .agg [.lit (.int .i64 1), .lit (.int .i64 1), .lit (.int .i64 2)]]

/-- 'almshouselaw19.MountPrefix': WHATEVER THE INPUT: true; the input reads as it did. -/
def mountPrefixSpec : ChangeSpec := { name := "mountPrefix", fn := fun _ => fun
  | [d1, d2, d3, d4] => { results := [.lit (.bool true)], args := [d1, d2, d3, d4] }
  | _ => none }
def mountPrefixRow : OpenClaim := { program := "ytdnpdoipipfkoaagreatdoor", sum := "4aa6762f148a08a5a1a9b5c05d20d2c5d99974b22deac08c294f056b64b28522", func := "almshouse/almshouselaw19.MountPrefix", spec := "mountPrefix", inPlace := ["sync/atomic.StoreInt64", "sync/atomic.StoreUint32", "sync/atomic.LoadUint32", "sync/atomic.AddInt64", "sync/atomic.LoadInt64"], unfollowed := true, recurses := true, named := ["almshouse/tag.fields"], apart := false, laid := [("almshouse/tag.fields", laid_almshouse_tag_fields)] }
def MountPrefixSaid : Prop := mountPrefixRow.holds Tryz.pinned (OpenSpec.ofChange mountPrefixSpec)

/-- ITS FALSE NEIGHBOUR: 'it returns false'. Refute it at one input. -/
def mountPrefixWrong : ChangeSpec := { name := "mountPrefix", fn := fun _ => fun
  | [d1, d2, d3, d4] => { results := [.lit (.bool false)], args := [d1, d2, d3, d4] }
  | _ => none }
def MountPrefixWrongFalsely : Prop := mountPrefixRow.holds Tryz.pinned (OpenSpec.ofChange mountPrefixWrong)

/-- 'almshouselaw19.MountAgain': WHATEVER THE INPUT: true; the input reads as it did. -/
def mountAgainSpec : ChangeSpec := { name := "mountAgain", fn := fun _ => fun
  | [d1, d2, d3] => { results := [.lit (.bool true)], args := [d1, d2, d3] }
  | _ => none }
def mountAgainRow : OpenClaim := { program := "ytdnpdoipipfkoaagreatdoor", sum := "4aa6762f148a08a5a1a9b5c05d20d2c5d99974b22deac08c294f056b64b28522", func := "almshouse/almshouselaw19.MountAgain", spec := "mountAgain", inPlace := ["sync/atomic.StoreInt64", "sync/atomic.StoreUint32", "sync/atomic.LoadUint32", "sync/atomic.AddInt64", "sync/atomic.LoadInt64"], unfollowed := true, recurses := true, named := ["almshouse/tag.fields"], apart := false, laid := [("almshouse/tag.fields", laid_almshouse_tag_fields)] }
def MountAgainSaid : Prop := mountAgainRow.holds Tryz.pinned (OpenSpec.ofChange mountAgainSpec)

/-- ITS FALSE NEIGHBOUR: 'it returns false'. Refute it at one input. -/
def mountAgainWrong : ChangeSpec := { name := "mountAgain", fn := fun _ => fun
  | [d1, d2, d3] => { results := [.lit (.bool false)], args := [d1, d2, d3] }
  | _ => none }
def MountAgainWrongFalsely : Prop := mountAgainRow.holds Tryz.pinned (OpenSpec.ofChange mountAgainWrong)

/-- 'almshouselaw19.MountOthers': WHATEVER THE INPUT: true; the input reads as it did. -/
def mountOthersSpec : ChangeSpec := { name := "mountOthers", fn := fun _ => fun
  | [d1, d2, d3] => { results := [.lit (.bool true)], args := [d1, d2, d3] }
  | _ => none }
def mountOthersRow : OpenClaim := { program := "ytdnpdoipipfkoaagreatdoor", sum := "4aa6762f148a08a5a1a9b5c05d20d2c5d99974b22deac08c294f056b64b28522", func := "almshouse/almshouselaw19.MountOthers", spec := "mountOthers", inPlace := ["sync/atomic.StoreInt64", "sync/atomic.StoreUint32", "sync/atomic.LoadUint32", "sync/atomic.AddInt64", "sync/atomic.LoadInt64"], unfollowed := true, recurses := true, named := ["almshouse/tag.fields"], apart := false, laid := [("almshouse/tag.fields", laid_almshouse_tag_fields)] }
def MountOthersSaid : Prop := mountOthersRow.holds Tryz.pinned (OpenSpec.ofChange mountOthersSpec)

/-- ITS FALSE NEIGHBOUR: 'it returns false'. Refute it at one input. -/
def mountOthersWrong : ChangeSpec := { name := "mountOthers", fn := fun _ => fun
  | [d1, d2, d3] => { results := [.lit (.bool false)], args := [d1, d2, d3] }
  | _ => none }
def MountOthersWrongFalsely : Prop := mountOthersRow.holds Tryz.pinned (OpenSpec.ofChange mountOthersWrong)

/- THE SECOND FORM. 'bulk': how many values and letters a reading holds, each counted each time it is reached (what is shared counts as often as it is met; a slice's spare places count too). A statement '..UptoSaid' is the law's where the arguments, and the package variables that the reading takes, are together of bulk at most 1048576: NARROWER than '..Said'. Prove '..Said' where nothing that the law and all that it calls make is longer than what came in: it says more and counts as full. Else prove '..UptoSaid'. A law counts once. -/
mutual
def uptoBulk {H : Type} : DataW H → Nat
  | .lit (.string bytes) => bytes.length + 1
  | .lit _ => 1
  | .nil => 1
  | .ptr d => uptoBulk d + 1
  | .slice elems spare => uptoBulkAll elems + uptoBulkAll spare + 1
  | .agg parts => uptoBulkAll parts + 1
  | .iface _ d => uptoBulk d + 1
  | .map entries => uptoBulkEntries entries + 1
  | .held _ => 1
def uptoBulkAll {H : Type} : List (DataW H) → Nat
  | [] => 0
  | d :: r => uptoBulk d + uptoBulkAll r
def uptoBulkEntries {H : Type} : List (Lit × DataW H) → Nat
  | [] => 0
  | x :: r => uptoBulkEntry x + uptoBulkEntries r
def uptoBulkEntry {H : Type} : Lit × DataW H → Nat
  | (.string bytes, d) => bytes.length + uptoBulk d + 1
  | (_, d) => uptoBulk d + 1
 end
def uptoSmall : (H : Type) → List (DataW H) → Bool := fun _ ds => decide (uptoBulkAll ds ≤ 1048576)
def OpenSpec.upto (s : _root_.Go.ChangeSpec) : _root_.Go.OpenSpec := { _root_.Go.OpenSpec.ofChange s with cond := some uptoSmall }

/-- 'almshouselaw19.MountPrefix', WHERE WHAT IT READS IS OF BULK AT MOST 1048576: true; the input reads as it did. -/
def mountPrefixUptoRow : OpenClaim := { program := "ytdnpdoipipfkoaagreatdoor", sum := "4aa6762f148a08a5a1a9b5c05d20d2c5d99974b22deac08c294f056b64b28522", func := "almshouse/almshouselaw19.MountPrefix", spec := "mountPrefix", inPlace := ["sync/atomic.StoreInt64", "sync/atomic.StoreUint32", "sync/atomic.LoadUint32", "sync/atomic.AddInt64", "sync/atomic.LoadInt64"], unfollowed := true, recurses := true, named := ["almshouse/tag.fields"], apart := false, laid := [("almshouse/tag.fields", laid_almshouse_tag_fields)], narrowed := true }
def MountPrefixUptoSaid : Prop := mountPrefixUptoRow.holds Tryz.pinned (OpenSpec.upto mountPrefixSpec)

/-- 'almshouselaw19.MountAgain', WHERE WHAT IT READS IS OF BULK AT MOST 1048576: true; the input reads as it did. -/
def mountAgainUptoRow : OpenClaim := { program := "ytdnpdoipipfkoaagreatdoor", sum := "4aa6762f148a08a5a1a9b5c05d20d2c5d99974b22deac08c294f056b64b28522", func := "almshouse/almshouselaw19.MountAgain", spec := "mountAgain", inPlace := ["sync/atomic.StoreInt64", "sync/atomic.StoreUint32", "sync/atomic.LoadUint32", "sync/atomic.AddInt64", "sync/atomic.LoadInt64"], unfollowed := true, recurses := true, named := ["almshouse/tag.fields"], apart := false, laid := [("almshouse/tag.fields", laid_almshouse_tag_fields)], narrowed := true }
def MountAgainUptoSaid : Prop := mountAgainUptoRow.holds Tryz.pinned (OpenSpec.upto mountAgainSpec)

/-- 'almshouselaw19.MountOthers', WHERE WHAT IT READS IS OF BULK AT MOST 1048576: true; the input reads as it did. -/
def mountOthersUptoRow : OpenClaim := { program := "ytdnpdoipipfkoaagreatdoor", sum := "4aa6762f148a08a5a1a9b5c05d20d2c5d99974b22deac08c294f056b64b28522", func := "almshouse/almshouselaw19.MountOthers", spec := "mountOthers", inPlace := ["sync/atomic.StoreInt64", "sync/atomic.StoreUint32", "sync/atomic.LoadUint32", "sync/atomic.AddInt64", "sync/atomic.LoadInt64"], unfollowed := true, recurses := true, named := ["almshouse/tag.fields"], apart := false, laid := [("almshouse/tag.fields", laid_almshouse_tag_fields)], narrowed := true }
def MountOthersUptoSaid : Prop := mountOthersUptoRow.holds Tryz.pinned (OpenSpec.upto mountOthersSpec)

end Rows
end Go.Proofs.YtdnpdoipipfkoaaGreatDoor
