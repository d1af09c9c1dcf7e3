/-
  No cell of these rows narrows 'for every input' (looked for: loops, veiled, ifaces, maps, wideKeys, modest, calm, conditions, laid).
  DERIVED. THE GIVEN ROWS OF THIS SEAT. 3 by the template 'for every input the law returns true; each argument reads behind the call as it read before'; 0 by the template 'total and deterministic' (their statements: YtigfohofbpjldaaTotals.lean).
  GIVEN WITH THE SEED: the statements are not yours to turn. If you find one false, say at which input.
  Laid BY PROGRAM, IN A SANDBOX (cutbox-rows.mjs): the forced cells as the released guide's own fill.sh prints them over the translation 2d7e7c9bc347c4c2… (all of the seat's roots in one cut). By AI agents, Wed Nov 11 2026. No macro, syntax, notation, axiom, sorry.
-/
import Derived.Test.YtigfohofbpjldaaChecked
import GoSem.Claim
import GoSem.ClaimJoined
import GoSem.ClaimMapViews
import Derived.JoinedTies
import Derived.KernelRfl
namespace Go.Proofs.Ytigfohofbpjldaa
/- THE CELL 'sum', in the pinned program and in every row, IS THE sha256 OF THE DUMP (.gsa) THAT YtigfohofbpjldaaProg.lean LOADS. Nothing in Lean hashes anything: it is a label: what it is worth is what the hold of that sum in a sandbox is worth. -/
noncomputable def Try.pinned : Pinned := { name := "ytigfohofbpjldaa", sum := "2d7e7c9bc347c4c25b0fe519c877807a5ecc64a8b5d6c9163b40bd0487be0a0c", checked := Try.checked }
namespace Rows
def none {H : Type} : Left H := { results := [], args := [] }

/-- 'almshouselaw17.HealTells': WHATEVER THE INPUT: true; the input reads as it did. -/
def healTellsSpec : ChangeSpec := { name := "healTells", fn := fun _ => fun
  | [d1, d2, d3, d4, d5] => { results := [.lit (.bool true)], args := [d1, d2, d3, d4, d5] }
  | _ => none }
def healTellsRow : OpenClaim := { program := "ytigfohofbpjldaa", sum := "2d7e7c9bc347c4c25b0fe519c877807a5ecc64a8b5d6c9163b40bd0487be0a0c", func := "almshouse/almshouselaw17.HealTells", spec := "healTells", unfollowed := true, recurses := true, apart := false }
def HealTellsSaid : Prop := healTellsRow.holds Try.pinned (OpenSpec.ofChange healTellsSpec)

/-- ITS FALSE NEIGHBOUR: 'it returns false'. Refute it at one input. -/
def healTellsWrong : ChangeSpec := { name := "healTells", fn := fun _ => fun
  | [d1, d2, d3, d4, d5] => { results := [.lit (.bool false)], args := [d1, d2, d3, d4, d5] }
  | _ => none }
def HealTellsWrongFalsely : Prop := healTellsRow.holds Try.pinned (OpenSpec.ofChange healTellsWrong)

/-- 'almshouselaw17.HealKeeps': WHATEVER THE INPUT: true; the input reads as it did. -/
def healKeepsSpec : ChangeSpec := { name := "healKeeps", fn := fun _ => fun
  | [d1, d2, d3, d4, d5] => { results := [.lit (.bool true)], args := [d1, d2, d3, d4, d5] }
  | _ => none }
def healKeepsRow : OpenClaim := { program := "ytigfohofbpjldaa", sum := "2d7e7c9bc347c4c25b0fe519c877807a5ecc64a8b5d6c9163b40bd0487be0a0c", func := "almshouse/almshouselaw17.HealKeeps", spec := "healKeeps", unfollowed := true, recurses := true, apart := false }
def HealKeepsSaid : Prop := healKeepsRow.holds Try.pinned (OpenSpec.ofChange healKeepsSpec)

/-- ITS FALSE NEIGHBOUR: 'it returns false'. Refute it at one input. -/
def healKeepsWrong : ChangeSpec := { name := "healKeeps", fn := fun _ => fun
  | [d1, d2, d3, d4, d5] => { results := [.lit (.bool false)], args := [d1, d2, d3, d4, d5] }
  | _ => none }
def HealKeepsWrongFalsely : Prop := healKeepsRow.holds Try.pinned (OpenSpec.ofChange healKeepsWrong)

/-- 'almshouselaw17.HealVoid': WHATEVER THE INPUT: true; the input reads as it did. -/
def healVoidSpec : ChangeSpec := { name := "healVoid", fn := fun _ => fun
  | [d1, d2, d3, d4, d5] => { results := [.lit (.bool true)], args := [d1, d2, d3, d4, d5] }
  | _ => none }
def healVoidRow : OpenClaim := { program := "ytigfohofbpjldaa", sum := "2d7e7c9bc347c4c25b0fe519c877807a5ecc64a8b5d6c9163b40bd0487be0a0c", func := "almshouse/almshouselaw17.HealVoid", spec := "healVoid", unfollowed := true, recurses := true, apart := false }
def HealVoidSaid : Prop := healVoidRow.holds Try.pinned (OpenSpec.ofChange healVoidSpec)

/-- ITS FALSE NEIGHBOUR: 'it returns false'. Refute it at one input. -/
def healVoidWrong : ChangeSpec := { name := "healVoid", fn := fun _ => fun
  | [d1, d2, d3, d4, d5] => { results := [.lit (.bool false)], args := [d1, d2, d3, d4, d5] }
  | _ => none }
def HealVoidWrongFalsely : Prop := healVoidRow.holds Try.pinned (OpenSpec.ofChange healVoidWrong)

/- THE SECOND FORM. 'bulk': how many values and letters a reading holds, each counted each time it is reached (what is shared counts as often as it is met; a slice's spare places count too). A statement '..UptoSaid' is the law's where the arguments, and the package variables that the reading takes, are together of bulk at most 1048576: NARROWER than '..Said'. Prove '..Said' where nothing that the law and all that it calls make is longer than what came in: it says more and counts as full. Else prove '..UptoSaid'. A law counts once. -/
mutual
def uptoBulk {H : Type} : DataW H → Nat
  | .lit (.string bytes) => bytes.length + 1
  | .lit _ => 1
  | .nil => 1
  | .ptr d => uptoBulk d + 1
  | .slice elems spare => uptoBulkAll elems + uptoBulkAll spare + 1
  | .agg parts => uptoBulkAll parts + 1
  | .iface _ d => uptoBulk d + 1
  | .map entries => uptoBulkEntries entries + 1
  | .held _ => 1
def uptoBulkAll {H : Type} : List (DataW H) → Nat
  | [] => 0
  | d :: r => uptoBulk d + uptoBulkAll r
def uptoBulkEntries {H : Type} : List (Lit × DataW H) → Nat
  | [] => 0
  | x :: r => uptoBulkEntry x + uptoBulkEntries r
def uptoBulkEntry {H : Type} : Lit × DataW H → Nat
  | (.string bytes, d) => bytes.length + uptoBulk d + 1
  | (_, d) => uptoBulk d + 1
 end
def uptoSmall : (H : Type) → List (DataW H) → Bool := fun _ ds => decide (uptoBulkAll ds ≤ 1048576)
def OpenSpec.upto (s : _root_.Go.ChangeSpec) : _root_.Go.OpenSpec := { _root_.Go.OpenSpec.ofChange s with cond := some uptoSmall }

/-- 'almshouselaw17.HealTells', WHERE WHAT IT READS IS OF BULK AT MOST 1048576: true; the input reads as it did. -/
def healTellsUptoRow : OpenClaim := { program := "ytigfohofbpjldaa", sum := "2d7e7c9bc347c4c25b0fe519c877807a5ecc64a8b5d6c9163b40bd0487be0a0c", func := "almshouse/almshouselaw17.HealTells", spec := "healTells", unfollowed := true, recurses := true, apart := false, narrowed := true }
def HealTellsUptoSaid : Prop := healTellsUptoRow.holds Try.pinned (OpenSpec.upto healTellsSpec)

/-- 'almshouselaw17.HealKeeps', WHERE WHAT IT READS IS OF BULK AT MOST 1048576: true; the input reads as it did. -/
def healKeepsUptoRow : OpenClaim := { program := "ytigfohofbpjldaa", sum := "2d7e7c9bc347c4c25b0fe519c877807a5ecc64a8b5d6c9163b40bd0487be0a0c", func := "almshouse/almshouselaw17.HealKeeps", spec := "healKeeps", unfollowed := true, recurses := true, apart := false, narrowed := true }
def HealKeepsUptoSaid : Prop := healKeepsUptoRow.holds Try.pinned (OpenSpec.upto healKeepsSpec)

/-- 'almshouselaw17.HealVoid', WHERE WHAT IT READS IS OF BULK AT MOST 1048576: true; the input reads as it did. -/
def healVoidUptoRow : OpenClaim := { program := "ytigfohofbpjldaa", sum := "2d7e7c9bc347c4c25b0fe519c877807a5ecc64a8b5d6c9163b40bd0487be0a0c", func := "almshouse/almshouselaw17.HealVoid", spec := "healVoid", unfollowed := true, recurses := true, apart := false, narrowed := true }
def HealVoidUptoSaid : Prop := healVoidUptoRow.holds Try.pinned (OpenSpec.upto healVoidSpec)

end Rows
end Go.Proofs.Ytigfohofbpjldaa
