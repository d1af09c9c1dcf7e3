/-
  No cell of these rows narrows 'for every input' (looked for: loops, veiled, ifaces, maps, wideKeys, modest, calm, conditions, laid).
  DERIVED. THE GIVEN ROWS OF THIS SEAT. 3 by the template 'for every input the law returns true; each argument reads behind the call as it read before'; 0 by the template 'total and deterministic' (their statements: YtnfhibigidkhkaaTotals.lean).
  GIVEN WITH THE SEED: the statements are not yours to turn. If you find one false, say at which input.
  Laid BY PROGRAM, IN A SANDBOX (cutbox-rows.mjs): the forced cells as the released guide's own fill.sh prints them over the translation a3dfdd28cdc25b0a… (all of the seat's roots in one cut). By AI agents, Wed Nov 11 2026. No macro, syntax, notation, axiom, sorry.
-/
import Derived.Test.YtnfhibigidkhkaaChecked
import GoSem.Claim
import GoSem.ClaimJoined
import GoSem.ClaimMapViews
import Derived.JoinedTies
import Derived.KernelRfl
namespace Go.Proofs.Ytnfhibigidkhkaa
/- THE CELL 'sum', in the pinned program and in every row, IS THE sha256 OF THE DUMP (.gsa) THAT YtnfhibigidkhkaaProg.lean LOADS. Nothing in Lean hashes anything: it is a label: what it is worth is what the hold of that sum in a sandbox is worth. -/
noncomputable def Try.pinned : Pinned := { name := "ytnfhibigidkhkaa", sum := "a3dfdd28cdc25b0ae4f07493e73cec5de57cc6338f58259339450e54e9eda36e", checked := Try.checked }
namespace Rows
def none {H : Type} : Left H := { results := [], args := [] }

/-- 'almshouselaw15.VictimGreedy': WHATEVER THE INPUT: true; the input reads as it did. -/
def victimGreedySpec : ChangeSpec := { name := "victimGreedy", fn := fun _ => fun
  | [d] => { results := [.lit (.bool true)], args := [d] }
  | _ => none }
def victimGreedyRow : OpenClaim := { program := "ytnfhibigidkhkaa", sum := "a3dfdd28cdc25b0ae4f07493e73cec5de57cc6338f58259339450e54e9eda36e", func := "almshouse/almshouselaw15.VictimGreedy", spec := "victimGreedy", apart := false }
def VictimGreedySaid : Prop := victimGreedyRow.holds Try.pinned (OpenSpec.ofChange victimGreedySpec)

/-- ITS FALSE NEIGHBOUR: 'it returns false'. Refute it at one input. -/
def victimGreedyWrong : ChangeSpec := { name := "victimGreedy", fn := fun _ => fun
  | [d] => { results := [.lit (.bool false)], args := [d] }
  | _ => none }
def VictimGreedyWrongFalsely : Prop := victimGreedyRow.holds Try.pinned (OpenSpec.ofChange victimGreedyWrong)

/-- 'almshouselaw15.VictimBenefit': WHATEVER THE INPUT: true; the input reads as it did. -/
def victimBenefitSpec : ChangeSpec := { name := "victimBenefit", fn := fun _ => fun
  | [d1, d2, d3, d4] => { results := [.lit (.bool true)], args := [d1, d2, d3, d4] }
  | _ => none }
def victimBenefitRow : OpenClaim := { program := "ytnfhibigidkhkaa", sum := "a3dfdd28cdc25b0ae4f07493e73cec5de57cc6338f58259339450e54e9eda36e", func := "almshouse/almshouselaw15.VictimBenefit", spec := "victimBenefit", apart := false }
def VictimBenefitSaid : Prop := victimBenefitRow.holds Try.pinned (OpenSpec.ofChange victimBenefitSpec)

/-- ITS FALSE NEIGHBOUR: 'it returns false'. Refute it at one input. -/
def victimBenefitWrong : ChangeSpec := { name := "victimBenefit", fn := fun _ => fun
  | [d1, d2, d3, d4] => { results := [.lit (.bool false)], args := [d1, d2, d3, d4] }
  | _ => none }
def VictimBenefitWrongFalsely : Prop := victimBenefitRow.holds Try.pinned (OpenSpec.ofChange victimBenefitWrong)

/-- 'almshouselaw15.VictimLeast': WHATEVER THE INPUT: true; the input reads as it did. -/
def victimLeastSpec : ChangeSpec := { name := "victimLeast", fn := fun _ => fun
  | [d] => { results := [.lit (.bool true)], args := [d] }
  | _ => none }
def victimLeastRow : OpenClaim := { program := "ytnfhibigidkhkaa", sum := "a3dfdd28cdc25b0ae4f07493e73cec5de57cc6338f58259339450e54e9eda36e", func := "almshouse/almshouselaw15.VictimLeast", spec := "victimLeast", apart := false }
def VictimLeastSaid : Prop := victimLeastRow.holds Try.pinned (OpenSpec.ofChange victimLeastSpec)

/-- ITS FALSE NEIGHBOUR: 'it returns false'. Refute it at one input. -/
def victimLeastWrong : ChangeSpec := { name := "victimLeast", fn := fun _ => fun
  | [d] => { results := [.lit (.bool false)], args := [d] }
  | _ => none }
def VictimLeastWrongFalsely : Prop := victimLeastRow.holds Try.pinned (OpenSpec.ofChange victimLeastWrong)

/- THE SECOND FORM. 'bulk': how many values and letters a reading holds, each counted each time it is reached (what is shared counts as often as it is met; a slice's spare places count too). A statement '..UptoSaid' is the law's where the arguments, and the package variables that the reading takes, are together of bulk at most 1048576: NARROWER than '..Said'. Prove '..Said' where nothing that the law and all that it calls make is longer than what came in: it says more and counts as full. Else prove '..UptoSaid'. A law counts once. -/
mutual
def uptoBulk {H : Type} : DataW H → Nat
  | .lit (.string bytes) => bytes.length + 1
  | .lit _ => 1
  | .nil => 1
  | .ptr d => uptoBulk d + 1
  | .slice elems spare => uptoBulkAll elems + uptoBulkAll spare + 1
  | .agg parts => uptoBulkAll parts + 1
  | .iface _ d => uptoBulk d + 1
  | .map entries => uptoBulkEntries entries + 1
  | .held _ => 1
def uptoBulkAll {H : Type} : List (DataW H) → Nat
  | [] => 0
  | d :: r => uptoBulk d + uptoBulkAll r
def uptoBulkEntries {H : Type} : List (Lit × DataW H) → Nat
  | [] => 0
  | x :: r => uptoBulkEntry x + uptoBulkEntries r
def uptoBulkEntry {H : Type} : Lit × DataW H → Nat
  | (.string bytes, d) => bytes.length + uptoBulk d + 1
  | (_, d) => uptoBulk d + 1
 end
def uptoSmall : (H : Type) → List (DataW H) → Bool := fun _ ds => decide (uptoBulkAll ds ≤ 1048576)
def OpenSpec.upto (s : _root_.Go.ChangeSpec) : _root_.Go.OpenSpec := { _root_.Go.OpenSpec.ofChange s with cond := some uptoSmall }

/-- 'almshouselaw15.VictimGreedy', WHERE WHAT IT READS IS OF BULK AT MOST 1048576: true; the input reads as it did. -/
def victimGreedyUptoRow : OpenClaim := { program := "ytnfhibigidkhkaa", sum := "a3dfdd28cdc25b0ae4f07493e73cec5de57cc6338f58259339450e54e9eda36e", func := "almshouse/almshouselaw15.VictimGreedy", spec := "victimGreedy", apart := false, narrowed := true }
def VictimGreedyUptoSaid : Prop := victimGreedyUptoRow.holds Try.pinned (OpenSpec.upto victimGreedySpec)

/-- 'almshouselaw15.VictimBenefit', WHERE WHAT IT READS IS OF BULK AT MOST 1048576: true; the input reads as it did. -/
def victimBenefitUptoRow : OpenClaim := { program := "ytnfhibigidkhkaa", sum := "a3dfdd28cdc25b0ae4f07493e73cec5de57cc6338f58259339450e54e9eda36e", func := "almshouse/almshouselaw15.VictimBenefit", spec := "victimBenefit", apart := false, narrowed := true }
def VictimBenefitUptoSaid : Prop := victimBenefitUptoRow.holds Try.pinned (OpenSpec.upto victimBenefitSpec)

/-- 'almshouselaw15.VictimLeast', WHERE WHAT IT READS IS OF BULK AT MOST 1048576: true; the input reads as it did. -/
def victimLeastUptoRow : OpenClaim := { program := "ytnfhibigidkhkaa", sum := "a3dfdd28cdc25b0ae4f07493e73cec5de57cc6338f58259339450e54e9eda36e", func := "almshouse/almshouselaw15.VictimLeast", spec := "victimLeast", apart := false, narrowed := true }
def VictimLeastUptoSaid : Prop := victimLeastUptoRow.holds Try.pinned (OpenSpec.upto victimLeastSpec)

end Rows
end Go.Proofs.Ytnfhibigidkhkaa
