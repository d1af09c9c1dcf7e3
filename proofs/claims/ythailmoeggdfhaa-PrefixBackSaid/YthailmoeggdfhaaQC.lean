/-
  Layer 13: what a buffer answers (contracts, whatever the code); the law's fixed, BufferNone.
-/
import Derived.Test.YthailmoeggdfhaaQB
import Derived.Test.YthailmoeggdfhaaAT
import Derived.Outline
import Derived.Deep.DeepCutAuto
import Derived.Deep.Cut
import Derived.Deep.LoopGhost
namespace Go.Proofs.Ythailmoeggdfhaa
set_option linter.unusedVariables false
set_option linter.unusedSimpArgs false
set_option maxRecDepth 100000
open Go.RowKit

def chgV (c : Chg) : Value := .agg #[.int .i64 c.pl, .int .i64 c.kd, .string c.dt]
def putE (row : List Chg) (c : Chg) : Int := if chkE c.pl c.kd c.dt = 0 then (if row.length = 4 then 8 else 0) else chkE c.pl c.kd c.dt
def putR (row : List Chg) (c : Chg) : List Chg := if putE row c = 0 then row ++ [c] else row
def firstC (row : List Chg) : Chg := row.headD noChg
/-- The last one of a place. -/
def lastN (row : List Chg) (p : Int) : Chg × Bool := row.foldl (fun acc x => if x.pl = p then (x, true) else acc) (noChg, false)
def small13 (row : List Chg) : Prop := row.length ≤ 4

abbrev Ext13 (w w' : World) : Prop := w.grownBy w' none
theorem ext13_trans {w w1 w2 : World} (h : Ext13 w w1) (h2 : Ext13 w1 w2) : Ext13 w w2 :=
  ⟨h2.os.trans h.os, h2.tape.trans h.tape, h2.output.trans h.output, Nat.le_trans h.size h2.size, fun k hk hne => (h2.block k (Nat.lt_of_lt_of_le hk h.size) hne).trans (h.block k hk hne)⟩

section
variable {ops : Array Oper} {rest : List Oper} {o : Oper} {a : Act} {w : World} {Q : Exit → Act → World → Prop}
end
theorem grown_trans13 {w w1 w2 : World} (h : w.grownBy w1 none) (h2 : w1.grownBy w2 (some w.heap.size)) : w.grownBy w2 none :=
  ⟨h2.os.trans h.os, h2.tape.trans h.tape, h2.output.trans h.output, Nat.le_trans h.size h2.size, fun k hk hne => (h2.block k (Nat.lt_of_lt_of_le hk h.size) (fun e => by injection e with e; omega)).trans (h.block k hk hne)⟩
theorem grown_past13 {w w1 w2 : World} {b : Nat} (h : w.grownBy w1 none) (h2 : w1.grownBy w2 (some b)) (hb : w.heap.size ≤ b) : w.grownBy w2 none :=
  ⟨h2.os.trans h.os, h2.tape.trans h.tape, h2.output.trans h.output, Nat.le_trans h.size h2.size, fun k hk hne => (h2.block k (Nat.lt_of_lt_of_le hk h.size) (fun e => by injection e with e; omega)).trans (h.block k hk hne)⟩
theorem owns_shape13 {w : World} {B : Nat} {e : TypeId} {sz : Nat} {v : Value} {n : Nat} {xs : List Value} (h : w.ownsRow B e sz v n xs) : ∃ ao cap, v = .slice ao n cap := by
  rcases h.2 with ⟨rfl, rfl⟩ | ⟨g, cap, _, rfl, _⟩
  · exact ⟨none, 0, rfl⟩
  · exact ⟨_, cap, rfl⟩
theorem chgV_is (c : Chg) : chgV c = .agg (chgC c) := rfl
theorem Blk.range {w : World} {g : Nat} {t : TypeId} {cs : Array Value} (h : Blk w g t cs) (off n : Nat) (hn : (cs.extract off (off + n)).size = n) : w.rangeAt g off (cs.extract off (off + n)).toList := by
  have := World.rangeAt_of_block h off n
  simpa using this

/-! the law's fixed -/
def fA : Chg := ⟨3, 1, ⟨#[120]⟩⟩
def fB : Chg := ⟨3, 2, ⟨#[]⟩⟩

end Go.Proofs.Ythailmoeggdfhaa
