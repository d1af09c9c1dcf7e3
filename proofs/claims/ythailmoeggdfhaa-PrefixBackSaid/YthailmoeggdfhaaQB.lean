/-
  Layer 13: changes; what a buffer answers (its contracts); the document's Check.
-/
import Derived.Test.YthailmoeggdfhaaQA
import Derived.Test.YthailmoeggdfhaaLine
import Derived.Test.YthailmoeggdfhaaEA
import Derived.Lib.Hide
namespace Go.Proofs.Ythailmoeggdfhaa
set_option linter.unusedVariables false
set_option linter.unusedSimpArgs false
set_option maxRecDepth 100000
open Go.RowKit

/-! ### a change -/
structure Chg where
  pl : Int
  kd : Int
  dt : ByteArray
def noChg : Chg := ⟨0, 0, ⟨#[]⟩⟩
def chgC (c : Chg) : Array Value := #[.int .i64 c.pl, .int .i64 c.kd, .string c.dt]
def chgsL (row : List Chg) : List Value := row.flatMap fun c => (chgC c).toList
theorem chgsL_len (row : List Chg) : (chgsL row).length = row.length * 3 := by
  unfold chgsL
  induction row with
  | nil => rfl
  | cons c r ih => rw [List.flatMap_cons, List.length_append, ih, List.length_cons]; simp [chgC]; omega

/-- What is wrong with a change. -/
def chkE (pl kd : Int) (dt : ByteArray) : Int :=
  if (kd ≠ 1 ∧ kd ≠ 2) ∨ pl < 0 ∨ 63 < pl ∨ (kd = 2 ∧ dt.size ≠ 0) then 1 else if 16 < dt.size then 3 else 0

theorem ret_int13 {a b : Int} (h : a = b) : Ending.returned (.int .i64 a) = .returned (.int .i64 b) := by rw [h]
theorem str_none {s : ByteArray} : s.toList.isEmpty = decide (s.size = 0) := by
  rw [ByteArray.toList_eq]
  by_cases h : s.size = 0
  · have : s.data.toList = [] := List.eq_nil_of_length_eq_zero (by simpa using h)
    simp [h, this]
  · rw [decide_eq_false h, Bool.eq_false_iff]
    intro e
    rw [List.isEmpty_iff] at e
    exact h (by have := congrArg List.length e; simpa using this)
end Go.Proofs.Ythailmoeggdfhaa
