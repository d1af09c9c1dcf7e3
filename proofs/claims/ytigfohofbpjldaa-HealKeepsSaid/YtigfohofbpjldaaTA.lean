/-
  Package tag: what is a tag, the table of its fields in memory; Newer, numbers, told, Right, and the document's.
-/
import Derived.Test.YtigfohofbpjldaaWA
import Derived.Test.YtigfohofbpjldaaLine
import Derived.Handy
namespace Go.Proofs.Ytigfohofbpjldaa
set_option linter.unusedVariables false
set_option linter.unusedSimpArgs false
set_option maxRecDepth 100000
open Go.RowKit

/-- A tag, by value; its block, boxed. -/
def tagV (a b c d k : Int) (p : Bool) : Value := .agg #[.int .i64 a, .int .i64 b, .int .i64 c, .int .i64 d, .int .i64 k, .bool p]
def tagObj (a b c d k : Int) (p : Bool) : Obj := .cells #[.int .i64 a, .int .i64 b, .int .i64 c, .int .i64 d, .int .i64 k, .bool p] 34
def arrV (a b c d k : Int) : Value := .agg #[.int .i64 a, .int .i64 b, .int .i64 c, .int .i64 d, .int .i64 k]
def nth (a b c d k : Int) (j : Nat) : Int := [a, b, c, d, k].getD j 0

def newerB (s s2 : Int) (p p2 : Bool) : Bool := if s = s2 then !p && p2 else decide (s2 < s)

set_option maxHeartbeats 400000 in
theorem newer_any (a b c d k : Int) (p : Bool) (a2 b2 c2 d2 k2 : Int) (p2 : Bool) (w : World) :
    Calls Try.prog 51 #[tagV a b c d k p, tagV a2 b2 c2 d2 k2 p2] w fun e w' => e = .returned (.bool (newerB d d2 p p2)) ∧ (w.alloc (tagObj a b c d k p)).alloc (tagObj a2 b2 c2 d2 k2 p2) = w' := by
  unfold tagV tagObj
  cases p
  all_goals
    go_enter Try.func51, Try.ntmps51
    go_wp2
    all_goals
      go_returns
      exact ⟨ret_bool (by simp_all [newerB]), rfl⟩

set_option maxHeartbeats 400000 in
theorem refNewer_any (a b c d k : Int) (p : Bool) (a2 b2 c2 d2 k2 : Int) (p2 : Bool) (w : World) :
    Calls Try.prog 29 #[tagV a b c d k p, tagV a2 b2 c2 d2 k2 p2] w fun e w' => e = .returned (.bool (newerB d d2 p p2)) ∧ (w.alloc (tagObj a b c d k p)).alloc (tagObj a2 b2 c2 d2 k2 p2) = w' := by
  unfold tagV tagObj
  cases p
  all_goals
    go_enter Try.func29, Try.ntmps29
    go_wp2
    all_goals
      go_returns
      exact ⟨ret_bool (by simp_all [newerB]), rfl⟩

/-- The table of a tag's fields: by how many bytes, from, to. -/
def fsz (j : Nat) : Int := [1, 4, 1, 4, 1].getD j 0
def ffr (j : Nat) : Int := [0, 0, 0, 0, 1].getD j 0
def fto (j : Nat) : Int := [3, 2147483647, 63, 2147483647, 2].getD j 0
/-- It stands in memory, where package-level variables are. -/
def Flds (w : World) : Prop := ∀ j, j < 5 → w.cell? ⟨0, j * 3, none⟩ = some (.int .i64 (fsz j)) ∧ w.cell? ⟨0, j * 3 + 1, none⟩ = some (.int .i64 (ffr j)) ∧ w.cell? ⟨0, j * 3 + 2, none⟩ = some (.int .i64 (fto j))
theorem Flds.kept {w w' : World} {r : Option Nat} (h : Flds w) (hg : w.grownBy w' r) (hr : some 0 ≠ r) : Flds w' := fun j hj =>
  ⟨hg.cell (h j hj).1 hr, hg.cell (h j hj).2.1 hr, hg.cell (h j hj).2.2 hr⟩
theorem Flds.lt {w : World} (h : Flds w) : 0 < w.heap.size := World.block_lt_of_cell? w _ (h 0 (by decide)).1
theorem Flds.ext {w w' : World} (h : Flds w) (hg : Ext w w') : Flds w' := h.kept hg (by simp)

/-- Five numbers in a block. -/
def Arr (w : World) (B : Nat) (v : Nat → Int) : Prop := ∀ j, j < 5 → w.cell? ⟨B, j, none⟩ = some (.int .i64 (v j))
theorem Arr.ext {w w' : World} {B : Nat} {v : Nat → Int} (h : Arr w B v) (hg : Ext w w') : Arr w' B v := fun j hj => hg.cell (h j hj) (by simp)

/-- Whether a tag may be. -/
def okB (a b c d k : Int) : Bool := (List.range 5).all fun j => decide (ffr j ≤ nth a b c d k j ∧ nth a b c d k j ≤ fto j)
theorem okB_true {a b c d k : Int} (h : ∀ j, j < 5 → ffr j ≤ nth a b c d k j ∧ nth a b c d k j ≤ fto j) : okB a b c d k = true := by
  simp only [okB, List.all_eq_true, List.mem_range, decide_eq_true_eq]
  exact h
theorem okB_false {a b c d k : Int} {j : Nat} (hj : j < 5) (h : ¬ (ffr j ≤ nth a b c d k j ∧ nth a b c d k j ≤ fto j)) : okB a b c d k = false := by
  rw [Bool.eq_false_iff]
  intro h2
  simp only [okB, List.all_eq_true, List.mem_range, decide_eq_true_eq] at h2
  exact h (h2 j hj)


set_option maxHeartbeats 400000 in
theorem refRight_any (a b c d k : Int) (p : Bool) (w : World) :
    Calls Try.prog 16 #[tagV a b c d k p] w fun e w' => e = .returned (.bool (okB a b c d k)) ∧ w.alloc (tagObj a b c d k p) = w' := by
  have HO : Hid (okB a b c d k = decide (((((0 ≤ a ∧ a ≤ 3) ∧ 0 ≤ b ∧ b < 2147483648) ∧ 0 ≤ c ∧ c ≤ 63) ∧ 0 ≤ d ∧ d < 2147483648) ∧ (k = 1 ∨ k = 2))) := Lib.hid (by
    rw [Bool.eq_iff_iff, decide_eq_true_eq]
    constructor
    · intro h
      have h2 : ∀ j, j < 5 → ffr j ≤ nth a b c d k j ∧ nth a b c d k j ≤ fto j := by
        simp only [okB, List.all_eq_true, List.mem_range, decide_eq_true_eq] at h
        exact h
      have h0 := h2 0 (by decide)
      have h1 := h2 1 (by decide)
      have h3 := h2 2 (by decide)
      have h4 := h2 3 (by decide)
      have h5 := h2 4 (by decide)
      simp [ffr, fto, nth] at h0 h1 h3 h4 h5
      omega
    · intro h
      refine okB_true (fun j hj => ?_)
      have : j = 0 ∨ j = 1 ∨ j = 2 ∨ j = 3 ∨ j = 4 := by omega
      rcases this with rfl | rfl | rfl | rfl | rfl <;> simp [ffr, fto, nth] <;> omega)
  unfold tagV tagObj
  go_enter Try.func16, Try.ntmps16
  go_wp2
  all_goals
    go_returns
    refine ⟨ret_bool ?_, by first | rfl | simp_all⟩
    rw [HO.out, Bool.eq_iff_iff, decide_eq_true_eq]
    simp_all
    try omega

end Go.Proofs.Ytigfohofbpjldaa
