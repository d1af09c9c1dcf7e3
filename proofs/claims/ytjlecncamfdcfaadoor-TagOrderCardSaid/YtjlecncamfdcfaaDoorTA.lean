/-
  Package tag: what is a tag, the table of its fields in memory; Newer, numbers, told, Right, and the document's.
-/
import Derived.Test.YtjlecncamfdcfaaDoorWA
import Derived.Test.YtjlecncamfdcfaaDoorLine
import Derived.Handy
namespace Go.Proofs.YtjlecncamfdcfaaDoor
open Go.RowKit

/-- A tag, by value; its block, boxed. -/
def tagV (a b c d k : Int) (p : Bool) : Value := .agg #[.int .i64 a, .int .i64 b, .int .i64 c, .int .i64 d, .int .i64 k, .bool p]
def tagObj (a b c d k : Int) (p : Bool) : Obj := .cells #[.int .i64 a, .int .i64 b, .int .i64 c, .int .i64 d, .int .i64 k, .bool p] 23
def arrV (a b c d k : Int) : Value := .agg #[.int .i64 a, .int .i64 b, .int .i64 c, .int .i64 d, .int .i64 k]
def arrObj (a b c d k : Int) : Obj := .cells #[.int .i64 a, .int .i64 b, .int .i64 c, .int .i64 d, .int .i64 k] 36
def nth (a b c d k : Int) (j : Nat) : Int := [a, b, c, d, k].getD j 0

def newerB (s s2 : Int) (p p2 : Bool) : Bool := if s = s2 then !p && p2 else decide (s2 < s)

set_option maxHeartbeats 400000 in
theorem newer_any (a b c d k : Int) (p : Bool) (a2 b2 c2 d2 k2 : Int) (p2 : Bool) (w : World) :
    Calls Tryd.prog 11 #[tagV a b c d k p, tagV a2 b2 c2 d2 k2 p2] w fun e w' => e = .returned (.bool (newerB d d2 p p2)) ∧ (w.alloc (tagObj a b c d k p)).alloc (tagObj a2 b2 c2 d2 k2 p2) = w' := by
  unfold tagV tagObj
  cases p
  all_goals
    go_enter Tryd.func11, Tryd.ntmps11
    go_wp2
    all_goals
      go_returns
      exact ⟨ret_bool (by simp_all [newerB]), rfl⟩

set_option maxHeartbeats 400000 in
theorem refNewer_any (a b c d k : Int) (p : Bool) (a2 b2 c2 d2 k2 : Int) (p2 : Bool) (w : World) :
    Calls Tryd.prog 12 #[tagV a b c d k p, tagV a2 b2 c2 d2 k2 p2] w fun e w' => e = .returned (.bool (newerB d d2 p p2)) ∧ (w.alloc (tagObj a b c d k p)).alloc (tagObj a2 b2 c2 d2 k2 p2) = w' := by
  unfold tagV tagObj
  cases p
  all_goals
    go_enter Tryd.func12, Tryd.ntmps12
    go_wp2
    all_goals
      go_returns
      exact ⟨ret_bool (by simp_all [newerB]), rfl⟩

set_option maxHeartbeats 400000 in
theorem numbers_any (a b c d k : Int) (p : Bool) (w : World) :
    Calls Tryd.prog 16 #[tagV a b c d k p] w fun e w' => e = .returned (arrV a b c d k) ∧ (w.alloc (tagObj a b c d k p)).alloc (arrObj a b c d k) = w' := by
  unfold tagV tagObj arrV arrObj
  go_enter Tryd.func16, Tryd.ntmps16
  go_wp2
  go_returns
  exact ⟨rfl, rfl⟩

set_option maxHeartbeats 400000 in
theorem told_any (a b c d k : Int) (p : Bool) (w : World) :
    Calls Tryd.prog 23 #[arrV a b c d k, .bool p] w fun e w' => e = .returned (tagV a b c d k p) ∧ (w.alloc (arrObj a b c d k)).alloc (tagObj a b c d k p) = w' := by
  unfold tagV arrV arrObj tagObj
  go_enter Tryd.func23, Tryd.ntmps23
  go_wp2
  go_returns
  exact ⟨rfl, rfl⟩

/-- The table of a tag's fields: by how many bytes, from, to. -/
def fsz (j : Nat) : Int := [1, 4, 1, 4, 1].getD j 0
def ffr (j : Nat) : Int := [0, 0, 0, 0, 1].getD j 0
def fto (j : Nat) : Int := [3, 2147483647, 63, 2147483647, 2].getD j 0
/-- It stands in memory, where package-level variables are. -/
def Flds (w : World) : Prop := ∀ j, j < 5 → w.cell? ⟨0, j * 3, none⟩ = some (.int .i64 (fsz j)) ∧ w.cell? ⟨0, j * 3 + 1, none⟩ = some (.int .i64 (ffr j)) ∧ w.cell? ⟨0, j * 3 + 2, none⟩ = some (.int .i64 (fto j))
theorem Flds.kept {w w' : World} {r : Option Nat} (h : Flds w) (hg : w.grownBy w' r) (hr : some 0 ≠ r) : Flds w' := fun j hj =>
  ⟨hg.cell (h j hj).1 hr, hg.cell (h j hj).2.1 hr, hg.cell (h j hj).2.2 hr⟩
theorem Flds.lt {w : World} (h : Flds w) : 0 < w.heap.size := World.block_lt_of_cell? w _ (h 0 (by decide)).1
theorem Flds.ext {w w' : World} (h : Flds w) (hg : Ext w w') : Flds w' := h.kept hg (by simp)

/-- Five numbers in a block. -/
def Arr (w : World) (B : Nat) (v : Nat → Int) : Prop := ∀ j, j < 5 → w.cell? ⟨B, j, none⟩ = some (.int .i64 (v j))
theorem arr_new (w : World) (a b c d k : Int) : Arr (w.alloc (arrObj a b c d k)) w.heap.size (nth a b c d k) := fun j hj => by
  rw [arrObj, World.cell?_alloc_mark]
  have : j = 0 ∨ j = 1 ∨ j = 2 ∨ j = 3 ∨ j = 4 := by omega
  rcases this with rfl | rfl | rfl | rfl | rfl <;> rfl
theorem Arr.ext {w w' : World} {B : Nat} {v : Nat → Int} (h : Arr w B v) (hg : Ext w w') : Arr w' B v := fun j hj => hg.cell (h j hj) (by simp)

/-- Whether a tag may be. -/
def okB (a b c d k : Int) : Bool := (List.range 5).all fun j => decide (ffr j ≤ nth a b c d k j ∧ nth a b c d k j ≤ fto j)
theorem okB_true {a b c d k : Int} (h : ∀ j, j < 5 → ffr j ≤ nth a b c d k j ∧ nth a b c d k j ≤ fto j) : okB a b c d k = true := by
  simp only [okB, List.all_eq_true, List.mem_range, decide_eq_true_eq]
  exact h
theorem okB_false {a b c d k : Int} {j : Nat} (hj : j < 5) (h : ¬ (ffr j ≤ nth a b c d k j ∧ nth a b c d k j ≤ fto j)) : okB a b c d k = false := by
  rw [Bool.eq_false_iff]
  intro h2
  simp only [okB, List.all_eq_true, List.mem_range, decide_eq_true_eq] at h2
  exact h (h2 j hj)

theorem gb_drewN (w : World) (n : Nat) : w.grownBy (w.drewN n) none := ⟨rfl, rfl, rfl, Nat.le_refl _, fun _ _ _ => rfl⟩
theorem ext_trans {a b c : World} (h : Ext a b) (h2 : Ext b c) : Ext a c := Ext.next h c h2

set_option maxHeartbeats 400000 in
theorem right_any (a b c d k : Int) (p : Bool) (w : World) (hF : Flds w) :
    Calls Tryd.prog 9 #[tagV a b c d k p] w fun e w' => e = .returned (.bool (okB a b c d k)) ∧ Ext w w' := by
  have N := numbers_any a b c d k p
  have g3 := ext_trans (ext_trans (ext_trans (World.grownBy_alloc w (tagObj a b c d k p) none) (World.grownBy_alloc _ (tagObj a b c d k p) none)) (World.grownBy_alloc _ (arrObj a b c d k) none)) (World.grownBy_alloc _ (arrObj a b c d k) none)
  have hA := arr_new (((w.alloc (tagObj a b c d k p)).alloc (tagObj a b c d k p)).alloc (arrObj a b c d k)) a b c d k
  have hF3 := hF.ext g3
  have hz : (((w.alloc (tagObj a b c d k p)).alloc (tagObj a b c d k p)).alloc (arrObj a b c d k)).heap.size = w.heap.size + 1 + 1 + 1 := by simp
  rw [hz] at hA
  generalize hv : nth a b c d k = v at *
  have HV := Lib.hid hv
  unfold tagV arrV at *
  have HH := Lib.hid (And.intro g3 (And.intro hA hF3))
  clear hv g3 hA hF3 hF hz
  unfold tagObj arrObj at *
  go_enter Tryd.func9, Tryd.ntmps9
  go_wp2_with (go_at_call 16; refine (N _).mono ?_; rintro e w' ⟨rfl, rfl⟩)
  go_loopw [7] (fun i wr => ∃ j : Nat, j ≤ 5 ∧ i = .int .i64 j ∧ Ext w wr ∧ Arr wr (w.heap.size + 1 + 1 + 1) v ∧ Flds wr ∧ ∀ q, q < j → ffr q ≤ v q ∧ v q ≤ fto q) (fun i _ => 5 - (intOf i).toNat)
  case atStart => exact ⟨0, by omega, rfl, HH.out.1, HH.out.2.1, HH.out.2.2, fun q hq => by omega⟩
  case round =>
    obtain ⟨j, hj, rfl, hE, hA, hF, hall⟩ := hrel
    by_cases hlt : j < 5
    · obtain ⟨_, c1, c2⟩ := hF j hlt
      have c0 := hA j hlt
      have HE := Lib.hid (And.intro hE (And.intro hA (And.intro hF hall)))
      clear hE hA hF hall
      obtain ⟨x, hx⟩ : ∃ x, v j = x := ⟨_, rfl⟩
      obtain ⟨lo, hlo⟩ : ∃ x, ffr j = x := ⟨_, rfl⟩
      obtain ⟨hi, hhi⟩ : ∃ x, fto j = x := ⟨_, rfl⟩
      rw [hx] at c0
      rw [hlo] at c1
      rw [hhi] at c2
      have HX := Lib.hid (And.intro hx (And.intro hlo hhi))
      clear hx hlo hhi
      by_cases h1 : x < lo
      · go_wp2
        go_quiet (fail)
        rename_i nq
        go_wp2
        go_returns
        obtain ⟨e1, e2, _⟩ := HX.out
        exact ⟨ret_bool (okB_false (j := j) hlt (by rw [HV.out, e1, e2]; omega)).symm, ext_trans HE.out.1 (gb_drewN _ nq)⟩
      · by_cases h2 : hi < x
        · go_wp2
          go_quiet (fail)
          rename_i nq
          go_wp2
          go_returns
          obtain ⟨e1, _, e2⟩ := HX.out
          exact ⟨ret_bool (okB_false (j := j) hlt (by rw [HV.out, e1, e2]; omega)).symm, ext_trans HE.out.1 (gb_drewN _ nq)⟩
        · go_wp2
          go_quiet (fail)
          rename_i nq
          go_wp2
          go_roundw
          case rel =>
            obtain ⟨k1, k2, k3, k4⟩ := HE.out
            obtain ⟨e1, e2, e3⟩ := HX.out
            refine ⟨j + 1, by omega, by go_num, ext_trans k1 (gb_drewN _ nq), k2.ext (gb_drewN _ nq), k3.ext (gb_drewN _ nq), fun q hq => ?_⟩
            by_cases h : q = j
            · subst h
              rw [e1, e2, e3]
              omega
            · exact k4 q (by omega)
          case measure => simp [intOf]; omega
    · have hn : ¬ (j : Int) < 5 := by omega
      go_wp2
      go_returns
      exact ⟨ret_bool (okB_true (fun q hq => by rw [HV.out]; exact hall q (by omega))).symm, hE⟩

set_option maxHeartbeats 400000 in
theorem refRight_any (a b c d k : Int) (p : Bool) (w : World) :
    Calls Tryd.prog 10 #[tagV a b c d k p] w fun e w' => e = .returned (.bool (okB a b c d k)) ∧ w.alloc (tagObj a b c d k p) = w' := by
  have HO : Hid (okB a b c d k = decide (((((0 ≤ a ∧ a ≤ 3) ∧ 0 ≤ b ∧ b < 2147483648) ∧ 0 ≤ c ∧ c ≤ 63) ∧ 0 ≤ d ∧ d < 2147483648) ∧ (k = 1 ∨ k = 2))) := Lib.hid (by
    rw [Bool.eq_iff_iff, decide_eq_true_eq]
    constructor
    · intro h
      have h2 : ∀ j, j < 5 → ffr j ≤ nth a b c d k j ∧ nth a b c d k j ≤ fto j := by
        simp only [okB, List.all_eq_true, List.mem_range, decide_eq_true_eq] at h
        exact h
      have h0 := h2 0 (by decide)
      have h1 := h2 1 (by decide)
      have h3 := h2 2 (by decide)
      have h4 := h2 3 (by decide)
      have h5 := h2 4 (by decide)
      simp [ffr, fto, nth] at h0 h1 h3 h4 h5
      omega
    · intro h
      refine okB_true (fun j hj => ?_)
      have : j = 0 ∨ j = 1 ∨ j = 2 ∨ j = 3 ∨ j = 4 := by omega
      rcases this with rfl | rfl | rfl | rfl | rfl <;> simp [ffr, fto, nth] <;> omega)
  unfold tagV tagObj
  go_enter Tryd.func10, Tryd.ntmps10
  go_wp2
  all_goals
    go_returns
    refine ⟨ret_bool ?_, by first | rfl | simp_all⟩
    rw [HO.out, Bool.eq_iff_iff, decide_eq_true_eq]
    simp_all
    try omega

end Go.Proofs.YtjlecncamfdcfaaDoor
