/-
  Texts put together: SpE SpF.
-/
import Derived.Test.YtdaifepjmkmpjaaDoorM13
import Derived.Test.YtdaifepjmkmpjaaDoorM15
/-
  Package script: listOf; blank, numbersOf, sides; fill.
-/
namespace Go.Proofs.YtdaifepjmkmpjaaDoor
set_option linter.unusedVariables false
set_option linter.unusedSimpArgs false
set_option linter.unusedVariables false
set_option linter.unusedSimpArgs false
set_option maxRecDepth 100000
open Go.RowKit

/-! ### listOf -/
/-- Which numbers words tell, if all do. -/
def LstA (s : List UInt8) (w : World) (e : Ending) (w' : World) : Prop := ∃ v ok xs, e = .returned (.tuple #[v, .bool ok]) ∧ OwnI25 w.heap.size w' v xs ∧ ((ok = true ∧ valsOf (splitL 32 s) = some xs) ∨ (ok = false ∧ valsOf (splitL 32 s) = none)) ∧ w.grownBy w' none
def szV : Value → Nat | .string s => s.size | .bool b => if b then 1 else 0 | _ => 0
theorem split_more {rest : List UInt8} (h : (cutL 32 rest).2.2 = true) : splitL 32 rest = (cutL 32 rest).1 :: splitL 32 (cutL 32 rest).2.1 := by rw [split_cut, if_pos h]
theorem split_last {rest : List UInt8} (h : (cutL 32 rest).2.2 = false) : splitL 32 rest = [(cutL 32 rest).1] := by rw [split_cut, h]; rfl
theorem mapM_len25 : ∀ {l : List (List UInt8)} {v : List Int}, l.mapM valOf = some v → v.length = l.length
  | [], v, h => by cases h; rfl
  | x :: l, v, h => by
    rw [List.mapM_cons] at h
    cases hx : valOf x with
    | none => rw [hx] at h; cases h
    | some a =>
      rw [hx] at h
      cases hl : l.mapM valOf with
      | none => rw [hl] at h; cases h
      | some u =>
        rw [hl] at h
        cases h
        simp [mapM_len25 hl]
/-- What stands while words are read. -/
structure LsR (w0 w : World) (s rest : List UInt8) (mo : Bool) (dn : List (List UInt8)) (v : Value) (xs : List Int) : Prop where
  e : splitL 32 s = dn ++ (if mo then splitL 32 rest else [])
  m : dn.mapM valOf = some xs
  o : OwnI25 w0.heap.size w v xs
  l : rest.length ≤ s.length
  x : xs.length ≤ s.length + 1
  g : w0.grownBy w none
set_option maxHeartbeats 1600000 in
theorem listOf_c (s : List UInt8) (w : World) (hL : Lib25 w) (hs : s.length ≤ 1000000) :
    Calls Tryd.prog 45 #[.string (bs s)] w (LstA s w) := by
  have HL := Lib.hid hL
  clear hL
  have HS0 := Lib.hid (show LsR w w s s true [] (.slice none 0 0) [] from ⟨rfl, rfl, own_nil25 w w.heap.size 3, Nat.le_refl _, by simp, Ext.refl w⟩)
  go_enter Tryd.func45, Tryd.ntmps45
  go_wp2
  go_loopw [0, 4, 5] (fun a out m wr => ∃ (rest : List UInt8) (mo : Bool) (dn : List (List UInt8)) (v : Value) (xs : List Int), a = .string (bs rest) ∧ v = out ∧ m = .bool mo ∧ LsR w wr s rest mo dn v xs) (fun a _ m _ => szV a + szV m)
  case atStart => exact ⟨s, true, [], _, [], rfl, rfl, rfl, HS0.out⟩
  case round =>
    obtain ⟨rest, mo, dn, v, xs, rfl, rfl, rfl, hS⟩ := hrel
    have HS := Lib.hid hS
    obtain ⟨ao, ac, rfl⟩ := owns_shape25 hS.o
    clear hS HS0
    cases mo
    · go_wp2
      go_ret2
      have he := HS.out.e
      simp only [Bool.false_eq_true, if_false, List.append_nil] at he
      refine ⟨_, true, xs, rfl, HS.out.o, .inl ⟨rfl, ?_⟩, HS.out.g⟩
      have hne : xs ≠ [] := by
        rintro rfl
        have h1 := mapM_len25 HS.out.m
        rw [← he] at h1
        exact splitL_ne 32 s (List.length_eq_zero_iff.1 h1.symm)
      unfold valsOf
      rw [he, HS.out.m]
      simp [hne]
    · have HCL := Lib.hid (cutL_len 32 rest)
      have HCM := Lib.hid (@split_more rest)
      have HCN := Lib.hid (@split_last rest)
      have hrl : rest.length ≤ 1000000 := by have := HS.out.l; omega
      have C := fun wx h => cut_c rest 32 ⟨#[32]⟩ rfl wx h hrl
      obtain ⟨q1, hq1⟩ : ∃ q, (cutL 32 rest).1 = q := ⟨_, rfl⟩
      obtain ⟨q2, hq2⟩ : ∃ q, (cutL 32 rest).2.1 = q := ⟨_, rfl⟩
      obtain ⟨q3, hq3⟩ : ∃ q, (cutL 32 rest).2.2 = q := ⟨_, rfl⟩
      rw [hq1, hq2, hq3] at C HCL
      rw [hq1, hq3] at HCN
      rw [hq1, hq2, hq3] at HCM
      have HC := Lib.hid C
      have HQL := Lib.hid hrl
      clear C hq1 hq2 hq3 hrl
      go_upto_region 6 with (first
        | (go_at_call 32; refine (HC.out _ (HL.out.ext HS.out.g)).mono ?_; rintro e w1 ⟨rfl, hg1⟩; have HG1 := Lib.hid (ext_trans HS.out.g hg1); have HO1 := Lib.hid (own_kept25 HS.out.o hg1 (by simp)); clear hg1))
      go_upto_region 7 with (first
        | (go_at_call 54; refine (numberOf_c q1 _ (HL.out.ext HG1.out) (by have := HCL.out.1; have := HQL.out; omega)).mono ?_; rintro e w2 ⟨n, ok, rfl, hok, hg2⟩; have HG2 := Lib.hid (ext_trans HG1.out hg2); have HO2 := Lib.hid (own_kept25 HO1.out hg2 (by simp)); have HOK := Lib.hid hok; clear hg2 hok))
      cases ok
      · have HV := Lib.hid (show valOf q1 = none from by rcases HOK.out with ⟨h, _⟩ | ⟨_, h⟩; cases h; exact h)
        go_wp2
        go_ret2
        refine ⟨_, false, [], rfl, own_nil25 w2 w.heap.size 3, .inr ⟨rfl, ?_⟩, HG2.out⟩
        have he := HS.out.e
        simp only [if_true] at he
        have e2 : ∃ r, splitL 32 rest = q1 :: r := by
          cases hq : q3
          · exact ⟨[], HCN.out hq⟩
          · exact ⟨_, HCM.out hq⟩
        obtain ⟨r, e2⟩ := e2
        unfold valsOf
        rw [he, e2, mapM_none HV.out]
      · have HV := Lib.hid (show valOf q1 = some n from by rcases HOK.out with ⟨_, h⟩ | ⟨h, _⟩; exact h; cases h)
        have HO3 := Lib.hid (own_kept25 HO2.out (World.grownBy_alloc w2 (.cells #[.int .i64 n] 3) none) (by simp))
        have HT := Lib.hid (lit_ints1 w2 n)
        have HG3 := Lib.hid (ext_trans HG2.out (World.grownBy_alloc w2 (.cells #[.int .i64 n] 3) none))
        have hx := HS.out.x
        have hxs : xs.length ≤ 1000001 := by omega
        clear hx
        go_wp2_with (at_builtin; refine append_i25 rfl _ _ rfl w.heap.size (.slice ao xs.length ac) xs rfl HO3.out _ [n] rfl HT.out (by simp; omega) (by have := HG3.out.size; omega) ?_; intro v' w3 ho3 hg3; have HO4 := Lib.hid ho3; have HE4 := Lib.hid (show w.grownBy w3 none from grown_trans HG3.out hg3 (fun p hp hlt => by have := own_le25 HO3.out p hp; omega)); clear ho3 hg3)
        go_roundw
        case rel =>
          have he := HS.out.e
          simp only [if_true] at he
          refine ⟨q2, q3, dn ++ [q1], _, xs ++ [n], rfl, rfl, rfl, ?_, ?_, HO4.out, by have := HCL.out.2.1; have := HS.out.l; omega, ?_, HE4.out⟩
          · rw [he]
            cases hq : q3
            · rw [HCN.out hq]; simp
            · rw [HCM.out hq]; simp
          · rw [mapM_snoc _ _ _ HS.out.m, HV.out]; rfl
          · have h1 := mapM_len25 HS.out.m
            have h2 := splitL_length (b := 32) s
            rw [he, List.length_append] at h2
            have h3 : 1 ≤ (splitL 32 rest).length := by
              cases h : splitL 32 rest with
              | nil => exact absurd h (splitL_ne 32 rest)
              | cons a l => simp
            simp; omega
        case measure =>
          simp only [szV, bs_size, if_true]
          cases hq : q3
          · have := HCL.out.2.1; simp; omega
          · have := HCL.out.2.2 hq; simp; omega

/-! ### the numbers' places -/
def offL : Nat → List Nat
  | 0 => [1, 3, 4] | 1 => [1, 3] | 2 => [1] | 3 => [1, 2] | 4 => [1, 6] | 5 => [1, 6] | 6 => [1, 6] | 7 => [1] | 8 => [3] | 9 => [3, 4] | 10 => [3] | _ => []
def ptrV (b o : Nat) : Value := .pointer (some ⟨b, o, none⟩)
def ptrC (b : Nat) (os : List Nat) : Array Value := (os.map (ptrV b)).toArray
/-- What numbersOf answers: a new row of pointers to these places. -/
def PtrA (b : Nat) (os : List Nat) (w : World) (e : Ending) (w' : World) : Prop := ∃ n, e = .returned (.slice (some ⟨n, 0, none⟩) os.length os.length) ∧ Blk w' n 56 (ptrC b os) ∧ w.heap.size ≤ n ∧ w.grownBy w' none
theorem ptr_ret (w : World) (b : Nat) (os : List Nat) : PtrA b os w (.returned (.slice (some ⟨w.heap.size, 0, none⟩) os.length os.length)) (w.alloc (.cells (ptrC b os) 56)) := ⟨w.heap.size, rfl, Blk.new w _ _, Nat.le_refl _, World.grownBy_alloc w _ none⟩
theorem ptr_retd (w : World) (b : Nat) (os : List Nat) : PtrA b os w (.returned (.slice (some ⟨w.heap.size, 0, none⟩) os.length os.length)) (w.alloc (.cells (ptrC b os) 56)).drew := ⟨w.heap.size, rfl, Blk.new w _ _, Nat.le_refl _, ext_trans (World.grownBy_alloc w _ none) (Ext.drew _)⟩
set_option maxHeartbeats 800000 in
theorem numbersOf_0 (w : World) (b : Nat) (k t o a c op pl : Int) (d : List UInt8) (hB : Blk w b 25 (stpC ⟨k, t, o, a, c, op, pl, d⟩)) (hk : k = 1) :
    Calls Tryd.prog 22 #[.pointer (some ⟨b, 0, none⟩)] w (PtrA b [1, 3, 4] w) := by
  have k1 : (k == 1) = true := by rw [beq_iff_eq]; omega
  have c0 : w.cell? ⟨b, 0, none⟩ = some (.int .i64 k) := hB.cell 0
  have c5 : w.cell? ⟨b, 5, none⟩ = some (.int .i64 op) := hB.cell 5
  clear hB hk
  go_enter Tryd.func22, Tryd.ntmps22
  go_upto_region 3 with fail
  clear c0 c5
  refine region_line [(0, true), (1, true), (2, true), (3, true), (4, true), (5, true), (6, true), (7, true), (8, true), (9, false), (10, true)] (fun _ => True) (by kernel_rfl) (by kernel_rfl) (fun _ _ _ d _ h => by cases d <;> exact h) trivial ?_
  iterate 9 (refine line_read (a' := ?_) rfl (by kernel_rfl) (by kernel_rfl) trivial (fun z hz K hK => ?_) ?_; rotate_left; · go_wp2; exact hK)
  refine line_act rfl fun K hK => ?_
  go_wp2
  refine hK _ _ (fun _ => True) trivial (fun _ h => h) ?_
  clear hK K
  iterate 1 (refine line_read (a' := ?_) rfl (by kernel_rfl) (by kernel_rfl) trivial (fun z hz K hK => ?_) ?_; rotate_left; · go_wp2; exact hK)
  refine line_end ?_
  go_wp2
  go_ret
  exact ptr_retd w b [1, 3, 4]
set_option maxHeartbeats 800000 in
theorem numbersOf_1 (w : World) (b : Nat) (k t o a c op pl : Int) (d : List UInt8) (hB : Blk w b 25 (stpC ⟨k, t, o, a, c, op, pl, d⟩)) (hk : k = 2) :
    Calls Tryd.prog 22 #[.pointer (some ⟨b, 0, none⟩)] w (PtrA b [1, 3] w) := by
  have k1 : (k == 1) = false := by rw [beq_eq_false_iff_ne]; omega
  have k2 : (k == 2) = true := by rw [beq_iff_eq]; omega
  have c0 : w.cell? ⟨b, 0, none⟩ = some (.int .i64 k) := hB.cell 0
  have c5 : w.cell? ⟨b, 5, none⟩ = some (.int .i64 op) := hB.cell 5
  clear hB hk
  go_enter Tryd.func22, Tryd.ntmps22
  go_upto_region 5 with fail
  clear c0 c5
  refine region_line [(0, true), (1, true), (2, true), (3, true), (4, true), (5, true), (6, false), (7, true)] (fun _ => True) (by kernel_rfl) (by kernel_rfl) (fun _ _ _ d _ h => by cases d <;> exact h) trivial ?_
  iterate 6 (refine line_read (a' := ?_) rfl (by kernel_rfl) (by kernel_rfl) trivial (fun z hz K hK => ?_) ?_; rotate_left; · go_wp2; exact hK)
  refine line_act rfl fun K hK => ?_
  go_wp2
  refine hK _ _ (fun _ => True) trivial (fun _ h => h) ?_
  clear hK K
  iterate 1 (refine line_read (a' := ?_) rfl (by kernel_rfl) (by kernel_rfl) trivial (fun z hz K hK => ?_) ?_; rotate_left; · go_wp2; exact hK)
  refine line_end ?_
  go_wp2
  go_ret
  exact ptr_retd w b [1, 3]
set_option maxHeartbeats 800000 in
theorem numbersOf_2 (w : World) (b : Nat) (k t o a c op pl : Int) (d : List UInt8) (hB : Blk w b 25 (stpC ⟨k, t, o, a, c, op, pl, d⟩)) (hk : k = 3) :
    Calls Tryd.prog 22 #[.pointer (some ⟨b, 0, none⟩)] w (PtrA b [1] w) := by
  have k1 : (k == 1) = false := by rw [beq_eq_false_iff_ne]; omega
  have k2 : (k == 2) = false := by rw [beq_eq_false_iff_ne]; omega
  have k3 : (k == 3) = true := by rw [beq_iff_eq]; omega
  have c0 : w.cell? ⟨b, 0, none⟩ = some (.int .i64 k) := hB.cell 0
  have c5 : w.cell? ⟨b, 5, none⟩ = some (.int .i64 op) := hB.cell 5
  clear hB hk
  go_enter Tryd.func22, Tryd.ntmps22
  go_wp2
  go_ret
  exact ptr_ret w b [1]
set_option maxHeartbeats 800000 in
theorem numbersOf_3 (w : World) (b : Nat) (k t o a c op pl : Int) (d : List UInt8) (hB : Blk w b 25 (stpC ⟨k, t, o, a, c, op, pl, d⟩)) (hk : k = 4) :
    Calls Tryd.prog 22 #[.pointer (some ⟨b, 0, none⟩)] w (PtrA b [1, 2] w) := by
  have k1 : (k == 1) = false := by rw [beq_eq_false_iff_ne]; omega
  have k2 : (k == 2) = false := by rw [beq_eq_false_iff_ne]; omega
  have k3 : (k == 3) = false := by rw [beq_eq_false_iff_ne]; omega
  have k4 : (k == 4) = true := by rw [beq_iff_eq]; omega
  have c0 : w.cell? ⟨b, 0, none⟩ = some (.int .i64 k) := hB.cell 0
  have c5 : w.cell? ⟨b, 5, none⟩ = some (.int .i64 op) := hB.cell 5
  clear hB hk
  go_enter Tryd.func22, Tryd.ntmps22
  go_upto_region 9 with fail
  clear c0 c5
  refine region_line [(0, true), (1, true), (2, true), (3, true), (4, true), (5, true), (6, false), (7, true)] (fun _ => True) (by kernel_rfl) (by kernel_rfl) (fun _ _ _ d _ h => by cases d <;> exact h) trivial ?_
  iterate 6 (refine line_read (a' := ?_) rfl (by kernel_rfl) (by kernel_rfl) trivial (fun z hz K hK => ?_) ?_; rotate_left; · go_wp2; exact hK)
  refine line_act rfl fun K hK => ?_
  go_wp2
  refine hK _ _ (fun _ => True) trivial (fun _ h => h) ?_
  clear hK K
  iterate 1 (refine line_read (a' := ?_) rfl (by kernel_rfl) (by kernel_rfl) trivial (fun z hz K hK => ?_) ?_; rotate_left; · go_wp2; exact hK)
  refine line_end ?_
  go_wp2
  go_ret
  exact ptr_retd w b [1, 2]
set_option maxHeartbeats 800000 in
theorem numbersOf_4 (w : World) (b : Nat) (k t o a c op pl : Int) (d : List UInt8) (hB : Blk w b 25 (stpC ⟨k, t, o, a, c, op, pl, d⟩)) (hk : k = 5) (ho : op = 1) :
    Calls Tryd.prog 22 #[.pointer (some ⟨b, 0, none⟩)] w (PtrA b [1, 6] w) := by
  have k1 : (k == 1) = false := by rw [beq_eq_false_iff_ne]; omega
  have k2 : (k == 2) = false := by rw [beq_eq_false_iff_ne]; omega
  have k3 : (k == 3) = false := by rw [beq_eq_false_iff_ne]; omega
  have k4 : (k == 4) = false := by rw [beq_eq_false_iff_ne]; omega
  have k7 : (k == 7) = false := by rw [beq_eq_false_iff_ne]; omega
  have k6 : (k == 6) = false := by rw [beq_eq_false_iff_ne]; omega
  have k8 : (k == 8) = false := by rw [beq_eq_false_iff_ne]; omega
  have o4 : (op == 4) = false := by rw [beq_eq_false_iff_ne]; omega
  have c0 : w.cell? ⟨b, 0, none⟩ = some (.int .i64 k) := hB.cell 0
  have c5 : w.cell? ⟨b, 5, none⟩ = some (.int .i64 op) := hB.cell 5
  clear hB hk ho
  go_enter Tryd.func22, Tryd.ntmps22
  go_upto_region 17 with fail
  clear c0 c5
  refine region_line [(0, true), (1, true), (2, true), (3, true), (4, true), (5, true), (6, true), (7, false), (8, true)] (fun _ => True) (by kernel_rfl) (by kernel_rfl) (fun _ _ _ d _ h => by cases d <;> exact h) trivial ?_
  iterate 7 (refine line_read (a' := ?_) rfl (by kernel_rfl) (by kernel_rfl) trivial (fun z hz K hK => ?_) ?_; rotate_left; · go_wp2; exact hK)
  refine line_act rfl fun K hK => ?_
  go_wp2
  refine hK _ _ (fun _ => True) trivial (fun _ h => h) ?_
  clear hK K
  iterate 1 (refine line_read (a' := ?_) rfl (by kernel_rfl) (by kernel_rfl) trivial (fun z hz K hK => ?_) ?_; rotate_left; · go_wp2; exact hK)
  refine line_end ?_
  go_wp2
  go_ret
  exact ptr_retd w b [1, 6]
set_option maxHeartbeats 800000 in
theorem numbersOf_5 (w : World) (b : Nat) (k t o a c op pl : Int) (d : List UInt8) (hB : Blk w b 25 (stpC ⟨k, t, o, a, c, op, pl, d⟩)) (hk : k = 5) (ho : op = 2) :
    Calls Tryd.prog 22 #[.pointer (some ⟨b, 0, none⟩)] w (PtrA b [1, 6] w) := by
  have k1 : (k == 1) = false := by rw [beq_eq_false_iff_ne]; omega
  have k2 : (k == 2) = false := by rw [beq_eq_false_iff_ne]; omega
  have k3 : (k == 3) = false := by rw [beq_eq_false_iff_ne]; omega
  have k4 : (k == 4) = false := by rw [beq_eq_false_iff_ne]; omega
  have k7 : (k == 7) = false := by rw [beq_eq_false_iff_ne]; omega
  have k6 : (k == 6) = false := by rw [beq_eq_false_iff_ne]; omega
  have k8 : (k == 8) = false := by rw [beq_eq_false_iff_ne]; omega
  have o4 : (op == 4) = false := by rw [beq_eq_false_iff_ne]; omega
  have c0 : w.cell? ⟨b, 0, none⟩ = some (.int .i64 k) := hB.cell 0
  have c5 : w.cell? ⟨b, 5, none⟩ = some (.int .i64 op) := hB.cell 5
  clear hB hk ho
  go_enter Tryd.func22, Tryd.ntmps22
  go_upto_region 17 with fail
  clear c0 c5
  refine region_line [(0, true), (1, true), (2, true), (3, true), (4, true), (5, true), (6, true), (7, false), (8, true)] (fun _ => True) (by kernel_rfl) (by kernel_rfl) (fun _ _ _ d _ h => by cases d <;> exact h) trivial ?_
  iterate 7 (refine line_read (a' := ?_) rfl (by kernel_rfl) (by kernel_rfl) trivial (fun z hz K hK => ?_) ?_; rotate_left; · go_wp2; exact hK)
  refine line_act rfl fun K hK => ?_
  go_wp2
  refine hK _ _ (fun _ => True) trivial (fun _ h => h) ?_
  clear hK K
  iterate 1 (refine line_read (a' := ?_) rfl (by kernel_rfl) (by kernel_rfl) trivial (fun z hz K hK => ?_) ?_; rotate_left; · go_wp2; exact hK)
  refine line_end ?_
  go_wp2
  go_ret
  exact ptr_retd w b [1, 6]
set_option maxHeartbeats 800000 in
theorem numbersOf_6 (w : World) (b : Nat) (k t o a c op pl : Int) (d : List UInt8) (hB : Blk w b 25 (stpC ⟨k, t, o, a, c, op, pl, d⟩)) (hk : k = 5) (ho : op = 3) :
    Calls Tryd.prog 22 #[.pointer (some ⟨b, 0, none⟩)] w (PtrA b [1, 6] w) := by
  have k1 : (k == 1) = false := by rw [beq_eq_false_iff_ne]; omega
  have k2 : (k == 2) = false := by rw [beq_eq_false_iff_ne]; omega
  have k3 : (k == 3) = false := by rw [beq_eq_false_iff_ne]; omega
  have k4 : (k == 4) = false := by rw [beq_eq_false_iff_ne]; omega
  have k7 : (k == 7) = false := by rw [beq_eq_false_iff_ne]; omega
  have k6 : (k == 6) = false := by rw [beq_eq_false_iff_ne]; omega
  have k8 : (k == 8) = false := by rw [beq_eq_false_iff_ne]; omega
  have o4 : (op == 4) = false := by rw [beq_eq_false_iff_ne]; omega
  have c0 : w.cell? ⟨b, 0, none⟩ = some (.int .i64 k) := hB.cell 0
  have c5 : w.cell? ⟨b, 5, none⟩ = some (.int .i64 op) := hB.cell 5
  clear hB hk ho
  go_enter Tryd.func22, Tryd.ntmps22
  go_upto_region 17 with fail
  clear c0 c5
  refine region_line [(0, true), (1, true), (2, true), (3, true), (4, true), (5, true), (6, true), (7, false), (8, true)] (fun _ => True) (by kernel_rfl) (by kernel_rfl) (fun _ _ _ d _ h => by cases d <;> exact h) trivial ?_
  iterate 7 (refine line_read (a' := ?_) rfl (by kernel_rfl) (by kernel_rfl) trivial (fun z hz K hK => ?_) ?_; rotate_left; · go_wp2; exact hK)
  refine line_act rfl fun K hK => ?_
  go_wp2
  refine hK _ _ (fun _ => True) trivial (fun _ h => h) ?_
  clear hK K
  iterate 1 (refine line_read (a' := ?_) rfl (by kernel_rfl) (by kernel_rfl) trivial (fun z hz K hK => ?_) ?_; rotate_left; · go_wp2; exact hK)
  refine line_end ?_
  go_wp2
  go_ret
  exact ptr_retd w b [1, 6]
set_option maxHeartbeats 800000 in
theorem numbersOf_7 (w : World) (b : Nat) (k t o a c op pl : Int) (d : List UInt8) (hB : Blk w b 25 (stpC ⟨k, t, o, a, c, op, pl, d⟩)) (hk : k = 5) (ho : op = 4) :
    Calls Tryd.prog 22 #[.pointer (some ⟨b, 0, none⟩)] w (PtrA b [1] w) := by
  have k1 : (k == 1) = false := by rw [beq_eq_false_iff_ne]; omega
  have k2 : (k == 2) = false := by rw [beq_eq_false_iff_ne]; omega
  have k3 : (k == 3) = false := by rw [beq_eq_false_iff_ne]; omega
  have k4 : (k == 4) = false := by rw [beq_eq_false_iff_ne]; omega
  have k7 : (k == 7) = false := by rw [beq_eq_false_iff_ne]; omega
  have k6 : (k == 6) = false := by rw [beq_eq_false_iff_ne]; omega
  have k8 : (k == 8) = false := by rw [beq_eq_false_iff_ne]; omega
  have o4 : (op == 4) = true := by rw [beq_iff_eq]; omega
  have c0 : w.cell? ⟨b, 0, none⟩ = some (.int .i64 k) := hB.cell 0
  have c5 : w.cell? ⟨b, 5, none⟩ = some (.int .i64 op) := hB.cell 5
  clear hB hk ho
  go_enter Tryd.func22, Tryd.ntmps22
  go_wp2
  go_ret
  exact ptr_ret w b [1]
set_option maxHeartbeats 800000 in
theorem numbersOf_8 (w : World) (b : Nat) (k t o a c op pl : Int) (d : List UInt8) (hB : Blk w b 25 (stpC ⟨k, t, o, a, c, op, pl, d⟩)) (hk : k = 6) :
    Calls Tryd.prog 22 #[.pointer (some ⟨b, 0, none⟩)] w (PtrA b [3] w) := by
  have k1 : (k == 1) = false := by rw [beq_eq_false_iff_ne]; omega
  have k2 : (k == 2) = false := by rw [beq_eq_false_iff_ne]; omega
  have k3 : (k == 3) = false := by rw [beq_eq_false_iff_ne]; omega
  have k4 : (k == 4) = false := by rw [beq_eq_false_iff_ne]; omega
  have k7 : (k == 7) = false := by rw [beq_eq_false_iff_ne]; omega
  have k6 : (k == 6) = true := by rw [beq_iff_eq]; omega
  have c0 : w.cell? ⟨b, 0, none⟩ = some (.int .i64 k) := hB.cell 0
  have c5 : w.cell? ⟨b, 5, none⟩ = some (.int .i64 op) := hB.cell 5
  clear hB hk
  go_enter Tryd.func22, Tryd.ntmps22
  go_wp2
  go_ret
  exact ptr_ret w b [3]
set_option maxHeartbeats 800000 in
theorem numbersOf_9 (w : World) (b : Nat) (k t o a c op pl : Int) (d : List UInt8) (hB : Blk w b 25 (stpC ⟨k, t, o, a, c, op, pl, d⟩)) (hk : k = 7) :
    Calls Tryd.prog 22 #[.pointer (some ⟨b, 0, none⟩)] w (PtrA b [3, 4] w) := by
  have k1 : (k == 1) = false := by rw [beq_eq_false_iff_ne]; omega
  have k2 : (k == 2) = false := by rw [beq_eq_false_iff_ne]; omega
  have k3 : (k == 3) = false := by rw [beq_eq_false_iff_ne]; omega
  have k4 : (k == 4) = false := by rw [beq_eq_false_iff_ne]; omega
  have k7 : (k == 7) = true := by rw [beq_iff_eq]; omega
  have c0 : w.cell? ⟨b, 0, none⟩ = some (.int .i64 k) := hB.cell 0
  have c5 : w.cell? ⟨b, 5, none⟩ = some (.int .i64 op) := hB.cell 5
  clear hB hk
  go_enter Tryd.func22, Tryd.ntmps22
  go_upto_region 11 with fail
  clear c0 c5
  refine region_line [(0, true), (1, true), (2, true), (3, true), (4, true), (5, true), (6, false), (7, true)] (fun _ => True) (by kernel_rfl) (by kernel_rfl) (fun _ _ _ d _ h => by cases d <;> exact h) trivial ?_
  iterate 6 (refine line_read (a' := ?_) rfl (by kernel_rfl) (by kernel_rfl) trivial (fun z hz K hK => ?_) ?_; rotate_left; · go_wp2; exact hK)
  refine line_act rfl fun K hK => ?_
  go_wp2
  refine hK _ _ (fun _ => True) trivial (fun _ h => h) ?_
  clear hK K
  iterate 1 (refine line_read (a' := ?_) rfl (by kernel_rfl) (by kernel_rfl) trivial (fun z hz K hK => ?_) ?_; rotate_left; · go_wp2; exact hK)
  refine line_end ?_
  go_wp2
  go_ret
  exact ptr_retd w b [3, 4]
set_option maxHeartbeats 800000 in
theorem numbersOf_10 (w : World) (b : Nat) (k t o a c op pl : Int) (d : List UInt8) (hB : Blk w b 25 (stpC ⟨k, t, o, a, c, op, pl, d⟩)) (hk : k = 8) :
    Calls Tryd.prog 22 #[.pointer (some ⟨b, 0, none⟩)] w (PtrA b [3] w) := by
  have k1 : (k == 1) = false := by rw [beq_eq_false_iff_ne]; omega
  have k2 : (k == 2) = false := by rw [beq_eq_false_iff_ne]; omega
  have k3 : (k == 3) = false := by rw [beq_eq_false_iff_ne]; omega
  have k4 : (k == 4) = false := by rw [beq_eq_false_iff_ne]; omega
  have k7 : (k == 7) = false := by rw [beq_eq_false_iff_ne]; omega
  have k6 : (k == 6) = false := by rw [beq_eq_false_iff_ne]; omega
  have k8 : (k == 8) = true := by rw [beq_iff_eq]; omega
  have c0 : w.cell? ⟨b, 0, none⟩ = some (.int .i64 k) := hB.cell 0
  have c5 : w.cell? ⟨b, 5, none⟩ = some (.int .i64 op) := hB.cell 5
  clear hB hk
  go_enter Tryd.func22, Tryd.ntmps22
  go_wp2
  go_ret
  exact ptr_ret w b [3]
theorem numbersOf_c (w : World) (b : Nat) (y : Stp) (hB : Blk w b 25 (stpC y)) (j : Nat) (hj : j < 11) (hk : (y.k, y.op) = kOf j) : Calls Tryd.prog 22 #[.pointer (some ⟨b, 0, none⟩)] w (PtrA b (offL j) w) := by
  obtain ⟨k, t, o, a, c, op, pl, d⟩ := y
  obtain rfl | rfl | rfl | rfl | rfl | rfl | rfl | rfl | rfl | rfl | rfl : j = 0 ∨ j = 1 ∨ j = 2 ∨ j = 3 ∨ j = 4 ∨ j = 5 ∨ j = 6 ∨ j = 7 ∨ j = 8 ∨ j = 9 ∨ j = 10 := by omega
  · exact numbersOf_0 w b k t o a c op pl d hB (congrArg Prod.fst hk)
  · exact numbersOf_1 w b k t o a c op pl d hB (congrArg Prod.fst hk)
  · exact numbersOf_2 w b k t o a c op pl d hB (congrArg Prod.fst hk)
  · exact numbersOf_3 w b k t o a c op pl d hB (congrArg Prod.fst hk)
  · exact numbersOf_4 w b k t o a c op pl d hB (congrArg Prod.fst hk) (congrArg Prod.snd hk)
  · exact numbersOf_5 w b k t o a c op pl d hB (congrArg Prod.fst hk) (congrArg Prod.snd hk)
  · exact numbersOf_6 w b k t o a c op pl d hB (congrArg Prod.fst hk) (congrArg Prod.snd hk)
  · exact numbersOf_7 w b k t o a c op pl d hB (congrArg Prod.fst hk) (congrArg Prod.snd hk)
  · exact numbersOf_8 w b k t o a c op pl d hB (congrArg Prod.fst hk)
  · exact numbersOf_9 w b k t o a c op pl d hB (congrArg Prod.fst hk)
  · exact numbersOf_10 w b k t o a c op pl d hB (congrArg Prod.fst hk)
set_option maxHeartbeats 800000 in
theorem sides_c (w : World) (b : Nat) (hb : b < w.heap.size) : Calls Tryd.prog 56 #[.pointer (some ⟨b, 0, none⟩)] w (PtrA b [0, 1, 2, 3] w) := by
  go_enter Tryd.func56, Tryd.ntmps56
  go_upto_region 1 with fail
  refine region_line [(0, true), (1, true), (2, true), (3, true), (4, true), (5, true), (6, true), (7, true), (8, true), (9, true), (10, true), (11, true), (12, false), (13, true)] (fun _ => True) (by kernel_rfl) (by kernel_rfl) (fun _ _ _ d _ h => by cases d <;> exact h) trivial ?_
  iterate 12 (refine line_read (a' := ?_) rfl (by kernel_rfl) (by kernel_rfl) trivial (fun z hz K hK => ?_) ?_; rotate_left; · go_wp2; exact hK)
  refine line_act rfl fun K hK => ?_
  go_wp2
  refine hK _ _ (fun _ => True) trivial (fun _ h => h) ?_
  clear hK K
  iterate 1 (refine line_read (a' := ?_) rfl (by kernel_rfl) (by kernel_rfl) trivial (fun z hz K hK => ?_) ?_; rotate_left; · go_wp2; exact hK)
  refine line_end ?_
  go_wp2
  go_ret
  exact ptr_retd w b [0, 1, 2, 3]
end Go.Proofs.YtdaifepjmkmpjaaDoor

/-
  Package script: blank, fill.
-/
namespace Go.Proofs.YtdaifepjmkmpjaaDoor
set_option linter.unusedVariables false
set_option linter.unusedSimpArgs false
set_option linter.unusedVariables false
set_option linter.unusedSimpArgs false
set_option maxRecDepth 100000
open Go.RowKit

def blankS (p q : Int) : Stp := ⟨p, 0, 0, 0, 0, q, 0, []⟩
theorem results_cell1 {P : Program} {fn : Func} {p : Tmp} {ty : TypeId} {tmps : Array Value} {w : World} {g : Nat} {bt : TypeId} {cs : Array Value} {d : TypeDesc} (h : fn.results = #[.cell p ty])
    (hp : tmps.getD p undef = .pointer (some ⟨g, 0, none⟩)) (hg : w.heap[g]? = some (.cells cs bt (0, 0)))
    (hu : P.underlying ty = some d) (hd : (match d with | .struct _ | .array _ _ => true | _ => false) = true) (hi : (P.info? ty).map (·.size) = some cs.size) :
    (results fn tmps).run P w = .ok (.agg cs) w := by
  have hp' : tmps[p]?.getD undef = .pointer (some ⟨g, 0, none⟩) := by simpa using hp
  simp [results, h, hp', asAddr, run_loadVar_row w g bt ty cs (0, 0) d hg hu hd hi]
set_option maxHeartbeats 800000 in
theorem blank_c (p q : Int) (w : World) : Calls Tryd.prog 21 #[.agg #[.int .i64 p, .int .i64 q]] w fun e w' => e = .returned (.agg (stpC (blankS p q))) ∧ w.grownBy w' none := by
  have hBp := Blk.new w 50 #[.int .i64 p, .int .i64 q]
  have hE0 := World.grownBy_alloc w (.cells #[.int .i64 p, .int .i64 q] 50) none
  have hsz : (w.alloc (.cells #[.int .i64 p, .int .i64 q] 50)).heap.size = w.heap.size + 1 := by simp
  obtain ⟨w0, hw0⟩ : ∃ z, w.alloc (.cells #[.int .i64 p, .int .i64 q] 50) = z := ⟨_, rfl⟩
  rw [hw0] at hBp hE0 hsz
  have hBs := Blk.newAt w0 (w.heap.size + 1) hsz 25 #[.int .i64 0, .int .i64 0, .int .i64 0, .int .i64 0, .int .i64 0, .int .i64 0, .int .i64 0, .string ⟨#[]⟩]
  have hE1 := World.grownBy_alloc w0 (.cells #[.int .i64 0, .int .i64 0, .int .i64 0, .int .i64 0, .int .i64 0, .int .i64 0, .int .i64 0, .string ⟨#[]⟩] 25) none
  have hBp1 := hBp.ext hE1
  obtain ⟨w1, hw1⟩ : ∃ z, w0.alloc (.cells #[.int .i64 0, .int .i64 0, .int .i64 0, .int .i64 0, .int .i64 0, .int .i64 0, .int .i64 0, .string ⟨#[]⟩] 25) = z := ⟨_, rfl⟩
  rw [hw1] at hBs hE1 hBp1
  have HB := Lib.hid hBs
  have HE := Lib.hid (ext_trans hE0 hE1)
  have HW0 := Lib.hid hw0
  have HW1 := Lib.hid hw1
  have d0 : w1.cell? ⟨w.heap.size, 0, none⟩ = some (.int .i64 p) := hBp1.cell 0
  have d1 : w1.cell? ⟨w.heap.size, 1, none⟩ = some (.int .i64 q) := hBp1.cell 1
  clear hBp hE0 hw0 hE1 hw1 hBp1 hBs hsz
  go_enter Tryd.func21, Tryd.ntmps21
  go_upto_region 1 with fail
  rw [HW0.out, HW1.out]
  go_wp2_with (first
    | (refine stp_store (z := blankS p q) rfl _ _ rfl rfl rfl HB.out rfl ?_; intro w5 hb5 hg5 hs5; have HB5 := Lib.hid hb5; have HE5 := Lib.hid (grown_trans HE.out hg5 (fun k hk hlt => by injection hk with hk; omega)); clear hb5 hg5 hs5))
  refine bodyPost_ret (results_cell1 (fn := Tryd.f21) rfl rfl HB5.out Tryd.underlying25 rfl Tryd.sizeStp25) rfl ?_
  exact ⟨rfl, HE5.out⟩

/-! ### fill -/
def fillC (cs : Array Value) : List Nat → List Int → Array Value
  | o :: os, v :: vs => fillC (cs.setIfInBounds o (.int .i64 v)) os vs
  | _, _ => cs
theorem fillC_size : ∀ (os : List Nat) (vs : List Int) (cs : Array Value), (fillC cs os vs).size = cs.size
  | [], _, cs => rfl
  | _ :: _, [], cs => rfl
  | o :: os, v :: vs, cs => by simp only [fillC]; rw [fillC_size]; simp
theorem fillC_snoc : ∀ (os : List Nat) (vs : List Int) (cs : Array Value) (o : Nat) (v : Int), os.length = vs.length → fillC cs (os ++ [o]) (vs ++ [v]) = (fillC cs os vs).setIfInBounds o (.int .i64 v)
  | [], [], cs, o, v, _ => rfl
  | [], _ :: _, cs, o, v, h => by simp at h
  | _ :: _, [], cs, o, v, h => by simp at h
  | p :: os, u :: vs, cs, o, v, h => by
    simp only [List.cons_append, fillC]
    exact fillC_snoc os vs _ o v (by simpa using h)
/-- What fill comes to. -/
def FilA (b : Nat) (T : TypeId) (cs : Array Value) (os : List Nat) (ws : List (List UInt8)) (w : World) (e : Ending) (w' : World) : Prop := ∃ ok, e = .returned (.bool ok) ∧ w.grownBy w' (some b) ∧ ((ok = true ∧ ∃ vs, ws.mapM valOf = some vs ∧ ws.length = os.length ∧ Blk w' b T (fillC cs os vs)) ∨ (ok = false ∧ (ws.length = os.length → ws.mapM valOf = none)))
/-- What stands while numbers are filled. -/
structure FlM (w0 w : World) (nb b : Nat) (T : TypeId) (cs : Array Value) (os : List Nat) (ws : List (List UInt8)) (a : Option Addr) (k : Nat) (vs : List Int) : Prop where
  pp : Blk w nb 56 (ptrC b os)
  bb : Blk w b T (fillC cs (os.take k) vs)
  t : TxR w a (ws.map bs)
  m : (ws.take k).mapM valOf = some vs
  g : w0.grownBy w (some b)
theorem txr_kept {w w' : World} {a : Option Addr} {ss : List ByteArray} {r : Option Nat} (h : TxR w a ss) (hg : w.grownBy w' r) (hne : ∀ ad, a = some ad → some ad.block ≠ r) : TxR w' a ss := fun i hi => by
  obtain ⟨b, off, rfl, h2⟩ := h i hi
  exact ⟨b, off, rfl, hg.cell h2 (hne ⟨b, off, none⟩ rfl)⟩
theorem FlM.next {w0 w w' : World} {nb b : Nat} {T : TypeId} {cs : Array Value} {os : List Nat} {ws : List (List UInt8)} {a : Option Addr} {k : Nat} {vs : List Int} (h : FlM w0 w nb b T cs os ws a k vs) (hg : w.grownBy w' none) : FlM w0 w' nb b T cs os ws a k vs :=
  ⟨h.pp.ext hg, h.bb.ext hg, h.t.ext hg, h.m, grown_trans h.g hg (by simp)⟩
theorem lib_some {w0 w : World} {b : Nat} (h : ∀ wx, w0.grownBy wx (some b) → Lib25 wx) (hg : w0.grownBy w (some b)) : Lib25 w := h w hg
set_option maxHeartbeats 3200000 in
theorem fill_c (w : World) (nb b : Nat) (T : TypeId) (cs : Array Value) (os : List Nat) (ws : List (List UInt8)) (a : Option Addr) (cap : Nat) (hL : ∀ wx, w.grownBy wx (some b) → Lib25 wx) (hP : Blk w nb 56 (ptrC b os)) (hB : Blk w b T cs) (hT : TxR w a (ws.map bs)) (hne : nb ≠ b) (ha : ∀ ad, a = some ad → ad.block ≠ b) (ho : ∀ o ∈ os, o < cs.size) (hol : os.length ≤ 100) (hw : ∀ x ∈ ws, x.length ≤ 1000000) (hwl : ws.length ≤ 1000) (hcap : ws.length ≤ cap) :
    Calls Tryd.prog 40 #[.slice (some ⟨nb, 0, none⟩) os.length os.length, .slice a ws.length cap] w (FilA b T cs os ws w) := by
  by_cases hlen : ws.length = os.length
  · have HL := Lib.hid hL
    have HF := Lib.hid (And.intro hne (And.intro ha (And.intro ho (And.intro hw hlen))))
    have HS0 := Lib.hid (show FlM w w nb b T cs os ws a 0 [] from ⟨hP, by simpa [fillC] using hB, hT, rfl, ⟨rfl, rfl, rfl, Nat.le_refl _, fun _ _ _ => rfl⟩⟩)
    obtain ⟨n, hn⟩ : ∃ n, ws.length = n := ⟨_, rfl⟩
    have HN := Lib.hid hn
    have hon : os.length = n := by omega
    have HON := Lib.hid hon
    rw [hn] at hwl
    rw [hn, hon]
    clear hL hP hB hT hne ha ho hw hlen hcap hn hon
    go_enter Tryd.func40, Tryd.ntmps40
    go_wp2
    go_loopw [16] (fun i wr => ∃ (k : Nat) (vs : List Int), k ≤ n ∧ i = .int .i64 k ∧ FlM w wr nb b T cs os ws a k vs) (fun i _ => n - (intOf i).toNat)
    case atStart => exact ⟨0, [], by omega, rfl, HS0.out⟩
    case round =>
      obtain ⟨k, vs, hk, rfl, hS⟩ := hrel
      have HS := Lib.hid hS
      clear hS HS0
      by_cases hlt : k < n
      · obtain ⟨ab, aoff, rfl, hc⟩ := HS.out.t k (by rw [List.length_map, HN.out]; exact hlt)
        obtain ⟨x, hx⟩ : ∃ x, ws.getD k [] = x := ⟨_, rfl⟩
        have hx2 : ws[k]? = some x := by rw [← hx, List.getD_eq_getElem?_getD, List.getElem?_eq_getElem (by rw [HN.out]; exact hlt)]; rfl
        have hcx : (ws.map bs).getD k ByteArray.empty = bs x := by rw [List.getD_eq_getElem?_getD, List.getElem?_map, hx2]; rfl
        rw [hcx] at hc
        have HXL := Lib.hid (HF.out.2.2.2.1 x (List.mem_of_getElem? hx2))
        have HX := Lib.hid (show ws.take (k + 1) = ws.take k ++ [x] from by rw [List.take_add_one, hx2]; rfl)
        have HX2 := Lib.hid (show ws = ws.take k ++ x :: ws.drop (k + 1) from by
          rw [← List.singleton_append, ← List.append_assoc, ← HX.out, List.take_append_drop])
        clear hx hx2 hcx
        go_upto_region 7 with (go_at_call 54; refine (numberOf_c x _ (HL.out _ HS.out.g) HXL.out).mono ?_; rintro e w2 ⟨m, ok, rfl, hok, hg2⟩; have HS2 := Lib.hid (HS.out.next hg2); have HOK := Lib.hid hok; clear hg2 hok)
        cases ok
        · have HV := Lib.hid (show valOf x = none from by rcases HOK.out with ⟨h, _⟩ | ⟨_, h⟩; cases h; exact h)
          go_wp2
          go_ret
          exact ⟨false, rfl, HS2.out.g, .inr ⟨rfl, fun _ => by rw [HX2.out]; exact mapM_none HV.out⟩⟩
        · have HV := Lib.hid (show valOf x = some m from by rcases HOK.out with ⟨_, h⟩ | ⟨h, _⟩; exact h; cases h)
          have hko : k < os.length := by rw [HON.out]; exact hlt
          obtain ⟨o, hoo⟩ : ∃ o, os[k]'hko = o := ⟨_, rfl⟩
          have hos : os[k]? = some o := by rw [List.getElem?_eq_getElem hko, hoo]
          have HOS := Lib.hid (show os.take (k + 1) = os.take k ++ [o] from by rw [List.take_add_one, hos]; rfl)
          have hocs : o < cs.size := HF.out.2.2.1 o (by rw [← hoo]; exact List.getElem_mem hko)
          have p1 : w2.cell? ⟨nb, k, none⟩ = some (.pointer (some ⟨b, o, none⟩)) := (HS2.out.pp.cell k).trans (by simp [ptrC, hos, ptrV])
          obtain ⟨u, hu⟩ : ∃ u, (fillC cs (os.take k) vs)[o]? = some u := ⟨_, Array.getElem?_eq_getElem (by rw [fillC_size]; exact hocs)⟩
          have p2 : w2.cell? ⟨b, o, none⟩ = some u := (HS2.out.bb.cell o).trans hu
          have p3 : w2.frozen? ⟨b, o, none⟩ = false := HS2.out.bb.free o
          clear hc hko hoo hos hocs hu
          go_wp2
          go_roundw
          case rel =>
            refine ⟨k + 1, vs ++ [m], by omega, by go_num, HS2.out.pp.far HF.out.1 _, ?_, ?_, ?_, ?_⟩
            · rw [HOS.out, fillC_snoc _ _ _ _ _ (by rw [mapM_len25 HS2.out.m, List.length_take, List.length_take, HN.out, HON.out])]
              exact HS2.out.bb.set o _
            · exact txr_kept HS2.out.t (grown_set w2 ⟨b, o, none⟩ _) (fun ad h e => HF.out.2.1 ad h (by injection e))
            · rw [HX.out, mapM_snoc _ _ _ HS2.out.m, HV.out]; rfl
            · exact grown_trans HS2.out.g (grown_set w2 ⟨b, o, none⟩ _) (by simp)
          case measure => simp [intOf]; omega
      · obtain rfl : k = n := by omega
        go_wp2
        go_ret
        refine ⟨true, rfl, HS.out.g, .inl ⟨rfl, vs, ?_, HF.out.2.2.2.2, ?_⟩⟩
        · have := HS.out.m
          rwa [List.take_of_length_le (by rw [HN.out]; exact Nat.le_refl _)] at this
        · have := HS.out.bb
          rwa [List.take_of_length_le (by rw [HON.out]; exact Nat.le_refl _)] at this
  · have HF := Lib.hid hlen
    have hi : ((ws.length : Int) == (os.length : Int)) = false := by rw [beq_eq_false_iff_ne]; omega
    obtain ⟨n, hn⟩ : ∃ n, ws.length = n := ⟨_, rfl⟩
    obtain ⟨m, hm⟩ : ∃ n, os.length = n := ⟨_, rfl⟩
    rw [hn, hm] at hi
    rw [hn, hm]
    clear hL hP hB hT hne ha ho hw hlen hcap hn hm
    go_enter Tryd.func40, Tryd.ntmps40
    go_wp2
    go_ret
    exact ⟨false, rfl, ⟨rfl, rfl, rfl, Nat.le_refl _, fun _ _ _ => rfl⟩, .inr ⟨rfl, fun h => absurd h HF.out⟩⟩
end Go.Proofs.YtdaifepjmkmpjaaDoor
