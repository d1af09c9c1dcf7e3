/-
  Texts put together: ScG.
-/
import Derived.Test.YtdaifepjmkmpjaaDoorM07
/-
  Layer 25's reference: Line (steps of the admin).
-/
namespace Go.Proofs.YtdaifepjmkmpjaaDoor
set_option linter.unusedVariables false
set_option linter.unusedSimpArgs false
set_option linter.unusedVariables false
set_option linter.unusedSimpArgs false
set_option maxRecDepth 100000
open Go.RowKit

set_option maxHeartbeats 1600000 in
theorem line25_0 (w : World) (k t o a b op pl : Int) (d : List UInt8) (hx : Stp.rng ⟨k, t, o, a, b, op, pl, d⟩) (hd : d.length ≤ 2000) (hk : k = 1) (hj : kdL ⟨k, t, o, a, b, op, pl, d⟩ = 0) :
    Calls Tryd.prog 9 #[.agg (stpC ⟨k, t, o, a, b, op, pl, d⟩)] w (LineA ⟨k, t, o, a, b, op, pl, d⟩ w) := by
  have hk1 : ((k == 1) = true) := by rw [beq_iff_eq]; omega
  have M : LnG w (((w.alloc (.cells #[.int .i64 k, .int .i64 t, .int .i64 o, .int .i64 a, .int .i64 b, .int .i64 op, .int .i64 pl, .string (bs d)] 25)).alloc (.cells #[.int .i64 op, .int .i64 pl, .string (bs d)] 23)).alloc (.cells #[.int .i64 k, .int .i64 t, .int .i64 0, .int .i64 0, .int .i64 0, .int .i64 0, .int .i64 0, .string ⟨#[]⟩] 25)) w.heap.size ⟨k, t, o, a, b, op, pl, d⟩ ⟨k, t, 0, 0, 0, 0, 0, []⟩ := ⟨lnM_new w ⟨k, t, o, a, b, op, pl, d⟩, lnM_grown w ⟨k, t, o, a, b, op, pl, d⟩ ⟨k, t, 0, 0, 0, 0, 0, []⟩ #[.int .i64 op, .int .i64 pl, .string (bs d)], Nat.le_refl _⟩
  obtain ⟨w3, hw3⟩ : ∃ z, ((w.alloc (.cells #[.int .i64 k, .int .i64 t, .int .i64 o, .int .i64 a, .int .i64 b, .int .i64 op, .int .i64 pl, .string (bs d)] 25)).alloc (.cells #[.int .i64 op, .int .i64 pl, .string (bs d)] 23)).alloc (.cells #[.int .i64 k, .int .i64 t, .int .i64 0, .int .i64 0, .int .i64 0, .int .i64 0, .int .i64 0, .string ⟨#[]⟩] 25) = z := ⟨_, rfl⟩
  rw [hw3] at M
  unfold stpC
  simp only
  have HJ := Lib.hid hj
  have HK := Lib.hid hk
  have HX := Lib.hid hx
  have HW := Lib.hid hw3
  have HM := Lib.hid M
  clear M hx hw3 hk hj
  go_enter Tryd.func9, Tryd.ntmps9
  go_upto_region 6 with fail
  rw [HW.out]
  obtain ⟨n, hn⟩ : ∃ n, w.heap.size = n := ⟨_, rfl⟩
  have M := HM.out
  rw [hn] at M
  rw [hn]
  clear hn HW HM
  have HM := Lib.hid M
  have hS : (fun z : World => z.cell? ⟨n, 3, none⟩ = some (.int .i64 a) ∧ z.cell? ⟨n, 4, none⟩ = some (.int .i64 b)) w3.drew := ⟨M.m.p.cell 3, M.m.p.cell 4⟩
  have M0 := Lib.hid M.drew
  clear M HM
  refine region_line [(0, true), (1, true), (2, true), (3, true), (4, true), (5, false), (6, true), (7, false)] (fun z : World => z.cell? ⟨n, 3, none⟩ = some (.int .i64 a) ∧ z.cell? ⟨n, 4, none⟩ = some (.int .i64 b)) (by kernel_rfl) (by kernel_rfl) (fun _ _ _ d _ h => by cases d <;> exact h) hS ?_
  obtain ⟨w4, hw4⟩ : ∃ z, w3.drew = z := ⟨_, rfl⟩
  rw [hw4] at M0 hS ⊢
  clear hw4
  iterate 5 (refine line_read (a' := ?_) rfl (by kernel_rfl) (by kernel_rfl) hS (fun z hz K hK => ?_) ?_; rotate_left; · (obtain ⟨c3, c4⟩ := hz; go_wp2; exact hK))
  have dc : w4.cell? ⟨n + 1 + 1, 3, none⟩ = some (.int .i64 0) := M0.out.m.d.cell 3
  have fc : w4.frozen? ⟨n + 1 + 1, 3, none⟩ = false := M0.out.m.d.free 3
  have hq := M0.out.set (i := 3) (v := .int .i64 a) (z := ⟨k, t, 0, a, 0, 0, 0, []⟩) rfl
  refine line_act rfl fun K hK => ?_
  go_wp2
  obtain ⟨w5, hw⟩ : ∃ z, w4.setCell ⟨n + 1 + 1, 3, none⟩ (.int .i64 a) = z := ⟨_, rfl⟩
  rw [hw] at hq ⊢
  have hS : (fun z : World => z.cell? ⟨n, 3, none⟩ = some (.int .i64 a) ∧ z.cell? ⟨n, 4, none⟩ = some (.int .i64 b)) w5 := ⟨hq.m.p.cell 3, hq.m.p.cell 4⟩
  have M1 := Lib.hid hq
  refine hK _ _ (fun z : World => z.cell? ⟨n, 3, none⟩ = some (.int .i64 a) ∧ z.cell? ⟨n, 4, none⟩ = some (.int .i64 b)) hS (fun _ h => h) ?_
  clear hK K hw hq dc fc
  iterate 1 (refine line_read (a' := ?_) rfl (by kernel_rfl) (by kernel_rfl) hS (fun z hz K hK => ?_) ?_; rotate_left; · (obtain ⟨c3, c4⟩ := hz; go_wp2; exact hK))
  have dc : w5.cell? ⟨n + 1 + 1, 4, none⟩ = some (.int .i64 0) := M1.out.m.d.cell 4
  have fc : w5.frozen? ⟨n + 1 + 1, 4, none⟩ = false := M1.out.m.d.free 4
  have hq := M1.out.set (i := 4) (v := .int .i64 b) (z := ⟨k, t, 0, a, b, 0, 0, []⟩) rfl
  refine line_act rfl fun K hK => ?_
  go_wp2
  obtain ⟨w6, hw⟩ : ∃ z, w5.setCell ⟨n + 1 + 1, 4, none⟩ (.int .i64 b) = z := ⟨_, rfl⟩
  rw [hw] at hq ⊢
  have hS : (fun z : World => z.cell? ⟨n, 3, none⟩ = some (.int .i64 a) ∧ z.cell? ⟨n, 4, none⟩ = some (.int .i64 b)) w6 := ⟨hq.m.p.cell 3, hq.m.p.cell 4⟩
  have M2 := Lib.hid hq
  refine hK _ _ (fun z : World => z.cell? ⟨n, 3, none⟩ = some (.int .i64 a) ∧ z.cell? ⟨n, 4, none⟩ = some (.int .i64 b)) hS (fun _ h => h) ?_
  clear hK K hw hq dc fc
  refine line_end ?_
  have hM := M2.out
  clear hS
  go_upto_region 7 with fail
  have HM := Lib.hid hM
  have c_t : w6.cell? ⟨n, 1, none⟩ = some (.int .i64 t) := hM.m.p.cell 1
  have c_a : w6.cell? ⟨n, 3, none⟩ = some (.int .i64 a) := hM.m.p.cell 3
  have c_b : w6.cell? ⟨n, 4, none⟩ = some (.int .i64 b) := hM.m.p.cell 4
  have hr0 : ∀ m ∈ ([t, a, b] : List Int), i64B m := by
    intro m hm
    simp only [List.mem_cons, List.not_mem_nil, or_false] at hm
    rcases hm with rfl | rfl | rfl
    · exact HX.out.t
    · exact HX.out.a
    · exact HX.out.b
  have hr1 := numsL_len hr0
  have HR := Lib.hid hr0
  obtain ⟨r, hr⟩ : ∃ r, numsL [t, a, b] = r := ⟨_, rfl⟩
  rw [hr] at hr1
  have hr2 : r.length ≤ 66 := by simp at hr1; omega
  have hw1 : wordsL 0 ⟨k, t, o, a, b, op, pl, d⟩ = List.map numL [t, a, b] := rfl
  have HS := Lib.hid (show spellL 0 ⟨k, t, o, a, b, op, pl, d⟩ = nmL 0 ++ r from by rw [spell_nums _ _ _ hw1, hr])
  have HRR := Lib.hid hr
  clear hM hr0 hr1 hr hw1
  have hI : Ints (w6.alloc (.cells #[.int .i64 t, .int .i64 a, .int .i64 b] 3)) (.slice (some ⟨w6.heap.size, 0, none⟩) 3 3) [t, a, b] := lit_ints w6 [t, a, b]
  have HI := Lib.hid hI
  have a1 := add_bs (nmL 0) r (by (have : (nmL 0).length ≤ 10 := by decide); omega)
  have a2 : ∀ z, (Op.stringOp .add ⟨#[99, 114, 101, 97, 116, 101]⟩ (bs r)).run Tryd.prog z = .ok (.string (bs (nmL 0 ++ r))) z := a1
  obtain ⟨s, hs⟩ : ∃ s, nmL 0 ++ r = s := ⟨_, rfl⟩
  rw [hs] at a2
  have HS2 := Lib.hid hs
  clear hI a1 hs
  go_upto_region 37 with (go_at_call 25; refine (nums25 _ _ [t, a, b] HI.out HR.out (by simp)).mono ?_; rintro e w8 ⟨rfl, hg8⟩; rw [HRR.out]; have HM8 := Lib.hid (HM.out.ext (ext_trans (World.grownBy_alloc w6 (.cells #[.int .i64 t, .int .i64 a, .int .i64 b] 3) none) hg8)); clear hg8 c_t c_a c_b)
  have hM8 := HM8.out
  have p1 := hM8.m.p.range25
  have p2 := hM8.m.d.range25
  have HG := Lib.hid hM8.g
  clear hM8 HM8
  by_cases hq : (⟨k, t, 0, a, b, 0, 0, []⟩ : Stp) = ⟨k, t, o, a, b, op, pl, d⟩
  · have hN : decide ((⟨k, t, 0, a, b, 0, 0, []⟩ : Stp) = ⟨k, t, o, a, b, op, pl, d⟩) = true := by simpa using hq
    have HQ := Lib.hid hq
    have HNN := Lib.hid hN
    clear hq hN
    go_wp2_with (first | (refine stp_neq_op rfl _ _ rfl HNN.out rfl rfl ?_) | (refine stp_load rfl _ rfl rfl p2 ?_) | (refine stp_load rfl _ rfl rfl p1 ?_))
    go_ret2
    exact line_ok HJ.out (by decide) HQ.out _ _ HG.out (by rw [HS.out]; exact HS2.out)
  · have hN : decide ((⟨k, t, 0, a, b, 0, 0, []⟩ : Stp) = ⟨k, t, o, a, b, op, pl, d⟩) = false := by simpa using hq
    have HQ := Lib.hid hq
    have HNN := Lib.hid hN
    clear hq hN
    go_wp2_with (first | (refine stp_neq_op rfl _ _ rfl HNN.out rfl rfl ?_) | (refine stp_load rfl _ rfl rfl p2 ?_) | (refine stp_load rfl _ rfl rfl p1 ?_))
    go_ret2
    exact line_no HJ.out (fun _ => HQ.out) _ _ HG.out

set_option maxHeartbeats 1600000 in
theorem line25_1 (w : World) (k t o a b op pl : Int) (d : List UInt8) (hx : Stp.rng ⟨k, t, o, a, b, op, pl, d⟩) (hd : d.length ≤ 2000) (hk : k = 2) (hj : kdL ⟨k, t, o, a, b, op, pl, d⟩ = 1) :
    Calls Tryd.prog 9 #[.agg (stpC ⟨k, t, o, a, b, op, pl, d⟩)] w (LineA ⟨k, t, o, a, b, op, pl, d⟩ w) := by
  have hk1 : ((k == 1) = false) := by rw [beq_eq_false_iff_ne]; omega
  have hk2 : ((k == 2) = true) := by rw [beq_iff_eq]; omega
  have M : LnG w (((w.alloc (.cells #[.int .i64 k, .int .i64 t, .int .i64 o, .int .i64 a, .int .i64 b, .int .i64 op, .int .i64 pl, .string (bs d)] 25)).alloc (.cells #[.int .i64 op, .int .i64 pl, .string (bs d)] 23)).alloc (.cells #[.int .i64 k, .int .i64 t, .int .i64 0, .int .i64 0, .int .i64 0, .int .i64 0, .int .i64 0, .string ⟨#[]⟩] 25)) w.heap.size ⟨k, t, o, a, b, op, pl, d⟩ ⟨k, t, 0, 0, 0, 0, 0, []⟩ := ⟨lnM_new w ⟨k, t, o, a, b, op, pl, d⟩, lnM_grown w ⟨k, t, o, a, b, op, pl, d⟩ ⟨k, t, 0, 0, 0, 0, 0, []⟩ #[.int .i64 op, .int .i64 pl, .string (bs d)], Nat.le_refl _⟩
  obtain ⟨w3, hw3⟩ : ∃ z, ((w.alloc (.cells #[.int .i64 k, .int .i64 t, .int .i64 o, .int .i64 a, .int .i64 b, .int .i64 op, .int .i64 pl, .string (bs d)] 25)).alloc (.cells #[.int .i64 op, .int .i64 pl, .string (bs d)] 23)).alloc (.cells #[.int .i64 k, .int .i64 t, .int .i64 0, .int .i64 0, .int .i64 0, .int .i64 0, .int .i64 0, .string ⟨#[]⟩] 25) = z := ⟨_, rfl⟩
  rw [hw3] at M
  unfold stpC
  simp only
  have HJ := Lib.hid hj
  have HK := Lib.hid hk
  have HX := Lib.hid hx
  have HW := Lib.hid hw3
  have HM := Lib.hid M
  clear M hx hw3 hk hj
  go_enter Tryd.func9, Tryd.ntmps9
  go_upto_region 9 with fail
  rw [HW.out]
  obtain ⟨n, hn⟩ : ∃ n, w.heap.size = n := ⟨_, rfl⟩
  have M := HM.out
  rw [hn] at M
  rw [hn]
  clear hn HW HM
  have HM := Lib.hid M
  have d3 : w3.cell? ⟨n + 1 + 1, 3, none⟩ = some (.int .i64 0) := M.m.d.cell 3
  have f3 : w3.frozen? ⟨n + 1 + 1, 3, none⟩ = false := M.m.d.free 3
  have qp3 : w3.cell? ⟨n, 3, none⟩ = some (.int .i64 a) := M.m.p.cell 3
  have hM := (M.set (i := 3) (v := .int .i64 a) (z := ⟨k, t, 0, a, 0, 0, 0, []⟩) rfl)
  clear M HM
  have HMM := Lib.hid hM
  clear hM
  go_upto_region 10 with fail
  have hM := HMM.out
  obtain ⟨w5, hw5⟩ : ∃ z, (w3.setCell ⟨n + 1 + 1, 3, none⟩ (.int .i64 a)) = z := ⟨_, rfl⟩
  rw [hw5] at hM ⊢
  clear hw5 HMM d3 f3 qp3
  have HM := Lib.hid hM
  have c_t : w5.cell? ⟨n, 1, none⟩ = some (.int .i64 t) := hM.m.p.cell 1
  have c_a : w5.cell? ⟨n, 3, none⟩ = some (.int .i64 a) := hM.m.p.cell 3
  have hr0 : ∀ m ∈ ([t, a] : List Int), i64B m := by
    intro m hm
    simp only [List.mem_cons, List.not_mem_nil, or_false] at hm
    rcases hm with rfl | rfl
    · exact HX.out.t
    · exact HX.out.a
  have hr1 := numsL_len hr0
  have HR := Lib.hid hr0
  obtain ⟨r, hr⟩ : ∃ r, numsL [t, a] = r := ⟨_, rfl⟩
  rw [hr] at hr1
  have hr2 : r.length ≤ 66 := by simp at hr1; omega
  have hw1 : wordsL 1 ⟨k, t, o, a, b, op, pl, d⟩ = List.map numL [t, a] := rfl
  have HS := Lib.hid (show spellL 1 ⟨k, t, o, a, b, op, pl, d⟩ = nmL 1 ++ r from by rw [spell_nums _ _ _ hw1, hr])
  have HRR := Lib.hid hr
  clear hM hr0 hr1 hr hw1
  have hI : Ints (w5.alloc (.cells #[.int .i64 t, .int .i64 a] 3)) (.slice (some ⟨w5.heap.size, 0, none⟩) 2 2) [t, a] := lit_ints w5 [t, a]
  have HI := Lib.hid hI
  have a1 := add_bs (nmL 1) r (by (have : (nmL 1).length ≤ 10 := by decide); omega)
  have a2 : ∀ z, (Op.stringOp .add ⟨#[114, 101, 115, 105, 122, 101]⟩ (bs r)).run Tryd.prog z = .ok (.string (bs (nmL 1 ++ r))) z := a1
  obtain ⟨s, hs⟩ : ∃ s, nmL 1 ++ r = s := ⟨_, rfl⟩
  rw [hs] at a2
  have HS2 := Lib.hid hs
  clear hI a1 hs
  go_upto_region 37 with (go_at_call 25; refine (nums25 _ _ [t, a] HI.out HR.out (by simp)).mono ?_; rintro e w8 ⟨rfl, hg8⟩; rw [HRR.out]; have HM8 := Lib.hid (HM.out.ext (ext_trans (World.grownBy_alloc w5 (.cells #[.int .i64 t, .int .i64 a] 3) none) hg8)); clear hg8 c_t c_a)
  have hM8 := HM8.out
  have p1 := hM8.m.p.range25
  have p2 := hM8.m.d.range25
  have HG := Lib.hid hM8.g
  clear hM8 HM8
  by_cases hq : (⟨k, t, 0, a, 0, 0, 0, []⟩ : Stp) = ⟨k, t, o, a, b, op, pl, d⟩
  · have hN : decide ((⟨k, t, 0, a, 0, 0, 0, []⟩ : Stp) = ⟨k, t, o, a, b, op, pl, d⟩) = true := by simpa using hq
    have HQ := Lib.hid hq
    have HNN := Lib.hid hN
    clear hq hN
    go_wp2_with (first | (refine stp_neq_op rfl _ _ rfl HNN.out rfl rfl ?_) | (refine stp_load rfl _ rfl rfl p2 ?_) | (refine stp_load rfl _ rfl rfl p1 ?_))
    go_ret2
    exact line_ok HJ.out (by decide) HQ.out _ _ HG.out (by rw [HS.out]; exact HS2.out)
  · have hN : decide ((⟨k, t, 0, a, 0, 0, 0, []⟩ : Stp) = ⟨k, t, o, a, b, op, pl, d⟩) = false := by simpa using hq
    have HQ := Lib.hid hq
    have HNN := Lib.hid hN
    clear hq hN
    go_wp2_with (first | (refine stp_neq_op rfl _ _ rfl HNN.out rfl rfl ?_) | (refine stp_load rfl _ rfl rfl p2 ?_) | (refine stp_load rfl _ rfl rfl p1 ?_))
    go_ret2
    exact line_no HJ.out (fun _ => HQ.out) _ _ HG.out

set_option maxHeartbeats 1600000 in
theorem line25_2 (w : World) (k t o a b op pl : Int) (d : List UInt8) (hx : Stp.rng ⟨k, t, o, a, b, op, pl, d⟩) (hd : d.length ≤ 2000) (hk : k = 3) (hj : kdL ⟨k, t, o, a, b, op, pl, d⟩ = 2) :
    Calls Tryd.prog 9 #[.agg (stpC ⟨k, t, o, a, b, op, pl, d⟩)] w (LineA ⟨k, t, o, a, b, op, pl, d⟩ w) := by
  have hk1 : ((k == 1) = false) := by rw [beq_eq_false_iff_ne]; omega
  have hk2 : ((k == 2) = false) := by rw [beq_eq_false_iff_ne]; omega
  have hk3 : ((k == 3) = true) := by rw [beq_iff_eq]; omega
  have M : LnG w (((w.alloc (.cells #[.int .i64 k, .int .i64 t, .int .i64 o, .int .i64 a, .int .i64 b, .int .i64 op, .int .i64 pl, .string (bs d)] 25)).alloc (.cells #[.int .i64 op, .int .i64 pl, .string (bs d)] 23)).alloc (.cells #[.int .i64 k, .int .i64 t, .int .i64 0, .int .i64 0, .int .i64 0, .int .i64 0, .int .i64 0, .string ⟨#[]⟩] 25)) w.heap.size ⟨k, t, o, a, b, op, pl, d⟩ ⟨k, t, 0, 0, 0, 0, 0, []⟩ := ⟨lnM_new w ⟨k, t, o, a, b, op, pl, d⟩, lnM_grown w ⟨k, t, o, a, b, op, pl, d⟩ ⟨k, t, 0, 0, 0, 0, 0, []⟩ #[.int .i64 op, .int .i64 pl, .string (bs d)], Nat.le_refl _⟩
  obtain ⟨w3, hw3⟩ : ∃ z, ((w.alloc (.cells #[.int .i64 k, .int .i64 t, .int .i64 o, .int .i64 a, .int .i64 b, .int .i64 op, .int .i64 pl, .string (bs d)] 25)).alloc (.cells #[.int .i64 op, .int .i64 pl, .string (bs d)] 23)).alloc (.cells #[.int .i64 k, .int .i64 t, .int .i64 0, .int .i64 0, .int .i64 0, .int .i64 0, .int .i64 0, .string ⟨#[]⟩] 25) = z := ⟨_, rfl⟩
  rw [hw3] at M
  unfold stpC
  simp only
  have HJ := Lib.hid hj
  have HK := Lib.hid hk
  have HX := Lib.hid hx
  have HW := Lib.hid hw3
  have HM := Lib.hid M
  clear M hx hw3 hk hj
  go_enter Tryd.func9, Tryd.ntmps9
  go_upto_region 12 with fail
  rw [HW.out]
  obtain ⟨n, hn⟩ : ∃ n, w.heap.size = n := ⟨_, rfl⟩
  have M := HM.out
  rw [hn] at M
  rw [hn]
  clear hn HW HM
  have HM := Lib.hid M
  have hM := M
  clear M HM
  have HM := Lib.hid hM
  have c_t : w3.cell? ⟨n, 1, none⟩ = some (.int .i64 t) := hM.m.p.cell 1
  have hr0 : ∀ m ∈ ([t] : List Int), i64B m := by
    intro m hm
    simp only [List.mem_cons, List.not_mem_nil, or_false] at hm
    subst hm; exact HX.out.t
  have hr1 := numsL_len hr0
  have HR := Lib.hid hr0
  obtain ⟨r, hr⟩ : ∃ r, numsL [t] = r := ⟨_, rfl⟩
  rw [hr] at hr1
  have hr2 : r.length ≤ 66 := by simp at hr1; omega
  have hw1 : wordsL 2 ⟨k, t, o, a, b, op, pl, d⟩ = List.map numL [t] := rfl
  have HS := Lib.hid (show spellL 2 ⟨k, t, o, a, b, op, pl, d⟩ = nmL 2 ++ r from by rw [spell_nums _ _ _ hw1, hr])
  have HRR := Lib.hid hr
  clear hM hr0 hr1 hr hw1
  have hI : Ints (w3.alloc (.cells #[.int .i64 t] 3)) (.slice (some ⟨w3.heap.size, 0, none⟩) 1 1) [t] := lit_ints w3 [t]
  have HI := Lib.hid hI
  have a1 := add_bs (nmL 2) r (by (have : (nmL 2).length ≤ 10 := by decide); omega)
  have a2 : ∀ z, (Op.stringOp .add ⟨#[100, 101, 115, 116, 114, 111, 121]⟩ (bs r)).run Tryd.prog z = .ok (.string (bs (nmL 2 ++ r))) z := a1
  obtain ⟨s, hs⟩ : ∃ s, nmL 2 ++ r = s := ⟨_, rfl⟩
  rw [hs] at a2
  have HS2 := Lib.hid hs
  clear hI a1 hs
  go_upto_region 37 with (go_at_call 25; refine (nums25 _ _ [t] HI.out HR.out (by simp)).mono ?_; rintro e w8 ⟨rfl, hg8⟩; rw [HRR.out]; have HM8 := Lib.hid (HM.out.ext (ext_trans (World.grownBy_alloc w3 (.cells #[.int .i64 t] 3) none) hg8)); clear hg8 c_t)
  have hM8 := HM8.out
  have p1 := hM8.m.p.range25
  have p2 := hM8.m.d.range25
  have HG := Lib.hid hM8.g
  clear hM8 HM8
  by_cases hq : (⟨k, t, 0, 0, 0, 0, 0, []⟩ : Stp) = ⟨k, t, o, a, b, op, pl, d⟩
  · have hN : decide ((⟨k, t, 0, 0, 0, 0, 0, []⟩ : Stp) = ⟨k, t, o, a, b, op, pl, d⟩) = true := by simpa using hq
    have HQ := Lib.hid hq
    have HNN := Lib.hid hN
    clear hq hN
    go_wp2_with (first | (refine stp_neq_op rfl _ _ rfl HNN.out rfl rfl ?_) | (refine stp_load rfl _ rfl rfl p2 ?_) | (refine stp_load rfl _ rfl rfl p1 ?_))
    go_ret2
    exact line_ok HJ.out (by decide) HQ.out _ _ HG.out (by rw [HS.out]; exact HS2.out)
  · have hN : decide ((⟨k, t, 0, 0, 0, 0, 0, []⟩ : Stp) = ⟨k, t, o, a, b, op, pl, d⟩) = false := by simpa using hq
    have HQ := Lib.hid hq
    have HNN := Lib.hid hN
    clear hq hN
    go_wp2_with (first | (refine stp_neq_op rfl _ _ rfl HNN.out rfl rfl ?_) | (refine stp_load rfl _ rfl rfl p2 ?_) | (refine stp_load rfl _ rfl rfl p1 ?_))
    go_ret2
    exact line_no HJ.out (fun _ => HQ.out) _ _ HG.out

set_option maxHeartbeats 1600000 in
theorem line25_3 (w : World) (k t o a b op pl : Int) (d : List UInt8) (hx : Stp.rng ⟨k, t, o, a, b, op, pl, d⟩) (hd : d.length ≤ 2000) (hk : k = 4) (hj : kdL ⟨k, t, o, a, b, op, pl, d⟩ = 3) :
    Calls Tryd.prog 9 #[.agg (stpC ⟨k, t, o, a, b, op, pl, d⟩)] w (LineA ⟨k, t, o, a, b, op, pl, d⟩ w) := by
  have hk1 : ((k == 1) = false) := by rw [beq_eq_false_iff_ne]; omega
  have hk2 : ((k == 2) = false) := by rw [beq_eq_false_iff_ne]; omega
  have hk3 : ((k == 3) = false) := by rw [beq_eq_false_iff_ne]; omega
  have hk4 : ((k == 4) = true) := by rw [beq_iff_eq]; omega
  have M : LnG w (((w.alloc (.cells #[.int .i64 k, .int .i64 t, .int .i64 o, .int .i64 a, .int .i64 b, .int .i64 op, .int .i64 pl, .string (bs d)] 25)).alloc (.cells #[.int .i64 op, .int .i64 pl, .string (bs d)] 23)).alloc (.cells #[.int .i64 k, .int .i64 t, .int .i64 0, .int .i64 0, .int .i64 0, .int .i64 0, .int .i64 0, .string ⟨#[]⟩] 25)) w.heap.size ⟨k, t, o, a, b, op, pl, d⟩ ⟨k, t, 0, 0, 0, 0, 0, []⟩ := ⟨lnM_new w ⟨k, t, o, a, b, op, pl, d⟩, lnM_grown w ⟨k, t, o, a, b, op, pl, d⟩ ⟨k, t, 0, 0, 0, 0, 0, []⟩ #[.int .i64 op, .int .i64 pl, .string (bs d)], Nat.le_refl _⟩
  obtain ⟨w3, hw3⟩ : ∃ z, ((w.alloc (.cells #[.int .i64 k, .int .i64 t, .int .i64 o, .int .i64 a, .int .i64 b, .int .i64 op, .int .i64 pl, .string (bs d)] 25)).alloc (.cells #[.int .i64 op, .int .i64 pl, .string (bs d)] 23)).alloc (.cells #[.int .i64 k, .int .i64 t, .int .i64 0, .int .i64 0, .int .i64 0, .int .i64 0, .int .i64 0, .string ⟨#[]⟩] 25) = z := ⟨_, rfl⟩
  rw [hw3] at M
  unfold stpC
  simp only
  have HJ := Lib.hid hj
  have HK := Lib.hid hk
  have HX := Lib.hid hx
  have HW := Lib.hid hw3
  have HM := Lib.hid M
  clear M hx hw3 hk hj
  go_enter Tryd.func9, Tryd.ntmps9
  go_upto_region 14 with fail
  rw [HW.out]
  obtain ⟨n, hn⟩ : ∃ n, w.heap.size = n := ⟨_, rfl⟩
  have M := HM.out
  rw [hn] at M
  rw [hn]
  clear hn HW HM
  have HM := Lib.hid M
  have d2 : w3.cell? ⟨n + 1 + 1, 2, none⟩ = some (.int .i64 0) := M.m.d.cell 2
  have f2 : w3.frozen? ⟨n + 1 + 1, 2, none⟩ = false := M.m.d.free 2
  have qp2 : w3.cell? ⟨n, 2, none⟩ = some (.int .i64 o) := M.m.p.cell 2
  have hM := (M.set (i := 2) (v := .int .i64 o) (z := ⟨k, t, o, 0, 0, 0, 0, []⟩) rfl)
  clear M HM
  have HMM := Lib.hid hM
  clear hM
  go_upto_region 15 with fail
  have hM := HMM.out
  obtain ⟨w5, hw5⟩ : ∃ z, (w3.setCell ⟨n + 1 + 1, 2, none⟩ (.int .i64 o)) = z := ⟨_, rfl⟩
  rw [hw5] at hM ⊢
  clear hw5 HMM d2 f2 qp2
  have HM := Lib.hid hM
  have c_t : w5.cell? ⟨n, 1, none⟩ = some (.int .i64 t) := hM.m.p.cell 1
  have c_o : w5.cell? ⟨n, 2, none⟩ = some (.int .i64 o) := hM.m.p.cell 2
  have hr0 : ∀ m ∈ ([t, o] : List Int), i64B m := by
    intro m hm
    simp only [List.mem_cons, List.not_mem_nil, or_false] at hm
    rcases hm with rfl | rfl
    · exact HX.out.t
    · exact HX.out.o
  have hr1 := numsL_len hr0
  have HR := Lib.hid hr0
  obtain ⟨r, hr⟩ : ∃ r, numsL [t, o] = r := ⟨_, rfl⟩
  rw [hr] at hr1
  have hr2 : r.length ≤ 66 := by simp at hr1; omega
  have hw1 : wordsL 3 ⟨k, t, o, a, b, op, pl, d⟩ = List.map numL [t, o] := rfl
  have HS := Lib.hid (show spellL 3 ⟨k, t, o, a, b, op, pl, d⟩ = nmL 3 ++ r from by rw [spell_nums _ _ _ hw1, hr])
  have HRR := Lib.hid hr
  clear hM hr0 hr1 hr hw1
  have hI : Ints (w5.alloc (.cells #[.int .i64 t, .int .i64 o] 3)) (.slice (some ⟨w5.heap.size, 0, none⟩) 2 2) [t, o] := lit_ints w5 [t, o]
  have HI := Lib.hid hI
  have a1 := add_bs (nmL 3) r (by (have : (nmL 3).length ≤ 10 := by decide); omega)
  have a2 : ∀ z, (Op.stringOp .add ⟨#[115, 119, 97, 112]⟩ (bs r)).run Tryd.prog z = .ok (.string (bs (nmL 3 ++ r))) z := a1
  obtain ⟨s, hs⟩ : ∃ s, nmL 3 ++ r = s := ⟨_, rfl⟩
  rw [hs] at a2
  have HS2 := Lib.hid hs
  clear hI a1 hs
  go_upto_region 37 with (go_at_call 25; refine (nums25 _ _ [t, o] HI.out HR.out (by simp)).mono ?_; rintro e w8 ⟨rfl, hg8⟩; rw [HRR.out]; have HM8 := Lib.hid (HM.out.ext (ext_trans (World.grownBy_alloc w5 (.cells #[.int .i64 t, .int .i64 o] 3) none) hg8)); clear hg8 c_t c_o)
  have hM8 := HM8.out
  have p1 := hM8.m.p.range25
  have p2 := hM8.m.d.range25
  have HG := Lib.hid hM8.g
  clear hM8 HM8
  by_cases hq : (⟨k, t, o, 0, 0, 0, 0, []⟩ : Stp) = ⟨k, t, o, a, b, op, pl, d⟩
  · have hN : decide ((⟨k, t, o, 0, 0, 0, 0, []⟩ : Stp) = ⟨k, t, o, a, b, op, pl, d⟩) = true := by simpa using hq
    have HQ := Lib.hid hq
    have HNN := Lib.hid hN
    clear hq hN
    go_wp2_with (first | (refine stp_neq_op rfl _ _ rfl HNN.out rfl rfl ?_) | (refine stp_load rfl _ rfl rfl p2 ?_) | (refine stp_load rfl _ rfl rfl p1 ?_))
    go_ret2
    exact line_ok HJ.out (by decide) HQ.out _ _ HG.out (by rw [HS.out]; exact HS2.out)
  · have hN : decide ((⟨k, t, o, 0, 0, 0, 0, []⟩ : Stp) = ⟨k, t, o, a, b, op, pl, d⟩) = false := by simpa using hq
    have HQ := Lib.hid hq
    have HNN := Lib.hid hN
    clear hq hN
    go_wp2_with (first | (refine stp_neq_op rfl _ _ rfl HNN.out rfl rfl ?_) | (refine stp_load rfl _ rfl rfl p2 ?_) | (refine stp_load rfl _ rfl rfl p1 ?_))
    go_ret2
    exact line_no HJ.out (fun _ => HQ.out) _ _ HG.out

set_option maxHeartbeats 1600000 in
theorem line25_4 (w : World) (k t o a b op pl : Int) (d : List UInt8) (hx : Stp.rng ⟨k, t, o, a, b, op, pl, d⟩) (hd : d.length ≤ 2000) (hk : k = 5 ∧ op = 1) (hj : kdL ⟨k, t, o, a, b, op, pl, d⟩ = 4) :
    Calls Tryd.prog 9 #[.agg (stpC ⟨k, t, o, a, b, op, pl, d⟩)] w (LineA ⟨k, t, o, a, b, op, pl, d⟩ w) := by
  have hk1 : ((k == 1) = false) := by rw [beq_eq_false_iff_ne]; omega
  have hk2 : ((k == 2) = false) := by rw [beq_eq_false_iff_ne]; omega
  have hk3 : ((k == 3) = false) := by rw [beq_eq_false_iff_ne]; omega
  have hk4 : ((k == 4) = false) := by rw [beq_eq_false_iff_ne]; omega
  have hk5 : ((k == 5) = true) := by rw [beq_iff_eq]; omega
  have ho1 : ((op == 1) = true) := by rw [beq_iff_eq]; omega
  have M : LnG w (((w.alloc (.cells #[.int .i64 k, .int .i64 t, .int .i64 o, .int .i64 a, .int .i64 b, .int .i64 op, .int .i64 pl, .string (bs d)] 25)).alloc (.cells #[.int .i64 op, .int .i64 pl, .string (bs d)] 23)).alloc (.cells #[.int .i64 k, .int .i64 t, .int .i64 0, .int .i64 0, .int .i64 0, .int .i64 0, .int .i64 0, .string ⟨#[]⟩] 25)) w.heap.size ⟨k, t, o, a, b, op, pl, d⟩ ⟨k, t, 0, 0, 0, 0, 0, []⟩ := ⟨lnM_new w ⟨k, t, o, a, b, op, pl, d⟩, lnM_grown w ⟨k, t, o, a, b, op, pl, d⟩ ⟨k, t, 0, 0, 0, 0, 0, []⟩ #[.int .i64 op, .int .i64 pl, .string (bs d)], Nat.le_refl _⟩
  obtain ⟨w3, hw3⟩ : ∃ z, ((w.alloc (.cells #[.int .i64 k, .int .i64 t, .int .i64 o, .int .i64 a, .int .i64 b, .int .i64 op, .int .i64 pl, .string (bs d)] 25)).alloc (.cells #[.int .i64 op, .int .i64 pl, .string (bs d)] 23)).alloc (.cells #[.int .i64 k, .int .i64 t, .int .i64 0, .int .i64 0, .int .i64 0, .int .i64 0, .int .i64 0, .string ⟨#[]⟩] 25) = z := ⟨_, rfl⟩
  rw [hw3] at M
  unfold stpC
  simp only
  have HJ := Lib.hid hj
  have HK := Lib.hid hk
  have HX := Lib.hid hx
  have HW := Lib.hid hw3
  have HM := Lib.hid M
  clear M hx hw3 hk hj
  go_enter Tryd.func9, Tryd.ntmps9
  go_upto_region 17 with fail
  rw [HW.out]
  obtain ⟨n, hn⟩ : ∃ n, w.heap.size = n := ⟨_, rfl⟩
  have M := HM.out
  rw [hn] at M
  rw [hn]
  clear hn HW HM
  have HM := Lib.hid M
  have d5 : w3.cell? ⟨n + 1 + 1, 5, none⟩ = some (.int .i64 0) := M.m.d.cell 5
  have f5 : w3.frozen? ⟨n + 1 + 1, 5, none⟩ = false := M.m.d.free 5
  have d6 : w3.cell? ⟨n + 1 + 1, 6, none⟩ = some (.int .i64 0) := M.m.d.cell 6
  have f6 : w3.frozen? ⟨n + 1 + 1, 6, none⟩ = false := M.m.d.free 6
  have d7 : w3.cell? ⟨n + 1 + 1, 7, none⟩ = some (.string ⟨#[]⟩) := M.m.d.cell 7
  have f7 : w3.frozen? ⟨n + 1 + 1, 7, none⟩ = false := M.m.d.free 7
  have qc1 : w3.cell? ⟨n + 1, 1, none⟩ = some (.int .i64 pl) := M.m.c.cell 1
  have hM := (((M.set (i := 5) (v := .int .i64 1) (z := ⟨k, t, 0, 0, 0, 1, 0, []⟩) rfl).set (i := 6) (v := .int .i64 pl) (z := ⟨k, t, 0, 0, 0, 1, pl, []⟩) rfl).set (i := 7) (v := .string ⟨#[]⟩) (z := ⟨k, t, 0, 0, 0, 1, pl, []⟩) rfl)
  clear M HM
  have HMM := Lib.hid hM
  clear hM
  go_upto_region 18 with fail
  have hM := HMM.out
  obtain ⟨w5, hw5⟩ : ∃ z, (((w3.setCell ⟨n + 1 + 1, 5, none⟩ (.int .i64 1)).setCell ⟨n + 1 + 1, 6, none⟩ (.int .i64 pl)).setCell ⟨n + 1 + 1, 7, none⟩ (.string ⟨#[]⟩)) = z := ⟨_, rfl⟩
  rw [hw5] at hM ⊢
  clear hw5 HMM d5 f5 d6 f6 d7 f7 qc1
  have HM := Lib.hid hM
  have c_t : w5.cell? ⟨n, 1, none⟩ = some (.int .i64 t) := hM.m.p.cell 1
  have c_pl : w5.cell? ⟨n + 1, 1, none⟩ = some (.int .i64 pl) := hM.m.c.cell 1
  have hr0 : ∀ m ∈ ([t, pl] : List Int), i64B m := by
    intro m hm
    simp only [List.mem_cons, List.not_mem_nil, or_false] at hm
    rcases hm with rfl | rfl
    · exact HX.out.t
    · exact HX.out.pl
  have hr1 := numsL_len hr0
  have HR := Lib.hid hr0
  obtain ⟨r, hr⟩ : ∃ r, numsL [t, pl] = r := ⟨_, rfl⟩
  rw [hr] at hr1
  have hr2 : r.length ≤ 66 := by simp at hr1; omega
  have hw1 : wordsL 4 ⟨k, t, o, a, b, op, pl, d⟩ = List.map numL [t, pl] := rfl
  have HS := Lib.hid (show spellL 4 ⟨k, t, o, a, b, op, pl, d⟩ = nmL 4 ++ r from by rw [spell_nums _ _ _ hw1, hr])
  have HRR := Lib.hid hr
  clear hM hr0 hr1 hr hw1
  have hI : Ints (w5.alloc (.cells #[.int .i64 t, .int .i64 pl] 3)) (.slice (some ⟨w5.heap.size, 0, none⟩) 2 2) [t, pl] := lit_ints w5 [t, pl]
  have HI := Lib.hid hI
  have a1 := add_bs (nmL 4) r (by (have : (nmL 4).length ≤ 10 := by decide); omega)
  have a2 : ∀ z, (Op.stringOp .add ⟨#[114, 101, 97, 100]⟩ (bs r)).run Tryd.prog z = .ok (.string (bs (nmL 4 ++ r))) z := a1
  obtain ⟨s, hs⟩ : ∃ s, nmL 4 ++ r = s := ⟨_, rfl⟩
  rw [hs] at a2
  have HS2 := Lib.hid hs
  clear hI a1 hs
  go_upto_region 37 with (go_at_call 25; refine (nums25 _ _ [t, pl] HI.out HR.out (by simp)).mono ?_; rintro e w8 ⟨rfl, hg8⟩; rw [HRR.out]; have HM8 := Lib.hid (HM.out.ext (ext_trans (World.grownBy_alloc w5 (.cells #[.int .i64 t, .int .i64 pl] 3) none) hg8)); clear hg8 c_t c_pl)
  have hM8 := HM8.out
  have p1 := hM8.m.p.range25
  have p2 := hM8.m.d.range25
  have HG := Lib.hid hM8.g
  clear hM8 HM8
  by_cases hq : (⟨k, t, 0, 0, 0, 1, pl, []⟩ : Stp) = ⟨k, t, o, a, b, op, pl, d⟩
  · have hN : decide ((⟨k, t, 0, 0, 0, 1, pl, []⟩ : Stp) = ⟨k, t, o, a, b, op, pl, d⟩) = true := by simpa using hq
    have HQ := Lib.hid hq
    have HNN := Lib.hid hN
    clear hq hN
    go_wp2_with (first | (refine stp_neq_op rfl _ _ rfl HNN.out rfl rfl ?_) | (refine stp_load rfl _ rfl rfl p2 ?_) | (refine stp_load rfl _ rfl rfl p1 ?_))
    go_ret2
    exact line_ok HJ.out (by decide) HQ.out _ _ HG.out (by rw [HS.out]; exact HS2.out)
  · have hN : decide ((⟨k, t, 0, 0, 0, 1, pl, []⟩ : Stp) = ⟨k, t, o, a, b, op, pl, d⟩) = false := by simpa using hq
    have HQ := Lib.hid hq
    have HNN := Lib.hid hN
    clear hq hN
    go_wp2_with (first | (refine stp_neq_op rfl _ _ rfl HNN.out rfl rfl ?_) | (refine stp_load rfl _ rfl rfl p2 ?_) | (refine stp_load rfl _ rfl rfl p1 ?_))
    go_ret2
    exact line_no HJ.out (fun _ => HQ.out) _ _ HG.out

end Go.Proofs.YtdaifepjmkmpjaaDoor
