/-
  Texts put together: ScH.
-/
import Derived.Test.YtdaifepjmkmpjaaDoorM07
/-
  Layer 25's reference: Line (commands, slots, cuts).
-/
namespace Go.Proofs.YtdaifepjmkmpjaaDoor
set_option linter.unusedVariables false
set_option linter.unusedSimpArgs false
set_option linter.unusedVariables false
set_option linter.unusedSimpArgs false
set_option maxRecDepth 100000
open Go.RowKit

set_option maxHeartbeats 1600000 in
theorem line25_5 (w : World) (k t o a b op pl : Int) (d : List UInt8) (hx : Stp.rng ⟨k, t, o, a, b, op, pl, d⟩) (hd : d.length ≤ 2000) (hk : k = 5 ∧ op = 2) (hj : kdL ⟨k, t, o, a, b, op, pl, d⟩ = 5) :
    Calls Tryd.prog 9 #[.agg (stpC ⟨k, t, o, a, b, op, pl, d⟩)] w (LineA ⟨k, t, o, a, b, op, pl, d⟩ w) := by
  have hk1 : ((k == 1) = false) := by rw [beq_eq_false_iff_ne]; omega
  have hk2 : ((k == 2) = false) := by rw [beq_eq_false_iff_ne]; omega
  have hk3 : ((k == 3) = false) := by rw [beq_eq_false_iff_ne]; omega
  have hk4 : ((k == 4) = false) := by rw [beq_eq_false_iff_ne]; omega
  have hk5 : ((k == 5) = true) := by rw [beq_iff_eq]; omega
  have ho1 : ((op == 1) = false) := by rw [beq_eq_false_iff_ne]; omega
  have ho2 : ((op == 2) = true) := by rw [beq_iff_eq]; omega
  have M : LnG w (((w.alloc (.cells #[.int .i64 k, .int .i64 t, .int .i64 o, .int .i64 a, .int .i64 b, .int .i64 op, .int .i64 pl, .string (bs d)] 25)).alloc (.cells #[.int .i64 op, .int .i64 pl, .string (bs d)] 23)).alloc (.cells #[.int .i64 k, .int .i64 t, .int .i64 0, .int .i64 0, .int .i64 0, .int .i64 0, .int .i64 0, .string ⟨#[]⟩] 25)) w.heap.size ⟨k, t, o, a, b, op, pl, d⟩ ⟨k, t, 0, 0, 0, 0, 0, []⟩ := ⟨lnM_new w ⟨k, t, o, a, b, op, pl, d⟩, lnM_grown w ⟨k, t, o, a, b, op, pl, d⟩ ⟨k, t, 0, 0, 0, 0, 0, []⟩ #[.int .i64 op, .int .i64 pl, .string (bs d)], Nat.le_refl _⟩
  obtain ⟨w3, hw3⟩ : ∃ z, ((w.alloc (.cells #[.int .i64 k, .int .i64 t, .int .i64 o, .int .i64 a, .int .i64 b, .int .i64 op, .int .i64 pl, .string (bs d)] 25)).alloc (.cells #[.int .i64 op, .int .i64 pl, .string (bs d)] 23)).alloc (.cells #[.int .i64 k, .int .i64 t, .int .i64 0, .int .i64 0, .int .i64 0, .int .i64 0, .int .i64 0, .string ⟨#[]⟩] 25) = z := ⟨_, rfl⟩
  rw [hw3] at M
  unfold stpC
  simp only
  have HJ := Lib.hid hj
  have HK := Lib.hid hk
  have HX := Lib.hid hx
  have HW := Lib.hid hw3
  have HM := Lib.hid M
  clear M hx hw3 hk hj
  go_enter Tryd.func9, Tryd.ntmps9
  go_upto_region 20 with fail
  rw [HW.out]
  obtain ⟨n, hn⟩ : ∃ n, w.heap.size = n := ⟨_, rfl⟩
  have M := HM.out
  rw [hn] at M
  rw [hn]
  clear hn HW HM
  have HM := Lib.hid M
  have d5 : w3.cell? ⟨n + 1 + 1, 5, none⟩ = some (.int .i64 0) := M.m.d.cell 5
  have f5 : w3.frozen? ⟨n + 1 + 1, 5, none⟩ = false := M.m.d.free 5
  have d6 : w3.cell? ⟨n + 1 + 1, 6, none⟩ = some (.int .i64 0) := M.m.d.cell 6
  have f6 : w3.frozen? ⟨n + 1 + 1, 6, none⟩ = false := M.m.d.free 6
  have d7 : w3.cell? ⟨n + 1 + 1, 7, none⟩ = some (.string ⟨#[]⟩) := M.m.d.cell 7
  have f7 : w3.frozen? ⟨n + 1 + 1, 7, none⟩ = false := M.m.d.free 7
  have qc0 : w3.cell? ⟨n + 1, 0, none⟩ = some (.int .i64 op) := M.m.c.cell 0
  have qc1 : w3.cell? ⟨n + 1, 1, none⟩ = some (.int .i64 pl) := M.m.c.cell 1
  have qc2 : w3.cell? ⟨n + 1, 2, none⟩ = some (.string (bs d)) := M.m.c.cell 2
  have hM := (((M.set (i := 5) (v := .int .i64 op) (z := ⟨k, t, 0, 0, 0, op, 0, []⟩) rfl).set (i := 6) (v := .int .i64 pl) (z := ⟨k, t, 0, 0, 0, op, pl, []⟩) rfl).set (i := 7) (v := .string (bs d)) (z := ⟨k, t, 0, 0, 0, op, pl, d⟩) rfl)
  clear M HM
  have HMM := Lib.hid hM
  clear hM
  go_upto_region 21 with fail
  have hM := HMM.out
  obtain ⟨w5, hw5⟩ : ∃ z, (((w3.setCell ⟨n + 1 + 1, 5, none⟩ (.int .i64 op)).setCell ⟨n + 1 + 1, 6, none⟩ (.int .i64 pl)).setCell ⟨n + 1 + 1, 7, none⟩ (.string (bs d))) = z := ⟨_, rfl⟩
  rw [hw5] at hM ⊢
  clear hw5 HMM d5 f5 d6 f6 d7 f7 qc0 qc1 qc2
  have HM := Lib.hid hM
  have c_t : w5.cell? ⟨n, 1, none⟩ = some (.int .i64 t) := hM.m.p.cell 1
  have c_pl : w5.cell? ⟨n + 1, 1, none⟩ = some (.int .i64 pl) := hM.m.c.cell 1
  have c_d : w5.cell? ⟨n + 1, 2, none⟩ = some (.string (bs d)) := hM.m.c.cell 2
  have hr0 : ∀ m ∈ ([t, pl] : List Int), i64B m := by
    intro m hm
    simp only [List.mem_cons, List.not_mem_nil, or_false] at hm
    rcases hm with rfl | rfl
    · exact HX.out.t
    · exact HX.out.pl
  have hr1 := numsL_len hr0
  have HR := Lib.hid hr0
  obtain ⟨r, hr⟩ : ∃ r, numsL [t, pl] = r := ⟨_, rfl⟩
  rw [hr] at hr1
  have hr2 : r.length ≤ 66 := by simp at hr1; omega
  have hw1 : wordsL 5 ⟨k, t, o, a, b, op, pl, d⟩ = [numL t, numL pl, txtL d] := rfl
  have HS := Lib.hid (show spellL 5 ⟨k, t, o, a, b, op, pl, d⟩ = nmL 5 ++ r ++ [32] ++ txtL d from by rw [← hr]; unfold spellL; rw [hw1, numsL_words]; simp)
  have ht : (txtL d).length ≤ 4001 := by unfold txtL; split; simp; rw [hexL_len]; omega
  have HRR := Lib.hid hr
  clear hM hr0 hr1 hr hw1
  have hS : (fun z : World => z.cell? ⟨n, 1, none⟩ = some (.int .i64 t) ∧ z.cell? ⟨n + 1, 1, none⟩ = some (.int .i64 pl) ∧ z.cell? ⟨n + 1, 2, none⟩ = some (.string (bs d))) w5.drew := ⟨c_t, c_pl, c_d⟩
  have HMd := Lib.hid HM.out.drew
  clear c_t c_pl c_d HM
  refine region_line [(0, true), (1, true), (2, true), (3, true), (8, true), (9, true), (4, false), (5, false), (6, true), (7, true), (10, false), (11, true), (12, true)] (fun z : World => z.cell? ⟨n, 1, none⟩ = some (.int .i64 t) ∧ z.cell? ⟨n + 1, 1, none⟩ = some (.int .i64 pl) ∧ z.cell? ⟨n + 1, 2, none⟩ = some (.string (bs d))) (by kernel_rfl) (by kernel_rfl) (fun _ _ _ d _ h => by cases d <;> exact h) hS ?_
  obtain ⟨w6, hw6⟩ : ∃ z, w5.drew = z := ⟨_, rfl⟩
  rw [hw6] at HMd hS ⊢
  clear hw6
  have hI : Ints (w6.alloc (.cells #[.int .i64 t, .int .i64 pl] 3)) (.slice (some ⟨w6.heap.size, 0, none⟩) 2 2) [t, pl] := lit_ints w6 [t, pl]
  have hMa := HMd.out.ext (World.grownBy_alloc w6 (.cells #[.int .i64 t, .int .i64 pl] 3) none)
  iterate 6 (refine line_read (a' := ?_) rfl (by kernel_rfl) (by kernel_rfl) hS (fun z hz K hK => ?_) ?_; rotate_left; · (obtain ⟨c1, c2, c3⟩ := hz; go_wp2; exact hK))
  refine line_act rfl fun K hK => ?_
  go_wp2
  obtain ⟨w7, hw7⟩ : ∃ z, w6.alloc (.cells #[.int .i64 t, .int .i64 pl] 3) = z := ⟨_, rfl⟩
  rw [hw7] at hI hMa ⊢
  have HI := Lib.hid hI
  have HMa := Lib.hid hMa
  refine hK _ _ (fun z : World => z.cell? ⟨n, 1, none⟩ = some (.int .i64 t) ∧ z.cell? ⟨n + 1, 1, none⟩ = some (.int .i64 pl) ∧ z.cell? ⟨n + 1, 2, none⟩ = some (.string (bs d))) ⟨hMa.m.p.cell 1, hMa.m.c.cell 1, hMa.m.c.cell 2⟩ (fun _ h => h) ?_
  clear hK K hw7 hI hMa hS
  refine line_act rfl fun K hK => ?_
  go_wp2_with (go_at_call 25; refine (nums25 _ _ [t, pl] HI.out HR.out (by simp)).mono ?_; rintro e w8 ⟨rfl, hg8⟩; rw [HRR.out]; have hMb := HMa.out.ext hg8; have HMb := Lib.hid hMb)
  have hS : (fun z : World => z.cell? ⟨n, 1, none⟩ = some (.int .i64 t) ∧ z.cell? ⟨n + 1, 1, none⟩ = some (.int .i64 pl) ∧ z.cell? ⟨n + 1, 2, none⟩ = some (.string (bs d))) w8 := ⟨hMb.m.p.cell 1, hMb.m.c.cell 1, hMb.m.c.cell 2⟩
  refine hK _ _ (fun z : World => z.cell? ⟨n, 1, none⟩ = some (.int .i64 t) ∧ z.cell? ⟨n + 1, 1, none⟩ = some (.int .i64 pl) ∧ z.cell? ⟨n + 1, 2, none⟩ = some (.string (bs d))) hS (fun _ h => h) ?_
  clear hK K hMb hg8
  have a1 : ∀ z, (Op.stringOp .add ⟨#[119, 114, 105, 116, 101]⟩ (bs r)).run Tryd.prog z = .ok (.string (bs (nmL 5 ++ r))) z := add_bs (nmL 5) r (by (have : (nmL 5).length ≤ 10 := by decide); omega)
  have a2 : ∀ z, (Op.stringOp .add (bs (nmL 5 ++ r)) ⟨#[32]⟩).run Tryd.prog z = .ok (.string (bs (nmL 5 ++ r ++ [32]))) z := add_bs (nmL 5 ++ r) [32] (by (have : (nmL 5).length ≤ 10 := by decide); simp; omega)
  obtain ⟨s5, hs5⟩ : ∃ s5, nmL 5 ++ r = s5 := ⟨_, rfl⟩
  rw [hs5] at a1 a2
  have hl5 : s5.length ≤ 100 := by (have : (nmL 5).length ≤ 10 := by decide); rw [← hs5, List.length_append]; omega
  obtain ⟨s6, hs6⟩ : ∃ s6, s5 ++ [32] = s6 := ⟨_, rfl⟩
  rw [hs6] at a2
  have hl6 : s6.length ≤ 101 := by rw [← hs6, List.length_append]; simp; omega
  have HS5 := Lib.hid (And.intro hs5 hs6)
  clear hs5 hs6
  iterate 2 (refine line_read (a' := ?_) rfl (by kernel_rfl) (by kernel_rfl) hS (fun z hz K hK => ?_) ?_; rotate_left; · (obtain ⟨c1, c2, c3⟩ := hz; go_wp2; exact hK))
  refine line_act rfl fun K hK => ?_
  go_wp2_with (go_at_call 26; refine (text25 _ (bs d) (by rw [bs_size]; omega)).mono ?_; rintro e w9 ⟨rfl, hg9⟩; have HM8 := Lib.hid (HMb.out.ext hg9))
  refine hK _ _ (fun z : World => z.cell? ⟨n, 1, none⟩ = some (.int .i64 t) ∧ z.cell? ⟨n + 1, 1, none⟩ = some (.int .i64 pl) ∧ z.cell? ⟨n + 1, 2, none⟩ = some (.string (bs d))) ⟨HM8.out.m.p.cell 1, HM8.out.m.c.cell 1, HM8.out.m.c.cell 2⟩ (fun _ h => h) ?_
  have hS : (fun z : World => z.cell? ⟨n, 1, none⟩ = some (.int .i64 t) ∧ z.cell? ⟨n + 1, 1, none⟩ = some (.int .i64 pl) ∧ z.cell? ⟨n + 1, 2, none⟩ = some (.string (bs d))) w9 := ⟨HM8.out.m.p.cell 1, HM8.out.m.c.cell 1, HM8.out.m.c.cell 2⟩
  clear hK K hg9 a1 a2
  rw [show (bs d).data.toList = d from rfl]
  have a3 := add_bs s6 (txtL d) (by omega)
  obtain ⟨s, hs⟩ : ∃ s, s6 ++ txtL d = s := ⟨_, rfl⟩
  rw [hs] at a3
  have HS2 := Lib.hid hs
  clear hs
  iterate 2 (refine line_read (a' := ?_) rfl (by kernel_rfl) (by kernel_rfl) hS (fun z hz K hK => ?_) ?_; rotate_left; · (go_wp2; exact hK))
  refine line_end ?_
  clear hS a3
  go_upto_region 37 with fail
  have hM8 := HM8.out
  have p1 := hM8.m.p.range25
  have p2 := hM8.m.d.range25
  have HG := Lib.hid hM8.g
  clear hM8 HM8
  by_cases hq : (⟨k, t, 0, 0, 0, op, pl, d⟩ : Stp) = ⟨k, t, o, a, b, op, pl, d⟩
  · have hN : decide ((⟨k, t, 0, 0, 0, op, pl, d⟩ : Stp) = ⟨k, t, o, a, b, op, pl, d⟩) = true := by simpa using hq
    have HQ := Lib.hid hq
    have HNN := Lib.hid hN
    clear hq hN
    go_wp2_with (first | (refine stp_neq_op rfl _ _ rfl HNN.out rfl rfl ?_) | (refine stp_load rfl _ rfl rfl p2 ?_) | (refine stp_load rfl _ rfl rfl p1 ?_))
    go_ret2
    exact line_ok HJ.out (by decide) HQ.out _ _ HG.out (by rw [HS.out, HS5.out.1, HS5.out.2]; exact HS2.out)
  · have hN : decide ((⟨k, t, 0, 0, 0, op, pl, d⟩ : Stp) = ⟨k, t, o, a, b, op, pl, d⟩) = false := by simpa using hq
    have HQ := Lib.hid hq
    have HNN := Lib.hid hN
    clear hq hN
    go_wp2_with (first | (refine stp_neq_op rfl _ _ rfl HNN.out rfl rfl ?_) | (refine stp_load rfl _ rfl rfl p2 ?_) | (refine stp_load rfl _ rfl rfl p1 ?_))
    go_ret2
    exact line_no HJ.out (fun _ => HQ.out) _ _ HG.out

set_option maxHeartbeats 1600000 in
theorem line25_6 (w : World) (k t o a b op pl : Int) (d : List UInt8) (hx : Stp.rng ⟨k, t, o, a, b, op, pl, d⟩) (hd : d.length ≤ 2000) (hk : k = 5 ∧ op = 3) (hj : kdL ⟨k, t, o, a, b, op, pl, d⟩ = 6) :
    Calls Tryd.prog 9 #[.agg (stpC ⟨k, t, o, a, b, op, pl, d⟩)] w (LineA ⟨k, t, o, a, b, op, pl, d⟩ w) := by
  have hk1 : ((k == 1) = false) := by rw [beq_eq_false_iff_ne]; omega
  have hk2 : ((k == 2) = false) := by rw [beq_eq_false_iff_ne]; omega
  have hk3 : ((k == 3) = false) := by rw [beq_eq_false_iff_ne]; omega
  have hk4 : ((k == 4) = false) := by rw [beq_eq_false_iff_ne]; omega
  have hk5 : ((k == 5) = true) := by rw [beq_iff_eq]; omega
  have ho1 : ((op == 1) = false) := by rw [beq_eq_false_iff_ne]; omega
  have ho2 : ((op == 2) = false) := by rw [beq_eq_false_iff_ne]; omega
  have ho3 : ((op == 3) = true) := by rw [beq_iff_eq]; omega
  have M : LnG w (((w.alloc (.cells #[.int .i64 k, .int .i64 t, .int .i64 o, .int .i64 a, .int .i64 b, .int .i64 op, .int .i64 pl, .string (bs d)] 25)).alloc (.cells #[.int .i64 op, .int .i64 pl, .string (bs d)] 23)).alloc (.cells #[.int .i64 k, .int .i64 t, .int .i64 0, .int .i64 0, .int .i64 0, .int .i64 0, .int .i64 0, .string ⟨#[]⟩] 25)) w.heap.size ⟨k, t, o, a, b, op, pl, d⟩ ⟨k, t, 0, 0, 0, 0, 0, []⟩ := ⟨lnM_new w ⟨k, t, o, a, b, op, pl, d⟩, lnM_grown w ⟨k, t, o, a, b, op, pl, d⟩ ⟨k, t, 0, 0, 0, 0, 0, []⟩ #[.int .i64 op, .int .i64 pl, .string (bs d)], Nat.le_refl _⟩
  obtain ⟨w3, hw3⟩ : ∃ z, ((w.alloc (.cells #[.int .i64 k, .int .i64 t, .int .i64 o, .int .i64 a, .int .i64 b, .int .i64 op, .int .i64 pl, .string (bs d)] 25)).alloc (.cells #[.int .i64 op, .int .i64 pl, .string (bs d)] 23)).alloc (.cells #[.int .i64 k, .int .i64 t, .int .i64 0, .int .i64 0, .int .i64 0, .int .i64 0, .int .i64 0, .string ⟨#[]⟩] 25) = z := ⟨_, rfl⟩
  rw [hw3] at M
  unfold stpC
  simp only
  have HJ := Lib.hid hj
  have HK := Lib.hid hk
  have HX := Lib.hid hx
  have HW := Lib.hid hw3
  have HM := Lib.hid M
  clear M hx hw3 hk hj
  go_enter Tryd.func9, Tryd.ntmps9
  go_upto_region 23 with fail
  rw [HW.out]
  obtain ⟨n, hn⟩ : ∃ n, w.heap.size = n := ⟨_, rfl⟩
  have M := HM.out
  rw [hn] at M
  rw [hn]
  clear hn HW HM
  have HM := Lib.hid M
  have d5 : w3.cell? ⟨n + 1 + 1, 5, none⟩ = some (.int .i64 0) := M.m.d.cell 5
  have f5 : w3.frozen? ⟨n + 1 + 1, 5, none⟩ = false := M.m.d.free 5
  have d6 : w3.cell? ⟨n + 1 + 1, 6, none⟩ = some (.int .i64 0) := M.m.d.cell 6
  have f6 : w3.frozen? ⟨n + 1 + 1, 6, none⟩ = false := M.m.d.free 6
  have d7 : w3.cell? ⟨n + 1 + 1, 7, none⟩ = some (.string ⟨#[]⟩) := M.m.d.cell 7
  have f7 : w3.frozen? ⟨n + 1 + 1, 7, none⟩ = false := M.m.d.free 7
  have qc1 : w3.cell? ⟨n + 1, 1, none⟩ = some (.int .i64 pl) := M.m.c.cell 1
  have hM := (((M.set (i := 5) (v := .int .i64 3) (z := ⟨k, t, 0, 0, 0, 3, 0, []⟩) rfl).set (i := 6) (v := .int .i64 pl) (z := ⟨k, t, 0, 0, 0, 3, pl, []⟩) rfl).set (i := 7) (v := .string ⟨#[]⟩) (z := ⟨k, t, 0, 0, 0, 3, pl, []⟩) rfl)
  clear M HM
  have HMM := Lib.hid hM
  clear hM
  go_upto_region 24 with fail
  have hM := HMM.out
  obtain ⟨w5, hw5⟩ : ∃ z, (((w3.setCell ⟨n + 1 + 1, 5, none⟩ (.int .i64 3)).setCell ⟨n + 1 + 1, 6, none⟩ (.int .i64 pl)).setCell ⟨n + 1 + 1, 7, none⟩ (.string ⟨#[]⟩)) = z := ⟨_, rfl⟩
  rw [hw5] at hM ⊢
  clear hw5 HMM d5 f5 d6 f6 d7 f7 qc1
  have HM := Lib.hid hM
  have c_t : w5.cell? ⟨n, 1, none⟩ = some (.int .i64 t) := hM.m.p.cell 1
  have c_pl : w5.cell? ⟨n + 1, 1, none⟩ = some (.int .i64 pl) := hM.m.c.cell 1
  have hr0 : ∀ m ∈ ([t, pl] : List Int), i64B m := by
    intro m hm
    simp only [List.mem_cons, List.not_mem_nil, or_false] at hm
    rcases hm with rfl | rfl
    · exact HX.out.t
    · exact HX.out.pl
  have hr1 := numsL_len hr0
  have HR := Lib.hid hr0
  obtain ⟨r, hr⟩ : ∃ r, numsL [t, pl] = r := ⟨_, rfl⟩
  rw [hr] at hr1
  have hr2 : r.length ≤ 66 := by simp at hr1; omega
  have hw1 : wordsL 6 ⟨k, t, o, a, b, op, pl, d⟩ = List.map numL [t, pl] := rfl
  have HS := Lib.hid (show spellL 6 ⟨k, t, o, a, b, op, pl, d⟩ = nmL 6 ++ r from by rw [spell_nums _ _ _ hw1, hr])
  have HRR := Lib.hid hr
  clear hM hr0 hr1 hr hw1
  have hI : Ints (w5.alloc (.cells #[.int .i64 t, .int .i64 pl] 3)) (.slice (some ⟨w5.heap.size, 0, none⟩) 2 2) [t, pl] := lit_ints w5 [t, pl]
  have HI := Lib.hid hI
  have a1 := add_bs (nmL 6) r (by (have : (nmL 6).length ≤ 10 := by decide); omega)
  have a2 : ∀ z, (Op.stringOp .add ⟨#[116, 114, 105, 109]⟩ (bs r)).run Tryd.prog z = .ok (.string (bs (nmL 6 ++ r))) z := a1
  obtain ⟨s, hs⟩ : ∃ s, nmL 6 ++ r = s := ⟨_, rfl⟩
  rw [hs] at a2
  have HS2 := Lib.hid hs
  clear hI a1 hs
  go_upto_region 37 with (go_at_call 25; refine (nums25 _ _ [t, pl] HI.out HR.out (by simp)).mono ?_; rintro e w8 ⟨rfl, hg8⟩; rw [HRR.out]; have HM8 := Lib.hid (HM.out.ext (ext_trans (World.grownBy_alloc w5 (.cells #[.int .i64 t, .int .i64 pl] 3) none) hg8)); clear hg8 c_t c_pl)
  have hM8 := HM8.out
  have p1 := hM8.m.p.range25
  have p2 := hM8.m.d.range25
  have HG := Lib.hid hM8.g
  clear hM8 HM8
  by_cases hq : (⟨k, t, 0, 0, 0, 3, pl, []⟩ : Stp) = ⟨k, t, o, a, b, op, pl, d⟩
  · have hN : decide ((⟨k, t, 0, 0, 0, 3, pl, []⟩ : Stp) = ⟨k, t, o, a, b, op, pl, d⟩) = true := by simpa using hq
    have HQ := Lib.hid hq
    have HNN := Lib.hid hN
    clear hq hN
    go_wp2_with (first | (refine stp_neq_op rfl _ _ rfl HNN.out rfl rfl ?_) | (refine stp_load rfl _ rfl rfl p2 ?_) | (refine stp_load rfl _ rfl rfl p1 ?_))
    go_ret2
    exact line_ok HJ.out (by decide) HQ.out _ _ HG.out (by rw [HS.out]; exact HS2.out)
  · have hN : decide ((⟨k, t, 0, 0, 0, 3, pl, []⟩ : Stp) = ⟨k, t, o, a, b, op, pl, d⟩) = false := by simpa using hq
    have HQ := Lib.hid hq
    have HNN := Lib.hid hN
    clear hq hN
    go_wp2_with (first | (refine stp_neq_op rfl _ _ rfl HNN.out rfl rfl ?_) | (refine stp_load rfl _ rfl rfl p2 ?_) | (refine stp_load rfl _ rfl rfl p1 ?_))
    go_ret2
    exact line_no HJ.out (fun _ => HQ.out) _ _ HG.out

set_option maxHeartbeats 1600000 in
theorem line25_7 (w : World) (k t o a b op pl : Int) (d : List UInt8) (hx : Stp.rng ⟨k, t, o, a, b, op, pl, d⟩) (hd : d.length ≤ 2000) (hk : k = 5 ∧ op = 4) (hj : kdL ⟨k, t, o, a, b, op, pl, d⟩ = 7) :
    Calls Tryd.prog 9 #[.agg (stpC ⟨k, t, o, a, b, op, pl, d⟩)] w (LineA ⟨k, t, o, a, b, op, pl, d⟩ w) := by
  have hk1 : ((k == 1) = false) := by rw [beq_eq_false_iff_ne]; omega
  have hk2 : ((k == 2) = false) := by rw [beq_eq_false_iff_ne]; omega
  have hk3 : ((k == 3) = false) := by rw [beq_eq_false_iff_ne]; omega
  have hk4 : ((k == 4) = false) := by rw [beq_eq_false_iff_ne]; omega
  have hk5 : ((k == 5) = true) := by rw [beq_iff_eq]; omega
  have ho1 : ((op == 1) = false) := by rw [beq_eq_false_iff_ne]; omega
  have ho2 : ((op == 2) = false) := by rw [beq_eq_false_iff_ne]; omega
  have ho3 : ((op == 3) = false) := by rw [beq_eq_false_iff_ne]; omega
  have ho4 : ((op == 4) = true) := by rw [beq_iff_eq]; omega
  have M : LnG w (((w.alloc (.cells #[.int .i64 k, .int .i64 t, .int .i64 o, .int .i64 a, .int .i64 b, .int .i64 op, .int .i64 pl, .string (bs d)] 25)).alloc (.cells #[.int .i64 op, .int .i64 pl, .string (bs d)] 23)).alloc (.cells #[.int .i64 k, .int .i64 t, .int .i64 0, .int .i64 0, .int .i64 0, .int .i64 0, .int .i64 0, .string ⟨#[]⟩] 25)) w.heap.size ⟨k, t, o, a, b, op, pl, d⟩ ⟨k, t, 0, 0, 0, 0, 0, []⟩ := ⟨lnM_new w ⟨k, t, o, a, b, op, pl, d⟩, lnM_grown w ⟨k, t, o, a, b, op, pl, d⟩ ⟨k, t, 0, 0, 0, 0, 0, []⟩ #[.int .i64 op, .int .i64 pl, .string (bs d)], Nat.le_refl _⟩
  obtain ⟨w3, hw3⟩ : ∃ z, ((w.alloc (.cells #[.int .i64 k, .int .i64 t, .int .i64 o, .int .i64 a, .int .i64 b, .int .i64 op, .int .i64 pl, .string (bs d)] 25)).alloc (.cells #[.int .i64 op, .int .i64 pl, .string (bs d)] 23)).alloc (.cells #[.int .i64 k, .int .i64 t, .int .i64 0, .int .i64 0, .int .i64 0, .int .i64 0, .int .i64 0, .string ⟨#[]⟩] 25) = z := ⟨_, rfl⟩
  rw [hw3] at M
  unfold stpC
  simp only
  have HJ := Lib.hid hj
  have HK := Lib.hid hk
  have HX := Lib.hid hx
  have HW := Lib.hid hw3
  have HM := Lib.hid M
  clear M hx hw3 hk hj
  go_enter Tryd.func9, Tryd.ntmps9
  go_upto_region 26 with fail
  rw [HW.out]
  obtain ⟨n, hn⟩ : ∃ n, w.heap.size = n := ⟨_, rfl⟩
  have M := HM.out
  rw [hn] at M
  rw [hn]
  clear hn HW HM
  have HM := Lib.hid M
  have d5 : w3.cell? ⟨n + 1 + 1, 5, none⟩ = some (.int .i64 0) := M.m.d.cell 5
  have f5 : w3.frozen? ⟨n + 1 + 1, 5, none⟩ = false := M.m.d.free 5
  have d6 : w3.cell? ⟨n + 1 + 1, 6, none⟩ = some (.int .i64 0) := M.m.d.cell 6
  have f6 : w3.frozen? ⟨n + 1 + 1, 6, none⟩ = false := M.m.d.free 6
  have d7 : w3.cell? ⟨n + 1 + 1, 7, none⟩ = some (.string ⟨#[]⟩) := M.m.d.cell 7
  have f7 : w3.frozen? ⟨n + 1 + 1, 7, none⟩ = false := M.m.d.free 7
  have hM := (((M.set (i := 5) (v := .int .i64 4) (z := ⟨k, t, 0, 0, 0, 4, 0, []⟩) rfl).set (i := 6) (v := .int .i64 0) (z := ⟨k, t, 0, 0, 0, 4, 0, []⟩) rfl).set (i := 7) (v := .string ⟨#[]⟩) (z := ⟨k, t, 0, 0, 0, 4, 0, []⟩) rfl)
  clear M HM
  have HMM := Lib.hid hM
  clear hM
  go_upto_region 27 with fail
  have hM := HMM.out
  obtain ⟨w5, hw5⟩ : ∃ z, (((w3.setCell ⟨n + 1 + 1, 5, none⟩ (.int .i64 4)).setCell ⟨n + 1 + 1, 6, none⟩ (.int .i64 0)).setCell ⟨n + 1 + 1, 7, none⟩ (.string ⟨#[]⟩)) = z := ⟨_, rfl⟩
  rw [hw5] at hM ⊢
  clear hw5 HMM d5 f5 d6 f6 d7 f7 
  have HM := Lib.hid hM
  have c_t : w5.cell? ⟨n, 1, none⟩ = some (.int .i64 t) := hM.m.p.cell 1
  have hr0 : ∀ m ∈ ([t] : List Int), i64B m := by
    intro m hm
    simp only [List.mem_cons, List.not_mem_nil, or_false] at hm
    subst hm; exact HX.out.t
  have hr1 := numsL_len hr0
  have HR := Lib.hid hr0
  obtain ⟨r, hr⟩ : ∃ r, numsL [t] = r := ⟨_, rfl⟩
  rw [hr] at hr1
  have hr2 : r.length ≤ 66 := by simp at hr1; omega
  have hw1 : wordsL 7 ⟨k, t, o, a, b, op, pl, d⟩ = List.map numL [t] := rfl
  have HS := Lib.hid (show spellL 7 ⟨k, t, o, a, b, op, pl, d⟩ = nmL 7 ++ r from by rw [spell_nums _ _ _ hw1, hr])
  have HRR := Lib.hid hr
  clear hM hr0 hr1 hr hw1
  have hI : Ints (w5.alloc (.cells #[.int .i64 t] 3)) (.slice (some ⟨w5.heap.size, 0, none⟩) 1 1) [t] := lit_ints w5 [t]
  have HI := Lib.hid hI
  have a1 := add_bs (nmL 7) r (by (have : (nmL 7).length ≤ 10 := by decide); omega)
  have a2 : ∀ z, (Op.stringOp .add ⟨#[102, 108, 117, 115, 104]⟩ (bs r)).run Tryd.prog z = .ok (.string (bs (nmL 7 ++ r))) z := a1
  obtain ⟨s, hs⟩ : ∃ s, nmL 7 ++ r = s := ⟨_, rfl⟩
  rw [hs] at a2
  have HS2 := Lib.hid hs
  clear hI a1 hs
  go_upto_region 37 with (go_at_call 25; refine (nums25 _ _ [t] HI.out HR.out (by simp)).mono ?_; rintro e w8 ⟨rfl, hg8⟩; rw [HRR.out]; have HM8 := Lib.hid (HM.out.ext (ext_trans (World.grownBy_alloc w5 (.cells #[.int .i64 t] 3) none) hg8)); clear hg8 c_t)
  have hM8 := HM8.out
  have p1 := hM8.m.p.range25
  have p2 := hM8.m.d.range25
  have HG := Lib.hid hM8.g
  clear hM8 HM8
  by_cases hq : (⟨k, t, 0, 0, 0, 4, 0, []⟩ : Stp) = ⟨k, t, o, a, b, op, pl, d⟩
  · have hN : decide ((⟨k, t, 0, 0, 0, 4, 0, []⟩ : Stp) = ⟨k, t, o, a, b, op, pl, d⟩) = true := by simpa using hq
    have HQ := Lib.hid hq
    have HNN := Lib.hid hN
    clear hq hN
    go_wp2_with (first | (refine stp_neq_op rfl _ _ rfl HNN.out rfl rfl ?_) | (refine stp_load rfl _ rfl rfl p2 ?_) | (refine stp_load rfl _ rfl rfl p1 ?_))
    go_ret2
    exact line_ok HJ.out (by decide) HQ.out _ _ HG.out (by rw [HS.out]; exact HS2.out)
  · have hN : decide ((⟨k, t, 0, 0, 0, 4, 0, []⟩ : Stp) = ⟨k, t, o, a, b, op, pl, d⟩) = false := by simpa using hq
    have HQ := Lib.hid hq
    have HNN := Lib.hid hN
    clear hq hN
    go_wp2_with (first | (refine stp_neq_op rfl _ _ rfl HNN.out rfl rfl ?_) | (refine stp_load rfl _ rfl rfl p2 ?_) | (refine stp_load rfl _ rfl rfl p1 ?_))
    go_ret2
    exact line_no HJ.out (fun _ => HQ.out) _ _ HG.out

set_option maxHeartbeats 1600000 in
theorem line25_8 (w : World) (k t o a b op pl : Int) (d : List UInt8) (hx : Stp.rng ⟨k, t, o, a, b, op, pl, d⟩) (hd : d.length ≤ 2000) (hk : k = 6) (hj : kdL ⟨k, t, o, a, b, op, pl, d⟩ = 8) :
    Calls Tryd.prog 9 #[.agg (stpC ⟨k, t, o, a, b, op, pl, d⟩)] w (LineA ⟨k, t, o, a, b, op, pl, d⟩ w) := by
  have hk1 : ((k == 1) = false) := by rw [beq_eq_false_iff_ne]; omega
  have hk2 : ((k == 2) = false) := by rw [beq_eq_false_iff_ne]; omega
  have hk3 : ((k == 3) = false) := by rw [beq_eq_false_iff_ne]; omega
  have hk4 : ((k == 4) = false) := by rw [beq_eq_false_iff_ne]; omega
  have hk5 : ((k == 5) = false) := by rw [beq_eq_false_iff_ne]; omega
  have hk6 : ((k == 6) = true) := by rw [beq_iff_eq]; omega
  have M : LnG w (((w.alloc (.cells #[.int .i64 k, .int .i64 t, .int .i64 o, .int .i64 a, .int .i64 b, .int .i64 op, .int .i64 pl, .string (bs d)] 25)).alloc (.cells #[.int .i64 op, .int .i64 pl, .string (bs d)] 23)).alloc (.cells #[.int .i64 k, .int .i64 t, .int .i64 0, .int .i64 0, .int .i64 0, .int .i64 0, .int .i64 0, .string ⟨#[]⟩] 25)) w.heap.size ⟨k, t, o, a, b, op, pl, d⟩ ⟨k, t, 0, 0, 0, 0, 0, []⟩ := ⟨lnM_new w ⟨k, t, o, a, b, op, pl, d⟩, lnM_grown w ⟨k, t, o, a, b, op, pl, d⟩ ⟨k, t, 0, 0, 0, 0, 0, []⟩ #[.int .i64 op, .int .i64 pl, .string (bs d)], Nat.le_refl _⟩
  obtain ⟨w3, hw3⟩ : ∃ z, ((w.alloc (.cells #[.int .i64 k, .int .i64 t, .int .i64 o, .int .i64 a, .int .i64 b, .int .i64 op, .int .i64 pl, .string (bs d)] 25)).alloc (.cells #[.int .i64 op, .int .i64 pl, .string (bs d)] 23)).alloc (.cells #[.int .i64 k, .int .i64 t, .int .i64 0, .int .i64 0, .int .i64 0, .int .i64 0, .int .i64 0, .string ⟨#[]⟩] 25) = z := ⟨_, rfl⟩
  rw [hw3] at M
  unfold stpC
  simp only
  have HJ := Lib.hid hj
  have HK := Lib.hid hk
  have HX := Lib.hid hx
  have HW := Lib.hid hw3
  have HM := Lib.hid M
  clear M hx hw3 hk hj
  go_enter Tryd.func9, Tryd.ntmps9
  go_upto_region 29 with fail
  rw [HW.out]
  obtain ⟨n, hn⟩ : ∃ n, w.heap.size = n := ⟨_, rfl⟩
  have M := HM.out
  rw [hn] at M
  rw [hn]
  clear hn HW HM
  have HM := Lib.hid M
  have hS : (fun z : World => z.cell? ⟨n, 3, none⟩ = some (.int .i64 a)) w3.drew := M.m.p.cell 3
  have M0 := Lib.hid M.drew
  clear M HM
  refine region_line [(0, true), (1, true), (2, true), (3, false), (4, true), (5, false)] (fun z : World => z.cell? ⟨n, 3, none⟩ = some (.int .i64 a)) (by kernel_rfl) (by kernel_rfl) (fun _ _ _ d _ h => by cases d <;> exact h) hS ?_
  obtain ⟨w4, hw4⟩ : ∃ z, w3.drew = z := ⟨_, rfl⟩
  rw [hw4] at M0 hS ⊢
  clear hw4
  iterate 3 (refine line_read (a' := ?_) rfl (by kernel_rfl) (by kernel_rfl) hS (fun z hz K hK => ?_) ?_; rotate_left; · (go_wp2; exact hK))
  have dc : w4.cell? ⟨n + 1 + 1, 1, none⟩ = some (.int .i64 t) := M0.out.m.d.cell 1
  have fc : w4.frozen? ⟨n + 1 + 1, 1, none⟩ = false := M0.out.m.d.free 1
  have hq := M0.out.set (i := 1) (v := .int .i64 0) (z := ⟨k, 0, 0, 0, 0, 0, 0, []⟩) rfl
  refine line_act rfl fun K hK => ?_
  go_wp2
  obtain ⟨w5, hw⟩ : ∃ z, w4.setCell ⟨n + 1 + 1, 1, none⟩ (.int .i64 0) = z := ⟨_, rfl⟩
  rw [hw] at hq ⊢
  have hS : (fun z : World => z.cell? ⟨n, 3, none⟩ = some (.int .i64 a)) w5 := hq.m.p.cell 3
  have M1 := Lib.hid hq
  refine hK _ _ (fun z : World => z.cell? ⟨n, 3, none⟩ = some (.int .i64 a)) hS (fun _ h => h) ?_
  clear hK K hw hq dc fc
  iterate 1 (refine line_read (a' := ?_) rfl (by kernel_rfl) (by kernel_rfl) hS (fun z hz K hK => ?_) ?_; rotate_left; · (go_wp2; exact hK))
  have dc : w5.cell? ⟨n + 1 + 1, 3, none⟩ = some (.int .i64 0) := M1.out.m.d.cell 3
  have fc : w5.frozen? ⟨n + 1 + 1, 3, none⟩ = false := M1.out.m.d.free 3
  have hq := M1.out.set (i := 3) (v := .int .i64 a) (z := ⟨k, 0, 0, a, 0, 0, 0, []⟩) rfl
  refine line_act rfl fun K hK => ?_
  go_wp2
  obtain ⟨w6, hw⟩ : ∃ z, w5.setCell ⟨n + 1 + 1, 3, none⟩ (.int .i64 a) = z := ⟨_, rfl⟩
  rw [hw] at hq ⊢
  have hS : (fun z : World => z.cell? ⟨n, 3, none⟩ = some (.int .i64 a)) w6 := hq.m.p.cell 3
  have M2 := Lib.hid hq
  refine hK _ _ (fun z : World => z.cell? ⟨n, 3, none⟩ = some (.int .i64 a)) hS (fun _ h => h) ?_
  clear hK K hw hq dc fc
  refine line_end ?_
  have hM := M2.out
  clear hS
  go_upto_region 30 with fail
  have HM := Lib.hid hM
  have c_a : w6.cell? ⟨n, 3, none⟩ = some (.int .i64 a) := hM.m.p.cell 3
  have hr0 : ∀ m ∈ ([a] : List Int), i64B m := by
    intro m hm
    simp only [List.mem_cons, List.not_mem_nil, or_false] at hm
    subst hm; exact HX.out.a
  have hr1 := numsL_len hr0
  have HR := Lib.hid hr0
  obtain ⟨r, hr⟩ : ∃ r, numsL [a] = r := ⟨_, rfl⟩
  rw [hr] at hr1
  have hr2 : r.length ≤ 66 := by simp at hr1; omega
  have hw1 : wordsL 8 ⟨k, t, o, a, b, op, pl, d⟩ = List.map numL [a] := rfl
  have HS := Lib.hid (show spellL 8 ⟨k, t, o, a, b, op, pl, d⟩ = nmL 8 ++ r from by rw [spell_nums _ _ _ hw1, hr])
  have HRR := Lib.hid hr
  clear hM hr0 hr1 hr hw1
  have hI : Ints (w6.alloc (.cells #[.int .i64 a] 3)) (.slice (some ⟨w6.heap.size, 0, none⟩) 1 1) [a] := lit_ints w6 [a]
  have HI := Lib.hid hI
  have a1 := add_bs (nmL 8) r (by (have : (nmL 8).length ≤ 10 := by decide); omega)
  have a2 : ∀ z, (Op.stringOp .add ⟨#[115, 108, 111, 116, 115]⟩ (bs r)).run Tryd.prog z = .ok (.string (bs (nmL 8 ++ r))) z := a1
  obtain ⟨s, hs⟩ : ∃ s, nmL 8 ++ r = s := ⟨_, rfl⟩
  rw [hs] at a2
  have HS2 := Lib.hid hs
  clear hI a1 hs
  go_upto_region 37 with (go_at_call 25; refine (nums25 _ _ [a] HI.out HR.out (by simp)).mono ?_; rintro e w8 ⟨rfl, hg8⟩; rw [HRR.out]; have HM8 := Lib.hid (HM.out.ext (ext_trans (World.grownBy_alloc w6 (.cells #[.int .i64 a] 3) none) hg8)); clear hg8 c_a)
  have hM8 := HM8.out
  have p1 := hM8.m.p.range25
  have p2 := hM8.m.d.range25
  have HG := Lib.hid hM8.g
  clear hM8 HM8
  by_cases hq : (⟨k, 0, 0, a, 0, 0, 0, []⟩ : Stp) = ⟨k, t, o, a, b, op, pl, d⟩
  · have hN : decide ((⟨k, 0, 0, a, 0, 0, 0, []⟩ : Stp) = ⟨k, t, o, a, b, op, pl, d⟩) = true := by simpa using hq
    have HQ := Lib.hid hq
    have HNN := Lib.hid hN
    clear hq hN
    go_wp2_with (first | (refine stp_neq_op rfl _ _ rfl HNN.out rfl rfl ?_) | (refine stp_load rfl _ rfl rfl p2 ?_) | (refine stp_load rfl _ rfl rfl p1 ?_))
    go_ret2
    exact line_ok HJ.out (by decide) HQ.out _ _ HG.out (by rw [HS.out]; exact HS2.out)
  · have hN : decide ((⟨k, 0, 0, a, 0, 0, 0, []⟩ : Stp) = ⟨k, t, o, a, b, op, pl, d⟩) = false := by simpa using hq
    have HQ := Lib.hid hq
    have HNN := Lib.hid hN
    clear hq hN
    go_wp2_with (first | (refine stp_neq_op rfl _ _ rfl HNN.out rfl rfl ?_) | (refine stp_load rfl _ rfl rfl p2 ?_) | (refine stp_load rfl _ rfl rfl p1 ?_))
    go_ret2
    exact line_no HJ.out (fun _ => HQ.out) _ _ HG.out

set_option maxHeartbeats 1600000 in
theorem line25_9 (w : World) (k t o a b op pl : Int) (d : List UInt8) (hx : Stp.rng ⟨k, t, o, a, b, op, pl, d⟩) (hd : d.length ≤ 2000) (hk : k = 7) (hj : kdL ⟨k, t, o, a, b, op, pl, d⟩ = 9) :
    Calls Tryd.prog 9 #[.agg (stpC ⟨k, t, o, a, b, op, pl, d⟩)] w (LineA ⟨k, t, o, a, b, op, pl, d⟩ w) := by
  have hk1 : ((k == 1) = false) := by rw [beq_eq_false_iff_ne]; omega
  have hk2 : ((k == 2) = false) := by rw [beq_eq_false_iff_ne]; omega
  have hk3 : ((k == 3) = false) := by rw [beq_eq_false_iff_ne]; omega
  have hk4 : ((k == 4) = false) := by rw [beq_eq_false_iff_ne]; omega
  have hk5 : ((k == 5) = false) := by rw [beq_eq_false_iff_ne]; omega
  have hk6 : ((k == 6) = false) := by rw [beq_eq_false_iff_ne]; omega
  have hk7 : ((k == 7) = true) := by rw [beq_iff_eq]; omega
  have M : LnG w (((w.alloc (.cells #[.int .i64 k, .int .i64 t, .int .i64 o, .int .i64 a, .int .i64 b, .int .i64 op, .int .i64 pl, .string (bs d)] 25)).alloc (.cells #[.int .i64 op, .int .i64 pl, .string (bs d)] 23)).alloc (.cells #[.int .i64 k, .int .i64 t, .int .i64 0, .int .i64 0, .int .i64 0, .int .i64 0, .int .i64 0, .string ⟨#[]⟩] 25)) w.heap.size ⟨k, t, o, a, b, op, pl, d⟩ ⟨k, t, 0, 0, 0, 0, 0, []⟩ := ⟨lnM_new w ⟨k, t, o, a, b, op, pl, d⟩, lnM_grown w ⟨k, t, o, a, b, op, pl, d⟩ ⟨k, t, 0, 0, 0, 0, 0, []⟩ #[.int .i64 op, .int .i64 pl, .string (bs d)], Nat.le_refl _⟩
  obtain ⟨w3, hw3⟩ : ∃ z, ((w.alloc (.cells #[.int .i64 k, .int .i64 t, .int .i64 o, .int .i64 a, .int .i64 b, .int .i64 op, .int .i64 pl, .string (bs d)] 25)).alloc (.cells #[.int .i64 op, .int .i64 pl, .string (bs d)] 23)).alloc (.cells #[.int .i64 k, .int .i64 t, .int .i64 0, .int .i64 0, .int .i64 0, .int .i64 0, .int .i64 0, .string ⟨#[]⟩] 25) = z := ⟨_, rfl⟩
  rw [hw3] at M
  unfold stpC
  simp only
  have HJ := Lib.hid hj
  have HK := Lib.hid hk
  have HX := Lib.hid hx
  have HW := Lib.hid hw3
  have HM := Lib.hid M
  clear M hx hw3 hk hj
  go_enter Tryd.func9, Tryd.ntmps9
  go_upto_region 32 with fail
  rw [HW.out]
  obtain ⟨n, hn⟩ : ∃ n, w.heap.size = n := ⟨_, rfl⟩
  have M := HM.out
  rw [hn] at M
  rw [hn]
  clear hn HW HM
  have HM := Lib.hid M
  have hS : (fun z : World => z.cell? ⟨n, 3, none⟩ = some (.int .i64 a) ∧ z.cell? ⟨n, 4, none⟩ = some (.int .i64 b)) w3.drew := ⟨M.m.p.cell 3, M.m.p.cell 4⟩
  have M0 := Lib.hid M.drew
  clear M HM
  refine region_line [(0, true), (1, true), (2, true), (3, true), (4, true), (5, false), (6, true), (7, false), (8, true), (9, false)] (fun z : World => z.cell? ⟨n, 3, none⟩ = some (.int .i64 a) ∧ z.cell? ⟨n, 4, none⟩ = some (.int .i64 b)) (by kernel_rfl) (by kernel_rfl) (fun _ _ _ d _ h => by cases d <;> exact h) hS ?_
  obtain ⟨w4, hw4⟩ : ∃ z, w3.drew = z := ⟨_, rfl⟩
  rw [hw4] at M0 hS ⊢
  clear hw4
  iterate 5 (refine line_read (a' := ?_) rfl (by kernel_rfl) (by kernel_rfl) hS (fun z hz K hK => ?_) ?_; rotate_left; · (obtain ⟨c3, c4⟩ := hz; go_wp2; exact hK))
  have dc : w4.cell? ⟨n + 1 + 1, 1, none⟩ = some (.int .i64 t) := M0.out.m.d.cell 1
  have fc : w4.frozen? ⟨n + 1 + 1, 1, none⟩ = false := M0.out.m.d.free 1
  have hq := M0.out.set (i := 1) (v := .int .i64 0) (z := ⟨k, 0, 0, 0, 0, 0, 0, []⟩) rfl
  refine line_act rfl fun K hK => ?_
  go_wp2
  obtain ⟨w5, hw⟩ : ∃ z, w4.setCell ⟨n + 1 + 1, 1, none⟩ (.int .i64 0) = z := ⟨_, rfl⟩
  rw [hw] at hq ⊢
  have hS : (fun z : World => z.cell? ⟨n, 3, none⟩ = some (.int .i64 a) ∧ z.cell? ⟨n, 4, none⟩ = some (.int .i64 b)) w5 := ⟨hq.m.p.cell 3, hq.m.p.cell 4⟩
  have M1 := Lib.hid hq
  refine hK _ _ (fun z : World => z.cell? ⟨n, 3, none⟩ = some (.int .i64 a) ∧ z.cell? ⟨n, 4, none⟩ = some (.int .i64 b)) hS (fun _ h => h) ?_
  clear hK K hw hq dc fc
  iterate 1 (refine line_read (a' := ?_) rfl (by kernel_rfl) (by kernel_rfl) hS (fun z hz K hK => ?_) ?_; rotate_left; · (obtain ⟨c3, c4⟩ := hz; go_wp2; exact hK))
  have dc : w5.cell? ⟨n + 1 + 1, 3, none⟩ = some (.int .i64 0) := M1.out.m.d.cell 3
  have fc : w5.frozen? ⟨n + 1 + 1, 3, none⟩ = false := M1.out.m.d.free 3
  have hq := M1.out.set (i := 3) (v := .int .i64 a) (z := ⟨k, 0, 0, a, 0, 0, 0, []⟩) rfl
  refine line_act rfl fun K hK => ?_
  go_wp2
  obtain ⟨w6, hw⟩ : ∃ z, w5.setCell ⟨n + 1 + 1, 3, none⟩ (.int .i64 a) = z := ⟨_, rfl⟩
  rw [hw] at hq ⊢
  have hS : (fun z : World => z.cell? ⟨n, 3, none⟩ = some (.int .i64 a) ∧ z.cell? ⟨n, 4, none⟩ = some (.int .i64 b)) w6 := ⟨hq.m.p.cell 3, hq.m.p.cell 4⟩
  have M2 := Lib.hid hq
  refine hK _ _ (fun z : World => z.cell? ⟨n, 3, none⟩ = some (.int .i64 a) ∧ z.cell? ⟨n, 4, none⟩ = some (.int .i64 b)) hS (fun _ h => h) ?_
  clear hK K hw hq dc fc
  iterate 1 (refine line_read (a' := ?_) rfl (by kernel_rfl) (by kernel_rfl) hS (fun z hz K hK => ?_) ?_; rotate_left; · (obtain ⟨c3, c4⟩ := hz; go_wp2; exact hK))
  have dc : w6.cell? ⟨n + 1 + 1, 4, none⟩ = some (.int .i64 0) := M2.out.m.d.cell 4
  have fc : w6.frozen? ⟨n + 1 + 1, 4, none⟩ = false := M2.out.m.d.free 4
  have hq := M2.out.set (i := 4) (v := .int .i64 b) (z := ⟨k, 0, 0, a, b, 0, 0, []⟩) rfl
  refine line_act rfl fun K hK => ?_
  go_wp2
  obtain ⟨w7, hw⟩ : ∃ z, w6.setCell ⟨n + 1 + 1, 4, none⟩ (.int .i64 b) = z := ⟨_, rfl⟩
  rw [hw] at hq ⊢
  have hS : (fun z : World => z.cell? ⟨n, 3, none⟩ = some (.int .i64 a) ∧ z.cell? ⟨n, 4, none⟩ = some (.int .i64 b)) w7 := ⟨hq.m.p.cell 3, hq.m.p.cell 4⟩
  have M3 := Lib.hid hq
  refine hK _ _ (fun z : World => z.cell? ⟨n, 3, none⟩ = some (.int .i64 a) ∧ z.cell? ⟨n, 4, none⟩ = some (.int .i64 b)) hS (fun _ h => h) ?_
  clear hK K hw hq dc fc
  refine line_end ?_
  have hM := M3.out
  clear hS
  go_upto_region 33 with fail
  have HM := Lib.hid hM
  have c_a : w7.cell? ⟨n, 3, none⟩ = some (.int .i64 a) := hM.m.p.cell 3
  have c_b : w7.cell? ⟨n, 4, none⟩ = some (.int .i64 b) := hM.m.p.cell 4
  have hr0 : ∀ m ∈ ([a, b] : List Int), i64B m := by
    intro m hm
    simp only [List.mem_cons, List.not_mem_nil, or_false] at hm
    rcases hm with rfl | rfl
    · exact HX.out.a
    · exact HX.out.b
  have hr1 := numsL_len hr0
  have HR := Lib.hid hr0
  obtain ⟨r, hr⟩ : ∃ r, numsL [a, b] = r := ⟨_, rfl⟩
  rw [hr] at hr1
  have hr2 : r.length ≤ 66 := by simp at hr1; omega
  have hw1 : wordsL 9 ⟨k, t, o, a, b, op, pl, d⟩ = List.map numL [a, b] := rfl
  have HS := Lib.hid (show spellL 9 ⟨k, t, o, a, b, op, pl, d⟩ = nmL 9 ++ r from by rw [spell_nums _ _ _ hw1, hr])
  have HRR := Lib.hid hr
  clear hM hr0 hr1 hr hw1
  have hI : Ints (w7.alloc (.cells #[.int .i64 a, .int .i64 b] 3)) (.slice (some ⟨w7.heap.size, 0, none⟩) 2 2) [a, b] := lit_ints w7 [a, b]
  have HI := Lib.hid hI
  have a1 := add_bs (nmL 9) r (by (have : (nmL 9).length ≤ 10 := by decide); omega)
  have a2 : ∀ z, (Op.stringOp .add ⟨#[99, 117, 116]⟩ (bs r)).run Tryd.prog z = .ok (.string (bs (nmL 9 ++ r))) z := a1
  obtain ⟨s, hs⟩ : ∃ s, nmL 9 ++ r = s := ⟨_, rfl⟩
  rw [hs] at a2
  have HS2 := Lib.hid hs
  clear hI a1 hs
  go_upto_region 37 with (go_at_call 25; refine (nums25 _ _ [a, b] HI.out HR.out (by simp)).mono ?_; rintro e w8 ⟨rfl, hg8⟩; rw [HRR.out]; have HM8 := Lib.hid (HM.out.ext (ext_trans (World.grownBy_alloc w7 (.cells #[.int .i64 a, .int .i64 b] 3) none) hg8)); clear hg8 c_a c_b)
  have hM8 := HM8.out
  have p1 := hM8.m.p.range25
  have p2 := hM8.m.d.range25
  have HG := Lib.hid hM8.g
  clear hM8 HM8
  by_cases hq : (⟨k, 0, 0, a, b, 0, 0, []⟩ : Stp) = ⟨k, t, o, a, b, op, pl, d⟩
  · have hN : decide ((⟨k, 0, 0, a, b, 0, 0, []⟩ : Stp) = ⟨k, t, o, a, b, op, pl, d⟩) = true := by simpa using hq
    have HQ := Lib.hid hq
    have HNN := Lib.hid hN
    clear hq hN
    go_wp2_with (first | (refine stp_neq_op rfl _ _ rfl HNN.out rfl rfl ?_) | (refine stp_load rfl _ rfl rfl p2 ?_) | (refine stp_load rfl _ rfl rfl p1 ?_))
    go_ret2
    exact line_ok HJ.out (by decide) HQ.out _ _ HG.out (by rw [HS.out]; exact HS2.out)
  · have hN : decide ((⟨k, 0, 0, a, b, 0, 0, []⟩ : Stp) = ⟨k, t, o, a, b, op, pl, d⟩) = false := by simpa using hq
    have HQ := Lib.hid hq
    have HNN := Lib.hid hN
    clear hq hN
    go_wp2_with (first | (refine stp_neq_op rfl _ _ rfl HNN.out rfl rfl ?_) | (refine stp_load rfl _ rfl rfl p2 ?_) | (refine stp_load rfl _ rfl rfl p1 ?_))
    go_ret2
    exact line_no HJ.out (fun _ => HQ.out) _ _ HG.out

set_option maxHeartbeats 1600000 in
theorem line25_10 (w : World) (k t o a b op pl : Int) (d : List UInt8) (hx : Stp.rng ⟨k, t, o, a, b, op, pl, d⟩) (hd : d.length ≤ 2000) (hk : k = 8) (hj : kdL ⟨k, t, o, a, b, op, pl, d⟩ = 10) :
    Calls Tryd.prog 9 #[.agg (stpC ⟨k, t, o, a, b, op, pl, d⟩)] w (LineA ⟨k, t, o, a, b, op, pl, d⟩ w) := by
  have hk1 : ((k == 1) = false) := by rw [beq_eq_false_iff_ne]; omega
  have hk2 : ((k == 2) = false) := by rw [beq_eq_false_iff_ne]; omega
  have hk3 : ((k == 3) = false) := by rw [beq_eq_false_iff_ne]; omega
  have hk4 : ((k == 4) = false) := by rw [beq_eq_false_iff_ne]; omega
  have hk5 : ((k == 5) = false) := by rw [beq_eq_false_iff_ne]; omega
  have hk6 : ((k == 6) = false) := by rw [beq_eq_false_iff_ne]; omega
  have hk7 : ((k == 7) = false) := by rw [beq_eq_false_iff_ne]; omega
  have hk8 : ((k == 8) = true) := by rw [beq_iff_eq]; omega
  have M : LnG w (((w.alloc (.cells #[.int .i64 k, .int .i64 t, .int .i64 o, .int .i64 a, .int .i64 b, .int .i64 op, .int .i64 pl, .string (bs d)] 25)).alloc (.cells #[.int .i64 op, .int .i64 pl, .string (bs d)] 23)).alloc (.cells #[.int .i64 k, .int .i64 t, .int .i64 0, .int .i64 0, .int .i64 0, .int .i64 0, .int .i64 0, .string ⟨#[]⟩] 25)) w.heap.size ⟨k, t, o, a, b, op, pl, d⟩ ⟨k, t, 0, 0, 0, 0, 0, []⟩ := ⟨lnM_new w ⟨k, t, o, a, b, op, pl, d⟩, lnM_grown w ⟨k, t, o, a, b, op, pl, d⟩ ⟨k, t, 0, 0, 0, 0, 0, []⟩ #[.int .i64 op, .int .i64 pl, .string (bs d)], Nat.le_refl _⟩
  obtain ⟨w3, hw3⟩ : ∃ z, ((w.alloc (.cells #[.int .i64 k, .int .i64 t, .int .i64 o, .int .i64 a, .int .i64 b, .int .i64 op, .int .i64 pl, .string (bs d)] 25)).alloc (.cells #[.int .i64 op, .int .i64 pl, .string (bs d)] 23)).alloc (.cells #[.int .i64 k, .int .i64 t, .int .i64 0, .int .i64 0, .int .i64 0, .int .i64 0, .int .i64 0, .string ⟨#[]⟩] 25) = z := ⟨_, rfl⟩
  rw [hw3] at M
  unfold stpC
  simp only
  have HJ := Lib.hid hj
  have HK := Lib.hid hk
  have HX := Lib.hid hx
  have HW := Lib.hid hw3
  have HM := Lib.hid M
  clear M hx hw3 hk hj
  go_enter Tryd.func9, Tryd.ntmps9
  go_upto_region 35 with fail
  rw [HW.out]
  obtain ⟨n, hn⟩ : ∃ n, w.heap.size = n := ⟨_, rfl⟩
  have M := HM.out
  rw [hn] at M
  rw [hn]
  clear hn HW HM
  have HM := Lib.hid M
  have hS : (fun z : World => z.cell? ⟨n, 3, none⟩ = some (.int .i64 a)) w3.drew := M.m.p.cell 3
  have M0 := Lib.hid M.drew
  clear M HM
  refine region_line [(0, true), (1, true), (2, true), (3, false), (4, true), (5, false)] (fun z : World => z.cell? ⟨n, 3, none⟩ = some (.int .i64 a)) (by kernel_rfl) (by kernel_rfl) (fun _ _ _ d _ h => by cases d <;> exact h) hS ?_
  obtain ⟨w4, hw4⟩ : ∃ z, w3.drew = z := ⟨_, rfl⟩
  rw [hw4] at M0 hS ⊢
  clear hw4
  iterate 3 (refine line_read (a' := ?_) rfl (by kernel_rfl) (by kernel_rfl) hS (fun z hz K hK => ?_) ?_; rotate_left; · (go_wp2; exact hK))
  have dc : w4.cell? ⟨n + 1 + 1, 1, none⟩ = some (.int .i64 t) := M0.out.m.d.cell 1
  have fc : w4.frozen? ⟨n + 1 + 1, 1, none⟩ = false := M0.out.m.d.free 1
  have hq := M0.out.set (i := 1) (v := .int .i64 0) (z := ⟨k, 0, 0, 0, 0, 0, 0, []⟩) rfl
  refine line_act rfl fun K hK => ?_
  go_wp2
  obtain ⟨w5, hw⟩ : ∃ z, w4.setCell ⟨n + 1 + 1, 1, none⟩ (.int .i64 0) = z := ⟨_, rfl⟩
  rw [hw] at hq ⊢
  have hS : (fun z : World => z.cell? ⟨n, 3, none⟩ = some (.int .i64 a)) w5 := hq.m.p.cell 3
  have M1 := Lib.hid hq
  refine hK _ _ (fun z : World => z.cell? ⟨n, 3, none⟩ = some (.int .i64 a)) hS (fun _ h => h) ?_
  clear hK K hw hq dc fc
  iterate 1 (refine line_read (a' := ?_) rfl (by kernel_rfl) (by kernel_rfl) hS (fun z hz K hK => ?_) ?_; rotate_left; · (go_wp2; exact hK))
  have dc : w5.cell? ⟨n + 1 + 1, 3, none⟩ = some (.int .i64 0) := M1.out.m.d.cell 3
  have fc : w5.frozen? ⟨n + 1 + 1, 3, none⟩ = false := M1.out.m.d.free 3
  have hq := M1.out.set (i := 3) (v := .int .i64 a) (z := ⟨k, 0, 0, a, 0, 0, 0, []⟩) rfl
  refine line_act rfl fun K hK => ?_
  go_wp2
  obtain ⟨w6, hw⟩ : ∃ z, w5.setCell ⟨n + 1 + 1, 3, none⟩ (.int .i64 a) = z := ⟨_, rfl⟩
  rw [hw] at hq ⊢
  have hS : (fun z : World => z.cell? ⟨n, 3, none⟩ = some (.int .i64 a)) w6 := hq.m.p.cell 3
  have M2 := Lib.hid hq
  refine hK _ _ (fun z : World => z.cell? ⟨n, 3, none⟩ = some (.int .i64 a)) hS (fun _ h => h) ?_
  clear hK K hw hq dc fc
  refine line_end ?_
  have hM := M2.out
  clear hS
  go_upto_region 36 with fail
  have HM := Lib.hid hM
  have c_a : w6.cell? ⟨n, 3, none⟩ = some (.int .i64 a) := hM.m.p.cell 3
  have hr0 : ∀ m ∈ ([a] : List Int), i64B m := by
    intro m hm
    simp only [List.mem_cons, List.not_mem_nil, or_false] at hm
    subst hm; exact HX.out.a
  have hr1 := numsL_len hr0
  have HR := Lib.hid hr0
  obtain ⟨r, hr⟩ : ∃ r, numsL [a] = r := ⟨_, rfl⟩
  rw [hr] at hr1
  have hr2 : r.length ≤ 66 := by simp at hr1; omega
  have hw1 : wordsL 10 ⟨k, t, o, a, b, op, pl, d⟩ = List.map numL [a] := rfl
  have HS := Lib.hid (show spellL 10 ⟨k, t, o, a, b, op, pl, d⟩ = nmL 10 ++ r from by rw [spell_nums _ _ _ hw1, hr])
  have HRR := Lib.hid hr
  clear hM hr0 hr1 hr hw1
  have hI : Ints (w6.alloc (.cells #[.int .i64 a] 3)) (.slice (some ⟨w6.heap.size, 0, none⟩) 1 1) [a] := lit_ints w6 [a]
  have HI := Lib.hid hI
  have a1 := add_bs (nmL 10) r (by (have : (nmL 10).length ≤ 10 := by decide); omega)
  have a2 : ∀ z, (Op.stringOp .add ⟨#[109, 111, 117, 110, 116]⟩ (bs r)).run Tryd.prog z = .ok (.string (bs (nmL 10 ++ r))) z := a1
  obtain ⟨s, hs⟩ : ∃ s, nmL 10 ++ r = s := ⟨_, rfl⟩
  rw [hs] at a2
  have HS2 := Lib.hid hs
  clear hI a1 hs
  go_upto_region 37 with (go_at_call 25; refine (nums25 _ _ [a] HI.out HR.out (by simp)).mono ?_; rintro e w8 ⟨rfl, hg8⟩; rw [HRR.out]; have HM8 := Lib.hid (HM.out.ext (ext_trans (World.grownBy_alloc w6 (.cells #[.int .i64 a] 3) none) hg8)); clear hg8 c_a)
  have hM8 := HM8.out
  have p1 := hM8.m.p.range25
  have p2 := hM8.m.d.range25
  have HG := Lib.hid hM8.g
  clear hM8 HM8
  by_cases hq : (⟨k, 0, 0, a, 0, 0, 0, []⟩ : Stp) = ⟨k, t, o, a, b, op, pl, d⟩
  · have hN : decide ((⟨k, 0, 0, a, 0, 0, 0, []⟩ : Stp) = ⟨k, t, o, a, b, op, pl, d⟩) = true := by simpa using hq
    have HQ := Lib.hid hq
    have HNN := Lib.hid hN
    clear hq hN
    go_wp2_with (first | (refine stp_neq_op rfl _ _ rfl HNN.out rfl rfl ?_) | (refine stp_load rfl _ rfl rfl p2 ?_) | (refine stp_load rfl _ rfl rfl p1 ?_))
    go_ret2
    exact line_ok HJ.out (by decide) HQ.out _ _ HG.out (by rw [HS.out]; exact HS2.out)
  · have hN : decide ((⟨k, 0, 0, a, 0, 0, 0, []⟩ : Stp) = ⟨k, t, o, a, b, op, pl, d⟩) = false := by simpa using hq
    have HQ := Lib.hid hq
    have HNN := Lib.hid hN
    clear hq hN
    go_wp2_with (first | (refine stp_neq_op rfl _ _ rfl HNN.out rfl rfl ?_) | (refine stp_load rfl _ rfl rfl p2 ?_) | (refine stp_load rfl _ rfl rfl p1 ?_))
    go_ret2
    exact line_no HJ.out (fun _ => HQ.out) _ _ HG.out

end Go.Proofs.YtdaifepjmkmpjaaDoor
