/-
  The law LedgerStays walked.
-/
import Derived.Test.YtkcdddpbmbhelaaEY
import Derived.Test.YtkcdddpbmbhelaaET
import Derived.Deep.Cut
import Derived.Deep.DeepCutAuto
namespace Go.Proofs.Ytkcdddpbmbhelaa
open Go.RowKit

/-- May a ledger be, as a Boolean. -/
noncomputable def rightD (L : Led) (n p : Int) : Bool := @decide (RightP L n p) (Classical.propDecidable _)
theorem rightD_yes {L : Led} {n p : Int} (h : RightP L n p) : rightD L n p = true := by unfold rightD; exact @decide_eq_true _ (Classical.propDecidable _) h
theorem rightD_of {L : Led} {n p : Int} (h : rightD L n p = true) : RightP L n p := by unfold rightD at h; exact @of_decide_eq_true _ (Classical.propDecidable _) h
theorem right10_at (L : Led) (V : Nat → Value) (n p : Int) (w : World) (hL : LedIs w L V) (hG : GoodL L) :
    Calls Try.prog 6 #[.agg (ledC L V), .int .i64 n, .int .i64 p] w fun e w' => e = .returned (.bool (rightD L n p)) ∧ Ext w w' := by
  refine (right10_any L V n p w hL hG).mono ?_
  rintro e w' ⟨b, rfl, hb, hE⟩
  refine ⟨?_, hE⟩
  by_cases h : RightP L n p
  · rw [hb.2 h, rightD_yes h]
  · cases b
    · cases hd : rightD L n p
      · rfl
      · exact absurd (rightD_of hd) h
    · exact absurd (hb.1 rfl) h

theorem wf_small {n : Int} (h0 : 0 ≤ n) (h1 : n ≤ 2147483647) : (Lit.int .i64 n).wf = true := by
  simp [Lit.wf, IntKind.min, IntKind.max, IntKind.bits, IntKind.signed]
  omega
/-- What may be has numbers that are numbers. -/
theorem RightP.good {L : Led} {n p : Int} (h : RightP L n p) (hn : n ≤ 64) (hn0 : -9223372036854775808 ≤ n) : GoodL L := by
  have key : ∀ j, j < 4 → (L.t j).bs.length ≤ 1048576 ∧ WfL (L.t j).bs ∧ (Lit.int .i64 (L.t j).ep).wf = true := fun j hj => by
    have ht := h.ten j hj
    cases hth : (L.t j).th
    · obtain ⟨h1, _, _, h4⟩ := ht.2 hth
      rw [h1, h4]
      exact ⟨by simp, by simp [WfL], by decide⟩
    · obtain ⟨h1, h2, _, _, h5, h6⟩ := ht.1 hth
      have he := h.eps
      refine ⟨?_, fun b hb => ?_, wf_small (by omega) (by omega)⟩
      · by_cases h2n : n < 3
        · have hnil : (L.t j).bs = [] := by
            cases hbs : (L.t j).bs with
            | nil => rfl
            | cons b r => have := h6 b (by rw [hbs]; simp); omega
          rw [hnil]; simp
        · unfold wrap64 at h5
          omega
      · have := h6 b hb
        exact wf_small (by omega) (by omega)
  exact ⟨fun j hj => (key j hj).1, fun j hj => (key j hj).2.1, fun j hj => (key j hj).2.2⟩
theorem good_create {L : Led} {n p t s r : Int} (h : RightP L n p) (hn : n ≤ 64) (hn0 : -9223372036854775808 ≤ n) (hok : (createS L t s r (freeL L n)).2 = 0) : GoodL (createS L t s r (freeL L n)).1 := by
  obtain ⟨k, rfl, hk, _, _, he, _, hc⟩ := create_ok hok
  rw [hc]
  have hg := h.good hn hn0
  have he0 := h.eps
  obtain ⟨j1, j2, j3⟩ := inc_le he0.1 he0.2 he
  have hfl := freeTo_len (takenL L) (n - 2).toNat
  have at_ : ∀ j, (createL (bump L) k s r (freeL L n)).t j = if j = k then ⟨true, L.eps + 1, s, r, freeL L n⟩ else L.t j := fun j => by
    show (if j = k then (⟨true, inc L.eps, s, r, freeL L n⟩ : Ten) else L.t j) = _
    rw [j1]
  refine ⟨fun j hj => ?_, fun j hj => ?_, fun j hj => ?_⟩ <;> rw [at_] <;> split
  · show (freeTo (takenL L) (n - 2).toNat).length ≤ _
    omega
  · exact hg.len j hj
  · intro b hb
    obtain ⟨⟨h1, h2⟩, _⟩ := freeTo_mem.1 hb
    exact wf_small (by omega) (by omega)
  · exact hg.wf j hj
  · exact wf_small (by show (0 : Int) ≤ L.eps + 1; omega) j3
  · exact hg.wfe j hj

/-- What stays ahead of each change: the ledger. -/
structure Stay (w0 : World) (n : Nat) (L : Led) (V : Nat → Value) (w : World) : Prop where
  lb : Blk w n 27 (ledC L V)
  iv : LedIs w L V
  ext : Ext w0 w
theorem Stay.next {w0 w w' : World} {n : Nat} {L : Led} {V : Nat → Value} (h : Stay w0 n L V w) (hE : Ext w w') : Stay w0 n L V w' := ⟨h.lb.ext hE, h.iv.ext hE, ext_trans h.ext hE⟩

theorem own_free {w0 w w' : World} {N : Nat} {L : Led} {V : Nat → Value} {v : Value} {xs : List Int} (h : Stay w0 N L V w) (ho : OwnI w.heap.size w' v xs) : OwnI N w' v xs := by
  have hN := h.lb.lt
  obtain ⟨h1, h2⟩ := ho
  refine ⟨h1, ?_⟩
  rcases h2 with h2 | ⟨g, cap, cur, rfl, hB, hh, hc, hr⟩
  · exact .inl h2
  · exact .inr ⟨g, cap, cur, rfl, by omega, hh, hc, hr⟩

set_option maxRecDepth 100000 in
set_option maxHeartbeats 12800000 in
theorem ledgerStays_any (L : Led) (V : Nat → Value) (n p t sz sp o i j : Int) (w : World) (hL : LedIs w L V) (hwf : ∀ k, k < 4 → WfL (L.t k).bs) (hwe : ∀ k, k < 4 → (Lit.int .i64 (L.t k).ep).wf = true) (hn0 : -9223372036854775808 ≤ n) :
    Calls Try.prog 3 #[.agg (ledC L V), .int .i64 n, .int .i64 p, .int .i64 t, .int .i64 sz, .int .i64 sp, .int .i64 o, .int .i64 i, .int .i64 j] w fun e w' => e = .returned (.bool true) ∧ Ext w w' := by
  have hl0 := Blk.new w 27 (ledC L V)
  have hE0 := World.grownBy_alloc w (.cells (ledC L V) 27) none
  obtain ⟨N, hN⟩ : ∃ n, w.heap.size = n := ⟨_, rfl⟩
  obtain ⟨w1, hw1⟩ : ∃ v, w.alloc (.cells (ledC L V) 27) = v := ⟨_, rfl⟩
  rw [hw1] at hl0 hE0
  rw [hN] at hl0
  have HZ0 := Lib.hid hN.symm
  have HS0 := Lib.hid (show Stay w N L V w1 from ⟨hl0, hL.ext hE0, hE0⟩)
  clear hL hE0
  obtain ⟨f, hf⟩ : ∃ f, fewB L = f := ⟨_, rfl⟩
  have HFEW := Lib.hid hf
  cases f
  · clear hf
    go_enter Try.func3, Try.ntmps3
    go_wp2_with (first
      | (go_at_call 4; refine (fixed10_any _).mono ?_; rintro e w2 ⟨rfl, hE2⟩; have HS2 := Lib.hid (HS0.out.next hE2); have hl2 := hl0.ext hE2; clear hE2 hl0)
      | (refine led_load _ rfl rfl hl2 rfl ?_)
      | (go_at_call 5; refine (few10_any L V _ HS2.out.iv).mono ?_; rintro e w3 ⟨rfl, hE3⟩; rw [HFEW.out]; have HS3 := Lib.hid (HS2.out.next hE3); clear hE3 hl2))
    go_ret
    exact ⟨rfl, HS3.out.ext⟩
  have hle := fewB_le hf
  have hG : GoodL L := ⟨fun j hj => by have := hle j hj; omega, hwf, hwe⟩
  have HG := Lib.hid hG
  clear hf hle hG hwf hwe
  by_cases hbig : 64 < n
  · go_enter Try.func3, Try.ntmps3
    go_wp2_with (first
      | (go_at_call 4; refine (fixed10_any _).mono ?_; rintro e w2 ⟨rfl, hE2⟩; have HS2 := Lib.hid (HS0.out.next hE2); have hl2 := hl0.ext hE2; clear hE2 hl0)
      | (refine led_load _ rfl rfl hl2 rfl ?_)
      | (go_at_call 5; refine (few10_any L V _ HS2.out.iv).mono ?_; rintro e w3 ⟨rfl, hE3⟩; rw [HFEW.out]; have HS3 := Lib.hid (HS2.out.next hE3); clear hE3 hl2))
    go_ret
    exact ⟨rfl, HS3.out.ext⟩
  by_cases hp0 : p < 2
  · go_enter Try.func3, Try.ntmps3
    go_wp2_with (first
      | (go_at_call 4; refine (fixed10_any _).mono ?_; rintro e w2 ⟨rfl, hE2⟩; have HS2 := Lib.hid (HS0.out.next hE2); have hl2 := hl0.ext hE2; clear hE2 hl0)
      | (refine led_load _ rfl rfl hl2 rfl ?_)
      | (go_at_call 5; refine (few10_any L V _ HS2.out.iv).mono ?_; rintro e w3 ⟨rfl, hE3⟩; rw [HFEW.out]; have HS3 := Lib.hid (HS2.out.next hE3); clear hE3 hl2))
    go_ret
    exact ⟨rfl, HS3.out.ext⟩
  by_cases hp1 : 16 < p
  · go_enter Try.func3, Try.ntmps3
    go_wp2_with (first
      | (go_at_call 4; refine (fixed10_any _).mono ?_; rintro e w2 ⟨rfl, hE2⟩; have HS2 := Lib.hid (HS0.out.next hE2); have hl2 := hl0.ext hE2; clear hE2 hl0)
      | (refine led_load _ rfl rfl hl2 rfl ?_)
      | (go_at_call 5; refine (few10_any L V _ HS2.out.iv).mono ?_; rintro e w3 ⟨rfl, hE3⟩; rw [HFEW.out]; have HS3 := Lib.hid (HS2.out.next hE3); clear hE3 hl2))
    go_ret
    exact ⟨rfl, HS3.out.ext⟩
  have bn : decide (64 < n) = false := by simp; omega
  have bp0 : decide (p < 2) = false := by simp; omega
  have bp1 : decide (16 < p) = false := by simp; omega
  obtain ⟨b, hb⟩ : ∃ b, rightD L n p = b := ⟨_, rfl⟩
  have HRD := Lib.hid hb
  cases b
  · clear hb
    go_enter Try.func3, Try.ntmps3
    go_wp2_with (first
      | (go_at_call 4; refine (fixed10_any _).mono ?_; rintro e w2 ⟨rfl, hE2⟩; have HS2 := Lib.hid (HS0.out.next hE2); have hl2 := hl0.ext hE2; clear hE2 hl0)
      | (refine led_load _ rfl rfl hl2 rfl ?_)
      | (go_at_call 5; refine (few10_any L V _ HS2.out.iv).mono ?_; rintro e w3 ⟨rfl, hE3⟩; rw [HFEW.out]; have HS3 := Lib.hid (HS2.out.next hE3); have hl3 := hl2.ext hE3; clear hE3 hl2)
      | (refine led_load _ rfl rfl hl3 rfl ?_)
      | (go_at_call 6; refine (right10_at L V n p _ HS3.out.iv HG.out).mono ?_; rintro e w4 ⟨rfl, hE4⟩; rw [HRD.out]; have HS4 := Lib.hid (HS3.out.next hE4); clear hE4 hl3))
    go_ret
    exact ⟨rfl, HS4.out.ext⟩
  have HR := Lib.hid (rightD_of hb)
  clear hb
  obtain ⟨fr, hfr⟩ : ∃ fr, freeL L n = fr := ⟨_, rfl⟩
  have hfl : fr.length ≤ 64 := by
    have := freeTo_len (takenL L) (n - 2).toNat
    rw [← hfr]
    show (freeTo (takenL L) (n - 2).toNat).length ≤ _
    omega
  have F := fun wr (h : Stay w N L V wr) => free10_any L V n wr h.iv HG.out.len HG.out.wf (by omega) hn0
  rw [hfr] at F
  have hC : (createS L t sz sp fr).2 = 0 → rightD (createS L t sz sp fr).1 n p = decide (sz / p + 2 + sp ≤ (fr.length : Int)) ∧ GoodL (createS L t sz sp fr).1 ∧ (1 ≤ sz ∧ sz ≤ 64) ∧ 0 ≤ sp ∧ sp ≤ 8 := fun hok => by
    obtain ⟨_, _, _, _, hroom, _⟩ := create_ok hok
    subst hfr
    refine ⟨?_, good_create HR.out (by omega) hn0 hok, room_ok hroom⟩
    have hiff := right_create HR.out (by omega) (by omega) hok
    by_cases hh : sz / p + 2 + sp ≤ ((freeL L n).length : Int)
    · rw [decide_eq_true hh, rightD_yes (hiff.2 hh)]
    · rw [decide_eq_false hh]
      cases hd : rightD (createS L t sz sp (freeL L n)).1 n p
      · rfl
      · exact absurd (hiff.1 (rightD_of hd)) hh
  have hD : (destroyS L t).2 = 0 → rightD (destroyS L t).1 n p = true ∧ GoodL (destroyS L t).1 := fun hok => ⟨rightD_yes (right_destroy HR.out hok), (right_destroy HR.out hok).good (by omega) hn0⟩
  have hW : (swapS L t i o j).2 = 0 → rightD (swapS L t i o j).1 n p = true ∧ GoodL (swapS L t i o j).1 := fun hok => ⟨rightD_yes (right_swap HR.out hok), (right_swap HR.out hok).good (by omega) hn0⟩
  have P0 := fun wr gv (h : Stay w N L V wr) (hI : OwnI N wr gv fr) => create_any L V t sz sp gv fr wr h.iv HG.out.len (owns_ints rfl hI) (by omega) (fun q hq => (own_lt hI q hq).2)
  have P1 := fun wr (h : Stay w N L V wr) => destroy_any L V t wr h.iv HG.out.len
  have P2 := fun wr (h : Stay w N L V wr) => swap_any L V t i o j wr h.iv HG.out.len
  have Q0 := fun (A : Led) (VA : Nat → Value) wr (h : LedIs wr A VA) (hg : GoodL A) => right10_at A VA n p wr h hg
  obtain ⟨⟨A0, e0⟩, hR0⟩ : ∃ R, createS L t sz sp fr = R := ⟨_, rfl⟩
  obtain ⟨⟨A1, e1⟩, hR1⟩ : ∃ R, destroyS L t = R := ⟨_, rfl⟩
  obtain ⟨⟨A2, e2⟩, hR2⟩ : ∃ R, swapS L t i o j = R := ⟨_, rfl⟩
  rw [hR0] at P0 hC
  rw [hR1] at P1 hD
  rw [hR2] at P2 hW
  have HC := Lib.hid hC
  have HD := Lib.hid hD
  have HW := Lib.hid hW
  clear hR0 hR1 hR2 hfr hC hD hW
  go_enter Try.func3, Try.ntmps3
  go_upto_if 63 with (first
    | (go_at_call 4; refine (fixed10_any _).mono ?_; rintro e w2 ⟨rfl, hE2⟩; have HS2 := Lib.hid (HS0.out.next hE2); have hl2 := hl0.ext hE2; clear hE2 hl0)
    | (refine led_load _ rfl rfl hl2 rfl ?_)
    | (go_at_call 5; refine (few10_any L V _ HS2.out.iv).mono ?_; rintro e w3 ⟨rfl, hE3⟩; rw [HFEW.out]; have HS3 := Lib.hid (HS2.out.next hE3); have hl3 := hl2.ext hE3; clear hE3 hl2)
    | (refine led_load _ rfl rfl hl3 rfl ?_)
    | (go_at_call 6; refine (right10_at L V n p _ HS3.out.iv HG.out).mono ?_; rintro e w4 ⟨rfl, hE4⟩; rw [HRD.out]; have HS4 := Lib.hid (HS3.out.next hE4); have hl4 := hl3.ext hE4; clear hE4 hl3)
    | (refine led_load _ rfl rfl hl4 rfl ?_)
    | (go_at_call 7; refine (F _ HS4.out).mono ?_; rintro e w5 ⟨v5, rfl, ho5, hE5⟩; obtain ⟨a5, c5, _, _, rfl, _⟩ := (owns_ints rfl ho5).form; have HO5 := Lib.hid (own_free HS4.out ho5); have HS5 := Lib.hid (HS4.out.next hE5); have hl5 := HS5.out.lb; clear ho5 hE5 hl4)
    | (refine led_load _ rfl rfl hl5 rfl ?_)
    | (go_at_call 8; refine (P0 _ _ HS5.out HO5.out).mono ?_; rintro e w6 ⟨Va, rfl, hIa, hla, hEa⟩; have HS6 := Lib.hid (HS5.out.next hEa); have hBA := Blk.new w6 27 zeroC; clear hEa hl5)
    | (refine led_store _ _ rfl rfl rfl hBA rfl hIa.slices rfl ?_; intro w7 hA7 hg7 hs7; clear hBA hs7; have hE7 := grown_trans (World.grownBy_alloc w6 (.cells zeroC 27) none) hg7 (fun p hp hlt => by injection hp with hp; omega); have HS7 := Lib.hid (HS6.out.next hE7); have HIa7 := Lib.hid (hIa.ext hE7); clear hg7 hE7 hIa hla))
  go_cut [63] (fun _ wx => Stay w N L V wx)
  case first =>
    by_cases h0 : e0 = 0
    · subst h0
      obtain ⟨k1, k2, k3, k4⟩ := HC.out rfl
      have HK := Lib.hid k1
      have HKG := Lib.hid k2
      have NE := fun w => needed_any sz sp p w k3 k4 (by omega)
      have hbd : 0 ≤ sz / p + 2 + sp ∧ sz / p + 2 + sp ≤ 80 := by
        have q0 : 0 ≤ sz / p := Int.ediv_nonneg (by omega) (by omega)
        have q1 : sz / p ≤ 64 := Int.le_trans (Int.ediv_le_self _ (by omega)) k3.2
        omega
      obtain ⟨nd, hnd⟩ : ∃ nd, sz / p + 2 + sp = nd := ⟨_, rfl⟩
      rw [hnd] at NE HK hbd
      clear k1 k2 k3 k4 hnd
      by_cases hh : nd ≤ (fr.length : Int)
      · rw [decide_eq_true hh] at HK
        go_wp2_with (first
          | (refine led_load _ rfl rfl hA7 rfl ?_)
          | (go_at_call 6; refine (Q0 A0 Va _ HIa7.out HKG.out).mono ?_; rintro e w8 ⟨rfl, hE8⟩; rw [HK.out]; have HS8 := Lib.hid (HS7.out.next hE8); clear hE8)
          | (go_at_call 9; refine (NE _).mono ?_; rintro e w9 ⟨rfl, rfl⟩))
        go_meet
        exact HS8.out
      · rw [decide_eq_false hh] at HK
        go_wp2_with (first
          | (refine led_load _ rfl rfl hA7 rfl ?_)
          | (go_at_call 6; refine (Q0 A0 Va _ HIa7.out HKG.out).mono ?_; rintro e w8 ⟨rfl, hE8⟩; rw [HK.out]; have HS8 := Lib.hid (HS7.out.next hE8); clear hE8)
          | (go_at_call 9; refine (NE _).mono ?_; rintro e w9 ⟨rfl, rfl⟩))
        go_meet
        exact HS8.out
    · have h0b : (e0 == 0) = false := by simpa using h0
      go_wp2
      go_meet
      exact HS7.out
  case rest =>
    have HT0 := Lib.hid hcut
    have hm1 := HT0.out.lb
    clear hcut hA7
    go_upto_region 11 with (first
      | (refine led_load _ rfl rfl hm1 rfl ?_)
      | (go_at_call 10; refine (P1 _ HT0.out).mono ?_; rintro e wp1 ⟨Vb1, rfl, hIb, hlb, hEb⟩; have HU1 := Lib.hid (HT0.out.next hEb); have hBB := Blk.new wp1 27 zeroC; clear hEb hm1)
      | (refine led_store _ _ rfl rfl rfl hBB rfl hIb.slices rfl ?_; intro wq1 hA7 hg7 hs7; clear hBB hs7; have hE7 := grown_trans (World.grownBy_alloc wp1 (.cells zeroC 27) none) hg7 (fun p hp hlt => by injection hp with hp; omega); have HV1 := Lib.hid (HU1.out.next hE7); have HIb1 := Lib.hid (hIb.ext hE7); clear hg7 hE7 hIb hlb))
    go_cut [90] (fun s wx => s = .bool false ∧ Stay w N L V wx)
    case first =>
      by_cases h0 : e1 = 0
      · subst h0
        obtain ⟨k1, k2⟩ := HD.out rfl
        have HK := Lib.hid k1
        have HKG := Lib.hid k2
        clear k1 k2
        go_wp2_with (first
          | (refine led_load _ rfl rfl hA7 rfl ?_)
          | (go_at_call 6; refine (Q0 A1 Vb1 _ HIb1.out HKG.out).mono ?_; rintro e w8 ⟨rfl, hE8⟩; rw [HK.out]; have HS8 := Lib.hid (HV1.out.next hE8); clear hE8))
        go_meet
        exact ⟨rfl, HS8.out⟩
      · have h0b : (e1 == 0) = false := by simpa using h0
        go_wp2
        go_meet
        exact ⟨rfl, HV1.out⟩
    case rest =>
      have HT1 := Lib.hid hcut.2
      obtain ⟨rfl, -⟩ := hcut
      have hm2 := HT1.out.lb
      clear hA7
      go_upto_region 14 with (first
        | (refine led_load _ rfl rfl hm2 rfl ?_)
        | (go_at_call 11; refine (P2 _ HT1.out).mono ?_; rintro e wp2 ⟨Vb2, rfl, hIb, hlb, hEb⟩; have HU2 := Lib.hid (HT1.out.next hEb); have hBB := Blk.new wp2 27 zeroC; clear hEb hm2)
        | (refine led_store _ _ rfl rfl rfl hBB rfl hIb.slices rfl ?_; intro wq2 hA8 hg7 hs7; clear hBB hs7; have hE7 := grown_trans (World.grownBy_alloc wp2 (.cells zeroC 27) none) hg7 (fun p hp hlt => by injection hp with hp; omega); have HV2 := Lib.hid (HU2.out.next hE7); have HIb2 := Lib.hid (hIb.ext hE7); clear hg7 hE7 hIb hlb))
      go_cut [108] (fun s wx => s = .bool false ∧ Stay w N L V wx)
      case first =>
        by_cases h0 : e2 = 0
        · subst h0
          obtain ⟨k1, k2⟩ := HW.out rfl
          have HK := Lib.hid k1
          have HKG := Lib.hid k2
          clear k1 k2
          go_wp2_with (first
            | (refine led_load _ rfl rfl hA8 rfl ?_)
            | (go_at_call 6; refine (Q0 A2 Vb2 _ HIb2.out HKG.out).mono ?_; rintro e w8 ⟨rfl, hE8⟩; rw [HK.out]; have HS8 := Lib.hid (HV2.out.next hE8); clear hE8))
          go_meet
          exact ⟨rfl, HS8.out⟩
        · have h0b : (e2 == 0) = false := by simpa using h0
          go_wp2
          go_meet
          exact ⟨rfl, HV2.out⟩
      case rest =>
        obtain ⟨rfl, hS⟩ := hcut
        have HT2 := Lib.hid hS
        clear hS hA8
        go_wp2
        go_ret
        exact ⟨rfl, HT2.out.ext⟩

end Go.Proofs.Ytkcdddpbmbhelaa
