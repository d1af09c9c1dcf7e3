/-
  Package ledger: isRight.
-/
import Derived.Test.YtkcdddpbmbhelaaEQ
namespace Go.Proofs.Ytkcdddpbmbhelaa
open Go.RowKit

def totS (s r p : Int) : Int := if rightB s r p = true then s / p + 2 + r else 0
theorem totS_bd (s r p : Int) : 0 ≤ totS s r p ∧ totS s r p ≤ 74 := by
  unfold totS
  split
  · rename_i h
    simp [rightB, inB] at h
    obtain ⟨⟨⟨s0, s1⟩, r0, r1⟩, p0, p1⟩ := h
    have q0 : 0 ≤ s / p := Int.ediv_nonneg (by omega) (by omega)
    have q1 : s / p ≤ 64 := Int.le_trans (Int.ediv_le_self _ (by omega)) s1
    omega
  · omega

set_option maxHeartbeats 800000 in
theorem ruleTotal_all (s r p : Int) (w : World) :
    Calls Try.prog 44 #[.int .i64 s, .int .i64 r, .int .i64 p] w fun e w' => e = .returned (.int .i64 (totS s r p)) ∧ w = w' := by
  unfold totS
  by_cases hv : rightB s r p = true
  · rw [if_pos hv]
    simp [rightB, inB] at hv
    obtain ⟨⟨hs, hr⟩, hp⟩ := hv
    exact ruleTotal_any s r p w hs hr hp
  · rw [if_neg hv]
    have C := ruleCheck_any s r
    have P := rulePages_any p
    by_cases h0 : roomE s r = 0
    · rw [h0] at C
      have hpg : inB p 2 16 = false := by
        cases hh : inB p 2 16
        · rfl
        · refine absurd ?_ hv
          unfold roomE at h0
          split at h0
          · rename_i h
            simp only [rightB, h.1, h.2, hh, Bool.and_self]
          · simp at h0
      rw [hpg] at P
      clear hv h0 hpg
      go_enter Try.func44, Try.ntmps44
      go_wp2_with (first
        | (go_at_call 20; refine (C _).mono ?_; rintro e w' ⟨rfl, rfl⟩)
        | (go_at_call 48; refine (P _).mono ?_; rintro e w' ⟨rfl, rfl⟩))
      go_ret
      exact ⟨rfl, rfl⟩
    · have h5 : roomE s r = 5 := by unfold roomE at h0 ⊢; split <;> simp_all
      rw [h5] at C
      clear hv h0 h5
      go_enter Try.func44, Try.ntmps44
      go_wp2_with (go_at_call 20; refine (C _).mono ?_; rintro e w' ⟨rfl, rfl⟩)
      go_ret
      exact ⟨rfl, rfl⟩

def outB (n b : Int) : Bool := decide (b < 2 ∨ n ≤ b)

theorem rightDo_any (b n : Int) (xb : Nat) (w : World) (hx : w.cell? ⟨xb, 0, none⟩ = some (.int .i64 n)) :
    Calls Try.prog 46 #[.int .i64 b, .pointer (some ⟨xb, 0, none⟩)] w fun e w' => e = .returned (.bool (outB n b)) ∧ w = w' := by
  by_cases h : b < 2
  · have e : decide (b < 2) = true := by simpa using h
    go_enter Try.func46, Try.ntmps46
    go_wp2
    go_ret
    exact ⟨ret_bool (by simp [outB, h]), rfl⟩
  · have e : decide (b < 2) = false := by simpa using h
    go_enter Try.func46, Try.ntmps46
    go_wp2
    go_ret
    exact ⟨ret_bool (by simp [outB]; omega), rfl⟩

set_option maxHeartbeats 800000 in
theorem indexRight_any (v : Value) (xs : List Int) (n : Int) (xb : Nat) (w : World) (hb : Ints w v xs) (hm : xs.length ≤ 9223372036854775807) (hx : w.cell? ⟨xb, 0, none⟩ = some (.int .i64 n)) :
    Calls Try.prog 50 #[v, .func (.func 46) #[] #[.pointer (some ⟨xb, 0, none⟩)]] w fun e w' => ∃ r : Int, e = .returned (.int .i64 r) ∧ w = w' ∧ ((0 ≤ r ∧ xs.any (outB n) = true) ∨ (r < 0 ∧ xs.any (outB n) = false)) := by
  obtain ⟨ao, cap, b, off, rfl, hc⟩ := hb.form
  have HC := Lib.hid hc
  clear hc hb
  go_enter Try.func50, Try.ntmps50
  go_wp2
  go_loopw [8] (fun i wr => ∃ k : Nat, k ≤ xs.length ∧ i = .int .i64 k ∧ (∀ j, j < k → outB n (xs.getD j 0) = false) ∧ w = wr) (fun i _ => xs.length - (intOf i).toNat)
  case atStart => exact ⟨0, by omega, rfl, fun j hj => by omega, rfl⟩
  case round =>
    obtain ⟨k, hk, rfl, hnot, rfl⟩ := hrel
    have NOT := Lib.hid hnot
    clear hnot
    by_cases hlt : k < xs.length
    · obtain ⟨rfl, hcell⟩ := HC.out k hlt
      obtain ⟨x, hx'⟩ : ∃ x, xs.getD k 0 = x := ⟨_, rfl⟩
      rw [hx'] at hcell
      have HX := Lib.hid hx'
      have D := rightDo_any x n xb w hx
      obtain ⟨p, hp⟩ : ∃ p, outB n x = p := ⟨_, rfl⟩
      rw [hp] at D
      have HP := Lib.hid hp
      clear hx' hp
      cases p
      · go_wp2_with (go_at_call 46; refine D.mono ?_; rintro e w' ⟨rfl, rfl⟩)
        go_roundw
        case rel =>
          refine ⟨k + 1, by omega, by go_num, fun j hj => ?_, trivial⟩
          by_cases e : j = k
          · subst e; rw [HX.out]; exact HP.out
          · exact NOT.out j (by omega)
        case measure => simp [intOf]; omega
      · go_wp2_with (go_at_call 46; refine D.mono ?_; rintro e w' ⟨rfl, rfl⟩)
        go_ret
        refine ⟨_, rfl, rfl, .inl ⟨by omega, ?_⟩⟩
        have h1 := HX.out
        rw [List.getD_eq_getElem?_getD, List.getElem?_eq_getElem hlt] at h1
        simp only [Option.getD_some] at h1
        exact List.any_eq_true.2 ⟨x, by rw [← h1]; exact List.getElem_mem hlt, HP.out⟩
    · obtain rfl : k = xs.length := by omega
      go_wp2
      go_ret
      refine ⟨_, rfl, rfl, .inr ⟨by omega, ?_⟩⟩
      rw [List.any_eq_false]
      intro y hmem
      obtain ⟨j, hj, hjn⟩ := List.mem_iff_getElem.1 hmem
      have h1 := NOT.out j hj
      rw [List.getD_eq_getElem?_getD, List.getElem?_eq_getElem hj] at h1
      simp only [Option.getD_some] at h1
      rw [← hjn, h1]
      simp

theorem containsRight_any (v : Value) (xs : List Int) (n : Int) (xb : Nat) (w : World) (hb : Ints w v xs) (hm : xs.length ≤ 9223372036854775807) (hx : w.cell? ⟨xb, 0, none⟩ = some (.int .i64 n)) :
    Calls Try.prog 45 #[v, .func (.func 46) #[] #[.pointer (some ⟨xb, 0, none⟩)]] w fun e w' => e = .returned (.bool (xs.any (outB n))) ∧ w = w' := by
  have I := indexRight_any v xs n xb w hb hm hx
  obtain ⟨ao, cap, b, off, rfl, hc⟩ := hb.form
  clear hc hb
  go_enter Try.func45, Try.ntmps45
  go_wp2_with (go_at_call 50; refine I.mono ?_; rintro e w' ⟨r, rfl, rfl, hr⟩; have HR := Lib.hid hr; clear hr)
  go_ret
  rcases HR.out with ⟨h1, h2⟩ | ⟨h1, h2⟩
  · exact ⟨ret_bool (by rw [h2]; simp; omega), rfl⟩
  · exact ⟨ret_bool (by rw [h2]; simp; omega), rfl⟩

/-- May an entry be? -/
def rightT (x : Ten) (newest blocks pages : Int) : Bool :=
  if x.th = true then decide (totS x.sz x.sp pages ≠ 0) && inB x.ep 1 newest && decide (totS x.sz x.sp pages ≤ x.bs.length) && decide ((x.bs.length : Int) + 2 ≤ blocks) && !x.bs.any (outB blocks)
  else tenB x noTen

set_option maxHeartbeats 1600000 in
theorem isRight_any (x : Ten) (v : Value) (m n p : Int) (w : World) (hI : Ints w v x.bs) (hm : x.bs.length ≤ 1048576) :
    Calls Try.prog 33 #[.agg (tenC x v), .int .i64 m, .int .i64 n, .int .i64 p] w fun e w' => e = .returned (.bool (rightT x m n p)) ∧ Ext w w' := by
  have hb0 := (Blk.new w 24 (tenC x v)).alloc (.cells #[.int .i64 n] 3)
  have hx := (Blk.newAt (w.alloc (.cells (tenC x v) 24)) (w.heap.size + 1) (by simp) 3 #[.int .i64 n]).cell 0
  have hE := grown_alloc (World.grownBy_alloc w (.cells (tenC x v) 24) none) (.cells #[.int .i64 n] 3)
  have hI1 := hI.kept hE (by simp)
  have A := alike_any x noTen v nilS _ hI1 (.inl ⟨rfl, rfl⟩) (by omega)
  have T := ruleTotal_all x.sz x.sp p
  have W := within10_any x.ep 1 m
  have F := containsRight_any v x.bs n (w.heap.size + 1) _ hI1 (by omega) hx
  obtain ⟨av, cv, _, _, hv, _⟩ := hI.form
  have HE := Lib.hid hE
  have htb := totS_bd x.sz x.sp p
  clear hE hI hI1
  obtain ⟨xt, xe, xs, xp, xb⟩ := x
  have x0 := (hb0.cell 0).trans (ten_th _ _)
  have x1 := (hb0.cell 1).trans (ten_ep _ _)
  have x2 := (hb0.cell 2).trans (ten_sz _ _)
  have x3 := (hb0.cell 3).trans (ten_sp _ _)
  have x4 := (hb0.cell 4).trans (ten_bs _ _)
  simp only [] at x0 x1 x2 x3 x4 A T W F hv hm htb
  obtain ⟨w1, hw1⟩ : ∃ v', (w.alloc (.cells (tenC ⟨xt, xe, xs, xp, xb⟩ v) 24)).alloc (.cells #[.int .i64 n] 3) = v' := ⟨_, rfl⟩
  rw [hw1] at x0 x1 x2 x3 x4 A F HE hx hb0
  rw [hv] at x4 hw1 A F hb0 ⊢
  clear hv
  unfold rightT
  simp only []
  obtain ⟨t, ht⟩ : ∃ t, totS xs xp p = t := ⟨_, rfl⟩
  obtain ⟨q, hq⟩ : ∃ q, inB xe 1 m = q := ⟨_, rfl⟩
  obtain ⟨f, hf⟩ : ∃ f, xb.any (outB n) = f := ⟨_, rfl⟩
  obtain ⟨a, ha⟩ : ∃ a, tenB ⟨xt, xe, xs, xp, xb⟩ noTen = a := ⟨_, rfl⟩
  obtain ⟨k, hk⟩ : ∃ k, xb.length = k := ⟨_, rfl⟩
  rw [ht] at T htb ⊢
  rw [hq] at W ⊢
  rw [hf] at F ⊢
  rw [ha] at A ⊢
  rw [hk] at hm x4 hw1 A F hb0 ⊢
  clear ht hq hf ha hk
  cases xt
  · simp only [Bool.false_eq_true, if_false]
    go_enter Try.func33, Try.ntmps33
    go_wp2_with (first
      | (refine ten_load _ rfl rfl hb0 rfl ?_)
      | (go_at_call 43; refine A.mono ?_; rintro e w' ⟨rfl, hE2⟩; have HE2 := Lib.hid hE2; clear hE2))
    go_ret
    exact ⟨rfl, ext_trans HE.out HE2.out⟩
  · simp only [if_true]
    obtain ⟨tb0, tb1⟩ := htb
    by_cases h0 : t = 0
    · subst h0
      go_enter Try.func33, Try.ntmps33
      go_wp2_with (go_at_call 44; refine (T _).mono ?_; rintro e w' ⟨rfl, rfl⟩)
      go_ret
      exact ⟨ret_bool (by simp), HE.out⟩
    · have e0 : (t == 0) = false := by simpa using h0
      have H0 := Lib.hid h0
      clear h0
      cases q
      · go_enter Try.func33, Try.ntmps33
        go_wp2_with (first
          | (go_at_call 44; refine (T _).mono ?_; rintro e w' ⟨rfl, rfl⟩)
          | (go_at_call 31; refine (W _).mono ?_; rintro e w' ⟨rfl, rfl⟩))
        go_ret
        exact ⟨ret_bool (by simp), HE.out⟩
      · by_cases h1 : (k : Int) < t
        · have e1 : decide ((k : Int) < t) = true := by simpa using h1
          go_enter Try.func33, Try.ntmps33
          go_wp2_with (first
            | (go_at_call 44; refine (T _).mono ?_; rintro e w' ⟨rfl, rfl⟩)
            | (go_at_call 31; refine (W _).mono ?_; rintro e w' ⟨rfl, rfl⟩))
          go_ret
          exact ⟨ret_bool (by simp; omega), HE.out⟩
        · have e1 : decide ((k : Int) < t) = false := by simpa using h1
          by_cases h2 : n < (k : Int) + 2
          · have e2 : decide (n < (k : Int) + 2) = true := by simpa using h2
            go_enter Try.func33, Try.ntmps33
            go_wp2_with (first
              | (go_at_call 44; refine (T _).mono ?_; rintro e w' ⟨rfl, rfl⟩)
              | (go_at_call 31; refine (W _).mono ?_; rintro e w' ⟨rfl, rfl⟩))
            go_ret
            exact ⟨ret_bool (by simp; omega), HE.out⟩
          · have e2 : decide (n < (k : Int) + 2) = false := by simpa using h2
            have h2' : ¬ n < (k : Int) + 2 := h2
            have HF := Lib.hid (And.intro h1 h2)
            go_enter Try.func33, Try.ntmps33
            go_wp2_with (first
              | (go_at_call 44; refine (T _).mono ?_; rintro e w' ⟨rfl, rfl⟩)
              | (go_at_call 31; refine (W _).mono ?_; rintro e w' ⟨rfl, rfl⟩)
              | (go_at_call 45; refine F.mono ?_; rintro e w' ⟨rfl, rfl⟩))
            go_ret
            refine ⟨ret_bool ?_, HE.out⟩
            have g1 : t ≤ (k : Int) := by have := HF.out.1; omega
            have g2 : (k : Int) + 2 ≤ n := by have := HF.out.2; omega
            simp [H0.out, g1, g2]

end Go.Proofs.Ytkcdddpbmbhelaa
