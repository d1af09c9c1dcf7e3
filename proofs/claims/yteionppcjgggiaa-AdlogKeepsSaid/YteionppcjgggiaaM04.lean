/-
  Texts put together: EQ ER ES EV.
-/
import Derived.Test.YteionppcjgggiaaM03
/-
  Package ledger: which entry may be (alike, isRight).
-/
namespace Go.Proofs.Yteionppcjgggiaa
set_option linter.unusedVariables false
set_option linter.unusedSimpArgs false
set_option maxRecDepth 100000
open Go.RowKit

set_option maxHeartbeats 800000 in
theorem equalI_any (a b : Value) (xs ys : List Int) (w : World) (hA : Ints w a xs) (hB : Ints w b ys) (hm : xs.length ≤ 9223372036854775807) :
    Calls Try.prog 93 #[a, b] w fun e w' => e = .returned (.bool (xs == ys)) ∧ Ext w w' := by
  obtain ⟨aa, ca, ba, oa, rfl, hca⟩ := hA.form
  obtain ⟨ab, cb, bb, ob, rfl, hcb⟩ := hB.form
  have HA := Lib.hid hca
  have HB := Lib.hid hcb
  obtain ⟨na, hna⟩ : ∃ n, xs.length = n := ⟨_, rfl⟩
  obtain ⟨nb, hnb⟩ : ∃ n, ys.length = n := ⟨_, rfl⟩
  rw [hna] at hm
  rw [hna, hnb]
  have HNA := Lib.hid hna
  have HNB := Lib.hid hnb
  clear hA hB hca hcb hna hnb
  by_cases hl : na = nb
  · subst hl
    go_enter Try.func93, Try.ntmps93
    go_wp2
    go_loopw [13] (fun i wr => ∃ k : Nat, k ≤ na ∧ i = .int .i64 k ∧ (∀ j, j < k → xs.getD j 0 = ys.getD j 0) ∧ Ext w wr) (fun i _ => na - (intOf i).toNat)
    case atStart => exact ⟨0, by omega, rfl, fun j hj => by omega, Ext.refl w⟩
    case round =>
      obtain ⟨k, hk, rfl, hall, hE⟩ := hrel
      have ALL := Lib.hid hall
      clear hall
      by_cases hlt : k < na
      · obtain ⟨rfl, cx⟩ := HA.out k (by rw [HNA.out]; exact hlt)
        obtain ⟨rfl, cy⟩ := HB.out k (by rw [HNB.out]; exact hlt)
        have cx1 := hE.cell cx (by simp)
        have cy1 := hE.cell cy (by simp)
        obtain ⟨x, hx⟩ : ∃ x, xs.getD k 0 = x := ⟨_, rfl⟩
        obtain ⟨y, hy⟩ : ∃ y, ys.getD k 0 = y := ⟨_, rfl⟩
        rw [hx] at cx1
        rw [hy] at cy1
        have HXY := Lib.hid (And.intro hx hy)
        let S : World → Prop := fun z => z.cell? ⟨ba, oa + k, none⟩ = some (.int .i64 x) ∧ z.cell? ⟨bb, ob + k, none⟩ = some (.int .i64 y)
        have hS : S wr.drew := ⟨cx1, cy1⟩
        have HE := Lib.hid (ext_trans hE (Ext.drew wr))
        clear hx hy cx cy cx1 cy1 hE
        by_cases hxy : x = y
        · subst hxy
          go_wp2
          refine region_line [(0, true), (1, true), (2, true), (3, true), (4, true), (5, true), (6, true), (7, true), (8, true)] S (by kernel_rfl) (by kernel_rfl) (fun _ _ _ d _ h => by cases d <;> exact h) hS ?_
          repeat (refine line_read (a' := ?_) rfl (by kernel_rfl) (by kernel_rfl) hS (fun x hx K hK => ?_) ?_; rotate_left; · (obtain ⟨x1, x2⟩ := hx; go_wp2; exact hK))
          refine line_end ?_
          go_wp2
          go_roundw
          case rel =>
            refine ⟨k + 1, by omega, by go_num, fun j hj => ?_, HE.out⟩
            by_cases e : j = k
            · subst e; rw [HXY.out.1, HXY.out.2]
            · exact ALL.out j (by omega)
          case measure => simp [intOf]; omega
        · have hq : (x == y) = false := by simpa using hxy
          have hq2 : (x != y) = true := by simpa using hxy
          have HNE := Lib.hid hxy
          clear hxy
          go_wp2
          refine region_line [(0, true), (1, true), (2, true), (3, true), (4, true), (5, true), (6, true), (7, true), (8, true)] S (by kernel_rfl) (by kernel_rfl) (fun _ _ _ d _ h => by cases d <;> exact h) hS ?_
          repeat (refine line_read (a' := ?_) rfl (by kernel_rfl) (by kernel_rfl) hS (fun x hx K hK => ?_) ?_; rotate_left; · (obtain ⟨x1, x2⟩ := hx; go_wp2; exact hK))
          refine line_end ?_
          go_wp2
          go_ret
          refine ⟨ret_bool ?_, HE.out⟩
          have : xs ≠ ys := fun e => HNE.out (by rw [← HXY.out.1, ← HXY.out.2, e])
          simp [this]
      · obtain rfl : k = na := by omega
        have HE := Lib.hid hE
        clear hE
        go_wp2
        go_ret
        refine ⟨ret_bool ?_, HE.out⟩
        have : xs = ys := List.ext_getElem (HNA.out.trans HNB.out.symm) (fun m h1 h2 => by
          have := ALL.out m (by have := HNA.out; omega)
          simpa [List.getD_eq_getElem?_getD, h1, h2] using this)
        simp [this]
  · have hlne : ((na : Int) != (nb : Int)) = true := beqNe_nat' hl
    have HL := Lib.hid hl
    clear hl
    go_enter Try.func93, Try.ntmps93
    go_wp2
    go_ret
    refine ⟨ret_bool ?_, Ext.refl w⟩
    have : xs ≠ ys := fun e => HL.out (by rw [← HNA.out, ← HNB.out, e])
    simp [this]

set_option maxHeartbeats 1600000 in
theorem alike_any (x y : Ten) (u v : Value) (w : World) (hU : Ints w u x.bs) (hV : Ints w v y.bs) (hm : x.bs.length ≤ 9223372036854775807) :
    Calls Try.prog 76 #[.agg (tenC x u), .agg (tenC y v)] w fun e w' => e = .returned (.bool (tenB x y)) ∧ Ext w w' := by
  have hb0 := (Blk.new w 31 (tenC x u)).alloc (.cells (tenC y v) 31)
  have hb1 := Blk.newAt (w.alloc (.cells (tenC x u) 31)) (w.heap.size + 1) (by simp) 31 (tenC y v)
  have hE := grown_alloc (World.grownBy_alloc w (.cells (tenC x u) 31) none) (.cells (tenC y v) 31)
  have Q := equalI_any u v x.bs y.bs _ (hU.kept hE (by simp)) (hV.kept hE (by simp)) hm
  obtain ⟨au, cu, _, _, hu, _⟩ := hU.form
  obtain ⟨av, cv, _, _, hv, _⟩ := hV.form
  have HE := Lib.hid hE
  clear hE hU hV
  obtain ⟨xt, xe, xs, xp, xb⟩ := x
  obtain ⟨yt, ye, ys, yp, yb⟩ := y
  have x0 := (hb0.cell 0).trans (ten_th _ _)
  have x1 := (hb0.cell 1).trans (ten_ep _ _)
  have x2 := (hb0.cell 2).trans (ten_sz _ _)
  have x3 := (hb0.cell 3).trans (ten_sp _ _)
  have x4 := (hb0.cell 4).trans (ten_bs _ _)
  have y0 := (hb1.cell 0).trans (ten_th _ _)
  have y1 := (hb1.cell 1).trans (ten_ep _ _)
  have y2 := (hb1.cell 2).trans (ten_sz _ _)
  have y3 := (hb1.cell 3).trans (ten_sp _ _)
  have y4 := (hb1.cell 4).trans (ten_bs _ _)
  obtain ⟨w1, hw1⟩ : ∃ v', (w.alloc (.cells (tenC ⟨xt, xe, xs, xp, xb⟩ u) 31)).alloc (.cells (tenC ⟨yt, ye, ys, yp, yb⟩ v) 31) = v' := ⟨_, rfl⟩
  simp only [] at x0 x1 x2 x3 x4 y0 y1 y2 y3 y4 Q HE hu hv
  rw [hw1] at x0 x1 x2 x3 x4 y0 y1 y2 y3 y4 Q HE
  rw [hu] at x4 hw1 ⊢
  rw [hv] at y4 hw1 ⊢
  rw [hu, hv] at Q
  clear hb0 hb1 hu hv
  obtain ⟨q, hq⟩ : ∃ q, (xb == yb) = q := ⟨_, rfl⟩
  rw [hq] at Q
  have fin : tenB ⟨xt, xe, xs, xp, xb⟩ ⟨yt, ye, ys, yp, yb⟩ = (xt == yt && xe == ye && xs == ys && xp == yp && q) := by rw [← hq]; rfl
  rw [fin]
  clear hq fin
  by_cases h0 : xt = yt
  · subst h0
    by_cases h1 : xe = ye
    · subst h1
      by_cases h2 : xs = ys
      · subst h2
        by_cases h3 : xp = yp
        · subst h3
          go_enter Try.func76, Try.ntmps76
          go_wp2_with (go_at_call 93; refine Q.mono ?_; rintro e w' ⟨rfl, hE2⟩; have HE2 := Lib.hid hE2; clear hE2)
          go_ret
          exact ⟨ret_bool (by simp), ext_trans HE.out HE2.out⟩
        · have hq : (xp == yp) = false := by simpa using h3
          have H3 := Lib.hid h3
          clear h3
          go_enter Try.func76, Try.ntmps76
          go_wp2
          go_ret
          exact ⟨ret_bool (by simp), HE.out⟩
      · have hq : (xs == ys) = false := by simpa using h2
        have H3 := Lib.hid h2
        clear h2
        go_enter Try.func76, Try.ntmps76
        go_wp2
        go_ret
        exact ⟨ret_bool (by simp), HE.out⟩
    · have hq : (xe == ye) = false := by simpa using h1
      have H3 := Lib.hid h1
      clear h1
      go_enter Try.func76, Try.ntmps76
      go_wp2
      go_ret
      exact ⟨ret_bool (by simp), HE.out⟩
  · cases xt <;> cases yt
    · exact absurd rfl h0
    · clear h0
      go_enter Try.func76, Try.ntmps76
      go_wp2
      go_ret
      exact ⟨ret_bool (by simp), HE.out⟩
    · clear h0
      go_enter Try.func76, Try.ntmps76
      go_wp2
      go_ret
      exact ⟨ret_bool (by simp), HE.out⟩
    · exact absurd rfl h0

end Go.Proofs.Yteionppcjgggiaa

/-
  Package ledger: isRight.
-/
namespace Go.Proofs.Yteionppcjgggiaa
set_option linter.unusedVariables false
set_option linter.unusedSimpArgs false
set_option maxRecDepth 100000
open Go.RowKit

def totS (s r p : Int) : Int := if rightB s r p = true then s / p + 2 + r else 0
theorem totS_bd (s r p : Int) : 0 ≤ totS s r p ∧ totS s r p ≤ 74 := by
  unfold totS
  split
  · rename_i h
    simp [rightB, inB] at h
    obtain ⟨⟨⟨s0, s1⟩, r0, r1⟩, p0, p1⟩ := h
    have q0 : 0 ≤ s / p := Int.ediv_nonneg (by omega) (by omega)
    have q1 : s / p ≤ 64 := Int.le_trans (Int.ediv_le_self _ (by omega)) s1
    omega
  · omega

set_option maxHeartbeats 800000 in
theorem ruleTotal_all (s r p : Int) (w : World) :
    Calls Try.prog 77 #[.int .i64 s, .int .i64 r, .int .i64 p] w fun e w' => e = .returned (.int .i64 (totS s r p)) ∧ w = w' := by
  unfold totS
  by_cases hv : rightB s r p = true
  · rw [if_pos hv]
    simp [rightB, inB] at hv
    obtain ⟨⟨hs, hr⟩, hp⟩ := hv
    exact ruleTotal_any s r p w hs hr hp
  · rw [if_neg hv]
    have C := ruleCheck_any s r
    have P := rulePages_any p
    by_cases h0 : roomE s r = 0
    · rw [h0] at C
      have hpg : inB p 2 16 = false := by
        cases hh : inB p 2 16
        · rfl
        · refine absurd ?_ hv
          unfold roomE at h0
          split at h0
          · rename_i h
            simp only [rightB, h.1, h.2, hh, Bool.and_self]
          · simp at h0
      rw [hpg] at P
      clear hv h0 hpg
      go_enter Try.func77, Try.ntmps77
      go_wp2_with (first
        | (go_at_call 94; refine (C _).mono ?_; rintro e w' ⟨rfl, rfl⟩)
        | (go_at_call 95; refine (P _).mono ?_; rintro e w' ⟨rfl, rfl⟩))
      go_ret
      exact ⟨rfl, rfl⟩
    · have h5 : roomE s r = 5 := by unfold roomE at h0 ⊢; split <;> simp_all
      rw [h5] at C
      clear hv h0 h5
      go_enter Try.func77, Try.ntmps77
      go_wp2_with (go_at_call 94; refine (C _).mono ?_; rintro e w' ⟨rfl, rfl⟩)
      go_ret
      exact ⟨rfl, rfl⟩

def outB (n b : Int) : Bool := decide (b < 2 ∨ n ≤ b)

theorem rightDo_any (b n : Int) (xb : Nat) (w : World) (hx : w.cell? ⟨xb, 0, none⟩ = some (.int .i64 n)) :
    Calls Try.prog 78 #[.int .i64 b, .pointer (some ⟨xb, 0, none⟩)] w fun e w' => e = .returned (.bool (outB n b)) ∧ w = w' := by
  by_cases h : b < 2
  · have e : decide (b < 2) = true := by simpa using h
    go_enter Try.func78, Try.ntmps78
    go_wp2
    go_ret
    exact ⟨ret_bool (by simp [outB, h]), rfl⟩
  · have e : decide (b < 2) = false := by simpa using h
    go_enter Try.func78, Try.ntmps78
    go_wp2
    go_ret
    exact ⟨ret_bool (by simp [outB]; omega), rfl⟩

set_option maxHeartbeats 800000 in
theorem indexRight_any (v : Value) (xs : List Int) (n : Int) (xb : Nat) (w : World) (hb : Ints w v xs) (hm : xs.length ≤ 9223372036854775807) (hx : w.cell? ⟨xb, 0, none⟩ = some (.int .i64 n)) :
    Calls Try.prog 50 #[v, .func (.func 78) #[] #[.pointer (some ⟨xb, 0, none⟩)]] w fun e w' => ∃ r : Int, e = .returned (.int .i64 r) ∧ w = w' ∧ ((0 ≤ r ∧ xs.any (outB n) = true) ∨ (r < 0 ∧ xs.any (outB n) = false)) := by
  obtain ⟨ao, cap, b, off, rfl, hc⟩ := hb.form
  have HC := Lib.hid hc
  clear hc hb
  go_enter Try.func50, Try.ntmps50
  go_wp2
  go_loopw [8] (fun i wr => ∃ k : Nat, k ≤ xs.length ∧ i = .int .i64 k ∧ (∀ j, j < k → outB n (xs.getD j 0) = false) ∧ w = wr) (fun i _ => xs.length - (intOf i).toNat)
  case atStart => exact ⟨0, by omega, rfl, fun j hj => by omega, rfl⟩
  case round =>
    obtain ⟨k, hk, rfl, hnot, rfl⟩ := hrel
    have NOT := Lib.hid hnot
    clear hnot
    by_cases hlt : k < xs.length
    · obtain ⟨rfl, hcell⟩ := HC.out k hlt
      obtain ⟨x, hx'⟩ : ∃ x, xs.getD k 0 = x := ⟨_, rfl⟩
      rw [hx'] at hcell
      have HX := Lib.hid hx'
      have D := rightDo_any x n xb w hx
      obtain ⟨p, hp⟩ : ∃ p, outB n x = p := ⟨_, rfl⟩
      rw [hp] at D
      have HP := Lib.hid hp
      clear hx' hp
      cases p
      · go_wp2_with (go_at_call 78; refine D.mono ?_; rintro e w' ⟨rfl, rfl⟩)
        go_roundw
        case rel =>
          refine ⟨k + 1, by omega, by go_num, fun j hj => ?_, trivial⟩
          by_cases e : j = k
          · subst e; rw [HX.out]; exact HP.out
          · exact NOT.out j (by omega)
        case measure => simp [intOf]; omega
      · go_wp2_with (go_at_call 78; refine D.mono ?_; rintro e w' ⟨rfl, rfl⟩)
        go_ret
        refine ⟨_, rfl, rfl, .inl ⟨by omega, ?_⟩⟩
        have h1 := HX.out
        rw [List.getD_eq_getElem?_getD, List.getElem?_eq_getElem hlt] at h1
        simp only [Option.getD_some] at h1
        exact List.any_eq_true.2 ⟨x, by rw [← h1]; exact List.getElem_mem hlt, HP.out⟩
    · obtain rfl : k = xs.length := by omega
      go_wp2
      go_ret
      refine ⟨_, rfl, rfl, .inr ⟨by omega, ?_⟩⟩
      rw [List.any_eq_false]
      intro y hmem
      obtain ⟨j, hj, hjn⟩ := List.mem_iff_getElem.1 hmem
      have h1 := NOT.out j hj
      rw [List.getD_eq_getElem?_getD, List.getElem?_eq_getElem hj] at h1
      simp only [Option.getD_some] at h1
      rw [← hjn, h1]
      simp

theorem containsRight_any (v : Value) (xs : List Int) (n : Int) (xb : Nat) (w : World) (hb : Ints w v xs) (hm : xs.length ≤ 9223372036854775807) (hx : w.cell? ⟨xb, 0, none⟩ = some (.int .i64 n)) :
    Calls Try.prog 27 #[v, .func (.func 78) #[] #[.pointer (some ⟨xb, 0, none⟩)]] w fun e w' => e = .returned (.bool (xs.any (outB n))) ∧ w = w' := by
  have I := indexRight_any v xs n xb w hb hm hx
  obtain ⟨ao, cap, b, off, rfl, hc⟩ := hb.form
  clear hc hb
  go_enter Try.func27, Try.ntmps27
  go_wp2_with (go_at_call 50; refine I.mono ?_; rintro e w' ⟨r, rfl, rfl, hr⟩; have HR := Lib.hid hr; clear hr)
  go_ret
  rcases HR.out with ⟨h1, h2⟩ | ⟨h1, h2⟩
  · exact ⟨ret_bool (by rw [h2]; simp; omega), rfl⟩
  · exact ⟨ret_bool (by rw [h2]; simp; omega), rfl⟩

/-- May an entry be? -/
def rightT (x : Ten) (newest blocks pages : Int) : Bool :=
  if x.th = true then decide (totS x.sz x.sp pages ≠ 0) && inB x.ep 1 newest && decide (totS x.sz x.sp pages ≤ x.bs.length) && decide ((x.bs.length : Int) + 2 ≤ blocks) && !x.bs.any (outB blocks)
  else tenB x noTen

set_option maxHeartbeats 1600000 in
theorem isRight_any (x : Ten) (v : Value) (m n p : Int) (w : World) (hI : Ints w v x.bs) (hm : x.bs.length ≤ 1048576) :
    Calls Try.prog 55 #[.agg (tenC x v), .int .i64 m, .int .i64 n, .int .i64 p] w fun e w' => e = .returned (.bool (rightT x m n p)) ∧ Ext w w' := by
  have hb0 := (Blk.new w 31 (tenC x v)).alloc (.cells #[.int .i64 n] 3)
  have hx := (Blk.newAt (w.alloc (.cells (tenC x v) 31)) (w.heap.size + 1) (by simp) 3 #[.int .i64 n]).cell 0
  have hE := grown_alloc (World.grownBy_alloc w (.cells (tenC x v) 31) none) (.cells #[.int .i64 n] 3)
  have hI1 := hI.kept hE (by simp)
  have A := alike_any x noTen v nilS _ hI1 (.inl ⟨rfl, rfl⟩) (by omega)
  have T := ruleTotal_all x.sz x.sp p
  have W := within10_any x.ep 1 m
  have F := containsRight_any v x.bs n (w.heap.size + 1) _ hI1 (by omega) hx
  obtain ⟨av, cv, _, _, hv, _⟩ := hI.form
  have HE := Lib.hid hE
  have htb := totS_bd x.sz x.sp p
  clear hE hI hI1
  obtain ⟨xt, xe, xs, xp, xb⟩ := x
  have x0 := (hb0.cell 0).trans (ten_th _ _)
  have x1 := (hb0.cell 1).trans (ten_ep _ _)
  have x2 := (hb0.cell 2).trans (ten_sz _ _)
  have x3 := (hb0.cell 3).trans (ten_sp _ _)
  have x4 := (hb0.cell 4).trans (ten_bs _ _)
  simp only [] at x0 x1 x2 x3 x4 A T W F hv hm htb
  obtain ⟨w1, hw1⟩ : ∃ v', (w.alloc (.cells (tenC ⟨xt, xe, xs, xp, xb⟩ v) 31)).alloc (.cells #[.int .i64 n] 3) = v' := ⟨_, rfl⟩
  rw [hw1] at x0 x1 x2 x3 x4 A F HE hx hb0
  rw [hv] at x4 hw1 A F hb0 ⊢
  clear hv
  unfold rightT
  simp only []
  obtain ⟨t, ht⟩ : ∃ t, totS xs xp p = t := ⟨_, rfl⟩
  obtain ⟨q, hq⟩ : ∃ q, inB xe 1 m = q := ⟨_, rfl⟩
  obtain ⟨f, hf⟩ : ∃ f, xb.any (outB n) = f := ⟨_, rfl⟩
  obtain ⟨a, ha⟩ : ∃ a, tenB ⟨xt, xe, xs, xp, xb⟩ noTen = a := ⟨_, rfl⟩
  obtain ⟨k, hk⟩ : ∃ k, xb.length = k := ⟨_, rfl⟩
  rw [ht] at T htb ⊢
  rw [hq] at W ⊢
  rw [hf] at F ⊢
  rw [ha] at A ⊢
  rw [hk] at hm x4 hw1 A F hb0 ⊢
  clear ht hq hf ha hk
  cases xt
  · simp only [Bool.false_eq_true, if_false]
    go_enter Try.func55, Try.ntmps55
    go_wp2_with (first
      | (refine ten_load _ rfl rfl hb0 rfl ?_)
      | (go_at_call 76; refine A.mono ?_; rintro e w' ⟨rfl, hE2⟩; have HE2 := Lib.hid hE2; clear hE2))
    go_ret
    exact ⟨rfl, ext_trans HE.out HE2.out⟩
  · simp only [if_true]
    obtain ⟨tb0, tb1⟩ := htb
    by_cases h0 : t = 0
    · subst h0
      go_enter Try.func55, Try.ntmps55
      go_wp2_with (go_at_call 77; refine (T _).mono ?_; rintro e w' ⟨rfl, rfl⟩)
      go_ret
      exact ⟨ret_bool (by simp), HE.out⟩
    · have e0 : (t == 0) = false := by simpa using h0
      have H0 := Lib.hid h0
      clear h0
      cases q
      · go_enter Try.func55, Try.ntmps55
        go_wp2_with (first
          | (go_at_call 77; refine (T _).mono ?_; rintro e w' ⟨rfl, rfl⟩)
          | (go_at_call 53; refine (W _).mono ?_; rintro e w' ⟨rfl, rfl⟩))
        go_ret
        exact ⟨ret_bool (by simp), HE.out⟩
      · by_cases h1 : (k : Int) < t
        · have e1 : decide ((k : Int) < t) = true := by simpa using h1
          go_enter Try.func55, Try.ntmps55
          go_wp2_with (first
            | (go_at_call 77; refine (T _).mono ?_; rintro e w' ⟨rfl, rfl⟩)
            | (go_at_call 53; refine (W _).mono ?_; rintro e w' ⟨rfl, rfl⟩))
          go_ret
          exact ⟨ret_bool (by simp; omega), HE.out⟩
        · have e1 : decide ((k : Int) < t) = false := by simpa using h1
          by_cases h2 : n < (k : Int) + 2
          · have e2 : decide (n < (k : Int) + 2) = true := by simpa using h2
            go_enter Try.func55, Try.ntmps55
            go_wp2_with (first
              | (go_at_call 77; refine (T _).mono ?_; rintro e w' ⟨rfl, rfl⟩)
              | (go_at_call 53; refine (W _).mono ?_; rintro e w' ⟨rfl, rfl⟩))
            go_ret
            exact ⟨ret_bool (by simp; omega), HE.out⟩
          · have e2 : decide (n < (k : Int) + 2) = false := by simpa using h2
            have h2' : ¬ n < (k : Int) + 2 := h2
            have HF := Lib.hid (And.intro h1 h2)
            go_enter Try.func55, Try.ntmps55
            go_wp2_with (first
              | (go_at_call 77; refine (T _).mono ?_; rintro e w' ⟨rfl, rfl⟩)
              | (go_at_call 53; refine (W _).mono ?_; rintro e w' ⟨rfl, rfl⟩)
              | (go_at_call 27; refine F.mono ?_; rintro e w' ⟨rfl, rfl⟩))
            go_ret
            refine ⟨ret_bool ?_, HE.out⟩
            have g1 : t ≤ (k : Int) := by have := HF.out.1; omega
            have g2 : (k : Int) + 2 ≤ n := by have := HF.out.2; omega
            simp [H0.out, g1, g2]

end Go.Proofs.Yteionppcjgggiaa

/-
  Package ledger: Check.
-/
namespace Go.Proofs.Yteionppcjgggiaa
set_option linter.unusedVariables false
set_option linter.unusedSimpArgs false
set_option maxRecDepth 100000
open Go.RowKit Go.Maps

theorem checkDo_any (x : Ten) (v : Value) (b nb pb : Nat) (L : Led) (V : Nat → Value) (n p : Int) (w : World) (hI : Ints w v x.bs) (hm : x.bs.length ≤ 1048576) (hb : Blk w b 34 (ledC L V)) (hn : w.cell? ⟨nb, 0, none⟩ = some (.int .i64 n)) (hp : w.cell? ⟨pb, 0, none⟩ = some (.int .i64 p)) :
    Calls Try.prog 54 #[.agg (tenC x v), .pointer (some ⟨b, 0, none⟩), .pointer (some ⟨nb, 0, none⟩), .pointer (some ⟨pb, 0, none⟩)] w fun e w' => e = .returned (.bool (!rightT x L.eps n p)) ∧ Ext w w' := by
  have hE := World.grownBy_alloc w (.cells (tenC x v) 31) none
  have hbt := Blk.new w 31 (tenC x v)
  have ce := ((hb.ext hE).cell 1).trans (led_eps L V)
  have cn := hE.cell hn (by simp)
  have cp := hE.cell hp (by simp)
  have R := isRight_any x v L.eps n p _ (hI.kept hE (by simp)) hm
  have HE := Lib.hid hE
  clear hE hb hn hp hI
  go_enter Try.func54, Try.ntmps54
  go_wp2_with (first
    | (refine ten_load _ rfl rfl hbt rfl ?_)
    | (go_at_call 55; refine R.mono ?_; rintro e w' ⟨rfl, hE2⟩; have HE2 := Lib.hid hE2; clear hE2))
  go_ret
  exact ⟨rfl, ext_trans HE.out HE2.out⟩

def wrongP (L : Led) (n p : Int) (j : Nat) : Bool := !rightT (L.t j) L.eps n p

set_option maxHeartbeats 800000 in
theorem indexCheck_any (L : Led) (V : Nat → Value) (b nb pb : Nat) (n p : Int) (w : World) (hb : Blk w b 34 (ledC L V)) (hL : LedIs w L V) (hm : ∀ j, j < 4 → (L.t j).bs.length ≤ 1048576) (hn : w.cell? ⟨nb, 0, none⟩ = some (.int .i64 n)) (hp : w.cell? ⟨pb, 0, none⟩ = some (.int .i64 p)) :
    Calls Try.prog 79 #[.slice (some ⟨b, 2, none⟩) 4 4, .func (.func 54) #[] #[.pointer (some ⟨b, 0, none⟩), .pointer (some ⟨nb, 0, none⟩), .pointer (some ⟨pb, 0, none⟩)]] w fun e w' => e = .returned (.int .i64 (firstB (wrongP L n p))) ∧ Ext w w' := by
  have HB := Lib.hid hb
  have HL := Lib.hid hL
  have HX := Lib.hid (And.intro hn hp)
  clear hb hL hn hp
  go_enter Try.func79, Try.ntmps79
  go_wp2
  go_loopw [8] (fun i wr => ∃ k : Nat, k ≤ 4 ∧ i = .int .i64 k ∧ (∀ j, j < k → wrongP L n p j = false) ∧ Ext w wr) (fun i _ => 4 - (intOf i).toNat)
  case atStart => exact ⟨0, by omega, rfl, fun j hj => by omega, Ext.refl w⟩
  case round =>
    obtain ⟨k, hk, rfl, hnot, hE⟩ := hrel
    have NOT := Lib.hid hnot
    clear hnot
    by_cases hlt : k < 4
    · have hb1 := HB.out.ext hE
      have D := checkDo_any (L.t k) (V k) b nb pb L V n p wr ((HL.out k hlt).kept hE (by simp)) (hm k hlt) hb1 (hE.cell HX.out.1 (by simp)) (hE.cell HX.out.2 (by simp))
      obtain ⟨q, hq⟩ : ∃ q, (!rightT (L.t k) L.eps n p) = q := ⟨_, rfl⟩
      rw [hq] at D
      have HP := Lib.hid (show wrongP L n p k = q from hq)
      have HE := Lib.hid hE
      clear hq hE hm
      cases q
      · go_wp2_with (first
          | (refine ten_load_in _ rfl hlt rfl hb1 rfl ?_)
          | (go_at_call 54; refine D.mono ?_; rintro e w2 ⟨rfl, hE2⟩; have HE2 := Lib.hid (ext_trans HE.out hE2); clear hE2))
        go_roundw
        case rel =>
          refine ⟨k + 1, by omega, by go_num, fun j hj => ?_, HE2.out⟩
          by_cases e : j = k
          · subst e; exact HP.out
          · exact NOT.out j (by omega)
        case measure => simp [intOf]; omega
      · have HO := Lib.hid (firstB_at (p := wrongP L n p) hlt HP.out NOT.out)
        go_wp2_with (first
          | (refine ten_load_in _ rfl hlt rfl hb1 rfl ?_)
          | (go_at_call 54; refine D.mono ?_; rintro e w2 ⟨rfl, hE2⟩; have HE2 := Lib.hid (ext_trans HE.out hE2); clear hE2))
        go_ret
        exact ⟨ret_int (by rw [HO.out]), HE2.out⟩
    · obtain rfl : k = 4 := by omega
      have HO := Lib.hid (firstB_no (p := wrongP L n p) NOT.out)
      go_wp2
      go_ret
      exact ⟨ret_int (by rw [HO.out]), hE⟩

def someB (p : Nat → Bool) : Bool := p 0 || p 1 || p 2 || p 3
theorem firstB_some (p : Nat → Bool) : decide (0 ≤ firstB p) = someB p := by
  unfold firstB someB
  cases p 0 <;> cases p 1 <;> cases p 2 <;> cases p 3 <;> simp

theorem containsCheck_any (L : Led) (V : Nat → Value) (b nb pb : Nat) (n p : Int) (w : World) (hb : Blk w b 34 (ledC L V)) (hL : LedIs w L V) (hm : ∀ j, j < 4 → (L.t j).bs.length ≤ 1048576) (hn : w.cell? ⟨nb, 0, none⟩ = some (.int .i64 n)) (hp : w.cell? ⟨pb, 0, none⟩ = some (.int .i64 p)) :
    Calls Try.prog 56 #[.slice (some ⟨b, 2, none⟩) 4 4, .func (.func 54) #[] #[.pointer (some ⟨b, 0, none⟩), .pointer (some ⟨nb, 0, none⟩), .pointer (some ⟨pb, 0, none⟩)]] w fun e w' => e = .returned (.bool (someB (wrongP L n p))) ∧ Ext w w' := by
  have I := indexCheck_any L V b nb pb n p w hb hL hm hn hp
  have HS := Lib.hid (firstB_some (wrongP L n p))
  obtain ⟨r, hr⟩ : ∃ r, firstB (wrongP L n p) = r := ⟨_, rfl⟩
  rw [hr] at I HS
  clear hb hL hm hn hp hr
  go_enter Try.func56, Try.ntmps56
  go_wp2_with (go_at_call 79; refine I.mono ?_; rintro e w' ⟨rfl, hE2⟩; have HE2 := Lib.hid hE2; clear hE2)
  go_ret
  exact ⟨ret_bool HS.out, HE2.out⟩

def epochsTo (L : Led) : Nat → List Int
  | 0 => []
  | k + 1 => if (L.t k).th = true then epochsTo L k ++ [(L.t k).ep] else epochsTo L k
def epochsL (L : Led) : List Int := epochsTo L 4
theorem epochsTo_len (L : Led) : ∀ k, (epochsTo L k).length ≤ k
  | 0 => by simp [epochsTo]
  | k + 1 => by
    have := epochsTo_len L k
    unfold epochsTo
    split
    · simp; omega
    · omega
theorem epochsTo_wf {L : Led} (h : ∀ j, j < 4 → (Lit.int .i64 (L.t j).ep).wf = true) : ∀ k, k ≤ 4 → WfL (epochsTo L k)
  | 0, _ => fun n hn => by simp [epochsTo] at hn
  | k + 1, hk => fun n hn => by
    unfold epochsTo at hn
    split at hn
    · rcases List.mem_append.1 hn with hn | hn
      · exact epochsTo_wf h k (by omega) n hn
      · simp at hn; subst hn; exact h k (by omega)
    · exact epochsTo_wf h k (by omega) n hn

set_option maxHeartbeats 1600000 in
theorem epochs10_any (L : Led) (V : Nat → Value) (w : World) (hL : LedIs w L V) :
    Calls Try.prog 58 #[.agg (ledC L V)] w fun e w' => ∃ v, e = .returned v ∧ OwnI w.heap.size w' v (epochsL L) ∧ Ext w w' := by
  have hb := Blk.new w 34 (ledC L V)
  have hE0 := World.grownBy_alloc w (.cells (ledC L V) 34) none
  obtain ⟨w1, hw1⟩ : ∃ v, w.alloc (.cells (ledC L V) 34) = v := ⟨_, rfl⟩
  rw [hw1] at hb hE0
  have HL := Lib.hid (hL.slices)
  have HE0 := Lib.hid hE0
  clear hL hE0
  go_enter Try.func58, Try.ntmps58
  go_wp2_with (refine tens_load _ rfl rfl hb rfl ?_)
  clear hw1 hb
  go_loopw [3, 8] (fun x i wr => ∃ (k : Nat) (v : Value), k ≤ 4 ∧ v = x ∧ i = .int .i64 k ∧ OwnI w1.heap.size wr v (epochsTo L k) ∧ Ext w1 wr) (fun _ i _ => 4 - (intOf i).toNat)
  case atStart => exact ⟨0, _, by omega, rfl, rfl, World.ownsRow_nil w1 _ _ _, Ext.refl w1⟩
  case round =>
    obtain ⟨k, v, hk, hvx, rfl, hO, hE1⟩ := hrel
    subst hvx
    have HO := Lib.hid hO
    have HE1 := Lib.hid hE1
    clear hO hE1
    by_cases hlt : k < 4
    · have hix := tens_at L V hlt
      have hS := HL.out k hlt
      have hBn := Blk.new wr 31 zeroTC
      have HLEN := Lib.hid (epochsTo_len L k)
      obtain ⟨ep, hep⟩ : ∃ n, (L.t k).ep = n := ⟨_, rfl⟩
      have HEP := Lib.hid hep
      obtain ⟨th, hth⟩ : ∃ b, (L.t k).th = b := ⟨_, rfl⟩
      have HTH := Lib.hid hth
      clear hep hth
      cases th
      · go_wp2_with (refine ten_store _ _ rfl rfl rfl hBn rfl hS rfl ?_; intro w6 hb6 hg6 hs6; clear hBn hs6; have c0 := (hb6.cell 0).trans (ten_th _ _); rw [HTH.out] at c0; have HG6 := Lib.hid (grown_trans (World.grownBy_alloc wr (.cells zeroTC 31) none) hg6 (fun p hp hlt => by injection hp with hp; omega)); clear hg6 hb6)
        go_roundw
        case rel => exact ⟨k + 1, _, by omega, rfl, by go_num, by unfold epochsTo; rw [HTH.out]; exact own_kept HO.out HG6.out (by simp), ext_trans HE1.out HG6.out⟩
        case measure => simp [intOf]; omega
      · go_wp2_with (first
          | (refine ten_store _ _ rfl rfl rfl hBn rfl hS rfl ?_; intro w6 hb6 hg6 hs6; clear hBn hs6; have c0 := (hb6.cell 0).trans (ten_th _ _); rw [HTH.out] at c0; have c1 := (hb6.cell 1).trans (ten_ep _ _); rw [HEP.out] at c1; have HG6 := Lib.hid (grown_trans (World.grownBy_alloc wr (.cells zeroTC 31) none) hg6 (fun p hp hlt => by injection hp with hp; omega)); clear hg6 hb6)
          | (at_builtin; go_loud (refine append_ints rfl _ _ rfl w1.heap.size v (epochsTo L k) rfl (own_kept HO.out (ext_trans HG6.out (World.grownBy_alloc w6 (.cells #[.int .i64 ep] 3) none)) (by simp)) (.slice (some ⟨w6.heap.size, 0, none⟩) 1 1) [ep] rfl (ints_one w6 ep 3) ?_ ?_ ?_); (have hq := HLEN.out; simp only [List.length_cons, List.length_nil]; omega); (have hq := HE1.out.size; have hq2 := HG6.out.size; simp; omega); intro v7 w7 ho7 hg7 _; have HO7 := Lib.hid ho7; have HE7 := Lib.hid (ext_own (ext_trans HE1.out (ext_trans HG6.out (World.grownBy_alloc w6 (.cells #[.int .i64 ep] 3) none))) (own_kept HO.out (ext_trans HG6.out (World.grownBy_alloc w6 (.cells #[.int .i64 ep] 3) none)) (by simp)) (Nat.le_refl _) hg7); clear ho7 hg7))
        go_roundw
        case rel => exact ⟨k + 1, _, by omega, rfl, by go_num, by unfold epochsTo; rw [HTH.out, HEP.out]; exact HO7.out, HE7.out⟩
        case measure => simp [intOf]; omega
    · obtain rfl : k = 4 := by omega
      go_wp2
      go_ret
      exact ⟨_, rfl, ownsRow_le HO.out HE0.out.size, ext_trans HE0.out HE1.out⟩

/-- Does a number stand twice? -/
def repB (xs : List Int) : Bool := decide (((xs.map (Lit.int .i64)).foldl addKey []).length < xs.length)

set_option maxHeartbeats 800000 in
theorem repeats10_any (v : Value) (xs : List Int) (w : World) (hI : Ints w v xs) (hm : xs.length ≤ 16777216) (hwf : WfL xs) :
    Calls Try.prog 57 #[v] w fun e w' => e = .returned (.bool (repB xs)) ∧ Ext w w' := by
  have S := set10_any v xs w hI hm hwf
  have HS := Lib.hid (size_setOf (H := Unit) (.agg []) (xs.map (Lit.int .i64)) (fun y hy => by obtain ⟨n, _, rfl⟩ := List.mem_map.1 hy; trivial))
  obtain ⟨ao, cp, _, _, rfl, _⟩ := hI.form
  obtain ⟨z, hz⟩ : ∃ z, ((xs.map (Lit.int .i64)).foldl addKey []).length = z := ⟨_, rfl⟩
  rw [hz] at HS
  have HZ := Lib.hid hz
  clear hI hwf hz
  go_enter Try.func57, Try.ntmps57
  go_wp2_with (first
    | (go_at_call 80; refine S.mono ?_; rintro e w2 ⟨mb, rfl, hM, _, hE⟩; have HE := Lib.hid hE; have hlen := hM.len (t := 136) Try.underlying136 3; rw [show Maps.size (setD xs) = z from HS.out] at hlen; clear hE hM))
  go_ret
  exact ⟨ret_bool (by unfold repB; rw [HZ.out]), HE.out⟩

/-- May a ledger be? -/
def rightL (L : Led) (n p : Int) : Bool := inB L.gen 0 2147483647 && inB L.eps 0 2147483647 && !someB (wrongP L n p) && !repB (epochsL L) && !repB (takenL L)

structure GoodL (L : Led) : Prop where
  len : ∀ j, j < 4 → (L.t j).bs.length ≤ 1048576
  wf : ∀ j, j < 4 → WfL (L.t j).bs
  wfe : ∀ j, j < 4 → (Lit.int .i64 (L.t j).ep).wf = true

set_option maxHeartbeats 3200000 in
theorem check10_any (L : Led) (V : Nat → Value) (n p : Int) (w : World) (hL : LedIs w L V) (hG : GoodL L) :
    Calls Try.prog 34 #[.agg (ledC L V), .int .i64 n, .int .i64 p] w fun e w' => e = .returned (.int .i64 (if rightL L n p = true then 0 else 2)) ∧ Ext w w' := by
  have hb := ((Blk.new w 34 (ledC L V)).alloc (.cells #[.int .i64 n] 3)).alloc (.cells #[.int .i64 p] 3)
  have hn := ((Blk.newAt (w.alloc (.cells (ledC L V) 34)) (w.heap.size + 1) (by simp) 3 #[.int .i64 n]).alloc (.cells #[.int .i64 p] 3)).cell 0
  have hp := (Blk.newAt ((w.alloc (.cells (ledC L V) 34)).alloc (.cells #[.int .i64 n] 3)) (w.heap.size + 2) (by simp) 3 #[.int .i64 p]).cell 0
  have hE := grown_alloc (grown_alloc (World.grownBy_alloc w (.cells (ledC L V) 34) none) (.cells #[.int .i64 n] 3)) (.cells #[.int .i64 p] 3)
  obtain ⟨w1, hw1⟩ : ∃ v, ((w.alloc (.cells (ledC L V) 34)).alloc (.cells #[.int .i64 n] 3)).alloc (.cells #[.int .i64 p] 3) = v := ⟨_, rfl⟩
  rw [hw1] at hb hn hp hE
  have hL1 := hL.ext hE
  have C := containsCheck_any L V w.heap.size (w.heap.size + 1) (w.heap.size + 2) n p w1 hb hL1 hG.len hn hp
  have EP := fun w2 (h : Ext w1 w2) => epochs10_any L V w2 (hL1.ext h)
  have TK := fun w2 (h : Ext w1 w2) => taken10_any L V w2 (hL1.ext h) hG.len
  have RE := fun v w2 (h : Ints w2 v (epochsL L)) => repeats10_any v (epochsL L) w2 h (by have := epochsTo_len L 4; show (epochsTo L 4).length ≤ _; omega) (epochsTo_wf hG.wfe 4 (by omega))
  have RT := fun v w2 (h : Ints w2 v (takenL L)) => repeats10_any v (takenL L) w2 h (by have := takenTo_len hG.len 4 (by omega); show (takenTo L 4).length ≤ _; omega) (takenTo_wf hG.wf 4 (by omega))
  have cg := (hb.cell 0).trans (led_gen L V)
  have ce := (hb.cell 1).trans (led_eps L V)
  have HE := Lib.hid hE
  have HB := Lib.hid hb
  clear hL hL1 hE hn hp hG
  unfold rightL
  obtain ⟨g, hg⟩ : ∃ g, inB L.gen 0 2147483647 = g := ⟨_, rfl⟩
  obtain ⟨e, he⟩ : ∃ e, inB L.eps 0 2147483647 = e := ⟨_, rfl⟩
  obtain ⟨q, hq⟩ : ∃ q, someB (wrongP L n p) = q := ⟨_, rfl⟩
  obtain ⟨r, hr⟩ : ∃ r, repB (epochsL L) = r := ⟨_, rfl⟩
  obtain ⟨s, hs⟩ : ∃ s, repB (takenL L) = s := ⟨_, rfl⟩
  have HGQ := Lib.hid hg
  have HEQ := Lib.hid he
  rw [hg, he]
  rw [hq] at C ⊢
  rw [hr] at RE ⊢
  rw [hs] at RT ⊢
  clear hg he hq hr hs
  cases g
  · go_enter Try.func34, Try.ntmps34
    go_wp2_with (go_at_call 53; refine (within10_any _ _ _ _).mono ?_; rintro e w' ⟨rfl, rfl⟩; first | rw [HGQ.out] | rw [HEQ.out])
    go_ret
    exact ⟨ret_int (by simp), HE.out⟩
  · cases e
    · go_enter Try.func34, Try.ntmps34
      go_wp2_with (first
        | (go_at_call 53; refine (within10_any _ _ _ _).mono ?_; rintro e w' ⟨rfl, rfl⟩; first | rw [HGQ.out] | rw [HEQ.out]))
      go_ret
      exact ⟨ret_int (by simp), HE.out⟩
    · cases q
      · cases r
        · cases s
          all_goals
            go_enter Try.func34, Try.ntmps34
            go_wp2_with (first
              | (go_at_call 53; refine (within10_any _ _ _ _).mono ?_; rintro e w' ⟨rfl, rfl⟩; first | rw [HGQ.out] | rw [HEQ.out])
              | (go_at_call 56; refine C.mono ?_; rintro e w2 ⟨rfl, hE2⟩; have HE2 := Lib.hid hE2; have hb2 := hb.ext hE2; clear hE2)
              | (refine led_load _ rfl rfl hb2 rfl ?_)
              | (go_at_call 58; refine (EP _ HE2.out).mono ?_; rintro e w3 ⟨v3, rfl, ho3, hE3⟩; have HE3 := Lib.hid (ext_trans HE2.out hE3); have HI3 := Lib.hid (owns_ints rfl ho3); clear ho3 hE3)
              | (go_at_call 57; have hq5 := HI5; (with_reducible refine (RT _ _ HI5.out).mono ?_); rintro e w6 ⟨rfl, hE6⟩; have HE6 := Lib.hid (ext_trans HE5.out hE6); clear hE6)
              | (go_at_call 57; (with_reducible refine (RE _ _ HI3.out).mono ?_); rintro e w4 ⟨rfl, hE4⟩; have HE4 := Lib.hid (ext_trans HE3.out hE4); have hb4 := hb.ext (ext_trans HE3.out hE4); clear hE4)
              | (refine led_load _ rfl rfl hb4 rfl ?_)
              | (go_at_call 59; refine (TK _ HE4.out).mono ?_; rintro e w5 ⟨v5, rfl, ho5, hE5⟩; have HE5 := Lib.hid (ext_trans HE4.out hE5); have HI5 := Lib.hid (owns_ints rfl ho5); clear ho5 hE5))
            go_ret
            exact ⟨ret_int (by simp), ext_trans HE.out HE6.out⟩
        · go_enter Try.func34, Try.ntmps34
          go_wp2_with (first
            | (go_at_call 53; refine (within10_any _ _ _ _).mono ?_; rintro e w' ⟨rfl, rfl⟩; first | rw [HGQ.out] | rw [HEQ.out])
            | (go_at_call 56; refine C.mono ?_; rintro e w2 ⟨rfl, hE2⟩; have HE2 := Lib.hid hE2; have hb2 := hb.ext hE2; clear hE2)
            | (refine led_load _ rfl rfl hb2 rfl ?_)
            | (go_at_call 58; refine (EP _ HE2.out).mono ?_; rintro e w3 ⟨v3, rfl, ho3, hE3⟩; have HE3 := Lib.hid (ext_trans HE2.out hE3); have HI3 := Lib.hid (owns_ints rfl ho3); clear ho3 hE3)
            | (go_at_call 57; (with_reducible refine (RE _ _ HI3.out).mono ?_); rintro e w4 ⟨rfl, hE4⟩; have HE4 := Lib.hid (ext_trans HE3.out hE4); clear hE4))
          go_ret
          exact ⟨ret_int (by simp), ext_trans HE.out HE4.out⟩
      · go_enter Try.func34, Try.ntmps34
        go_wp2_with (first
          | (go_at_call 53; refine (within10_any _ _ _ _).mono ?_; rintro e w' ⟨rfl, rfl⟩; first | rw [HGQ.out] | rw [HEQ.out])
          | (go_at_call 56; refine C.mono ?_; rintro e w2 ⟨rfl, hE2⟩; have HE2 := Lib.hid hE2; clear hE2))
        go_ret
        exact ⟨ret_int (by simp), ext_trans HE.out HE2.out⟩

end Go.Proofs.Yteionppcjgggiaa

/-
  Which ledger may be, in plain words; what changes make of one.
-/
namespace Go.Proofs.Yteionppcjgggiaa
set_option linter.unusedVariables false
set_option linter.unusedSimpArgs false
set_option maxRecDepth 100000
open Go.RowKit

def tenOk (x : Ten) (newest n p : Int) : Prop :=
  (x.th = true → 1 ≤ x.ep ∧ x.ep ≤ newest ∧ totS x.sz x.sp p ≠ 0 ∧ totS x.sz x.sp p ≤ x.bs.length ∧ (x.bs.length : Int) ≤ wrap64 (n - 2) ∧ ∀ b ∈ x.bs, 2 ≤ b ∧ b < n) ∧
  (x.th = false → x.ep = 0 ∧ x.sz = 0 ∧ x.sp = 0 ∧ x.bs = [])
structure RightP (L : Led) (n p : Int) : Prop where
  gen : 0 ≤ L.gen ∧ L.gen ≤ 2147483647
  eps : 0 ≤ L.eps ∧ L.eps ≤ 2147483647
  ten : ∀ j, j < 4 → tenOk (L.t j) L.eps n p
  blk : (takenL L).Nodup
  epo : (epochsL L).Nodup

theorem takenTo_sub (L : Led) : ∀ {k m : Nat}, k ≤ m → ∃ r, takenTo L m = takenTo L k ++ r
  | k, 0, h => ⟨[], by obtain rfl : k = 0 := (by omega); simp⟩
  | k, m + 1, h => by
    by_cases e : k = m + 1
    · subst e; exact ⟨[], by simp⟩
    · obtain ⟨r, hr⟩ := takenTo_sub L (k := k) (m := m) (by omega)
      exact ⟨r ++ (L.t m).bs, by simp [takenTo, hr]⟩
theorem epochsTo_sub (L : Led) : ∀ {k m : Nat}, k ≤ m → ∃ r, epochsTo L m = epochsTo L k ++ r
  | k, 0, h => ⟨[], by obtain rfl : k = 0 := (by omega); simp⟩
  | k, m + 1, h => by
    by_cases e : k = m + 1
    · subst e; exact ⟨[], by simp⟩
    · obtain ⟨r, hr⟩ := epochsTo_sub L (k := k) (m := m) (by omega)
      by_cases ht : (L.t m).th = true
      · exact ⟨r ++ [(L.t m).ep], by simp [epochsTo, ht, hr]⟩
      · exact ⟨r, by simp [epochsTo, ht, hr]⟩
theorem RightP.takenTo {L : Led} {n p : Int} (h : RightP L n p) {k : Nat} (hk : k ≤ 4) : (takenTo L k).Nodup := by
  obtain ⟨r, hr⟩ := takenTo_sub L hk
  have h1 : (Go.Proofs.Yteionppcjgggiaa.takenTo L 4).Nodup := h.blk
  rw [hr] at h1
  exact (List.nodup_append.1 h1).1
theorem RightP.epochsTo {L : Led} {n p : Int} (h : RightP L n p) {k : Nat} (hk : k ≤ 4) : (epochsTo L k).Nodup := by
  obtain ⟨r, hr⟩ := epochsTo_sub L hk
  have h1 : (Go.Proofs.Yteionppcjgggiaa.epochsTo L 4).Nodup := h.epo
  rw [hr] at h1
  exact (List.nodup_append.1 h1).1

/-- Numbers that stand once in each of the rows below k and in no two of them. -/
theorem taken_nodup {L : Led} : ∀ k, (takenTo L k).Nodup ↔ (∀ j, j < k → (L.t j).bs.Nodup) ∧ ∀ i j, i < j → j < k → ∀ b ∈ (L.t i).bs, b ∉ (L.t j).bs
  | 0 => by simp [takenTo]
  | k + 1 => by
    have mem : ∀ b, b ∈ takenTo L k ↔ ∃ i, i < k ∧ b ∈ (L.t i).bs := by
      intro b
      clear taken_nodup
      induction k with
      | zero => simp [takenTo]
      | succ k ih =>
        simp only [takenTo, List.mem_append, ih]
        constructor
        · rintro (⟨i, hi, hb⟩ | hb)
          · exact ⟨i, by omega, hb⟩
          · exact ⟨k, by omega, hb⟩
        · rintro ⟨i, hi, hb⟩
          by_cases e : i = k
          · subst e; exact .inr hb
          · exact .inl ⟨i, by omega, hb⟩
    simp only [takenTo, List.nodup_append, taken_nodup k]
    constructor
    · rintro ⟨⟨h1, h2⟩, h3, h4⟩
      refine ⟨fun j hj => ?_, fun i j hij hj b hb hb2 => ?_⟩
      · by_cases e : j = k
        · subst e; exact h3
        · exact h1 j (by omega)
      · by_cases e : j = k
        · subst e; exact h4 b ((mem b).2 ⟨i, hij, hb⟩) b hb2 rfl
        · exact h2 i j hij (by omega) b hb hb2
    · rintro ⟨h1, h2⟩
      refine ⟨⟨fun j hj => h1 j (by omega), fun i j hij hj => h2 i j hij (by omega)⟩, h1 k (by omega), fun a ha b hb e => ?_⟩
      subst e
      obtain ⟨i, hi, hai⟩ := (mem a).1 ha
      exact h2 i k hi (by omega) a hai hb
theorem taken_mem {L : Led} : ∀ (k : Nat) (b : Int), b ∈ takenTo L k ↔ ∃ i, i < k ∧ b ∈ (L.t i).bs
  | 0, b => by simp [takenTo]
  | k + 1, b => by
    simp only [takenTo, List.mem_append, taken_mem k b]
    constructor
    · rintro (⟨i, hi, hb⟩ | hb)
      · exact ⟨i, by omega, hb⟩
      · exact ⟨k, by omega, hb⟩
    · rintro ⟨i, hi, hb⟩
      by_cases e : i = k
      · subst e; exact .inr hb
      · exact .inl ⟨i, by omega, hb⟩
theorem epochs_mem {L : Led} : ∀ (k : Nat) (x : Int), x ∈ epochsTo L k ↔ ∃ i, i < k ∧ (L.t i).th = true ∧ (L.t i).ep = x
  | 0, x => by simp [epochsTo]
  | k + 1, x => by
    have ih := epochs_mem (L := L) k x
    unfold epochsTo
    by_cases ht : (L.t k).th = true
    · rw [if_pos ht, List.mem_append, ih]
      constructor
      · rintro (⟨i, hi, h⟩ | h)
        · exact ⟨i, by omega, h⟩
        · simp at h; exact ⟨k, by omega, ht, h.symm⟩
      · rintro ⟨i, hi, h⟩
        by_cases e : i = k
        · subst e; exact .inr (by simp [h.2])
        · exact .inl ⟨i, by omega, h⟩
    · rw [if_neg ht, ih]
      constructor
      · rintro ⟨i, hi, h⟩; exact ⟨i, by omega, h⟩
      · rintro ⟨i, hi, h⟩
        by_cases e : i = k
        · subst e; exact absurd h.1 ht
        · exact ⟨i, by omega, h⟩
theorem epochs_nodup {L : Led} : ∀ k, (epochsTo L k).Nodup ↔ ∀ i j, i < j → j < k → (L.t i).th = true → (L.t j).th = true → (L.t i).ep ≠ (L.t j).ep
  | 0 => by simp [epochsTo]
  | k + 1 => by
    have ih := epochs_nodup (L := L) k
    unfold epochsTo
    by_cases ht : (L.t k).th = true
    · rw [if_pos ht, List.nodup_append, ih]
      constructor
      · rintro ⟨h1, _, h3⟩ i j hij hj hi hjt
        by_cases e : j = k
        · subst e
          exact fun e2 => h3 _ ((epochs_mem j _).2 ⟨i, hij, hi, rfl⟩) _ (by simp) e2
        · exact h1 i j hij (by omega) hi hjt
      · intro h
        refine ⟨fun i j hij hj => h i j hij (by omega), by simp, fun a ha b hb e => ?_⟩
        simp at hb
        obtain ⟨i, hi, hit, rfl⟩ := (epochs_mem k a).1 ha
        exact h i k hi (by omega) hit ht (e.trans hb)
    · rw [if_neg ht, ih]
      constructor
      · intro h i j hij hj hi hjt
        by_cases e : j = k
        · subst e; exact absurd hjt ht
        · exact h i j hij (by omega) hi hjt
      · intro h i j hij hj
        exact h i j hij (by omega)

/-- May be, said of pairs. -/
theorem right_iff {L : Led} {n p : Int} : RightP L n p ↔ (0 ≤ L.gen ∧ L.gen ≤ 2147483647) ∧ (0 ≤ L.eps ∧ L.eps ≤ 2147483647) ∧ (∀ j, j < 4 → tenOk (L.t j) L.eps n p) ∧
    ((∀ j, j < 4 → (L.t j).bs.Nodup) ∧ ∀ i j, i < j → j < 4 → ∀ b ∈ (L.t i).bs, b ∉ (L.t j).bs) ∧ ∀ i j, i < j → j < 4 → (L.t i).th = true → (L.t j).th = true → (L.t i).ep ≠ (L.t j).ep :=
  ⟨fun h => ⟨h.gen, h.eps, h.ten, (taken_nodup 4).1 h.blk, (epochs_nodup 4).1 h.epo⟩, fun ⟨h1, h2, h3, h4, h5⟩ => ⟨h1, h2, h3, (taken_nodup 4).2 h4, (epochs_nodup 4).2 h5⟩⟩

theorem tenOk_more {x : Ten} {m m' n p : Int} (h : tenOk x m n p) (hm : m ≤ m') : tenOk x m' n p :=
  ⟨fun ht => by obtain ⟨h1, h2, h3⟩ := h.1 ht; exact ⟨h1, by omega, h3⟩, h.2⟩
theorem tenOk_no (m n p : Int) : tenOk noTen m n p := ⟨fun h => by simp [noTen] at h, fun _ => ⟨rfl, rfl, rfl, rfl⟩⟩

theorem inc_le {n : Int} (h0 : 0 ≤ n) (h1 : n ≤ 2147483647) (h2 : n ≠ 2147483647) : inc n = n + 1 ∧ 0 ≤ n + 1 ∧ n + 1 ≤ 2147483647 := by
  refine ⟨?_, by omega, by omega⟩
  unfold inc wrap64
  omega

/-- Without a tenant a ledger may be, still. -/
theorem right_destroy {L : Led} {n p t : Int} (h : RightP L n p) (hok : (destroyS L t).2 = 0) : RightP (destroyS L t).1 n p := by
  unfold destroyS at hok ⊢
  by_cases hm : missT L t = 0
  · rw [if_pos hm] at hok ⊢
    obtain ⟨k, rfl, hk, _⟩ := missT_ok hm
    simp only [Int.toNat_natCast] at hok ⊢
    unfold changedS at hok ⊢
    by_cases hg : L.gen = 2147483647
    · rw [if_pos hg] at hok; simp at hok
    · rw [if_neg hg]
      obtain ⟨hg0, he0, ht, ⟨hb1, hb2⟩, hep⟩ := right_iff.1 h
      obtain ⟨i1, i2, i3⟩ := inc_le hg0.1 hg0.2 hg
      have at_ : ∀ j, (updT (bump L) k noTen).t j = if j = k then noTen else L.t j := fun j => rfl
      refine right_iff.2 ⟨?_, he0, fun j hj => ?_, ⟨fun j hj => ?_, fun i j hij hj b hb => ?_⟩, fun i j hij hj hi hjt => ?_⟩
      · show 0 ≤ inc L.gen ∧ inc L.gen ≤ _
        rw [i1]; exact ⟨i2, i3⟩
      · rw [at_]; split
        · exact tenOk_no _ _ _
        · exact ht j hj
      · rw [at_]; split
        · simp [noTen]
        · exact hb1 j hj
      · rw [at_] at hb ⊢
        split at hb
        · simp [noTen] at hb
        · split
          · simp [noTen]
          · exact hb2 i j hij hj b hb
      · rw [at_] at hi hjt ⊢
        rw [at_]
        split at hi
        · simp [noTen] at hi
        · split at hjt
          · simp [noTen] at hjt
          · rename_i e1 e2
            rw [if_neg e1, if_neg e2]
            exact hep i j hij hj hi hjt
  · rw [if_neg hm] at hok
    exact absurd hok hm

theorem freeTo_mem {T : List Int} {k : Nat} {b : Int} : b ∈ freeTo T k ↔ (2 ≤ b ∧ b < 2 + k) ∧ b ∉ T := by
  unfold freeTo
  simp only [List.mem_filter, List.mem_map, List.mem_range, decide_eq_true_eq]
  constructor
  · rintro ⟨⟨i, hi, rfl⟩, h⟩
    exact ⟨⟨by omega, by omega⟩, h⟩
  · rintro ⟨⟨h1, h2⟩, h⟩
    exact ⟨⟨(b - 2).toNat, by omega, by omega⟩, h⟩
theorem freeTo_nodup (T : List Int) (k : Nat) : (freeTo T k).Nodup := by
  unfold freeTo
  refine List.Pairwise.filter _ ?_
  rw [List.pairwise_map]
  exact (List.nodup_range (n := k)).imp (fun h e => h (by omega))

theorem room_ok {s r : Int} (h : roomE s r = 0) : (1 ≤ s ∧ s ≤ 64) ∧ 0 ≤ r ∧ r ≤ 8 := by
  unfold roomE at h
  split at h
  · rename_i hh
    simp [inB] at hh
    exact hh
  · simp at h
theorem totS_ok {s r p : Int} (h : roomE s r = 0) (hp : 2 ≤ p ∧ p ≤ 16) : totS s r p = s / p + 2 + r ∧ 2 ≤ s / p + 2 + r := by
  obtain ⟨⟨s0, s1⟩, r0, r1⟩ := room_ok h
  have q0 : 0 ≤ s / p := Int.ediv_nonneg (by omega) (by omega)
  refine ⟨?_, by omega⟩
  unfold totS
  rw [if_pos (rightB_yes ⟨s0, s1, r0, r1, hp.1, hp.2⟩)]

/-- What Create needs, when it is told OK. -/
theorem create_ok {L : Led} {t s r : Int} {xs : List Int} (hok : (createS L t s r xs).2 = 0) :
    ∃ k : Nat, t = k ∧ k < 4 ∧ (L.t k).th = false ∧ roomE s r = 0 ∧ L.eps ≠ 2147483647 ∧ L.gen ≠ 2147483647 ∧ (createS L t s r xs).1 = createL (bump L) k s r xs := by
  unfold createS at hok ⊢
  by_cases ht : inB t 0 3 = true
  · rw [if_pos ht] at hok ⊢
    obtain ⟨k, rfl⟩ : ∃ k : Nat, t = k := ⟨t.toNat, by simp [inB] at ht; omega⟩
    have hk : k < 4 := by simp [inB] at ht; omega
    simp only [Int.toNat_natCast] at hok ⊢
    by_cases hth : (L.t k).th = true
    · rw [if_pos hth] at hok; simp at hok
    · rw [if_neg hth] at hok ⊢
      by_cases hr : roomE s r = 0
      · rw [if_pos hr] at hok ⊢
        by_cases he : L.eps = 2147483647
        · rw [if_pos he] at hok; simp at hok
        · rw [if_neg he] at hok ⊢
          unfold changedS at hok ⊢
          by_cases hg : L.gen = 2147483647
          · rw [if_pos hg] at hok; simp at hok
          · rw [if_neg hg]
            exact ⟨k, rfl, hk, by simpa using hth, hr, he, hg, rfl⟩
      · rw [if_neg hr] at hok
        exact absurd hok hr
  · rw [if_neg ht] at hok
    simp at hok

/-- With all free blocks a tenant may be, if they are enough. -/
theorem right_create {L : Led} {n p t s r : Int} (h : RightP L n p) (hp : 2 ≤ p ∧ p ≤ 16) (hn : n ≤ 64) (hok : (createS L t s r (freeL L n)).2 = 0) :
    RightP (createS L t s r (freeL L n)).1 n p ↔ s / p + 2 + r ≤ ((freeL L n).length : Int) := by
  obtain ⟨k, rfl, hk, hth, hroom, he, hg, hc⟩ := create_ok hok
  rw [hc]
  obtain ⟨hg0, he0, ht, ⟨hb1, hb2⟩, hep⟩ := right_iff.1 h
  obtain ⟨i1, i2, i3⟩ := inc_le hg0.1 hg0.2 hg
  obtain ⟨j1, j2, j3⟩ := inc_le he0.1 he0.2 he
  obtain ⟨tt, tt2⟩ := totS_ok hroom hp
  have at_ : ∀ j, (createL (bump L) k s r (freeL L n)).t j = if j = k then ⟨true, L.eps + 1, s, r, freeL L n⟩ else L.t j := fun j => by
    show (if j = k then (⟨true, inc L.eps, s, r, freeL L n⟩ : Ten) else L.t j) = _
    rw [j1]
  have heps : (createL (bump L) k s r (freeL L n)).eps = L.eps + 1 := j1
  have hfl : ((freeL L n).length : Int) ≤ ((n - 2).toNat : Int) := by
    have := freeTo_len (takenL L) (n - 2).toNat
    show ((freeTo (takenL L) (n - 2).toNat).length : Int) ≤ _
    omega
  have fm : ∀ b, b ∈ freeL L n → (2 ≤ b ∧ b < n) ∧ b ∉ takenL L := fun b hb => by
    obtain ⟨⟨h1, h2⟩, h3⟩ := freeTo_mem.1 hb
    exact ⟨⟨h1, by omega⟩, h3⟩
  constructor
  · intro hr
    have := (hr.ten k hk).1 (by rw [at_, if_pos rfl])
    rw [at_, if_pos rfl] at this
    have h4 := this.2.2.2.1
    rw [show totS s r p = s / p + 2 + r from tt] at h4
    exact h4
  · intro hlen
    refine right_iff.2 ⟨?_, ?_, fun j hj => ?_, ⟨fun j hj => ?_, fun i j hij hj b hb => ?_⟩, fun i j hij hj hi hjt => ?_⟩
    · show 0 ≤ inc L.gen ∧ inc L.gen ≤ _
      rw [i1]; exact ⟨i2, i3⟩
    · rw [heps]; exact ⟨j2, j3⟩
    · rw [at_, heps]
      split
      · refine ⟨fun _ => ⟨by show (1 : Int) ≤ L.eps + 1; omega, Int.le_refl _, ?_, ?_, ?_, fun b hb => (fm b hb).1⟩, fun h => by simp at h⟩
        · show totS s r p ≠ 0
          rw [tt]; omega
        · show totS s r p ≤ ((freeL L n).length : Int)
          rw [tt]; exact hlen
        · show ((freeL L n).length : Int) ≤ wrap64 (n - 2)
          unfold wrap64
          omega
      · exact tenOk_more (ht j hj) (by omega)
    · rw [at_]; split
      · exact freeTo_nodup _ _
      · exact hb1 j hj
    · rw [at_] at hb ⊢
      split at hb
      · rename_i e
        rw [if_neg (by omega)]
        intro hb2'
        exact (fm b hb).2 ((taken_mem 4 b).2 ⟨j, hj, hb2'⟩)
      · split
        · intro hb2'
          exact (fm b hb2').2 ((taken_mem 4 b).2 ⟨i, by omega, hb⟩)
        · exact hb2 i j hij hj b hb
    · rw [at_] at hi hjt ⊢
      rw [at_]
      by_cases e1 : i = k
      · rw [if_pos e1, if_neg (by omega)]
        rw [if_neg (by omega)] at hjt
        have := ((ht j hj).1 hjt).2.1
        show L.eps + 1 ≠ _
        omega
      · rw [if_neg e1] at hi ⊢
        by_cases e2 : j = k
        · rw [if_pos e2]
          have := ((ht i (by omega)).1 hi).2.1
          show _ ≠ L.eps + 1
          omega
        · rw [if_neg e2] at hjt ⊢
          exact hep i j hij hj hi hjt

theorem set_mem {xs : List Int} (hn : xs.Nodup) {i : Nat} (hi : i < xs.length) {y b : Int} (hb : b ∈ xs.set i y) : b = y ∨ (b ∈ xs ∧ b ≠ xs[i]) := by
  obtain ⟨m, hm, rfl⟩ := List.mem_iff_getElem.1 hb
  rw [List.length_set] at hm
  rw [List.getElem_set]
  split
  · exact .inl rfl
  · rename_i hne
    refine .inr ⟨List.getElem_mem hm, fun e => ?_⟩
    have hpw := List.pairwise_iff_getElem.1 hn
    rcases Nat.lt_or_gt_of_ne hne with h | h
    · exact hpw i m hi hm h e.symm
    · exact hpw m i hm hi h e
theorem set_nodup {xs : List Int} (hn : xs.Nodup) {i : Nat} {y : Int} (hy : y ∉ xs) : (xs.set i y).Nodup := by
  refine List.pairwise_iff_getElem.2 fun a b ha hb hab => ?_
  rw [List.length_set] at ha hb
  rw [List.getElem_set, List.getElem_set]
  have hpw := List.pairwise_iff_getElem.1 hn
  split
  · rw [if_neg (by omega)]
    exact fun e => hy (by rw [e]; exact List.getElem_mem hb)
  · split
    · exact fun e => hy (by rw [← e]; exact List.getElem_mem ha)
    · exact hpw a b ha hb hab

/-- Blocks that change places: a ledger may be, still. -/
theorem right_swap {L : Led} {n p a i b j : Int} (h : RightP L n p) (hok : (swapS L a i b j).2 = 0) : RightP (swapS L a i b j).1 n p := by
  unfold swapS at hok ⊢
  by_cases hA : missT L a = 0
  · rw [if_pos hA] at hok ⊢
    by_cases hB : missT L b = 0
    · rw [if_pos hB] at hok ⊢
      by_cases hab : a = b
      · rw [if_pos hab] at hok; simp at hok
      · rw [if_neg hab] at hok ⊢
        obtain ⟨ka, rfl, hka, hta⟩ := missT_ok hA
        obtain ⟨kb, rfl, hkb, htb⟩ := missT_ok hB
        simp only [Int.toNat_natCast] at hok ⊢
        by_cases hp : inB i 0 ((L.t ka).bs.length - 1) = true ∧ inB j 0 ((L.t kb).bs.length - 1) = true
        · rw [if_pos hp] at hok ⊢
          unfold changedS at hok ⊢
          by_cases hg : L.gen = 2147483647
          · rw [if_pos hg] at hok; simp at hok
          · rw [if_neg hg]
            obtain ⟨p1, p2⟩ := hp
            simp [inB] at p1 p2
            obtain ⟨i', rfl⟩ : ∃ i' : Nat, i = i' := ⟨i.toNat, by omega⟩
            obtain ⟨j', rfl⟩ : ∃ j' : Nat, j = j' := ⟨j.toNat, by omega⟩
            have hi : i' < (L.t ka).bs.length := by omega
            have hj : j' < (L.t kb).bs.length := by omega
            simp only [Int.toNat_natCast]
            have hne : ka ≠ kb := by omega
            obtain ⟨hg0, he0, ht, ⟨hb1, hb2⟩, hep⟩ := right_iff.1 h
            obtain ⟨i1, i2, i3⟩ := inc_le hg0.1 hg0.2 hg
            have sym : ∀ u v, u ≠ v → u < 4 → v < 4 → ∀ z ∈ (L.t u).bs, z ∉ (L.t v).bs := fun u v huv hu hv z hz hz2 => by
              rcases Nat.lt_or_gt_of_ne huv with h | h
              · exact hb2 u v h hv z hz hz2
              · exact hb2 v u h hu z hz2 hz
            have gx : (L.t ka).bs.getD i' 0 = (L.t ka).bs[i'] := by rw [List.getD_eq_getElem?_getD, List.getElem?_eq_getElem hi]; rfl
            have gy : (L.t kb).bs.getD j' 0 = (L.t kb).bs[j'] := by rw [List.getD_eq_getElem?_getD, List.getElem?_eq_getElem hj]; rfl
            have xm : (L.t ka).bs[i'] ∈ (L.t ka).bs := List.getElem_mem hi
            have ym : (L.t kb).bs[j'] ∈ (L.t kb).bs := List.getElem_mem hj
            have at_ : ∀ u, (swapL (bump L) ka i' kb j').t u = if u = kb then { L.t kb with bs := (L.t kb).bs.set j' ((L.t ka).bs[i']) } else if u = ka then { L.t ka with bs := (L.t ka).bs.set i' ((L.t kb).bs[j']) } else L.t u := fun u => by
              rw [← gx, ← gy]; rfl
            have bs_ : ∀ u, ((swapL (bump L) ka i' kb j').t u).bs = if u = kb then (L.t kb).bs.set j' ((L.t ka).bs[i']) else if u = ka then (L.t ka).bs.set i' ((L.t kb).bs[j']) else (L.t u).bs := fun u => by
              rw [at_]; split
              · rfl
              · split <;> rfl
            have th_ : ∀ u, ((swapL (bump L) ka i' kb j').t u).th = (L.t u).th ∧ ((swapL (bump L) ka i' kb j').t u).ep = (L.t u).ep ∧ ((swapL (bump L) ka i' kb j').t u).sz = (L.t u).sz ∧ ((swapL (bump L) ka i' kb j').t u).sp = (L.t u).sp := fun u => by
              rw [at_]; split
              · rename_i e; subst e; exact ⟨rfl, rfl, rfl, rfl⟩
              · split
                · rename_i e; subst e; exact ⟨rfl, rfl, rfl, rfl⟩
                · exact ⟨rfl, rfl, rfl, rfl⟩
            have len_ : ∀ u, ((swapL (bump L) ka i' kb j').t u).bs.length = (L.t u).bs.length := fun u => by
              rw [bs_]; split
              · rename_i e; subst e; simp
              · split
                · rename_i e; subst e; simp
                · rfl
            have mem_ : ∀ u z, z ∈ ((swapL (bump L) ka i' kb j').t u).bs → (u = kb ∧ (z = (L.t ka).bs[i'] ∨ (z ∈ (L.t kb).bs ∧ z ≠ (L.t kb).bs[j']))) ∨ (u = ka ∧ (z = (L.t kb).bs[j'] ∨ (z ∈ (L.t ka).bs ∧ z ≠ (L.t ka).bs[i']))) ∨ (u ≠ ka ∧ u ≠ kb ∧ z ∈ (L.t u).bs) := fun u z hz => by
              rw [bs_] at hz
              split at hz
              · rename_i e
                exact .inl ⟨e, set_mem (hb1 kb hkb) hj hz⟩
              · rename_i e
                split at hz
                · rename_i e2
                  exact .inr (.inl ⟨e2, set_mem (hb1 ka hka) hi hz⟩)
                · rename_i e2
                  exact .inr (.inr ⟨e2, e, hz⟩)
            have inn : ∀ u, u < 4 → ∀ z ∈ (L.t u).bs, 2 ≤ z ∧ z < n := fun u hu z hz => by
              by_cases hth : (L.t u).th = true
              · exact ((ht u hu).1 hth).2.2.2.2.2 z hz
              · rw [((ht u hu).2 (by simpa using hth)).2.2.2] at hz
                simp at hz
            refine right_iff.2 ⟨?_, he0, fun u hu => ?_, ⟨fun u hu => ?_, fun u v huv hv z hz hz2 => ?_⟩, fun u v huv hv hut hvt => ?_⟩
            · show 0 ≤ inc L.gen ∧ inc L.gen ≤ _
              rw [i1]; exact ⟨i2, i3⟩
            · obtain ⟨e1, e2, e3, e4⟩ := th_ u
              unfold tenOk
              rw [e1, e2, e3, e4, len_ u]
              refine ⟨fun hth => ?_, fun hth => ?_⟩
              · obtain ⟨q1, q2, q3, q4, q5, q6⟩ := (ht u hu).1 hth
                refine ⟨q1, q2, q3, q4, q5, fun z hz => ?_⟩
                rcases mem_ u z hz with ⟨rfl, rfl | ⟨hz, _⟩⟩ | ⟨rfl, rfl | ⟨hz, _⟩⟩ | ⟨_, _, hz⟩
                · exact inn ka hka _ xm
                · exact q6 z hz
                · exact inn kb hkb _ ym
                · exact q6 z hz
                · exact q6 z hz
              · obtain ⟨q1, q2, q3, q4⟩ := (ht u hu).2 hth
                exact ⟨q1, q2, q3, List.length_eq_zero_iff.1 (by rw [len_ u, q4]; rfl)⟩
            · rw [bs_]
              split
              · exact set_nodup (hb1 kb hkb) (fun hh => sym ka kb hne hka hkb _ xm hh)
              · split
                · exact set_nodup (hb1 ka hka) (fun hh => sym kb ka (Ne.symm hne) hkb hka _ ym hh)
                · exact hb1 u hu
            · have hu : u < 4 := by omega
              rcases mem_ u z hz with ⟨rfl, h1⟩ | ⟨rfl, h1⟩ | ⟨n1, n2, h1⟩ <;> rcases mem_ v z hz2 with ⟨rfl, h2⟩ | ⟨rfl, h2⟩ | ⟨m1, m2, h2⟩
              · omega
              · rcases h1 with rfl | ⟨h1, h1n⟩ <;> rcases h2 with h2 | ⟨h2, h2n⟩
                · exact sym _ _ hne hka hkb _ xm (by rw [h2]; exact ym)
                · exact h2n rfl
                · exact h1n h2
                · exact sym _ _ hne hka hkb _ h2 h1
              · rcases h1 with rfl | ⟨h1, _⟩
                · exact sym ka v (Ne.symm m1) hka hv _ xm h2
                · exact sym _ v (Ne.symm m2) hu hv _ h1 h2
              · rcases h1 with rfl | ⟨h1, h1n⟩ <;> rcases h2 with h2 | ⟨h2, h2n⟩
                · exact sym _ _ hne hka hkb _ xm (by rw [← h2]; exact ym)
                · exact h2n rfl
                · exact h1n h2
                · exact sym _ _ hne hka hkb _ h1 h2
              · omega
              · rcases h1 with rfl | ⟨h1, _⟩
                · exact sym kb v (Ne.symm m2) hkb hv _ ym h2
                · exact sym _ v (Ne.symm m1) hu hv _ h1 h2
              · rcases h2 with rfl | ⟨h2, _⟩
                · exact sym u ka n1 hu hka _ h1 xm
                · exact sym u _ n2 hu hv _ h1 h2
              · rcases h2 with rfl | ⟨h2, _⟩
                · exact sym u kb n2 hu hkb _ h1 ym
                · exact sym u _ n1 hu hv _ h1 h2
              · exact sym u v (by omega) hu hv _ h1 h2
            · rw [(th_ u).1] at hut
              rw [(th_ v).1] at hvt
              rw [(th_ u).2.1, (th_ v).2.1]
              exact hep u v huv hv hut hvt
        · rw [if_neg hp] at hok; simp at hok
    · rw [if_neg hB] at hok
      exact absurd hok hB
  · rw [if_neg hA] at hok
    exact absurd hok hA

end Go.Proofs.Yteionppcjgggiaa
