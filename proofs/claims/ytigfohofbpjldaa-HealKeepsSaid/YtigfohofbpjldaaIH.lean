/-
  Package heal: isBetter; the library's SortFunc of spots; small laws for spotsOf.
-/
import Derived.Test.YtigfohofbpjldaaIF
import Derived.Test.YtigfohofbpjldaaIG
import Derived.Shelf.SlSortCmp.WholeK
namespace Go.Proofs.Ytigfohofbpjldaa
set_option linter.unusedVariables false
set_option linter.unusedSimpArgs false
set_option maxRecDepth 100000
open Go.RowKit Go.Sort

theorem progNewer_any (f g : Fnd) (w : World) : Calls Try.prog 51 #[.agg (tagC17 f), .agg (tagC17 g)] w fun e w' => e = .returned (.bool (newF f g)) ∧ w.grownBy w' none :=
  (newer_any f.te f.ep f.pl f.sq f.kd f.cp g.te g.ep g.pl g.sq g.kd g.cp w).mono fun e w' ⟨h1, h2⟩ => ⟨h1, by subst h2; exact ext_trans (World.grownBy_alloc w _ none) (World.grownBy_alloc _ _ none)⟩

def OrP (xs : List Int) (r : Int) : Prop := (r = 0 ∧ ∀ j, j < xs.length → xs.getD j 0 = 0) ∨ ∃ k, k < xs.length ∧ xs.getD k 0 = r ∧ r ≠ 0 ∧ ∀ j, j < k → xs.getD j 0 = 0
theorem or17_any (v : Value) (xs : List Int) (w : World) (hb : Ints w v xs) (hm : xs.length ≤ 1000) :
    Calls Try.prog 52 #[v] w fun e w' => (∃ r, e = .returned (.int .i64 r) ∧ OrP xs r) ∧ w = w' := by
  obtain ⟨ao, cap, b, off, rfl, hc⟩ := hb.form
  have HC := Lib.hid hc
  clear hc hb
  go_enter Try.func52, Try.ntmps52
  go_wp2
  go_loopw [8] (fun i wr => ∃ k : Nat, k ≤ xs.length ∧ i = .int .i64 k ∧ (∀ j, j < k → xs.getD j 0 = 0) ∧ w = wr) (fun i _ => xs.length - (intOf i).toNat)
  case atStart => exact ⟨0, by omega, rfl, fun j hj => by omega, rfl⟩
  case round =>
    obtain ⟨k, hk, rfl, hnot, rfl⟩ := hrel
    have NOT := Lib.hid hnot
    clear hnot
    by_cases hlt : k < xs.length
    · obtain ⟨rfl, hcell⟩ := HC.out k hlt
      obtain ⟨x, hx⟩ : ∃ x, xs.getD k 0 = x := ⟨_, rfl⟩
      rw [hx] at hcell
      have HX := Lib.hid hx
      clear hx
      by_cases he : x = 0
      · have hne : (x != 0) = false := by simpa using he
        have HE := Lib.hid he
        clear he
        go_wp2
        go_roundw
        case rel =>
          refine ⟨k + 1, by omega, by go_num, fun j hj => ?_, trivial⟩
          by_cases e : j = k
          · subst e; rw [HX.out]; exact HE.out
          · exact NOT.out j (by omega)
        case measure => simp [intOf]; omega
      · have hne : (x != 0) = true := by simpa using he
        have HE := Lib.hid he
        clear he
        go_wp2
        go_ret
        exact ⟨⟨x, rfl, .inr ⟨k, hlt, HX.out, HE.out, NOT.out⟩⟩, rfl⟩
    · obtain rfl : k = xs.length := by omega
      go_wp2
      go_ret
      exact ⟨⟨0, rfl, .inl ⟨rfl, NOT.out⟩⟩, rfl⟩
theorem or17_two (x y r : Int) (h : OrP [x, y] r) : r = if x = 0 then y else x := by
  rcases h with ⟨rfl, h⟩ | ⟨k, hk, h1, h2, h3⟩
  · have e0 := h 0 (by simp)
    have e1 := h 1 (by simp)
    simp at e0 e1
    rw [e0, e1]; rfl
  · match k, hk with
    | 0, _ => simp at h1; subst h1; rw [if_neg h2]
    | 1, _ => have e0 := h3 0 (by omega); simp at e0 h1; rw [if_pos e0, h1]

/-- What is read of two pages. -/
def BetR (g h : Nat) (x0 y0 x1 y1 : Int) (w : World) : Prop := w.cell? ⟨g, 0, none⟩ = some (.int .i64 x0) ∧ w.cell? ⟨h, 0, none⟩ = some (.int .i64 y0) ∧ w.cell? ⟨g, 1, none⟩ = some (.int .i64 x1) ∧ w.cell? ⟨h, 1, none⟩ = some (.int .i64 y1)
theorem low_is (f g : Fnd) (r : Int) (h : r = if cmpI f.bk g.bk = 0 then cmpI f.pg g.pg else cmpI f.bk g.bk) : decide (r < 0) = lowF f g := by
  subst h
  unfold lowF cmpI
  by_cases h1 : f.bk < g.bk
  · rw [if_pos h1, if_neg (by omega), decide_eq_true h1]; rfl
  · by_cases h2 : g.bk < f.bk
    · rw [if_neg h1, if_pos h2, if_neg (by omega), decide_eq_false h1]
      have : (f.bk == g.bk) = false := by simp; omega
      rw [this]; rfl
    · rw [if_neg h1, if_neg h2, if_pos rfl, decide_eq_false h1]
      have : (f.bk == g.bk) = true := by simp; omega
      rw [this, Bool.true_and, Bool.false_or]
      by_cases h3 : f.pg < g.pg
      · rw [if_pos h3, decide_eq_true h3]; rfl
      · rw [if_neg h3, decide_eq_false h3]
        split
        · rfl
        · rfl

set_option maxHeartbeats 800000 in
theorem isBetter_any (f g : Fnd) (w : World) : Calls Try.prog 41 #[.agg (fndC f), .agg (fndC g)] w fun e w' => e = .returned (.bool (betF f g)) ∧ w.grownBy w' none := by
  have hE := World.grownBy_alloc w (.cells (fndC f) 36) none
  have hE2 := World.grownBy_alloc (w.alloc (.cells (fndC f) 36)) (.cells (fndC g) 36) none
  have hbf := (Blk.new w 36 (fndC f)).ext hE2
  have hbg := Blk.new (w.alloc (.cells (fndC f) 36)) 36 (fndC g)
  rw [show (w.alloc (.cells (fndC f) 36)).heap.size = w.heap.size + 1 by simp] at hbg
  have HE := Lib.hid (ext_trans hE hE2)
  obtain ⟨w1, hw1⟩ : ∃ v, (w.alloc (.cells (fndC f) 36)).alloc (.cells (fndC g) 36) = v := ⟨_, rfl⟩
  rw [hw1] at hbf hbg HE
  obtain ⟨r1, hr1⟩ : ∃ z, w.heap.size = z := ⟨_, rfl⟩
  rw [hr1] at hbf hbg
  have HBF := Lib.hid hbf
  have HBG := Lib.hid hbg
  have N1 := fun wx => progNewer_any f g wx
  have N2 := fun wx => progNewer_any g f wx
  obtain ⟨n1, hn1⟩ : ∃ z, newF f g = z := ⟨_, rfl⟩
  obtain ⟨n2, hn2⟩ : ∃ z, newF g f = z := ⟨_, rfl⟩
  obtain ⟨lw, hlw⟩ : ∃ z, lowF f g = z := ⟨_, rfl⟩
  have HW := Lib.hid (show betF f g = (n1 || (!n2 && lw)) by unfold betF; rw [hn1, hn2, hlw])
  obtain ⟨z, hz⟩ : ∃ z, betF f g = z := ⟨_, rfl⟩
  rw [hz] at HW ⊢
  rw [hn1] at N1
  rw [hn2] at N2
  have HLW := Lib.hid hlw
  clear hE hE2 hn1 hn2 hlw hz
  cases n1
  · cases n2
    · go_enter Try.func41, Try.ntmps41
      go_upto_region 1 with fail
      clear hw1
      go_upto_region 3 with (first
        | (refine tag_load17 rfl _ rfl rfl hbf ?_)
        | (refine tag_load17 rfl _ rfl rfl hbg ?_)
        | (go_at_call 51; refine (N1 _).mono ?_; rintro e w2 ⟨rfl, hE2⟩; have HA := Lib.hid hE2; have hbf := HBF.out.ext hE2; have hbg := HBG.out.ext hE2; clear hE2))
      go_upto_region 5 with (first
        | (refine tag_load17 rfl _ rfl rfl hbf ?_)
        | (refine tag_load17 rfl _ rfl rfl hbg ?_)
        | (go_at_call 51; refine (N2 _).mono ?_; rintro e w3 ⟨rfl, hE3⟩; have HA := Lib.hid (ext_trans HA.out hE3); have hbf := HBF.out.ext HA.out; have hbg := HBG.out.ext HA.out; clear hE3))
      clear hbf hbg
      have c1 := (FCells.of (HBF.out.ext HA.out)).bk
      have c2 := (FCells.of (HBG.out.ext HA.out)).bk
      have c3 := (FCells.of (HBF.out.ext HA.out)).pg
      have c4 := (FCells.of (HBG.out.ext HA.out)).pg
      obtain ⟨x0, hx0⟩ : ∃ z, f.bk = z := ⟨_, rfl⟩
      obtain ⟨y0, hy0⟩ : ∃ z, g.bk = z := ⟨_, rfl⟩
      obtain ⟨x1, hx1⟩ : ∃ z, f.pg = z := ⟨_, rfl⟩
      obtain ⟨y1, hy1⟩ : ∃ z, g.pg = z := ⟨_, rfl⟩
      obtain ⟨q1, hq1⟩ : ∃ z, cmpI x0 y0 = z := ⟨_, rfl⟩
      obtain ⟨q2, hq2⟩ : ∃ z, cmpI x1 y1 = z := ⟨_, rfl⟩
      have C1 := fun wx => compare17_any x0 y0 wx
      have C2 := fun wx => compare17_any x1 y1 wx
      rw [hq1] at C1
      rw [hq2] at C2
      have HQ := Lib.hid (show ∀ r, r = (if q1 = 0 then q2 else q1) → decide (r < 0) = lw from fun r hr => by rw [← HLW.out]; exact low_is f g r (by rw [hx0, hy0, hx1, hy1, hq1, hq2]; exact hr))
      have hS : BetR r1 (r1 + 1) x0 y0 x1 y1 w3.drew := ⟨by rw [← hx0]; exact c1, by rw [← hy0]; exact c2, by rw [← hx1]; exact c3, by rw [← hy1]; exact c4⟩
      clear c1 c2 c3 c4 hx0 hy0 hx1 hy1 hq1 hq2
      refine region_line [(0, true), (1, true), (2, true), (3, true), (5, true), (6, true), (7, true), (8, true), (4, false), (9, false), (10, false), (11, false), (12, true), (13, true)] (BetR r1 (r1 + 1) x0 y0 x1 y1) (by kernel_rfl) (by kernel_rfl) (fun _ _ _ d _ h => by cases d <;> exact h) hS ?_
      iterate 8 (refine line_read (a' := ?_) rfl (by kernel_rfl) (by kernel_rfl) hS (fun z0 hx K hK => ?_) ?_; rotate_left; · (obtain ⟨d1, d2, d3, d4⟩ := hx; go_wp2; exact hK))
      refine line_act (by rfl) (fun K hK => ?_)
      go_wp2_with (go_at_call 44; refine (C1 _).mono ?_; rintro e w4 ⟨rfl, rfl⟩)
      refine hK _ _ (BetR r1 (r1 + 1) x0 y0 x1 y1) hS (fun x hx => hx) ?_
      clear hK K C1
      refine line_act (by rfl) (fun K hK => ?_)
      go_wp2_with (go_at_call 44; refine (C2 _).mono ?_; rintro e w4 ⟨rfl, rfl⟩)
      refine hK _ _ (BetR r1 (r1 + 1) x0 y0 x1 y1) hS (fun x hx => hx) ?_
      clear hK K C2
      refine line_act (by rfl) (fun K hK => ?_)
      go_wp2
      have hA := World.grownBy_alloc w3.drew (.cells #[.int .i64 q1, .int .i64 q2] 3) none
      have hS4 : BetR r1 (r1 + 1) x0 y0 x1 y1 (w3.drew.alloc (.cells #[.int .i64 q1, .int .i64 q2] 3)) := ⟨hA.cell hS.1 (by simp), hA.cell hS.2.1 (by simp), hA.cell hS.2.2.1 (by simp), hA.cell hS.2.2.2 (by simp)⟩
      refine hK _ _ (BetR r1 (r1 + 1) x0 y0 x1 y1) hS4 (fun x hx => hx) ?_
      clear hK K hS
      have OR := or17_any (.slice (some ⟨w3.drew.heap.size, 0, none⟩) 2 2) [q1, q2] (w3.drew.alloc (.cells #[.int .i64 q1, .int .i64 q2] 3)) (Ints.cells (xs := [q1, q2]) (by simp) (fun i hi => by
        have hb := (Blk.new w3.drew 3 #[.int .i64 q1, .int .i64 q2]).cell i
        rw [Nat.zero_add, hb]
        match i, hi with
        | 0, _ => rfl
        | 1, _ => rfl)) (by simp)
      have HFIN := Lib.hid (ext_trans (ext_trans (ext_trans HE.out HA.out) (Ext.drew w3)) hA)
      clear hA
      refine line_act (by rfl) (fun K hK => ?_)
      go_wp2_with (go_at_call 52; refine OR.mono ?_; rintro e w5 ⟨⟨r, rfl, hr⟩, rfl⟩; have HR := Lib.hid (HQ.out r (or17_two q1 q2 r hr)); clear hr)
      refine hK _ _ (BetR r1 (r1 + 1) x0 y0 x1 y1) hS4 (fun x hx => hx) ?_
      clear hK K OR
      iterate 2 (refine line_read (a' := ?_) rfl (by kernel_rfl) (by kernel_rfl) hS4 (fun z0 hx K hK => ?_) ?_; rotate_left; · (obtain ⟨d1, d2, d3, d4⟩ := hx; go_wp2; exact hK))
      refine line_end ?_
      clear hS4
      go_wp2
      go_ret
      exact ⟨by rw [HW.out, HR.out]; simp, HFIN.out⟩
    · go_enter Try.func41, Try.ntmps41
      go_upto_region 1 with fail
      clear hw1
      go_upto_region 3 with (first
        | (refine tag_load17 rfl _ rfl rfl hbf ?_)
        | (refine tag_load17 rfl _ rfl rfl hbg ?_)
        | (go_at_call 51; refine (N1 _).mono ?_; rintro e w2 ⟨rfl, hE2⟩; have HA := Lib.hid hE2; have hbf := HBF.out.ext hE2; have hbg := HBG.out.ext hE2; clear hE2))
      go_wp2_with (first
        | (refine tag_load17 rfl _ rfl rfl hbf ?_)
        | (refine tag_load17 rfl _ rfl rfl hbg ?_)
        | (go_at_call 51; refine (N2 _).mono ?_; rintro e w3 ⟨rfl, hE3⟩; have HA := Lib.hid (ext_trans HA.out hE3); clear hE3))
      go_ret
      exact ⟨by rw [HW.out]; simp, ext_trans HE.out HA.out⟩
  · go_enter Try.func41, Try.ntmps41
    go_upto_region 1 with fail
    clear hw1
    go_wp2_with (first
      | (refine tag_load17 rfl _ rfl rfl hbf ?_)
      | (refine tag_load17 rfl _ rfl rfl hbg ?_)
      | (go_at_call 51; refine (N1 _).mono ?_; rintro e w2 ⟨rfl, hE2⟩; have HA := Lib.hid hE2; clear hE2))
    go_ret
    exact ⟨by rw [HW.out]; simp, ext_trans HE.out HA.out⟩

end Go.Proofs.Ytigfohofbpjldaa
