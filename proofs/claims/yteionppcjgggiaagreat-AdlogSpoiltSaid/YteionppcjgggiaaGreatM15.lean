/-
  Texts put together: EY.
-/
import Derived.Test.YteionppcjgggiaaGreatM05
/-
  The document's Right walked.
-/
namespace Go.Proofs.YteionppcjgggiaaGreat
set_option linter.unusedVariables false
set_option linter.unusedSimpArgs false
set_option maxRecDepth 100000
open Go.RowKit

set_option maxRecDepth 100000 in
set_option maxHeartbeats 6400000 in
theorem right10_any (L : Led) (V : Nat → Value) (n p : Int) (w : World) (hL : LedIs w L V) (hG : GoodL L) :
    Calls Tryz.prog 17 #[.agg (ledC L V), .int .i64 n, .int .i64 p] w (RightEnd L n p w) := by
  have hb := Blk.new w 36 (ledC L V)
  have hE0 := World.grownBy_alloc w (.cells (ledC L V) 36) none
  obtain ⟨w1, hw1⟩ : ∃ v, w.alloc (.cells (ledC L V) 36) = v := ⟨_, rfl⟩
  rw [hw1] at hb hE0
  have HL := Lib.hid (hL.ext hE0)
  have HB := Lib.hid hb
  have HE0 := Lib.hid hE0
  have HGO := Lib.hid hG
  have cg := (hb.cell 0).trans (led_gen L V)
  have ce := (hb.cell 1).trans (led_eps L V)
  obtain ⟨g, hg⟩ : ∃ g, L.gen = g := ⟨_, rfl⟩
  obtain ⟨m, hm⟩ : ∃ m, L.eps = m := ⟨_, rfl⟩
  rw [hg] at cg
  rw [hm] at ce
  have HGEN := Lib.hid hg
  have HEPS := Lib.hid hm
  have hb1 := hb
  clear hL hE0 hG hg hm hb
  by_cases g0 : g < 0
  · go_enter Tryz.func17, Tryz.ntmps17
    go_wp2
    go_ret
    exact rightEnd_no (fun hR => by have := hR.gen; rw [HGEN.out] at this; omega) HE0.out
  by_cases g1 : 2147483647 < g
  · go_enter Tryz.func17, Tryz.ntmps17
    go_wp2
    go_ret
    exact rightEnd_no (fun hR => by have := hR.gen; rw [HGEN.out] at this; omega) HE0.out
  by_cases m0 : m < 0
  · go_enter Tryz.func17, Tryz.ntmps17
    go_wp2
    go_ret
    exact rightEnd_no (fun hR => by have := hR.eps; rw [HEPS.out] at this; omega) HE0.out
  by_cases m1 : 2147483647 < m
  · go_enter Tryz.func17, Tryz.ntmps17
    go_wp2
    go_ret
    exact rightEnd_no (fun hR => by have := hR.eps; rw [HEPS.out] at this; omega) HE0.out
  have HGB := Lib.hid (show (0 ≤ L.gen ∧ L.gen ≤ 2147483647) ∧ (0 ≤ L.eps ∧ L.eps ≤ 2147483647) by rw [HGEN.out, HEPS.out]; omega)
  go_enter Tryz.func17, Tryz.ntmps17
  go_wp2_with (refine tens_load _ rfl rfl hb1 rfl ?_)
  clear hw1 hb1 cg ce g0 g1 m0 m1
  go_loopw [7, 8, 34] (fun x y i wr => ∃ (k : Nat) (v7 v8 : Value), k ≤ 4 ∧ v7 = x ∧ v8 = y ∧ i = .int .i64 k ∧ Rows2 w1.heap.size wr v7 v8 (takenTo L k) (epochsTo L k) ∧ Upto L n p k ∧ Ext w1 wr) (fun _ _ i _ => 4 - (intOf i).toNat)
  case atStart => exact ⟨0, _, _, by omega, rfl, rfl, rfl, rows2_nil w1, Upto.zero L n p, Ext.refl w1⟩
  case round =>
    obtain ⟨k, v7, v8, hk, hv7, hv8, rfl, hR, hU, hE1⟩ := hrel
    subst hv7 hv8
    have HR := Lib.hid hR
    have HU := Lib.hid hU
    have HE1 := Lib.hid hE1
    clear hR hU hE1
    obtain ⟨wo, rfl⟩ : ∃ wo : World, wo = wr := ⟨_, rfl⟩
    by_cases hlt : k < 4
    · have hix := tens_at L V hlt
      have hI := HL.out k hlt
      have hS := hI.slice
      obtain ⟨ao, cp, bb, oo, hvx, hc⟩ := hI.form
      have hlen := HGO.out.len k hlt
      have HLEN := Lib.hid (epochsTo_len L k)
      have HTL := Lib.hid (takenTo_len HGO.out.len k (by omega))
      obtain ⟨es, hes⟩ : ∃ es, epochsTo L k = es := ⟨_, rfl⟩
      rw [hes] at HR HLEN
      have HES := Lib.hid hes
      have H8 := fun w2 (h : Ext wo w2) (y : Int) => has10_any v8 es y w2 (owns_ints rfl (HR.out.ext h).own8) (by have := HLEN.out; omega)
      obtain ⟨x, hx⟩ : ∃ x, L.t k = x := ⟨_, rfl⟩
      obtain ⟨vx, hvx2⟩ : ∃ v, V k = v := ⟨_, rfl⟩
      rw [hx, hvx2] at hix
      rw [hvx2] at hS
      rw [hx, hvx2] at hvx
      rw [hx] at hc hlen
      have HX := Lib.hid hx
      have HVX := Lib.hid hvx
      have HC := Lib.hid hc
      have hBn := Blk.new wo 33 zeroTC
      clear hI hx hvx hvx2 hc hes
      obtain ⟨xt, xe, xs, xp, xb⟩ := x
      obtain ⟨nx, hnx⟩ : ∃ n, xb.length = n := ⟨_, rfl⟩
      simp only [] at HVX HC hlen
      rw [hnx] at HVX hlen
      have HNX := Lib.hid hnx
      have HLEN0 := Lib.hid hlen
      clear hnx
      have NT : ¬ tenOk (⟨xt, xe, xs, xp, xb⟩ : Ten) L.eps n p → ¬ RightP L n p := fun h => no_ten hlt (by rw [HX.out]; exact h)
      have NT := Lib.hid NT
      cases xt
      · by_cases e0 : xe = 0
        · subst e0
          by_cases s0 : xs = 0
          · subst s0
            by_cases p0 : xp = 0
            · subst p0
              by_cases n0 : nx = 0
              · subst n0
                obtain rfl : xb = [] := List.length_eq_zero_iff.1 HNX.out
                go_wp2_with (first
                  | (refine ten_store _ _ rfl rfl rfl hBn rfl hS rfl ?_; intro w6 hb6 hg6 hs6; clear hBn hs6; have x0 := (hb6.cell 0).trans (ten_th _ _); have x1 := (hb6.cell 1).trans (ten_ep _ _); have x2 := (hb6.cell 2).trans (ten_sz _ _); have x3 := (hb6.cell 3).trans (ten_sp _ _); have x4 := (hb6.cell 4).trans (ten_bs _ _); dsimp only at x0 x1 x2 x3; rw [HVX.out] at x4; have HG6 := Lib.hid (grown_trans (World.grownBy_alloc wo (.cells zeroTC 33) none) hg6 (fun p hp hlt => by injection hp with hp; omega)); have x5 := ((HB.out.ext (ext_trans HE1.out HG6.out)).cell 1).trans (led_eps L V); rw [HEPS.out] at x5; clear hg6 hb6)
                  | (refine wpList_pass rfl ?_ ?_; (simp only [Act.put, List.setIfInBounds_toArray, List.set_cons_succ, List.set_cons_zero]; rfl)))
                go_roundw
                case rel =>
                  obtain ⟨u1, u2, u3⟩ := HU.out.next_no HX.out
                  exact ⟨k + 1, _, _, by omega, rfl, rfl, by go_num, by rw [u2, u3, HES.out]; exact HR.out.ext HG6.out, u1, ext_trans HE1.out HG6.out⟩
                case measure => simp [intOf]; omega
              · have q1 : ((nx : Int) == 0) = false := by simp; omega
                have q2 : ((nx : Int) != 0) = true := by simp; omega
                go_wp2_with (first
                  | (refine ten_store _ _ rfl rfl rfl hBn rfl hS rfl ?_; intro w6 hb6 hg6 hs6; clear hBn hs6; have x0 := (hb6.cell 0).trans (ten_th _ _); have x1 := (hb6.cell 1).trans (ten_ep _ _); have x2 := (hb6.cell 2).trans (ten_sz _ _); have x3 := (hb6.cell 3).trans (ten_sp _ _); have x4 := (hb6.cell 4).trans (ten_bs _ _); dsimp only at x0 x1 x2 x3; rw [HVX.out] at x4; have HG6 := Lib.hid (grown_trans (World.grownBy_alloc wo (.cells zeroTC 33) none) hg6 (fun p hp hlt => by injection hp with hp; omega)); have x5 := ((HB.out.ext (ext_trans HE1.out HG6.out)).cell 1).trans (led_eps L V); rw [HEPS.out] at x5; clear hg6 hb6)
                  | (refine wpList_pass rfl ?_ ?_; (simp only [Act.put, List.setIfInBounds_toArray, List.set_cons_succ, List.set_cons_zero]; rfl)))
                go_ret
                exact rightEnd_no (NT.out (fun h => by have := h.2 rfl; have h4 := this.2.2.2; simp only [] at h4; subst h4; exact n0 (by have := HNX.out; simpa using this.symm))) (ext_trans HE0.out (ext_trans HE1.out HG6.out))
            · have q1 : (xp == 0) = false := by simpa using p0
              have q2 : (xp != 0) = true := by simpa using p0
              go_wp2_with (first
                | (refine ten_store _ _ rfl rfl rfl hBn rfl hS rfl ?_; intro w6 hb6 hg6 hs6; clear hBn hs6; have x0 := (hb6.cell 0).trans (ten_th _ _); have x1 := (hb6.cell 1).trans (ten_ep _ _); have x2 := (hb6.cell 2).trans (ten_sz _ _); have x3 := (hb6.cell 3).trans (ten_sp _ _); have x4 := (hb6.cell 4).trans (ten_bs _ _); dsimp only at x0 x1 x2 x3; rw [HVX.out] at x4; have HG6 := Lib.hid (grown_trans (World.grownBy_alloc wo (.cells zeroTC 33) none) hg6 (fun p hp hlt => by injection hp with hp; omega)); have x5 := ((HB.out.ext (ext_trans HE1.out HG6.out)).cell 1).trans (led_eps L V); rw [HEPS.out] at x5; clear hg6 hb6)
                | (refine wpList_pass rfl ?_ ?_; (simp only [Act.put, List.setIfInBounds_toArray, List.set_cons_succ, List.set_cons_zero]; rfl)))
              go_ret
              exact rightEnd_no (NT.out (fun h => by have := h.2 rfl; exact p0 this.2.2.1)) (ext_trans HE0.out (ext_trans HE1.out HG6.out))
          · have q1 : (xs == 0) = false := by simpa using s0
            have q2 : (xs != 0) = true := by simpa using s0
            go_wp2_with (first
              | (refine ten_store _ _ rfl rfl rfl hBn rfl hS rfl ?_; intro w6 hb6 hg6 hs6; clear hBn hs6; have x0 := (hb6.cell 0).trans (ten_th _ _); have x1 := (hb6.cell 1).trans (ten_ep _ _); have x2 := (hb6.cell 2).trans (ten_sz _ _); have x3 := (hb6.cell 3).trans (ten_sp _ _); have x4 := (hb6.cell 4).trans (ten_bs _ _); dsimp only at x0 x1 x2 x3; rw [HVX.out] at x4; have HG6 := Lib.hid (grown_trans (World.grownBy_alloc wo (.cells zeroTC 33) none) hg6 (fun p hp hlt => by injection hp with hp; omega)); have x5 := ((HB.out.ext (ext_trans HE1.out HG6.out)).cell 1).trans (led_eps L V); rw [HEPS.out] at x5; clear hg6 hb6)
              | (refine wpList_pass rfl ?_ ?_; (simp only [Act.put, List.setIfInBounds_toArray, List.set_cons_succ, List.set_cons_zero]; rfl)))
            go_ret
            exact rightEnd_no (NT.out (fun h => by have := h.2 rfl; exact s0 this.2.1)) (ext_trans HE0.out (ext_trans HE1.out HG6.out))
        · have q1 : (xe == 0) = false := by simpa using e0
          have q2 : (xe != 0) = true := by simpa using e0
          go_wp2_with (first
            | (refine ten_store _ _ rfl rfl rfl hBn rfl hS rfl ?_; intro w6 hb6 hg6 hs6; clear hBn hs6; have x0 := (hb6.cell 0).trans (ten_th _ _); have x1 := (hb6.cell 1).trans (ten_ep _ _); have x2 := (hb6.cell 2).trans (ten_sz _ _); have x3 := (hb6.cell 3).trans (ten_sp _ _); have x4 := (hb6.cell 4).trans (ten_bs _ _); dsimp only at x0 x1 x2 x3; rw [HVX.out] at x4; have HG6 := Lib.hid (grown_trans (World.grownBy_alloc wo (.cells zeroTC 33) none) hg6 (fun p hp hlt => by injection hp with hp; omega)); have x5 := ((HB.out.ext (ext_trans HE1.out HG6.out)).cell 1).trans (led_eps L V); rw [HEPS.out] at x5; clear hg6 hb6)
            | (refine wpList_pass rfl ?_ ?_; (simp only [Act.put, List.setIfInBounds_toArray, List.set_cons_succ, List.set_cons_zero]; rfl)))
          go_ret
          exact rightEnd_no (NT.out (fun h => by have := h.2 rfl; exact e0 this.1)) (ext_trans HE0.out (ext_trans HE1.out HG6.out))
      · by_cases e0 : xe < 1
        · go_wp2_with (first
            | (refine ten_store _ _ rfl rfl rfl hBn rfl hS rfl ?_; intro w6 hb6 hg6 hs6; clear hBn hs6; have x0 := (hb6.cell 0).trans (ten_th _ _); have x1 := (hb6.cell 1).trans (ten_ep _ _); have x2 := (hb6.cell 2).trans (ten_sz _ _); have x3 := (hb6.cell 3).trans (ten_sp _ _); have x4 := (hb6.cell 4).trans (ten_bs _ _); dsimp only at x0 x1 x2 x3; rw [HVX.out] at x4; have HG6 := Lib.hid (grown_trans (World.grownBy_alloc wo (.cells zeroTC 33) none) hg6 (fun p hp hlt => by injection hp with hp; omega)); have x5 := ((HB.out.ext (ext_trans HE1.out HG6.out)).cell 1).trans (led_eps L V); rw [HEPS.out] at x5; clear hg6 hb6)
            | (refine wpList_pass rfl ?_ ?_; (simp only [Act.put, List.setIfInBounds_toArray, List.set_cons_succ, List.set_cons_zero]; rfl)))
          go_ret
          exact rightEnd_no (NT.out (fun h => by have := (h.1 rfl).1; simp only [] at this; omega)) (ext_trans HE0.out (ext_trans HE1.out HG6.out))
        by_cases e1 : m < xe
        · go_wp2_with (first
            | (refine ten_store _ _ rfl rfl rfl hBn rfl hS rfl ?_; intro w6 hb6 hg6 hs6; clear hBn hs6; have x0 := (hb6.cell 0).trans (ten_th _ _); have x1 := (hb6.cell 1).trans (ten_ep _ _); have x2 := (hb6.cell 2).trans (ten_sz _ _); have x3 := (hb6.cell 3).trans (ten_sp _ _); have x4 := (hb6.cell 4).trans (ten_bs _ _); dsimp only at x0 x1 x2 x3; rw [HVX.out] at x4; have HG6 := Lib.hid (grown_trans (World.grownBy_alloc wo (.cells zeroTC 33) none) hg6 (fun p hp hlt => by injection hp with hp; omega)); have x5 := ((HB.out.ext (ext_trans HE1.out HG6.out)).cell 1).trans (led_eps L V); rw [HEPS.out] at x5; clear hg6 hb6)
            | (refine wpList_pass rfl ?_ ?_; (simp only [Act.put, List.setIfInBounds_toArray, List.set_cons_succ, List.set_cons_zero]; rfl)))
          go_ret
          exact rightEnd_no (NT.out (fun h => by have := (h.1 rfl).2.1; rw [HEPS.out] at this; simp only [] at this; omega)) (ext_trans HE0.out (ext_trans HE1.out HG6.out))
        by_cases e2 : xe ∈ es
        · replace H8 := fun w2 (h : Ext wo w2) => H8 w2 h xe
          have E2 := Lib.hid e2
          rw [show decide (xe ∈ es) = true by simpa using e2] at H8
          clear e2
          go_wp2_with (first
            | (refine ten_store _ _ rfl rfl rfl hBn rfl hS rfl ?_; intro w6 hb6 hg6 hs6; clear hBn hs6; have x0 := (hb6.cell 0).trans (ten_th _ _); have x1 := (hb6.cell 1).trans (ten_ep _ _); have x2 := (hb6.cell 2).trans (ten_sz _ _); have x3 := (hb6.cell 3).trans (ten_sp _ _); have x4 := (hb6.cell 4).trans (ten_bs _ _); dsimp only at x0 x1 x2 x3; rw [HVX.out] at x4; have HG6 := Lib.hid (grown_trans (World.grownBy_alloc wo (.cells zeroTC 33) none) hg6 (fun p hp hlt => by injection hp with hp; omega)); have x5 := ((HB.out.ext (ext_trans HE1.out HG6.out)).cell 1).trans (led_eps L V); rw [HEPS.out] at x5; clear hg6 hb6)
            | (go_at_call 41; go_loud (refine (H8 _ HG6.out).mono ?_; rintro e w7 ⟨rfl, rfl⟩))
            | (refine wpList_pass rfl ?_ ?_; (simp only [Act.put, List.setIfInBounds_toArray, List.set_cons_succ, List.set_cons_zero]; rfl)))
          go_ret
          exact rightEnd_no (no_ep hlt (by rw [HX.out]) (by rw [HX.out, HES.out]; exact E2.out)) (ext_trans HE0.out (ext_trans HE1.out HG6.out))
        replace H8 := fun w2 (h : Ext wo w2) => H8 w2 h xe
        have E2 := Lib.hid e2
        rw [show decide (xe ∈ es) = false by simpa using e2] at H8
        clear e2
        have T9 := fun w2 => total09_any xs xp p w2
        obtain ⟨need, hneed⟩ : ∃ z, totS xs xp p = z := ⟨_, rfl⟩
        obtain ⟨d0, d1⟩ := totS_bd xs xp p
        rw [hneed] at d0 d1
        have HNEED := Lib.hid hneed
        clear hneed
        by_cases z0 : need = 0
        · subst z0
          go_wp2_with (first
            | (refine ten_store _ _ rfl rfl rfl hBn rfl hS rfl ?_; intro w6 hb6 hg6 hs6; clear hBn hs6; have x0 := (hb6.cell 0).trans (ten_th _ _); have x1 := (hb6.cell 1).trans (ten_ep _ _); have x2 := (hb6.cell 2).trans (ten_sz _ _); have x3 := (hb6.cell 3).trans (ten_sp _ _); have x4 := (hb6.cell 4).trans (ten_bs _ _); dsimp only at x0 x1 x2 x3; rw [HVX.out] at x4; have HG6 := Lib.hid (grown_trans (World.grownBy_alloc wo (.cells zeroTC 33) none) hg6 (fun p hp hlt => by injection hp with hp; omega)); have x5 := ((HB.out.ext (ext_trans HE1.out HG6.out)).cell 1).trans (led_eps L V); rw [HEPS.out] at x5; clear hg6 hb6)
            | (go_at_call 41; go_loud (refine (H8 _ HG6.out).mono ?_; rintro e w7 ⟨rfl, rfl⟩))
            | (at_builtin; go_loud (refine append_ints rfl _ _ rfl w1.heap.size v8 es rfl (HR.out.ext (ext_trans HG6.out (World.grownBy_alloc w6 (.cells #[.int .i64 xe] 3) none))).own8 (.slice (some ⟨w6.heap.size, 0, none⟩) 1 1) [xe] rfl (ints_one w6 xe 3) ?_ ?_ ?_); (have hq := HLEN.out; simp only [List.length_cons, List.length_nil]; omega); (have hq := HE1.out.size; have hq2 := HG6.out.size; simp; omega); intro v9 w9 ho9 hg9 hw9; have HR9 := Lib.hid ((HR.out.ext (ext_trans HG6.out (World.grownBy_alloc w6 (.cells #[.int .i64 xe] 3) none))).put8 ho9 hg9 hw9); have HE9 := Lib.hid (ext_own (ext_trans HE1.out (ext_trans HG6.out (World.grownBy_alloc w6 (.cells #[.int .i64 xe] 3) none))) (HR.out.ext (ext_trans HG6.out (World.grownBy_alloc w6 (.cells #[.int .i64 xe] 3) none))).own8 (Nat.le_refl _) hg9); have z2 : w9.cell? ⟨wo.heap.size, 2, none⟩ = some (.int .i64 xs) := hg9.cell ((World.grownBy_alloc w6 (.cells #[.int .i64 xe] 3) none).cell x2 (by simp)) (fun e => absurd (own_lt HR.out.own8 _ e.symm).2 (Nat.lt_irrefl _)); have z3 : w9.cell? ⟨wo.heap.size, 3, none⟩ = some (.int .i64 xp) := hg9.cell ((World.grownBy_alloc w6 (.cells #[.int .i64 xe] 3) none).cell x3 (by simp)) (fun e => absurd (own_lt HR.out.own8 _ e.symm).2 (Nat.lt_irrefl _)); have z4 := hg9.cell ((World.grownBy_alloc w6 (.cells #[.int .i64 xe] 3) none).cell x4 (by simp)) (fun e => absurd (own_lt HR.out.own8 _ e.symm).2 (Nat.lt_irrefl _)); clear ho9 hg9 hw9 x0 x1 x2 x3 x4 x5)
            | (go_at_call 42; refine (T9 _).mono ?_; rintro e w10 ⟨rfl, rfl⟩; rw [HNEED.out])
            | (refine wpList_pass rfl ?_ ?_; (simp only [Act.put, List.setIfInBounds_toArray, List.set_cons_succ, List.set_cons_zero]; rfl)))
          go_ret
          exact rightEnd_no (NT.out (fun h => absurd HNEED.out (h.1 rfl).2.2.1)) (ext_trans HE0.out HE9.out)
        have z1 : (need == 0) = false := by simpa using z0
        by_cases z2 : (nx : Int) < need
        · go_wp2_with (first
            | (refine ten_store _ _ rfl rfl rfl hBn rfl hS rfl ?_; intro w6 hb6 hg6 hs6; clear hBn hs6; have x0 := (hb6.cell 0).trans (ten_th _ _); have x1 := (hb6.cell 1).trans (ten_ep _ _); have x2 := (hb6.cell 2).trans (ten_sz _ _); have x3 := (hb6.cell 3).trans (ten_sp _ _); have x4 := (hb6.cell 4).trans (ten_bs _ _); dsimp only at x0 x1 x2 x3; rw [HVX.out] at x4; have HG6 := Lib.hid (grown_trans (World.grownBy_alloc wo (.cells zeroTC 33) none) hg6 (fun p hp hlt => by injection hp with hp; omega)); have x5 := ((HB.out.ext (ext_trans HE1.out HG6.out)).cell 1).trans (led_eps L V); rw [HEPS.out] at x5; clear hg6 hb6)
            | (go_at_call 41; go_loud (refine (H8 _ HG6.out).mono ?_; rintro e w7 ⟨rfl, rfl⟩))
            | (at_builtin; go_loud (refine append_ints rfl _ _ rfl w1.heap.size v8 es rfl (HR.out.ext (ext_trans HG6.out (World.grownBy_alloc w6 (.cells #[.int .i64 xe] 3) none))).own8 (.slice (some ⟨w6.heap.size, 0, none⟩) 1 1) [xe] rfl (ints_one w6 xe 3) ?_ ?_ ?_); (have hq := HLEN.out; simp only [List.length_cons, List.length_nil]; omega); (have hq := HE1.out.size; have hq2 := HG6.out.size; simp; omega); intro v9 w9 ho9 hg9 hw9; have HR9 := Lib.hid ((HR.out.ext (ext_trans HG6.out (World.grownBy_alloc w6 (.cells #[.int .i64 xe] 3) none))).put8 ho9 hg9 hw9); have HE9 := Lib.hid (ext_own (ext_trans HE1.out (ext_trans HG6.out (World.grownBy_alloc w6 (.cells #[.int .i64 xe] 3) none))) (HR.out.ext (ext_trans HG6.out (World.grownBy_alloc w6 (.cells #[.int .i64 xe] 3) none))).own8 (Nat.le_refl _) hg9); have z2 : w9.cell? ⟨wo.heap.size, 2, none⟩ = some (.int .i64 xs) := hg9.cell ((World.grownBy_alloc w6 (.cells #[.int .i64 xe] 3) none).cell x2 (by simp)) (fun e => absurd (own_lt HR.out.own8 _ e.symm).2 (Nat.lt_irrefl _)); have z3 : w9.cell? ⟨wo.heap.size, 3, none⟩ = some (.int .i64 xp) := hg9.cell ((World.grownBy_alloc w6 (.cells #[.int .i64 xe] 3) none).cell x3 (by simp)) (fun e => absurd (own_lt HR.out.own8 _ e.symm).2 (Nat.lt_irrefl _)); have z4 := hg9.cell ((World.grownBy_alloc w6 (.cells #[.int .i64 xe] 3) none).cell x4 (by simp)) (fun e => absurd (own_lt HR.out.own8 _ e.symm).2 (Nat.lt_irrefl _)); clear ho9 hg9 hw9 x0 x1 x2 x3 x4 x5)
            | (go_at_call 42; refine (T9 _).mono ?_; rintro e w10 ⟨rfl, rfl⟩; rw [HNEED.out])
            | (refine wpList_pass rfl ?_ ?_; (simp only [Act.put, List.setIfInBounds_toArray, List.set_cons_succ, List.set_cons_zero]; rfl)))
          go_ret
          exact rightEnd_no (NT.out (fun h => by have := (h.1 rfl).2.2.2.1; simp only [] at this; rw [HNEED.out, HNX.out] at this; omega)) (ext_trans HE0.out HE9.out)
        by_cases z3 : wrap64 (n - 2) < (nx : Int)
        · go_wp2_with (first
            | (refine ten_store _ _ rfl rfl rfl hBn rfl hS rfl ?_; intro w6 hb6 hg6 hs6; clear hBn hs6; have x0 := (hb6.cell 0).trans (ten_th _ _); have x1 := (hb6.cell 1).trans (ten_ep _ _); have x2 := (hb6.cell 2).trans (ten_sz _ _); have x3 := (hb6.cell 3).trans (ten_sp _ _); have x4 := (hb6.cell 4).trans (ten_bs _ _); dsimp only at x0 x1 x2 x3; rw [HVX.out] at x4; have HG6 := Lib.hid (grown_trans (World.grownBy_alloc wo (.cells zeroTC 33) none) hg6 (fun p hp hlt => by injection hp with hp; omega)); have x5 := ((HB.out.ext (ext_trans HE1.out HG6.out)).cell 1).trans (led_eps L V); rw [HEPS.out] at x5; clear hg6 hb6)
            | (go_at_call 41; go_loud (refine (H8 _ HG6.out).mono ?_; rintro e w7 ⟨rfl, rfl⟩))
            | (at_builtin; go_loud (refine append_ints rfl _ _ rfl w1.heap.size v8 es rfl (HR.out.ext (ext_trans HG6.out (World.grownBy_alloc w6 (.cells #[.int .i64 xe] 3) none))).own8 (.slice (some ⟨w6.heap.size, 0, none⟩) 1 1) [xe] rfl (ints_one w6 xe 3) ?_ ?_ ?_); (have hq := HLEN.out; simp only [List.length_cons, List.length_nil]; omega); (have hq := HE1.out.size; have hq2 := HG6.out.size; simp; omega); intro v9 w9 ho9 hg9 hw9; have HR9 := Lib.hid ((HR.out.ext (ext_trans HG6.out (World.grownBy_alloc w6 (.cells #[.int .i64 xe] 3) none))).put8 ho9 hg9 hw9); have HE9 := Lib.hid (ext_own (ext_trans HE1.out (ext_trans HG6.out (World.grownBy_alloc w6 (.cells #[.int .i64 xe] 3) none))) (HR.out.ext (ext_trans HG6.out (World.grownBy_alloc w6 (.cells #[.int .i64 xe] 3) none))).own8 (Nat.le_refl _) hg9); have z2 : w9.cell? ⟨wo.heap.size, 2, none⟩ = some (.int .i64 xs) := hg9.cell ((World.grownBy_alloc w6 (.cells #[.int .i64 xe] 3) none).cell x2 (by simp)) (fun e => absurd (own_lt HR.out.own8 _ e.symm).2 (Nat.lt_irrefl _)); have z3 : w9.cell? ⟨wo.heap.size, 3, none⟩ = some (.int .i64 xp) := hg9.cell ((World.grownBy_alloc w6 (.cells #[.int .i64 xe] 3) none).cell x3 (by simp)) (fun e => absurd (own_lt HR.out.own8 _ e.symm).2 (Nat.lt_irrefl _)); have z4 := hg9.cell ((World.grownBy_alloc w6 (.cells #[.int .i64 xe] 3) none).cell x4 (by simp)) (fun e => absurd (own_lt HR.out.own8 _ e.symm).2 (Nat.lt_irrefl _)); clear ho9 hg9 hw9 x0 x1 x2 x3 x4 x5)
            | (go_at_call 42; refine (T9 _).mono ?_; rintro e w10 ⟨rfl, rfl⟩; rw [HNEED.out])
            | (refine wpList_pass rfl ?_ ?_; (simp only [Act.put, List.setIfInBounds_toArray, List.set_cons_succ, List.set_cons_zero]; rfl)))
          go_ret
          exact rightEnd_no (NT.out (fun h => by have := (h.1 rfl).2.2.2.2.1; simp only [] at this; rw [HNX.out] at this; omega)) (ext_trans HE0.out HE9.out)
        have HFE := Lib.hid (show 1 ≤ xe ∧ xe ≤ m by omega)
        have HZ := Lib.hid (show need ≠ 0 ∧ need ≤ (nx : Int) ∧ (nx : Int) ≤ wrap64 (n - 2) by omega)
        go_wp2_with (first
          | (refine ten_store _ _ rfl rfl rfl hBn rfl hS rfl ?_; intro w6 hb6 hg6 hs6; clear hBn hs6; have x0 := (hb6.cell 0).trans (ten_th _ _); have x1 := (hb6.cell 1).trans (ten_ep _ _); have x2 := (hb6.cell 2).trans (ten_sz _ _); have x3 := (hb6.cell 3).trans (ten_sp _ _); have x4 := (hb6.cell 4).trans (ten_bs _ _); dsimp only at x0 x1 x2 x3; rw [HVX.out] at x4; have HG6 := Lib.hid (grown_trans (World.grownBy_alloc wo (.cells zeroTC 33) none) hg6 (fun p hp hlt => by injection hp with hp; omega)); have x5 := ((HB.out.ext (ext_trans HE1.out HG6.out)).cell 1).trans (led_eps L V); rw [HEPS.out] at x5; clear hg6 hb6)
          | (go_at_call 41; go_loud (refine (H8 _ HG6.out).mono ?_; rintro e w7 ⟨rfl, rfl⟩))
          | (at_builtin; go_loud (refine append_ints rfl _ _ rfl w1.heap.size v8 es rfl (HR.out.ext (ext_trans HG6.out (World.grownBy_alloc w6 (.cells #[.int .i64 xe] 3) none))).own8 (.slice (some ⟨w6.heap.size, 0, none⟩) 1 1) [xe] rfl (ints_one w6 xe 3) ?_ ?_ ?_); (have hq := HLEN.out; simp only [List.length_cons, List.length_nil]; omega); (have hq := HE1.out.size; have hq2 := HG6.out.size; simp; omega); intro v9 w9 ho9 hg9 hw9; have HR9 := Lib.hid ((HR.out.ext (ext_trans HG6.out (World.grownBy_alloc w6 (.cells #[.int .i64 xe] 3) none))).put8 ho9 hg9 hw9); have HE9 := Lib.hid (ext_own (ext_trans HE1.out (ext_trans HG6.out (World.grownBy_alloc w6 (.cells #[.int .i64 xe] 3) none))) (HR.out.ext (ext_trans HG6.out (World.grownBy_alloc w6 (.cells #[.int .i64 xe] 3) none))).own8 (Nat.le_refl _) hg9); have z2 : w9.cell? ⟨wo.heap.size, 2, none⟩ = some (.int .i64 xs) := hg9.cell ((World.grownBy_alloc w6 (.cells #[.int .i64 xe] 3) none).cell x2 (by simp)) (fun e => absurd (own_lt HR.out.own8 _ e.symm).2 (Nat.lt_irrefl _)); have z3 : w9.cell? ⟨wo.heap.size, 3, none⟩ = some (.int .i64 xp) := hg9.cell ((World.grownBy_alloc w6 (.cells #[.int .i64 xe] 3) none).cell x3 (by simp)) (fun e => absurd (own_lt HR.out.own8 _ e.symm).2 (Nat.lt_irrefl _)); have z4 := hg9.cell ((World.grownBy_alloc w6 (.cells #[.int .i64 xe] 3) none).cell x4 (by simp)) (fun e => absurd (own_lt HR.out.own8 _ e.symm).2 (Nat.lt_irrefl _)); clear ho9 hg9 hw9 x0 x1 x2 x3 x4 x5)
          | (go_at_call 42; refine (T9 _).mono ?_; rintro e w10 ⟨rfl, rfl⟩; rw [HNEED.out])
          | (refine wpList_pass rfl ?_ ?_; (simp only [Act.put, List.setIfInBounds_toArray, List.set_cons_succ, List.set_cons_zero]; rfl)))
        have HE9b := Lib.hid HE9.out
        clear HR H8 T9 hlen e0 e1 z1 z2 z3
        go_loopw [7, 106] (fun x i wr => ∃ (q : Nat) (v7' : Value), q ≤ nx ∧ v7' = x ∧ i = .int .i64 q ∧ Rows2 w1.heap.size wr v7' v9 (takenTo L k ++ xb.take q) (es ++ [xe]) ∧ (takenTo L k ++ xb.take q).Nodup ∧ (∀ b ∈ xb.take q, 2 ≤ b ∧ b < n) ∧ Ext w1 wr) (fun _ i _ => nx - (intOf i).toNat)
        case atStart => exact ⟨0, _, by omega, rfl, rfl, by simpa using HR9.out, by simpa using HU.out.blk, by simp, HE9.out⟩
        case round =>
          obtain ⟨q, v7', hq, hv7, rfl, hR, hN, hB, hE⟩ := hrel
          subst hv7
          have HR := Lib.hid hR
          have HN := Lib.hid hN
          have HBB := Lib.hid hB
          have HE := Lib.hid hE
          clear hR hN hB hE
          by_cases hlq : q < nx
          · have hlq2 : q < xb.length := by have := HNX.out; omega
            have hnxb := HLEN0.out
            obtain ⟨rfl, hcell⟩ := HC.out q hlq2
            have hcell := HE.out.cell hcell (by simp)
            obtain ⟨y, hy⟩ : ∃ y, xb.getD q 0 = y := ⟨_, rfl⟩
            rw [hy] at hcell
            have HY := Lib.hid hy
            clear hy
            by_cases y0 : y < 2
            · go_wp2
              go_ret
              exact rightEnd_no (NT.out (fun h => by have := ((h.1 rfl).2.2.2.2.2 y (by rw [← HY.out]; exact getD_mem0 hlq2)).1; omega)) (ext_trans HE0.out HE.out)
            by_cases y1 : n ≤ y
            · go_wp2
              go_ret
              exact rightEnd_no (NT.out (fun h => by have := ((h.1 rfl).2.2.2.2.2 y (by rw [← HY.out]; exact getD_mem0 hlq2)).2; omega)) (ext_trans HE0.out HE.out)
            obtain ⟨ts, hts⟩ : ∃ ts, takenTo L k ++ xb.take q = ts := ⟨_, rfl⟩
            rw [hts] at HR HN
            have HTS := Lib.hid hts
            have HLT := Lib.hid (show ts.length ≤ 6000000 by rw [← hts, List.length_append, List.length_take]; have := HTL.out; have := HLEN0.out; have := HNX.out; omega)
            clear hts
            have HH := has10_any v7' ts y wr (owns_ints rfl HR.out.own7) (by have := HLT.out; omega)
            by_cases y2 : y ∈ ts
            · rw [show decide (y ∈ ts) = true by simpa using y2] at HH
              have Y2 := Lib.hid y2
              clear y2
              go_wp2_with (go_at_call 41; refine HH.mono ?_; rintro e w7 ⟨rfl, rfl⟩)
              go_ret
              exact rightEnd_no (no_blk hlt (by rw [HX.out]; exact hlq2) (by rw [HX.out, HTS.out, HY.out]; exact Y2.out)) (ext_trans HE0.out HE.out)
            · rw [show decide (y ∈ ts) = false by simpa using y2] at HH
              have Y2 := Lib.hid y2
              clear y2
              go_wp2_with (first
                | (go_at_call 41; refine HH.mono ?_; rintro e w7 ⟨rfl, rfl⟩)
                | (at_builtin; go_loud (refine append_ints rfl _ _ rfl w1.heap.size v7' ts rfl (HR.out.ext (World.grownBy_alloc wr (.cells #[.int .i64 y] 3) none)).own7 (.slice (some ⟨wr.heap.size, 0, none⟩) 1 1) [y] rfl (ints_one wr y 3) ?_ ?_ ?_); (have hq := HLT.out; simp only [List.length_cons, List.length_nil]; omega); (have hq := HE.out.size; simp; omega); intro v10 w10 ho10 hg10 hw10; have HR10 := Lib.hid ((HR.out.ext (World.grownBy_alloc wr (.cells #[.int .i64 y] 3) none)).put7 ho10 hg10 hw10); have HE10 := Lib.hid (ext_own (ext_trans HE.out (World.grownBy_alloc wr (.cells #[.int .i64 y] 3) none)) (HR.out.ext (World.grownBy_alloc wr (.cells #[.int .i64 y] 3) none)).own7 (Nat.le_refl _) hg10); clear ho10 hg10 hw10))
              go_roundw
              case rel => exact ⟨q + 1, _, by omega, rfl, by go_num, by rw [take_snocI hlq2, ← List.append_assoc, HTS.out, HY.out]; exact HR10.out, by have h := blk_more (L := L) (k := k) (m := q) (by rw [HX.out]; exact hlq2) (by rw [HX.out, HTS.out]; exact HN.out) (by rw [HX.out, HTS.out, HY.out]; exact Y2.out); rw [HX.out] at h; exact h, fun b hb => by rw [take_snocI hlq2, HY.out, List.mem_append] at hb; rcases hb with hb | hb; exact HBB.out b hb; simp at hb; subst hb; omega, HE10.out⟩
              case measure => simp [intOf]; omega
          · obtain rfl : q = nx := by omega
            have htk : xb.take q = xb := by rw [← HNX.out]; exact List.take_length
            rw [htk] at HR HN HBB
            have HTK := Lib.hid htk
            clear htk
            go_wp2
            go_roundw
            case rel => exact ⟨k + 1, _, _, by omega, rfl, rfl, by go_num, by rw [epochsTo_next (by rw [HX.out]), HX.out, HES.out, takenTo, HX.out]; exact HR.out, HU.out.next (by rw [HX.out]) (by rw [HX.out, HEPS.out]; exact HFE.out) (by rw [HX.out, HES.out]; exact E2.out) (by rw [HX.out]; dsimp only; rw [HNEED.out]; exact HZ.out.1) (by rw [HX.out]; dsimp only; rw [HNEED.out, HNX.out]; exact HZ.out.2.1) (by rw [HX.out]; dsimp only; rw [HNX.out]; exact HZ.out.2.2) (by rw [HX.out]; exact HBB.out) (by rw [HX.out]; exact HN.out), HE.out⟩
            case measure => simp [intOf]; omega
    · obtain rfl : k = 4 := by omega
      go_wp2
      go_ret
      exact rightEnd_yes ⟨HGB.out.1, HGB.out.2, HU.out.ten, HU.out.blk, HU.out.epo⟩ (ext_trans HE0.out HE1.out)

end Go.Proofs.YteionppcjgggiaaGreat
