/-
  Package ledger: Swap.
-/
import Derived.Test.YtkcdddpbmbhelaaEH
namespace Go.Proofs.Ytkcdddpbmbhelaa
open Go.RowKit

theorem swapS_a {L : Led} {a i b j n : Int} (h : missT L a = n) (hn : n ≠ 0) : swapS L a i b j = (noLed, n) := by subst h; unfold swapS; rw [if_neg hn]
theorem swapS_b {L : Led} {a i b j n : Int} (ha : missT L a = 0) (h : missT L b = n) (hn : n ≠ 0) : swapS L a i b j = (noLed, n) := by subst h; unfold swapS; rw [if_pos ha, if_neg hn]
theorem swapS_same {L : Led} {a i b j : Int} (ha : missT L a = 0) (hb : missT L b = 0) (h : a = b) : swapS L a i b j = (noLed, 1) := by unfold swapS; rw [if_pos ha, if_pos hb, if_pos h]
theorem swapS_no {L : Led} {a i b j : Int} (ha : missT L a = 0) (hb : missT L b = 0) (h : a ≠ b) (hp : ¬ (inB i 0 ((L.t a.toNat).bs.length - 1) = true ∧ inB j 0 ((L.t b.toNat).bs.length - 1) = true)) : swapS L a i b j = (noLed, 5) := by
  unfold swapS; rw [if_pos ha, if_pos hb, if_neg h, if_neg hp]
theorem swapS_yes {L : Led} {a i b j : Int} (ha : missT L a = 0) (hb : missT L b = 0) (h : a ≠ b) (hp : inB i 0 ((L.t a.toNat).bs.length - 1) = true ∧ inB j 0 ((L.t b.toNat).bs.length - 1) = true) : swapS L a i b j = changedS L (swapL (bump L) a.toNat i.toNat b.toNat j.toNat) := by
  unfold swapS; rw [if_pos ha, if_pos hb, if_neg h, if_pos hp]

set_option maxHeartbeats 3200000 in
theorem swap_any (L : Led) (V : Nat → Value) (a i b j : Int) (w : World) (hL : LedIs w L V) (hm : ∀ j, j < 4 → (L.t j).bs.length ≤ 1048576) :
    Calls Try.prog 11 #[.agg (ledC L V), .int .i64 a, .int .i64 i, .int .i64 b, .int .i64 j] w (ChangeP w (swapS L a i b j)) := by
  have hW := laid6 w L V (.int .i64 a) (.int .i64 i) (.int .i64 b) (.int .i64 j) 3 3 3 3
  obtain ⟨w1, hw1⟩ : ∃ v, (((((w.alloc (.cells (ledC L V) 27)).alloc (.cells #[.int .i64 a] 3)).alloc (.cells #[.int .i64 i] 3)).alloc (.cells #[.int .i64 b] 3)).alloc (.cells #[.int .i64 j] 3)).alloc (.cells zeroC 27) = v := ⟨_, rfl⟩
  rw [hw1] at hW
  have HW := Lib.hid hW
  have HL := Lib.hid hL
  have c1 := hW.c1
  have c2 := hW.c2
  have c3 := hW.c3
  have c4 := hW.c4
  have hbo := hW.out
  have hbl := hW.led
  have hn := (noLed_is w).slices
  have lo : w.heap.size ≤ w.heap.size + 5 := by omega
  clear hW hL
  have i0 : ∀ w, (Instr.index 55 (.agg #[.int .i64 a, .int .i64 b]) (.int .i64 0)).run Try.prog w = .ok (.int .i64 a) w := fun _ => by kernel_rfl
  have i1 : ∀ w, (Instr.index 55 (.agg #[.int .i64 a, .int .i64 b]) (.int .i64 1)).run Try.prog w = .ok (.int .i64 b) w := fun _ => by kernel_rfl
  go_enter Try.func11, Try.ntmps11
  go_wp2
  clear hw1 c1 c2 c3 c4
  go_loopw [18] (fun x wr => ∃ k : Nat, k ≤ 2 ∧ x = .int .i64 k ∧ Ext w1 wr ∧ (1 ≤ k → missT L a = 0) ∧ (2 ≤ k → missT L b = 0)) (fun x _ => 2 - (intOf x).toNat)
  case atStart => exact ⟨0, by omega, rfl, Ext.refl w1, fun h => absurd h (by omega), fun h => absurd h (by omega)⟩
  case round =>
    obtain ⟨k, hk, rfl, hE1, hka, hkb⟩ := hrel
    have hbl2 := hbl.ext hE1
    obtain rfl | rfl | rfl : k = 0 ∨ k = 1 ∨ k = 2 := by omega
    · have M := fun w => missing10_any L V a w
      obtain ⟨n, hn1⟩ : ∃ n, missT L a = n := ⟨_, rfl⟩
      rw [hn1] at M
      have HN := Lib.hid hn1
      clear hn1 hka hkb hbl i1
      by_cases h0 : n = 0
      · subst h0
        go_wp2_with (first
          | (refine led_load _ rfl rfl hbl2 rfl ?_)
          | (go_at_call 24; refine (M _).mono ?_; rintro e w2 ⟨rfl, hE2⟩; have HE2 := Lib.hid (ext_trans hE1 hE2); clear hE2))
        go_roundw
        case rel => exact ⟨1, by omega, by go_num, HE2.out, fun _ => HN.out, fun h => absurd h (by omega)⟩
        case measure => simp [intOf]
      · have hne : (n != 0) = true := by simpa using h0
        go_wp2_with (first
          | (refine led_load _ rfl rfl hbl2 rfl ?_)
          | (go_at_call 24; refine (M _).mono ?_; rintro e w2 ⟨rfl, hE2⟩; have hbo2 := hbo.ext (ext_trans hE1 hE2))
          | (refine led_store (L := noLed) (V := fun _ => nilS) _ _ rfl rfl rfl hbo2 rfl hn rfl ?_; intro w5 hb5 hg5 hs5))
        refine bodyPost_ret (v := .tuple #[.agg (ledC noLed fun _ => nilS), .int .i64 n]) (results_cell_row2 (fn := Try.f11) rfl rfl rfl hb5 Try.underlying27 rfl Try.sizeLed) rfl ?_
        rw [swapS_a HN.out h0]
        exact change_no (ext_trans HW.out.ext (ext_trans hE1 hE2)) hg5 lo
    · have M := fun w => missing10_any L V b w
      obtain ⟨n, hn1⟩ : ∃ n, missT L b = n := ⟨_, rfl⟩
      rw [hn1] at M
      have HN := Lib.hid hn1
      have HA := Lib.hid (hka (by omega))
      clear hn1 hka hkb hbl i0
      by_cases h0 : n = 0
      · subst h0
        go_wp2_with (first
          | (refine led_load _ rfl rfl hbl2 rfl ?_)
          | (go_at_call 24; refine (M _).mono ?_; rintro e w2 ⟨rfl, hE2⟩; have HE2 := Lib.hid (ext_trans hE1 hE2); clear hE2))
        go_roundw
        case rel => exact ⟨2, by omega, by go_num, HE2.out, fun _ => HA.out, fun _ => HN.out⟩
        case measure => simp [intOf]
      · have hne : (n != 0) = true := by simpa using h0
        go_wp2_with (first
          | (refine led_load _ rfl rfl hbl2 rfl ?_)
          | (go_at_call 24; refine (M _).mono ?_; rintro e w2 ⟨rfl, hE2⟩; have hbo2 := hbo.ext (ext_trans hE1 hE2))
          | (refine led_store (L := noLed) (V := fun _ => nilS) _ _ rfl rfl rfl hbo2 rfl hn rfl ?_; intro w5 hb5 hg5 hs5))
        refine bodyPost_ret (v := .tuple #[.agg (ledC noLed fun _ => nilS), .int .i64 n]) (results_cell_row2 (fn := Try.f11) rfl rfl rfl hb5 Try.underlying27 rfl Try.sizeLed) rfl ?_
        rw [swapS_b HA.out HN.out h0]
        exact change_no (ext_trans HW.out.ext (ext_trans hE1 hE2)) hg5 lo
    · have HA := Lib.hid (hka (by omega))
      have HB := Lib.hid (hkb (by omega))
      obtain ⟨ka, rfl, hka4, _⟩ := missT_ok HA.out
      obtain ⟨kb, rfl, hkb4, _⟩ := missT_ok HB.out
      have d1 := hE1.cell HW.out.c1 (by simp)
      have d2 := hE1.cell HW.out.c2 (by simp)
      have d3 := hE1.cell HW.out.c3 (by simp)
      have d4 := hE1.cell HW.out.c4 (by simp)
      have hbo2 := hbo.ext hE1
      have HE := Lib.hid hE1
      clear i0 i1 hka hkb hbl hbo hE1
      by_cases hab : (ka : Int) = (kb : Int)
      · have hq : ((ka : Int) == (kb : Int)) = true := by simpa using hab
        have hab' : ka = kb := by omega
        clear hab hq
        subst hab'
        go_wp2_with (refine led_store (L := noLed) (V := fun _ => nilS) _ _ rfl rfl rfl hbo2 rfl hn rfl ?_; intro w5 hb5 hg5 hs5)
        refine bodyPost_ret (v := .tuple #[.agg (ledC noLed fun _ => nilS), .int .i64 1]) (results_cell_row2 (fn := Try.f11) rfl rfl rfl hb5 Try.underlying27 rfl Try.sizeLed) rfl ?_
        rw [swapS_same HA.out HB.out rfl]
        exact change_no (ext_trans HW.out.ext HE.out) hg5 lo
      · have hq : ((ka : Int) == (kb : Int)) = false := by simpa using hab
        have hne : ka ≠ kb := by omega
        have sa := (hbl2.cell _).trans (led_bs L V hka4)
        have sb := (hbl2.cell _).trans (led_bs L V hkb4)
        obtain ⟨aa, ca, _, _, hVa, _⟩ := (HL.out ka hka4).form
        obtain ⟨ab, cb, _, _, hVb, _⟩ := (HL.out kb hkb4).form
        rw [hVa] at sa
        rw [hVb] at sb
        have P1 := fun w => isPlace_any aa (L.t ka).bs.length ca i w (by have := hm ka hka4; unfold maxLen; omega)
        have P2 := fun w => isPlace_any ab (L.t kb).bs.length cb j w (by have := hm kb hkb4; unfold maxLen; omega)
        have HAB := Lib.hid hab
        clear hVa hVb hab
        let S : World → Prop := fun x => x.cell? ⟨w.heap.size + 1, 0, none⟩ = some (.int .i64 ka) ∧ x.cell? ⟨w.heap.size + 2, 0, none⟩ = some (.int .i64 i) ∧ x.cell? ⟨w.heap.size + 3, 0, none⟩ = some (.int .i64 kb) ∧ x.cell? ⟨w.heap.size + 4, 0, none⟩ = some (.int .i64 j) ∧
          x.cell? ⟨w.heap.size, 2 + ka * 5 + 4, none⟩ = some (.slice aa (L.t ka).bs.length ca) ∧ x.cell? ⟨w.heap.size, 2 + kb * 5 + 4, none⟩ = some (.slice ab (L.t kb).bs.length cb)
        have hS : S wr.drew := ⟨d1, d2, d3, d4, sa, sb⟩
        have hbo3 : Blk wr.drew (w.heap.size + 5) 27 zeroC := hbo2
        have HE3 : Ext w1 wr.drew := ext_trans HE.out (Ext.drew wr)
        have HE4 := Lib.hid HE3
        obtain ⟨p1, hp1⟩ : ∃ p, inB i 0 ((L.t ka).bs.length - 1) = p := ⟨_, rfl⟩
        obtain ⟨p2, hp2⟩ : ∃ p, inB j 0 ((L.t kb).bs.length - 1) = p := ⟨_, rfl⟩
        rw [hp1] at P1
        rw [hp2] at P2
        have HP1 := Lib.hid hp1
        have HP2 := Lib.hid hp2
        clear hp1 hp2 sa sb HE3
        cases p1
        · clear P2
          go_wp2
          refine region_line [(0, true), (1, true), (2, true), (3, true), (4, true), (5, true), (6, false), (7, true), (8, true), (9, true), (10, true), (11, true), (12, true), (13, true), (14, true), (15, false), (16, true), (17, true)] S (by kernel_rfl) (by kernel_rfl) (fun _ _ _ d _ h => by cases d <;> exact h) hS ?_
          repeat (refine line_read (a' := ?_) rfl (by kernel_rfl) (by kernel_rfl) hS (fun x hx K hK => ?_) ?_; rotate_left; · (obtain ⟨x1, x2, x3, x4, x5, x6⟩ := hx; go_wp2; exact hK))
          refine line_act (by rfl) (fun K hK => ?_)
          go_wp2_with (go_at_call 26; refine (P1 _).mono ?_; rintro e w' ⟨rfl, rfl⟩)
          refine hK _ _ S hS (fun x hx => hx) ?_
          clear hK K
          repeat (refine line_read (a' := ?_) rfl (by kernel_rfl) (by kernel_rfl) hS (fun x hx K hK => ?_) ?_; rotate_left; · (obtain ⟨x1, x2, x3, x4, x5, x6⟩ := hx; go_wp2; exact hK))
          refine line_act (by rfl) (fun K hK => ?_)
          go_wp2
          refine hK _ _ S hS (fun x hx => hx) ?_
          clear hK K
          repeat (refine line_read (a' := ?_) rfl (by kernel_rfl) (by kernel_rfl) hS (fun x hx K hK => ?_) ?_; rotate_left; · (obtain ⟨x1, x2, x3, x4, x5, x6⟩ := hx; go_wp2; exact hK))
          refine line_end ?_
          go_wp2_with (refine led_store (L := noLed) (V := fun _ => nilS) _ _ rfl rfl rfl hbo3 rfl hn rfl ?_; intro w5 hb5 hg5 hs5)
          refine bodyPost_ret (v := .tuple #[.agg (ledC noLed fun _ => nilS), .int .i64 5]) (results_cell_row2 (fn := Try.f11) rfl rfl rfl hb5 Try.underlying27 rfl Try.sizeLed) rfl ?_
          rw [swapS_no HA.out HB.out HAB.out (fun h => by have h1 := h.1; simp only [Int.toNat_natCast] at h1; rw [HP1.out] at h1; cases h1)]
          exact change_no (ext_trans HW.out.ext HE4.out) hg5 lo
        · cases p2
          · 
            go_wp2
            refine region_line [(0, true), (1, true), (2, true), (3, true), (4, true), (5, true), (6, false), (7, true), (8, true), (9, true), (10, true), (11, true), (12, true), (13, true), (14, true), (15, false), (16, true), (17, true)] S (by kernel_rfl) (by kernel_rfl) (fun _ _ _ d _ h => by cases d <;> exact h) hS ?_
            repeat (refine line_read (a' := ?_) rfl (by kernel_rfl) (by kernel_rfl) hS (fun x hx K hK => ?_) ?_; rotate_left; · (obtain ⟨x1, x2, x3, x4, x5, x6⟩ := hx; go_wp2; exact hK))
            refine line_act (by rfl) (fun K hK => ?_)
            go_wp2_with (go_at_call 26; refine (P1 _).mono ?_; rintro e w' ⟨rfl, rfl⟩)
            refine hK _ _ S hS (fun x hx => hx) ?_
            clear hK K
            repeat (refine line_read (a' := ?_) rfl (by kernel_rfl) (by kernel_rfl) hS (fun x hx K hK => ?_) ?_; rotate_left; · (obtain ⟨x1, x2, x3, x4, x5, x6⟩ := hx; go_wp2; exact hK))
            refine line_act (by rfl) (fun K hK => ?_)
            go_wp2_with (go_at_call 26; refine (P2 _).mono ?_; rintro e w' ⟨rfl, rfl⟩)
            refine hK _ _ S hS (fun x hx => hx) ?_
            clear hK K
            repeat (refine line_read (a' := ?_) rfl (by kernel_rfl) (by kernel_rfl) hS (fun x hx K hK => ?_) ?_; rotate_left; · (obtain ⟨x1, x2, x3, x4, x5, x6⟩ := hx; go_wp2; exact hK))
            refine line_end ?_
            go_wp2_with (refine led_store (L := noLed) (V := fun _ => nilS) _ _ rfl rfl rfl hbo3 rfl hn rfl ?_; intro w5 hb5 hg5 hs5)
            refine bodyPost_ret (v := .tuple #[.agg (ledC noLed fun _ => nilS), .int .i64 5]) (results_cell_row2 (fn := Try.f11) rfl rfl rfl hb5 Try.underlying27 rfl Try.sizeLed) rfl ?_
            rw [swapS_no HA.out HB.out HAB.out (fun h => by have h1 := h.2; simp only [Int.toNat_natCast] at h1; rw [HP2.out] at h1; cases h1)]
            exact change_no (ext_trans HW.out.ext HE4.out) hg5 lo
          · have q1 := HP1.out
            have q2 := HP2.out
            obtain ⟨i', rfl⟩ : ∃ i' : Nat, i = i' := ⟨i.toNat, by simp [inB] at q1; omega⟩
            obtain ⟨j', rfl⟩ : ∃ j' : Nat, j = j' := ⟨j.toNat, by simp [inB] at q2; omega⟩
            have hi' : i' < (L.t ka).bs.length := by simp [inB] at q1; omega
            have hj' : j' < (L.t kb).bs.length := by simp [inB] at q2; omega
            clear q1 q2
            have hsz := HE4.out.size
            have D := changedSwap_any L V wr.drew (.pointer (some ⟨w.heap.size + 1, 0, none⟩)) (.pointer (some ⟨w.heap.size + 3, 0, none⟩)) (.pointer (some ⟨w.heap.size + 4, 0, none⟩)) (.pointer (some ⟨w.heap.size + 2, 0, none⟩)) (swapL (bump L) ka i' kb j') ((HL.out.ext HW.out.ext).ext HE4.out) hm
              (fun w3 b V1 hE hR => swapDo_done _ _ _ _ ka i' kb j' hR (hE.cell hS.1 (by simp)) (hE.cell hS.2.2.1 (by simp)) (hE.cell hS.2.2.2.1 (by simp)) (hE.cell hS.2.1 (by simp)) (by have := HW.out.size; omega) (by have := HW.out.size; omega) hka4 hkb4 hne hi' hj')
            have hbl3 : Blk wr.drew w.heap.size 27 (ledC L V) := hbl2
            have HD := Lib.hid D
            clear D
            go_wp2
            refine region_line [(0, true), (1, true), (2, true), (3, true), (4, true), (5, true), (6, false), (7, true), (8, true), (9, true), (10, true), (11, true), (12, true), (13, true), (14, true), (15, false), (16, true), (17, true)] S (by kernel_rfl) (by kernel_rfl) (fun _ _ _ d _ h => by cases d <;> exact h) hS ?_
            repeat (refine line_read (a' := ?_) rfl (by kernel_rfl) (by kernel_rfl) hS (fun x hx K hK => ?_) ?_; rotate_left; · (obtain ⟨x1, x2, x3, x4, x5, x6⟩ := hx; go_wp2; exact hK))
            refine line_act (by rfl) (fun K hK => ?_)
            go_wp2_with (go_at_call 26; refine (P1 _).mono ?_; rintro e w' ⟨rfl, rfl⟩)
            refine hK _ _ S hS (fun x hx => hx) ?_
            clear hK K
            repeat (refine line_read (a' := ?_) rfl (by kernel_rfl) (by kernel_rfl) hS (fun x hx K hK => ?_) ?_; rotate_left; · (obtain ⟨x1, x2, x3, x4, x5, x6⟩ := hx; go_wp2; exact hK))
            refine line_act (by rfl) (fun K hK => ?_)
            go_wp2_with (go_at_call 26; refine (P2 _).mono ?_; rintro e w' ⟨rfl, rfl⟩)
            refine hK _ _ S hS (fun x hx => hx) ?_
            clear hK K
            repeat (refine line_read (a' := ?_) rfl (by kernel_rfl) (by kernel_rfl) hS (fun x hx K hK => ?_) ?_; rotate_left; · (obtain ⟨x1, x2, x3, x4, x5, x6⟩ := hx; go_wp2; exact hK))
            refine line_end ?_
            have D := HD.out
            go_wp2_with (first
              | (refine led_load _ rfl rfl hbl3 rfl ?_)
              | (go_at_call 21; refine D.mono ?_; rintro e w3 ⟨V', rfl, hI3, hl3, hE3⟩; have hbo4 := hbo3.ext hE3)
              | (refine led_store _ _ rfl rfl rfl hbo4 rfl hI3.slices rfl ?_; intro w5 hb5 hg5 hs5))
            refine bodyPost_ret (v := .tuple #[.agg (ledC (changedS L (swapL (bump L) ka i' kb j')).1 V'), .int .i64 (changedS L (swapL (bump L) ka i' kb j')).2]) (results_cell_row2 (fn := Try.f11) rfl rfl rfl hb5 Try.underlying27 rfl Try.sizeLed) rfl ?_
            rw [swapS_yes HA.out HB.out HAB.out ⟨by simp only [Int.toNat_natCast]; exact HP1.out, by simp only [Int.toNat_natCast]; exact HP2.out⟩]
            simp only [Int.toNat_natCast]
            exact change_yes (ext_trans HW.out.ext HE4.out) hI3 hl3 hE3 hg5 lo (by have := HW.out.size; omega)

end Go.Proofs.Ytkcdddpbmbhelaa
