/-
  The document's Create.
-/
import Derived.Test.YtkaiijlgmfeblaaEJ
namespace Go.Proofs.Ytkaiijlgmfeblaa
open Go.RowKit

theorem missT_five {L : Led} {t : Int} (h : inB t 0 3 = false) : missT L t = 5 := by unfold missT; rw [h]; rfl
theorem missT_in {L : Led} {k : Nat} (h : k < 4) : missT L k = if (L.t k).th = true then 0 else 6 := by
  unfold missT
  rw [if_pos (by simp [inB]; omega)]
  simp only [Int.toNat_natCast]

set_option maxHeartbeats 3200000 in
theorem refCreate_any (L : Led) (V : Nat → Value) (t s r : Int) (gv : Value) (xs : List Int) (w : World) (hL : LedIs w L V) (hm : ∀ j, j < 4 → (L.t j).bs.length ≤ 1048576) (hI : Ints w gv xs) (hx : xs.length ≤ 1048576) (hgo : ∀ p, gv.ownBlock = some p → p < w.heap.size) :
    Calls Try.prog 9 #[.agg (ledC L V), .int .i64 t, .int .i64 s, .int .i64 r, gv] w (ChangeP w (createS L t s r xs)) := by
  have hW := laid2 w L V
  obtain ⟨w1, hw1⟩ : ∃ v, (w.alloc (.cells (ledC L V) 27)).alloc (.cells zeroC 27) = v := ⟨_, rfl⟩
  rw [hw1] at hW
  have HW := Lib.hid hW
  have HL := Lib.hid hL
  have hbo := hW.out
  have hbl := hW.led
  have hn := (noLed_is w).slices
  have lo : w.heap.size ≤ w.heap.size + 1 := by omega
  clear hW hL
  have HI := Lib.hid hI
  obtain ⟨ga, gc, _, _, hgv, _⟩ := hI.form
  clear hI
  subst hgv
  have M := fun w => there10_any L V t w
  have C := fun w => room10_any s r w
  unfold createS
  by_cases ht : inB t 0 3 = true
  · rw [if_pos ht]
    obtain ⟨k, rfl⟩ : ∃ k : Nat, t = k := ⟨t.toNat, by simp [inB] at ht; omega⟩
    have hk : k < 4 := by simp [inB] at ht; omega
    rw [missT_in hk] at M
    simp only [Int.toNat_natCast]
    by_cases hth : (L.t k).th = true
    · rw [if_pos hth] at M ⊢
      clear hth ht
      go_enter Try.func9, Try.ntmps9
      go_wp2_with (first
        | (refine led_load _ rfl rfl hbl rfl ?_)
        | (go_at_call 27; refine (M _).mono ?_; rintro e w2 ⟨rfl, hE2⟩; have hbo2 := hbo.ext hE2; have hbl2 := hbl.ext hE2)
        | (refine led_store (L := noLed) (V := fun _ => nilS) _ _ rfl rfl rfl hbo2 rfl hn rfl ?_; intro w5 hb5 hg5 hs5))
      refine bodyPost_ret (v := .tuple #[.agg (ledC noLed fun _ => nilS), .int .i64 7]) (results_cell_row2 (fn := Try.f9) rfl rfl rfl hb5 Try.underlying27 rfl Try.sizeLed) rfl ?_
      exact change_no (ext_trans HW.out.ext hE2) hg5 lo
    · rw [if_neg hth] at M ⊢
      clear hth ht
      by_cases hroom : roomE s r = 0
      · rw [if_pos hroom]
        rw [hroom] at C
        clear hroom
        by_cases heps : L.eps = 2147483647
        · rw [if_pos heps]
          have ce := (hbl.cell 1).trans (led_eps L V)
          rw [heps] at ce
          clear heps
          go_enter Try.func9, Try.ntmps9
          go_wp2_with (first
            | (refine led_load _ rfl rfl hbl rfl ?_)
            | (go_at_call 27; refine (M _).mono ?_; rintro e w2 ⟨rfl, hE2⟩; have hbo2 := hbo.ext hE2; have hbl2 := hbl.ext hE2; have ce2 := hE2.cell ce (by simp))
            | (go_at_call 28; refine (C _).mono ?_; rintro e w' ⟨rfl, rfl⟩)
            | (refine led_store (L := noLed) (V := fun _ => nilS) _ _ rfl rfl rfl hbo2 rfl hn rfl ?_; intro w5 hb5 hg5 hs5))
          refine bodyPost_ret (v := .tuple #[.agg (ledC noLed fun _ => nilS), .int .i64 4]) (results_cell_row2 (fn := Try.f9) rfl rfl rfl hb5 Try.underlying27 rfl Try.sizeLed) rfl ?_
          exact change_no (ext_trans HW.out.ext hE2) hg5 lo
        · rw [if_neg heps]
          have ce := (hbl.cell 1).trans (led_eps L V)
          have hne : (L.eps == 2147483647) = false := by simpa using heps
          clear heps
          unfold changedS
          by_cases hgen : L.gen = 2147483647
          · rw [if_pos hgen]
            have HG := Lib.hid hgen
            clear hgen
            go_enter Try.func9, Try.ntmps9
            go_wp2_with (first
              | (refine led_load _ rfl rfl hbl rfl ?_)
              | (go_at_call 27; refine (M _).mono ?_; rintro e w2 ⟨rfl, hE2⟩; have hbo2 := hbo.ext hE2; have hbl2 := hbl.ext hE2; have ce2 := hE2.cell ce (by simp))
              | (go_at_call 28; refine (C _).mono ?_; rintro e w' ⟨rfl, rfl⟩)
              | (refine led_load _ rfl rfl hbl2 rfl ?_)
              | (go_at_call 29; refine (next10_no L V _ HG.out).mono ?_; rintro e w3 ⟨rfl, hE3⟩; have hBm := Blk.new w3 27 zeroC; have hbo3 := hbo2.ext hE3)
              | (refine led_store (L := noLed) (V := fun _ => nilS) _ _ rfl rfl rfl hBm rfl hn rfl ?_; intro w4 hb4 hg4 hs4; clear hBm; have hE4 := grown_trans (World.grownBy_alloc w3 (.cells zeroC 27) none) hg4 (fun p hp hlt => by injection hp with hp; omega); have hbo4 := hbo3.ext hE4)
              | (refine led_store (L := noLed) (V := fun _ => nilS) _ _ rfl rfl rfl hbo4 rfl hn rfl ?_; intro w5 hb5 hg5 hs5))
            refine bodyPost_ret (v := .tuple #[.agg (ledC noLed fun _ => nilS), .int .i64 4]) (results_cell_row2 (fn := Try.f9) rfl rfl rfl hb5 Try.underlying27 rfl Try.sizeLed) rfl ?_
            exact change_no (ext_trans (ext_trans (ext_trans HW.out.ext hE2) hE3) hE4) hg5 lo
          · rw [if_neg hgen]
            have X := fun w2 (hE2 : Ext w1 w2) => next10_yes L V w2 ((HL.out.ext HW.out.ext).ext hE2) hm hgen
            clear hgen
            go_enter Try.func9, Try.ntmps9
            go_wp2_with (first
              | (refine led_load _ rfl rfl hbl rfl ?_)
              | (go_at_call 27; refine (M _).mono ?_; rintro e w2 ⟨rfl, hE2⟩; have hbo2 := hbo.ext hE2; have hbl2 := hbl.ext hE2; have ce2 := hE2.cell ce (by simp))
              | (go_at_call 28; refine (C _).mono ?_; rintro e w' ⟨rfl, rfl⟩)
              | (refine led_load _ rfl rfl hbl2 rfl ?_)
              | (go_at_call 29; refine (X _ hE2).mono ?_; rintro e w3 ⟨V1, rfl, hO3, hE3⟩; have hBm := Blk.new w3 27 zeroC; have hS3 : ∀ j, j < 4 → SliceV (V1 j) := hO3.is.slices)
              | (refine led_store _ _ rfl rfl rfl hBm rfl hS3 rfl ?_; intro w4 hb4 hg4 hs4; clear hBm; have hmid := out_mid (ext_trans (ext_trans HW.out.ext hE2) hE3) hO3 hE3.size hb4 hg4; have hz2 := hE2.size; have hz3 := hE3.size; have hR := hmid.2.2; have c4 : w4.cell? ⟨w3.heap.size, 1, none⟩ = some (.int .i64 L.eps) := (hR.blk.cell 1).trans (led_eps _ _); have f4 := hR.blk.free 1; have HR := Lib.hid hR; have HE4 := Lib.hid hmid.1; have HO4 := Lib.hid ((hbo2.ext hE3).ext hmid.2.1); have HZ := Lib.hid (And.intro HW.out.size (And.intro hz2 hz3)); clear hR hmid hb4 hg4 hs4 hO3 hE3 hE2 hbo2 hbl2))
            clear c4 f4 ce ce2 hne
            have hb5 : Blk (w4.setCell ⟨w3.heap.size, 1, none⟩ (.int .i64 (wrap64 (L.eps + 1)))) w3.heap.size 27 _ := HR.out.blk.set 1 (.int .i64 (wrap64 (L.eps + 1)))
            rw [led_setEps] at hb5
            have hg5 : w4.grownBy (w4.setCell ⟨w3.heap.size, 1, none⟩ (.int .i64 (wrap64 (L.eps + 1)))) (some w3.heap.size) := gb_set (gb_refl w4 _) _ _
            have hI5 := ((HI.out.kept HE4.out (by simp)).kept hg5 (fun p hp e => by have := hgo p hp; have := HZ.out; injection e with e; omega))
            obtain ⟨n1, hn1⟩ : ∃ n, wrap64 (L.eps + 1) = n := ⟨_, rfl⟩
            rw [hn1] at hb5 hg5 hI5 ⊢
            obtain ⟨w5, hw5⟩ : ∃ v, w4.setCell ⟨w3.heap.size, 1, none⟩ (.int .i64 n1) = v := ⟨_, rfl⟩
            rw [hw5] at hb5 hg5 hI5 ⊢
            clear hw5
            have HN1 := Lib.hid hn1
            obtain ⟨g, hg⟩ : ∃ g, w3.heap.size = g := ⟨_, rfl⟩
            rw [hg] at hb5 hg5 ⊢
            have HG := Lib.hid hg
            have HB5 := Lib.hid hb5
            have HG5 := Lib.hid hg5
            have e5 := (hb5.cell 1).trans (led_eps _ _)
            have hb5lt := hb5.lt
            clear hb5 hg5 hn1 hg
            have hS : (fun x : World => x.cell? ⟨g, 1, none⟩ = some (.int .i64 n1)) w5.drew := e5
            clear e5
            refine region_line [(0, true), (1, true), (2, true), (3, true), (4, true), (6, true), (9, true), (5, false), (7, false), (8, false), (10, true), (11, false)] (fun x : World => x.cell? ⟨g, 1, none⟩ = some (.int .i64 n1)) (by kernel_rfl) (by kernel_rfl) (fun _ _ _ d _ h => by cases d <;> exact h) hS ?_
            repeat (refine line_read (a' := ?_) rfl (by kernel_rfl) (by kernel_rfl) hS (fun x hx K hK => ?_) ?_; rotate_left; · (go_wp2; exact hK))
            refine line_act (by rfl) (fun K hK => ?_)
            go_wp2
            have hA : w5.drew.grownBy (w5.alloc (.cells #[] 3)).drew none := World.grownBy_alloc w5.drew (.cells #[] 3) none
            have hS6 : (fun x : World => x.cell? ⟨g, 1, none⟩ = some (.int .i64 n1)) (w5.alloc (.cells #[] 3)).drew := hA.cell hS (by simp)
            refine hK _ _ _ hS6 (fun x hx => hx) ?_
            clear hK K
            refine line_act (by rfl) (fun K hK => ?_)
            have hown : OwnI w5.heap.size (w5.alloc (.cells #[] 3)).drew (.slice (some ⟨w5.heap.size, 0, none⟩) 0 0) [] := World.ownsRow_made w5 #[] 0 (Nat.le_refl _) (Nat.zero_le _) rfl
            refine append_ints rfl _ _ rfl w5.heap.size (.slice (some ⟨w5.heap.size, 0, none⟩) 0 0) [] rfl hown (.slice ga xs.length gc) xs rfl ((hI5.kept (gb_drew (gb_refl w5 none)) (by simp)).kept hA (by simp)) (by simp only [List.length_nil]; omega) hA.size ?_
            intro v7 w7 ho7 hg7 _
            have hE7 : w5.drew.grownBy w7 none := ext_own hA hown (Nat.le_refl _) hg7
            have hS7 : (fun x : World => x.cell? ⟨g, 1, none⟩ = some (.int .i64 n1)) w7 := hE7.cell hS (by simp)
            refine hK _ _ _ hS7 (fun x hx => hx) ?_
            clear hK K
            have hI7 : Ints w7 v7 xs := owns_ints rfl ho7
            have hlt7 : ∀ p, v7.ownBlock = some p → w5.heap.size ≤ p ∧ p < w7.heap.size := own_lt ho7
            obtain ⟨a7, n7, c7, rfl⟩ := hI7.slice
            refine line_act (by rfl) (fun K hK => ?_)
            go_wp2
            refine hK _ _ _ hS7 (fun x hx => hx) ?_
            clear hK K
            repeat (refine line_read (a' := ?_) rfl (by kernel_rfl) (by kernel_rfl) hS7 (fun x hx K hK => ?_) ?_; rotate_left; · (go_wp2; exact hK))
            refine line_act (by rfl) (fun K hK => ?_)
            have hb7 : Blk w7 g 27 _ := HB5.out.drew.ext hE7
            refine ten_store_in _ _ rfl hk rfl (z := ⟨true, n1, s, r, xs⟩) (v := .slice a7 n7 c7) rfl hb7 ⟨_, _, _, rfl⟩ rfl ?_
            intro w8 hb8 hg8 _
            refine hK _ _ (fun x : World => x.cell? ⟨g, 1, none⟩ = some (.int .i64 n1)) ((hb8.cell 1).trans (led_eps _ _)) (fun x hx => hx) ?_
            clear hK K
            refine line_end ?_
            have hge7 : ∀ p, (Value.slice a7 n7 c7).ownBlock = some p → w5.heap.size ≤ p ∧ p < w7.heap.size := hlt7
            have g48 : w4.grownBy w8 (some g) := gb_trans (gb_trans (gb_trans HG5.out (gb_drew (gb_refl w5 (some g)))) (gb_weak10 hE7 _)) hg8
            have hZ := HZ.out
            have hge := HG.out
            have h45 := HG5.out.size
            have hD := HR.out.done (L2 := createL (bump L) k s r xs) (k := k) (v := .slice a7 n7 c7) (w' := w8) (by rw [hge]; unfold createL inc; rw [show (bump L).eps = L.eps from rfl, HN1.out]; exact hb8) (fun j _ hne => by simp [createL, updT, hne]) (by simp [createL, updT]; exact hI7.kept hg8 (fun p hp e => by have := hge7 p hp; injection e with e; omega)) (fun p hp => by have := hge7 p hp; have := HR.out.lows; have := hg8.size; omega) (by rw [hge]; exact g48)
            obtain ⟨_, V2, hbD, hID, hlD, hbelD⟩ := hD
            rw [hge] at hbD
            have hbo8 : Blk w8 (w.heap.size + 1) 27 _ := HO4.out.below hbelD (by omega)
            clear hZ hge h45 hS hS6 hS7
            go_wp2_with (first
              | (refine led_load _ rfl rfl hbD rfl ?_)
              | (refine led_store _ _ rfl rfl rfl hbo8 rfl hID.slices rfl ?_; intro w9 hb9 hg9 hs9))
            refine bodyPost_ret (v := .tuple #[.agg (ledC (createL (bump L) k s r xs) V2), .int .i64 0]) (results_cell_row2 (fn := Try.f9) rfl rfl rfl hb9 Try.underlying27 rfl Try.sizeLed) rfl ?_
            exact change_end HE4.out hID hlD hbelD (by have := HZ.out; omega) hg9
      · rw [if_neg hroom]
        have h5 : roomE s r = 5 := by unfold roomE at hroom ⊢; split <;> simp_all
        rw [h5] at C ⊢
        clear hroom h5
        go_enter Try.func9, Try.ntmps9
        go_wp2_with (first
          | (refine led_load _ rfl rfl hbl rfl ?_)
          | (go_at_call 27; refine (M _).mono ?_; rintro e w2 ⟨rfl, hE2⟩; have hbo2 := hbo.ext hE2; have hbl2 := hbl.ext hE2)
          | (go_at_call 28; refine (C _).mono ?_; rintro e w' ⟨rfl, rfl⟩)
          | (refine led_store (L := noLed) (V := fun _ => nilS) _ _ rfl rfl rfl hbo2 rfl hn rfl ?_; intro w5 hb5 hg5 hs5))
        refine bodyPost_ret (v := .tuple #[.agg (ledC noLed fun _ => nilS), .int .i64 5]) (results_cell_row2 (fn := Try.f9) rfl rfl rfl hb5 Try.underlying27 rfl Try.sizeLed) rfl ?_
        exact change_no (ext_trans HW.out.ext hE2) hg5 lo
  · have ht : inB t 0 3 = false := by simpa using ht
    rw [missT_five ht] at M
    rw [ht]
    simp only [Bool.false_eq_true, if_false]
    clear ht
    go_enter Try.func9, Try.ntmps9
    go_wp2_with (first
      | (refine led_load _ rfl rfl hbl rfl ?_)
      | (go_at_call 27; refine (M _).mono ?_; rintro e w2 ⟨rfl, hE2⟩; have hbo2 := hbo.ext hE2; have hbl2 := hbl.ext hE2)
      | (refine led_store (L := noLed) (V := fun _ => nilS) _ _ rfl rfl rfl hbo2 rfl hn rfl ?_; intro w5 hb5 hg5 hs5))
    refine bodyPost_ret (v := .tuple #[.agg (ledC noLed fun _ => nilS), .int .i64 5]) (results_cell_row2 (fn := Try.f9) rfl rfl rfl hb5 Try.underlying27 rfl Try.sizeLed) rfl ?_
    exact change_no (ext_trans HW.out.ext hE2) hg5 lo

end Go.Proofs.Ytkaiijlgmfeblaa
