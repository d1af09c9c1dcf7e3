/-
  The document's Destroy and Resize.
-/
import Derived.Test.YtkaiijlgmfeblaaEK
namespace Go.Proofs.Ytkaiijlgmfeblaa
open Go.RowKit

theorem destroy_mid {B b k : Nat} {w w' : World} {L : Led} {V : Nat → Value} (h : Ready B w b L V) (hb : Blk w' b 27 (ledC (updT L k noTen) (updV V k nilS))) (hg : w.grownBy w' (some b)) :
    Blk w' b 27 (ledC (updT L k noTen) (updV V k nilS)) ∧ LedIs w' (updT L k noTen) (updV V k nilS) ∧ (∀ j, j < 4 → ∀ p, (updV V k nilS j).ownBlock = some p → B ≤ p ∧ p < w'.heap.size) ∧ Below B w w' := by
  refine ⟨hb, fun j hj => ?_, fun j hj p hp => ?_, below_gb hg h.lo h.lows⟩
  · unfold updV updT
    by_cases e : j = k
    · simp only [if_pos e]; exact .inl ⟨rfl, rfl⟩
    · simp only [if_neg e]
      exact (h.own.is j hj).kept hg (fun p hp e2 => h.far j hj p hp (by injection e2))
  · unfold updV at hp
    by_cases e : j = k
    · rw [if_pos e] at hp; simp [Value.ownBlock] at hp
    · rw [if_neg e] at hp
      have h1 := own_lt (h.own.own j hj) p hp
      have := hg.size
      omega

set_option maxHeartbeats 1600000 in
theorem refDestroy_any (L : Led) (V : Nat → Value) (t : Int) (w : World) (hL : LedIs w L V) (hm : ∀ j, j < 4 → (L.t j).bs.length ≤ 1048576) :
    Calls Try.prog 12 #[.agg (ledC L V), .int .i64 t] w (ChangeP w (destroyS L t)) := by
  have hW := laid2 w L V
  obtain ⟨w1, hw1⟩ : ∃ v, (w.alloc (.cells (ledC L V) 27)).alloc (.cells zeroC 27) = v := ⟨_, rfl⟩
  rw [hw1] at hW
  have HW := Lib.hid hW
  have HL := Lib.hid hL
  have hbo := hW.out
  have hbl := hW.led
  have hn := (noLed_is w).slices
  have lo : w.heap.size ≤ w.heap.size + 1 := by omega
  clear hW hL
  have M := fun w => there10_any L V t w
  unfold destroyS
  by_cases ht : missT L t = 0
  · rw [if_pos ht]
    rw [ht] at M
    obtain ⟨k, rfl, hk, _⟩ := missT_ok ht
    simp only [Int.toNat_natCast]
    clear ht
    unfold changedS
    by_cases hgen : L.gen = 2147483647
    · rw [if_pos hgen]
      have HG := Lib.hid hgen
      clear hgen
      go_enter Try.func12, Try.ntmps12
      go_wp2_with (first
        | (refine led_load _ rfl rfl hbl rfl ?_)
        | (go_at_call 27; refine (M _).mono ?_; rintro e w2 ⟨rfl, hE2⟩; have hbo2 := hbo.ext hE2; have hbl2 := hbl.ext hE2)
        | (refine led_load _ rfl rfl hbl2 rfl ?_)
        | (go_at_call 29; refine (next10_no L V _ HG.out).mono ?_; rintro e w3 ⟨rfl, hE3⟩; have hBm := Blk.new w3 27 zeroC; have hbo3 := hbo2.ext hE3)
        | (refine led_store (L := noLed) (V := fun _ => nilS) _ _ rfl rfl rfl hBm rfl hn rfl ?_; intro w4 hb4 hg4 hs4; clear hBm; have hE4 := grown_trans (World.grownBy_alloc w3 (.cells zeroC 27) none) hg4 (fun p hp hlt => by injection hp with hp; omega); have hbo4 := hbo3.ext hE4)
        | (refine led_load _ rfl rfl hb4 rfl ?_)
        | (refine led_store (L := noLed) (V := fun _ => nilS) _ _ rfl rfl rfl hbo4 rfl hn rfl ?_; intro w5 hb5 hg5 hs5))
      refine bodyPost_ret (v := .tuple #[.agg (ledC noLed fun _ => nilS), .int .i64 4]) (results_cell_row2 (fn := Try.f12) rfl rfl rfl hb5 Try.underlying27 rfl Try.sizeLed) rfl ?_
      exact change_no (ext_trans (ext_trans (ext_trans HW.out.ext hE2) hE3) hE4) hg5 lo
    · rw [if_neg hgen]
      have X := fun w2 (hE2 : Ext w1 w2) => next10_yes L V w2 ((HL.out.ext HW.out.ext).ext hE2) hm hgen
      clear hgen
      go_enter Try.func12, Try.ntmps12
      go_wp2_with (first
        | (refine led_load _ rfl rfl hbl rfl ?_)
        | (go_at_call 27; refine (M _).mono ?_; rintro e w2 ⟨rfl, hE2⟩; have hbo2 := hbo.ext hE2; have hbl2 := hbl.ext hE2)
        | (refine led_load _ rfl rfl hbl2 rfl ?_)
        | (go_at_call 29; refine (X _ hE2).mono ?_; rintro e w3 ⟨V1, rfl, hO3, hE3⟩; have hBm := Blk.new w3 27 zeroC; have hS3 : ∀ j, j < 4 → SliceV (V1 j) := hO3.is.slices)
        | (refine led_store _ _ rfl rfl rfl hBm rfl hS3 rfl ?_; intro w4 hb4 hg4 hs4; clear hBm; have hmid := out_mid (ext_trans (ext_trans HW.out.ext hE2) hE3) hO3 hE3.size hb4 hg4; have hz2 := hE2.size; have hz3 := hE3.size; have hR := hmid.2.2; have HR := Lib.hid hR; have HE4 := Lib.hid hmid.1; have HO4 := Lib.hid ((hbo2.ext hE3).ext hmid.2.1); have HZ := Lib.hid (And.intro HW.out.size (And.intro hz2 hz3)); have hbg := hR.blk; clear hmid hb4 hg4 hs4 hO3 hE2 hbo2 hbl2; clear hE3)
        | (refine ten_store_in _ _ rfl hk rfl (z := noTen) (v := nilS) rfl hbg ⟨_, _, _, rfl⟩ rfl ?_; intro w5 hb5 hg5 hs5; have hbo5 := HO4.out.kept hg5 (fun e => by have := HZ.out; injection e with e; omega))
        | (refine led_load _ rfl rfl hb5 rfl ?_)
        | (refine led_store _ _ rfl rfl rfl hbo5 rfl (destroy_mid HR.out hb5 hg5).2.1.slices rfl ?_; intro w6 hb6 hg6 hs6))
      refine bodyPost_ret (v := .tuple #[.agg (ledC (updT (bump L) k noTen) (updV V1 k nilS)), .int .i64 0]) (results_cell_row2 (fn := Try.f12) rfl rfl rfl hb6 Try.underlying27 rfl Try.sizeLed) rfl ?_
      obtain ⟨_, hI, hl, hbel⟩ := destroy_mid HR.out hb5 hg5
      exact change_end HE4.out hI hl hbel (by have := HZ.out; omega) hg6
  · rw [if_neg ht]
    have hne : (missT L t != 0) = true := by simpa using ht
    obtain ⟨n, hnn⟩ : ∃ n, missT L t = n := ⟨_, rfl⟩
    rw [hnn] at M hne ⊢
    clear ht hnn
    go_enter Try.func12, Try.ntmps12
    go_wp2_with (first
      | (refine led_load _ rfl rfl hbl rfl ?_)
      | (go_at_call 27; refine (M _).mono ?_; rintro e w2 ⟨rfl, hE2⟩; have hbo2 := hbo.ext hE2; have hbl2 := hbl.ext hE2)
      | (refine led_store (L := noLed) (V := fun _ => nilS) _ _ rfl rfl rfl hbo2 rfl hn rfl ?_; intro w5 hb5 hg5 hs5))
    refine bodyPost_ret (v := .tuple #[.agg (ledC noLed fun _ => nilS), .int .i64 n]) (results_cell_row2 (fn := Try.f12) rfl rfl rfl hb5 Try.underlying27 rfl Try.sizeLed) rfl ?_
    exact change_no (ext_trans HW.out.ext hE2) hg5 lo


/-- Behind the size. -/
theorem resize_one {B b k : Nat} {w : World} {L : Led} {V : Nat → Value} (h : Ready B w b L V) (hk : k < 4) (s : Int) :
    w.grownBy (w.setCell ⟨b, 2 + k * 5 + 2, none⟩ (.int .i64 s)) (some b) ∧ Blk (w.setCell ⟨b, 2 + k * 5 + 2, none⟩ (.int .i64 s)) b 27 ((ledC L V).setIfInBounds (2 + k * 5 + 2) (.int .i64 s)) ∧
      (w.setCell ⟨b, 2 + k * 5 + 2, none⟩ (.int .i64 s)).cell? ⟨b, 2 + k * 5 + 4, none⟩ = some (V k) ∧ OwnI B (w.setCell ⟨b, 2 + k * 5 + 2, none⟩ (.int .i64 s)) (V k) (L.t k).bs := by
  have hg1 : w.grownBy (w.setCell ⟨b, 2 + k * 5 + 2, none⟩ (.int .i64 s)) (some b) := gb_set (gb_refl w (some b)) _ _
  refine ⟨hg1, h.blk.set _ _, ?_, own_kept (h.own.own k hk) hg1 (fun p hp e => h.far k hk p hp (Option.some.inj e))⟩
  rw [World.cell?_setCell_other _ _ _ _ (fun e => by injection e with _ e; omega)]
  exact (h.blk.cell _).trans (led_bs L V hk)

/-- Behind all of it. -/
theorem resize_mid {B b k : Nat} {w w1 w2 : World} {L : Led} {V : Nat → Value} {s : Int} {xs : List Int} {v : Value} (h : Ready B w b L V) (hk : k < 4) (hg1 : w.grownBy w1 (some b)) (hb1 : Blk w1 b 27 ((ledC L V).setIfInBounds (2 + k * 5 + 2) (.int .i64 s)))
    (o1 : OwnI B w1 (V k) (L.t k).bs) (ho2 : OwnI B w2 v ((L.t k).bs ++ xs)) (hg2 : w1.grownBy w2 (V k).ownBlock) (hl2 : v.ownBlock = (V k).ownBlock ∨ v.ownBlock = some w1.heap.size) :
    Blk w2 b 27 ((ledC L V).setIfInBounds (2 + k * 5 + 2) (.int .i64 s)) ∧ w.grownBy w1 (some b) ∧ (∀ p, v.ownBlock = some p → p ≠ b) ∧
      DoneP B b (resizeL L k s xs) w (.returned (.tuple #[])) (w2.setCell ⟨b, 2 + k * 5 + 4, none⟩ v) := by
  have hb1lt : b < w1.heap.size := hb1.lt
  have hlo := h.lo
  have hlows := h.lows
  have hfar1 := h.far k hk
  have hlow1 : ∀ p, (V k).ownBlock = some p → B ≤ p ∧ p < w1.heap.size := own_lt o1
  have hb2 := hb1.kept hg2 (fun e => hfar1 b e.symm rfl)
  have hlow2 : ∀ p, v.ownBlock = some p → B ≤ p ∧ p < w2.heap.size := own_lt ho2
  have hfar2 : ∀ p, v.ownBlock = some p → p ≠ b := fun p hp => by
    rcases hl2 with e | e
    · exact hfar1 p (by rw [← e]; exact hp)
    · have e2 : some w1.heap.size = some p := e.symm.trans hp
      injection e2 with e2
      omega
  have hg3 : w2.grownBy (w2.setCell ⟨b, 2 + k * 5 + 4, none⟩ v) (some b) := gb_set (gb_refl w2 (some b)) _ _
  refine ⟨hb2, hg1, hfar2, rfl, updV V k v, ?_, fun j hj => ?_, fun j hj p hp => ?_, ?_⟩
  · have := hb2.set (2 + k * 5 + 4) v
    rw [led_resize L V hk s xs] at this
    exact this
  · unfold updV resizeL updT
    by_cases e : j = k
    · subst e
      simp only [if_true]
      exact (owns_ints rfl ho2 : Ints w2 v _).kept hg3 (fun p hp e => hfar2 p hp (by injection e))
    · simp only [if_neg e]
      have h1 := ((h.own.is j hj).kept hg1 (fun p hp e2 => h.far j hj p hp (by injection e2)))
      have h2 := h1.kept hg2 (fun p hp e2 => h.own.apart j k hj hk e p hp e2.symm)
      exact h2.kept hg3 (fun p hp e2 => h.far j hj p hp (by injection e2))
  · have hs3 : (w2.setCell ⟨b, 2 + k * 5 + 4, none⟩ v).heap.size = w2.heap.size := by simp [World.setCell]
    rw [hs3]
    unfold updV at hp
    by_cases e : j = k
    · rw [if_pos e] at hp; exact hlow2 p hp
    · rw [if_neg e] at hp
      have h1 := own_lt (h.own.own j hj) p hp
      have h2 := hg1.size
      have h3 := hg2.size
      omega
  · have q1 : Below B w w1 := below_gb hg1 (by omega) hlows
    have hlt1 : B ≤ w1.heap.size := by have := hg1.size; omega
    have q2 : Below B w w2 := q1.grown hg2 hlt1 (fun p hp => (hlow1 p hp).1)
    exact q2.trans (below_gb hg3 (by omega) (by have := hg2.size; omega))

set_option maxHeartbeats 3200000 in
theorem refResize_any (L : Led) (V : Nat → Value) (t s : Int) (gv : Value) (xs : List Int) (w : World) (hL : LedIs w L V) (hm : ∀ j, j < 4 → (L.t j).bs.length ≤ 1048576) (hI : Ints w gv xs) (hx : xs.length ≤ 1048576) (hgo : ∀ p, gv.ownBlock = some p → p < w.heap.size) :
    Calls Try.prog 14 #[.agg (ledC L V), .int .i64 t, .int .i64 s, gv] w (ChangeP w (resizeS L t s xs)) := by
  have hW := laid2 w L V
  obtain ⟨w1, hw1⟩ : ∃ v, (w.alloc (.cells (ledC L V) 27)).alloc (.cells zeroC 27) = v := ⟨_, rfl⟩
  rw [hw1] at hW
  have HW := Lib.hid hW
  have HL := Lib.hid hL
  have hbo := hW.out
  have hbl := hW.led
  have hn := (noLed_is w).slices
  have lo : w.heap.size ≤ w.heap.size + 1 := by omega
  clear hW hL
  have HI := Lib.hid hI
  obtain ⟨ga, gc, _, _, hgv, _⟩ := hI.form
  clear hI
  subst hgv
  have M := fun w => there10_any L V t w
  have C := fun w => room10_any s 0 w
  unfold resizeS
  by_cases ht : missT L t = 0
  · rw [if_pos ht]
    rw [ht] at M
    obtain ⟨k, rfl, hk, _⟩ := missT_ok ht
    simp only [Int.toNat_natCast]
    clear ht
    by_cases hroom : roomE s 0 = 0
    · rw [if_pos hroom]
      rw [hroom] at C
      clear hroom
      unfold changedS
      by_cases hgen : L.gen = 2147483647
      · rw [if_pos hgen]
        have HG := Lib.hid hgen
        clear hgen
        go_enter Try.func14, Try.ntmps14
        go_wp2_with (first
          | (refine led_load _ rfl rfl hbl rfl ?_)
          | (go_at_call 27; refine (M _).mono ?_; rintro e w2 ⟨rfl, hE2⟩; have hbo2 := hbo.ext hE2; have hbl2 := hbl.ext hE2)
          | (go_at_call 28; refine (C _).mono ?_; rintro e w' ⟨rfl, rfl⟩)
          | (refine led_load _ rfl rfl hbl2 rfl ?_)
          | (go_at_call 29; refine (next10_no L V _ HG.out).mono ?_; rintro e w3 ⟨rfl, hE3⟩; have hBm := Blk.new w3 27 zeroC; have hbo3 := hbo2.ext hE3)
          | (refine led_store (L := noLed) (V := fun _ => nilS) _ _ rfl rfl rfl hBm rfl hn rfl ?_; intro w4 hb4 hg4 hs4; clear hBm; have hE4 := grown_trans (World.grownBy_alloc w3 (.cells zeroC 27) none) hg4 (fun p hp hlt => by injection hp with hp; omega); have hbo4 := hbo3.ext hE4)
          | (refine led_load _ rfl rfl hb4 rfl ?_)
          | (refine led_store (L := noLed) (V := fun _ => nilS) _ _ rfl rfl rfl hbo4 rfl hn rfl ?_; intro w5 hb5 hg5 hs5))
        refine bodyPost_ret (v := .tuple #[.agg (ledC noLed fun _ => nilS), .int .i64 4]) (results_cell_row2 (fn := Try.f14) rfl rfl rfl hb5 Try.underlying27 rfl Try.sizeLed) rfl ?_
        exact change_no (ext_trans (ext_trans (ext_trans HW.out.ext hE2) hE3) hE4) hg5 lo
      · rw [if_neg hgen]
        have X := fun w2 (hE2 : Ext w1 w2) => next10_yes L V w2 ((HL.out.ext HW.out.ext).ext hE2) hm hgen
        have hml := hm k hk
        have HML := Lib.hid hml
        clear hgen hml
        go_enter Try.func14, Try.ntmps14
        go_wp2_with (first
          | (refine led_load _ rfl rfl hbl rfl ?_)
          | (go_at_call 27; refine (M _).mono ?_; rintro e w2 ⟨rfl, hE2⟩; have hbo2 := hbo.ext hE2; have hbl2 := hbl.ext hE2)
          | (go_at_call 28; refine (C _).mono ?_; rintro e w' ⟨rfl, rfl⟩)
          | (refine led_load _ rfl rfl hbl2 rfl ?_)
          | (go_at_call 29; refine (X _ hE2).mono ?_; rintro e w3 ⟨V1, rfl, hO3, hE3⟩; have hBm := Blk.new w3 27 zeroC; have hS3 : ∀ j, j < 4 → SliceV (V1 j) := hO3.is.slices)
          | (refine led_store _ _ rfl rfl rfl hBm rfl hS3 rfl ?_; intro w4 hb4 hg4 hs4; clear hBm; have hmid := out_mid (ext_trans (ext_trans HW.out.ext hE2) hE3) hO3 hE3.size hb4 hg4; have hz2 := hE2.size; have hz3 := hE3.size; have hR := hmid.2.2; have HR := Lib.hid hR; have HE4 := Lib.hid hmid.1; have HO4 := Lib.hid ((hbo2.ext hE3).ext hmid.2.1); have HZ := Lib.hid (And.intro HW.out.size (And.intro hz2 hz3)); have z4 := (hR.blk.cell _).trans (led_sz _ _ hk); have zf := hR.blk.free (2 + k * 5 + 2); have HRM := Lib.hid (resize_one hR hk s); have v5 := HRM.out.2.2.1; obtain ⟨ka, kn, kc, hVk⟩ := (hR.own.is k hk).slice; have HVk := Lib.hid hVk; rw [hVk] at v5; clear hVk hR hmid hb4 hg4 hs4 hO3 hE2 hbo2 hbl2 hE3)
          | (at_builtin; go_loud (refine append_ints rfl _ _ rfl w2.heap.size (.slice ka kn kc) (L.t k).bs rfl ?_ (.slice ga xs.length gc) xs rfl ?_ ?_ ?_ ?_; (have hq := HRM.out.2.2.2; rw [HVk.out] at hq; exact hq); exact ((HI.out.kept HE4.out (by simp)).kept HRM.out.1 (fun p hp e => by have := hgo p hp; have := HZ.out; injection e with e; omega)); (have hq := HML.out; omega); (have hq := HRM.out.1.size; have hq2 := HR.out.lows; omega); intro v6 w6 ho6 hg6 hl6; have HMID := Lib.hid (resize_mid HR.out hk HRM.out.1 HRM.out.2.1 HRM.out.2.2.2 ho6 (by rw [HVk.out]; exact hg6) (by rw [HVk.out]; exact hl6)); have c6 := (HMID.out.1.cell (2 + k * 5 + 4)).trans ((HRM.out.2.1.cell (2 + k * 5 + 4)).symm.trans v5); have f6 := HMID.out.1.free (2 + k * 5 + 4); obtain ⟨_, _, _, rfl⟩ := (owns_ints rfl ho6).slice; clear ho6 hg6 hl6; obtain ⟨_, V2, hbD, hID, hlD, hbelD⟩ := HMID.out.2.2.2; have hboD := HO4.out.below hbelD (by have hq := HZ.out; omega)))
          | (refine led_load _ rfl rfl hbD rfl ?_)
          | (refine led_store _ _ rfl rfl rfl hboD rfl hID.slices rfl ?_; intro w7 hb7 hg7 hs7))
        refine bodyPost_ret (v := .tuple #[.agg (ledC (resizeL (bump L) k s xs) V2), .int .i64 0]) (results_cell_row2 (fn := Try.f14) rfl rfl rfl hb7 Try.underlying27 rfl Try.sizeLed) rfl ?_
        exact change_end HE4.out hID hlD hbelD (by have := HZ.out; omega) hg7
    · rw [if_neg hroom]
      have h5 : roomE s 0 = 5 := by unfold roomE at hroom ⊢; split <;> simp_all
      rw [h5] at C ⊢
      clear hroom h5
      go_enter Try.func14, Try.ntmps14
      go_wp2_with (first
        | (refine led_load _ rfl rfl hbl rfl ?_)
        | (go_at_call 27; refine (M _).mono ?_; rintro e w2 ⟨rfl, hE2⟩; have hbo2 := hbo.ext hE2; have hbl2 := hbl.ext hE2)
        | (go_at_call 28; refine (C _).mono ?_; rintro e w' ⟨rfl, rfl⟩)
        | (refine led_store (L := noLed) (V := fun _ => nilS) _ _ rfl rfl rfl hbo2 rfl hn rfl ?_; intro w5 hb5 hg5 hs5))
      refine bodyPost_ret (v := .tuple #[.agg (ledC noLed fun _ => nilS), .int .i64 5]) (results_cell_row2 (fn := Try.f14) rfl rfl rfl hb5 Try.underlying27 rfl Try.sizeLed) rfl ?_
      exact change_no (ext_trans HW.out.ext hE2) hg5 lo
  · rw [if_neg ht]
    have hne : (missT L t != 0) = true := by simpa using ht
    obtain ⟨n, hnn⟩ : ∃ n, missT L t = n := ⟨_, rfl⟩
    rw [hnn] at M hne ⊢
    clear ht hnn
    go_enter Try.func14, Try.ntmps14
    go_wp2_with (first
      | (refine led_load _ rfl rfl hbl rfl ?_)
      | (go_at_call 27; refine (M _).mono ?_; rintro e w2 ⟨rfl, hE2⟩; have hbo2 := hbo.ext hE2; have hbl2 := hbl.ext hE2)
      | (refine led_store (L := noLed) (V := fun _ => nilS) _ _ rfl rfl rfl hbo2 rfl hn rfl ?_; intro w5 hb5 hg5 hs5))
    refine bodyPost_ret (v := .tuple #[.agg (ledC noLed fun _ => nilS), .int .i64 n]) (results_cell_row2 (fn := Try.f14) rfl rfl rfl hb5 Try.underlying27 rfl Try.sizeLed) rfl ?_
    exact change_no (ext_trans HW.out.ext hE2) hg5 lo

end Go.Proofs.Ytkaiijlgmfeblaa
