/-
  The document's Swap.
-/
import Derived.Test.YtkaiijlgmfeblaaEL
namespace Go.Proofs.Ytkaiijlgmfeblaa
open Go.RowKit

theorem ints_at {w : World} {a : Option Addr} {c : Nat} {xs : List Int} (h : Ints w (.slice a xs.length c) xs) {i : Nat} (hi : i < xs.length) : ∃ b off, a = some ⟨b, off, none⟩ ∧ w.cell? ⟨b, off + i, none⟩ = some (.int .i64 (xs.getD i 0)) := by
  rcases h with ⟨h1, h2⟩ | ⟨b, off, cap, h1, _, h3⟩
  · rw [h2] at hi; simp at hi
  · simp at h1
    exact ⟨b, off, h1.1, h3 i hi⟩

set_option maxHeartbeats 3200000 in
theorem refSwap_any (L : Led) (V : Nat → Value) (a i b j : Int) (w : World) (hL : LedIs w L V) (hm : ∀ j, j < 4 → (L.t j).bs.length ≤ 1048576) :
    Calls Try.prog 16 #[.agg (ledC L V), .int .i64 a, .int .i64 i, .int .i64 b, .int .i64 j] w (ChangeP w (swapS L a i b j)) := by
  have hW := laid2 w L V
  obtain ⟨w1, hw1⟩ : ∃ v, (w.alloc (.cells (ledC L V) 27)).alloc (.cells zeroC 27) = v := ⟨_, rfl⟩
  rw [hw1] at hW
  have HW := Lib.hid hW
  have HL := Lib.hid hL
  have hbo := hW.out
  have hbl := hW.led
  have hn := (noLed_is w).slices
  have lo : w.heap.size ≤ w.heap.size + 1 := by omega
  clear hW hL
  by_cases hA : missT L a = 0
  · have Ma := fun w => there10_any L V a w
    rw [hA] at Ma
    have HA := Lib.hid hA
    obtain ⟨ka, rfl, hka4, _⟩ := missT_ok hA
    clear hA
    by_cases hB : missT L b = 0
    · have Mb := fun w => there10_any L V b w
      rw [hB] at Mb
      have HB := Lib.hid hB
      obtain ⟨kb, rfl, hkb4, _⟩ := missT_ok hB
      clear hB
      by_cases hab : ka = kb
      · subst hab
        go_enter Try.func16, Try.ntmps16
        go_wp2_with (first
          | (refine led_load _ rfl rfl hbl rfl ?_)
          | (have hx2 := hbl2; go_at_call 27; refine (Mb _).mono ?_; rintro e w3 ⟨rfl, hE3⟩; have hbo3 := hbo2.ext hE3; have hbl3 := hbl2.ext hE3; clear hx2)
          | (refine led_load _ rfl rfl hbl2 rfl ?_)
          | (go_at_call 27; refine (Ma _).mono ?_; rintro e w2 ⟨rfl, hE2⟩; have hbo2 := hbo.ext hE2; have hbl2 := hbl.ext hE2)
          | (refine led_store (L := noLed) (V := fun _ => nilS) _ _ rfl rfl rfl hbo3 rfl hn rfl ?_; intro w5 hb5 hg5 hs5))
        refine bodyPost_ret (v := .tuple #[.agg (ledC noLed fun _ => nilS), .int .i64 1]) (results_cell_row2 (fn := Try.f16) rfl rfl rfl hb5 Try.underlying27 rfl Try.sizeLed) rfl ?_
        rw [swapS_same HA.out HB.out rfl]
        exact change_no (ext_trans (ext_trans HW.out.ext hE2) hE3) hg5 lo
      · have hq : ((ka : Int) == (kb : Int)) = false := by simp; omega
        have HAB : (ka : Int) ≠ (kb : Int) := by omega
        have HAB' := Lib.hid HAB
        clear HAB
        obtain ⟨aa, ca, _, _, hVa, _⟩ := (HL.out ka hka4).form
        obtain ⟨ab, cb, _, _, hVb, _⟩ := (HL.out kb hkb4).form
        have HVa := Lib.hid hVa
        have HVb := Lib.hid hVb
        obtain ⟨na, hna⟩ : ∃ n, (L.t ka).bs.length = n := ⟨_, rfl⟩
        obtain ⟨nb, hnb⟩ : ∃ n, (L.t kb).bs.length = n := ⟨_, rfl⟩
        have hma := hm ka hka4
        have hmb := hm kb hkb4
        rw [hna] at hma
        rw [hnb] at hmb
        have HNA := Lib.hid hna
        have HNB := Lib.hid hnb
        rw [hna] at hVa
        rw [hnb] at hVb
        have HVa := Lib.hid hVa
        have HVb := Lib.hid hVb
        clear hVa hVb hna hnb
        have no : (i < 0 ∨ (0 ≤ i ∧ (na : Int) ≤ i) ∨ (0 ≤ i ∧ i < na ∧ j < 0) ∨ (0 ≤ i ∧ i < na ∧ 0 ≤ j ∧ (nb : Int) ≤ j)) → ¬ (inB i 0 ((L.t (ka : Int).toNat).bs.length - 1) = true ∧ inB j 0 ((L.t (kb : Int).toNat).bs.length - 1) = true) := by
          simp only [Int.toNat_natCast, HNA.out, HNB.out, inB, decide_eq_true_eq]
          omega
        have ways : (i < 0 ∨ (0 ≤ i ∧ (na : Int) ≤ i) ∨ (0 ≤ i ∧ i < na ∧ j < 0) ∨ (0 ≤ i ∧ i < na ∧ 0 ≤ j ∧ (nb : Int) ≤ j)) ∨ (0 ≤ i ∧ i < na ∧ 0 ≤ j ∧ j < nb) := by omega
        rcases ways with bad | ⟨i0, i1, j0, j1⟩
        · have NO := Lib.hid (no bad)
          clear no
          rcases bad with h | ⟨h, h2⟩ | ⟨h, h2, h3⟩ | ⟨h, h2, h3, h4⟩
          · have e1 : decide (i < 0) = true := by simpa using h
            go_enter Try.func16, Try.ntmps16
            go_wp2_with (first
              | (refine led_load _ rfl rfl hbl rfl ?_)
              | (have hx2 := hbl2; go_at_call 27; refine (Mb _).mono ?_; rintro e w3 ⟨rfl, hE3⟩; have hbo3 := hbo2.ext hE3; have hbl3 := hbl2.ext hE3; clear hx2)
              | (refine led_load _ rfl rfl hbl2 rfl ?_)
              | (go_at_call 27; refine (Ma _).mono ?_; rintro e w2 ⟨rfl, hE2⟩; have hbo2 := hbo.ext hE2; have hbl2 := hbl.ext hE2)
              | (refine led_store (L := noLed) (V := fun _ => nilS) _ _ rfl rfl rfl hbo3 rfl hn rfl ?_; intro w5 hb5 hg5 hs5))
            refine bodyPost_ret (v := .tuple #[.agg (ledC noLed fun _ => nilS), .int .i64 5]) (results_cell_row2 (fn := Try.f16) rfl rfl rfl hb5 Try.underlying27 rfl Try.sizeLed) rfl ?_
            rw [swapS_no HA.out HB.out HAB'.out NO.out]
            exact change_no (ext_trans (ext_trans HW.out.ext hE2) hE3) hg5 lo
          · have e1 : decide (i < 0) = false := by simpa using h
            have e2 : decide ((na : Int) ≤ i) = true := by simpa using h2
            go_enter Try.func16, Try.ntmps16
            go_wp2_with (first
              | (refine led_load _ rfl rfl hbl rfl ?_)
              | (have hx2 := hbl2; go_at_call 27; refine (Mb _).mono ?_; rintro e w3 ⟨rfl, hE3⟩; have hbo3 := hbo2.ext hE3; have hbl3 := hbl2.ext hE3; clear hx2; have sa := (hbl3.cell _).trans (led_bs L V hka4); have sb := (hbl3.cell _).trans (led_bs L V hkb4); rw [HVa.out] at sa; rw [HVb.out] at sb)
              | (refine led_load _ rfl rfl hbl2 rfl ?_)
              | (go_at_call 27; refine (Ma _).mono ?_; rintro e w2 ⟨rfl, hE2⟩; have hbo2 := hbo.ext hE2; have hbl2 := hbl.ext hE2)
              | (refine led_store (L := noLed) (V := fun _ => nilS) _ _ rfl rfl rfl hbo3 rfl hn rfl ?_; intro w5 hb5 hg5 hs5))
            refine bodyPost_ret (v := .tuple #[.agg (ledC noLed fun _ => nilS), .int .i64 5]) (results_cell_row2 (fn := Try.f16) rfl rfl rfl hb5 Try.underlying27 rfl Try.sizeLed) rfl ?_
            rw [swapS_no HA.out HB.out HAB'.out NO.out]
            exact change_no (ext_trans (ext_trans HW.out.ext hE2) hE3) hg5 lo
          · have e1 : decide (i < 0) = false := by simpa using h
            have e2 : decide ((na : Int) ≤ i) = false := by simpa using h2
            have e3 : decide (j < 0) = true := by simpa using h3
            go_enter Try.func16, Try.ntmps16
            go_wp2_with (first
              | (refine led_load _ rfl rfl hbl rfl ?_)
              | (have hx2 := hbl2; go_at_call 27; refine (Mb _).mono ?_; rintro e w3 ⟨rfl, hE3⟩; have hbo3 := hbo2.ext hE3; have hbl3 := hbl2.ext hE3; clear hx2; have sa := (hbl3.cell _).trans (led_bs L V hka4); have sb := (hbl3.cell _).trans (led_bs L V hkb4); rw [HVa.out] at sa; rw [HVb.out] at sb)
              | (refine led_load _ rfl rfl hbl2 rfl ?_)
              | (go_at_call 27; refine (Ma _).mono ?_; rintro e w2 ⟨rfl, hE2⟩; have hbo2 := hbo.ext hE2; have hbl2 := hbl.ext hE2)
              | (refine led_store (L := noLed) (V := fun _ => nilS) _ _ rfl rfl rfl hbo3 rfl hn rfl ?_; intro w5 hb5 hg5 hs5))
            refine bodyPost_ret (v := .tuple #[.agg (ledC noLed fun _ => nilS), .int .i64 5]) (results_cell_row2 (fn := Try.f16) rfl rfl rfl hb5 Try.underlying27 rfl Try.sizeLed) rfl ?_
            rw [swapS_no HA.out HB.out HAB'.out NO.out]
            exact change_no (ext_trans (ext_trans HW.out.ext hE2) hE3) hg5 lo
          · have e1 : decide (i < 0) = false := by simpa using h
            have e2 : decide ((na : Int) ≤ i) = false := by simpa using h2
            have e3 : decide (j < 0) = false := by simpa using h3
            have e4 : decide ((nb : Int) ≤ j) = true := by simpa using h4
            go_enter Try.func16, Try.ntmps16
            go_wp2_with (first
              | (refine led_load _ rfl rfl hbl rfl ?_)
              | (have hx2 := hbl2; go_at_call 27; refine (Mb _).mono ?_; rintro e w3 ⟨rfl, hE3⟩; have hbo3 := hbo2.ext hE3; have hbl3 := hbl2.ext hE3; clear hx2; have sa := (hbl3.cell _).trans (led_bs L V hka4); have sb := (hbl3.cell _).trans (led_bs L V hkb4); rw [HVa.out] at sa; rw [HVb.out] at sb)
              | (refine led_load _ rfl rfl hbl2 rfl ?_)
              | (go_at_call 27; refine (Ma _).mono ?_; rintro e w2 ⟨rfl, hE2⟩; have hbo2 := hbo.ext hE2; have hbl2 := hbl.ext hE2)
              | (refine led_store (L := noLed) (V := fun _ => nilS) _ _ rfl rfl rfl hbo3 rfl hn rfl ?_; intro w5 hb5 hg5 hs5))
            refine bodyPost_ret (v := .tuple #[.agg (ledC noLed fun _ => nilS), .int .i64 5]) (results_cell_row2 (fn := Try.f16) rfl rfl rfl hb5 Try.underlying27 rfl Try.sizeLed) rfl ?_
            rw [swapS_no HA.out HB.out HAB'.out NO.out]
            exact change_no (ext_trans (ext_trans HW.out.ext hE2) hE3) hg5 lo
        · clear no
          obtain ⟨i', rfl⟩ : ∃ i' : Nat, i = i' := ⟨i.toNat, by omega⟩
          obtain ⟨j', rfl⟩ : ∃ j' : Nat, j = j' := ⟨j.toNat, by omega⟩
          have hi' : i' < na := by omega
          have hj' : j' < nb := by omega
          have e2 : ¬ na ≤ i' := by omega
          have e4 : ¬ nb ≤ j' := by omega
          have e2' : decide (na ≤ i') = false := by simpa using hi'
          have e4' : decide (nb ≤ j') = false := by simpa using hj'
          have OK : inB (i' : Int) 0 ((L.t (ka : Int).toNat).bs.length - 1) = true ∧ inB (j' : Int) 0 ((L.t (kb : Int).toNat).bs.length - 1) = true := by
            simp only [Int.toNat_natCast, HNA.out, HNB.out, inB, decide_eq_true_eq]
            omega
          have HOK := Lib.hid OK
          clear OK i0 i1 j0 j1
          by_cases hgen : L.gen = 2147483647
          · have HGN := Lib.hid hgen
            clear hgen
            go_enter Try.func16, Try.ntmps16
            go_wp2_with (first
              | (refine led_load _ rfl rfl hbl rfl ?_)
              | (have hx2 := hbl2; go_at_call 27; refine (Mb _).mono ?_; rintro e w3 ⟨rfl, hE3⟩; have hbo3 := hbo2.ext hE3; have hbl3 := hbl2.ext hE3; clear hx2; have sa := (hbl3.cell _).trans (led_bs L V hka4); have sb := (hbl3.cell _).trans (led_bs L V hkb4); rw [HVa.out] at sa; rw [HVb.out] at sb)
              | (refine led_load _ rfl rfl hbl2 rfl ?_)
              | (go_at_call 27; refine (Ma _).mono ?_; rintro e w2 ⟨rfl, hE2⟩; have hbo2 := hbo.ext hE2; have hbl2 := hbl.ext hE2)
              | (refine led_load _ rfl rfl hbl3 rfl ?_)
              | (go_at_call 29; refine (next10_no L V _ HGN.out).mono ?_; rintro e w4 ⟨rfl, hE4⟩; have hBm := Blk.new w4 27 zeroC; have hbo4 := hbo3.ext hE4)
              | (refine led_store (L := noLed) (V := fun _ => nilS) _ _ rfl rfl rfl hBm rfl hn rfl ?_; intro w6 hb6 hg6 hs6; clear hBm; have hE6 := grown_trans (World.grownBy_alloc w4 (.cells zeroC 27) none) hg6 (fun p hp hlt => by injection hp with hp; omega); have hbo6 := hbo4.ext hE6)
              | (refine led_load _ rfl rfl hb6 rfl ?_)
              | (refine led_store (L := noLed) (V := fun _ => nilS) _ _ rfl rfl rfl hbo6 rfl hn rfl ?_; intro w5 hb5 hg5 hs5))
            refine bodyPost_ret (v := .tuple #[.agg (ledC noLed fun _ => nilS), .int .i64 4]) (results_cell_row2 (fn := Try.f16) rfl rfl rfl hb5 Try.underlying27 rfl Try.sizeLed) rfl ?_
            rw [swapS_yes HA.out HB.out HAB'.out HOK.out]
            unfold changedS
            rw [if_pos HGN.out]
            exact change_no (ext_trans (ext_trans (ext_trans (ext_trans HW.out.ext hE2) hE3) hE4) hE6) hg5 lo
          · have HGN := Lib.hid hgen
            have X := fun w2 (hE2 : Ext w1 w2) => next10_yes L V w2 ((HL.out.ext HW.out.ext).ext hE2) hm hgen
            clear hgen
            go_enter Try.func16, Try.ntmps16
            go_wp2_with (first
              | (refine led_load _ rfl rfl hbl rfl ?_)
              | (have hx2 := hbl2; go_at_call 27; refine (Mb _).mono ?_; rintro e w3 ⟨rfl, hE3⟩; have hbo3 := hbo2.ext hE3; have hbl3 := hbl2.ext hE3; clear hx2; have sa := (hbl3.cell _).trans (led_bs L V hka4); have sb := (hbl3.cell _).trans (led_bs L V hkb4); rw [HVa.out] at sa; rw [HVb.out] at sb)
              | (refine led_load _ rfl rfl hbl2 rfl ?_)
              | (go_at_call 27; refine (Ma _).mono ?_; rintro e w2 ⟨rfl, hE2⟩; have hbo2 := hbo.ext hE2; have hbl2 := hbl.ext hE2)
              | (refine led_load _ rfl rfl hbl3 rfl ?_)
              | (go_at_call 29; refine (X _ (ext_trans hE2 hE3)).mono ?_; rintro e w4 ⟨V1, rfl, hO4, hE4⟩; have hBm := Blk.new w4 27 zeroC; have hS4 : ∀ j, j < 4 → SliceV (V1 j) := hO4.is.slices)
              | (refine led_store _ _ rfl rfl rfl hBm rfl hS4 rfl ?_; intro w5 hb5 hg5 hs5; clear hBm; have hmid := out_mid (ext_trans (ext_trans (ext_trans HW.out.ext hE2) hE3) hE4) hO4 hE4.size hb5 hg5; have HR := Lib.hid hmid.2.2; have HE5 := Lib.hid hmid.1; have HO5 := Lib.hid ((hbo3.ext hE4).ext hmid.2.1); have HB5 := Lib.hid ((hbl3.ext hE4).ext hmid.2.1); have HZ := Lib.hid (And.intro HW.out.size (And.intro hE2.size (And.intro hE3.size hE4.size))); clear hmid hb5 hg5 hs5 hO4 hE4 hbo2 hbo3 hbl2 hbl3 hE2 hE3 sa sb))
            obtain ⟨ga, ca2, hVa2, hga1, hga2, hga3⟩ := HR.out.rows hka4 (show i' < ((bump L).t ka).bs.length by show i' < (L.t ka).bs.length; rw [HNA.out]; exact hi')
            obtain ⟨go, co2, hVo2, hgo1, hgo2, hgo3⟩ := HR.out.rows hkb4 (show j' < ((bump L).t kb).bs.length by show j' < (L.t kb).bs.length; rw [HNB.out]; exact hj')
            rw [show ((bump L).t ka).bs.length = na from HNA.out] at hVa2
            rw [show ((bump L).t kb).bs.length = nb from HNB.out] at hVo2
            have hne4 : ka ≠ kb := hab
            have hgg : ga ≠ go := fun e => HR.out.own.apart ka kb hka4 hkb4 hne4 ga (by rw [hVa2]; rfl) (by rw [hVo2, e]; rfl)
            have iaw : Ints w (.slice aa (L.t ka).bs.length ca) (L.t ka).bs := by have := HL.out ka hka4; rw [HVa.out, ← HNA.out] at this; exact this
            have ibw : Ints w (.slice ab (L.t kb).bs.length cb) (L.t kb).bs := by have := HL.out kb hkb4; rw [HVb.out, ← HNB.out] at this; exact this
            obtain ⟨ba, oa, rfl, cxw⟩ := ints_at iaw (i := i') (by rw [HNA.out]; exact hi')
            obtain ⟨bb, ob, rfl, cyw⟩ := ints_at ibw (i := j') (by rw [HNB.out]; exact hj')
            have hba : ba < w.heap.size := World.block_lt_of_cell? w _ cxw
            have hbb : bb < w.heap.size := World.block_lt_of_cell? w _ cyw
            obtain ⟨x, hx⟩ : ∃ x, (L.t ka).bs.getD i' 0 = x := ⟨_, rfl⟩
            obtain ⟨y, hy⟩ : ∃ y, (L.t kb).bs.getD j' 0 = y := ⟨_, rfl⟩
            rw [hx] at cxw
            rw [hy] at cyw
            have cx5 := HE5.out.cell cxw (by simp)
            have cy5 := HE5.out.cell cyw (by simp)
            have ra5 : w5.ownsRow w3.heap.size 3 1 (.slice (some ⟨ga, 0, none⟩) na ca2) na (((bump L).t ka).bs.map (Value.int .i64)) := by
              have h := HR.out.own.own ka hka4
              unfold OwnI at h
              rw [hVa2, show ((bump L).t ka).bs.length = na from HNA.out] at h
              exact h
            have ro5 : w5.ownsRow w3.heap.size 3 1 (.slice (some ⟨go, 0, none⟩) nb co2) nb (((bump L).t kb).bs.map (Value.int .i64)) := by
              have h := HR.out.own.own kb hkb4
              unfold OwnI at h
              rw [hVo2, show ((bump L).t kb).bs.length = nb from HNB.out] at h
              exact h
            have ta5 := ra5.cellAt i' (by omega)
            have to5 := ro5.cellAt j' (by omega)
            have fa5 := ra5.frozenAt i'
            have fo5 := ro5.frozenAt j'
            have na_le : na ≤ 1048576 := hma
            have nb_le : nb ≤ 1048576 := hmb
            obtain ⟨oldx, hox⟩ : ∃ v, (((bump L).t ka).bs.map (Value.int .i64))[i']? = some v := by
              rw [List.getElem?_map, List.getElem?_eq_getElem (show i' < ((bump L).t ka).bs.length by show i' < (L.t ka).bs.length; rw [HNA.out]; exact hi')]
              exact ⟨_, rfl⟩
            obtain ⟨oldy, hoy⟩ : ∃ v, (((bump L).t kb).bs.map (Value.int .i64))[j']? = some v := by
              rw [List.getElem?_map, List.getElem?_eq_getElem (show j' < ((bump L).t kb).bs.length by show j' < (L.t kb).bs.length; rw [HNB.out]; exact hj')]
              exact ⟨_, rfl⟩
            rw [hox] at ta5
            rw [hoy] at to5
            have sga := (HR.out.blk.cell _).trans (led_bs (bump L) V1 hka4)
            have sgo := (HR.out.blk.cell _).trans (led_bs (bump L) V1 hkb4)
            rw [hVa2] at sga
            rw [hVo2] at sgo
            have sla := (HB5.out.cell _).trans (led_bs L V hka4)
            have slb := (HB5.out.cell _).trans (led_bs L V hkb4)
            rw [HVa.out] at sla
            rw [HVb.out] at slb
            obtain ⟨g, hg⟩ : ∃ g, w4.heap.size = g := ⟨_, rfl⟩
            have hZ := HZ.out
            have hnB : w.heap.size < w3.heap.size := by omega
            rw [hg] at sga sgo hga3 hgo3 ⊢
            have HG := Lib.hid hg
            have HV2 := Lib.hid (And.intro hVa2 hVo2)
            have HXY := Lib.hid (And.intro hx hy)
            have HT := Lib.hid (And.intro ta5 (And.intro to5 (And.intro fa5 fo5)))
            have ga_g : ga ≠ g := hga3
            have go_g : go ≠ g := hgo3
            let S : World → Prop := fun z => z.cell? ⟨g, 2 + ka * 5 + 4, none⟩ = some (.slice (some ⟨ga, 0, none⟩) na ca2) ∧ z.cell? ⟨g, 2 + kb * 5 + 4, none⟩ = some (.slice (some ⟨go, 0, none⟩) nb co2) ∧
              z.cell? ⟨w.heap.size, 2 + ka * 5 + 4, none⟩ = some (.slice (some ⟨ba, oa, none⟩) na ca) ∧ z.cell? ⟨w.heap.size, 2 + kb * 5 + 4, none⟩ = some (.slice (some ⟨bb, ob, none⟩) nb cb) ∧
              z.cell? ⟨bb, ob + j', none⟩ = some (.int .i64 y) ∧ z.cell? ⟨ba, oa + i', none⟩ = some (.int .i64 x)
            have hS : S w5.drew := ⟨sga, sgo, sla, slb, cy5, cx5⟩
            have keep : ∀ (z z' : World) (p : Nat), z.grownBy z' (some p) → p ≠ g → p ≠ w.heap.size → p ≠ bb → p ≠ ba → S z → S z' := fun _ _ _ hgz h1 h2 h3 h4 hz =>
              ⟨hgz.cell hz.1 (fun e => h1 (Option.some.inj e).symm), hgz.cell hz.2.1 (fun e => h1 (Option.some.inj e).symm), hgz.cell hz.2.2.1 (fun e => h2 (Option.some.inj e).symm), hgz.cell hz.2.2.2.1 (fun e => h2 (Option.some.inj e).symm),
                hgz.cell hz.2.2.2.2.1 (fun e => h3 (Option.some.inj e).symm), hgz.cell hz.2.2.2.2.2 (fun e => h4 (Option.some.inj e).symm)⟩
            clear hg hVa2 hVo2 hx hy ta5 to5 fa5 fo5 sga sgo sla slb cy5 cx5 cxw cyw hox hoy ra5 ro5 iaw ibw hga3 hgo3 e2 e4 e2' e4' hq hn hma hmb hbo hbl hw1 lo
            have KEEP := Lib.hid keep
            clear keep
            refine region_line [(0, true), (1, true), (2, true), (3, true), (4, true), (5, true), (6, true), (7, true), (8, true), (9, true), (10, true), (11, true), (12, true), (13, true), (14, true), (15, false)] S (by kernel_rfl) (by kernel_rfl) (fun _ _ _ d _ h => by cases d <;> exact h) hS ?_
            repeat (refine line_read (a' := ?_) rfl (by kernel_rfl) (by kernel_rfl) hS (fun x hx K hK => ?_) ?_; rotate_left; · (obtain ⟨x1, x2, x3, x4, x5, x6⟩ := hx; go_wp2; exact hK))
            refine line_act (by rfl) (fun K hK => ?_)
            have ta5 : w5.cell? ⟨ga, i', none⟩ = some oldx := HT.out.1
            have fa5 : w5.frozen? ⟨ga, i', none⟩ = false := HT.out.2.2.1
            go_wp2
            have hg6 : w5.drew.grownBy (w5.setCell ⟨ga, i', none⟩ (.int .i64 y)).drew (some ga) := gb_set (gb_refl w5.drew (some ga)) i' (.int .i64 y)
            have hS6 : S (w5.setCell ⟨ga, i', none⟩ (.int .i64 y)).drew := KEEP.out _ _ _ hg6 ga_g (by omega) (by omega) (by omega) hS
            refine hK _ _ S hS6 (fun x hx => hx) ?_
            clear hK K ta5 fa5
            refine line_end ?_
            go_wp2
            have hS7 : S (w5.setCell ⟨ga, i', none⟩ (.int .i64 y)).drew.drew := hS6
            refine region_line [(0, true), (1, true), (2, true), (3, true), (4, true), (5, true), (6, true), (7, true), (8, true), (9, true), (10, true), (11, true), (12, true), (13, true), (14, true), (15, false)] S (by kernel_rfl) (by kernel_rfl) (fun _ _ _ d _ h => by cases d <;> exact h) hS7 ?_
            repeat (refine line_read (a' := ?_) rfl (by kernel_rfl) (by kernel_rfl) hS7 (fun x hx K hK => ?_) ?_; rotate_left; · (obtain ⟨x1, x2, x3, x4, x5, x6⟩ := hx; go_wp2; exact hK))
            refine line_act (by rfl) (fun K hK => ?_)
            have to6 : (w5.setCell ⟨ga, i', none⟩ (.int .i64 y)).cell? ⟨go, j', none⟩ = some oldy := by
              rw [World.cell?_setCell_other _ _ _ _ (fun e => hgg (by injection e))]
              exact HT.out.2.1
            have fo6 : (w5.setCell ⟨ga, i', none⟩ (.int .i64 y)).frozen? ⟨go, j', none⟩ = false := by
              rw [World.frozen?_setCell]
              exact HT.out.2.2.2
            go_wp2
            have hg8 : (w5.setCell ⟨ga, i', none⟩ (.int .i64 y)).drew.drew.grownBy ((w5.setCell ⟨ga, i', none⟩ (.int .i64 y)).setCell ⟨go, j', none⟩ (.int .i64 x)).drew.drew (some go) := gb_set (gb_refl (w5.setCell ⟨ga, i', none⟩ (.int .i64 y)).drew.drew (some go)) j' (.int .i64 x)
            have hS8 : S ((w5.setCell ⟨ga, i', none⟩ (.int .i64 y)).setCell ⟨go, j', none⟩ (.int .i64 x)).drew.drew := KEEP.out _ _ _ hg8 go_g (by omega) (by omega) (by omega) hS7
            refine hK _ _ S hS8 (fun x hx => hx) ?_
            clear hK K to6 fo6 hS hS6 hS7 hS8
            refine line_end ?_
            have hD := swap_end (L := bump L) HR.out hka4 hkb4 hab (show i' < ((bump L).t ka).bs.length by show i' < (L.t ka).bs.length; rw [HNA.out]; exact hi') (show j' < ((bump L).t kb).bs.length by show j' < (L.t kb).bs.length; rw [HNB.out]; exact hj') HV2.out.1 HV2.out.2 HXY.out.1 HXY.out.2 hga1 hgo1 hgg
            obtain ⟨_, V2, hbD, hID, hlD, hbelD⟩ := hD
            rw [HG.out] at hbD
            have hboD := HO5.out.below hbelD (by omega)
            obtain ⟨w8, hw8⟩ : ∃ v, ((w5.setCell ⟨ga, i', none⟩ (.int .i64 y)).setCell ⟨go, j', none⟩ (.int .i64 x)).drew.drew = v := ⟨_, rfl⟩
            rw [hw8] at hbD hID hlD hbelD hboD ⊢
            clear hw8 hg6 hg8
            go_wp2_with (first
              | (refine led_load _ rfl rfl hbD rfl ?_)
              | (refine led_store _ _ rfl rfl rfl hboD rfl hID.slices rfl ?_; intro w9 hb9 hg9 hs9))
            refine bodyPost_ret (v := .tuple #[.agg (ledC (swapL (bump L) ka i' kb j') V2), .int .i64 0]) (results_cell_row2 (fn := Try.f16) rfl rfl rfl hb9 Try.underlying27 rfl Try.sizeLed) rfl ?_
            rw [swapS_yes HA.out HB.out HAB'.out HOK.out]
            unfold changedS
            rw [if_neg HGN.out]
            simp only [Int.toNat_natCast]
            exact change_end HE5.out hID hlD hbelD (by have := HZ.out; omega) hg9
    · have Mb := fun w => there10_any L V b w
      have hne : (missT L b != 0) = true := by simpa using hB
      obtain ⟨n, hnn⟩ : ∃ n, missT L b = n := ⟨_, rfl⟩
      rw [hnn] at Mb hne hB
      have HN := Lib.hid hnn
      have HB := Lib.hid hB
      clear hB hnn
      go_enter Try.func16, Try.ntmps16
      go_wp2_with (first
        | (refine led_load _ rfl rfl hbl rfl ?_)
        | (have hx2 := hbl2; go_at_call 27; refine (Mb _).mono ?_; rintro e w3 ⟨rfl, hE3⟩; have hbo3 := hbo2.ext hE3; have hbl3 := hbl2.ext hE3; clear hx2)
        | (refine led_load _ rfl rfl hbl2 rfl ?_)
        | (go_at_call 27; refine (Ma _).mono ?_; rintro e w2 ⟨rfl, hE2⟩; have hbo2 := hbo.ext hE2; have hbl2 := hbl.ext hE2)
        | (refine led_store (L := noLed) (V := fun _ => nilS) _ _ rfl rfl rfl hbo3 rfl hn rfl ?_; intro w5 hb5 hg5 hs5))
      refine bodyPost_ret (v := .tuple #[.agg (ledC noLed fun _ => nilS), .int .i64 n]) (results_cell_row2 (fn := Try.f16) rfl rfl rfl hb5 Try.underlying27 rfl Try.sizeLed) rfl ?_
      rw [swapS_b HA.out HN.out HB.out]
      exact change_no (ext_trans (ext_trans HW.out.ext hE2) hE3) hg5 lo
  · have Ma := fun w => there10_any L V a w
    have hne : (missT L a != 0) = true := by simpa using hA
    obtain ⟨n, hnn⟩ : ∃ n, missT L a = n := ⟨_, rfl⟩
    rw [hnn] at Ma hne hA
    have HN := Lib.hid hnn
    have HA := Lib.hid hA
    clear hA hnn
    go_enter Try.func16, Try.ntmps16
    go_wp2_with (first
      | (refine led_load _ rfl rfl hbl rfl ?_)
      | (go_at_call 27; refine (Ma _).mono ?_; rintro e w2 ⟨rfl, hE2⟩; have hbo2 := hbo.ext hE2; have hbl2 := hbl.ext hE2)
      | (refine led_store (L := noLed) (V := fun _ => nilS) _ _ rfl rfl rfl hbo2 rfl hn rfl ?_; intro w5 hb5 hg5 hs5))
    refine bodyPost_ret (v := .tuple #[.agg (ledC noLed fun _ => nilS), .int .i64 n]) (results_cell_row2 (fn := Try.f16) rfl rfl rfl hb5 Try.underlying27 rfl Try.sizeLed) rfl ?_
    rw [swapS_a HN.out HA.out]
    exact change_no (ext_trans HW.out.ext hE2) hg5 lo

end Go.Proofs.Ytkaiijlgmfeblaa
