/-
  Texts put together: MG.
-/
import Derived.Test.YtfibpgfjlmlpaaaGreatDoorM23
/-
  Layer 18's law: StoreReads.
-/
namespace Go.Proofs.YtfibpgfjlmlpaaaGreatDoor
set_option linter.unusedVariables false
set_option linter.unusedSimpArgs false
set_option linter.unusedVariables false
set_option linter.unusedSimpArgs false
set_option maxRecDepth 100000
open Go.RowKit

set_option maxHeartbeats 6400000 in
theorem storeReads18_any (n0 n1 n2 n3 : Int) (ao : Option Addr) (n cap : Nat) (zs : List Int) (a : Option Addr) (len cap2 : Nat) (A : Nat → Act18) (w : World) (hF : Flds w) (W : WardP w n0 n1 n2 n3 ao n cap zs) (h : Acts18 w a len A) :
    Calls Tryz.prog 3 #[.agg #[.int .i64 n0, .int .i64 n1, .int .i64 n2, .int .i64 n3, .slice ao n cap], .slice a len cap2] w fun e w' => e = .returned (.bool true) ∧ w.grownBy w' none := by
  have B0 := Blk.new w 24 (wardC n0 n1 n2 n3 ao n cap)
  have E0 := World.grownBy_alloc w (.cells (wardC n0 n1 n2 n3 ao n cap) 24) none
  obtain ⟨w1, hw1⟩ : ∃ v, w.alloc (.cells (wardC n0 n1 n2 n3 ao n cap) 24) = v := ⟨_, rfl⟩
  have hw1' : w.alloc (.cells #[.int .i64 n0, .int .i64 n1, .int .i64 n2, .int .i64 n3, .slice ao n cap] 24) = w1 := hw1
  obtain ⟨wb, hwb⟩ : ∃ v, w.heap.size = v := ⟨_, rfl⟩
  rw [hw1] at B0 E0
  rw [hwb] at B0
  have FX := fixed18_any w1 (hF.ext E0)
  have HF := Lib.hid hF
  have HW := Lib.hid W
  have HA := Lib.hid h
  have FW := Lib.hid (fun (wx : World) (hE : w.grownBy wx none) => few18_any n0 n1 n2 n3 ao n cap zs a len cap2 A wx (W.ext hE) (show Acts18 wx a len A from ⟨h.1, fun i hi => by
    obtain ⟨⟨b, off, h1, h2, h3⟩, h4⟩ := h.2 i hi
    exact ⟨⟨b, off, h1, fun j u hj => hE.cell (h2 j u hj) (by simp), Nat.lt_of_lt_of_le h3 hE.size⟩, h4⟩⟩))
  have hlm : len ≤ 9223372036854775807 := h.1
  have H0 := Lib.hid (And.intro B0 E0)
  have HWB := Lib.hid hwb
  clear hF B0 E0 hw1 W h
  go_enter Tryz.func3, Tryz.ntmps3
  go_upto_region 3 with (go_at_call 10; refine FX.mono ?_; rintro e w2 ⟨rfl, hE2⟩; have H2 := Lib.hid (And.intro (H0.out.1.ext hE2) (ext_trans H0.out.2 hE2)); clear hE2)
  clear FX hw1' hwb
  have B2 : Blk w2 wb 24 (wardC n0 n1 n2 n3 ao n cap) := H2.out.1
  have FW2 := FW.out w2 H2.out.2
  by_cases hfew : FewP18 len n A
  case neg =>
    have FW3 : Calls Tryz.prog 11 #[.agg #[.int .i64 n0, .int .i64 n1, .int .i64 n2, .int .i64 n3, .slice ao n cap], .slice a len cap2] w2 fun e w' => e = .returned (.bool false) ∧ w2.grownBy w' none := FW2.mono fun e w' ⟨⟨b, h1, h2⟩, h3⟩ => ⟨by cases b; exact h1; exact absurd (h2.1 rfl) hfew, h3⟩
    clear FW2 hfew
    go_wp2_with (first
      | (refine ward_load18 rfl _ rfl rfl B2 ?_)
      | (go_at_call 11; refine FW3.mono ?_; rintro e w3 ⟨rfl, hg3⟩))
    go_ret
    exact ⟨rfl, ext_trans H2.out.2 hg3⟩
  have FW3 : Calls Tryz.prog 11 #[.agg #[.int .i64 n0, .int .i64 n1, .int .i64 n2, .int .i64 n3, .slice ao n cap], .slice a len cap2] w2 fun e w' => e = .returned (.bool true) ∧ w2.grownBy w' none := FW2.mono fun e w' ⟨⟨b, h1, h2⟩, h3⟩ => ⟨by cases b; exact absurd (h2.2 hfew) (by decide); exact h1, h3⟩
  have HFEW := Lib.hid hfew
  clear FW2 hfew
  go_upto_region 5 with (first
    | (refine ward_load18 rfl _ rfl rfl B2 ?_)
    | (go_at_call 11; refine FW3.mono ?_; rintro e w3 ⟨rfl, hg3⟩; have H3 := Lib.hid (And.intro (H2.out.1.ext hg3) (ext_trans H2.out.2 hg3)); clear hg3))
  clear B2 FW3
  have B3 : Blk w3 wb 24 (wardC n0 n1 n2 n3 ao n cap) := H3.out.1
  have OP3 := open18 n0 n1 n2 n3 (.slice ao n cap) zs w3 (HF.out.ext H3.out.2) (HW.out.is.kept H3.out.2 (by simp)) (fun k hk => Nat.lt_of_lt_of_le (HW.out.lt k hk) H3.out.2.size) (by have := HFEW.out.2.2; have := HW.out.len; omega)
  by_cases hne : newE (zsO zs) = 0
  case neg =>
    have OP4 : Calls Tryz.prog 12 #[.agg #[.int .i64 n0, .int .i64 n1, .int .i64 n2, .int .i64 n3, .slice ao n cap], .int .i64 (-1)] w3 fun e w' => (∃ ao n cap, e = .returned (.tuple #[.pointer none, .pointer none, .pointer none, .pointer none, .agg #[.bool true, .int .i64 1, .int .i64 (szO n0), .int .i64 (prO n1), .slice ao n cap]])) ∧ w3.grownBy w' none := OP3.mono fun e w' hop => (hop.resolve_right (fun h => hne h.1)).2
    clear OP3 hne
    go_wp2_with (first
      | (refine ward_load18 rfl _ rfl rfl B3 ?_)
      | (go_at_call 12; refine OP4.mono ?_; rintro e w4 ⟨⟨vo, vn, vc, rfl⟩, hg4⟩; have hBn := Blk.new w4 33 (teC false 0 0 0 (.slice none 0 0)))
      | (refine ten_store18 _ _ rfl rfl rfl hBn rfl rfl ?_; intro w5 hb5 hg5 hs5))
    go_ret
    exact ⟨rfl, ext_trans H3.out.2 (g17_new (ext_trans hg4 (World.grownBy_alloc w4 _ none)) hg5 hg4.size)⟩
  go_upto_region 8 with (first
    | (refine ward_load18 rfl _ rfl rfl B3 ?_)
    | (go_at_call 12; refine OP3.mono ?_; rintro e w4 hop; obtain ⟨_, p, S, v, rfl, hO⟩ := hop.resolve_left (fun h => h.1 hne); have HO := Lib.hid hO; obtain ⟨vo, vn, vc, rfl⟩ := hO.vf; have hBn := Blk.new w4 33 (teC false 0 0 0 (.slice none 0 0)); clear hop hO)
    | (refine ten_store18 _ _ rfl rfl rfl hBn rfl rfl ?_; intro w5 hb5 hg5 hs5))
  clear hne
  have CU : LwU w3 p (cO S zs (szO n0) (prO n1) (toO n0 n1 n2 n3).toNat) w4.heap.size := ⟨⟨HO.out.ok, stt_O HO.out.pgs HO.out.all, HO.out.lo, HO.out.lb, rfl⟩, HO.out.st.fresh (Nat.le_refl _)⟩
  have E45 : w4.grownBy w5 none := g17_new (World.grownBy_alloc w4 _ none) hg5 (Nat.le_refl _)
  have Z0 : LwB w3 p (cO S zs (szO n0) (prO n1) (toO n0 n1 n2 n3).toNat) w4.heap.size (.slice vo vn vc) m0F 0 w5 := ⟨⟨HO.out.st.ext HO.out.ok E45, inv_O (open_room n0 n1 n2 n3), wf_O.mono (by omega), ext_trans HO.out.ext E45⟩, by decide, hb5⟩
  have E56 := World.grownBy_alloc w5 (.map #[] 0) none
  have C := Lib.hid (show LwV w3 p (cO S zs (szO n0) (prO n1) (toO n0 n1 n2 n3).toNat) w4.heap.size w5.heap.size from ⟨CU, Z0.lw.st.fresh (Nat.le_refl _), by have := hb5.lt; omega, Z0.lw.out.size, by have := hb5.lt; omega⟩)
  have N0 := Lib.hid (show LwN w3 p (cO S zs (szO n0) (prO n1) (toO n0 n1 n2 n3).toNat) w4.heap.size (.slice vo vn vc) w5.heap.size m0F 0 0 (fun _ => none) (w5.alloc (.map #[] 0)) from ⟨Z0.ext CU E56, MapX.made _ _ _ _⟩)
  have V0 := Lib.hid (show AllV (cO S zs (szO n0) (prO n1) (toO n0 n1 n2 n3).toNat) m0F (fun _ => none) from fun q _ _ => val_O q)
  have HS := Lib.hid (show S = (cO S zs (szO n0) (prO n1) (toO n0 n1 n2 n3).toNat).S from rfl)
  have hszi := szO_in n0
  have HSZ := Lib.hid (show (cO S zs (szO n0) (prO n1) (toO n0 n1 n2 n3).toNat).sz = szO n0 from rfl)
  obtain ⟨c, hc⟩ : ∃ z, cO S zs (szO n0) (prO n1) (toO n0 n1 n2 n3).toNat = z := ⟨_, rfl⟩
  rw [hc] at C N0 V0 HS HSZ
  obtain ⟨tb, htb⟩ : ∃ z, w4.heap.size = z := ⟨_, rfl⟩
  rw [htb] at C N0 ⊢
  clear hb5 hg5 hs5 hBn B3 OP3 HO E45 hc htb H0 H2 CU Z0 E56
  rw [HS.out]
  clear HS
  have hmm := @run_makeMap Tryz.prog
  go_upto_region 9 with fail
  obtain ⟨mb, hmb⟩ : ∃ z, w5.heap.size = z := ⟨_, rfl⟩
  obtain ⟨w6, hw6⟩ : ∃ z, w5.alloc (.map #[] 0) = z := ⟨_, rfl⟩
  rw [hmb, hw6] at N0
  rw [hmb] at C
  rw [hmb, hw6]
  clear hmb hw6 hmm
  have HSI := Lib.hid hszi
  clear hszi
  go_wp2
  go_loopw [44] (fun i wr => ∃ (k cnt : Nat) (m : SM) (M : Int → Option ByteArray), k ≤ len ∧ i = .int .i64 k ∧ cnt ≤ 2 * k ∧ LwN w3 p c tb (.slice vo vn vc) mb m (2 * k) cnt M wr ∧ AllV c m M) (fun i _ => len - (intOf i).toNat)
  case atStart => exact ⟨0, 0, _, _, Nat.zero_le _, rfl, by omega, N0.out, V0.out⟩
  case round =>
    obtain ⟨k, cnt, m, M, hk, rfl, hcnt, hN, hV⟩ := hrel
    obtain ⟨wo, rfl⟩ : ∃ wo : World, wo = wr := ⟨_, rfl⟩
    have N := Lib.hid hN
    have V := Lib.hid hV
    have HC := Lib.hid hcnt
    have t2 := Lib.hid (fun (wx : World) (h : Blk wx tb 33 #[.bool true, .int .i64 1, .int .i64 c.sz, .int .i64 c.sp, .slice vo vn vc]) => And.intro (show wx.cell? ⟨tb, 2, none⟩ = some (.int .i64 c.sz) from h.cell 2) (show wx.cell? ⟨tb, 3, none⟩ = some (.int .i64 c.sp) from h.cell 3))
    clear hN hV hcnt
    by_cases hlt : k < len
    · have hk1 : 2 * k + 2 < 1000 := by have := HFEW.out.2.1; omega
      obtain ⟨⟨ab, abo, rfl, hr, _⟩, hkd, hpl, hdt⟩ := HA.out.2 k hlt
      have hr1 : wo.rangeAt ab (abo + k * 3) (act18C (A k)).toList := fun j u hj => (ext_trans H3.out.2 N.out.b.lw.out).cell (hr j u hj) (by simp)
      generalize A k = x at hr1 hdt hkd hpl
      clear hr
      have hBa := Blk.new wo 38 #[.int .u8 0, .int .i64 0, .string ⟨#[]⟩]
      go_upto_region 12 with (first
        | (refine act18_load rfl _ rfl rfl hr1 ?_)
        | (refine act18_store _ _ rfl rfl rfl hBa rfl rfl ?_; intro w6 hb6 hg6 hs6; have N6 := Lib.hid (N.out.ext C.out (g17_new (World.grownBy_alloc wo _ none) hg6 (Nat.le_refl _))); have B6 := Lib.hid hb6; have HAT := Lib.hid (N.out.b.lw.st.fresh (Nat.le_refl wo.heap.size)); clear hBa hg6 hs6 hb6 hr1))
      have HT := Lib.hid (show tS p c wo.heap.size = 0 from HAT.out)
      have K := Lib.hid (show LwK w3 p c tb mb wo.heap.size from ⟨C.out, HT.out, by have := N.out.mp.lt; omega⟩)
      have A6 := Lib.hid (show LwA w3 p c tb (.slice vo vn vc) mb wo.heap.size x m (2 * k) cnt M w6 from ⟨N6.out, B6.out⟩)
      obtain ⟨xb, hxb⟩ : ∃ z, wo.heap.size = z := ⟨_, rfl⟩
      rw [hxb] at K A6 ⊢
      clear hxb HAT HT B6 N6 N
      have XC := Lib.hid (fun (wx : World) (h : Blk wx xb 38 (act18C x)) => And.intro (show wx.cell? ⟨xb, 0, none⟩ = some (.int .u8 x.kd) from h.cell 0) (And.intro (show wx.cell? ⟨xb, 1, none⟩ = some (.int .i64 x.pl) from h.cell 1) (show wx.cell? ⟨xb, 2, none⟩ = some (.string x.dt) from h.cell 2)))
      obtain ⟨kd, hkde⟩ : ∃ z, x.kd = z := ⟨_, rfl⟩
      obtain ⟨pl, hple⟩ : ∃ z, x.pl = z := ⟨_, rfl⟩
      obtain ⟨dt, hdte⟩ : ∃ z, x.dt = z := ⟨_, rfl⟩
      rw [hkde, hple, hdte] at XC
      rw [hkde] at hkd
      rw [hple] at hpl
      rw [hdte] at hdt
      have HOK := Lib.hid (show okI pl from okI_of hpl.1 hpl.2)
      have HDT := Lib.hid hdt
      have HKD := Lib.hid hkd
      clear hkde hple hdte hkd hpl hdt
      obtain ⟨inb, hinb⟩ : ∃ z, decide (0 ≤ pl ∧ pl < c.sz) = z := ⟨_, rfl⟩
      have HIN := Lib.hid hinb.symm
      clear hinb
      obtain ⟨c0, c1, c2⟩ := XC.out w6 A6.out.a
      obtain ⟨d2, d3⟩ := t2.out w6 A6.out.n.b.bt
      go_upto_region 12 with fail
      go_frame
      go_cut [13] (fun v wx => v = .bool inb ∧ wx = w6)
      case first =>
        have hi := HIN.out
        by_cases h1 : 0 ≤ pl
        · by_cases h2 : pl < c.sz
          · have HI := Lib.hid (show inb = true by rw [hi]; exact decide_eq_true ⟨h1, h2⟩)
            clear hi
            go_wp2
            go_meet
            exact ⟨by rw [HI.out], rfl⟩
          · have HI := Lib.hid (show inb = false by rw [hi]; exact decide_eq_false (fun h => h2 h.2))
            clear hi
            go_wp2
            go_meet
            exact ⟨by rw [HI.out], rfl⟩
        · have HI := Lib.hid (show inb = false by rw [hi]; exact decide_eq_false (fun h => h1 h.1))
          clear hi
          go_wp2
          go_meet
          exact ⟨by rw [HI.out], rfl⟩
      case rest =>
        obtain ⟨rfl, rfl⟩ := hcut
        have RO6 := readOnly18 A6.out.n.b.lw.st
        obtain ⟨was, hwas⟩ : ∃ z, m.ro = z := ⟨_, rfl⟩
        rw [hwas] at RO6
        have HWAS := Lib.hid hwas
        clear hwas d2 d3
        go_upto_block 2 with (go_at_call 13; refine RO6.mono ?_; rintro e w7 ⟨rfl, rfl⟩)
        have hkd := HKD.out
        have hmod : kd.tmod 5 = 0 ∨ kd.tmod 5 = 1 ∨ kd.tmod 5 = 2 ∨ kd.tmod 5 = 3 ∨ kd.tmod 5 = 4 := by
          rw [Int.tmod_eq_emod_of_nonneg hkd.1]
          omega
        clear hkd
        go_cut [] (fun wx => ∃ (m' : SM) (cnt' : Nat) (M' : Int → Option ByteArray), cnt' ≤ 2 * (k + 1) ∧ LwN w3 p c tb (.slice vo vn vc) mb m' (2 * k + 2) cnt' M' wx ∧ AllV c m' M')
        case first =>
          rcases hmod with hm0 | hm0 | hm0 | hm0 | hm0
          · as_aux_lemma =>
            have b0 : (kd.tmod 5 == 0) = true := by rw [hm0]; rfl
            clear hm0 RO6
            obtain ⟨e1, m1, TR, P1⟩ := A6.out.trim K.out (by omega) pl
            have S1 := Lib.hid (P1.sw V.out id HIN.out (lg := false) rfl)
            have PR := Lib.hid P1.ro
            clear P1
            go_upto_if 73 with (go_at_call 14; refine TR.mono ?_; rintro e w7 ⟨rfl, hA7⟩; have A7 := Lib.hid hA7; obtain ⟨x0, x1, x2⟩ := XC.out w7 hA7.a; clear hA7)
            clear TR c0 c1 c2
            clear x0 x1 x2
            rcases S1.out with ⟨hi, he, hv⟩ | ⟨hi, hl, he, hv⟩ | ⟨hi, hl, ⟨he, hr, hv⟩ | ⟨he, hr, hv⟩⟩
            · as_aux_lemma =>
              have HV0 := Lib.hid hv
              have e0 : (e1 == 0) = false := by rw [he]; rfl
              clear hv he
              subst hi
              obtain ⟨y0, y1, y2⟩ := XC.out w7 A7.out.a
              go_upto_region 23 with fail
              clear y0 y1 y2
              have A8 := Lib.hid A7.out
              have V1 := Lib.hid HV0.out
              clear A7
              obtain ⟨x0, x1, x2⟩ := XC.out _ A8.out.a
              obtain ⟨e2, m2, WR, P2⟩ := A8.out.write K.out (by omega) pl dt HDT.out
              by_cases hbig : (16 : Int) < dt.size
              · have S2 := Lib.hid (P2.sw V1.out PR.out HIN.out (lg := true) (decide_eq_true (show 16 < dt.size by omega)).symm)
                clear P2
                go_upto_block 3 with (go_at_call 15; refine WR.mono ?_; rintro e w9 ⟨rfl, hA9⟩; have A9 := Lib.hid hA9; obtain ⟨y0, y1, y2⟩ := XC.out w9 hA9.a; clear hA9)
                clear WR x0 x1 x2
                rcases S2.out with ⟨hi, he, hv⟩ | ⟨hi, hl, he, hv⟩ | ⟨hi, hl, ⟨he, hr, hv⟩ | ⟨he, hr, hv⟩⟩
                · have HV := Lib.hid hv
                  have e5 : (e2 != 5) = false := by rw [he]; rfl
                  clear hv he
                  clear hi
                  go_wp2
                  go_meet
                  exact ⟨_, _, _, by have := HC.out; omega, A9.out.n.mono (by omega) (Nat.le_refl _), HV.out⟩
                · cases hi
                · cases hi
                · cases hi
              · have S2 := Lib.hid (P2.sw V1.out PR.out HIN.out (lg := false) (decide_eq_false (show ¬ 16 < dt.size by omega)).symm)
                clear P2
                go_upto_block 3 with (go_at_call 15; refine WR.mono ?_; rintro e w9 ⟨rfl, hA9⟩; have A9 := Lib.hid hA9; obtain ⟨y0, y1, y2⟩ := XC.out w9 hA9.a; clear hA9)
                clear WR x0 x1 x2
                rcases S2.out with ⟨hi, he, hv⟩ | ⟨hi, hl, he, hv⟩ | ⟨hi, hl, ⟨he, hr, hv⟩ | ⟨he, hr, hv⟩⟩
                · have HV := Lib.hid hv
                  have e5 : (e2 != 5) = false := by rw [he]; rfl
                  clear hv he
                  clear hi
                  go_wp2
                  go_meet
                  exact ⟨_, _, _, by have := HC.out; omega, A9.out.n.mono (by omega) (Nat.le_refl _), HV.out⟩
                · cases hi
                · cases hi
                · cases hi
            · cases hl
            · as_aux_lemma =>
              have HV0 := Lib.hid hv
              have e0 : (e1 == 0) = true := by rw [he]; rfl
              clear hv he hr hl
              subst hi
              have MP7 := A7.out.n.mp
              obtain ⟨y0, y1, y2⟩ := XC.out w7 A7.out.a
              go_upto_region 23 with (refine put_map18 rfl _ _ _ rfl MP7 (by have := HC.out; have := hk1; omega) rfl pl rfl HOK.out ⟨#[]⟩ rfl ?_; intro w10 hm10 hg10; have A10 := Lib.hid (A7.out.put K.out hm10 hg10); clear hm10 hg10)
              clear y0 y1 y2 MP7
              have A8 := Lib.hid A10.out
              have V1 := Lib.hid HV0.out
              clear A10
              obtain ⟨x0, x1, x2⟩ := XC.out _ A8.out.a
              obtain ⟨e2, m2, WR, P2⟩ := A8.out.write K.out (by omega) pl dt HDT.out
              by_cases hbig : (16 : Int) < dt.size
              · have S2 := Lib.hid (P2.sw V1.out PR.out HIN.out (lg := true) (decide_eq_true (show 16 < dt.size by omega)).symm)
                clear P2
                go_upto_block 3 with (go_at_call 15; refine WR.mono ?_; rintro e w9 ⟨rfl, hA9⟩; have A9 := Lib.hid hA9; obtain ⟨y0, y1, y2⟩ := XC.out w9 hA9.a; clear hA9)
                clear WR x0 x1 x2
                rcases S2.out with ⟨hi, he, hv⟩ | ⟨hi, hl, he, hv⟩ | ⟨hi, hl, ⟨he, hr, hv⟩ | ⟨he, hr, hv⟩⟩
                · cases hi
                · have HV := Lib.hid hv
                  have e3 : (e2 != 3) = false := by rw [he]; rfl
                  clear hv he
                  first
                    | (exact absurd hl (by decide))
                    | (clear hi
                       clear hl
                       go_wp2
                       go_meet
                       exact ⟨_, _, _, by have := HC.out; omega, A9.out.n.mono (by omega) (Nat.le_refl _), HV.out⟩)
                · have HV := Lib.hid hv
                  have e0 : (e2 == 0) = true := by rw [he]; rfl
                  have hw : was = false := by rw [← HWAS.out]; exact hr
                  clear hv he hr
                  first
                    | (exact absurd hl (by decide))
                    | (clear hi
                       subst hw
                       clear hl
                       have MP9 := A9.out.n.mp
                       go_wp2_with (refine put_map18 rfl _ _ _ rfl MP9 (by have := HC.out; have := hk1; omega) rfl pl rfl HOK.out dt rfl ?_; intro w10 hm10 hg10)
                       go_meet
                       exact ⟨_, _, _, by have := HC.out; omega, (A9.out.put K.out hm10 hg10).n.mono (by omega) (Nat.le_refl _), HV.out⟩)
                · have HV := Lib.hid hv
                  have e0 : (e2 == 0) = false := by rw [he]; rfl
                  have e13 : (e2 != 13) = false := by rw [he]; rfl
                  have RO9 := readOnly18 A9.out.n.b.lw.st
                  rw [hr] at RO9
                  clear hv he hr
                  first
                    | (exact absurd hl (by decide))
                    | (clear hi
                       clear hl
                       go_wp2_with (go_at_call 13; refine RO9.mono ?_; rintro e w10 ⟨rfl, rfl⟩)
                       go_meet
                       exact ⟨_, _, _, by have := HC.out; omega, A9.out.n.mono (by omega) (Nat.le_refl _), HV.out⟩)
              · have S2 := Lib.hid (P2.sw V1.out PR.out HIN.out (lg := false) (decide_eq_false (show ¬ 16 < dt.size by omega)).symm)
                clear P2
                go_upto_block 3 with (go_at_call 15; refine WR.mono ?_; rintro e w9 ⟨rfl, hA9⟩; have A9 := Lib.hid hA9; obtain ⟨y0, y1, y2⟩ := XC.out w9 hA9.a; clear hA9)
                clear WR x0 x1 x2
                rcases S2.out with ⟨hi, he, hv⟩ | ⟨hi, hl, he, hv⟩ | ⟨hi, hl, ⟨he, hr, hv⟩ | ⟨he, hr, hv⟩⟩
                · cases hi
                · have HV := Lib.hid hv
                  have e3 : (e2 != 3) = false := by rw [he]; rfl
                  clear hv he
                  first
                    | (exact absurd hl (by decide))
                    | (clear hi
                       clear hl
                       go_wp2
                       go_meet
                       exact ⟨_, _, _, by have := HC.out; omega, A9.out.n.mono (by omega) (Nat.le_refl _), HV.out⟩)
                · have HV := Lib.hid hv
                  have e0 : (e2 == 0) = true := by rw [he]; rfl
                  have hw : was = false := by rw [← HWAS.out]; exact hr
                  clear hv he hr
                  first
                    | (exact absurd hl (by decide))
                    | (clear hi
                       subst hw
                       clear hl
                       have MP9 := A9.out.n.mp
                       go_wp2_with (refine put_map18 rfl _ _ _ rfl MP9 (by have := HC.out; have := hk1; omega) rfl pl rfl HOK.out dt rfl ?_; intro w10 hm10 hg10)
                       go_meet
                       exact ⟨_, _, _, by have := HC.out; omega, (A9.out.put K.out hm10 hg10).n.mono (by omega) (Nat.le_refl _), HV.out⟩)
                · have HV := Lib.hid hv
                  have e0 : (e2 == 0) = false := by rw [he]; rfl
                  have e13 : (e2 != 13) = false := by rw [he]; rfl
                  have RO9 := readOnly18 A9.out.n.b.lw.st
                  rw [hr] at RO9
                  clear hv he hr
                  first
                    | (exact absurd hl (by decide))
                    | (clear hi
                       clear hl
                       go_wp2_with (go_at_call 13; refine RO9.mono ?_; rintro e w10 ⟨rfl, rfl⟩)
                       go_meet
                       exact ⟨_, _, _, by have := HC.out; omega, A9.out.n.mono (by omega) (Nat.le_refl _), HV.out⟩)
            · as_aux_lemma =>
              have HV0 := Lib.hid hv
              have e0 : (e1 == 0) = false := by rw [he]; rfl
              clear hv he hr hl
              subst hi
              obtain ⟨y0, y1, y2⟩ := XC.out w7 A7.out.a
              go_upto_region 23 with fail
              clear y0 y1 y2
              have A8 := Lib.hid A7.out
              have V1 := Lib.hid HV0.out
              clear A7
              obtain ⟨x0, x1, x2⟩ := XC.out _ A8.out.a
              obtain ⟨e2, m2, WR, P2⟩ := A8.out.write K.out (by omega) pl dt HDT.out
              by_cases hbig : (16 : Int) < dt.size
              · have S2 := Lib.hid (P2.sw V1.out PR.out HIN.out (lg := true) (decide_eq_true (show 16 < dt.size by omega)).symm)
                clear P2
                go_upto_block 3 with (go_at_call 15; refine WR.mono ?_; rintro e w9 ⟨rfl, hA9⟩; have A9 := Lib.hid hA9; obtain ⟨y0, y1, y2⟩ := XC.out w9 hA9.a; clear hA9)
                clear WR x0 x1 x2
                rcases S2.out with ⟨hi, he, hv⟩ | ⟨hi, hl, he, hv⟩ | ⟨hi, hl, ⟨he, hr, hv⟩ | ⟨he, hr, hv⟩⟩
                · cases hi
                · have HV := Lib.hid hv
                  have e3 : (e2 != 3) = false := by rw [he]; rfl
                  clear hv he
                  first
                    | (exact absurd hl (by decide))
                    | (clear hi
                       clear hl
                       go_wp2
                       go_meet
                       exact ⟨_, _, _, by have := HC.out; omega, A9.out.n.mono (by omega) (Nat.le_refl _), HV.out⟩)
                · have HV := Lib.hid hv
                  have e0 : (e2 == 0) = true := by rw [he]; rfl
                  have hw : was = false := by rw [← HWAS.out]; exact hr
                  clear hv he hr
                  first
                    | (exact absurd hl (by decide))
                    | (clear hi
                       subst hw
                       clear hl
                       have MP9 := A9.out.n.mp
                       go_wp2_with (refine put_map18 rfl _ _ _ rfl MP9 (by have := HC.out; have := hk1; omega) rfl pl rfl HOK.out dt rfl ?_; intro w10 hm10 hg10)
                       go_meet
                       exact ⟨_, _, _, by have := HC.out; omega, (A9.out.put K.out hm10 hg10).n.mono (by omega) (Nat.le_refl _), HV.out⟩)
                · have HV := Lib.hid hv
                  have e0 : (e2 == 0) = false := by rw [he]; rfl
                  have e13 : (e2 != 13) = false := by rw [he]; rfl
                  have RO9 := readOnly18 A9.out.n.b.lw.st
                  rw [hr] at RO9
                  clear hv he hr
                  first
                    | (exact absurd hl (by decide))
                    | (clear hi
                       clear hl
                       go_wp2_with (go_at_call 13; refine RO9.mono ?_; rintro e w10 ⟨rfl, rfl⟩)
                       go_meet
                       exact ⟨_, _, _, by have := HC.out; omega, A9.out.n.mono (by omega) (Nat.le_refl _), HV.out⟩)
              · have S2 := Lib.hid (P2.sw V1.out PR.out HIN.out (lg := false) (decide_eq_false (show ¬ 16 < dt.size by omega)).symm)
                clear P2
                go_upto_block 3 with (go_at_call 15; refine WR.mono ?_; rintro e w9 ⟨rfl, hA9⟩; have A9 := Lib.hid hA9; obtain ⟨y0, y1, y2⟩ := XC.out w9 hA9.a; clear hA9)
                clear WR x0 x1 x2
                rcases S2.out with ⟨hi, he, hv⟩ | ⟨hi, hl, he, hv⟩ | ⟨hi, hl, ⟨he, hr, hv⟩ | ⟨he, hr, hv⟩⟩
                · cases hi
                · have HV := Lib.hid hv
                  have e3 : (e2 != 3) = false := by rw [he]; rfl
                  clear hv he
                  first
                    | (exact absurd hl (by decide))
                    | (clear hi
                       clear hl
                       go_wp2
                       go_meet
                       exact ⟨_, _, _, by have := HC.out; omega, A9.out.n.mono (by omega) (Nat.le_refl _), HV.out⟩)
                · have HV := Lib.hid hv
                  have e0 : (e2 == 0) = true := by rw [he]; rfl
                  have hw : was = false := by rw [← HWAS.out]; exact hr
                  clear hv he hr
                  first
                    | (exact absurd hl (by decide))
                    | (clear hi
                       subst hw
                       clear hl
                       have MP9 := A9.out.n.mp
                       go_wp2_with (refine put_map18 rfl _ _ _ rfl MP9 (by have := HC.out; have := hk1; omega) rfl pl rfl HOK.out dt rfl ?_; intro w10 hm10 hg10)
                       go_meet
                       exact ⟨_, _, _, by have := HC.out; omega, (A9.out.put K.out hm10 hg10).n.mono (by omega) (Nat.le_refl _), HV.out⟩)
                · have HV := Lib.hid hv
                  have e0 : (e2 == 0) = false := by rw [he]; rfl
                  have e13 : (e2 != 13) = false := by rw [he]; rfl
                  have RO9 := readOnly18 A9.out.n.b.lw.st
                  rw [hr] at RO9
                  clear hv he hr
                  first
                    | (exact absurd hl (by decide))
                    | (clear hi
                       clear hl
                       go_wp2_with (go_at_call 13; refine RO9.mono ?_; rintro e w10 ⟨rfl, rfl⟩)
                       go_meet
                       exact ⟨_, _, _, by have := HC.out; omega, A9.out.n.mono (by omega) (Nat.le_refl _), HV.out⟩)
          · as_aux_lemma =>
            have b0 : (kd.tmod 5 == 0) = false := by rw [hm0]; rfl
            have b1 : (kd.tmod 5 == 1) = true := by rw [hm0]; rfl
            clear hm0 RO6
            obtain ⟨e1, m1, TR, P1⟩ := A6.out.trim K.out (by omega) pl
            have S1 := Lib.hid (P1.sw V.out id HIN.out (lg := false) rfl)
            clear P1
            go_upto_if 73 with (go_at_call 14; refine TR.mono ?_; rintro e w7 ⟨rfl, hA7⟩; have A7 := Lib.hid hA7; obtain ⟨x0, x1, x2⟩ := XC.out w7 hA7.a; clear hA7)
            clear TR c0 c1 c2
            clear x0
            rcases S1.out with ⟨hi, he, hv⟩ | ⟨hi, hl, he, hv⟩ | ⟨hi, hl, ⟨he, hr, hv⟩ | ⟨he, hr, hv⟩⟩
            · have HV := Lib.hid hv
              have e5 : (e1 != 5) = false := by rw [he]; rfl
              clear hv he
              subst hi
              go_wp2
              go_meet
              exact ⟨_, _, _, by have := HC.out; omega, A7.out.n.mono (by omega) (Nat.le_refl _), HV.out⟩
            · have HV := Lib.hid hv
              have e3 : (e1 != 3) = false := by rw [he]; rfl
              clear hv he
              first
                | (exact absurd hl (by decide))
                | (subst hi
                   clear hl
                   go_wp2
                   go_meet
                   exact ⟨_, _, _, by have := HC.out; omega, A7.out.n.mono (by omega) (Nat.le_refl _), HV.out⟩)
            · have HV := Lib.hid hv
              have e0 : (e1 == 0) = true := by rw [he]; rfl
              have hw : was = false := by rw [← HWAS.out]; exact hr
              clear hv he hr
              first
                | (exact absurd hl (by decide))
                | (subst hi
                   subst hw
                   clear hl
                   have MP9 := A7.out.n.mp
                   go_wp2_with (refine put_map18 rfl _ _ _ rfl MP9 (by have := HC.out; have := hk1; omega) rfl pl rfl HOK.out ⟨#[]⟩ rfl ?_; intro w10 hm10 hg10)
                   go_meet
                   exact ⟨_, _, _, by have := HC.out; omega, (A7.out.put K.out hm10 hg10).n.mono (by omega) (Nat.le_refl _), HV.out⟩)
            · have HV := Lib.hid hv
              have e0 : (e1 == 0) = false := by rw [he]; rfl
              have e13 : (e1 != 13) = false := by rw [he]; rfl
              have RO9 := readOnly18 A7.out.n.b.lw.st
              rw [hr] at RO9
              clear hv he hr
              first
                | (exact absurd hl (by decide))
                | (subst hi
                   clear hl
                   go_wp2_with (go_at_call 13; refine RO9.mono ?_; rintro e w10 ⟨rfl, rfl⟩)
                   go_meet
                   exact ⟨_, _, _, by have := HC.out; omega, A7.out.n.mono (by omega) (Nat.le_refl _), HV.out⟩)
          · as_aux_lemma =>
            have b0 : (kd.tmod 5 == 0) = false := by rw [hm0]; rfl
            have b1 : (kd.tmod 5 == 1) = false := by rw [hm0]; rfl
            have b2 : (kd.tmod 5 == 2) = true := by rw [hm0]; rfl
            clear hm0 RO6
            have RD := A6.out.n.read K.out.toLwV pl
            by_cases hin : 0 ≤ pl ∧ pl < c.sz
            · have hi : inb = true := by rw [HIN.out]; exact decide_eq_true hin
              obtain ⟨r1, r2⟩ := A6.out.n.rea K.out.toLwV V.out hin
              obtain ⟨d, hd⟩ : ∃ z, (M pl).getD ⟨#[]⟩ = z := ⟨_, rfl⟩
              rw [r1, r2, hd] at RD
              obtain ⟨z0, hz0⟩ : ∃ z : Int, (0 : Int) = z := ⟨_, rfl⟩
              rw [hz0] at RD
              have hz1 : (z0 != 0) = false := by rw [← hz0]; rfl
              clear hz0 r1 r2 hin
              subst hi
              go_upto_region 40 with (go_at_call 16; refine RD.mono ?_; rintro e w8 ⟨rfl, hg8⟩; have A8 := Lib.hid (A6.out.ext K.out hg8); clear hg8)
              clear RD c0 c1 c2
              obtain ⟨x0, x1, x2⟩ := XC.out w8 A8.out.a
              have MP8 := A8.out.n.mp
              go_wp2_with (refine look_map18 rfl _ _ rfl MP8 rfl pl rfl HOK.out d hd ?_)
              go_meet
              exact ⟨_, _, _, by have := HC.out; omega, A8.out.n.mono (by omega) (Nat.le_refl _), V.out⟩
            · have hi : inb = false := by rw [HIN.out]; exact decide_eq_false hin
              rw [rea_out hin] at RD
              obtain ⟨d, hd⟩ : ∃ z, reaD c m pl = z := ⟨_, rfl⟩
              rw [hd] at RD
              obtain ⟨z0, hz0⟩ : ∃ z : Int, (5 : Int) = z := ⟨_, rfl⟩
              rw [hz0] at RD
              have hz1 : (z0 != 5) = false := by rw [← hz0]; rfl
              clear hz0 hin hd
              subst hi
              go_upto_region 40 with (go_at_call 16; refine RD.mono ?_; rintro e w8 ⟨rfl, hg8⟩; have A8 := Lib.hid (A6.out.ext K.out hg8); clear hg8)
              clear RD c0 c1 c2
              go_wp2
              go_meet
              exact ⟨_, _, _, by have := HC.out; omega, A8.out.n.mono (by omega) (Nat.le_refl _), V.out⟩
          · as_aux_lemma =>
            have b0 : (kd.tmod 5 == 0) = false := by rw [hm0]; rfl
            have b1 : (kd.tmod 5 == 1) = false := by rw [hm0]; rfl
            have b2 : (kd.tmod 5 == 2) = false := by rw [hm0]; rfl
            have b3 : (kd.tmod 5 == 3) = true := by rw [hm0]; rfl
            clear hm0 RO6
            obtain ⟨e3, m3, FL, F3⟩ := A6.out.flush K.out (by omega)
            have V3 := Lib.hid (V.out.same F3.vals)
            have F4 := F3.res
            clear F3
            rcases F4 with ⟨he, hr, hr3, hq⟩ | ⟨he, hr3⟩
            · have hw : was = false := by rw [← HWAS.out]; exact hr
              have e0 : (e3 != 0) = false := by rw [he]; rfl
              have e1 : (e3 == 0) = true := by rw [he]; rfl
              clear he hr hr3
              subst hw
              go_upto_region 44 with (go_at_call 17; refine FL.mono ?_; rintro e w8 ⟨rfl, hA8⟩; have A8 := Lib.hid hA8; clear hA8)
              clear FL c0 c1 c2
              have WT := waiting18 A8.out.n.b.lw.st (by rw [hq]; decide)
              obtain ⟨z, hz⟩ : ∃ z : Int, ((m3.q.length : Nat) : Int) = z := ⟨_, rfl⟩
              rw [hz] at WT
              have hz0 : ¬ 0 < z := by rw [← hz, hq]; decide
              clear hz hq
              go_wp2_with ((go_at_call 18; refine WT.mono ?_; rintro e w9 ⟨rfl, hg9⟩; have A9 := Lib.hid (A8.out.ext K.out hg9); clear hg9))
              go_meet
              exact ⟨_, _, _, by have := HC.out; omega, A9.out.n.mono (by omega) (Nat.le_refl _), V3.out⟩
            · have e0 : (e3 != 0) = true := by rw [he]; rfl
              have e1 : (e3 == 0) = false := by rw [he]; rfl
              have e2 : (e3 != 13) = false := by rw [he]; rfl
              clear he
              go_upto_region 44 with (go_at_call 17; refine FL.mono ?_; rintro e w8 ⟨rfl, hA8⟩; have A8 := Lib.hid hA8; clear hA8)
              clear FL c0 c1 c2
              have RO9 := readOnly18 A8.out.n.b.lw.st
              rw [hr3] at RO9
              clear hr3
              go_wp2_with ((go_at_call 13; refine RO9.mono ?_; rintro e w10 ⟨rfl, rfl⟩))
              go_meet
              exact ⟨_, _, _, by have := HC.out; omega, A8.out.n.mono (by omega) (Nat.le_refl _), V3.out⟩
          · as_aux_lemma =>
            have b0 : (kd.tmod 5 == 0) = false := by rw [hm0]; rfl
            have b1 : (kd.tmod 5 == 1) = false := by rw [hm0]; rfl
            have b2 : (kd.tmod 5 == 2) = false := by rw [hm0]; rfl
            have b3 : (kd.tmod 5 == 3) = false := by rw [hm0]; rfl
            have b4 : (kd.tmod 5 == 4) = true := by rw [hm0]; rfl
            clear hm0 RO6
            obtain ⟨e4, m3, CL, F3⟩ := A6.out.collect K.out (by omega) pl
            have V3 := Lib.hid (V.out.same F3.vals)
            have F4 := F3.res
            clear F3
            rcases F4 with he | ⟨he, hr3⟩ | he | he
            · have f0 : (e4 != 0) = false := by rw [he]; rfl
              have f1 : (e4 == 13) = false := by rw [he]; rfl
              clear he
              go_upto_region 48 with (go_at_call 19; refine CL.mono ?_; rintro e w8 ⟨rfl, hA8⟩; have A8 := Lib.hid hA8; clear hA8)
              clear CL c0 c1 c2
              go_wp2
              go_meet
              exact ⟨_, _, _, by have := HC.out; omega, A8.out.n.mono (by omega) (Nat.le_refl _), V3.out⟩
            · have f0 : (e4 != 0) = true := by rw [he]; rfl
              have f1 : (e4 != 13) = false := by rw [he]; rfl
              have f2 : (e4 == 13) = true := by rw [he]; rfl
              clear he
              go_upto_region 48 with (go_at_call 19; refine CL.mono ?_; rintro e w8 ⟨rfl, hA8⟩; have A8 := Lib.hid hA8; clear hA8)
              clear CL c0 c1 c2
              have RO9 := readOnly18 A8.out.n.b.lw.st
              rw [hr3] at RO9
              clear hr3
              go_wp2_with ((go_at_call 13; refine RO9.mono ?_; rintro e w10 ⟨rfl, rfl⟩))
              go_meet
              exact ⟨_, _, _, by have := HC.out; omega, A8.out.n.mono (by omega) (Nat.le_refl _), V3.out⟩
            · have f0 : (e4 != 0) = true := by rw [he]; rfl
              have f1 : (e4 != 13) = true := by rw [he]; rfl
              have f2 : (e4 != 5) = false := by rw [he]; rfl
              have f3 : (e4 == 13) = false := by rw [he]; rfl
              clear he
              go_upto_region 48 with (go_at_call 19; refine CL.mono ?_; rintro e w8 ⟨rfl, hA8⟩; have A8 := Lib.hid hA8; clear hA8)
              clear CL c0 c1 c2
              go_wp2
              go_meet
              exact ⟨_, _, _, by have := HC.out; omega, A8.out.n.mono (by omega) (Nat.le_refl _), V3.out⟩
            · have f0 : (e4 != 0) = true := by rw [he]; rfl
              have f1 : (e4 != 13) = true := by rw [he]; rfl
              have f2 : (e4 != 5) = true := by rw [he]; rfl
              have f3 : (e4 != 1) = false := by rw [he]; rfl
              have f4 : (e4 == 13) = false := by rw [he]; rfl
              clear he
              go_upto_region 48 with (go_at_call 19; refine CL.mono ?_; rintro e w8 ⟨rfl, hA8⟩; have A8 := Lib.hid hA8; clear hA8)
              clear CL c0 c1 c2
              go_wp2
              go_meet
              exact ⟨_, _, _, by have := HC.out; omega, A8.out.n.mono (by omega) (Nat.le_refl _), V3.out⟩
        case rest =>
          obtain ⟨m', cnt', M', hc', hN', hV'⟩ := hcut
          have N8 := Lib.hid hN'
          have V8 := Lib.hid hV'
          have HC8 := Lib.hid hc'
          clear hc' hV' c0 c1 c2
          have HI := hN'.b.lw.inv
          have h1 := HI.badle
          have h2 := HI.mf
          rw [hN'.b.lw.m1 C.out.toLwC] at h2
          have h3 : m'.ro = true → ¬ (m'.n.M 1 ≤ c.sp) := fun e => by
            have := HI.dead e
            rw [hN'.b.lw.m1 C.out.toLwC] at this
            omega
          obtain ⟨_, q3⟩ := t2.out wc hN'.b.bt
          have RO9 := Lib.hid (fun (wx : World) (hE : wc.grownBy wx none) => readOnly18 (hN'.ext C.out hE).b.lw.st)
          have FA9 := Lib.hid (fun (wx : World) (hE : wc.grownBy wx none) => faults18 (hN'.ext C.out hE).b.lw.st)
          have BA9 := Lib.hid (fun (wx : World) (hE : wc.grownBy wx none) => bad18 (hN'.ext C.out hE).b.lw.st C.out.ok)
          obtain ⟨ro, hro⟩ : ∃ z, m'.ro = z := ⟨_, rfl⟩
          obtain ⟨f, hf⟩ : ∃ z, m'.n.M 1 = z := ⟨_, rfl⟩
          obtain ⟨bn, hbn⟩ : ∃ z : Int, ((badN c m' : Nat) : Int) = z := ⟨_, rfl⟩
          obtain ⟨sp, hsp⟩ : ∃ z, c.sp = z := ⟨_, rfl⟩
          rw [hro] at RO9 h3
          rw [hf] at FA9 h3 h2
          rw [hbn] at BA9 h1 h2
          rw [hsp] at h1 h3 q3
          have g1 : decide (sp < bn) = false := decide_eq_false (by omega)
          have g2 : decide (f < bn) = false := decide_eq_false (by omega)
          clear h1 h2 hN' HI hro hf hbn hsp
          cases ro
          · as_aux_lemma =>
            clear h3
            go_wp2
            have hS : wc.drew.cell? ⟨tb, 3, none⟩ = some (.int .i64 sp) := q3
            have E9 := Ext.drew wc
            refine region_line [(0, true), (1, false), (2, true), (3, true), (5, true), (6, true), (4, false), (7, true), (8, true), (9, true), (10, true), (12, true), (13, true), (11, false), (14, true), (15, true), (16, true), (17, true), (19, true), (18, false), (20, false), (21, true), (22, true)] (fun y => y.cell? ⟨tb, 3, none⟩ = some (.int .i64 sp)) (by kernel_rfl) (by kernel_rfl) (fun _ _ _ d _ h => by cases d <;> exact h) hS ?_
            iterate 1 (refine line_read (a' := ?_) rfl (by kernel_rfl) (by kernel_rfl) hS (fun y hy Kx hKx => ?_) ?_; rotate_left; · go_wp2; exact hKx)
            have ROx := RO9.out _ E9
            refine line_act (by rfl) (fun Kx hKx => ?_)
            go_wp2_with (go_at_call 13; refine ROx.mono ?_; rintro e w10 ⟨rfl, rfl⟩)
            refine hKx _ _ (fun y => y.cell? ⟨tb, 3, none⟩ = some (.int .i64 sp)) hS (fun _ h => h) ?_
            clear hKx Kx ROx
            iterate 1 (refine line_read (a' := ?_) rfl (by kernel_rfl) (by kernel_rfl) hS (fun y hy Kx hKx => ?_) ?_; rotate_left; · go_wp2; exact hKx)
            iterate 3 (refine line_read (a' := ?_) rfl (by kernel_rfl) (by kernel_rfl) hS (fun y hy Kx hKx => ?_) ?_; rotate_left; · clear hy; refine wpList_pass (a' := ?_) (by kernel_rfl) ?_ ?_; rotate_left; (simp only [Act.put, List.getElem_toArray, List.getElem_cons_succ, List.getElem_cons_zero, List.setIfInBounds_toArray, List.set_cons_succ, List.set_cons_zero]; rfl); exact hKx)
            refine line_act (by rfl) (fun Kx hKx => ?_)
            refine wpList_pass (a' := ?_) (by kernel_rfl) ?_ ?_
            rotate_left
            · simp only [Act.put, List.getElem_toArray, List.getElem_cons_succ, List.getElem_cons_zero, List.setIfInBounds_toArray, List.set_cons_succ, List.set_cons_zero]; rfl
            go_wp2
            refine hKx _ _ (fun y => y.cell? ⟨tb, 3, none⟩ = some (.int .i64 sp)) hS (fun _ h => h) ?_
            clear hKx Kx
            iterate 1 (refine line_read (a' := ?_) rfl (by kernel_rfl) (by kernel_rfl) hS (fun y hy Kx hKx => ?_) ?_; rotate_left; · clear hy; refine wpList_pass (a' := ?_) (by kernel_rfl) ?_ ?_; rotate_left; (simp only [Act.put, List.getElem_toArray, List.getElem_cons_succ, List.getElem_cons_zero, List.setIfInBounds_toArray, List.set_cons_succ, List.set_cons_zero]; rfl); exact hKx)
            iterate 5 (refine line_read (a' := ?_) rfl (by kernel_rfl) (by kernel_rfl) hS (fun y hy Kx hKx => ?_) ?_; rotate_left; · go_wp2; exact hKx)
            have BAx := BA9.out _ E9
            refine line_act (by rfl) (fun Kx hKx => ?_)
            go_wp2_with (go_at_call 21; refine BAx.mono ?_; rintro e w11 ⟨rfl, hg11⟩)
            have hS11 : w11.cell? ⟨tb, 3, none⟩ = some (.int .i64 sp) := hg11.cell hS (by simp)
            refine hKx _ _ (fun y => y.cell? ⟨tb, 3, none⟩ = some (.int .i64 sp)) hS11 (fun _ h => h) ?_
            have E11 := ext_trans E9 hg11
            clear hKx Kx BAx hg11
            iterate 5 (refine line_read (a' := ?_) rfl (by kernel_rfl) (by kernel_rfl) hS11 (fun y hy Kx hKx => ?_) ?_; rotate_left; · go_wp2; exact hKx)
            have BAx := BA9.out _ E11
            refine line_act (by rfl) (fun Kx hKx => ?_)
            go_wp2_with (go_at_call 21; refine BAx.mono ?_; rintro e w12 ⟨rfl, hg12⟩)
            have hS12 : w12.cell? ⟨tb, 3, none⟩ = some (.int .i64 sp) := hg12.cell hS11 (by simp)
            refine hKx _ _ (fun y => y.cell? ⟨tb, 3, none⟩ = some (.int .i64 sp)) hS12 (fun _ h => h) ?_
            have E12 := ext_trans E11 hg12
            clear hKx Kx BAx hg12
            have FAx := FA9.out _ E12
            refine line_act (by rfl) (fun Kx hKx => ?_)
            go_wp2_with (go_at_call 20; refine FAx.mono ?_; rintro e w13 ⟨rfl, rfl⟩)
            refine hKx _ _ (fun y => y.cell? ⟨tb, 3, none⟩ = some (.int .i64 sp)) hS12 (fun _ h => h) ?_
            clear hKx Kx FAx
            iterate 2 (refine line_read (a' := ?_) rfl (by kernel_rfl) (by kernel_rfl) hS12 (fun y hy Kx hKx => ?_) ?_; rotate_left; · go_wp2; exact hKx)
            refine line_end ?_
            go_wp2
            go_roundw
            case rel => exact ⟨k + 1, cnt', m', M', by omega, by go_num, HC8.out, (N8.out.ext C.out E12).mono (by omega) (Nat.le_refl _), V8.out⟩
            case measure => simp [intOf]; omega
          · as_aux_lemma =>
            have g3 : decide (f ≤ sp) = false := decide_eq_false (h3 rfl)
            clear h3
            go_wp2
            have hS : wc.drew.cell? ⟨tb, 3, none⟩ = some (.int .i64 sp) := q3
            have E9 := Ext.drew wc
            refine region_line [(0, true), (1, false), (2, true), (3, true), (5, true), (6, true), (4, false), (7, true), (8, true), (9, true), (10, true), (12, true), (13, true), (11, false), (14, true), (15, true), (16, true), (17, true), (19, true), (18, false), (20, false), (21, true), (22, true)] (fun y => y.cell? ⟨tb, 3, none⟩ = some (.int .i64 sp)) (by kernel_rfl) (by kernel_rfl) (fun _ _ _ d _ h => by cases d <;> exact h) hS ?_
            iterate 1 (refine line_read (a' := ?_) rfl (by kernel_rfl) (by kernel_rfl) hS (fun y hy Kx hKx => ?_) ?_; rotate_left; · go_wp2; exact hKx)
            have ROx := RO9.out _ E9
            refine line_act (by rfl) (fun Kx hKx => ?_)
            go_wp2_with (go_at_call 13; refine ROx.mono ?_; rintro e w10 ⟨rfl, rfl⟩)
            refine hKx _ _ (fun y => y.cell? ⟨tb, 3, none⟩ = some (.int .i64 sp)) hS (fun _ h => h) ?_
            clear hKx Kx ROx
            iterate 4 (refine line_read (a' := ?_) rfl (by kernel_rfl) (by kernel_rfl) hS (fun y hy Kx hKx => ?_) ?_; rotate_left; · go_wp2; exact hKx)
            have FAx := FA9.out _ E9
            refine line_act (by rfl) (fun Kx hKx => ?_)
            go_wp2_with (go_at_call 20; refine FAx.mono ?_; rintro e w10 ⟨rfl, rfl⟩)
            refine hKx _ _ (fun y => y.cell? ⟨tb, 3, none⟩ = some (.int .i64 sp)) hS (fun _ h => h) ?_
            clear hKx Kx FAx
            iterate 6 (refine line_read (a' := ?_) rfl (by kernel_rfl) (by kernel_rfl) hS (fun y hy Kx hKx => ?_) ?_; rotate_left; · go_wp2; exact hKx)
            have BAx := BA9.out _ E9
            refine line_act (by rfl) (fun Kx hKx => ?_)
            go_wp2_with (go_at_call 21; refine BAx.mono ?_; rintro e w11 ⟨rfl, hg11⟩)
            have hS11 : w11.cell? ⟨tb, 3, none⟩ = some (.int .i64 sp) := hg11.cell hS (by simp)
            refine hKx _ _ (fun y => y.cell? ⟨tb, 3, none⟩ = some (.int .i64 sp)) hS11 (fun _ h => h) ?_
            have E11 := ext_trans E9 hg11
            clear hKx Kx BAx hg11
            iterate 5 (refine line_read (a' := ?_) rfl (by kernel_rfl) (by kernel_rfl) hS11 (fun y hy Kx hKx => ?_) ?_; rotate_left; · go_wp2; exact hKx)
            have BAx := BA9.out _ E11
            refine line_act (by rfl) (fun Kx hKx => ?_)
            go_wp2_with (go_at_call 21; refine BAx.mono ?_; rintro e w12 ⟨rfl, hg12⟩)
            have hS12 : w12.cell? ⟨tb, 3, none⟩ = some (.int .i64 sp) := hg12.cell hS11 (by simp)
            refine hKx _ _ (fun y => y.cell? ⟨tb, 3, none⟩ = some (.int .i64 sp)) hS12 (fun _ h => h) ?_
            have E12 := ext_trans E11 hg12
            clear hKx Kx BAx hg12
            have FAx := FA9.out _ E12
            refine line_act (by rfl) (fun Kx hKx => ?_)
            go_wp2_with (go_at_call 20; refine FAx.mono ?_; rintro e w13 ⟨rfl, rfl⟩)
            refine hKx _ _ (fun y => y.cell? ⟨tb, 3, none⟩ = some (.int .i64 sp)) hS12 (fun _ h => h) ?_
            clear hKx Kx FAx
            iterate 2 (refine line_read (a' := ?_) rfl (by kernel_rfl) (by kernel_rfl) hS12 (fun y hy Kx hKx => ?_) ?_; rotate_left; · go_wp2; exact hKx)
            refine line_end ?_
            go_wp2
            go_roundw
            case rel => exact ⟨k + 1, cnt', m', M', by omega, by go_num, HC8.out, (N8.out.ext C.out E12).mono (by omega) (Nat.le_refl _), V8.out⟩
            case measure => simp [intOf]; omega
    · as_aux_lemma =>
      have hsz1 := HSI.out
      obtain ⟨sz, hsz⟩ : ∃ z : Nat, c.sz = z := ⟨c.sz.toNat, by have := HSZ.out; omega⟩
      have q2 := (t2.out wo N.out.b.bt).1
      rw [hsz] at q2
      have HZ := Lib.hid hsz
      have hs64 : sz ≤ 64 := by have := HSZ.out; omega
      clear hsz1 hsz
      go_wp2
      go_loopw [230] (fun i wr => ∃ j : Nat, j ≤ sz ∧ i = .int .i64 j ∧ LwN w3 p c tb (.slice vo vn vc) mb m (2 * k) cnt M wr) (fun i _ => sz - (intOf i).toNat)
      case atStart => exact ⟨0, by omega, rfl, N.out⟩
      case round =>
        clear q2 N
        obtain ⟨j, hj, rfl, hW⟩ := hrel
        obtain ⟨wi, rfl⟩ : ∃ wo : World, wo = wr := ⟨_, rfl⟩
        have N := Lib.hid hW
        by_cases hlt2 : j < sz
        · have RD := hW.read C.out (j : Int)
          obtain ⟨r1, r2⟩ := hW.rea C.out V.out (q := (j : Int)) (by have := HZ.out; omega)
          obtain ⟨d, hd⟩ : ∃ z, (M (j : Int)).getD ⟨#[]⟩ = z := ⟨_, rfl⟩
          rw [r1, r2, hd] at RD
          obtain ⟨z0, hz0⟩ : ∃ z : Int, (0 : Int) = z := ⟨_, rfl⟩
          rw [hz0] at RD
          have hz1 : (z0 != 0) = false := by rw [← hz0]; rfl
          have hok : okI (j : Int) := okI_of (by omega) (by have := HSI.out; have := HSZ.out; have := HZ.out; omega)
          clear hz0 hW r1 r2
          go_upto_region 57 with (go_at_call 16; refine RD.mono ?_; rintro e w8 ⟨rfl, hg8⟩; have N8 := Lib.hid (N.out.ext C.out hg8); clear hg8)
          clear RD
          have MP8 := N8.out.mp
          go_wp2_with (refine look_map18 rfl _ _ rfl MP8 rfl (j : Int) rfl hok d hd ?_)
          go_roundw
          case rel => exact ⟨j + 1, by omega, by go_num, N8.out⟩
          case measure => simp [intOf]; omega
        · clear hW
          go_wp2
          go_ret
          exact ⟨rfl, ext_trans H3.out.2 N.out.b.lw.out⟩

end Go.Proofs.YtfibpgfjlmlpaaaGreatDoor
