/-
  Texts put together: PS.
-/
import Derived.Test.YtdnpdoipipfkoaaGreatDoorM31
namespace Go.Proofs.YtdnpdoipipfkoaaGreatDoor
set_option linter.unusedVariables false
set_option linter.unusedSimpArgs false
set_option linter.unusedVariables false
set_option linter.unusedSimpArgs false
set_option maxRecDepth 100000
open Go.RowKit
set_option maxHeartbeats 25600000 in
theorem mountAgain_any (n0 n1 n2 n3 : Int) (ao : Option Addr) (n cap : Nat) (a : Option Addr) (len cap2 : Nat) (A : Nat → Act18) (b : Option Addr) (blen bcap : Nat) (B : Nat → Act18) (w : World) (hF : Flds w) (h : Acts18 w a len A) (hb : Acts18 w b blen B) :
   Calls Tryz.prog 4 #[.agg #[.int .i64 n0, .int .i64 n1, .int .i64 n2, .int .i64 n3, .slice ao n cap], .slice a len cap2, .slice b blen bcap] w fun e w' => e = .returned (.bool true) ∧ w.grownBy w' none := by
 have B0 := Blk.new w 24 (wardC n0 n1 n2 n3 ao n cap)
 have E0 := World.grownBy_alloc w (.cells (wardC n0 n1 n2 n3 ao n cap) 24) none
 obtain ⟨w1, hw1⟩ : ∃ v, w.alloc (.cells (wardC n0 n1 n2 n3 ao n cap) 24) = v := ⟨_, rfl⟩
 have hw1' : w.alloc (.cells #[.int .i64 n0, .int .i64 n1, .int .i64 n2, .int .i64 n3, .slice ao n cap] 24) = w1 := hw1
 obtain ⟨wb, hwb⟩ : ∃ v, w.heap.size = v := ⟨_, rfl⟩
 rw [hw1] at B0 E0
 rw [hwb] at B0
 have FX := fixed19 w1 (hF.ext E0)
 have HF := Lib.hid hF
 have HA := Lib.hid h
 have HBb := Lib.hid hb
 have hlm : len ≤ 9223372036854775807 := h.1
 have hlm2 : blen ≤ 9223372036854775807 := hb.1
 have H0 := Lib.hid (And.intro B0 E0)
 have HWB := Lib.hid hwb
 clear hF B0 E0 hw1 h hb
 go_enter Tryz.func4, Tryz.ntmps4
 go_upto_region 3 with (go_at_call 6; refine FX.mono ?_; rintro e w2 ⟨rfl, hE2⟩; have H2 := Lib.hid (And.intro (H0.out.1.ext hE2) (ext_trans H0.out.2 hE2)); clear hE2)
 clear FX hw1' hwb
 by_cases h1 : (100 : Int) < len
 · go_wp2
   go_ret
   exact ⟨rfl, H2.out.2⟩
 by_cases h2 : (100 : Int) < blen
 · go_wp2
   go_ret
   exact ⟨rfl, H2.out.2⟩
 go_upto_region 5 with fail
 have hl100 : len ≤ 100 := by omega
 have hb100 : blen ≤ 100 := by omega
 clear h1 h2
 have c4 : w2.cell? ⟨wb, 4, none⟩ = some (.slice ao n cap) := H2.out.1.cell 4
 have f4 := H2.out.1.free 4
 have B3 : Blk (w2.setCell ⟨wb, 4, none⟩ (.slice none 0 0)) wb 24 (wardC n0 n1 n2 n3 none 0 0) := H2.out.1.set 4 (.slice none 0 0)
 have E3 : w.grownBy (w2.setCell ⟨wb, 4, none⟩ (.slice none 0 0)) none := g17_new H2.out.2 (gb_set (gb_refl w2 _) _ _) (by rw [HWB.out]; exact Nat.le_refl _)
 go_upto_region 6 with fail
 clear c4 f4
 obtain ⟨w3, hw3⟩ : ∃ v, w2.setCell ⟨wb, 4, none⟩ (.slice none 0 0) = v := ⟨_, rfl⟩
 rw [hw3] at B3 E3 ⊢
 clear hw3 H2
 have HE3 := Lib.hid E3
 have OP3 := open18 n0 n1 n2 n3 (.slice none 0 0) [] w3 (HF.out.ext E3) (.inl ⟨rfl, rfl⟩) (fun k hk => by simp [Value.ownBlock] at hk) (by decide)
 clear E3
 go_upto_region 9 with (first
   | (refine ward_load18 rfl _ rfl rfl B3 ?_)
   | (go_at_call 7; refine OP3.mono ?_; rintro e w4 hop; obtain ⟨_, p, S, v, rfl, hO⟩ := hop.resolve_left (fun h => h.1 newE_none); have HO := Lib.hid hO; obtain ⟨vo, vn, vc, rfl⟩ := hO.vf; have hBn := Blk.new w4 33 (teC false 0 0 0 (.slice none 0 0)); clear hop hO)
   | (refine ten_store18 _ _ rfl rfl rfl hBn rfl rfl ?_; intro w5 hb5 hg5 hs5))
 have E45 : w4.grownBy w5 none := g17_new (World.grownBy_alloc w4 _ none) hg5 (Nat.le_refl _)
 obtain ⟨L, M0⟩ := mt_open HO.out
 have hszi := szO_in n0
 obtain ⟨sz, hsz⟩ : ∃ z : Nat, szO n0 = z := ⟨(szO n0).toNat, by omega⟩
 have E56 := World.grownBy_alloc w5 (.cells (madeCells #[.string ⟨#[]⟩] (sz * 1)) 9) none
 have hTT : tS p (cO S [] (szO n0) (prO n1) (toO n0 n1 n2 n3).toNat) w4.heap.size = 0 := HO.out.st.fresh (Nat.le_refl _)
 have I0 : AgS w3 (cO S [] (szO n0) (prO n1) (toO n0 n1 n2 n3).toNat) p.V (.slice vo vn vc) w4.heap.size sz p w5.heap.size (fun _ => ⟨#[]⟩) (fun _ => ⟨#[]⟩) 0 m0F (w5.alloc (.cells (madeCells #[.string ⟨#[]⟩] (sz * 1)) 9)) := by
   have M5 := M0.ext E45
   have ht := hb5.lt
   refine ⟨(M5.ext E56).mono (by omega), clm_O (open_room n0 n1 n2 n3), hb5.ext E56, hTT, ?_, ⟨M5.st.fresh (Nat.le_refl _), by omega, M5.out.size, by omega, by omega, fun j hj k hk => by have := M5.hV j hj k hk; omega, fun k hk => by have := ints_lt M5.st.iv L.b1 k hk; omega, fun k hk => by have := ints_lt M5.iv L.b1 k hk; omega⟩, by decide, _, _, stK_O, fun i _ => rfl⟩
   have h := Blk.new w5 9 (madeCells #[.string ⟨#[]⟩] (sz * 1))
   rw [Nat.mul_one, stsC_made] at h ⊢
   exact h
 have mk1 := make_run Tryz.underlying36 Tryz.infoStr18 sz (by omega) (by omega) w5
 obtain ⟨w6, hw6⟩ : ∃ v, w5.alloc (.cells (madeCells #[.string ⟨#[]⟩] (sz * 1)) 9) = v := ⟨_, rfl⟩
 rw [show (Value.string ⟨#[]⟩).cells = #[.string ⟨#[]⟩] from rfl, hw6] at mk1
 rw [hw6] at I0
 clear hw6
 have c2 : w5.cell? ⟨w4.heap.size, 2, none⟩ = some (.int .i64 (szO n0)) := hb5.cell 2
 have hS : S = (cO S [] (szO n0) (prO n1) (toO n0 n1 n2 n3).toNat).S := rfl
 have hcz : (cO S [] (szO n0) (prO n1) (toO n0 n1 n2 n3).toNat).sz = sz := hsz
 have hzs : (cO S [] (szO n0) (prO n1) (toO n0 n1 n2 n3).toNat).zs (cO S [] (szO n0) (prO n1) (toO n0 n1 n2 n3).toNat).who.toNat = [] := zs_O
 rw [hsz] at c2
 have hsz12 : sz ≤ 12 ∧ 1 ≤ sz := by omega
 obtain ⟨c, hc⟩ : ∃ z, cO S [] (szO n0) (prO n1) (toO n0 n1 n2 n3).toNat = z := ⟨_, rfl⟩
 rw [hc] at L I0 hS hcz hzs
 obtain ⟨tb, htb⟩ : ∃ z, w4.heap.size = z := ⟨_, rfl⟩
 rw [htb] at I0 c2 ⊢
 have HC := Lib.hid (And.intro L (And.intro hzs hcz))
 have HI := Lib.hid I0
 have HX := Lib.hid (And.intro hsz12 HE3.out)
 clear hb5 hg5 hs5 hBn B3 OP3 E45 hc htb H0 hszi E56 hsz M0 L I0 hcz hzs hTT hsz12
 rw [hS]
 clear hS HO
 go_upto_region 10 with fail
 clear mk1 c2
 obtain ⟨g, hg0⟩ : ∃ v, w5.heap.size = v := ⟨_, rfl⟩
 rw [hg0] at HI ⊢
 clear hg0
 obtain ⟨V, hV⟩ : ∃ z, p.V = z := ⟨_, rfl⟩
 rw [hV] at HI
 clear hV
 go_wp2
 go_loopw [53] (fun i wr => ∃ (k : Nat) (F : Nat → ByteArray) (m : SM), k ≤ len ∧ i = .int .i64 k ∧ AgS w3 c V (.slice vo vn vc) tb sz p g F F (2 * k) m wr) (fun i _ => len - (intOf i).toNat)
 case atStart => exact ⟨0, _, _, Nat.zero_le _, rfl, by simpa using HI.out⟩
 case round =>
   obtain ⟨k, F, m, hk, rfl, hI⟩ := hrel
   obtain ⟨wo, rfl⟩ : ∃ wo : World, wo = wr := ⟨_, rfl⟩
   have I := Lib.hid hI
   clear hI
   by_cases hlt : k < len
   · obtain ⟨⟨ab, abo, hae, hr, _⟩, hkd, hpl, hdt⟩ := HA.out.2 k hlt
     subst hae
     have hr1 : wo.rangeAt ab (abo + k * 3) (act18C (A k)).toList := fun j u hj => (ext_trans HX.out.2 I.out.mt.out).cell (hr j u hj) (by simp)
     generalize A k = x at hr1 hdt hkd hpl
     clear hr
     have hBa := Blk.new wo 40 #[.int .u8 0, .int .i64 0, .string ⟨#[]⟩]
     go_upto_region 13 with (first
       | (refine act18_load rfl _ rfl rfl hr1 ?_)
       | (refine act18_store _ _ rfl rfl rfl hBa rfl rfl ?_; intro w8 hb8 hg8 hs8; have I8 := Lib.hid (I.out.ext (g17_new (World.grownBy_alloc wo _ none) hg8 (Nat.le_refl _))); have B8 := hb8; clear hBa hg8 hs8 hb8 hr1))
     have c2 : w8.cell? ⟨wo.heap.size, 2, none⟩ = some (.string x.dt) := B8.cell 2
     obtain ⟨xb, hxb⟩ : ∃ z, wo.heap.size = z := ⟨_, rfl⟩
     rw [hxb] at B8 c2 ⊢
     clear hxb
     by_cases hbig : (100 : Int) < x.dt.size
     · have HO := Lib.hid I8.out.mt.out
       clear B8
       go_wp2
       go_ret
       exact ⟨rfl, ext_trans HX.out.2 HO.out⟩
     · have DO := do19 HC.out.1 HC.out.2.1 HC.out.2.2 I8.out (by omega) (by have := HX.out.1; omega) x.kd x.pl x.dt hkd hdt sz
       have hk100 : k < 100 := by omega
       clear hkd hpl hdt
       go_wp2_with (first
         | (refine act_read19 rfl _ rfl rfl B8 ?_)
         | (go_at_call 18; refine DO.mono ?_; rintro e w9 ⟨rfl, F9, m9, hI9⟩; have I9 := Lib.hid hI9; clear hI9 DO B8))
       go_roundw
       case rel => exact ⟨k + 1, F9, m9, by omega, by go_num, by have := I9.out; rw [show 2 * (k + 1) = 2 * k + 2 by omega]; exact this⟩
       case measure => simp [intOf]; omega
   · obtain rfl : k = len := by omega
     clear hlt hk
     obtain ⟨m7, q7, P7, FL⟩ := I.out.flush HC.out.1 HC.out.2.1 (by omega)
     obtain ⟨z0, hz0⟩ : ∃ z : Int, (0 : Int) = z := ⟨_, rfl⟩
     have hz1 : (z0 != 0) = false := by rw [← hz0]; rfl
     rw [hz0] at FL
     have HP7 := Lib.hid (And.intro q7 P7)
     have HZ0 := Lib.hid hz0
     clear q7 P7 hz0
     go_upto_region 17 with (go_at_call 12; refine FL.mono ?_; rintro e w7 ⟨rfl, hI7⟩; have I7 := Lib.hid hI7; clear hI7)
     clear FL
     obtain ⟨m1, m2, r1, r2, O1⟩ := I7.out.two HC.out.1 HC.out.2.1 HC.out.2.2 (by omega) HP7.out.2
     have hB7 := I7.out.tn
     rw [HZ0.out] at O1
     have HR := Lib.hid (And.intro r1 r2)
     clear r1 r2
     go_upto_region 18 with (first
       | (refine ten_read18 rfl _ rfl rfl hB7 ?_)
       | (go_at_call 19; refine O1.mono ?_; rintro e w8 ⟨p1, rfl, hB8, O2⟩; clear O1 hB7))
     go_upto_region 19 with (first
       | (refine ten_read18 rfl _ rfl rfl hB8 ?_)
       | (go_at_call 19; refine O2.mono ?_; rintro e w9 ⟨p2, rfl, hst, hok, hwf, hI9⟩; have I9 := Lib.hid hI9; have TL := told19 hst hok hwf sz (by have := HX.out.1; omega) (by have := HX.out.1; omega) (fun i hi => (HR.out.1 i hi).1); clear O2 hB8 hI9 hst hok hwf))
     have c2 : w9.cell? ⟨tb, 2, none⟩ = some (.int .i64 (sz : Int)) := (I9.out.tn.cell 2).trans (show (teC true c.ep c.sz c.sp (.slice vo vn vc))[2]? = some (.int .i64 (sz : Int)) by rw [← HC.out.2.2]; rfl)
     go_upto_region 22 with (go_at_call 16; refine TL.mono ?_; rintro e w10 ⟨g10, cc10, rfl, _, hs10, hg10⟩; have S10 := Lib.hid hs10; have I10 := Lib.hid (I9.out.ext hg10); clear hs10 hg10 TL c2)
     have c2 : w10.cell? ⟨tb, 2, none⟩ = some (.int .i64 (sz : Int)) := (I10.out.tn.cell 2).trans (show (teC true c.ep c.sz c.sp (.slice vo vn vc))[2]? = some (.int .i64 (sz : Int)) by rw [← HC.out.2.2]; rfl)
     have TL := told19 I10.out.mt.st I10.out.mt.ok I10.out.mt.wf sz (by have := HX.out.1; omega) (by have := HX.out.1; omega) (fun i hi => (HR.out.2 i hi).1)
     go_upto_region 23 with (go_at_call 16; refine TL.mono ?_; rintro e w11 ⟨g11, cc11, rfl, _, hs11, hg11⟩; have S11 := Lib.hid (And.intro (S10.out.ext hg11) hs11); have I11 := Lib.hid (I10.out.ext hg11); clear hs11 hg11 TL c2)
     have SA := same19 w11 g10 g sz cc10 sz _ F S11.out.1 (StB.of_blk I11.out.ws) (by have := HX.out.1; omega)
     have SB := Lib.hid (fun (wx : World) (hE : w11.grownBy wx none) => same19 wx g11 g sz cc11 sz _ F (S11.out.2.ext hE) (StB.of_blk (I11.out.ext hE).ws) (by have := HX.out.1; omega))
     go_upto_region 25 with (first
       | (go_at_call 17; refine SA.mono ?_; rintro e w12 ⟨⟨b12, rfl, hb12⟩, hg12⟩; obtain rfl := hb12 (fun i hi => (HR.out.1 i hi).2); have I12 := Lib.hid (I11.out.ext hg12); have SC := SB.out w12 hg12; clear hb12 hg12 SA)
       | (go_at_call 17; refine SC.mono ?_; rintro e w13 ⟨⟨b13, rfl, hb13⟩, hg13⟩; obtain rfl := hb13 (fun i hi => (HR.out.2 i hi).2); have I13 := Lib.hid (I12.out.ext hg13); clear hb13 hg13 SC))
     have J13 := Lib.hid (I13.out.mono (j2 := 2 * 0 + 1000) (by omega))
     clear S10 S11 SB I7 I9 I10 I11 I12 I13 I HI HP7 HR
     go_wp2
     go_loopw [132] (fun i wr => ∃ (k : Nat) (F : Nat → ByteArray) (m : SM), k ≤ blen ∧ i = .int .i64 k ∧ AgS w3 c V (.slice vo vn vc) tb sz p2 g F F (2 * k + 1000) m wr) (fun i _ => blen - (intOf i).toNat)
     case atStart => exact ⟨0, _, _, Nat.zero_le _, rfl, J13.out⟩
     case round =>
       obtain ⟨k, F, m, hk, rfl, hI⟩ := hrel
       obtain ⟨wo, rfl⟩ : ∃ wo : World, wo = wr := ⟨_, rfl⟩
       have I := Lib.hid hI
       clear hI
       by_cases hlt : k < blen
       · obtain ⟨⟨ab, abo, hae, hr, _⟩, hkd, hpl, hdt⟩ := HBb.out.2 k hlt
         subst hae
         have hr1 : wo.rangeAt ab (abo + k * 3) (act18C (B k)).toList := fun j u hj => (ext_trans HX.out.2 I.out.mt.out).cell (hr j u hj) (by simp)
         generalize B k = x at hr1 hdt hkd hpl
         clear hr
         have hBa := Blk.new wo 40 #[.int .u8 0, .int .i64 0, .string ⟨#[]⟩]
         go_upto_region 29 with (first
           | (refine act18_load rfl _ rfl rfl hr1 ?_)
           | (refine act18_store _ _ rfl rfl rfl hBa rfl rfl ?_; intro w8 hb8 hg8 hs8; have I8 := Lib.hid (I.out.ext (g17_new (World.grownBy_alloc wo _ none) hg8 (Nat.le_refl _))); have B8 := hb8; clear hBa hg8 hs8 hb8 hr1))
         have c2 : w8.cell? ⟨wo.heap.size, 2, none⟩ = some (.string x.dt) := B8.cell 2
         obtain ⟨xb, hxb⟩ : ∃ z, wo.heap.size = z := ⟨_, rfl⟩
         rw [hxb] at B8 c2 ⊢
         clear hxb
         by_cases hbig : (100 : Int) < x.dt.size
         · have HO := Lib.hid I8.out.mt.out
           clear B8
           go_wp2
           go_ret
           exact ⟨rfl, ext_trans HX.out.2 HO.out⟩
         · have DO := do19 HC.out.1 HC.out.2.1 HC.out.2.2 I8.out (by omega) (by have := HX.out.1; omega) x.kd x.pl x.dt hkd hdt sz
           have hk100 : k < 100 := by omega
           clear hkd hpl hdt
           go_wp2_with (first
             | (refine act_read19 rfl _ rfl rfl B8 ?_)
             | (go_at_call 18; refine DO.mono ?_; rintro e w9 ⟨rfl, F9, m9, hI9⟩; have I9 := Lib.hid hI9; clear hI9 DO B8))
           go_roundw
           case rel => exact ⟨k + 1, F9, m9, by omega, by go_num, by have := I9.out; rw [show 2 * (k + 1) + 1000 = 2 * k + 1000 + 2 by omega]; exact this⟩
           case measure => simp [intOf]; omega
       · obtain rfl : k = blen := by omega
         clear hlt hk
         have TL := told19 I.out.mt.st I.out.mt.ok I.out.mt.wf sz (by have := HX.out.1; omega) (by have := HX.out.1; omega) (fun i hi => (I.out.rea HC.out.1 HC.out.2.2 hi).1)
         have c2 : wo.cell? ⟨tb, 2, none⟩ = some (.int .i64 (sz : Int)) := (I.out.tn.cell 2).trans (show (teC true c.ep c.sz c.sp (.slice vo vn vc))[2]? = some (.int .i64 (sz : Int)) by rw [← HC.out.2.2]; rfl)
         go_upto_region 33 with (go_at_call 16; refine TL.mono ?_; rintro e w21 ⟨g21, cc21, rfl, _, hs21, hg21⟩; have S21 := Lib.hid hs21; have I21 := Lib.hid (I.out.ext hg21); clear hs21 hg21 TL c2)
         have SA := same19 w21 g21 g sz cc21 sz _ F S21.out (StB.of_blk I21.out.ws) (by have := HX.out.1; omega)
         go_wp2_with (go_at_call 17; refine SA.mono ?_; rintro e w22 ⟨⟨b22, rfl, hb22⟩, hg22⟩; obtain rfl := hb22 (fun i hi => (I.out.rea HC.out.1 HC.out.2.2 hi).2); have I22 := Lib.hid (I21.out.ext hg22); clear hb22 hg22 SA)
         go_ret
         exact ⟨rfl, ext_trans HX.out.2 I22.out.mt.out⟩
end Go.Proofs.YtdnpdoipipfkoaaGreatDoor
