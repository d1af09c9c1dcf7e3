/-
  Texts put together: PU.
-/
import Derived.Test.YtdnpdoipipfkoaaGreatDoorM33
namespace Go.Proofs.YtdnpdoipipfkoaaGreatDoor
set_option linter.unusedVariables false
set_option linter.unusedSimpArgs false
set_option linter.unusedVariables false
set_option linter.unusedSimpArgs false
set_option maxRecDepth 100000
open Go.RowKit
set_option maxHeartbeats 25600000 in
theorem mountOthers_any (n0 n1 n2 n3 : Int) (ao : Option Addr) (n cap : Nat) (a : Option Addr) (len cap2 : Nat) (A : Nat → Act18) (y : Int) (w : World) (hF : Flds w) (h : Acts18 w a len A) (hy : 0 ≤ y ∧ y ≤ 255) :
   Calls Tryz.prog 5 #[.agg #[.int .i64 n0, .int .i64 n1, .int .i64 n2, .int .i64 n3, .slice ao n cap], .slice a len cap2, .int .u8 y] w fun e w' => e = .returned (.bool true) ∧ w.grownBy w' none := by
 have B0 := Blk.new w 24 (wardC n0 n1 n2 n3 ao n cap)
 have E0 := World.grownBy_alloc w (.cells (wardC n0 n1 n2 n3 ao n cap) 24) none
 obtain ⟨w1, hw1⟩ : ∃ v, w.alloc (.cells (wardC n0 n1 n2 n3 ao n cap) 24) = v := ⟨_, rfl⟩
 have hw1' : w.alloc (.cells #[.int .i64 n0, .int .i64 n1, .int .i64 n2, .int .i64 n3, .slice ao n cap] 24) = w1 := hw1
 obtain ⟨wb, hwb⟩ : ∃ v, w.heap.size = v := ⟨_, rfl⟩
 rw [hw1] at B0 E0
 rw [hwb] at B0
 have FX := fixed19 w1 (hF.ext E0)
 have HF := Lib.hid hF
 have HA := Lib.hid h
 have HY := Lib.hid hy
 have hlm : len ≤ 9223372036854775807 := h.1
 have H0 := Lib.hid (And.intro B0 E0)
 have HWB := Lib.hid hwb
 clear hF B0 E0 hw1 h hy
 go_enter Tryz.func5, Tryz.ntmps5
 go_upto_region 3 with (go_at_call 6; refine FX.mono ?_; rintro e w2 ⟨rfl, hE2⟩; have H2 := Lib.hid (And.intro (H0.out.1.ext hE2) (ext_trans H0.out.2 hE2)); clear hE2)
 clear FX hw1' hwb
 by_cases h1 : (60 : Int) < len
 · go_wp2
   go_ret
   exact ⟨rfl, H2.out.2⟩
 go_upto_region 5 with fail
 have hl100 : len ≤ 60 := by omega
 clear h1
 have c4 : w2.cell? ⟨wb, 4, none⟩ = some (.slice ao n cap) := H2.out.1.cell 4
 have f4 := H2.out.1.free 4
 have B3 : Blk (w2.setCell ⟨wb, 4, none⟩ (.slice none 0 0)) wb 24 (wardC n0 n1 n2 n3 none 0 0) := H2.out.1.set 4 (.slice none 0 0)
 have E3 : w.grownBy (w2.setCell ⟨wb, 4, none⟩ (.slice none 0 0)) none := g17_new H2.out.2 (gb_set (gb_refl w2 _) _ _) (by rw [HWB.out]; exact Nat.le_refl _)
 go_upto_region 6 with fail
 clear c4 f4
 obtain ⟨w3, hw3⟩ : ∃ v, w2.setCell ⟨wb, 4, none⟩ (.slice none 0 0) = v := ⟨_, rfl⟩
 rw [hw3] at B3 E3 ⊢
 clear hw3 H2
 have HE3 := Lib.hid E3
 have OP3 := open18 n0 n1 n2 n3 (.slice none 0 0) [] w3 (HF.out.ext E3) (.inl ⟨rfl, rfl⟩) (fun k hk => by simp [Value.ownBlock] at hk) (by decide)
 clear E3
 go_upto_region 9 with (first
   | (refine ward_load18 rfl _ rfl rfl B3 ?_)
   | (go_at_call 7; refine OP3.mono ?_; rintro e w4 hop; obtain ⟨_, p, S, v, rfl, hO⟩ := hop.resolve_left (fun h => h.1 newE_none); have HO := Lib.hid hO; obtain ⟨vo, vn, vc, rfl⟩ := hO.vf; have hBn := Blk.new w4 33 (teC false 0 0 0 (.slice none 0 0)); clear hop hO)
   | (refine ten_store18 _ _ rfl rfl rfl hBn rfl rfl ?_; intro w5 hb5 hg5 hs5))
 have E45 : w4.grownBy w5 none := g17_new (World.grownBy_alloc w4 _ none) hg5 (Nat.le_refl _)
 obtain ⟨L, M0⟩ := mt_open HO.out
 have hszi := szO_in n0
 obtain ⟨sz, hsz⟩ : ∃ z : Nat, szO n0 = z := ⟨(szO n0).toNat, by omega⟩
 have hTT : tS p (cO S [] (szO n0) (prO n1) (toO n0 n1 n2 n3).toNat) w4.heap.size = 0 := HO.out.st.fresh (Nat.le_refl _)
 have I0 : OtS w3 (cO S [] (szO n0) (prO n1) (toO n0 n1 n2 n3).toNat) p.V (.slice vo vn vc) w4.heap.size p 0 m0F w5 := ⟨(M0.ext E45).mono (by omega), clm_O (open_room n0 n1 n2 n3), hb5, hTT, by decide⟩
 have hS : S = (cO S [] (szO n0) (prO n1) (toO n0 n1 n2 n3).toNat).S := rfl
 have hcz : (cO S [] (szO n0) (prO n1) (toO n0 n1 n2 n3).toNat).sz = sz := hsz
 have hce : (cO S [] (szO n0) (prO n1) (toO n0 n1 n2 n3).toNat).ep = 1 := rfl
 have hzs : (cO S [] (szO n0) (prO n1) (toO n0 n1 n2 n3).toNat).zs (cO S [] (szO n0) (prO n1) (toO n0 n1 n2 n3).toNat).who.toNat = [] := zs_O
 have hsz12 : sz ≤ 12 ∧ 1 ≤ sz := by omega
 obtain ⟨c, hc⟩ : ∃ z, cO S [] (szO n0) (prO n1) (toO n0 n1 n2 n3).toNat = z := ⟨_, rfl⟩
 rw [hc] at L I0 hS hcz hzs hce
 obtain ⟨tb, htb⟩ : ∃ z, w4.heap.size = z := ⟨_, rfl⟩
 rw [htb] at I0 ⊢
 have HC := Lib.hid (And.intro L (And.intro hzs (And.intro hcz hce)))
 have HI := Lib.hid I0
 have HX := Lib.hid (And.intro hsz12 HE3.out)
 clear hb5 hg5 hs5 hBn B3 OP3 E45 hc htb H0 hszi hsz M0 L I0 hcz hzs hTT hsz12 hce
 rw [hS]
 clear hS HO
 obtain ⟨V, hV⟩ : ∃ z, p.V = z := ⟨_, rfl⟩
 rw [hV] at HI
 clear hV
 go_wp2
 go_loopw [37] (fun i wr => ∃ (k : Nat) (m : SM), k ≤ len ∧ i = .int .i64 k ∧ OtS w3 c V (.slice vo vn vc) tb p k m wr) (fun i _ => len - (intOf i).toNat)
 case atStart => exact ⟨0, _, Nat.zero_le _, rfl, HI.out⟩
 case round =>
   obtain ⟨k, m, hk, rfl, hI⟩ := hrel
   obtain ⟨wo, rfl⟩ : ∃ wo : World, wo = wr := ⟨_, rfl⟩
   have I := Lib.hid hI
   clear hI
   by_cases hlt : k < len
   · obtain ⟨⟨ab, abo, hae, hr, _⟩, hkd, hpl, hdt⟩ := HA.out.2 k hlt
     subst hae
     have hr1 : wo.rangeAt ab (abo + k * 3) (act18C (A k)).toList := fun j u hj => (ext_trans HX.out.2 I.out.mt.out).cell (hr j u hj) (by simp)
     generalize A k = x at hr1 hdt hkd hpl
     clear hr hkd hpl
     have hBa := Blk.new wo 40 #[.int .u8 0, .int .i64 0, .string ⟨#[]⟩]
     go_upto_region 12 with (first
       | (refine act18_load rfl _ rfl rfl hr1 ?_)
       | (refine act18_store _ _ rfl rfl rfl hBa rfl rfl ?_; intro w8 hb8 hg8 hs8; have I8 := Lib.hid (I.out.ext (g17_new (World.grownBy_alloc wo _ none) hg8 (Nat.le_refl _))); have B8 := hb8; clear hBa hg8 hs8 hb8 hr1))
     have c1 : w8.cell? ⟨wo.heap.size, 1, none⟩ = some (.int .i64 x.pl) := B8.cell 1
     have c2 : w8.cell? ⟨wo.heap.size, 2, none⟩ = some (.string x.dt) := B8.cell 2
     obtain ⟨xb, hxb⟩ : ∃ z, wo.heap.size = z := ⟨_, rfl⟩
     rw [hxb] at c1 c2 ⊢
     clear hxb B8
     by_cases hbig : (100 : Int) < x.dt.size
     · have HO := Lib.hid I8.out.mt.out
       go_wp2
       go_ret
       exact ⟨rfl, ext_trans HX.out.2 HO.out⟩
     · obtain ⟨e1, m9, WR⟩ := I8.out.write HC.out.1 HC.out.2.1 x.pl x.dt hdt (by omega)
       have hk100 : k < 60 := by omega
       clear hdt
       go_wp2_with (go_at_call 10; refine WR.mono ?_; rintro e w9 ⟨rfl, hI9⟩; have I9 := Lib.hid hI9; clear hI9 WR)
       go_roundw
       case rel => exact ⟨k + 1, m9, by omega, by go_num, I9.out⟩
       case measure => simp [intOf]; omega
   · obtain rfl : k = len := by omega
     clear hlt hk
     obtain ⟨m7, FL⟩ := I.out.flush HC.out.1 HC.out.2.1 (by omega)
     obtain ⟨z0, hz0⟩ : ∃ z : Int, (0 : Int) = z := ⟨_, rfl⟩
     have hz1 : (z0 != 0) = false := by rw [← hz0]; rfl
     rw [hz0] at FL
     clear hz0
     go_upto_region 18 with (go_at_call 12; refine FL.mono ?_; rintro e w7 ⟨rfl, hI7⟩; have I7 := Lib.hid hI7; clear hI7)
     clear FL hz1
     have hB7 := I7.out.tn
     have hBn := Blk.new w7 33 (teC false 0 0 0 (.slice none 0 0))
     go_upto_region 19 with (first
       | (refine ten_read18 rfl _ rfl rfl hB7 ?_)
       | (refine ten_store18 _ _ rfl rfl rfl hBn rfl rfl ?_; intro w8 hb8 hg8 hs8; have E8 := Lib.hid (g17_new (World.grownBy_alloc w7 _ none) hg8 (Nat.le_refl _)); have B8 := Lib.hid hb8; clear hBn hb8 hg8 hs8 hB7))
     have hob := I7.out.tn.lt
     obtain ⟨ob, hobe⟩ : ∃ z, w7.heap.size = z := ⟨_, rfl⟩
     have OBN := Lib.hid (show w7.heap.size ≤ ob by omega)
     rw [hobe] at B8 ⊢
     clear hobe hob
     have c1 : w8.cell? ⟨ob, 1, none⟩ = some (.int .i64 c.ep) := B8.out.cell 1
     have f1 := B8.out.free 1
     have hyb := HY.out
     have B9 := Lib.hid (show Blk (w8.setCell ⟨ob, 1, none⟩ (.int .i64 (2 + y))) ob 33 (teC true (2 + y) c.sz c.sp (.slice vo vn vc)) from B8.out.set 1 (.int .i64 (2 + y)))
     have I9 := Lib.hid (I7.out.ext (g17_new E8.out (gb_set (gb_refl w8 _) 1 (.int .i64 (2 + y))) OBN.out))
     go_upto_region 20 with fail
     clear c1 f1 B8 E8
     obtain ⟨w9, hw9⟩ : ∃ z, w8.setCell ⟨ob, 1, none⟩ (.int .i64 (2 + y)) = z := ⟨_, rfl⟩
     rw [hw9] at B9 I9 ⊢
     clear hw9
     obtain ⟨m2, q2, r2, wf2, O2⟩ := oth_mt HC.out.1 HC.out.2.1 I9.out.mt I9.out.cl (by omega) (e2 := 2 + y) (by rw [HC.out.2.2.2]; omega)
     have hB9 := B9.out
     have HM := Lib.hid (And.intro q2 (And.intro r2 wf2))
     clear q2 r2 wf2
     obtain ⟨z0, hz0⟩ : ∃ z : Int, (0 : Int) = z := ⟨_, rfl⟩
     have hz1 : (z0 == 0) = true := by rw [← hz0]; rfl
     rw [hz0] at O2
     have HZ0 := Lib.hid hz0
     clear hz0
     go_upto_region 21 with (first
       | (refine ten_read18 rfl _ rfl rfl hB9 ?_)
       | (go_at_call 19; refine O2.mono ?_; rintro e w10 ⟨p2, rfl, st10, ok10, kp10⟩; have S10 := Lib.hid (And.intro st10 ok10); have T10 := Lib.hid (And.intro (kp10.blk18 I9.out.tn (tS_T I9.out.tt)) (Keeps.grown I9.out.mt.out kp10 HC.out.1.lo)); clear st10 ok10 kp10 hB9 O2))
     have c2 : w10.cell? ⟨tb, 2, none⟩ = some (.int .i64 (sz : Int)) := (T10.out.1.cell 2).trans (show (teC true c.ep c.sz c.sp (.slice vo vn vc))[2]? = some (.int .i64 (sz : Int)) by rw [← HC.out.2.2.1]; rfl)
     have TL := told19 S10.out.1 S10.out.2 HM.out.2.2 sz (by have := HX.out.1; omega) (by have := HX.out.1; omega) (fun i hi => (HM.out.2.1 i (by have := HC.out.2.2.1; omega)).1)
     go_upto_region 22 with (go_at_call 16; refine TL.mono ?_; rintro e w11 ⟨g11, cc11, rfl, _, hs11, hg11⟩; have S11 := Lib.hid (And.intro hs11 hg11); clear hs11 hg11 TL c2)
     have c2 : w11.cell? ⟨tb, 2, none⟩ = some (.int .i64 (sz : Int)) := ((T10.out.1.ext S11.out.2).cell 2).trans (show (teC true c.ep c.sz c.sp (.slice vo vn vc))[2]? = some (.int .i64 (sz : Int)) by rw [← HC.out.2.2.1]; rfl)
     have mk1 := make_run Tryz.underlying36 Tryz.infoStr18 sz (by have := HX.out.1; omega) (by have := HX.out.1; omega) w11
     have E12 := World.grownBy_alloc w11 (.cells (madeCells #[.string ⟨#[]⟩] (sz * 1)) 9) none
     have B12 := Blk.new w11 9 (madeCells #[.string ⟨#[]⟩] (sz * 1))
     rw [show (Value.string ⟨#[]⟩).cells = #[.string ⟨#[]⟩] from rfl] at mk1
     obtain ⟨w12, hw12⟩ : ∃ v, w11.alloc (.cells (madeCells #[.string ⟨#[]⟩] (sz * 1)) 9) = v := ⟨_, rfl⟩
     rw [hw12] at mk1 E12 B12
     rw [Nat.mul_one, stsC_made] at B12
     clear hw12
     have SA := same19 w12 g11 w11.heap.size sz cc11 sz _ (fun _ => ⟨#[]⟩) (S11.out.1.ext E12) (StB.of_blk B12) (by have := HX.out.1; omega)
     have HE12 := Lib.hid E12
     clear E12 B12
     have hsz12 := HX.out.1
     go_wp2_with (first
       | (go_at_call 17; refine SA.mono ?_; rintro e w13 ⟨⟨b13, rfl, hb13⟩, hg13⟩; obtain rfl := hb13 (fun i hi => (HM.out.2.1 i (by have := HC.out.2.2.1; omega)).2); have E13 := Lib.hid (ext_trans (ext_trans S11.out.2 HE12.out) hg13); have WT := waiting18 (S10.out.1.ext S10.out.2 E13.out) (by rw [HM.out.1]; exact Nat.zero_le _); rw [HM.out.1] at WT; clear hb13 hg13 SA)
       | (go_at_call 20; refine WT.mono ?_; rintro e w14 ⟨rfl, hg14⟩; have E14 := Lib.hid hg14; clear hg14 WT))
     go_ret
     exact ⟨rfl, ext_trans HX.out.2 (ext_trans (ext_trans T10.out.2 E13.out) E14.out)⟩
end Go.Proofs.YtdnpdoipipfkoaaGreatDoor
