/-
  Texts put together: PM.
-/
import Derived.Test.YtdnpdoipipfkoaaGreatDoorM27
namespace Go.Proofs.YtdnpdoipipfkoaaGreatDoor
set_option linter.unusedVariables false
set_option linter.unusedSimpArgs false
set_option linter.unusedVariables false
set_option linter.unusedSimpArgs false
set_option maxRecDepth 100000
open Go.RowKit
set_option maxHeartbeats 25600000 in
theorem mountPrefix_any (n0 n1 n2 n3 : Int) (ao : Option Addr) (n cap : Nat) (zs : List Int) (a : Option Addr) (len cap2 : Nat) (A : Nat → Act18) (ca : Option Addr) (cl cc : Nat) (cs : List Int) (ga : Option Addr) (gl gc : Nat) (gs : List Int) (w : World) (hF : Flds w) (W : WardP w n0 n1 n2 n3 ao n cap zs) (h : Acts18 w a len A)
   (hc : IsRow .u8 w ca cl cc cs) (hcs : ∀ x, ca = some x → x.spot = none ∧ x.block < w.heap.size) (hg : IsRow .u8 w ga gl gc gs) (hgs : ∀ x, ga = some x → x.spot = none ∧ x.block < w.heap.size) :
   Calls Tryz.prog 3 #[.agg #[.int .i64 n0, .int .i64 n1, .int .i64 n2, .int .i64 n3, .slice ao n cap], .slice a len cap2, .slice ca cl cc, .slice ga gl gc] w fun e w' => e = .returned (.bool true) ∧ w.grownBy w' none := by
 have B0 := Blk.new w 24 (wardC n0 n1 n2 n3 ao n cap)
 have E0 := World.grownBy_alloc w (.cells (wardC n0 n1 n2 n3 ao n cap) 24) none
 obtain ⟨w1, hw1⟩ : ∃ v, w.alloc (.cells (wardC n0 n1 n2 n3 ao n cap) 24) = v := ⟨_, rfl⟩
 have hw1' : w.alloc (.cells #[.int .i64 n0, .int .i64 n1, .int .i64 n2, .int .i64 n3, .slice ao n cap] 24) = w1 := hw1
 obtain ⟨wb, hwb⟩ : ∃ v, w.heap.size = v := ⟨_, rfl⟩
 rw [hw1] at B0 E0
 rw [hwb] at B0
 have FX := fixed19 w1 (hF.ext E0)
 have HF := Lib.hid hF
 have HW := Lib.hid W
 have HA := Lib.hid h
 have HCS := Lib.hid (And.intro hc hcs)
 have HGS := Lib.hid (And.intro hg hgs)
 have hlm : len ≤ 9223372036854775807 := h.1
 have H0 := Lib.hid (And.intro B0 E0)
 have HWB := Lib.hid hwb
 have hnm : n ≤ 9223372036854775807 := by have := W.mx; unfold maxLen at this; omega
 clear hF B0 E0 hw1 W h hc hcs hg hgs
 go_enter Tryz.func3, Tryz.ntmps3
 go_upto_region 3 with (go_at_call 6; refine FX.mono ?_; rintro e w2 ⟨rfl, hE2⟩; have H2 := Lib.hid (And.intro (H0.out.1.ext hE2) (ext_trans H0.out.2 hE2)); clear hE2)
 clear FX hw1' hwb
 by_cases h1 : (150 : Int) < len
 · go_wp2
   go_ret
   exact ⟨rfl, H2.out.2⟩
 by_cases h2 : (150 : Int) < cl
 · go_wp2
   go_ret
   exact ⟨rfl, H2.out.2⟩
 by_cases h3 : (6 : Int) < gl
 · go_wp2
   go_ret
   exact ⟨rfl, H2.out.2⟩
 have B2 : Blk w2 wb 24 (wardC n0 n1 n2 n3 ao n cap) := H2.out.1
 have c4 : w2.cell? ⟨wb, 4, none⟩ = some (.slice ao n cap) := B2.cell 4
 by_cases h4 : (64 : Int) < n
 · go_wp2
   go_ret
   exact ⟨rfl, H2.out.2⟩
 go_upto_region 5 with fail
 have HL := Lib.hid (show len ≤ 150 ∧ cl ≤ 150 ∧ gl ≤ 6 ∧ n ≤ 64 by omega)
 clear h1 h2 h3 h4 c4
 have OP3 := open18 n0 n1 n2 n3 (.slice ao n cap) zs w2 (HF.out.ext H2.out.2) (HW.out.is.kept H2.out.2 (by simp)) (fun k hk => Nat.lt_of_lt_of_le (HW.out.lt k hk) H2.out.2.size) (by have := HL.out.2.2.2; have := HW.out.len; omega)
 by_cases hne : newE (zsO zs) = 0
 case neg =>
   have OP4 : Calls Tryz.prog 7 #[.agg #[.int .i64 n0, .int .i64 n1, .int .i64 n2, .int .i64 n3, .slice ao n cap], .int .i64 (-1)] w2 fun e w' => (∃ ao n cap, e = .returned (.tuple #[.pointer none, .pointer none, .pointer none, .pointer none, .agg #[.bool true, .int .i64 1, .int .i64 (szO n0), .int .i64 (prO n1), .slice ao n cap]])) ∧ w2.grownBy w' none := OP3.mono fun e w' hop => (hop.resolve_right (fun h => hne h.1)).2
   clear OP3 hne
   go_wp2_with (first
     | (refine ward_load18 rfl _ rfl rfl B2 ?_)
     | (go_at_call 7; refine OP4.mono ?_; rintro e w4 ⟨⟨vo, vn, vc, rfl⟩, hg4⟩; have hBn := Blk.new w4 33 (teC false 0 0 0 (.slice none 0 0)))
     | (refine ten_store18 _ _ rfl rfl rfl hBn rfl rfl ?_; intro w5 hb5 hg5 hs5))
   go_ret
   exact ⟨rfl, ext_trans H2.out.2 (g17_new (ext_trans hg4 (World.grownBy_alloc w4 _ none)) hg5 hg4.size)⟩
 go_upto_region 8 with (first
   | (refine ward_load18 rfl _ rfl rfl B2 ?_)
   | (go_at_call 7; refine OP3.mono ?_; rintro e w4 hop; obtain ⟨_, p, S, v, rfl, hO⟩ := hop.resolve_left (fun h => h.1 hne); have HO := Lib.hid hO; obtain ⟨vo, vn, vc, rfl⟩ := hO.vf; have hBn := Blk.new w4 33 (teC false 0 0 0 (.slice none 0 0)); clear hop hO)
   | (refine ten_store18 _ _ rfl rfl rfl hBn rfl rfl ?_; intro w5 hb5 hg5 hs5))
 clear hne
 have E45 : w4.grownBy w5 none := g17_new (World.grownBy_alloc w4 _ none) hg5 (Nat.le_refl _)
 obtain ⟨L, M0⟩ := mt_open HO.out
 have hszi := szO_in n0
 obtain ⟨sz, hsz⟩ : ∃ z : Nat, szO n0 = z := ⟨(szO n0).toNat, by omega⟩
 have E56 := World.grownBy_alloc w5 (.cells (madeCells #[.string ⟨#[]⟩] (sz * 1)) 9) none
 have G0 : SG (cO S zs (szO n0) (prO n1) (toO n0 n1 n2 n3).toNat) m0F := sg_O (open_room n0 n1 n2 n3)
 have hTT : tS p (cO S zs (szO n0) (prO n1) (toO n0 n1 n2 n3).toNat) w4.heap.size = 0 := HO.out.st.fresh (Nat.le_refl _)
 have I0 : InS w2 (cO S zs (szO n0) (prO n1) (toO n0 n1 n2 n3).toNat) p.V (.slice vo vn vc) w4.heap.size sz p w5.heap.size (fun _ => ⟨#[]⟩) (.slice none 0 0) [] [] 0 0 m0F (w5.alloc (.cells (madeCells #[.string ⟨#[]⟩] (sz * 1)) 9)) := by
   have M5 := (M0.ext E45).ext E56
   refine ⟨M5.mono (by omega), dns_O, hb5.ext E56, hTT, ?_, (M0.ext E45).st.fresh (Nat.le_refl _), behV_nil, Nat.le_refl _, by decide, .inl ⟨G0, stK_O⟩⟩
   have h := Blk.new w5 9 (madeCells #[.string ⟨#[]⟩] (sz * 1))
   rw [Nat.mul_one, stsC_made] at h ⊢
   exact StB.of_blk h
 have mk1 := make_run Tryz.underlying36 Tryz.infoStr18 sz (by omega) (by omega) w5
 obtain ⟨w6, hw6⟩ : ∃ v, w5.alloc (.cells (madeCells #[.string ⟨#[]⟩] (sz * 1)) 9) = v := ⟨_, rfl⟩
 rw [show (Value.string ⟨#[]⟩).cells = #[.string ⟨#[]⟩] from rfl, hw6] at mk1
 rw [hw6] at I0
 clear hw6
 have c2 : w5.cell? ⟨w4.heap.size, 2, none⟩ = some (.int .i64 (szO n0)) := hb5.cell 2
 have hS : S = (cO S zs (szO n0) (prO n1) (toO n0 n1 n2 n3).toNat).S := rfl
 have hcz : (cO S zs (szO n0) (prO n1) (toO n0 n1 n2 n3).toNat).sz = sz := hsz
 have hce : (cO S zs (szO n0) (prO n1) (toO n0 n1 n2 n3).toNat).ep = 1 := rfl
 rw [hsz] at c2
 have hsz12 : sz ≤ 12 ∧ 1 ≤ sz := by omega
 obtain ⟨c, hc⟩ : ∃ z, cO S zs (szO n0) (prO n1) (toO n0 n1 n2 n3).toNat = z := ⟨_, rfl⟩
 rw [hc] at L I0 G0 hS hcz hce
 obtain ⟨tb, htb⟩ : ∃ z, w4.heap.size = z := ⟨_, rfl⟩
 rw [htb] at I0 c2 ⊢
 have HC := Lib.hid (And.intro L (And.intro hcz hce))
 have HI := Lib.hid (And.intro I0 (And.intro G0 (show StK c m0F (fun q => (fun _ => (⟨#[]⟩ : ByteArray)) q.toNat) [] by rw [← hc]; exact stK_O)))
 have HX := Lib.hid (And.intro hsz12 H2.out.2)
 clear hb5 hg5 hs5 hBn B2 OP3 E45 hc htb H0 hszi E56 hsz M0 L I0 G0 hcz hce hTT hsz12 H2
 rw [hS]
 clear hS HO
 go_upto_region 9 with fail
 clear mk1 c2
 obtain ⟨g0, hg0⟩ : ∃ v, w5.heap.size = v := ⟨_, rfl⟩
 rw [hg0] at HI ⊢
 clear hg0
 obtain ⟨V, hV⟩ : ∃ z, p.V = z := ⟨_, rfl⟩
 rw [hV] at HI
 clear hV
 go_wp2
 go_loopw [9, 14, 15, 16, 63] (fun s d b t i wr => ∃ (ix at0 : Nat) (p : SP) (g dc : Nat) (F : Nat → ByteArray) (m : SM), ix ≤ cl ∧ at0 ≤ len ∧ s = .pointer (some ⟨p.sb, 0, none⟩) ∧ d = .slice (some ⟨g, 0, none⟩) sz dc ∧ b = .slice none 0 0 ∧ t = .int .i64 at0 ∧ i = .int .i64 ix ∧ InS w2 c V (.slice vo vn vc) tb sz p g F (.slice none 0 0) [] [] at0 ix m wr ∧ SG c m ∧ StK c m (fun q => F q.toNat) []) (fun _ _ _ _ i _ => cl - (intOf i).toNat)
 case atStart => exact ⟨0, 0, p, g0, sz, _, _, by omega, by omega, rfl, rfl, rfl, rfl, rfl, HI.out.1, HI.out.2.1, HI.out.2.2⟩
 case round =>
   clear HI
   obtain ⟨ix, at0, p, g, dc, F, m, hix, hat0, rfl, rfl, rfl, rfl, rfl, hI, hG, hS⟩ := hrel
   obtain ⟨wo, rfl⟩ : ∃ wo : World, wo = wr := ⟨_, rfl⟩
   by_cases hlt : ix < cl
   case neg =>
     obtain rfl : ix = cl := by omega
     have HO := Lib.hid hI.mt.out
     clear hI hG hS
     go_wp2
     go_ret
     exact ⟨rfl, ext_trans HX.out.2 HO.out⟩
   obtain ⟨yb, yo, hca, y, hyc, hy⟩ := row_at18 HCS.out.1 HCS.out.2 (ext_trans HX.out.2 hI.mt.out) hlt
   subst hca
   have BK := back19 hI.mt.st hI.mt.ok (y : Int)
   have H := Lib.hid (And.intro hI (And.intro hG hS))
   have HIX := Lib.hid (show ix < cl ∧ ix ≤ 150 by have := HL.out; omega)
   have HY := Lib.hid hy
   clear hI hG hS
   go_wp2_with (go_at_call 8; refine BK.mono ?_; rintro e w7 ⟨rfl, hs7, hk7⟩; have I7 := Lib.hid (H.out.1.back HC.out.1 H.out.2.1 H.out.2.2 y (by have := HY.out; omega) hs7 hk7); clear hs7 hk7 BK hyc)
   clear H
   obtain ⟨m7, hm7⟩ : ∃ z, ({ m with n := backS y m.n } : SM) = z := ⟨_, rfl⟩
   rw [hm7] at I7
   clear hm7
   go_loopw [14, 15, 16] (fun d b t wr => ∃ (at1 : Nat) (g dc : Nat) (F : Nat → ByteArray) (bv : Value) (B : List Chg) (m : SM), at1 ≤ len ∧ d = .slice (some ⟨g, 0, none⟩) sz dc ∧ bv = b ∧ t = .int .i64 at1 ∧ InS w2 c V (.slice vo vn vc) tb sz p g F bv B B at1 ix m wr) (fun _ _ t _ => len - (intOf t).toNat)
   case atStart => exact ⟨at0, g, dc, F, _, [], m7, hat0, rfl, rfl, rfl, I7.out⟩
   case round =>
     clear I7
     obtain ⟨at1, g, dc, F, bv, B, m1, hat1, rfl, rfl, rfl, hI⟩ := hrel
     obtain ⟨wi, rfl⟩ : ∃ wo : World, wo = wr := ⟨_, rfl⟩
     have I := Lib.hid hI
     have GN := gone7 hI.mt.st.nd
     clear hI
     obtain ⟨off, hoff⟩ : ∃ z, m1.n.off = z := ⟨_, rfl⟩
     rw [hoff] at GN
     have HOFF := Lib.hid hoff
     clear hoff
     have HAT := Lib.hid hat1
     obtain ⟨cnd, hcnd⟩ : ∃ z, (decide (at1 < len) && !off) = z := ⟨_, rfl⟩
     have HCN := Lib.hid hcnd
     clear hcnd
     go_upto_region 15 with fail
     go_cut [79] (fun v wx => v = .bool cnd ∧ wi = wx)
     case first =>
       by_cases h1 : at1 < len
       · cases off
         · have HT := Lib.hid (show cnd = true by rw [← HCN.out, decide_eq_true h1]; rfl)
           go_wp2_with (go_at_call 9; refine GN.mono ?_; rintro e w8 ⟨rfl, rfl⟩)
           go_meet
           exact ⟨by rw [HT.out], rfl⟩
         · have HT := Lib.hid (show cnd = false by rw [← HCN.out, decide_eq_true h1]; rfl)
           go_wp2_with (go_at_call 9; refine GN.mono ?_; rintro e w8 ⟨rfl, rfl⟩)
           go_meet
           exact ⟨by rw [HT.out], rfl⟩
       · have HT := Lib.hid (show cnd = false by rw [← HCN.out, decide_eq_false h1]; rfl)
         go_wp2
         go_meet
         exact ⟨by rw [HT.out], rfl⟩
     case rest =>
       obtain ⟨rfl, rfl⟩ := hcut
       clear GN hat1
       cases cnd
       · as_aux_lemma =>
         obtain ⟨R, kw, PK⟩ := I.out.rdy
         have hb150 : B.length ≤ 150 := by have := I.out.lb; have := HAT.out; have := HL.out; omega
         have hB0 := I.out.tn
         have OPC := opens19 (I.out.mt.arc HC.out.1) (I.out.mt.ars R) (by have := HAT.out; have := HL.out; have := HIX.out; omega) (by have := I.out.sq; omega) ga gl gc (fun i => gs.getD i 0) (cuR_of HGS.out.1 HGS.out.2 (ext_trans HX.out.2 I.out.mt.out) (fun k hk => Nat.le_trans HX.out.2.size (HC.out.1.lo k hk))) (by have := HL.out; omega)
         have HPK := Lib.hid PK
         clear R PK
         go_upto_region 36 with (first
           | (refine ten_read18 rfl _ rfl rfl hB0 ?_)
           | (go_at_call 15; refine OPC.mono ?_; rintro e w8 ⟨p8, m8, rfl, hO8⟩; have O8 := Lib.hid hO8; have O9 := Lib.hid (I.out.open' HC.out.1 (by have := HAT.out; have := HL.out; have := HIX.out; omega) HC.out.2.1 HPK.out hO8); clear hO8 hB0))
         clear OPC
         have c2 : w8.cell? ⟨tb, 2, none⟩ = some (.int .i64 (sz : Int)) := ((O8.out.kp.blk18 I.out.tn (tS_T I.out.tt)).cell 2).trans (show (teC true c.ep c.sz c.sp (.slice vo vn vc))[2]? = some (.int .i64 (sz : Int)) by rw [← HC.out.2.1]; rfl)
         have TL := told19 O8.out.st O8.out.ok O8.out.wf sz (by have := HX.out.1; omega) (by have := HX.out.1; omega) (fun i hi => (O9.out.1 i hi).1)
         have HD := Lib.hid (And.intro (I.out.ss.keeps O8.out.kp (tS_T I.out.gt)) (I.out.bh.keeps O8.out.kp (fun q hq => tS_T hq.t)))
         go_upto_region 39 with (go_at_call 16; refine TL.mono ?_; rintro e w9 ⟨g9, c9, rfl, hn9, hs9, hg9⟩; have I9 := Lib.hid (O9.out.2 w9 g9 hg9 hn9 hs9); have D9 := Lib.hid (And.intro (HD.out.1.ext hg9) (And.intro (HD.out.2.ext hg9) hs9)); clear hn9 hs9 hg9)
         clear TL c2 HD
         have HG9 := Lib.hid (show SG c m8 ∧ StK c m8 (fun q => (fun i : Nat => reaD c m8 i) q.toNat) [] by
           rcases I9.out.ok with h | ⟨G, _⟩
           · exact h
           · have h1 := G.off
             rw [O8.out.G.off] at h1
             cases h1)
         obtain ⟨ba, bcap, hbv⟩ := D9.out.2.1.form
         subst hbv
         obtain ⟨bl, hbl⟩ : ∃ z, B.length = z := ⟨_, rfl⟩
         rw [hbl] at hb150 ⊢
         have HBL := Lib.hid hbl
         clear hbl
         go_wp2
         go_loopw [25, 26] (fun f i wr => ∃ (j : Nat) (fd : Bool), j ≤ bl + 1 ∧ f = .bool fd ∧ i = .int .i64 j ∧ w9.grownBy wr none ∧ (fd = false → j ≤ kw)) (fun _ i _ => bl + 1 - (intOf i).toNat)
         case atStart => exact ⟨0, false, by omega, rfl, rfl, Ext.refl w9, fun _ => by omega⟩
         case round =>
           obtain ⟨j, fd, hj, rfl, rfl, hE, hfd⟩ := hrel
           have HE := Lib.hid hE
           have HJ := Lib.hid (And.intro hj hfd)
           clear hE hfd
           cases fd
           · have hjb : j ≤ bl := by have := HJ.out.2 rfl; have := HPK.out.1; have := HBL.out; omega
             clear hj
             have hB9 := D9.out.2.1.ext HE.out
             have AFT := fun (a2 : Option Addr) (c2 : Nat) (hX : ChR wr a2 j (bX B)) => after19 wr g sz dc F (D9.out.1.ext HE.out) (by have := HX.out.1; omega) (by have := HX.out.1; omega) a2 j c2 (bX B) hX (by omega)
             have SM := Lib.hid (fun (wx : World) (g11 c11 : Nat) (hE : wr.grownBy wx none) (hs : StB wx g11 sz (aftF sz F (bX B) j)) => same19 wx g9 g11 sz c9 c11 (fun i => reaD c m8 i) (aftF sz F (bX B) j) (D9.out.2.2.ext (ext_trans HE.out hE)) hs (by have := HX.out.1; omega))
             have HK := Lib.hid (show j ≤ kw by exact HJ.out.2 rfl)
             have HCH := Lib.hid (show ChR wr ba j (bX B) from hB9.chr (by have := HBL.out; omega))
             rw [HBL.out] at hB9
             rcases hB9 with ⟨hB, hv⟩ | ⟨gq, cp, cur, hv, hcp, _⟩
             · have hbl0 : bl = 0 := by have := HBL.out; rw [hB] at this; simpa using this.symm
               injection hv with e1 e2 e3
               subst e1 e3
               subst hbl0
               obtain rfl : j = 0 := by omega
               have AF := AFT none 0 HCH.out
               clear AFT hB
               go_wp2_with (first
                 | (go_at_call 13; refine AF.mono ?_; rintro e w10 ⟨g10, c10, rfl, hn10, hs10, hg10⟩; have S10 := SM.out w10 g10 c10 hg10 hs10; have E10 := Lib.hid hg10; clear hn10 hs10 hg10)
                 | (go_at_call 17; refine S10.mono ?_; rintro e w11 ⟨⟨b, rfl, hb⟩, hg11⟩; have HB11 := Lib.hid hb; have E11 := Lib.hid (ext_trans (ext_trans HE.out E10.out) hg11); clear hb hg11 S10))
               go_roundw
               case rel => exact ⟨0 + 1, b, by omega, rfl, by go_num, E11.out, fun hb => by
                 have hk := HK.out
                 by_cases e : 0 = kw
                 · have := HB11.out (fun i hi => by
                     show reaD c m8 i = aftF sz F (bX B) 0 i
                     rw [(O9.out.1 i hi).2, e]
                     exact (aftF_aftN kw HPK.out.1 i hi).symm)
                   rw [this] at hb
                   cases hb
                 · omega⟩
               case measure => simp [intOf]
             · injection hv with e1 e2 e3
               rw [HBL.out] at hcp
               clear e2
               subst e1 e3
               have AF := AFT _ bcap HCH.out
               clear AFT
               go_wp2_with (first
                 | (go_at_call 13; refine AF.mono ?_; rintro e w10 ⟨g10, c10, rfl, hn10, hs10, hg10⟩; have S10 := SM.out w10 g10 c10 hg10 hs10; have E10 := Lib.hid hg10; clear hn10 hs10 hg10)
                 | (go_at_call 17; refine S10.mono ?_; rintro e w11 ⟨⟨b, rfl, hb⟩, hg11⟩; have HB11 := Lib.hid hb; have E11 := Lib.hid (ext_trans (ext_trans HE.out E10.out) hg11); clear hb hg11 S10))
               go_roundw
               case rel => exact ⟨j + 1, b, by omega, rfl, by go_num, E11.out, fun hb => by
                 have hk := HK.out
                 by_cases e : j = kw
                 · have := HB11.out (fun i hi => by
                     show reaD c m8 i = aftF sz F (bX B) j i
                     rw [(O9.out.1 i hi).2, e]
                     exact (aftF_aftN kw HPK.out.1 i hi).symm)
                   rw [this] at hb
                   cases hb
                 · omega⟩
               case measure => simp [intOf]; omega
           · have hix150 : ix < 150 := by have := HIX.out; have := HL.out; omega
             by_cases hjb : j ≤ bl
             · clear hj
               go_wp2
               go_roundw
               case rel => exact ⟨ix + 1, at1, p8, g9, c9, _, m8, by have := HIX.out; omega, by have := HAT.out; omega, rfl, rfl, rfl, rfl, by go_num, I9.out.ext HE.out, HG9.out.1, HG9.out.2⟩
               case measure => have := HIX.out; simp [intOf]; omega
             · clear hj
               go_wp2
               go_roundw
               case rel => exact ⟨ix + 1, at1, p8, g9, c9, _, m8, by have := HIX.out; omega, by have := HAT.out; omega, rfl, rfl, rfl, rfl, by go_num, I9.out.ext HE.out, HG9.out.1, HG9.out.2⟩
               case measure => have := HIX.out; simp [intOf]; omega
       · have HLT := Lib.hid (show at1 < len ∧ off = false by
           have h := HCN.out
           simp only [Bool.and_eq_true, decide_eq_true_eq, Bool.not_eq_true'] at h
           exact h)
         have HSG := Lib.hid (show SG c m1 ∧ StK c m1 (fun q => F q.toNat) B by
           rcases I.out.ok with h | ⟨G, _⟩
           · exact h
           · have h1 := G.off
             rw [HOFF.out, HLT.out.2] at h1
             cases h1)
         obtain ⟨⟨ab, abo, rfl, hr, _⟩, hkd, hpl, hdt⟩ := HA.out.2 at1 HLT.out.1
         have hlt1 := HLT.out.1
         have hA150 : at1 < 150 := by have := HL.out; omega
         have hr1 : wi.rangeAt ab (abo + at1 * 3) (act18C (A at1)).toList := fun j u hj => (ext_trans HX.out.2 I.out.mt.out).cell (hr j u hj) (by simp)
         generalize A at1 = x at hr1 hdt hkd hpl
         clear hr
         have hBa := Blk.new wi 40 #[.int .u8 0, .int .i64 0, .string ⟨#[]⟩]
         go_upto_region 17 with (first
           | (refine act18_load rfl _ rfl rfl hr1 ?_)
           | (refine act18_store _ _ rfl rfl rfl hBa rfl rfl ?_; intro w6 hb6 hg6 hs6; have I6 := Lib.hid (I.out.ext (g17_new (World.grownBy_alloc wi _ none) hg6 (Nat.le_refl _))); have B6 := Lib.hid hb6; have HT := Lib.hid (I.out.mt.st.fresh (Nat.le_refl wi.heap.size)); clear hBa hg6 hs6 hb6 hr1))
         clear hlt1
         obtain ⟨xb, hxb⟩ : ∃ z, wi.heap.size = z := ⟨_, rfl⟩
         rw [hxb] at HT B6 ⊢
         clear hxb I
         have XC := Lib.hid (fun (wx : World) (h : Blk wx xb 40 (act18C x)) => And.intro (show wx.cell? ⟨xb, 0, none⟩ = some (.int .u8 x.kd) from h.cell 0) (And.intro (show wx.cell? ⟨xb, 1, none⟩ = some (.int .i64 x.pl) from h.cell 1) (show wx.cell? ⟨xb, 2, none⟩ = some (.string x.dt) from h.cell 2)))
         obtain ⟨kd, hkde⟩ : ∃ z, x.kd = z := ⟨_, rfl⟩
         obtain ⟨pl, hple⟩ : ∃ z, x.pl = z := ⟨_, rfl⟩
         obtain ⟨dt, hdte⟩ : ∃ z, x.dt = z := ⟨_, rfl⟩
         rw [hkde, hple, hdte] at XC
         rw [hkde] at hkd
         rw [hple] at hpl
         rw [hdte] at hdt
         have HDT := Lib.hid hdt
         have HKD := Lib.hid hkd
         clear hkde hple hdte hkd hpl hdt
         obtain ⟨c0, c1, c2⟩ := XC.out w6 B6.out
         by_cases hbig : (100 : Int) < dt.size
         · have HO := Lib.hid I6.out.mt.out
           go_wp2
           go_ret
           exact ⟨rfl, ext_trans HX.out.2 HO.out⟩
         go_upto_region 20 with fail
         clear hbig
         have hkd := HKD.out
         have hmod : kd.tmod 5 = 0 ∨ kd.tmod 5 = 1 ∨ kd.tmod 5 = 2 ∨ kd.tmod 5 = 3 ∨ kd.tmod 5 = 4 := by
           rw [Int.tmod_eq_emod_of_nonneg hkd.1]
           omega
         clear hkd
         rcases hmod with hm0 | hm0 | hm0 | hm0 | hm0
         · as_aux_lemma =>
           have b0 : (kd.tmod 5 == 0) = true := by rw [hm0]; rfl
           clear hm0
           obtain ⟨e1, m8, ap, B3, hD, WR⟩ := I6.out.write HC.out.1 HSG.out.1 HSG.out.2 pl dt HDT.out (by have := HIX.out; have := HAT.out; have := HL.out; omega)
           have HD := Lib.hid hD
           clear hD
           go_upto_region 23 with (go_at_call 10; refine WR.mono ?_; rintro e w8 ⟨rfl, hI8, hk8⟩; have I8 := Lib.hid hI8; have B8 := Lib.hid (hk8.blk18 B6.out HT.out); clear hI8 hk8)
           clear WR c0 c1 c2
           obtain ⟨x0, x1, x2⟩ := XC.out w8 B8.out
           go_cut [106] (fun v wx => v = .bool ap ∧ w8 = wx)
           case first =>
             clear x0 x1 x2
             rcases HD.out with ⟨h1, h2 | h2, _⟩ | ⟨h1, h2, _⟩
             · have e0 : (e1 == 0) = true := by rw [h2]; rfl
               clear h2
               subst h1
               go_wp2
               go_meet
               exact ⟨rfl, rfl⟩
             · have e0 : (e1 == 0) = false := by rw [h2]; rfl
               have e12 : (e1 == 12) = true := by rw [h2]; rfl
               clear h2
               subst h1
               go_wp2
               go_meet
               exact ⟨rfl, rfl⟩
             · have e0 : (e1 == 0) = false := by rcases h2 with h2 | h2 | h2 <;> (rw [h2]; rfl)
               have e12 : (e1 == 12) = false := by rcases h2 with h2 | h2 | h2 <;> (rw [h2]; rfl)
               clear h2
               subst h1
               go_wp2
               go_meet
               exact ⟨rfl, rfl⟩
           case rest =>
             obtain ⟨rfl, rfl⟩ := hcut
             cases ap
             · have HB3 := Lib.hid (show B3 = B by rcases HD.out with ⟨h, _⟩ | ⟨_, _, h⟩; cases h; exact h)
               clear x0 x1 x2
               go_wp2
               go_roundw
               case rel => exact ⟨at1 + 1, g, dc, F, bv, B, m8, by have := HLT.out; omega, rfl, rfl, by go_num, by have := I8.out; rw [HB3.out] at this; exact this⟩
               case measure => have := HLT.out; simp [intOf]; omega
             · have HB3 := Lib.hid (show B3 = B ++ [⟨pl, 1, dt⟩] by rcases HD.out with ⟨_, _, h⟩ | ⟨h, _⟩; exact h; cases h)
               have E9 := World.grownBy_alloc w8 (.cells #[.int .i64 pl, .string dt] 44) none
               have I9 := Lib.hid (I8.out.ext E9)
               clear E9
               go_wp2_with (at_builtin; refine wpList_app19 (w8.alloc (.cells #[.int .i64 pl, .string dt] 44)) (FrB w2 p c V (.slice vo vn vc) tb g) rfl _ _ rfl rfl I9.out.bh (by have := I9.out.lb; have := HAT.out; have := HL.out; have := HLT.out; omega) ⟨w8.heap.size, 0, none⟩ 1 ⟨pl, 1, dt⟩ rfl (ch2_new w8 ⟨pl, 1, dt⟩ _) (I9.out.fr HC.out.1 _ (Nat.le_refl _)) ?_; intro v10 w10 hb10 hA10; have I10 := Lib.hid (I9.out.app (by have := I6.out.lb; simp; omega) hb10 hA10); clear hb10 hA10)
               go_roundw
               case rel => exact ⟨at1 + 1, g, dc, F, v10, B ++ [⟨pl, 1, dt⟩], m8, by have := HLT.out; omega, rfl, rfl, by go_num, by have := I10.out; rw [HB3.out] at this; exact this⟩
               case measure => have := HLT.out; simp [intOf]; omega
         · as_aux_lemma =>
           have b0 : (kd.tmod 5 == 0) = false := by rw [hm0]; rfl
           have b1 : (kd.tmod 5 == 1) = true := by rw [hm0]; rfl
           clear hm0
           obtain ⟨e1, m8, ap, B3, hD, WR⟩ := I6.out.trim HC.out.1 HSG.out.1 HSG.out.2 pl (by have := HIX.out; have := HAT.out; have := HL.out; omega)
           have HD := Lib.hid hD
           clear hD
           go_upto_region 28 with (go_at_call 11; refine WR.mono ?_; rintro e w8 ⟨rfl, hI8, hk8⟩; have I8 := Lib.hid hI8; have B8 := Lib.hid (hk8.blk18 B6.out HT.out); clear hI8 hk8)
           clear WR c0 c1 c2
           obtain ⟨x0, x1, x2⟩ := XC.out w8 B8.out
           go_cut [127] (fun v wx => v = .bool ap ∧ w8 = wx)
           case first =>
             clear x0 x1 x2
             rcases HD.out with ⟨h1, h2 | h2, _⟩ | ⟨h1, h2, _⟩
             · have e0 : (e1 == 0) = true := by rw [h2]; rfl
               clear h2
               subst h1
               go_wp2
               go_meet
               exact ⟨rfl, rfl⟩
             · have e0 : (e1 == 0) = false := by rw [h2]; rfl
               have e12 : (e1 == 12) = true := by rw [h2]; rfl
               clear h2
               subst h1
               go_wp2
               go_meet
               exact ⟨rfl, rfl⟩
             · have e0 : (e1 == 0) = false := by rcases h2 with h2 | h2 | h2 <;> (rw [h2]; rfl)
               have e12 : (e1 == 12) = false := by rcases h2 with h2 | h2 | h2 <;> (rw [h2]; rfl)
               clear h2
               subst h1
               go_wp2
               go_meet
               exact ⟨rfl, rfl⟩
           case rest =>
             obtain ⟨rfl, rfl⟩ := hcut
             cases ap
             · have HB3 := Lib.hid (show B3 = B by rcases HD.out with ⟨h, _⟩ | ⟨_, _, h⟩; cases h; exact h)
               clear x0 x1 x2
               go_wp2
               go_roundw
               case rel => exact ⟨at1 + 1, g, dc, F, bv, B, m8, by have := HLT.out; omega, rfl, rfl, by go_num, by have := I8.out; rw [HB3.out] at this; exact this⟩
               case measure => have := HLT.out; simp [intOf]; omega
             · have HB3 := Lib.hid (show B3 = B ++ [⟨pl, 2, ⟨#[]⟩⟩] by rcases HD.out with ⟨_, _, h⟩ | ⟨h, _⟩; exact h; cases h)
               have E9 := World.grownBy_alloc w8 (.cells #[.int .i64 pl, .string ⟨#[]⟩] 44) none
               have I9 := Lib.hid (I8.out.ext E9)
               clear E9
               go_wp2_with (at_builtin; refine wpList_app19 (w8.alloc (.cells #[.int .i64 pl, .string ⟨#[]⟩] 44)) (FrB w2 p c V (.slice vo vn vc) tb g) rfl _ _ rfl rfl I9.out.bh (by have := I9.out.lb; have := HAT.out; have := HL.out; have := HLT.out; omega) ⟨w8.heap.size, 0, none⟩ 1 ⟨pl, 2, ⟨#[]⟩⟩ rfl (ch2_new w8 ⟨pl, 2, ⟨#[]⟩⟩ _) (I9.out.fr HC.out.1 _ (Nat.le_refl _)) ?_; intro v10 w10 hb10 hA10; have I10 := Lib.hid (I9.out.app (by have := I6.out.lb; simp; omega) hb10 hA10); clear hb10 hA10)
               go_roundw
               case rel => exact ⟨at1 + 1, g, dc, F, v10, B ++ [⟨pl, 2, ⟨#[]⟩⟩], m8, by have := HLT.out; omega, rfl, rfl, by go_num, by have := I10.out; rw [HB3.out] at this; exact this⟩
               case measure => have := HLT.out; simp [intOf]; omega
         · as_aux_lemma =>
           have b0 : (kd.tmod 5 == 0) = false := by rw [hm0]; rfl
           have b1 : (kd.tmod 5 == 1) = false := by rw [hm0]; rfl
           have b2 : (kd.tmod 5 == 2) = true := by rw [hm0]; rfl
           clear hm0
           obtain ⟨e1, m8, ap, B3, hD, WR⟩ := I6.out.trim HC.out.1 HSG.out.1 HSG.out.2 pl (by have := HIX.out; have := HAT.out; have := HL.out; omega)
           have HD := Lib.hid hD
           clear hD
           go_upto_region 28 with (go_at_call 11; refine WR.mono ?_; rintro e w8 ⟨rfl, hI8, hk8⟩; have I8 := Lib.hid hI8; have B8 := Lib.hid (hk8.blk18 B6.out HT.out); clear hI8 hk8)
           clear WR c0 c1 c2
           obtain ⟨x0, x1, x2⟩ := XC.out w8 B8.out
           go_cut [127] (fun v wx => v = .bool ap ∧ w8 = wx)
           case first =>
             clear x0 x1 x2
             rcases HD.out with ⟨h1, h2 | h2, _⟩ | ⟨h1, h2, _⟩
             · have e0 : (e1 == 0) = true := by rw [h2]; rfl
               clear h2
               subst h1
               go_wp2
               go_meet
               exact ⟨rfl, rfl⟩
             · have e0 : (e1 == 0) = false := by rw [h2]; rfl
               have e12 : (e1 == 12) = true := by rw [h2]; rfl
               clear h2
               subst h1
               go_wp2
               go_meet
               exact ⟨rfl, rfl⟩
             · have e0 : (e1 == 0) = false := by rcases h2 with h2 | h2 | h2 <;> (rw [h2]; rfl)
               have e12 : (e1 == 12) = false := by rcases h2 with h2 | h2 | h2 <;> (rw [h2]; rfl)
               clear h2
               subst h1
               go_wp2
               go_meet
               exact ⟨rfl, rfl⟩
           case rest =>
             obtain ⟨rfl, rfl⟩ := hcut
             cases ap
             · have HB3 := Lib.hid (show B3 = B by rcases HD.out with ⟨h, _⟩ | ⟨_, _, h⟩; cases h; exact h)
               clear x0 x1 x2
               go_wp2
               go_roundw
               case rel => exact ⟨at1 + 1, g, dc, F, bv, B, m8, by have := HLT.out; omega, rfl, rfl, by go_num, by have := I8.out; rw [HB3.out] at this; exact this⟩
               case measure => have := HLT.out; simp [intOf]; omega
             · have HB3 := Lib.hid (show B3 = B ++ [⟨pl, 2, ⟨#[]⟩⟩] by rcases HD.out with ⟨_, _, h⟩ | ⟨h, _⟩; exact h; cases h)
               have E9 := World.grownBy_alloc w8 (.cells #[.int .i64 pl, .string ⟨#[]⟩] 44) none
               have I9 := Lib.hid (I8.out.ext E9)
               clear E9
               go_wp2_with (at_builtin; refine wpList_app19 (w8.alloc (.cells #[.int .i64 pl, .string ⟨#[]⟩] 44)) (FrB w2 p c V (.slice vo vn vc) tb g) rfl _ _ rfl rfl I9.out.bh (by have := I9.out.lb; have := HAT.out; have := HL.out; have := HLT.out; omega) ⟨w8.heap.size, 0, none⟩ 1 ⟨pl, 2, ⟨#[]⟩⟩ rfl (ch2_new w8 ⟨pl, 2, ⟨#[]⟩⟩ _) (I9.out.fr HC.out.1 _ (Nat.le_refl _)) ?_; intro v10 w10 hb10 hA10; have I10 := Lib.hid (I9.out.app (by have := I6.out.lb; simp; omega) hb10 hA10); clear hb10 hA10)
               go_roundw
               case rel => exact ⟨at1 + 1, g, dc, F, v10, B ++ [⟨pl, 2, ⟨#[]⟩⟩], m8, by have := HLT.out; omega, rfl, rfl, by go_num, by have := I10.out; rw [HB3.out] at this; exact this⟩
               case measure => have := HLT.out; simp [intOf]; omega
         · as_aux_lemma =>
           have b0 : (kd.tmod 5 == 0) = false := by rw [hm0]; rfl
           have b1 : (kd.tmod 5 == 1) = false := by rw [hm0]; rfl
           have b2 : (kd.tmod 5 == 2) = false := by rw [hm0]; rfl
           have b3 : (kd.tmod 5 == 3) = true := by rw [hm0]; rfl
           clear hm0
           obtain ⟨e1, m8, hD, FL⟩ := I6.out.flush HC.out.1 HSG.out.1 HSG.out.2 (by have := HIX.out; have := HAT.out; have := HL.out; omega)
           rcases hD with ⟨he, hG8, hS8⟩ | he
           · have e0 : (e1 == 0) = true := by rw [he]; rfl
             have HGS8 := Lib.hid (And.intro hG8 hS8)
             clear he hG8 hS8
             obtain ⟨ba, bcap, hbv⟩ := I6.out.bh.form
             subst hbv
             have AFT := Lib.hid (fun (wx : World) (h : InS w2 c V (.slice vo vn vc) tb sz p g F (.slice ba B.length bcap) B B (at1 + 1) ix m8 wx) => after19 wx g sz dc F h.ss (by have := HX.out.1; omega) (by have := HX.out.1; omega) ba B.length bcap (bX B) (h.bh.chr (Nat.le_refl _)) (by have := h.lb; have := HAT.out; have := HL.out; omega))
             go_upto_region 32 with (go_at_call 12; refine FL.mono ?_; rintro e w8 ⟨rfl, hI8⟩; have I8 := Lib.hid hI8; have AF := AFT.out w8 hI8; clear hI8)
             clear FL c0 c1 c2
             go_wp2_with (go_at_call 13; refine AF.mono ?_; rintro e w9 ⟨g9, c9, rfl, hn9, hs9, hg9⟩; have I9 := Lib.hid (I8.out.dur HC.out.2.1 hs9 hg9 hn9 (fun i hi => (aftF_aftN B.length (Nat.le_refl _) i hi).trans (by rw [List.take_length])) HGS8.out.1 HGS8.out.2); clear hn9 hs9 hg9)
             go_roundw
             case rel => exact ⟨at1 + 1, g9, c9, _, _, [], m8, by have := HLT.out; omega, rfl, rfl, by go_num, I9.out⟩
             case measure => have := HLT.out; simp [intOf]; omega
           · have e0 : (e1 == 0) = false := by rcases he with he | he <;> (rw [he]; rfl)
             clear he
             go_wp2_with (go_at_call 12; refine FL.mono ?_; rintro e w8 ⟨rfl, hI8⟩; have I8 := Lib.hid hI8; clear hI8)
             go_roundw
             case rel => exact ⟨at1 + 1, g, dc, F, bv, B, m8, by have := HLT.out; omega, rfl, rfl, by go_num, I8.out⟩
             case measure => have := HLT.out; simp [intOf]; omega
         · as_aux_lemma =>
           have b0 : (kd.tmod 5 == 0) = false := by rw [hm0]; rfl
           have b1 : (kd.tmod 5 == 1) = false := by rw [hm0]; rfl
           have b2 : (kd.tmod 5 == 2) = false := by rw [hm0]; rfl
           have b3 : (kd.tmod 5 == 3) = false := by rw [hm0]; rfl
           have b4 : (kd.tmod 5 == 4) = true := by rw [hm0]; rfl
           clear hm0
           obtain ⟨e1, m8, CO⟩ := I6.out.coll HC.out.1 HSG.out.1 HSG.out.2 pl (by have := HIX.out; have := HAT.out; have := HL.out; omega)
           go_wp2_with (go_at_call 14; refine CO.mono ?_; rintro e w8 ⟨rfl, hI8⟩; have I8 := Lib.hid hI8; clear hI8)
           go_roundw
           case rel => exact ⟨at1 + 1, g, dc, F, bv, B, m8, by have := HLT.out; omega, rfl, rfl, by go_num, I8.out⟩
           case measure => have := HLT.out; simp [intOf]; omega
end Go.Proofs.YtdnpdoipipfkoaaGreatDoor
