/-
  Texts put together: JH JI JJ JE.
-/
import Derived.Test.YtdnpdoipipfkoaaGreatDoorM13
import Derived.Test.YtdnpdoipipfkoaaGreatDoorM10
import Derived.Test.YtdnpdoipipfkoaaGreatDoorM11
import Derived.Deep.LoopGhost
namespace Go.Proofs.YtdnpdoipipfkoaaGreatDoor
set_option linter.unusedVariables false
set_option linter.unusedSimpArgs false
set_option linter.unusedVariables false
set_option linter.unusedSimpArgs false
set_option maxRecDepth 100000
open Go.RowKit
structure StlS (p : SP) (c : SC) (m : SM) (w0 wr : World) (v : Value) (L : List Fnd) (tg : Int) (j : Nat) (rs : List R14) : Prop where
 st : StAt wr p c { m with fr := tg, rs := rs }
 row : RowF wr v L
 kp : Keeps (tS p c) w0 wr
 eq : setlR c tg L 0 m.rs = setlR c tg (L.drop j) j rs
section
variable {w w' : World} {p : SP} {c : SC} {m : SM}
set_option maxHeartbeats 3200000 in
theorem settle18 (h : StAt w p c m) (ok : StOk p c) (tg : Int) (v : Value) (L : List Fnd) (hv : RowF w v L) (hvo : ∀ q, v.ownBlock = some q → tS p c q = 0) (hl : L.length ≤ 64) :
   Calls Tryz.prog 104 #[.pointer (some ⟨p.sb, 0, none⟩), .int .i64 tg, v] w (Gs p c (.int .i64 (setlR c tg L 0 m.rs).1) { m with fr := tg, rs := (setlR c tg L 0 m.rs).2 } w) := by
 have SE := Lib.hid (fun (wx : World) (rs : List R14) (hx : StAt wx p c { m with fr := tg, rs := rs }) (q b i : Int) => tabSet hx.tb q b i (by have := hx.tb.len; omega))
 have PL := Lib.hid (fun (wx : World) (rs : List R14) (hx : StAt wx p c { m with fr := tg, rs := rs }) (b i : Int) => tabPlace hx.tb b i)
 have hk0 : Keeps (tS p c) w (w.setCell ⟨p.sb, 10, none⟩ (.int .i64 tg)) := Keeps.own18 (gb_set (gb_refl w _) _ _) (.inl rfl)
 have c10 := h.cells.2.2.2.2.2.2.2.2.2.1
 have f10 := h.bk.free 10
 have HS := Lib.hid (show StlS p c m w (w.setCell ⟨p.sb, 10, none⟩ (.int .i64 tg)) v L tg 0 m.rs from ⟨h.setFr ok tg, hv.keeps hk0 hvo, hk0, rfl⟩)
 obtain ⟨ao, cap, hve, _⟩ := hv
 obtain ⟨n, hn⟩ : ∃ n, L.length = n := ⟨_, rfl⟩
 rw [hn] at hve hl
 subst hve
 have HN := Lib.hid (And.intro hn hvo)
 clear h hn hvo hk0
 obtain ⟨E, hE⟩ : ∃ z, (setlR c tg L 0 m.rs).1 = z := ⟨_, rfl⟩
 obtain ⟨M, hM⟩ : ∃ z : SM, { m with fr := tg, rs := (setlR c tg L 0 m.rs).2 } = z := ⟨_, rfl⟩
 rw [hE, hM]
 have HEM := Lib.hid (And.intro hE hM)
 clear hE hM
 go_enter Tryz.func104, Tryz.ntmps104
 go_upto_region 2 with fail
 clear c10 f10
 obtain ⟨w1, hw1⟩ : ∃ y, w.setCell ⟨p.sb, 10, none⟩ (.int .i64 tg) = y := ⟨_, rfl⟩
 rw [hw1] at HS ⊢
 clear hw1
 go_wp2
 go_loopw [17] (fun i wr => ∃ (j : Nat) (rs : List R14), j ≤ n ∧ i = .int .i64 j ∧ StlS p c m w wr (.slice ao n cap) L tg j rs) (fun i _ => n - (intOf i).toNat)
 case atStart => exact ⟨0, m.rs, by omega, rfl, HS.out⟩
 case round =>
   clear HS
   obtain ⟨j, rs, hj, rfl, hS⟩ := hrel
   obtain ⟨wo, rfl⟩ : ∃ wo : World, wo = wr := ⟨_, rfl⟩
   have HS := Lib.hid hS
   clear hS
   by_cases hlt : j < n
   · obtain ⟨f, hf⟩ : ∃ f, L.getD j noF = f := ⟨_, rfl⟩
     obtain ⟨ao2, cap2, hv2, hc2⟩ := HS.out.row
     obtain ⟨g, off, hao, hr⟩ := hc2 j (by rw [HN.out.1]; exact hlt)
     simp only [Value.slice.injEq] at hv2
     obtain ⟨rfl, -, -⟩ := hv2
     subst hao
     rw [hf] at hr
     have hjl : j < L.length := by rw [HN.out.1]; exact hlt
     have hdrop : L.drop j = f :: L.drop (j + 1) := by
       rw [List.drop_eq_getElem_cons hjl]
       rw [List.getD_eq_getElem?_getD, List.getElem?_eq_getElem hjl] at hf
       congr 1
     have HDR := Lib.hid hdrop
     have hBn := Blk.new wo 108 (fndC noF)
     clear hf hc2 hjl hdrop
     obtain ⟨fb, hfb⟩ : ∃ z, wo.heap.size = z := ⟨_, rfl⟩
     rw [hfb] at hBn
     have HFB := Lib.hid hfb
     have FR := HS.out.st.fresh (k := fb) (by omega)
     go_upto_region 5 with (first
       | (refine fnd_load rfl _ rfl rfl hr ?_)
       | (refine fnd_store _ _ rfl rfl rfl hBn rfl rfl ?_; intro w2 hb2 hg2 hs2; have hE2 := g17_new (World.grownBy_alloc wo _ none) hg2 (by omega); have HE2 := Lib.hid hE2; clear hBn hg2 hs2 hE2))
     clear hr hfb
     have h2 := HS.out.st.ext ok HE2.out
     have d0 : w2.cell? ⟨fb, 0, none⟩ = some (.int .i64 f.bk) := hb2.cell 0
     have d1 : w2.cell? ⟨fb, 1, none⟩ = some (.int .i64 f.pg) := hb2.cell 1
     have hS2 : w2.drew.cell? ⟨p.sb, 7, none⟩ = some (.pointer (some ⟨p.tb, 0, none⟩)) ∧ w2.drew.cell? ⟨fb, 0, none⟩ = some (.int .i64 f.bk) ∧ w2.drew.cell? ⟨fb, 1, none⟩ = some (.int .i64 f.pg) := ⟨h2.cells.2.2.2.2.2.2.1, d0, d1⟩
     have hd2 := h2.ext ok (Ext.drew w2)
     have P := PL.out w2.drew rs hd2 f.bk f.pg
     clear h2 d0 d1 hb2
     refine region_line [(0, true), (1, true), (2, true), (3, true), (4, true), (5, true), (6, true), (7, true), (8, false), (9, true)] (fun y => y.cell? ⟨p.sb, 7, none⟩ = some (.pointer (some ⟨p.tb, 0, none⟩)) ∧ y.cell? ⟨fb, 0, none⟩ = some (.int .i64 f.bk) ∧ y.cell? ⟨fb, 1, none⟩ = some (.int .i64 f.pg)) (by kernel_rfl) (by kernel_rfl) (fun _ _ _ d _ h => by cases d <;> exact h) hS2 ?_
     repeat (refine line_read (a' := ?_) rfl (by kernel_rfl) (by kernel_rfl) hS2 (fun y hy K hK => ?_) ?_; rotate_left; · obtain ⟨c7, d0, d1⟩ := hy; go_wp2; exact hK)
     refine line_act (by rfl) (fun K hK => ?_)
     go_wp2_with (go_at_call 111; refine P.mono ?_; rintro e w3 ⟨rfl, rfl⟩)
     refine hK _ _ (fun y => y.cell? ⟨p.sb, 7, none⟩ = some (.pointer (some ⟨p.tb, 0, none⟩)) ∧ y.cell? ⟨fb, 0, none⟩ = some (.int .i64 f.bk) ∧ y.cell? ⟨fb, 1, none⟩ = some (.int .i64 f.pg)) hS2 (fun _ h => h) ?_
     clear hK K
     repeat (refine line_read (a' := ?_) rfl (by kernel_rfl) (by kernel_rfl) hS2 (fun y hy K hK => ?_) ?_; rotate_left; · go_wp2; exact hK)
     refine line_end ?_
     have c7 := hS2.1
     have S2 := SE.out w2.drew rs hd2 (placeN rs f.bk f.pg) tg (j : Int)
     have hstep : setlR c tg L 0 m.rs = if setE c.bl.length c.S.pg rs (placeN rs f.bk f.pg) tg j = 0 then setlR c tg (L.drop (j + 1)) (j + 1) (setR c.bl.length c.S.pg rs (placeN rs f.bk f.pg) tg j) else (setE c.bl.length c.S.pg rs (placeN rs f.bk f.pg) tg j, rs) := by
       rw [HS.out.eq, HDR.out, setlR]
     have hsame : setE c.bl.length c.S.pg rs (placeN rs f.bk f.pg) tg j ≠ 0 → setR c.bl.length c.S.pg rs (placeN rs f.bk f.pg) tg j = rs := fun h => by unfold setR; rw [if_neg h]
     generalize placeN rs f.bk f.pg = pl at *
     generalize setE c.bl.length c.S.pg rs pl tg j = er at *
     generalize setR c.bl.length c.S.pg rs pl tg j = rs2 at *
     have HST := Lib.hid (And.intro hstep hsame)
     have HD2 := Lib.hid hd2
     clear hstep hsame hd2 hS2 P
     by_cases h0 : er = 0
     · have h0' : (er != 0) = false := by simp [h0]
       have H0 := Lib.hid h0
       clear h0
       go_wp2_with (go_at_call 77; refine S2.mono ?_; rintro e w4 ⟨rfl, hA4, hg4⟩)
       go_roundw
       case rel =>
         have hkk : Keeps (tS p c) wo w4 := (Keeps.ext (T := tS p c) (ext_trans HE2.out (Ext.drew w2))).trans (Keeps.own18 hg4 (.inr (.inl rfl)))
         exact ⟨j + 1, rs2, by omega, by go_num, HD2.out.tab ok hA4 hg4, HS.out.row.keeps hkk HN.out.2, HS.out.kp.trans hkk, by rw [HST.out.1, if_pos H0.out]⟩
       case measure => simp [intOf]; omega
     · have h0' : (er != 0) = true := by simpa using h0
       have H0 := Lib.hid h0
       clear h0
       go_wp2_with (go_at_call 77; refine S2.mono ?_; rintro e w4 ⟨rfl, hA4, hg4⟩)
       go_ret
       have hkk : Keeps (tS p c) wo w4 := (Keeps.ext (T := tS p c) (ext_trans HE2.out (Ext.drew w2))).trans (Keeps.own18 hg4 (.inr (.inl rfl)))
       have hq := HEM.out
       rw [HST.out.1, if_neg H0.out] at hq
       obtain ⟨rfl, rfl⟩ := hq
       have h4 := HD2.out.tab ok hA4 hg4
       rw [HST.out.2 H0.out] at h4
       exact ⟨rfl, h4, HS.out.kp.trans hkk⟩
   · obtain rfl : j = n := by omega
     go_wp2
     go_ret
     have hq := HEM.out
     rw [HS.out.eq, List.drop_of_length_le (by rw [HN.out.1]; exact Nat.le_refl _), setlR] at hq
     obtain ⟨rfl, rfl⟩ := hq
     exact ⟨rfl, HS.out.st, HS.out.kp⟩
end
end Go.Proofs.YtdnpdoipipfkoaaGreatDoor

namespace Go.Proofs.YtdnpdoipipfkoaaGreatDoor
set_option linter.unusedVariables false
set_option linter.unusedSimpArgs false
set_option linter.unusedVariables false
set_option linter.unusedSimpArgs false
set_option maxRecDepth 100000
open Go.RowKit
theorem fdF_dt {c : SC} {n : NS} (h : PgOk n) (b pg : Int) : (fdF c n b pg).dt.size ≤ 160 := by
 have h0 : noF.dt.size ≤ 160 := by show (0 : Nat) ≤ 160; omega
 have ht : ∀ x y, (tornF x y).dt.size ≤ 160 := fun _ _ => by show (0 : Nat) ≤ 160; omega
 have h1 : (oneF c n b pg).dt.size ≤ 160 := by
   unfold oneF
   split
   · unfold findF
     split
     · exact ht _ _
     · split
       · unfold fndOf
         split
         · exact h.dn _ _
         · exact ht _ _
       · exact h0
   · exact h0
 unfold fdF
 split
 · exact h0
 · exact h1
theorem needR_dt {c : SC} {m : SM} (h : PgOk m.n) (b : Int) : ∀ k, ∀ f ∈ (needR c m b k).1, f.dt.size ≤ 160
 | 0, f, hf => by simp [needR] at hf
 | k + 1, f, hf => by
   rw [needR] at hf
   split at hf
   · exact needR_dt h b k f hf
   · split at hf
     · exact needR_dt h b k f hf
     · split at hf
       · rcases List.mem_append.1 hf with hf | hf
         · exact needR_dt h b k f hf
         · simp at hf
           rw [hf]
           exact fdF_dt h b k
       · simp at hf
structure MovS (p : SP) (c : SC) (w0 wr : World) (v : Value) (row : List Fnd) (spoken : Int) (k0 : Int) (j g : Nat) (e : Int) (m' m : SM) : Prop where
 st : StAt wr p c m
 wf : Wf c m (k0 + 200 * ((j : Int) - g))
 rw_ : RowF wr v row
 kp : Keeps (tS p c) w0 wr
 eq : moveF c row spoken g m = some (e, m')
 le : g ≤ j
section
variable {w w' : World} {p : SP} {c : SC} {m : SM}
set_option maxHeartbeats 3200000 in
theorem move18 (h : StAt w p c m) (ok : StOk p c) {k : Int} (wf : Wf c m k) (hs : -9223372036854775000 ≤ c.sp ∧ c.sp ≤ 9223372036854775000) (b spoken : Int) (j : Nat) (hk : k + 200 * j < 1152921504606840000) {e : Int} {m' : SM} (hm : moveR c m b spoken j = some (e, m')) :
   Calls Tryz.prog 69 #[.pointer (some ⟨p.sb, 0, none⟩), .int .i64 b, .int .i64 spoken] w (Gs p c (.int .i64 e) m' w) := by
 have ND := needed18 h ok wf b
 have hpg := ok.R.bds.2.2.2
 have hdt := needR_dt (c := c) wf.pg b c.S.pg
 have hlen := needR_len (c := c) (m := m) (b := b) c.S.pg
 have FR := Lib.hid (fun q (hq : w.heap.size ≤ q) => h.fresh hq)
 have SA := Lib.hid (fun (wx : World) (hE : w.grownBy wx none) => h.ext ok hE)
 have GV := Lib.hid (fun (wx : World) (mx : SM) (hx : StAt wx p c mx) => give18 hx ok)
 have CP := Lib.hid (fun (wx : World) (mx : SM) (hx : StAt wx p c mx) (kk : Int) (hc : Cnt mx.n kk) (hk : kk < 1152921504606846000) (tb : Nat) (hb : tb < c.bl.length) (v : Value) (L : List Fnd) (hv : RowF wx v L) (hvo : ∀ q, v.ownBlock = some q → tS p c q = 0) (hl : L.length ≤ 64) (hd : ∀ f ∈ L, f.dt.size ≤ 160) => copyTo18 hx ok hc hk hb v L hv hvo hl hd)
 have SL := Lib.hid (fun (wx : World) (mx : SM) (hx : StAt wx p c mx) (tg : Int) (v : Value) (L : List Fnd) (hv : RowF wx v L) (hvo : ∀ q, v.ownBlock = some q → tS p c q = 0) (hl : L.length ≤ 64) => settle18 hx ok tg v L hv hvo hl)
 have GU := Lib.hid (fun (wx : World) (mx : SM) (hx : StAt wx p c mx) (kk : Int) (hc : Cnt mx.n kk) (hk : kk < 1152921504606846976) (tb : Nat) (hb : tb < c.bl.length) => giveUp18 hx ok hc hk hs hb spoken)
 unfold moveR at hm
 obtain ⟨row, hrow⟩ : ∃ z, (needR c m b c.S.pg).1 = z := ⟨_, rfl⟩
 obtain ⟨er, her⟩ : ∃ z, (needR c m b c.S.pg).2 = z := ⟨_, rfl⟩
 rw [hrow] at ND hdt hlen hm
 rw [her] at ND hm
 have WF := Lib.hid (And.intro wf (And.intro hdt hlen))
 clear h wf hrow her hdt hlen
 unfold PagesP at ND
 by_cases h0 : er = 0
 · rw [if_neg (by simp [h0])] at hm
   have h0' : (er != 0) = false := by simp [h0]
   have HM := Lib.hid hm
   clear h0 hm
   obtain ⟨nr, hnr⟩ : ∃ z, row.length = z := ⟨_, rfl⟩
   rw [hnr] at ND
   have HNR := Lib.hid hnr
   clear hnr
   go_enter Tryz.func69, Tryz.ntmps69
   go_wp2_with (go_at_call 101; refine ND.mono ?_; rintro e1 w1 ⟨v1, rfl, hown, hg1⟩; have HW := Lib.hid (And.intro hown hg1); obtain ⟨ao1, cp1, hv1⟩ := owns_slice17 hown; subst hv1; clear hown hg1)
   clear ND
   have HS := Lib.hid (show MovS p c w w1 (.slice ao1 nr cp1) row spoken k j j e m' m from ⟨SA.out _ HW.out.2, WF.out.1.mono (by omega), RowF.owns (by rw [HNR.out]; exact HW.out.1), Keeps.ext HW.out.2, HM.out, Nat.le_refl _⟩)
   have HV := Lib.hid (show ∀ q, (Value.slice ao1 nr cp1).ownBlock = some q → tS p c q = 0 from fun q hq => FR.out q (HW.out.1.lt q hq).1)
   clear HW HM
   go_loopg [9] j (fun g _ wr => ∃ mx, MovS p c w wr (.slice ao1 nr cp1) row spoken k j g e m' mx)
   case atStart => exact ⟨m, HS.out⟩
   case round =>
     clear HS
     obtain ⟨mx, hS⟩ := hrel
     match gk, hS with
     | 0, hS => exact absurd hS.eq (by simp [moveF])
     | g + 1, hS =>
       obtain ⟨wo, rfl⟩ : ∃ wo : World, wo = wr := ⟨_, rfl⟩
       have G := GV.out wo mx hS.st
       have heq := hS.eq
       unfold moveF at heq
       cases hf : freeL c mx with
       | nil =>
         rw [hf] at heq G
         simp only [Option.some.injEq, Prod.mk.injEq, List.headD_nil, List.isEmpty_nil, Bool.not_true] at heq G
         obtain ⟨rfl, rfl⟩ := heq
         have HS := Lib.hid hS
         clear hS hf
         go_wp2_with (go_at_call 102; refine G.mono ?_; rintro e2 w2 ⟨rfl, hg2⟩)
         go_ret
         exact ⟨rfl, HS.out.st.ext ok hg2, HS.out.kp.trans (Keeps.ext hg2)⟩
       | cons tg l =>
         rw [hf] at heq G
         simp only [List.headD_cons, List.isEmpty_cons, Bool.not_false] at heq G
         obtain ⟨tb, htb, htl, _⟩ := free_in (c := c) (m := mx) (x := tg) (by rw [hf]; simp)
         subst htb
         have HS := Lib.hid hS
         have HTL := Lib.hid htl
         clear hf htl
         have hle := hS.le
         have hwf := hS.wf
         have hcl := (cnt_copy (c := c) (tg := (tb : Int)) row 0 mx.n _ hwf.cn)
         have hpc := pg_copy (c := c) (tg := (tb : Int)) row 0 mx.n hwf.pg
         have hrl := WF.out.2.2
         have hwf1 : Wf c { mx with n := (copyR c tb row 0 mx.n).2 } (k + 200 * ((j : Int) - (g + 1 : Nat)) + 192) := hwf.nand (hcl.mono18 (by omega)) hpc (by omega)
         have hkk : k + 200 * ((j : Int) - (g + 1 : Nat)) + 192 < 1152921504606846000 := by omega
         have C1 := fun wx (hx : wo.grownBy wx none) => CP.out wx mx (HS.out.st.ext ok hx) _ hwf.cn (by omega) tb HTL.out _ row (HS.out.rw_.ext hx) HV.out (by omega) WF.out.2.1
         have S1 := fun wx (hx : StAt wx p c { mx with n := (copyR c tb row 0 mx.n).2 }) (hr : RowF wx (.slice ao1 nr cp1) row) => SL.out wx _ hx (tb : Int) _ row hr HV.out (by omega)
         have U1 := fun wx (hx : StAt wx p c { mx with n := (copyR c tb row 0 mx.n).2 }) => GU.out wx _ hx _ hwf1.cn (by omega) tb HTL.out
         have hwf2 := wf_give hwf1 (tb : Int) spoken
         generalize (copyR c tb row 0 mx.n).1 = e1 at *
         generalize (copyR c tb row 0 mx.n).2 = n1 at *
         simp only at S1
         generalize (setlR c tb row 0 mx.rs).1 = e3 at *
         generalize (setlR c tb row 0 mx.rs).2 = r3 at *
         generalize giveE c { mx with n := n1 } tb spoken = e2 at *
         obtain ⟨m2, hm2⟩ : ∃ z, giveM c { mx with n := n1 } tb spoken = z := ⟨_, rfl⟩
         rw [hm2] at heq U1 hwf2
         have HW2 := Lib.hid (And.intro hwf2 (And.intro hle hkk))
         clear hS hle hwf hcl hpc hrl hwf1 hwf2 hkk hm2
         by_cases a0 : e1 = 0
         · rw [if_pos a0] at heq
           simp only [Option.some.injEq, Prod.mk.injEq] at heq
           obtain ⟨rfl, rfl⟩ := heq
           have a0' : (e1 == 0) = true := by simpa using a0
           clear a0 U1
           go_wp2_with (first
             | (go_at_call 102; refine G.mono ?_; rintro e2 w2 ⟨rfl, hg2⟩; have C2 := C1 _ hg2; have HG2 := Lib.hid hg2; clear hg2)
             | (go_at_call 103; refine C2.mono ?_; rintro e2 w3 ⟨rfl, hA3, hk3⟩; have S2 := S1 _ hA3 (HS.out.rw_.keeps ((Keeps.ext HG2.out).trans hk3) HV.out); have HK3 := Lib.hid (HS.out.kp.trans ((Keeps.ext HG2.out).trans hk3)); clear hA3 hk3)
             | (go_at_call 104; refine S2.mono ?_; rintro e2 w4 ⟨rfl, hA4, hk4⟩))
           go_ret
           exact ⟨rfl, hA4, HK3.out.trans hk4⟩
         · rw [if_neg a0] at heq
           have a0' : (e1 == 0) = false := by simpa using a0
           clear a0 S1
           by_cases a1 : e1 = 10
           · rw [if_neg (by simp [a1])] at heq
             have a1' : (e1 != 10) = false := by simp [a1]
             clear a1
             by_cases a2 : e2 = 0
             · rw [if_neg (by simp [a2])] at heq
               have a2' : (e2 != 0) = false := by simp [a2]
               have HEQ := Lib.hid heq
               clear a2 heq
               go_wp2_with (first
                 | (go_at_call 102; refine G.mono ?_; rintro e2 w2 ⟨rfl, hg2⟩; have C2 := C1 _ hg2; have HG2 := Lib.hid hg2; clear hg2)
                 | (go_at_call 103; refine C2.mono ?_; rintro e2 w3 ⟨rfl, hA3, hk3⟩; have U2 := U1 _ hA3; have HK3 := Lib.hid ((Keeps.ext (T := tS p c) HG2.out).trans hk3); clear hA3 hk3)
                 | (go_at_call 105; refine U2.mono ?_; rintro e2 w4 ⟨rfl, hA4, hk4⟩))
               go_roundg g
               case measure => omega
               case rel =>
                 have hkk := HK3.out.trans hk4
                 exact ⟨m2, hA4, HW2.out.1.mono (by have := HW2.out.2.1; omega), HS.out.rw_.keeps hkk HV.out, HS.out.kp.trans hkk, HEQ.out, by have := HW2.out.2.1; omega⟩
             · rw [if_pos a2] at heq
               simp only [Option.some.injEq, Prod.mk.injEq] at heq
               obtain ⟨rfl, rfl⟩ := heq
               have a2' : (e2 != 0) = true := by simpa using a2
               clear a2
               go_wp2_with (first
                 | (go_at_call 102; refine G.mono ?_; rintro e2 w2 ⟨rfl, hg2⟩; have C2 := C1 _ hg2; have HG2 := Lib.hid hg2; clear hg2)
                 | (go_at_call 103; refine C2.mono ?_; rintro e2 w3 ⟨rfl, hA3, hk3⟩; have U2 := U1 _ hA3; have HK3 := Lib.hid (HS.out.kp.trans ((Keeps.ext HG2.out).trans hk3)); clear hA3 hk3)
                 | (go_at_call 105; refine U2.mono ?_; rintro e2 w4 ⟨rfl, hA4, hk4⟩))
               go_ret
               exact ⟨rfl, hA4, HK3.out.trans hk4⟩
           · rw [if_pos a1] at heq
             simp only [Option.some.injEq, Prod.mk.injEq] at heq
             obtain ⟨rfl, rfl⟩ := heq
             have a1' : (e1 != 10) = true := by simpa using a1
             clear a1 U1
             go_wp2_with (first
               | (go_at_call 102; refine G.mono ?_; rintro e2 w2 ⟨rfl, hg2⟩; have C2 := C1 _ hg2; have HG2 := Lib.hid hg2; clear hg2)
               | (go_at_call 103; refine C2.mono ?_; rintro e2 w3 ⟨rfl, hA3, hk3⟩))
             go_ret
             exact ⟨rfl, hA3, HS.out.kp.trans ((Keeps.ext HG2.out).trans hk3)⟩
 · rw [if_pos h0] at hm
   simp only [Option.some.injEq, Prod.mk.injEq] at hm
   obtain ⟨rfl, rfl⟩ := hm
   have h0' : (er != 0) = true := by simpa using h0
   clear h0
   go_enter Tryz.func69, Tryz.ntmps69
   go_wp2_with (go_at_call 101; refine ND.mono ?_; rintro e1 w1 ⟨v1, rfl, hown, hg1⟩; obtain ⟨ao1, cp1, hv1⟩ := owns_slice17 hown; subst hv1)
   go_ret
   exact ⟨rfl, SA.out _ hg1, Keeps.ext hg1⟩
end
end Go.Proofs.YtdnpdoipipfkoaaGreatDoor

namespace Go.Proofs.YtdnpdoipipfkoaaGreatDoor
set_option linter.unusedVariables false
set_option linter.unusedSimpArgs false
set_option linter.unusedVariables false
set_option linter.unusedSimpArgs false
set_option maxRecDepth 100000
open Go.RowKit
section
variable {w w' : World} {p : SP} {c : SC} {m : SM}
theorem collect18 (h : StAt w p c m) (ok : StOk p c) {k : Int} (wf : Wf c m k) (hs : -9223372036854775000 ≤ c.sp ∧ c.sp ≤ 9223372036854775000) {b : Nat} (hb : b < c.bl.length) (hk : k < 1152921504606800000) {e : Int} {m' : SM} (hm : collR c m b 100 = some (e, m')) :
   Calls Tryz.prog 36 #[.pointer (some ⟨p.sb, 0, none⟩), .int .i64 (b : Int)] w (Gs p c (.int .i64 e) m' w) := by
 unfold collR at hm
 have hpg := ok.R.bds.2.2.2
 cases hmv : moveR c m b 0 100 with
 | none => rw [hmv] at hm; simp at hm
 | some r =>
   obtain ⟨e1, m1⟩ := r
   rw [hmv] at hm
   simp only at hm
   have MV := move18 h ok wf hs b 0 100 (by omega) hmv
   have hw1 := wf_moveR hpg wf hmv
   have ER := fun wx (hx : StAt wx p c m1) => erase18 hx ok hw1.cn ((cnt_ers hw1.cn c.who (c.ph b)).mono18 (by omega)) (by omega) hs hb
   clear h wf hmv hw1
   by_cases h0 : e1 = 0
   · rw [if_neg (by simp [h0])] at hm
     simp only [Option.some.injEq, Prod.mk.injEq] at hm
     obtain ⟨rfl, rfl⟩ := hm
     have h0' : (e1 != 0) = false := by simp [h0]
     clear h0
     generalize eraE c m1 b = e2 at *
     generalize eraM c m1 b = m2 at *
     go_enter Tryz.func36, Tryz.ntmps36
     go_wp2_with (first
       | (go_at_call 69; refine MV.mono ?_; rintro e w1 ⟨rfl, hA1, hk1⟩; have E2 := ER _ hA1; have HK1 := Lib.hid hk1; clear hA1 hk1)
       | (go_at_call 70; refine E2.mono ?_; rintro e w2 ⟨rfl, hA2, hk2⟩))
     go_ret
     exact ⟨rfl, hA2, HK1.out.trans hk2⟩
   · rw [if_pos h0] at hm
     simp only [Option.some.injEq, Prod.mk.injEq] at hm
     obtain ⟨rfl, rfl⟩ := hm
     have h0' : (e1 != 0) = true := by simpa using h0
     clear h0 ER
     go_enter Tryz.func36, Tryz.ntmps36
     go_wp2_with (go_at_call 69; refine MV.mono ?_; rintro e w1 ⟨rfl, hA1, hk1⟩)
     go_ret
     exact ⟨rfl, hA1, hk1⟩
set_option maxHeartbeats 1600000 in
theorem leaveFront18 (h : StAt w p c m) (ok : StOk p c) {k : Int} (wf : Wf c m k) (hs : -9223372036854775000 ≤ c.sp ∧ c.sp ≤ 9223372036854775000) {b : Nat} (hb : b < c.bl.length) (hf : m.fr = b) (hk : k < 1152921504606800000) {e : Int} {m' : SM} (hm : leavR c m 100 = some (e, m')) :
   Calls Tryz.prog 98 #[.pointer (some ⟨p.sb, 0, none⟩)] w (Gs p c (.int .i64 e) m' w) := by
 have AF := afford18 h ok hs 0
 have hpg := ok.R.bds.2.2.2
 unfold affE affM at AF
 unfold leavR at hm
 by_cases hsp : sprN c m > 0
 · rw [if_pos hsp] at hm
   rw [if_pos hsp, if_pos hsp] at AF
   rw [hf] at hm
   cases hmv : moveR c m b 1 100 with
   | none => rw [hmv] at hm; simp at hm
   | some r =>
     obtain ⟨e1, m1⟩ := r
     rw [hmv] at hm
     simp only at hm
     have C10 := Lib.hid (fun wx (hx : StAt wx p c m) => (show wx.cell? ⟨p.sb, 10, none⟩ = some (.int .i64 (b : Int)) from by rw [← hf]; exact hx.cells.2.2.2.2.2.2.2.2.2.1))
     have MV := fun wx (hx : StAt wx p c m) => move18 hx ok wf hs b 1 100 (by omega) hmv
     have hw1 := wf_moveR hpg wf hmv
     obtain ⟨x, hx, _, hxa, hx2, hx3⟩ := ok.phys hb
     have MK := fun (wx : World) (hx : StAt wx p c m1) => mark18 hx ok hw1.cn (by omega) x
     have SS := fun (wx : World) (hx : StAt wx p c m1) => hx.see ok hb hx2
     rw [hx] at hm
     obtain ⟨n, hn⟩ : ∃ z, c.bl.length = z := ⟨_, rfl⟩
     rw [hn] at SS hb
     clear h wf hmv hw1 hf hx hx2 hx3 hsp hn
     by_cases h0 : e1 = 0
     · rw [if_neg (by simp [h0])] at hm
       simp only [Option.some.injEq, Prod.mk.injEq] at hm
       obtain ⟨rfl, rfl⟩ := hm
       have h0' : (e1 != 0) = false := by simp [h0]
       clear h0
       go_enter Tryz.func98, Tryz.ntmps98
       go_upto_region 8 with (first
         | (go_at_call 132; refine AF.mono ?_; rintro e w1 ⟨rfl, hA1, hk1⟩; have M2 := MV _ hA1; have c10 := C10.out _ hA1; have HK1 := Lib.hid hk1; clear hA1 hk1)
         | (go_at_call 69; refine M2.mono ?_; rintro e w2 ⟨rfl, hA2, hk2⟩))
       obtain ⟨g, off, cap, hC, hSE, hSK⟩ := SS _ hA2
       have HC := Lib.hid hC
       have HA2 := Lib.hid (And.intro hA2 (And.intro (HK1.out.trans hk2) (And.intro hSE hSK)))
       clear hC hA2 hk2 hSE hSK c10
       have hA3 := HA2.out.1.ext ok (Ext.drew w2)
       have hS := HA2.out.2.2.1 _ (Ext.drew w2)
       refine region_line [(0, true), (1, true), (2, true), (3, true), (4, true), (5, true), (6, true), (7, true), (8, true), (9, true), (10, true), (11, true), (12, false), (13, true)] (SeeB w2 [p.sb, g]) (by kernel_rfl) (by kernel_rfl) (fun _ _ _ d _ h => by cases d <;> exact h) hS ?_
       repeat (refine line_read (a' := ?_) rfl (by kernel_rfl) (by kernel_rfl) hS (fun y hy K hK => ?_) ?_; rotate_left; · obtain ⟨c0, c1, c6, ci⟩ := HC.out y hy; go_wp2; exact hK)
       refine line_act (by rfl) (fun K hK => ?_)
       go_wp2_with (go_at_call 133; refine (MK _ hA3).mono ?_; rintro e w3 ⟨⟨rfl, hN, hK3⟩, hK4⟩)
       have hS3 : SeeB w2 [p.sb, g] w3 := HA2.out.2.2.2 w3 ⟨hK4.os, hK4.tape, hK4.output, hK4.size, hK4.block⟩
       refine hK _ _ (SeeB w2 [p.sb, g]) hS3 (fun _ h => h) ?_
       clear hK K
       repeat (refine line_read (a' := ?_) rfl (by kernel_rfl) (by kernel_rfl) hS3 (fun y hy K hK => ?_) ?_; rotate_left; · go_wp2; exact hK)
       refine line_end ?_
       go_wp2
       go_ret
       exact ⟨rfl, hN, (HA2.out.2.1.trans (Keeps.ext (Ext.drew w2))).trans hK3⟩
     · rw [if_pos h0] at hm
       simp only [Option.some.injEq, Prod.mk.injEq] at hm
       obtain ⟨rfl, rfl⟩ := hm
       have h0' : (e1 != 0) = true := by simpa using h0
       clear h0 MK SS
       go_enter Tryz.func98, Tryz.ntmps98
       go_wp2_with (first
         | (go_at_call 132; refine AF.mono ?_; rintro e w1 ⟨rfl, hA1, hk1⟩; have M2 := MV _ hA1; have c10 := C10.out _ hA1; have HK1 := Lib.hid hk1; clear hA1 hk1)
         | (go_at_call 69; refine M2.mono ?_; rintro e w2 ⟨rfl, hA2, hk2⟩))
       go_ret
       exact ⟨rfl, hA2, HK1.out.trans hk2⟩
 · rw [if_neg hsp] at hm
   rw [if_neg hsp, if_neg hsp] at AF
   simp only [Option.some.injEq, Prod.mk.injEq] at hm
   obtain ⟨rfl, rfl⟩ := hm
   obtain ⟨er, her, hen⟩ : ∃ er : Int, (13 : Int) = er ∧ (er != 0) = true := ⟨13, rfl, rfl⟩
   rw [her] at AF ⊢
   clear her h wf hf hsp
   go_enter Tryz.func98, Tryz.ntmps98
   go_wp2_with (go_at_call 132; refine AF.mono ?_; rintro e w1 ⟨rfl, hA1, hk1⟩; have HA1 := Lib.hid (And.intro hA1 hk1); clear hA1 hk1)
   go_ret
   exact ⟨rfl, HA1.out⟩
theorem greedy18 (wx : World) (v : Value) (ws : List Int) (hi : Ints wx v ws) (hl : ws.length ≤ 64) : Calls Tryz.prog 129 #[v] wx fun e w' => e = .returned (.int .i64 (grdN ws)) ∧ wx.grownBy w' none := by
 obtain ⟨r, hr, hc⟩ := vicGreedy_any v ws wx hi (by omega)
 rw [(grdN_is ws).eq hr]
 exact hc
set_option maxHeartbeats 3200000 in
theorem makeRoom18 (h : StAt w p c m) (ok : StOk p c) {k : Int} (wf : Wf c m k) (hs : -9223372036854775000 ≤ c.sp ∧ c.sp ≤ 9223372036854775000) (hk : k < 1152921504606800000) {e : Int} {m' : SM} (hm : roomR c m 100 = some (e, m')) :
   Calls Tryz.prog 96 #[.pointer (some ⟨p.sb, 0, none⟩)] w (Gs p c (.int .i64 e) m' w) := by
 have H0 := Lib.hid h
 have SA := Lib.hid (fun (wx : World) (hE : w.grownBy wx none) => h.ext ok hE)
 have HS := has18 h m.fr
 have PG := fun (wx : World) (hE : w.grownBy wx none) => pages18 (h.ext ok hE) ok
 have c10 := h.cells.2.2.2.2.2.2.2.2.2.1
 have WF := Lib.hid wf
 obtain ⟨g, hg⟩ : ∃ z, (hasS c m.fr && decide (nextB c m m.fr.toNat < c.S.pg)) = z := ⟨_, rfl⟩
 have HG := Lib.hid hg
 go_enter Tryz.func96, Tryz.ntmps96
 go_upto_region 1 with fail
 go_cut [21] (fun s21 wx => s21 = .bool g ∧ w.grownBy wx none)
 case first =>
   clear hm
   cases hh : hasS c m.fr
   · rw [hh] at HS hg
     rw [Bool.false_and] at hg
     subst hg
     generalize m.fr = fr at *
     go_wp2_with (go_at_call 34; refine HS.mono ?_; rintro e w1 ⟨rfl, rfl⟩)
     go_meet
     exact ⟨rfl, Ext.refl w⟩
   · have hin : 0 ≤ m.fr ∧ m.fr < c.bl.length := by unfold hasS at hh; simpa using hh
     obtain ⟨b, hb⟩ : ∃ b : Nat, m.fr = b := ⟨m.fr.toNat, by omega⟩
     have NX := next18 h ok (b := b) (by omega)
     rw [hh] at HS hg
     rw [Bool.true_and, hb, Int.toNat_natCast] at hg
     rw [hb] at HS c10
     generalize nextB c m b = nx at *
     generalize c.S.pg = pg at *
     clear h hh hin hb wf
     by_cases hlt : nx < pg
     · rw [decide_eq_true hlt] at hg
       subst hg
       have hlt' : (nx : Int) < pg := by omega
       go_wp2_with (first
         | (go_at_call 34; refine HS.mono ?_; rintro e w1 ⟨rfl, rfl⟩)
         | (go_at_call 113; refine NX.mono ?_; rintro e w2 ⟨rfl, hg2⟩; have P2 := PG _ hg2; have HG2 := Lib.hid hg2; clear hg2)
         | (go_at_call 68; refine P2.mono ?_; rintro e w3 ⟨rfl, hg3⟩))
       go_meet
       exact ⟨rfl, ext_trans HG2.out hg3⟩
     · rw [decide_eq_false hlt] at hg
       subst hg
       have hlt' : ¬ (nx : Int) < pg := by omega
       go_wp2_with (first
         | (go_at_call 34; refine HS.mono ?_; rintro e w1 ⟨rfl, rfl⟩)
         | (go_at_call 113; refine NX.mono ?_; rintro e w2 ⟨rfl, hg2⟩; have P2 := PG _ hg2; have HG2 := Lib.hid hg2; clear hg2)
         | (go_at_call 68; refine P2.mono ?_; rintro e w3 ⟨rfl, hg3⟩))
       go_meet
       exact ⟨rfl, ext_trans HG2.out hg3⟩
 case rest =>
   obtain ⟨rfl, hE1⟩ := hcut
   have HE1 := Lib.hid hE1
   have h1 := SA.out _ hE1
   unfold roomR at hm
   rw [hg] at hm
   clear h c10 HS PG hg hE1
   cases g
   · simp only [Bool.false_eq_true, if_false] at hm
     have FR := free18 h1 ok
     have SP := fun wx (hE : wc.grownBy wx none) => spares18 (h1.ext ok hE) ok hs
     have WO := fun wx (hE : wc.grownBy wx none) => worths18 (h1.ext ok hE) ok
     have hfl := freeK_len c m c.bl.length
     have hbl := ok.bl
     have hfe : freeL c m = freeK c m c.bl.length := rfl
     rw [← hfe] at hfl
     have hwl : (worthL c m).length = c.bl.length := worthK_len c m _
     have hsn : (0 : Int) ≤ sprN c m := by unfold sprN; split <;> omega
     have SA1 := Lib.hid (fun (wx : World) (hE : wc.grownBy wx none) => h1.ext ok hE)
     have C10 := Lib.hid (fun (wx : World) (hE : wc.grownBy wx none) => (show wx.cell? ⟨p.sb, 10, none⟩ = some (.int .i64 m.fr) ∧ wx.frozen? ⟨p.sb, 10, none⟩ = false from ⟨(h1.ext ok hE).cells.2.2.2.2.2.2.2.2.2.1, (h1.ext ok hE).bk.free 10⟩))
     have GR := grdN_is (worthL c m)
     have CL := fun (b : Nat) (hb : b < c.bl.length) (hc : collR c m b 100 = some (e, m')) wx (hx : StAt wx p c m) => collect18 hx ok WF.out hs hb hk hc
     have hsu : sprN c m ≤ 9223372036854775000 := by unfold sprN; split <;> omega
     generalize hfl' : freeL c m = F at *
     generalize hwl' : worthL c m = W at *
     have GW := Lib.hid (fun wx (v : Value) (hi : Ints wx v W) => greedy18 wx v W hi (by omega))
     generalize grdN W = gr at *
     generalize sprN c m = sn at *
     obtain ⟨fl, hfll⟩ : ∃ z, F.length = z := ⟨_, rfl⟩
     obtain ⟨wl, hwll⟩ : ∃ z, W.length = z := ⟨_, rfl⟩
     unfold RowI at FR WO
     rw [hfll] at FR hm hfl
     rw [hwll] at WO hwl
     have HWL := Lib.hid hwll
     by_cases hsp : (fl : Int) - 1 > sn
     · rw [if_pos hsp] at hm
       simp only [Option.some.injEq, Prod.mk.injEq] at hm
       obtain ⟨rfl, rfl⟩ := hm
       obtain ⟨x, F', hF⟩ : ∃ x F', F = x :: F' := by
         cases F with
         | nil => simp at hfll; omega
         | cons x F' => exact ⟨x, F', rfl⟩
       have hh : F.headD 0 = x := by rw [hF]; rfl
       have HL := Lib.hid (show (List.map (Value.int .i64) F)[0]? = some (.int .i64 x) by rw [hF]; rfl)
       have hp : 0 < fl := by omega
       have HN := Lib.hid (And.intro h1 (And.intro hF hh))
       clear WO GW CL GR hfll hwll hfl' hwl' hF hh hwl hfe h1
       go_upto_region 5 with (first
         | (go_at_call 127; refine FR.mono ?_; rintro e w1 ⟨⟨v, rfl, hown⟩, hg1⟩; have S2 := SP _ hg1; have HO := Lib.hid (And.intro hown hg1); obtain ⟨gg, cp, rfl⟩ := owns_some18 hown hp; clear hown hg1)
         | (go_at_call 128; refine S2.mono ?_; rintro e w2 ⟨rfl, hg2⟩))
       have hown2 := HO.out.1.kept hg2 (Classical.em _)
       have cx : w2.cell? ⟨gg, 0, none⟩ = some (.int .i64 x) := (show w2.cell? ⟨gg, 0 + 0, none⟩ = _ from by have h5 := hown2.cells (g := gg) rfl 0 _ HL.out; rwa [addr_add] at h5)
       have hE2 := ext_trans HO.out.2 hg2
       obtain ⟨c10, f10⟩ := C10.out _ hE2
       have HE2 := Lib.hid hE2
       clear hown2 hg2 S2 hE2
       go_wp2
       go_ret
       rw [HN.out.2.2]
       exact ⟨rfl, (SA1.out _ HE2.out).setFr ok x, (Keeps.ext (ext_trans HE1.out HE2.out)).trans (Keeps.own18 (gb_set (gb_refl w2 _) _ _) (.inl rfl))⟩
     · rw [if_neg hsp] at hm
       by_cases hgr : gr = -1
       · rw [if_pos hgr] at hm
         simp only [Option.some.injEq, Prod.mk.injEq] at hm
         obtain ⟨rfl, rfl⟩ := hm
         have hgr' : (gr == -1) = true := by simpa using hgr
         clear CL GR hfll hwll hfl' hwl' hgr hfe hwl
         go_wp2_with (first
           | (go_at_call 127; refine FR.mono ?_; rintro e w1 ⟨⟨v, rfl, hown⟩, hg1⟩; have S2 := SP _ hg1; have HO := Lib.hid hg1; obtain ⟨ao1, cp1, rfl⟩ := owns_slice17 hown; clear hown hg1)
           | (go_at_call 128; refine S2.mono ?_; rintro e w2 ⟨rfl, hg2⟩; have hE2 := ext_trans HO.out hg2; have W2 := WO _ hE2; have HE2 := Lib.hid hE2; clear hE2 hg2)
           | (go_at_call 130; refine W2.mono ?_; rintro e w3 ⟨⟨v3, rfl, hown3⟩, hg3⟩; have G3 := GW.out _ v3 (owns_ints HWL.out.symm hown3); have HE3 := Lib.hid (ext_trans HE2.out hg3); obtain ⟨ao3, cp3, rfl⟩ := owns_slice17 hown3; clear hown3 hg3)
           | (go_at_call 129; refine G3.mono ?_; rintro e w4 ⟨rfl, hg4⟩; have HE4 := Lib.hid (ext_trans HE3.out hg4); clear hg4))
         go_ret
         exact ⟨rfl, SA1.out _ HE4.out, Keeps.ext (ext_trans HE1.out HE4.out)⟩
       · rw [if_neg hgr] at hm
         have hgr' : (gr == -1) = false := by simpa using hgr
         obtain ⟨b, rfl, hbl2⟩ : ∃ b : Nat, gr = b ∧ b < c.bl.length := by
           rcases GR with ⟨h5, _⟩ | ⟨i, h5, h6, _⟩
           · exact absurd h5 hgr
           · exact ⟨i, h5, by omega⟩
         have C2 := CL b hbl2 hm
         clear CL GR hfll hwll hfl' hwl' hgr hfe hwl hm hbl2
         go_wp2_with (first
           | (go_at_call 127; refine FR.mono ?_; rintro e w1 ⟨⟨v, rfl, hown⟩, hg1⟩; have S2 := SP _ hg1; have HO := Lib.hid hg1; obtain ⟨ao1, cp1, rfl⟩ := owns_slice17 hown; clear hown hg1)
           | (go_at_call 128; refine S2.mono ?_; rintro e w2 ⟨rfl, hg2⟩; have hE2 := ext_trans HO.out hg2; have W2 := WO _ hE2; have HE2 := Lib.hid hE2; clear hE2 hg2)
           | (go_at_call 130; refine W2.mono ?_; rintro e w3 ⟨⟨v3, rfl, hown3⟩, hg3⟩; have G3 := GW.out _ v3 (owns_ints HWL.out.symm hown3); have HE3 := Lib.hid (ext_trans HE2.out hg3); obtain ⟨ao3, cp3, rfl⟩ := owns_slice17 hown3; clear hown3 hg3)
           | (go_at_call 129; refine G3.mono ?_; rintro e w4 ⟨rfl, hg4⟩; have C4 := C2 _ (SA1.out _ (ext_trans HE3.out hg4)); have HE4 := Lib.hid (ext_trans HE3.out hg4); clear hg4)
           | (go_at_call 36; refine C4.mono ?_; rintro e w5 ⟨rfl, hA5, hk5⟩))
         go_ret
         exact ⟨rfl, hA5, (Keeps.ext (ext_trans HE1.out HE4.out)).trans hk5⟩
   · simp only [if_true, Option.some.injEq, Prod.mk.injEq] at hm
     obtain ⟨rfl, rfl⟩ := hm
     have H1 := Lib.hid h1
     clear h1
     go_wp2
     go_ret
     exact ⟨rfl, H1.out, Keeps.ext HE1.out⟩
end
end Go.Proofs.YtdnpdoipipfkoaaGreatDoor

namespace Go.Proofs.YtdnpdoipipfkoaaGreatDoor
set_option linter.unusedVariables false
set_option linter.unusedSimpArgs false
set_option linter.unusedVariables false
set_option linter.unusedSimpArgs false
set_option maxRecDepth 100000
open Go.RowKit
section
variable {w w' : World} {p : SP} {c : SC} {m : SM}
structure PutS (x : Chg) (cb tb : Nat) (te ep sq : Int) (y : World) : Prop where
 c0 : y.cell? ⟨cb, 0, none⟩ = some (.int .i64 x.pl)
 c2 : y.cell? ⟨cb, 2, none⟩ = some (.string x.dt)
 t0 : y.cell? ⟨tb, 0, none⟩ = some (.int .i64 te)
 t1 : y.cell? ⟨tb, 1, none⟩ = some (.int .i64 ep)
 t2 : y.cell? ⟨tb, 2, none⟩ = some (.int .i64 x.pl)
 t3 : y.cell? ⟨tb, 3, none⟩ = some (.int .i64 sq)
 t4 : y.cell? ⟨tb, 4, none⟩ = some (.int .i64 x.kd)
 t5 : y.cell? ⟨tb, 5, none⟩ = some (.bool false)
theorem PutS.keeps {y z : World} {T : Nat → Nat} {x : Chg} {cb tb : Nat} {te ep sq : Int} (h : PutS x cb tb te ep sq y) (hk : Keeps T y z) (h1 : T cb = 0) (h2 : T tb = 0) : PutS x cb tb te ep sq z := by
 have e1 := hk.block cb (World.block_lt_of_cell? y _ h.c0) h1
 have e2 := hk.block tb (World.block_lt_of_cell? y _ h.t0) h2
 exact ⟨(World.cell?_of_block e1).trans h.c0, (World.cell?_of_block e1).trans h.c2, (World.cell?_of_block e2).trans h.t0, (World.cell?_of_block e2).trans h.t1, (World.cell?_of_block e2).trans h.t2, (World.cell?_of_block e2).trans h.t3, (World.cell?_of_block e2).trans h.t4, (World.cell?_of_block e2).trans h.t5⟩
set_option maxHeartbeats 3200000 in
theorem put18 (h : StAt w p c m) (ok : StOk p c) {k : Int} (hcn : Cnt m.n k) (hk : k < 1152921504606846900) (hsq : 0 ≤ m.sq ∧ m.sq ≤ k) {b : Nat} (hb : b < c.bl.length) (hf : m.fr = b) (x : Chg) (hd : x.dt.size ≤ 9223372036854775807) :
   Calls Tryz.prog 97 #[.pointer (some ⟨p.sb, 0, none⟩), .agg (chgC x)] w (Gs p c (.int .i64 (putE18 c m x)) (putM c m x) w) := by
 obtain ⟨n0, rs0, q0, sq0, fr0, ro0⟩ := m
 simp only at hf hsq hcn
 subst hf
 have NX := fun (wx : World) (hx : StAt wx p c ⟨n0, rs0, q0, sq0, (b : Int), ro0⟩) => next18 hx ok hb
 have PR := fun (wx : World) (hx : StAt wx p c ⟨n0, rs0, q0, sq0, (b : Int), ro0⟩) => program18 hx ok hcn (by omega) hb (nextB c ⟨n0, rs0, q0, sq0, (b : Int), ro0⟩ b) c.who c.ep x.pl sq0 x.kd false x.dt hd
 have ST := Lib.hid (fun (wx : World) (s2 : NS) (hx : StAt wx p c ⟨s2, rs0, q0, sq0 + 1, (b : Int), ro0⟩) => tabSet hx.tb x.pl (b : Int) (nextB c ⟨n0, rs0, q0, sq0, (b : Int), ro0⟩ b) (by have := hx.tb.len; omega))
 unfold putE18 putM
 simp only [Int.toNat_natCast]
 simp only at PR ST
 obtain ⟨nx, hnx⟩ : ∃ z, nextB c ⟨n0, rs0, q0, sq0, (b : Int), ro0⟩ b = z := ⟨_, rfl⟩
 rw [hnx] at NX PR ST ⊢
 obtain ⟨er, her⟩ : ∃ z, prgE c n0 (b : Int) nx x.pl sq0 x.kd c.who c.ep false x.dt = z := ⟨_, rfl⟩
 obtain ⟨s2, hs2⟩ : ∃ z, prgS c n0 (b : Int) nx x.pl sq0 x.kd c.who c.ep false x.dt = z := ⟨_, rfl⟩
 rw [her, hs2] at PR ⊢
 obtain ⟨E, hE⟩ : ∃ z, (if er = 0 then setE c.bl.length c.S.pg rs0 x.pl (b : Int) nx else er) = z := ⟨_, rfl⟩
 obtain ⟨M, hM⟩ : ∃ z : SM, (if er = 0 then ⟨s2, setR c.bl.length c.S.pg rs0 x.pl (b : Int) nx, q0, sq0 + 1, (b : Int), ro0⟩ else ⟨s2, rs0, q0, sq0, (b : Int), ro0⟩) = z := ⟨_, rfl⟩
 rw [hE, hM]
 have HEM := Lib.hid (And.intro hE hM)
 clear hE hM
 have hEb := World.grownBy_alloc w (.cells (chgC x) 87) none
 have HCB := Lib.hid (And.intro (h.ext ok hEb) (And.intro hEb (Blk.new w 87 (chgC x))))
 have FR := Lib.hid (fun k (hk : w.heap.size ≤ k) => h.fresh hk)
 clear h hEb hnx her hs2 hb
 obtain ⟨cb, hcb⟩ : ∃ z, w.heap.size = z := ⟨_, rfl⟩
 have HCBE := Lib.hid hcb
 go_enter Tryz.func97, Tryz.ntmps97
 go_upto_region 1 with fail
 obtain ⟨w1, hw1⟩ : ∃ y, w.alloc (.cells (chgC x) 87) = y := ⟨_, rfl⟩
 rw [hw1]
 have h1 : StAt w1 p c ⟨n0, rs0, q0, sq0, (b : Int), ro0⟩ := by rw [← hw1]; exact HCB.out.1
 have hE1 : w.grownBy w1 none := by rw [← hw1]; exact HCB.out.2.1
 have hB1 : Blk w1 cb 87 (chgC x) := by rw [← hw1, ← hcb]; exact HCB.out.2.2
 have H1 := Lib.hid (And.intro h1 (And.intro hE1 hB1))
 have c10 : w1.cell? ⟨p.sb, 10, none⟩ = some (.int .i64 (b : Int)) := h1.cells.2.2.2.2.2.2.2.2.2.1
 clear hw1 hE1 hB1 hcb HCB
 go_upto_region 2 with (go_at_call 113; refine (NX _ h1).mono ?_; rintro e w2 ⟨rfl, hg2⟩)
 have H2 := Lib.hid (And.intro (H1.out.1.ext ok hg2) (And.intro (ext_trans H1.out.2.1 hg2) (H1.out.2.2.ext hg2)))
 clear h1 c10 H1 hg2 NX
 go_cut [6] (fun s6 wx => ∃ tb, s6 = .pointer (some ⟨tb, 0, none⟩) ∧ Blk wx tb 106 #[.int .i64 c.who, .int .i64 c.ep, .int .i64 x.pl, .int .i64 sq0, .int .i64 x.kd, .bool false] ∧ w2.grownBy wx none ∧ w2.heap.size ≤ tb)
 case first =>
   obtain ⟨c0, c1, c3, c4, c5, c6, c7, c8, c9, c10, c11⟩ := H2.out.1.cells
   have d0 : w2.cell? ⟨cb, 0, none⟩ = some (.int .i64 x.pl) := H2.out.2.2.cell 0
   have d1 : w2.cell? ⟨cb, 1, none⟩ = some (.int .i64 x.kd) := H2.out.2.2.cell 1
   have hl1 := H2.out.1.bk.lt
   have hl2 := H2.out.2.2.lt
   clear c0 c4 c5 c6 c7 c8 c10 c11
   go_region
   all_goals (go_wp2_with fail; go_meet)
   all_goals exact ⟨_, rfl, Blk.new _ _ _, ext_trans (World.grownBy_alloc _ _ none) (Ext.drew _), Nat.le_refl _⟩
 case rest =>
   obtain ⟨tb, rfl, hT, hg3, htb⟩ := hcut
   have h3 := H2.out.1.ext ok hg3
   have hE3 := ext_trans H2.out.2.1 hg3
   have hB3 := H2.out.2.2.ext hg3
   have htl := hT.lt
   have hcl := hB3.lt
   have hsl := h3.bk.lt
   have hcc := h3.cells.2.2.2.2.2.2.2.2.2.1
   have hS : wc.drew.cell? ⟨p.sb, 10, none⟩ = some (.int .i64 (b : Int)) ∧ PutS x cb tb c.who c.ep sq0 wc.drew := ⟨hcc, hB3.cell 0, hB3.cell 2, hT.cell 0, hT.cell 1, hT.cell 2, hT.cell 3, hT.cell 4, hT.cell 5⟩
   have H3 := Lib.hid (And.intro h3 hE3)
   have f1 := FR.out cb (by have := HCBE.out; omega)
   have f2 := FR.out tb (by have := H2.out.2.1.size; omega)
   clear h3 hE3 hT hg3 hcc hsl htl htb hB3 hcl H2
   go_upto_region 3 with fail
   refine region_line [(0, true), (1, true), (2, true), (3, true), (4, true), (5, true), (6, true), (7, true), (8, true), (9, false), (10, true)] (fun y => y.cell? ⟨p.sb, 10, none⟩ = some (.int .i64 (b : Int)) ∧ PutS x cb tb c.who c.ep sq0 y) (by kernel_rfl) (by kernel_rfl) (fun _ _ _ d _ h => by cases d <;> exact h) hS ?_
   repeat (refine line_read (a' := ?_) rfl (by kernel_rfl) (by kernel_rfl) hS (fun y hy K hK => ?_) ?_; rotate_left; · obtain ⟨c10, d0, d2, t0, t1, t2, t3, t4, t5⟩ := hy; go_wp2; exact hK)
   refine line_act (by rfl) (fun K hK => ?_)
   go_wp2_with (go_at_call 131; refine (PR _ (H3.out.1.ext ok (Ext.drew wc))).mono ?_; rintro e w4 ⟨rfl, hA4, hk4⟩)
   have hS4 : w4.cell? ⟨p.sb, 10, none⟩ = some (.int .i64 (b : Int)) ∧ PutS x cb tb c.who c.ep sq0 w4 := ⟨hA4.cells.2.2.2.2.2.2.2.2.2.1, hS.2.keeps hk4 f1 f2⟩
   refine hK _ _ (fun y => y.cell? ⟨p.sb, 10, none⟩ = some (.int .i64 (b : Int)) ∧ PutS x cb tb c.who c.ep sq0 y) hS4 (fun _ h => h) ?_
   clear hK K
   repeat (refine line_read (a' := ?_) rfl (by kernel_rfl) (by kernel_rfl) hS4 (fun y hy K hK => ?_) ?_; rotate_left; · go_wp2; exact hK)
   refine line_end ?_
   have hkk : Keeps (tS p c) w w4 := (Keeps.ext (ext_trans H3.out.2 (Ext.drew wc))).trans hk4
   have H4 := Lib.hid (And.intro hA4 (And.intro hkk hS4.2))
   clear hA4 hk4 hkk hS hS4 H3 PR
   by_cases h0 : er = 0
   · have h0' : (er != 0) = false := by simp [h0]
     have c9 := H4.out.1.cells.2.2.2.2.2.2.2.2.1
     have f9 := H4.out.1.bk.free 9
     have H5 := Lib.hid (H4.out.1.setSq ok (sq0 + 1))
     have hq := HEM.out
     rw [if_pos h0, if_pos h0] at hq
     obtain ⟨rfl, rfl⟩ := hq
     clear h0
     go_upto_region 7 with fail
     clear c9 f9
     obtain ⟨w5, hw5⟩ : ∃ y, w4.setCell ⟨p.sb, 9, none⟩ (.int .i64 (sq0 + 1)) = y := ⟨_, rfl⟩
     rw [hw5] at H5 ⊢
     have hk5 : Keeps (tS p c) w4 w5 := by rw [← hw5]; exact Keeps.own18 (gb_set (gb_refl w4 _) _ _) (.inl rfl)
     have hP5 := H4.out.2.2.keeps hk5 f1 f2
     have HK5 := Lib.hid (H4.out.2.1.trans hk5)
     clear hw5 hk5
     have hd5 := H5.out.ext ok (Ext.drew w5)
     have hS5 : w5.drew.cell? ⟨p.sb, 10, none⟩ = some (.int .i64 (b : Int)) ∧ w5.drew.cell? ⟨p.sb, 7, none⟩ = some (.pointer (some ⟨p.tb, 0, none⟩)) ∧ w5.drew.cell? ⟨cb, 0, none⟩ = some (.int .i64 x.pl) := ⟨hd5.cells.2.2.2.2.2.2.2.2.2.1, hd5.cells.2.2.2.2.2.2.1, hP5.c0⟩
     clear hP5
     refine region_line [(0, true), (1, true), (2, true), (3, true), (4, true), (5, true), (6, true), (7, true), (8, true), (9, true), (10, true), (11, false), (12, true)] (fun y => y.cell? ⟨p.sb, 10, none⟩ = some (.int .i64 (b : Int)) ∧ y.cell? ⟨p.sb, 7, none⟩ = some (.pointer (some ⟨p.tb, 0, none⟩)) ∧ y.cell? ⟨cb, 0, none⟩ = some (.int .i64 x.pl)) (by kernel_rfl) (by kernel_rfl) (fun _ _ _ d _ h => by cases d <;> exact h) hS5 ?_
     repeat (refine line_read (a' := ?_) rfl (by kernel_rfl) (by kernel_rfl) hS5 (fun y hy K hK => ?_) ?_; rotate_left; · obtain ⟨c10, c7, d0⟩ := hy; go_wp2; exact hK)
     refine line_act (by rfl) (fun K hK => ?_)
     go_wp2_with (go_at_call 77; refine (ST.out _ _ hd5).mono ?_; rintro e w6 ⟨rfl, hA6, hg6⟩)
     have h6 := hd5.tab ok hA6 hg6
     have hk6 : Keeps (tS p c) w5 w6 := (Keeps.ext (Ext.drew w5)).trans (Keeps.own18 hg6 (.inr (.inl rfl)))
     have hS6 : w6.cell? ⟨p.sb, 10, none⟩ = some (.int .i64 (b : Int)) ∧ w6.cell? ⟨p.sb, 7, none⟩ = some (.pointer (some ⟨p.tb, 0, none⟩)) ∧ w6.cell? ⟨cb, 0, none⟩ = some (.int .i64 x.pl) := ⟨h6.cells.2.2.2.2.2.2.2.2.2.1, h6.cells.2.2.2.2.2.2.1, (World.cell?_of_block (hk6.block cb (World.block_lt_of_cell? w5 _ hS5.2.2) f1)).trans hS5.2.2⟩
     refine hK _ _ (fun y => y.cell? ⟨p.sb, 10, none⟩ = some (.int .i64 (b : Int)) ∧ y.cell? ⟨p.sb, 7, none⟩ = some (.pointer (some ⟨p.tb, 0, none⟩)) ∧ y.cell? ⟨cb, 0, none⟩ = some (.int .i64 x.pl)) hS6 (fun _ h => h) ?_
     clear hK K
     repeat (refine line_read (a' := ?_) rfl (by kernel_rfl) (by kernel_rfl) hS6 (fun y hy K hK => ?_) ?_; rotate_left; · go_wp2; exact hK)
     refine line_end ?_
     go_wp2
     go_ret
     exact ⟨rfl, h6, HK5.out.trans hk6⟩
   · have h0' : (er != 0) = true := by simpa using h0
     have hq := HEM.out
     rw [if_neg h0, if_neg h0] at hq
     obtain ⟨rfl, rfl⟩ := hq
     clear h0
     go_wp2
     go_ret
     exact ⟨rfl, H4.out.1, H4.out.2.1⟩
end
end Go.Proofs.YtdnpdoipipfkoaaGreatDoor
