/-
  Package heal: Heal answers what the document says (HealC).
-/
import Derived.Test.YtigfohofbpjldaaIN
namespace Go.Proofs.Ytigfohofbpjldaa
set_option linter.unusedVariables false
set_option linter.unusedSimpArgs false
set_option maxRecDepth 100000
open Go.RowKit

/-- What is read of the blocks that go. -/
def GoneR (gb : Nat) (v : Value) (w : World) : Prop := w.cell? ⟨gb, 0, none⟩ = some v

set_option maxHeartbeats 3200000 in
theorem heal_c : HealC := by
  intro lv L B tn ep sz w HASK
  obtain ⟨hokl, hl60, hB64⟩ := mayL_parts HASK.may
  have hE0 := World.grownBy_alloc w (.cells #[.int .i64 sz] 3) none
  have hE1 := World.grownBy_alloc (w.alloc (.cells #[.int .i64 sz] 3)) (.cells (hldC none 0 0 none 0 0 0) 28) none
  have hb := hE1.cell (box_int w sz) (by simp)
  have hrb := Blk.new (w.alloc (.cells #[.int .i64 sz] 3)) 28 (hldC none 0 0 none 0 0 0)
  rw [show (w.alloc (.cells #[.int .i64 sz] 3)).heap.size = w.heap.size + 1 by simp] at hrb
  have HA := HASK.ext (ext_trans hE0 hE1)
  have HE0 := Lib.hid (ext_trans hE0 hE1)
  obtain ⟨w0, hw0⟩ : ∃ v, (w.alloc (.cells #[.int .i64 sz] 3)).alloc (.cells (hldC none 0 0 none 0 0 0) 28) = v := ⟨_, rfl⟩
  rw [hw0] at HA HE0 hb hrb
  have hw0 : (w.alloc (.cells #[.int .i64 sz] 3)).alloc (.cells #[.slice none 0 0, .slice none 0 0, .int .i64 0] 28) = w0 := hw0
  obtain ⟨g, hgg⟩ : ∃ z, w.heap.size = z := ⟨_, rfl⟩
  rw [hgg] at hb hrb
  have WIT := within17_any B lv L w0 HA.row HA.lb (by omega)
  have hl1 : (L.filter (witB B)).length ≤ 1000 := Nat.le_trans (List.length_filter_le _ _) (by omega)
  have hrow := row_is B L
  have hcnt := cnt_is B tn ep sz L
  have hsq : ∀ f ∈ (L.filter (witB B)).filter (mineF tn ep), 0 ≤ f.sq ∧ f.sq ≤ 2147483647 := fun f hf => by
    obtain ⟨h1, h2⟩ := List.mem_filter.1 hf
    exact (okB_sq (hokl f (List.mem_filter.1 h1).1 (mine_torn h2))).2
  have hAok : ∀ f ∈ cntL B tn ep sz L, (0 ≤ f.pl ∧ f.pl ≤ 63) ∧ (0 ≤ f.bk ∧ f.bk < 64) ∧ f.bk ∈ blkL (L.filter (witB B)) := fun f hf => by
    obtain ⟨h1, h2⟩ := List.mem_filter.1 hf
    unfold cntB at h2
    simp only [Bool.and_eq_true, decide_eq_true_eq] at h2
    obtain ⟨h3, h4, h5, _⟩ := h2
    refine ⟨(okB_sq (hokl f h1 (mine_torn h5))).1, ⟨h3, by omega⟩, ?_⟩
    rw [row_is]
    exact ⟨h3, h4, List.any_eq_true.2 ⟨f, h1, by simp⟩⟩
  have hgo := leaves_is L (cntL B tn ep sz L) B (blkL (L.filter (witB B))) (blkL_ok _).1 hrow (fun f hf => (hAok f hf).2.2)
  have hnxt := fun q => nxt_is B tn ep L hokl q
  have hsp := fun l h1 h2 => spots_is (cntL B tn ep sz L) (goN L (cntL B tn ep sz L) B.toNat) (fun f hf => (hAok f hf).1) l h1 h2
  have hrise := (goN_rise L (cntL B tn ep sz L) B.toNat).1
  have hgl := goN_len L (cntL B tn ep sz L) B.toNat
  have hrl := (blkL_ok (L.filter (witB B))).2.2
  have hrok : ∀ x ∈ blkL (L.filter (witB B)), okI x := fun x hx => by
    have h1 := (hrow x).1 hx
    exact okI_of (by omega) (by omega)
  obtain ⟨L1, hL1⟩ : ∃ z, L.filter (witB B) = z := ⟨_, rfl⟩
  rw [hL1] at WIT hl1 hcnt hsq hAok hgo hrl hrok
  simp only [hL1] at hnxt
  have hl2 : (L1.filter (mineF tn ep)).length ≤ 1000 := Nat.le_trans (List.length_filter_le _ _) hl1
  obtain ⟨L2, hL2⟩ : ∃ z, L1.filter (mineF tn ep) = z := ⟨_, rfl⟩
  rw [hL2] at hl2 hcnt hsq
  simp only [hL2] at hnxt
  have hl3 : (cntL B tn ep sz L).length ≤ 1000 := by rw [← hcnt]; exact Nat.le_trans (List.length_filter_le _ _) hl2
  obtain ⟨A, hA⟩ : ∃ z, cntL B tn ep sz L = z := ⟨_, rfl⟩
  rw [hA] at hcnt hAok hgo hrise hgl hl3
  simp only [hA] at hsp
  rw [hA]
  obtain ⟨gone, hgone⟩ : ∃ z, goN L A B.toNat = z := ⟨_, rfl⟩
  rw [hgone] at hgo hrise hgl
  simp only [hgone] at hsp
  rw [hgone]
  obtain ⟨q, hq⟩ : ∃ z, seqN B tn ep L = z := ⟨_, rfl⟩
  simp only [hq] at hnxt
  rw [hq]
  obtain ⟨sp, hspn⟩ : ∃ z, spotsN A gone 64 = z := ⟨_, rfl⟩
  simp only [hspn] at hsp
  rw [hspn]
  have hl4 : (A.filter (stayF gone)).length ≤ 1000 := Nat.le_trans (List.length_filter_le _ _) hl3
  have HL := Lib.hid (And.intro hl1 (And.intro hl2 (And.intro hl3 hl4)))
  have HX := Lib.hid (And.intro hL2 (And.intro hcnt (And.intro hsq hAok)))
  have HGO := Lib.hid (And.intro hgo (And.intro (hrise.imp (fun {_ _} h => Int.le_of_lt h)) (show gone.length ≤ 1000 by omega)))
  have HNX := Lib.hid (And.intro hnxt hsp)
  have HRL := Lib.hid (And.intro (show (blkL L1).length ≤ 1000 by omega) hrok)
  have HB := Lib.hid hb
  have HRB := Lib.hid hrb
  have HG := Lib.hid (And.intro hgg (show g + 1 < w0.heap.size from hrb.lt))
  clear HA hokl hl60 hB64 hE0 hE1 hb hrb hL1 hL2 hl1 hl2 hl3 hl4 HASK hgg hrow hcnt hsq hAok hgo hnxt hsp hrise hgl hrl hrok hA hgone hq hspn
  go_enter Try.func8, Try.ntmps8
  go_upto_region 1 with fail
  clear hw0
  go_upto_region 3 with (first
    | (go_at_call 17; refine WIT.mono ?_; rintro e w1 ⟨⟨v1, rfl, ho1⟩, hE1⟩; have HO1 := Lib.hid ho1; have HE1 := Lib.hid hE1; have OWN := owned17_any tn ep v1 L1 w1 (made17 ho1 (Ext.refl _)).1 (made17 ho1 (Ext.refl _)).2 HL.out.1; clear ho1 hE1)
    | (go_at_call 18; refine OWN.mono ?_; rintro e w2 ⟨⟨v2, rfl, ho2⟩, hE2⟩; have HO2 := Lib.hid ho2; have HE2 := Lib.hid hE2; clear ho2 hE2))
  clear WIT OWN
  have ho2 := HO2.out
  rw [HX.out.1] at ho2
  have hb2 := HE2.out.cell (HE1.out.cell HB.out (by simp)) (by simp)
  have T := those17_any 20 Try.eg3 #[.pointer (some ⟨g, 0, none⟩)] (belB sz) v2 L2 w2 (made17 ho2 (Ext.refl _)).1 (made17 ho2 (Ext.refl _)).2 HL.out.2.1 (fun f _ wx hE => heal1_any sz g f wx (hE.cell hb2 (by simp)))
  rw [HX.out.2.1] at T
  have HO2 := Lib.hid ho2
  clear ho2 hb2
  try rw [HG.out.1]
  go_upto_region 4 with (go_at_call 19; refine T.mono ?_; rintro e w3 ⟨⟨v3, rfl, ho3⟩, hE3⟩; have HO3 := Lib.hid ho3; have HE3 := Lib.hid hE3; clear ho3 hE3)
  clear T
  have hm1 := made17 HO1.out (ext_trans HE2.out HE3.out)
  have BLK := blocksOf_any v1 L1 w3 hm1.1 hm1.2 HL.out.1
  clear hm1
  go_upto_region 5 with (first
    | (go_at_call 22; refine BLK.mono ?_; rintro e w4 ⟨⟨v4, rfl, ho4⟩, hE4⟩; have HE4 := Lib.hid hE4; have LV := leaving_any v3 v4 A (blkL L1) w4 (made17 HO3.out hE4).1 ho4.ints (made17 HO3.out hE4).2 (fun k hk => (ho4.lt k hk).2) HL.out.2.2.1 HRL.out.1 (fun f hf => ⟨okI_of (by have := (HX.out.2.2.2 f hf).1; omega) (by have := (HX.out.2.2.2 f hf).1; omega), okI_of (by have := (HX.out.2.2.2 f hf).2.1; omega) (by have := (HX.out.2.2.2 f hf).2.1; omega)⟩) HRL.out.2; rw [HGO.out.1] at LV; clear ho4 hE4)
    | (go_at_call 21; refine LV.mono ?_; rintro e w5 ⟨⟨gv, rfl, ho5⟩, hE5⟩; have HO5 := Lib.hid ho5; have HE5 := Lib.hid hE5; obtain ⟨go_, gc, hgv⟩ := owns_slice17 ho5; subst hgv; clear ho5 hE5))
  clear BLK LV
  have HE6 := Lib.hid (World.grownBy_alloc w5 (.cells #[.slice go_ gone.length gc] 26) none)
  have hgb : (w5.alloc (.cells #[.slice go_ gone.length gc] 26)).cell? ⟨w5.heap.size, 0, none⟩ = some (.slice go_ gone.length gc) := (Blk.new w5 26 #[.slice go_ gone.length gc]).cell 0
  obtain ⟨w6, hw6⟩ : ∃ v, w5.alloc (.cells #[.slice go_ gone.length gc] 26) = v := ⟨_, rfl⟩
  rw [hw6] at HE6 hgb ⊢
  obtain ⟨gb, hgbz⟩ : ∃ z, w5.heap.size = z := ⟨_, rfl⟩
  rw [hgbz] at hgb ⊢
  have hm3 := made17 HO3.out (ext_trans (ext_trans HE4.out HE5.out) HE6.out)
  have T := those17_any 23 Try.eg5 #[.pointer (some ⟨gb, 0, none⟩)] (stayF gone) v3 A w6 hm3.1 hm3.2 HL.out.2.2.1 (fun f _ wx hE => heal2_any w4.heap.size _ gone gb f wx ((HO5.out.kept HE6.out (Classical.em _)).kept hE (Classical.em _)) HGO.out.2.1 HGO.out.2.2 (hE.cell hgb (by simp)))
  have HGB := Lib.hid hgb
  have HGB2 := Lib.hid (show g + 1 < gb by have := HG.out.2; have h1 := HE1.out.size; have h2 := HE2.out.size; have h3 := HE3.out.size; have h4 := HE4.out.size; have h5 := HE5.out.size; omega)
  clear hm3 hgb hw6 hgbz
  go_upto_region 6 with (go_at_call 19; refine T.mono ?_; rintro e w7 ⟨⟨v5, rfl, ho7⟩, hE7⟩; have HO7 := Lib.hid ho7; have HE7 := Lib.hid (ext_trans hE7 (Ext.drew w7)); clear ho7 hE7)
  clear T
  have hm5 := made17 HO7.out (Ext.drew w7)
  have SPT := spotsOf_any v5 (A.filter (stayF gone)) w7.drew hm5.1 hm5.2 HL.out.2.2.2 (fun f hf => okI_of (by have := (HX.out.2.2.2 f (List.mem_filter.1 hf).1).1; omega) (by have := (HX.out.2.2.2 f (List.mem_filter.1 hf).1).1; omega))
  have hS : GoneR gb (.slice go_ gone.length gc) w7.drew := HE7.out.cell HGB.out (by simp)
  clear hm5
  refine region_line [(0, true), (2, true), (3, true), (1, false), (4, false), (5, false), (6, false)] (GoneR gb (.slice go_ gone.length gc)) (by kernel_rfl) (by kernel_rfl) (fun _ _ _ d _ h => by cases d <;> exact h) hS ?_
  iterate 3 (refine line_read (a' := ?_) rfl (by kernel_rfl) (by kernel_rfl) hS (fun z0 hx K hK => ?_) ?_; rotate_left; · (have d1 : World.cell? _ _ = _ := hx; go_wp2; exact hK))
  refine line_act (by rfl) (fun K hK => ?_)
  go_wp2_with (go_at_call 25; refine SPT.mono ?_; rintro e w8 ⟨⟨sv, l, rfl, hol, hl1, hl2⟩, hE8⟩; have HSP := Lib.hid (And.intro hol (HNX.out.2 l hl1 hl2)); have HE8 := Lib.hid hE8; obtain ⟨so, sc, hsv⟩ := owns_slice17 hol; subst hsv; clear hol hl1 hl2 hE8)
  have hS8 : GoneR gb (.slice go_ gone.length gc) w8 := HE8.out.cell hS (by simp)
  refine hK _ _ (GoneR gb (.slice go_ gone.length gc)) hS8 (fun x hx => hx) ?_
  clear hK K SPT hS
  have hm2 := made17 HO2.out (ext_trans (ext_trans (ext_trans (ext_trans (ext_trans HE3.out HE4.out) HE5.out) HE6.out) HE7.out) HE8.out)
  have NS := nextSeq17_any v2 L2 w8 hm2.1 hm2.2 HL.out.2.1 HX.out.2.2.1
  clear hm2
  refine line_act (by rfl) (fun K hK => ?_)
  go_wp2_with (go_at_call 26; refine NS.mono ?_; rintro e w9 ⟨⟨q9, rfl, hq9⟩, hE9⟩; have HQ9 := Lib.hid (HNX.out.1 q9 hq9); have HE9 := Lib.hid hE9; clear hq9 hE9)
  have hS9 : GoneR gb (.slice go_ gone.length gc) w9 := HE9.out.cell hS8 (by simp)
  refine hK _ _ (GoneR gb (.slice go_ gone.length gc)) hS9 (fun x hx => hx) ?_
  clear hK K NS hS8
  refine line_act (by rfl) (fun K hK => ?_)
  go_wp2
  refine hK _ _ (GoneR gb (.slice go_ gone.length gc)) hS9 (fun x hx => hx) ?_
  clear hK K
  have HALL := Lib.hid (ext_trans (ext_trans (ext_trans (ext_trans (ext_trans (ext_trans (ext_trans HE1.out HE2.out) HE3.out) HE4.out) HE5.out) HE6.out) HE7.out) (ext_trans HE8.out HE9.out))
  have hrb9 := HRB.out.ext HALL.out
  refine line_act (by rfl) (fun K hK => ?_)
  refine hld_store (so := so) (sn := l.length) (sc := sc) (go := go_) (gn := gone.length) (gc := gc) (q := q9) _ _ rfl rfl rfl hrb9 rfl rfl ?_
  intro w10 hb10 hg10 hs10
  go_wp2
  have hS10 : GoneR gb (.slice go_ gone.length gc) w10 := hg10.cell hS9 (fun e => by injection e with e; have h1 := HGB2.out; have h2 : gb = g + 1 := e; omega)
  refine hK _ _ (GoneR gb (.slice go_ gone.length gc)) hS10 (fun x hx => hx) ?_
  clear hK K hS9 hS10 hrb9
  refine line_end ?_
  go_wp2
  refine bodyPost_ret (v := .agg (hldC so l.length sc go_ gone.length gc q9)) (results_cell_row rfl _ _ (g + 1) _ _ (0, 0) _ rfl hb10 Try.underlying28 rfl Try.sizeHld) rfl ?_
  have hgw := HG.out
  have hsz7 : g + 1 < w7.drew.heap.size := by have h1 := HGB2.out; have h2 := World.block_lt_of_cell? _ _ (HE7.out.cell HGB.out (by simp)); have h3 : gb < w7.drew.heap.size := h2; omega
  have hsz4 : w.heap.size ≤ w4.heap.size := by have h1 := HE0.out.size; have h2 := HE1.out.size; have h3 := HE2.out.size; have h4 := HE3.out.size; have h5 := HE4.out.size; omega
  have hsz4b : g + 1 < w4.heap.size := by have h2 := HE1.out.size; have h3 := HE2.out.size; have h4 := HE3.out.size; have h5 := HE4.out.size; omega
  refine ⟨⟨.slice so l.length sc, .slice go_ gone.length gc, by rw [← HQ9.out]; rfl, ?_, ?_⟩, ?_⟩
  · have h1 := (HSP.out.1.kept HE9.out (Classical.em _)).kept hg10 (own_dis fun k hk e => by have h2 := (HSP.out.1.lt k hk).1; injection e with e; omega)
    rw [HSP.out.2] at h1 ⊢
    refine owns_le17 h1 ?_
    have h2 := HE5.out.size
    have h3 := HE6.out.size
    have h4 := HE7.out.size
    omega
  · have h1 : OwnI17 w4.heap.size w9 (.slice go_ gone.length gc) gone := HO5.out.kept (ext_trans (ext_trans HE6.out HE7.out) (ext_trans HE8.out HE9.out)) (Classical.em _)
    exact owns_le17 (h1.kept hg10 (own_dis fun k hk e => by have h2 := (h1.lt k hk).1; injection e with e; omega)) hsz4
  · exact g17_new (ext_trans HE0.out HALL.out) hg10 (by omega)

end Go.Proofs.Ytigfohofbpjldaa
