/-
  Texts put together: BQ BR BS BV BU BT IF IG.
-/
import Derived.Test.YtdnpdoipipfkoaaGreatDoorM20
import Derived.Test.YtdnpdoipipfkoaaGreatDoorM13
import Derived.Test.YtdnpdoipipfkoaaGreatDoorM11
import Derived.Test.YtdnpdoipipfkoaaGreatDoorM22
import Derived.Test.YtdnpdoipipfkoaaGreatDoorM19
import Derived.Test.YtdnpdoipipfkoaaGreatDoorM09
namespace Go.Proofs.YtdnpdoipipfkoaaGreatDoor
set_option linter.unusedVariables false
set_option linter.unusedSimpArgs false
set_option linter.unusedVariables false
set_option linter.unusedSimpArgs false
set_option maxRecDepth 100000
open Go.RowKit
theorem Ints.keeps18 {w w' : World} {T : Nat → Nat} {v : Value} {xs : List Int} (h : Ints w v xs) (hk : Keeps T w w') (hv : ∀ q, v.ownBlock = some q → T q = 0) : Ints w' v xs := by
 rcases h with h | ⟨b, off, cap, rfl, h2, h3⟩ | h
 · exact .inl h
 · exact .inr (.inl ⟨b, off, cap, rfl, h2, fun i hi => (World.cell?_of_block (hk.block b (World.block_lt_of_cell? w _ (h3 i hi)) (hv b rfl))).trans (h3 i hi)⟩)
 · exact .inr (.inr h)
theorem own_lb17 {B : Nat} {w : World} {v : Value} {xs : List Int} (h : OwnI17 B w v xs) : ∀ q, v.ownBlock = some q → B ≤ q := by
 rcases h.2 with ⟨rfl, _⟩ | ⟨g, cap, cur, rfl, hb, _⟩
 · intro q hq; cases hq
 · intro q hq
   have hq2 : some g = some q := hq
   injection hq2 with hq2
   omega
theorem rise_sort {xs : List Int} (h : xs.Pairwise (· < ·)) : xs.mergeSort (fun x y => decide (x ≤ y)) = xs := by
 apply List.mergeSort_of_pairwise
 exact h.imp (fun h => by simp; omega)
theorem rise_compact {xs : List Int} (h : xs.Pairwise (· < ·)) : Lib.compact xs = xs := by
 refine Lib.compact_all xs fun j hj => ?_
 unfold Lib.keeps
 rw [decide_eq_true_eq]
 by_cases h0 : j = 0
 · exact .inl h0
 · right
   have h1 := (List.pairwise_iff_getElem.1 h) (j - 1) j (by omega) hj (by omega)
   intro e
   have e1 : (xs.toArray[j]! : Int) = xs[j] := by simp [hj]
   have e2 : (xs.toArray[j - 1]! : Int) = xs[j - 1] := by
     have : j - 1 < xs.length := by omega
     simp [this]
   rw [e1, e2] at e
   omega
structure ErsS (p : SP) (c : SC) (w wr : World) (v : Value) (xs : List Int) (k : Int) (R : Int × SM) (j : Nat) (m : SM) : Prop where
 st : StAt wr p c m
 row : Ints wr v xs
 kp : Keeps (tS p c) w wr
 wf : Wf c m (k + 6 * j)
 eq : eraA c (xs.drop j) m = R
section
variable {w w' : World} {p : SP} {c : SC} {m : SM}
set_option maxHeartbeats 1600000 in
theorem eraseAll18 (h : StAt w p c m) (ok : StOk p c) {k : Int} (wf : Wf c m k) (hs : -9223372036854775000 ≤ c.sp ∧ c.sp ≤ 9223372036854775000) (hk : k < 1152921504600000000) (v : Value) (l : List Nat) (hv : Ints w v (l.map fun b : Nat => (b : Int))) (hl : l.Pairwise (· < ·)) (hb : ∀ b ∈ l, b < c.bl.length) :
   Calls Tryz.prog 76 #[.pointer (some ⟨p.sb, 0, none⟩), v] w (Gs p c (.int .i64 (eraA c (l.map fun b : Nat => (b : Int)) m).1) (eraA c (l.map fun b : Nat => (b : Int)) m).2 w) := by
 obtain ⟨xs, hxs⟩ : ∃ xs, l.map (fun b : Nat => (b : Int)) = xs := ⟨_, rfl⟩
 have hlen : xs.length ≤ 64 := by
   have h1 := nodup_len c.bl.length xs (by
     rw [← hxs]
     have h2 : (l.map fun b : Nat => (b : Int)).Pairwise (· < ·) := by
       rw [List.pairwise_map]
       exact hl.imp (fun h => by omega)
     exact h2.imp (fun h => by omega)) (fun x hx => by
       rw [← hxs] at hx
       obtain ⟨b, h1, rfl⟩ := List.mem_map.1 hx
       have := hb b h1
       omega)
   have := ok.bl
   omega
 have hrise : xs.Pairwise (· < ·) := by
   rw [← hxs, List.pairwise_map]
   exact hl.imp (fun h => by omega)
 have hat : ∀ j, j < xs.length → ∃ b : Nat, xs.getD j 0 = b ∧ b < c.bl.length := fun j hj => by
   have h1 : xs.getD j 0 ∈ xs := by
     rw [List.getD_eq_getElem?_getD, List.getElem?_eq_getElem hj]
     exact List.getElem_mem hj
   rw [← hxs] at h1
   obtain ⟨b, h2, h3⟩ := List.mem_map.1 h1
   rw [hxs] at h3
   exact ⟨b, h3.symm, hb b h2⟩
 rw [hxs] at hv ⊢
 clear hxs hl hb
 have CL := cloneO_any v xs w hv (by omega)
 obtain ⟨R, hR⟩ : ∃ R, eraA c xs m = R := ⟨_, rfl⟩
 rw [hR]
 have HH := Lib.hid (And.intro h (And.intro wf (And.intro hR hrise)))
 obtain ⟨n, hn⟩ : ∃ n, xs.length = n := ⟨_, rfl⟩
 rw [hn] at hlen hat
 have HN := Lib.hid hn
 have HAT := Lib.hid hat
 clear h wf hR hrise hv hn hat
 go_enter Tryz.func76, Tryz.ntmps76
 go_wp2_with (go_at_call 49; refine CL.mono ?_; rintro e w1 ⟨v1, rfl, ho1, hg1⟩; have SRT := sort17_any w.heap.size v1 xs w1 ho1 (by rw [HN.out]; omega); rw [rise_sort HH.out.2.2.2] at SRT; have HO1 := Lib.hid (And.intro ho1 hg1); clear ho1 hg1)
 go_wp2_with (go_at_call 109; refine SRT.mono ?_; rintro e w2 ⟨rfl, ho2, hg2⟩; have CMP := compact17_any w.heap.size v1 xs w2 ho2 (by rw [HN.out]; omega); rw [rise_compact HH.out.2.2.2] at CMP; have HO2 := Lib.hid (And.intro ho2 (own_kept18 HO1.out.1 HO1.out.2 hg2 (Nat.le_refl _))); clear ho2 hg2)
 go_wp2_with (go_at_call 110; refine CMP.mono ?_; rintro e w3 ⟨v2, rfl, ho3, hv3, hg3⟩; have HO3 := Lib.hid (And.intro ho3 (own_kept18 HO2.out.1 HO2.out.2 hg3 (Nat.le_refl _))); clear hg3; obtain ⟨ao, cap, g, off, rfl, hc3⟩ := ho3.ints.form; have HC3 := Lib.hid hc3; rw [HN.out]; clear ho3 hc3 hv3)
 have HST := Lib.hid (show ErsS p c w w3 (.slice ao n cap) xs k R 0 m from ⟨HH.out.1.ext ok HO3.out.2, by have := HO3.out.1.ints; rw [HN.out] at this; exact this, Keeps.ext HO3.out.2, by have := HH.out.2.1; simpa using this, by rw [List.drop_zero]; exact HH.out.2.2.1⟩)
 have hvo : ∀ q, (Value.slice ao n cap).ownBlock = some q → tS p c q = 0 := fun q hq => HH.out.1.fresh (own_lb17 HO3.out.1 q (by rw [HN.out]; exact hq))
 have HVO := Lib.hid hvo
 clear HC3 HO1 HO2 hvo SRT CMP
 go_loopw [16] (fun i wr => ∃ (j : Nat) (mm : SM), j ≤ n ∧ i = .int .i64 j ∧ ErsS p c w wr (.slice ao n cap) xs k R j mm) (fun i _ => n - (intOf i).toNat)
 case atStart => exact ⟨0, m, by omega, rfl, HST.out⟩
 case round =>
   clear HST
   obtain ⟨j, mm, hj, rfl, hS⟩ := hrel
   have HS := Lib.hid hS
   clear hS
   by_cases hlt : j < n
   · obtain ⟨b, hb1, hb2⟩ := HAT.out j hlt
     obtain ⟨ao2, cap2, g2, off2, hv2, hc2⟩ := HS.out.row.form
     obtain ⟨hao, hcell⟩ := hc2 j (by rw [HN.out]; exact hlt)
     simp only [Value.slice.injEq] at hv2
     obtain ⟨rfl, -, -⟩ := hv2
     subst hao
     rw [hb1] at hcell
     have hjl : j < xs.length := by rw [HN.out]; exact hlt
     have hdrop : xs.drop j = (b : Int) :: xs.drop (j + 1) := by
       rw [List.drop_eq_getElem_cons hjl]
       rw [List.getD_eq_getElem?_getD, List.getElem?_eq_getElem hjl, Option.getD_some] at hb1
       rw [hb1]
     have hstep : R = if mm.ro then (0, mm) else if hasS c (b : Int) = false ∨ badB c mm b = true then eraA c (xs.drop (j + 1)) mm else if eraE c mm b ≠ 0 ∧ eraE c mm b ≠ 13 then (eraE c mm b, eraM c mm b) else eraA c (xs.drop (j + 1)) (eraM c mm b) := by
       rw [← HS.out.eq, hdrop, eraA, Int.toNat_natCast]
     have hhas : hasS c (b : Int) = true := by unfold hasS; simp; omega
     have HA := has18 HS.out.st (b : Int)
     rw [hhas] at HA hstep
     have IB := fun wx (hx : wr.grownBy wx none) => isBad18 (HS.out.st.ext ok hx) ok hb2
     have hj64 : j ≤ 64 := by omega
     have hcn := HS.out.wf.cn
     have ER := fun wx (hx : wr.grownBy wx none) => erase18 (HS.out.st.ext ok hx) ok hcn (Cnt.mono18 (cnt_ers (S := c.S) (zs := c.zs) hcn c.who (c.ph b)) (by omega)) (by omega) hs hb2
     have c11 := HS.out.st.cells.2.2.2.2.2.2.2.2.2.2
     have HWF := Lib.hid (wf_era HS.out.wf b)
     obtain ⟨ro, hro⟩ : ∃ z, mm.ro = z := ⟨_, rfl⟩
     rw [hro] at c11 hstep
     obtain ⟨y, hy⟩ : ∃ z, badB c mm b = z := ⟨_, rfl⟩
     rw [hy] at hstep
     have IB2 : ∀ wx, wr.grownBy wx none → Calls Tryz.prog 66 #[.pointer (some ⟨p.sb, 0, none⟩), .int .i64 (b : Int)] wx fun e w' => e = .returned (.bool y) ∧ wx.grownBy w' none := fun wx hx => by rw [← hy]; exact IB wx hx
     obtain ⟨er, her⟩ : ∃ z, eraE c mm b = z := ⟨_, rfl⟩
     obtain ⟨m1, hm1⟩ : ∃ z, eraM c mm b = z := ⟨_, rfl⟩
     rw [her, hm1] at ER hstep
     rw [hm1] at HWF
     have HSTEP := Lib.hid hstep
     clear hstep hdrop hhas IB hro hy her hm1 hcn hc2 hb1 hjl
     have HE0 := Lib.hid (Ext.refl wr)
     cases ro
     · cases y
       · by_cases h0 : er = 0
         · have h0' : (er != 0) = false := by simp [h0]
           have H0 := Lib.hid h0
           clear h0
           go_wp2_with (first
             | (go_at_call 34; refine HA.mono ?_; rintro e w4 ⟨rfl, rfl⟩)
             | (go_at_call 66; refine (IB2 _ HE0.out).mono ?_; rintro e w5 ⟨rfl, hg5⟩; have HG5 := Lib.hid hg5; clear hg5)
             | (go_at_call 70; refine (ER _ HG5.out).mono ?_; rintro e w6 ⟨rfl, hA6, hk6⟩; have HA6 := Lib.hid (And.intro hA6 hk6); clear hA6 hk6))
           go_roundw
           case rel =>
             have hkk := (Keeps.ext (T := tS p c) HG5.out).trans HA6.out.2
             exact ⟨j + 1, m1, by omega, by go_num, HA6.out.1, HS.out.row.keeps18 hkk HVO.out, HS.out.kp.trans hkk, by have := HWF.out; rw [show k + 6 * ((j + 1 : Nat) : Int) = k + 6 * (j : Int) + 6 by omega]; exact this, by rw [HSTEP.out, if_neg (by decide), if_neg (by simp), if_neg (by rw [H0.out]; simp)]⟩
           case measure => simp [intOf]; omega
         · have h0' : (er != 0) = true := by simpa using h0
           by_cases h1 : er = 13
           · have h1' : (er != 13) = false := by simp [h1]
             have H1 := Lib.hid h1
             clear h0 h1
             go_wp2_with (first
               | (go_at_call 34; refine HA.mono ?_; rintro e w4 ⟨rfl, rfl⟩)
               | (go_at_call 66; refine (IB2 _ HE0.out).mono ?_; rintro e w5 ⟨rfl, hg5⟩; have HG5 := Lib.hid hg5; clear hg5)
               | (go_at_call 70; refine (ER _ HG5.out).mono ?_; rintro e w6 ⟨rfl, hA6, hk6⟩; have HA6 := Lib.hid (And.intro hA6 hk6); clear hA6 hk6))
             go_roundw
             case rel =>
               have hkk := (Keeps.ext (T := tS p c) HG5.out).trans HA6.out.2
               exact ⟨j + 1, m1, by omega, by go_num, HA6.out.1, HS.out.row.keeps18 hkk HVO.out, HS.out.kp.trans hkk, by have := HWF.out; rw [show k + 6 * ((j + 1 : Nat) : Int) = k + 6 * (j : Int) + 6 by omega]; exact this, by rw [HSTEP.out, if_neg (by decide), if_neg (by simp), if_neg (by rw [H1.out]; simp)]⟩
             case measure => simp [intOf]; omega
           · have h1' : (er != 13) = true := by simpa using h1
             have H1 := Lib.hid (And.intro h0 h1)
             clear h0 h1
             go_wp2_with (first
               | (go_at_call 34; refine HA.mono ?_; rintro e w4 ⟨rfl, rfl⟩)
               | (go_at_call 66; refine (IB2 _ HE0.out).mono ?_; rintro e w5 ⟨rfl, hg5⟩; have HG5 := Lib.hid hg5; clear hg5)
               | (go_at_call 70; refine (ER _ HG5.out).mono ?_; rintro e w6 ⟨rfl, hA6, hk6⟩; have HA6 := Lib.hid (And.intro hA6 hk6); clear hA6 hk6))
             go_ret
             have hq : R = (er, m1) := by rw [HSTEP.out, if_neg (by decide), if_neg (by simp), if_pos H1.out]
             exact ⟨by rw [hq]; rfl, by rw [hq]; exact HA6.out.1, HS.out.kp.trans ((Keeps.ext (T := tS p c) HG5.out).trans HA6.out.2)⟩
       · go_wp2_with (first
           | (go_at_call 34; refine HA.mono ?_; rintro e w4 ⟨rfl, rfl⟩)
           | (go_at_call 66; refine (IB2 _ HE0.out).mono ?_; rintro e w5 ⟨rfl, hg5⟩; have HG5 := Lib.hid hg5; clear hg5))
         go_roundw
         case rel =>
           have hkk := Keeps.ext (T := tS p c) HG5.out
           exact ⟨j + 1, mm, by omega, by go_num, HS.out.st.ext ok HG5.out, HS.out.row.keeps18 hkk HVO.out, HS.out.kp.trans hkk, HS.out.wf.mono (by omega), by rw [HSTEP.out]; simp⟩
         case measure => simp [intOf]; omega
     · go_wp2
       go_ret
       have hq : R = (0, mm) := by rw [HSTEP.out]; simp
       exact ⟨by rw [hq]; rfl, by rw [hq]; exact HS.out.st, HS.out.kp⟩
   · obtain rfl : j = n := by omega
     have hq : R = (0, mm) := by
       rw [← HS.out.eq, List.drop_eq_nil_of_le (by rw [HN.out]; omega)]
       rfl
     have HQ := Lib.hid hq
     clear hq
     go_wp2
     go_ret
     exact ⟨by rw [HQ.out]; rfl, by rw [HQ.out]; exact HS.out.st, HS.out.kp⟩
end
end Go.Proofs.YtdnpdoipipfkoaaGreatDoor

namespace Go.Proofs.YtdnpdoipipfkoaaGreatDoor
set_option linter.unusedVariables false
set_option linter.unusedSimpArgs false
set_option linter.unusedVariables false
set_option linter.unusedSimpArgs false
set_option maxRecDepth 100000
open Go.RowKit
def SP.withTab (p : SP) (t : Nat) : SP := ⟨p.sb, t, p.bb, p.V, p.bv⟩
section
variable {w w4 : World} {p : SP} {c : SC} {m : SM} {t : Nat}
theorem StAt.newTab (h : StAt w p c m) (ok : StOk p c) (hV : ∀ j, j < 4 → ∀ k, (p.V j).ownBlock = some k → k < w.heap.size) (hv : ∀ k, p.bv.ownBlock = some k → k < w.heap.size) (ht : w.heap.size ≤ t) (hT : TabA w4 t c.bl.length c.S.pg []) (hg : w.grownBy w4 none) :
   StOk (p.withTab t) c ∧ StAt (w4.setCell ⟨p.sb, 7, none⟩ (.pointer (some ⟨t, 0, none⟩))) (p.withTab t) c { m with rs := [] } ∧ Keeps (tS p c) w (w4.setCell ⟨p.sb, 7, none⟩ (.pointer (some ⟨t, 0, none⟩))) := by
 have h4 := h.ext ok hg
 have l1 := h.bk.lt
 have l2 := bufLt _ _ _ h.bf
 have hf := h.nd.fresh ht
 have hG : w4.grownBy (w4.setCell ⟨p.sb, 7, none⟩ (.pointer (some ⟨t, 0, none⟩))) (some p.sb) := gb_set (gb_refl w4 _) _ _
 refine ⟨⟨ok.R, ok.zl, ok.t0, ok.ts, hf, ok.tu, ok.s0, ?_, ok.v0, ?_, ok.su, ?_, fun j hj k hk => ?_, fun k hk => ?_, ok.bl, ok.blr⟩, ⟨?_, ?_, ?_, ?_, ?_, ?_⟩, ?_⟩
 · show t ≠ 0
   omega
 · show p.sb ≠ t
   omega
 · show t ≠ p.bb
   omega
 · have h1 := ok.vV j hj k hk
   have h2 := hV j hj k hk
   exact ⟨h1.1, by show k ≠ t; omega, h1.2.2⟩
 · have h1 := ok.vb k hk
   have h2 := hv k hk
   exact ⟨h1.1, h1.2.1, by show k ≠ t; omega, h1.2.2.2⟩
 · exact h4.nd.other18 ok.R hG ok.ts (stC_nobyte h4.vform h4.bk) (fun j hj k hk => (ok.vV j hj k hk).1)
 · exact hT.kept hG (fun e => by injection e with e; omega)
 · exact bufStays _ _ _ _ h4.bf (hG.block _ (bufLt _ _ _ h4.bf) (fun e => by injection e with e; exact ok.su e.symm))
 · exact h4.bk.set 7 (.pointer (some ⟨t, 0, none⟩))
 · exact h4.iv.kept hG (fun k hk e => by injection e with e; exact (ok.vb k hk).2.1 e)
 · exact h4.fl.kept hG (fun e => by injection e with e; exact ok.s0 e.symm)
 · exact (Keeps.ext hg).trans (Keeps.own18 hG (.inl rfl))
end
theorem rst_step (c : SC) (l : List (Int × Int × Int)) (s : Int × Int × Int) (rs : List R14) : rstR c (s :: l) rs = rstR c l (setR c.bl.length c.S.pg rs s.1 s.2.1 s.2.2) := rfl
end Go.Proofs.YtdnpdoipipfkoaaGreatDoor

namespace Go.Proofs.YtdnpdoipipfkoaaGreatDoor
set_option linter.unusedVariables false
set_option linter.unusedSimpArgs false
set_option linter.unusedVariables false
set_option linter.unusedSimpArgs false
set_option maxRecDepth 100000
open Go.RowKit
section
variable {w w' : World} {p : SP} {c : SC} {m : SM}
set_option maxHeartbeats 1600000 in
theorem restore18_bad (h : StAt w p c m) (ok : StOk p c) {k : Int} (wf : Wf c m k) (hs : -9223372036854775000 ≤ c.sp ∧ c.sp ≤ 9223372036854775000) (hk : k < 1152921504600000000) (so go : Option Addr) (sn sc gn gc : Nat) (q : Int) (l : List Nat) (hgo : Ints w (.slice go gn gc) (l.map fun b : Nat => (b : Int))) (hl : l.Pairwise (· < ·)) (hb : ∀ b ∈ l, b < c.bl.length)
   (he : (eraA c (l.map fun b : Nat => (b : Int)) m).1 ≠ 0) :
   Calls Tryz.prog 38 #[.pointer (some ⟨p.sb, 0, none⟩), .agg (hldC so sn sc go gn gc q)] w (Gs p c (.int .i64 (eraA c (l.map fun b : Nat => (b : Int)) m).1) (eraA c (l.map fun b : Nat => (b : Int)) m).2 w) := by
 have hE0 := World.grownBy_alloc w (.cells (hldC so sn sc go gn gc q) 99) none
 have hB0 := Blk.new w 99 (hldC so sn sc go gn gc q)
 have c1 := hB0.cell 1
 replace c1 := c1.trans (show (hldC so sn sc go gn gc q)[1]? = some (.slice go gn gc) from rfl)
 have EA := eraseAll18 (h.ext ok hE0) ok wf hs hk (.slice go gn gc) l (hgo.kept hE0 (by simp)) hl hb
 have HE0 := Lib.hid hE0
 obtain ⟨er, her⟩ : ∃ z, (eraA c (l.map fun b : Nat => (b : Int)) m).1 = z := ⟨_, rfl⟩
 obtain ⟨m1, hm1⟩ : ∃ z, (eraA c (l.map fun b : Nat => (b : Int)) m).2 = z := ⟨_, rfl⟩
 rw [her] at he EA ⊢
 rw [hm1] at EA ⊢
 have he' : (er != 0) = true := by simpa using he
 clear h wf hgo hl hb he her hm1 hE0 hB0
 go_enter Tryz.func38, Tryz.ntmps38
 go_wp2_with (go_at_call 76; refine EA.mono ?_; rintro e w2 ⟨rfl, hA2, hk2⟩)
 go_ret
 exact ⟨rfl, hA2, (Keeps.ext HE0.out).trans hk2⟩
end
end Go.Proofs.YtdnpdoipipfkoaaGreatDoor

namespace Go.Proofs.YtdnpdoipipfkoaaGreatDoor
set_option linter.unusedVariables false
set_option linter.unusedSimpArgs false
set_option linter.unusedVariables false
set_option linter.unusedSimpArgs false
set_option maxRecDepth 100000
open Go.RowKit
section
variable {ops : Array Oper} {rest : List Oper} {o : Oper} {a : Act} {w : World} {Q : Exit → Act → World → Prop}
theorem spt_store (x y : Operand) (ho : o.op = .store 144 x y) {g : Nat} (hx : a.eval x = .pointer (some ⟨g, 0, none⟩)) {s : Int × Int × Int} (hy : a.eval y = .agg (spotC17 s)) {old : Array Value} (hg : Blk w g 144 old) (hold : old.size = 3) (hwt : Region.wanted o (yielded ops a.tmps) = true)
   (h : ∀ w', Blk w' g 144 (spotC17 s) → w.grownBy w' (some g) → w'.heap.size = w.heap.size → wpList Tryz.prog ops Q rest (a.put o.dst undef) w') : wpList Tryz.prog ops Q (o :: rest) a w :=
 wpList_store_part hwt _ x y ho g 0 3 _ hx hy _ old _ hg rfl Tryz.sizeSpt (by omega) (by simp [spotC17, Value.oneCell']) (by
   have h1 : (spotC17 s).toList.length = 3 := rfl
   rw [h1, List.drop_of_length_le (by simp; omega)]
   simp) h
end
structure SpR (w : World) (so : Option Addr) (sn : Nat) (spots : List (Int × Int × Int)) : Prop where
 len : spots.length = sn
 at' : ∀ i, i < sn → ∃ b off, so = some ⟨b, off, none⟩ ∧ w.rangeAt b (off + i * 3) (spotC17 (spots.getD i (0, 0, 0))).toList
theorem SpR.block {w w' : World} {so : Option Addr} {sn : Nat} {spots : List (Int × Int × Int)} (h : SpR w so sn spots) (hb : ∀ b off, so = some ⟨b, off, none⟩ → w'.heap[b]? = w.heap[b]?) : SpR w' so sn spots :=
 ⟨h.len, fun i hi => by
   obtain ⟨b, off, h1, h2⟩ := h.at' i hi
   exact ⟨b, off, h1, fun j u hj => (World.cell?_of_block (hb b off h1)).trans (h2 j u hj)⟩⟩
end Go.Proofs.YtdnpdoipipfkoaaGreatDoor

namespace Go.Proofs.YtdnpdoipipfkoaaGreatDoor
set_option linter.unusedVariables false
set_option linter.unusedSimpArgs false
set_option linter.unusedVariables false
set_option linter.unusedSimpArgs false
set_option maxRecDepth 100000
open Go.RowKit
theorem Keeps.turn {T : Nat → Nat} {w w1 w2 : World} {t : Nat} (h : Keeps T w w1) (hg : w1.grownBy w2 (some t)) (ht : w.heap.size ≤ t) : Keeps T w w2 :=
 ⟨hg.os.trans h.os, hg.tape.trans h.tape, hg.output.trans h.output, Nat.le_trans h.size hg.size, fun k hk h0 => (hg.block k (Nat.lt_of_lt_of_le hk h.size) (fun e => by injection e with e; omega)).trans (h.block k hk h0)⟩
structure RsL (p : SP) (c : SC) (m : SM) (w wr : World) (t : Nat) (spots : List (Int × Int × Int)) (j : Nat) (rs : List R14) : Prop where
 st : StAt wr (p.withTab t) c { m with rs := rs }
 kp : Keeps (tS p c) w wr
 eq : rstR c spots [] = rstR c (spots.drop j) rs
section
variable {w w' : World} {p : SP} {c : SC} {m : SM}
set_option maxHeartbeats 1600000 in
theorem restore18_ok (h : StAt w p c m) (ok : StOk p c) {k : Int} (wf : Wf c m k) (hs : -9223372036854775000 ≤ c.sp ∧ c.sp ≤ 9223372036854775000) (hk : k < 1152921504600000000) (hl1 : 1 ≤ c.bl.length) (hV : ∀ j, j < 4 → ∀ k, (p.V j).ownBlock = some k → k < w.heap.size) (hv : ∀ k, p.bv.ownBlock = some k → k < w.heap.size) (so go : Option Addr) (sn sc gn gc : Nat) (q : Int) (l : List Nat) (spots : List (Int × Int × Int)) (hsp : SpR w so sn spots) (hsn : sn ≤ 64) (hso : ∀ b off, so = some ⟨b, off, none⟩ → tS p c b = 0 ∧ b < w.heap.size) (hgo : Ints w (.slice go gn gc) (l.map fun b : Nat => (b : Int))) (hl : l.Pairwise (· < ·)) (hb : ∀ b ∈ l, b < c.bl.length)
   (he : (eraA c (l.map fun b : Nat => (b : Int)) m).1 = 0) :
   Calls Tryz.prog 38 #[.pointer (some ⟨p.sb, 0, none⟩), .agg (hldC so sn sc go gn gc q)] w fun e w' => e = .returned (.int .i64 0) ∧ ∃ t, w.heap.size ≤ t ∧ StOk (p.withTab t) c ∧ Keeps (tS p c) w w' ∧ StAt w' (p.withTab t) c { (eraA c (l.map fun b : Nat => (b : Int)) m).2 with rs := rstR c spots [], sq := q, fr := begN c (eraA c (l.map fun b : Nat => (b : Int)) m).2 } := by
 have hE0 := World.grownBy_alloc w (.cells (hldC so sn sc go gn gc q) 99) none
 have hB0 := Blk.new w 99 (hldC so sn sc go gn gc q)
 have c1 := hB0.cell 1
 replace c1 := c1.trans (show (hldC so sn sc go gn gc q)[1]? = some (.slice go gn gc) from rfl)
 have EA := eraseAll18 (h.ext ok hE0) ok wf hs hk (.slice go gn gc) l (hgo.kept hE0 (by simp)) hl hb
 obtain ⟨er, her⟩ : ∃ z, (eraA c (l.map fun b : Nat => (b : Int)) m).1 = z := ⟨_, rfl⟩
 obtain ⟨m1, hm1⟩ : ∃ z, (eraA c (l.map fun b : Nat => (b : Int)) m).2 = z := ⟨_, rfl⟩
 rw [her] at he EA
 rw [hm1] at EA ⊢
 have he' : (er != 0) = false := by simp [he]
 have hFr := h.fresh (k := w.heap.size) (Nat.le_refl _)
 have HE0 := Lib.hid (And.intro hE0 (And.intro hB0 (And.intro he hFr)))
 have hbl := ok.bl
 have hbd := ok.R.bds
 clear h wf hgo hl hb he her hm1 hE0 hB0 hFr
 go_enter Tryz.func38, Tryz.ntmps38
 go_upto_region 6 with (first
   | (go_at_call 76; refine EA.mono ?_; rintro e w2 ⟨rfl, hA2, hk2⟩))
 obtain ⟨ao, cap, g, off, hve, _⟩ := hA2.iv.form
 have hd2 := hA2.ext ok (Ext.drew w2)
 have c6 := hd2.cells.2.2.2.2.2.1
 rw [hve] at c6
 have P := pages18 hd2 ok
 have HA2 := Lib.hid (And.intro hA2 (And.intro hk2 hd2))
 have TN := fun wx => new14_ok c.bl.length c.S.pg wx ⟨by omega, by omega, by omega, by omega⟩
 obtain ⟨n, hn⟩ : ∃ n, c.bl.length = n := ⟨_, rfl⟩
 rw [hn] at c6 TN
 clear EA hA2 hk2 hd2 c1 hbl hbd
 refine region_line [(0, true), (1, true), (2, true), (3, true), (4, true), (5, true), (6, true), (7, true), (8, false), (9, false), (10, true), (11, true), (12, false)] (fun y => y.cell? ⟨p.sb, 6, none⟩ = some (.slice ao n cap)) (by kernel_rfl) (by kernel_rfl) (fun _ _ _ d _ h => by cases d <;> exact h) c6 ?_
 repeat (refine line_read (a' := ?_) rfl (by kernel_rfl) (by kernel_rfl) c6 (fun y hy K hK => ?_) ?_; rotate_left; · go_wp2; exact hK)
 refine line_act (by rfl) (fun K hK => ?_)
 go_wp2_with (go_at_call 68; refine P.mono ?_; rintro e w3 ⟨rfl, hg3⟩)
 have hS3 : w3.cell? ⟨p.sb, 6, none⟩ = some (.slice ao n cap) := hg3.cell c6 (by simp)
 have HG3 := Lib.hid (ext_trans (Ext.drew w2) hg3)
 refine hK _ _ (fun y => y.cell? ⟨p.sb, 6, none⟩ = some (.slice ao n cap)) hS3 (fun _ h => h) ?_
 clear hK K hg3
 refine line_act (by rfl) (fun K hK => ?_)
 go_wp2_with (go_at_call 53; refine (TN _).mono ?_; rintro e w4 ⟨t4, rfl, hA4, ht4, hg4⟩)
 have hS4 : w4.cell? ⟨p.sb, 6, none⟩ = some (.slice ao n cap) := hg4.cell hS3 (by simp)
 have HG4 := Lib.hid (And.intro hA4 (And.intro ht4 (ext_trans HG3.out hg4)))
 refine hK _ _ (fun y => y.cell? ⟨p.sb, 6, none⟩ = some (.slice ao n cap)) hS4 (fun _ h => h) ?_
 clear hK K hg4 hA4 ht4
 repeat (refine line_read (a' := ?_) rfl (by kernel_rfl) (by kernel_rfl) hS4 (fun y hy K hK => ?_) ?_; rotate_left; · go_wp2; exact hK)
 have h4 := HA2.out.1.ext ok HG4.out.2.2
 have c7 := h4.cells.2.2.2.2.2.2.1
 have f7 := h4.bk.free 7
 refine line_act (by rfl) (fun K hK => ?_)
 go_wp2
 have NT := HA2.out.1.newTab ok (t := t4) (w4 := w4) (fun j hj k hk => by have h1 := hV j hj k hk; have h2 := HE0.out.1.size; have h3 := HA2.out.2.1.size; omega) (fun k hk => by have h1 := hv k hk; have h2 := HE0.out.1.size; have h3 := HA2.out.2.1.size; omega) (by have h1 := HG3.out.size; have h2 := HG4.out.2.1; omega) (by rw [hn]; exact HG4.out.1) HG4.out.2.2
 have hS5 : (w4.setCell ⟨p.sb, 7, none⟩ (.pointer (some ⟨t4, 0, none⟩))).cell? ⟨p.sb, 6, none⟩ = some (.slice ao n cap) := by
   have := NT.2.1.cells.2.2.2.2.2.1
   rw [show (p.withTab t4).bv = p.bv from rfl, hve, hn] at this
   exact this
 refine hK _ _ (fun y => y.cell? ⟨p.sb, 6, none⟩ = some (.slice ao n cap)) hS5 (fun _ h => h) ?_
 clear hK K c7 f7 h4
 refine line_end ?_
 have HNT := Lib.hid NT
 clear NT
 have hsA : w.heap.size < (w.alloc (.cells (hldC so sn sc go gn gc q) 99)).heap.size := by simp
 have hKA : Keeps (tS p c) (w.alloc (.cells (hldC so sn sc go gn gc q) 99)) (w4.setCell ⟨p.sb, 7, none⟩ (.pointer (some ⟨t4, 0, none⟩))) := HA2.out.2.1.trans HNT.out.2.2
 have hBx : ∀ wr, Keeps (tS p c) (w.alloc (.cells (hldC so sn sc go gn gc q) 99)) wr → Blk wr w.heap.size 99 (hldC so sn sc go gn gc q) := fun wr hk => (hk.block _ hsA HE0.out.2.2.2).trans HE0.out.2.1
 have htA : (w.alloc (.cells (hldC so sn sc go gn gc q) 99)).heap.size ≤ t4 := by
   have h1 := HA2.out.2.1.size
   have h2 := HG3.out.size
   have h3 := HG4.out.2.1
   omega
 have hSA : ∀ wr, Keeps (tS p c) (w.alloc (.cells (hldC so sn sc go gn gc q) 99)) wr → SpR wr so sn spots := fun wr hk => hsp.block (fun b off e => (hk.block b (by have := (hso b off e).2; omega) (hso b off e).1).trans (HE0.out.1.block b (hso b off e).2 (by simp)))
 obtain ⟨wA, hwA⟩ : ∃ y, w.alloc (.cells (hldC so sn sc go gn gc q) 99) = y := ⟨_, rfl⟩
 rw [hwA] at hKA hBx htA hSA HE0
 have HX := Lib.hid (And.intro hBx (And.intro htA hSA))
 have HS0 := Lib.hid (show RsL p c m1 wA (w4.setCell ⟨p.sb, 7, none⟩ (.pointer (some ⟨t4, 0, none⟩))) t4 spots 0 [] from ⟨HNT.out.2.1, hKA, rfl⟩)
 have b0 := (hBx _ hKA).cell 0
 replace b0 := b0.trans (show (hldC so sn sc go gn gc q)[0]? = some (.slice so sn sc) from rfl)
 have hlen := hsp.len
 clear hS4 hS5 hwA hsA hKA hBx htA hSA hsp hso hV hv c6 P TN
 obtain ⟨w5, hw5⟩ : ∃ y, w4.setCell ⟨p.sb, 7, none⟩ (.pointer (some ⟨t4, 0, none⟩)) = y := ⟨_, rfl⟩
 rw [hw5] at HS0 b0 ⊢
 have HL := Lib.hid hlen
 have HOK := HNT.out.1
 clear hw5 HNT hlen
 go_wp2
 clear b0
 go_loopw [32] (fun i wr => ∃ (j : Nat) (rs : List R14), j ≤ sn ∧ i = .int .i64 j ∧ RsL p c m1 wA wr t4 spots j rs) (fun i _ => sn - (intOf i).toNat)
 case atStart => exact ⟨0, [], by omega, rfl, HS0.out⟩
 case round =>
   clear HS0
   obtain ⟨j, rs, hj, rfl, hS⟩ := hrel
   have HS := Lib.hid hS
   clear hS
   by_cases hlt : j < sn
   · obtain ⟨g, off, rfl, hr⟩ := (HX.out.2.2 _ HS.out.kp).at' j hlt
     obtain ⟨s, hs⟩ : ∃ s, spots.getD j (0, 0, 0) = s := ⟨_, rfl⟩
     rw [hs] at hr
     have hjl : j < spots.length := by rw [HL.out]; exact hlt
     have hdrop : spots.drop j = s :: spots.drop (j + 1) := by
       rw [List.drop_eq_getElem_cons hjl]
       rw [List.getD_eq_getElem?_getD, List.getElem?_eq_getElem hjl, Option.getD_some] at hs
       rw [hs]
     have HD := Lib.hid hdrop
     have hBn := Blk.new wr 144 #[.int .i64 0, .int .i64 0, .int .i64 0]
     clear hs hjl hdrop
     obtain ⟨fb, hfb⟩ : ∃ z, wr.heap.size = z := ⟨_, rfl⟩
     rw [hfb] at hBn
     have HFB := Lib.hid hfb
     go_upto_region 10 with (first
       | (refine spt_load0 rfl _ rfl rfl hr ?_)
       | (refine spt_store _ _ rfl rfl rfl hBn rfl rfl ?_; intro w6 hb6 hg6 hs6; have hE6 := g17_new (World.grownBy_alloc wr _ none) hg6 (by omega); have HE6 := Lib.hid hE6; clear hBn hg6 hs6 hE6))
     clear hr hfb
     have st6 := HS.out.st.ext HOK (ext_trans HE6.out (Ext.drew w6))
     have hS6 : w6.drew.cell? ⟨p.sb, 7, none⟩ = some (.pointer (some ⟨t4, 0, none⟩)) ∧ w6.drew.cell? ⟨fb, 0, none⟩ = some (.int .i64 s.1) ∧ w6.drew.cell? ⟨fb, 1, none⟩ = some (.int .i64 s.2.1) ∧ w6.drew.cell? ⟨fb, 2, none⟩ = some (.int .i64 s.2.2) := ⟨st6.cells.2.2.2.2.2.2.1, hb6.cell 0, hb6.cell 1, hb6.cell 2⟩
     have SE := tabSet st6.tb s.1 s.2.1 s.2.2 (by have := st6.tb.len; omega)
     have HST6 := Lib.hid st6
     clear st6 hb6
     refine region_line [(0, true), (1, true), (2, true), (3, true), (4, true), (5, true), (6, true), (7, true), (8, true), (9, true), (10, false)] (fun y => y.cell? ⟨p.sb, 7, none⟩ = some (.pointer (some ⟨t4, 0, none⟩)) ∧ y.cell? ⟨fb, 0, none⟩ = some (.int .i64 s.1) ∧ y.cell? ⟨fb, 1, none⟩ = some (.int .i64 s.2.1) ∧ y.cell? ⟨fb, 2, none⟩ = some (.int .i64 s.2.2)) (by kernel_rfl) (by kernel_rfl) (fun _ _ _ d _ h => by cases d <;> exact h) hS6 ?_
     repeat (refine line_read (a' := ?_) rfl (by kernel_rfl) (by kernel_rfl) hS6 (fun y hy K hK => ?_) ?_; rotate_left; · obtain ⟨c7, d0, d1, d2⟩ := hy; go_wp2; exact hK)
     refine line_act (by rfl) (fun K hK => ?_)
     go_wp2_with (go_at_call 77; refine SE.mono ?_; rintro e w8 ⟨rfl, hA8, hg8⟩)
     have st8 := HST6.out.tab HOK hA8 hg8
     have kp8 := (HS.out.kp.trans (Keeps.ext (ext_trans HE6.out (Ext.drew w6)))).turn hg8 HX.out.2.1
     have ht4 := HS.out.st.tb.lt
     have hS8 : w8.cell? ⟨p.sb, 7, none⟩ = some (.pointer (some ⟨t4, 0, none⟩)) ∧ w8.cell? ⟨fb, 0, none⟩ = some (.int .i64 s.1) ∧ w8.cell? ⟨fb, 1, none⟩ = some (.int .i64 s.2.1) ∧ w8.cell? ⟨fb, 2, none⟩ = some (.int .i64 s.2.2) := by
       have hne : some fb ≠ some (p.withTab t4).tb := fun e => by
         injection e with e
         have h1 := HFB.out
         omega
       exact ⟨st8.cells.2.2.2.2.2.2.1, hg8.cell hS6.2.1 hne, hg8.cell hS6.2.2.1 hne, hg8.cell hS6.2.2.2 hne⟩
     have H8 := Lib.hid (And.intro st8 kp8)
     refine hK _ _ (fun y => y.cell? ⟨p.sb, 7, none⟩ = some (.pointer (some ⟨t4, 0, none⟩)) ∧ y.cell? ⟨fb, 0, none⟩ = some (.int .i64 s.1) ∧ y.cell? ⟨fb, 1, none⟩ = some (.int .i64 s.2.1) ∧ y.cell? ⟨fb, 2, none⟩ = some (.int .i64 s.2.2)) hS8 (fun _ h => h) ?_
     clear hK K st8 kp8 ht4 hA8 hg8
     refine line_end ?_
     go_wp2
     go_roundw
     case rel => exact ⟨j + 1, _, by omega, by go_num, H8.out.1, H8.out.2, by rw [HS.out.eq, HD.out, rst_step]⟩
     case measure => simp [intOf]; omega
   · obtain rfl : j = sn := by omega
     have hq : rstR c spots [] = rs := by
       rw [HS.out.eq, List.drop_eq_nil_of_le (by rw [HL.out]; exact Nat.le_refl _)]
       rfl
     have hB := HX.out.1 _ HS.out.kp
     have b2 := hB.cell 2
     replace b2 := b2.trans (show (hldC so j sc go gn gc q)[2]? = some (.int .i64 q) from rfl)
     have st := HS.out.st
     have c9 : wr.cell? ⟨p.sb, 9, none⟩ = some (.int .i64 m1.sq) := st.cells.2.2.2.2.2.2.2.2.1
     have f9 : wr.frozen? ⟨p.sb, 9, none⟩ = false := st.bk.free 9
     have st2 : StAt (wr.setCell ⟨p.sb, 9, none⟩ (.int .i64 q)) (p.withTab t4) c { m1 with rs := rs, sq := q } := st.setSq HOK q
     have BG : Calls Tryz.prog 78 #[.pointer (some ⟨p.sb, 0, none⟩)] (wr.setCell ⟨p.sb, 9, none⟩ (.int .i64 q)) fun e w' => e = .returned (.int .i64 (begN c m1)) ∧ (wr.setCell ⟨p.sb, 9, none⟩ (.int .i64 q)).grownBy w' none := begun18 (p := p.withTab t4) (m := { m1 with rs := rs, sq := q }) st2 HOK
     have HQ := Lib.hid (And.intro hq (And.intro st st2))
     clear hq st st2 hB
     go_upto_region 13 with fail
     obtain ⟨w6, hw6⟩ : ∃ y, wr.setCell ⟨p.sb, 9, none⟩ (.int .i64 q) = y := ⟨_, rfl⟩
     have hg6 : wr.grownBy (wr.setCell ⟨p.sb, 9, none⟩ (.int .i64 q)) (some p.sb) := gb_set (gb_refl wr _) _ _
     rw [hw6] at BG HQ hg6 ⊢
     have HG6 := Lib.hid hg6
     clear hw6 c9 f9 b2 hg6
     go_wp2_with (go_at_call 78; refine BG.mono ?_; rintro e w7 ⟨rfl, hg7⟩; have st7 := HQ.out.2.2.ext HOK hg7; have c10 : w7.cell? ⟨p.sb, 10, none⟩ = some (.int .i64 m1.fr) := st7.cells.2.2.2.2.2.2.2.2.2.1; have f10 : w7.frozen? ⟨p.sb, 10, none⟩ = false := st7.bk.free 10; have HG7 := Lib.hid (And.intro hg7 st7); clear hg7 st7)
     go_ret
     have kp : Keeps (tS p c) wA (w7.setCell ⟨p.sb, 10, none⟩ (.int .i64 (begN c m1))) := ((HS.out.kp.trans (Keeps.own18 HG6.out (.inl rfl))).trans (Keeps.ext HG7.out.1)).trans (Keeps.own18 (gb_set (gb_refl w7 _) _ _) (.inl rfl))
     have st8 := HG7.out.2.setFr HOK (begN c m1)
     rw [HQ.out.1]
     exact ⟨rfl, t4, by have h1 := HE0.out.1.size; have h2 := HX.out.2.1; omega, HOK, (Keeps.ext HE0.out.1).trans kp, st8⟩
end
end Go.Proofs.YtdnpdoipipfkoaaGreatDoor

namespace Go.Proofs.YtdnpdoipipfkoaaGreatDoor
set_option linter.unusedVariables false
set_option linter.unusedSimpArgs false
set_option linter.unusedVariables false
set_option linter.unusedSimpArgs false
set_option maxRecDepth 100000
open Go.RowKit
section
variable {c : SC} {n n' : NS} {rs : List R14} {sq : Int}
theorem Wr.same (W : Wr c n rs sq) (hL : n'.L = n.L) (hm : n'.mr = n.mr) : Wr c n' rs sq :=
 W.less (fun b j _ h _ => ⟨by rw [← hm]; exact h, .inl (by rw [hL])⟩) (fun r _ => ⟨by rw [hm], by rw [hL]⟩)
theorem Kp.same {N : Int} (K : Kp c n rs N) (hL : n'.L = n.L) (hm : n'.mr = n.mr) : Kp c n' rs N := by
 have e : nbB c n' = nbB c n := by funext x; unfold nbB; rw [hL, hm]
 unfold Kp NBn at *
 rw [e]
 exact K
theorem Plc.same {q : Int} {d : ByteArray} (h : Plc c n rs q d) (hL : n'.L = n.L) : Plc c n' rs q d :=
 h.move (fun _ _ _ h => h.keep (fun r _ => by rw [hL])) (fun r hr => ⟨r, hr, rfl⟩)
structure Rdy (c : SC) (n : NS) (rs : List R14) (sq : Int) : Prop where
 W : Wr c n rs sq
 dn : Dns c.S n
 sm : (badN c (newM n) : Int) + sprN c (newM n) = c.sp
 mf : (badN c (newM n) : Int) ≤ n.M c.who.toNat
 sq : 0 ≤ sq
 kp : Kp c n rs (c.bl.length - c.sp - 1)
theorem SG.rdy {m : SM} (I : SG c m) (hd : Dns c.S m.n) : Rdy c m.n m.rs m.sq := ⟨I.W, hd, I.sm, I.mf, I.sq, I.kp⟩
theorem CG.rdy {m : SM} (I : CG c m) (hd : Dns c.S m.n) : Rdy c m.n m.rs m.sq := ⟨I.W, hd, I.sm, I.mf, I.sq, I.kp⟩
theorem Rdy.same (h : Rdy c n rs sq) (hL : n'.L = n.L) (hm : n'.mr = n.mr) (hM : n'.M = n.M) : Rdy c n' rs sq := by
 have e : badN c (newM n') = badN c (newM n) := by
   unfold badN badB
   rw [show (newM n').n = n' from rfl, show (newM n).n = n from rfl, hm]
 exact ⟨h.W.same hL hm, dns_L h.dn hL, by rw [e, spr_same e]; exact h.sm, by rw [e, hM]; exact h.mf, h.sq, h.kp.same hL hm⟩
end
theorem Stb.eraA {c : SC} {D : NS → Prop} (T : Stb c D) : ∀ (l : List Int) (m : SM), D m.n → D (eraA c l m).2.n
 | [], m, h => h
 | b :: l, m, h => by
   have h1 := T.era h b
   unfold Go.Proofs.YtdnpdoipipfkoaaGreatDoor.eraA
   split
   · exact h
   · split
     · exact Stb.eraA T l m h
     · split
       · exact h1
       · exact Stb.eraA T l _ h1
theorem lit_stb (c : SC) : Stb c (fun n => n.px = -1 ∧ n.off = false) := by
 have key : ∀ (n : NS) (who : Int) (sp dn : NS → NS), n.px = -1 ∧ n.off = false → (∀ s, s.px = -1 ∧ s.off = false → (sp s).px = -1 ∧ (sp s).off = false) → (∀ s, s.px = -1 ∧ s.off = false → (dn s).px = -1 ∧ (dn s).off = false) → (operS c.zs n who sp dn).px = -1 ∧ (operS c.zs n who sp dn).off = false := fun n who sp dn h h1 h2 => by
   have hs : (spendS n).px = -1 ∧ (spendS n).off = false := by
     unfold spendS
     simp only [h.1, h.2]
     decide
   have hd : (drawS c.zs (spendS n) who).px = -1 ∧ (drawS c.zs (spendS n) who).off = false := by
     unfold drawS
     split
     · exact hs
     · exact hs
   unfold operS
   split
   · exact hs
   · split
     · exact h1 _ hs
     · split
       · exact h1 _ hd
       · exact h2 _ hd
 refine ⟨fun n who i j bs dt h => ?_, fun n who i h => ?_, fun n i h => ?_⟩
 · unfold progS
   split
   · exact key _ _ _ _ h (fun s h => h) (fun s h => h)
   · exact h
 · unfold ersS
   split
   · exact key _ _ _ _ h (fun s h => h) (fun s h => h)
   · exact h
 · have hs : (spendS n).px = -1 ∧ (spendS n).off = false := by
     unfold spendS
     simp only [h.1, h.2]
     decide
   unfold markS
   split
   · split
     · exact hs
     · exact hs
   · exact h
def backS (x : Int) (n : NS) : NS := { n with px := x, off := false }
def opnR (c : SC) (n : NS) : Int × SM := (resE c (pagesR c.S n c.bl).1 (newM n), resM c (pagesR c.S n c.bl).1 (newM n))
theorem opn_D {c : SC} {D : NS → Prop} (T : Stb c D) {n : NS} (h : D n) : D (opnR c n).2.n := by
 have h1 := T.eraA (goC c (pagesR c.S n c.bl).1) (newM n) h
 show D (resM c (pagesR c.S n c.bl).1 (newM n)).n
 unfold resM
 split
 · exact h1
 · exact h1
theorem SG.same {c : SC} {m : SM} (I : SG c m) (x : Int) : SG c { m with n := backS x m.n } := by
 have e : badN c { m with n := backS x m.n } = badN c m := rfl
 refine ⟨rfl, I.W.same rfl rfl, I.sm, I.mf, I.sq, fun h => ?_, I.dead, I.kp.same rfl rfl, I.ql, I.qok⟩
 have L := I.live h
 exact ⟨L.fr, L.J⟩
end Go.Proofs.YtdnpdoipipfkoaaGreatDoor

namespace Go.Proofs.YtdnpdoipipfkoaaGreatDoor
set_option linter.unusedVariables false
set_option linter.unusedSimpArgs false
set_option linter.unusedVariables false
set_option linter.unusedSimpArgs false
set_option maxRecDepth 100000
open Go.RowKit
def cmpI (x y : Int) : Int := if x < y then -1 else if y < x then 1 else 0
theorem cmpI_pos (x y : Int) : decide (0 < cmpI x y) = decide (y < x) := by
 unfold cmpI
 split
 · rw [decide_eq_false (by omega), decide_eq_false (by omega)]
 · split
   · rw [decide_eq_true (by omega), decide_eq_true (by omega)]
   · rw [decide_eq_false (by omega), decide_eq_false (by omega)]
theorem compare17_any (x y : Int) (w : World) : Calls Tryz.prog 124 #[.int .i64 x, .int .i64 y] w fun e w' => e = .returned (.int .i64 (cmpI x y)) ∧ w = w' :=
 (Tryz.cmp_Compare_int x y w).mono fun _ _ ⟨h1, h2⟩ => ⟨h1, h2.symm⟩
theorem nextSeq1_any (f g : Fnd) (w : World) : Calls Tryz.prog 126 #[.agg (fndC f), .agg (fndC g)] w fun e w' => e = .returned (.int .i64 (cmpI f.sq g.sq)) ∧ w.grownBy w' none := by
 have hE := World.grownBy_alloc w (.cells (fndC f) 108) none
 have hE2 := World.grownBy_alloc (w.alloc (.cells (fndC f) 108)) (.cells (fndC g) 108) none
 have c1 := (FCells.of ((Blk.new w 108 (fndC f)).ext hE2)).sq
 have c2 := (FCells.of (Blk.new (w.alloc (.cells (fndC f) 108)) 108 (fndC g))).sq
 rw [show (w.alloc (.cells (fndC f) 108)).heap.size = w.heap.size + 1 by simp] at c2
 have CMP := fun wx => compare17_any f.sq g.sq wx
 obtain ⟨x, hx⟩ : ∃ z, f.sq = z := ⟨_, rfl⟩
 obtain ⟨y, hy⟩ : ∃ z, g.sq = z := ⟨_, rfl⟩
 rw [hx] at c1 CMP ⊢
 rw [hy] at c2 CMP ⊢
 obtain ⟨r, hr⟩ : ∃ z, cmpI x y = z := ⟨_, rfl⟩
 rw [hr] at CMP ⊢
 have HE := Lib.hid (ext_trans hE hE2)
 clear hE hE2 hx hy hr
 go_enter Tryz.func126, Tryz.ntmps126
 go_wp2_with (go_at_call 124; refine (CMP _).mono ?_; rintro e w3 ⟨rfl, rfl⟩)
 go_ret
 exact ⟨rfl, HE.out⟩
def MaxR (b off k gb : Nat) (f m : Fnd) (w : World) : Prop := w.rangeAt b (off + k * 10) (fndC f).toList ∧ w.rangeAt gb 0 (fndC m).toList
structure MaxS (w0 wr : World) (rb gb : Nat) (lv : Value) (L : List Fnd) (k : Nat) (m : Fnd) : Prop where
 l : RowF wr lv L
 res : Blk wr rb 108 (fndC noF)
 best : Blk wr gb 108 (fndC m)
 mem : m ∈ L
 top : ∀ f ∈ L.take k, f.sq ≤ m.sq
 r0 : w0.heap.size ≤ rb
 rg : rb < gb
 lb : ∀ k, lv.ownBlock = some k → k < w0.heap.size
 ext : w0.grownBy wr none
theorem MaxS.next {w0 wr w' : World} {rb gb : Nat} {lv : Value} {L : List Fnd} {k : Nat} {m : Fnd} (h : MaxS w0 wr rb gb lv L k m) (hE : wr.grownBy w' none) : MaxS w0 w' rb gb lv L k m :=
 ⟨h.l.ext hE, h.res.ext hE, h.best.ext hE, h.mem, h.top, h.r0, h.rg, h.lb, ext_trans h.ext hE⟩
theorem MaxS.put {w0 wr w' : World} {rb gb : Nat} {lv : Value} {L : List Fnd} {k : Nat} {m f : Fnd} (h : MaxS w0 wr rb gb lv L k m) (hf : f ∈ L) (hk : L.take (k + 1) = L.take k ++ [f]) (hlt : m.sq < f.sq) (hb : Blk w' gb 108 (fndC f)) (hg : wr.grownBy w' (some gb)) : MaxS w0 w' rb gb lv L (k + 1) f := by
 have h1 := h.r0
 have h2 := h.rg
 refine ⟨h.l.kept hg (fun q hq e => by have := h.lb q hq; injection e with e; omega), h.res.kept hg (fun e => by injection e with e; omega), hb, hf, fun g hgm => ?_, h.r0, h.rg, h.lb, g17_new h.ext hg (by omega)⟩
 rw [hk] at hgm
 rcases List.mem_append.1 hgm with q | q
 · have := h.top g q; omega
 · obtain rfl := List.mem_singleton.1 q; exact Int.le_refl _
theorem MaxS.skip {w0 wr w' : World} {rb gb : Nat} {lv : Value} {L : List Fnd} {k : Nat} {m f : Fnd} (h : MaxS w0 wr rb gb lv L k m) (hk : L.take (k + 1) = L.take k ++ [f]) (hlt : ¬ m.sq < f.sq) (hE : wr.grownBy w' none) : MaxS w0 w' rb gb lv L (k + 1) m := by
 have h1 := h.next hE
 refine ⟨h1.l, h1.res, h1.best, h1.mem, fun g hgm => ?_, h1.r0, h1.rg, h1.lb, h1.ext⟩
 rw [hk] at hgm
 rcases List.mem_append.1 hgm with q | q
 · exact h.top g q
 · obtain rfl := List.mem_singleton.1 q; omega
set_option maxHeartbeats 1600000 in
theorem maxFunc17_any (lv : Value) (L : List Fnd) (w : World) (h : RowF w lv L) (hlb : ∀ k, lv.ownBlock = some k → k < w.heap.size) (hl : L.length ≤ 1000) (h0 : 0 < L.length) :
   Calls Tryz.prog 125 #[lv, .func (.func 126) #[] #[]] w fun e w' => (∃ m, e = .returned (.agg (fndC m)) ∧ m ∈ L ∧ ∀ f ∈ L, f.sq ≤ m.sq) ∧ w.grownBy w' none := by
 have H0 := Lib.hid (And.intro h hlb)
 obtain ⟨ao, cap, hv, hc0⟩ := h
 obtain ⟨b, off, rfl, hr0⟩ := hc0 0 h0
 obtain ⟨n, hn⟩ : ∃ n, L.length = n := ⟨_, rfl⟩
 rw [hn] at hv hl h0
 subst hv
 have HN := Lib.hid hn
 have hE0 := World.grownBy_alloc w (.cells (fndC noF) 108) none
 have hE1 := World.grownBy_alloc (w.alloc (.cells (fndC noF) 108)) (.cells (fndC noF) 108) none
 have HR := Lib.hid ((Blk.new w 108 (fndC noF)).ext hE1)
 have hBn := Blk.new (w.alloc (.cells (fndC noF) 108)) 108 (fndC noF)
 have HE1 := Lib.hid (ext_trans hE0 hE1)
 have hs1 : (w.alloc (.cells (fndC noF) 108)).heap.size = w.heap.size + 1 := by simp
 rw [hs1] at hBn
 obtain ⟨m0, hm0⟩ : ∃ f, L.getD 0 noF = f := ⟨_, rfl⟩
 have hr1 : (w.alloc (.cells (fndC noF) 108)).rangeAt b off (fndC m0).toList := fun j u hj => hE0.cell (by have := hr0 j u (by rw [hm0]; exact hj); simpa using this) (by simp)
 have HM0 := Lib.hid hm0
 have hlt0 : decide (n < 1) = false := decide_eq_false (by omega)
 clear hn hlb hc0 hr0 hE0 hE1 hs1 hm0
 go_enter Tryz.func125, Tryz.ntmps125
 go_upto_region 4 with (first
   | (refine fnd_load rfl _ rfl rfl hr1 ?_)
   | (refine fnd_store _ _ rfl rfl rfl hBn rfl rfl ?_; intro w2 hb2 hg2 hs2; have HB2 := Lib.hid hb2; have HG2 := Lib.hid hg2; clear hBn hg2 hs2 hb2))
 clear hr1 hlt0
 have HS := Lib.hid (show MaxS w w2 w.heap.size (w.heap.size + 1) (.slice (some ⟨b, off, none⟩) n cap) L 1 m0 from by
   have hE2 : w.grownBy w2 none := g17_new HE1.out HG2.out (by omega)
   refine ⟨H0.out.1.ext hE2, HR.out.kept HG2.out (fun e => by injection e with e; omega), HB2.out, getD_mem17 (by rw [HN.out]; omega) HM0.out, fun f hf => ?_, Nat.le_refl _, by omega, H0.out.2, hE2⟩
   rw [take17 (by rw [HN.out]; omega) HM0.out] at hf
   obtain rfl := List.mem_singleton.1 (by simpa using hf)
   exact Int.le_refl _)
 obtain ⟨rb, hrb⟩ : ∃ z, w.heap.size = z := ⟨_, rfl⟩
 rw [hrb] at HS
 have HRB := Lib.hid hrb
 clear HB2 HG2 HR HM0 HE1
 go_wp2
 clear hrb
 go_loopw [6] (fun i wr => ∃ (k : Nat) (m : Fnd), 1 ≤ k ∧ k ≤ n ∧ i = .int .i64 k ∧ MaxS w wr rb (rb + 1) (.slice (some ⟨b, off, none⟩) n cap) L k m) (fun i _ => n - (intOf i).toNat)
 case atStart => exact ⟨1, _, by omega, by omega, rfl, HS.out⟩
 case round =>
   clear HS
   obtain ⟨k, m, hk1, hk, rfl, hS⟩ := hrel
   obtain ⟨wo, rfl⟩ : ∃ wo : World, wo = wr := ⟨_, rfl⟩
   have HS := Lib.hid hS
   clear hS
   by_cases hlt : k < n
   · obtain ⟨f, hf⟩ : ∃ f, L.getD k noF = f := ⟨_, rfl⟩
     obtain ⟨ao2, cap2, hv2, hc2⟩ := HS.out.l
     obtain ⟨b2, off2, hao, hr⟩ := hc2 k (by rw [HN.out]; exact hlt)
     simp only [Value.slice.injEq] at hv2
     obtain ⟨rfl, -, -⟩ := hv2
     simp only [Option.some.injEq, Addr.mk.injEq, and_true] at hao
     obtain ⟨rfl, rfl⟩ := hao
     rw [hf] at hr
     have HF := Lib.hid (take17 (by rw [HN.out]; exact hlt) hf)
     have HME := Lib.hid (getD_mem17 (by rw [HN.out]; exact hlt) hf)
     have hS : MaxR b off k (rb + 1) f m wo.drew := ⟨hr, HS.out.best.range17⟩
     have CMP := fun wx => nextSeq1_any f m wx
     obtain ⟨r, hrr⟩ : ∃ z, cmpI f.sq m.sq = z := ⟨_, rfl⟩
     rw [hrr] at CMP
     have hpos := cmpI_pos f.sq m.sq
     rw [hrr] at hpos
     obtain ⟨z, hz⟩ : ∃ z, decide (0 < r) = z := ⟨_, rfl⟩
     rw [hz] at hpos
     have HP := Lib.hid hpos
     clear hf hc2 hr hrr hpos
     go_upto_region 7 with fail
     refine region_line [(0, true), (1, true), (2, true), (3, true), (4, true), (5, true), (6, false), (7, true)] (MaxR b off k (rb + 1) f m) (by kernel_rfl) (by kernel_rfl) (fun _ _ _ d _ h => by cases d <;> exact h) hS ?_
     iterate 4 (refine line_read (a' := ?_) rfl (by kernel_rfl) (by kernel_rfl) hS (fun z0 hx K hK => ?_) ?_; rotate_left; · (obtain ⟨d1, d2⟩ := hx; go_wp2; exact hK))
     refine line_read (a' := ?_) rfl (by kernel_rfl) (by kernel_rfl) hS (fun z0 hx K hK => ?_) ?_
     rotate_left
     · obtain ⟨d1, d2⟩ := hx
       refine fnd_load rfl _ rfl rfl d1 ?_
       go_wp2
       exact hK
     refine line_read (a' := ?_) rfl (by kernel_rfl) (by kernel_rfl) hS (fun z0 hx K hK => ?_) ?_
     rotate_left
     · obtain ⟨d1, d2⟩ := hx
       refine fnd_load rfl _ rfl rfl d2 ?_
       go_wp2
       exact hK
     refine line_act (by rfl) (fun K hK => ?_)
     go_wp2_with (go_at_call 126; refine (CMP _).mono ?_; rintro e w3 ⟨rfl, hE3⟩; have HS3 := Lib.hid ((HS.out.next (Ext.drew wo)).next hE3); have HE3 := Lib.hid hE3; clear hE3)
     have hS3 : MaxR b off k (rb + 1) f m w3 := ⟨fun j u hj => HE3.out.cell (hS.1 j u hj) (by simp), HS3.out.best.range17⟩
     refine hK _ _ (MaxR b off k (rb + 1) f m) hS3 (fun x hx => hx) ?_
     clear hK K CMP hS
     refine line_read (a' := ?_) rfl (by kernel_rfl) (by kernel_rfl) hS3 (fun z0 hx K hK => ?_) ?_
     rotate_left
     · obtain ⟨d1, d2⟩ := hx
       go_wp2
       exact hK
     refine line_end ?_
     have hr3 := hS3.1
     have hb3 := HS3.out.best
     clear hS3
     cases z
     · clear hr3 hb3
       go_wp2
       go_roundw
       case rel => exact ⟨k + 1, m, by omega, by omega, by go_num, HS3.out.skip HF.out (of_decide_eq_false HP.out.symm) (Ext.refl _)⟩
       case measure => simp [intOf]; omega
     · go_wp2_with (first
         | (refine fnd_load rfl _ rfl rfl hr3 ?_)
         | (refine fnd_store _ _ rfl rfl rfl hb3 rfl rfl ?_; intro w4 hb4 hg4 hs4; have HS4 := Lib.hid (HS3.out.put HME.out HF.out (of_decide_eq_true HP.out.symm) hb4 hg4); clear hb4 hg4 hs4))
       go_roundw
       case rel => exact ⟨k + 1, f, by omega, by omega, by go_num, HS4.out⟩
       case measure => simp [intOf]; omega
   · obtain rfl : k = n := by omega
     have hb3 := HS.out.best
     have hr3 := HS.out.res
     go_wp2_with (first
       | (refine fnd_load rfl _ rfl rfl hb3.range17 ?_)
       | (refine fnd_store _ _ rfl rfl rfl hr3 rfl rfl ?_; intro w6 hb6 hg6 hs6))
     refine bodyPost_ret (v := .agg (fndC m)) (results_cell_row rfl _ _ rb _ _ (0, 0) _ rfl hb6 Tryz.underlying108 rfl Tryz.sizeFnd) rfl ?_
     have htop := HS.out.top
     rw [List.take_of_length_le (by rw [HN.out]; exact Nat.le_refl _)] at htop
     exact ⟨⟨m, rfl, HS.out.mem, htop⟩, g17_new HS.out.ext hg6 HS.out.r0⟩
def NxtP (L : List Fnd) (q : Int) : Prop := (L = [] ∧ q = 0) ∨ ∃ m ∈ L, q = m.sq + 1 ∧ ∀ f ∈ L, f.sq ≤ m.sq
set_option maxHeartbeats 800000 in
theorem nextSeq17_any (lv : Value) (L : List Fnd) (w : World) (h : RowF w lv L) (hlb : ∀ k, lv.ownBlock = some k → k < w.heap.size) (hl : L.length ≤ 1000) (hsq : ∀ f ∈ L, 0 ≤ f.sq ∧ f.sq ≤ 2147483647) :
   Calls Tryz.prog 88 #[lv] w fun e w' => (∃ q, e = .returned (.int .i64 q) ∧ NxtP L q) ∧ w.grownBy w' none := by
 by_cases h0 : L.length = 0
 · obtain rfl := List.eq_nil_of_length_eq_zero h0
   obtain ⟨ao, cap, rfl, hc0⟩ := h
   clear hc0 hlb hl hsq h0
   go_enter Tryz.func88, Tryz.ntmps88
   go_wp2
   go_ret
   exact ⟨⟨_, rfl, .inl ⟨rfl, rfl⟩⟩, Ext.refl _⟩
 · have MAX := maxFunc17_any lv L w h hlb hl (by omega)
   obtain ⟨ao, cap, hv, hc0⟩ := h
   obtain ⟨n, hn⟩ : ∃ n, L.length = n := ⟨_, rfl⟩
   rw [hn] at hv h0
   subst hv
   have hne : ((n : Int) == 0) = false := by simp; omega
   have HQ := Lib.hid hsq
   clear hc0 hlb hl hn hsq h0
   go_enter Tryz.func88, Tryz.ntmps88
   go_upto_region 4 with (first
     | (go_at_call 125; refine MAX.mono ?_; rintro e w1 ⟨⟨m, rfl, hm, htop⟩, hE1⟩; have HM := Lib.hid (And.intro hm htop); have HE1 := Lib.hid hE1; have hBn := Blk.new w1 108 (fndC noF); clear hm htop hE1)
     | (refine fnd_store _ _ rfl rfl rfl hBn rfl rfl ?_; intro w2 hb2 hg2 hs2; have HE2 := Lib.hid (ext_trans HE1.out (g17_new (World.grownBy_alloc w1 _ none) hg2 (Nat.le_refl _))); have d6 := (FCells.of hb2).sq; clear hBn hg2 hs2 hb2))
   have hq := HQ.out m HM.out.1
   obtain ⟨x, hx⟩ : ∃ z, m.sq = z := ⟨_, rfl⟩
   rw [hx] at d6 hq
   have HX := Lib.hid hx
   clear hx MAX hne
   go_wp2
   go_ret
   refine ⟨⟨x + 1, by go_num, .inr ⟨m, HM.out.1, by rw [HX.out], HM.out.2⟩⟩, HE2.out⟩
theorem nxt_is (B tn ep : Int) (L : List Fnd) (hok : OkL L) (q : Int) (h : NxtP ((L.filter (witB B)).filter (mineF tn ep)) q) : q = seqN B tn ep L := by
 have hin : ∀ f, f ∈ (L.filter (witB B)).filter (mineF tn ep) ↔ f ∈ L ∧ inH17 B tn ep f = true := fun f => by
   simp only [List.mem_filter, witB, inH17, Bool.and_eq_true]
   constructor
   · rintro ⟨⟨h1, h2, h3⟩, h4⟩; exact ⟨h1, h2, h3, h4⟩
   · rintro ⟨h1, h2, h3, h4⟩; exact ⟨⟨h1, h2, h3⟩, h4⟩
 have hs : ∀ (L : List Fnd) (x : Int), (∀ y, x ≤ y → (∀ f ∈ L, inH17 B tn ep f = true → f.sq + 1 ≤ y) → L.foldl (seqStep B tn ep) x ≤ y) := by
   intro L
   induction L with
   | nil => intro x y hxy _; exact hxy
   | cons f L ih =>
     intro x y hxy hy
     refine ih _ y ?_ (fun g hg => hy g (by simp [hg]))
     unfold seqStep
     split
     · rename_i hc
       simp only [Bool.and_eq_true] at hc
       exact hy f (by simp) hc.1
     · exact hxy
 have hg : ∀ (L : List Fnd) (x : Int), x ≤ L.foldl (seqStep B tn ep) x ∧ ∀ f ∈ L, inH17 B tn ep f = true → f.sq + 1 ≤ L.foldl (seqStep B tn ep) x := by
   intro L
   induction L with
   | nil => intro x; exact ⟨Int.le_refl _, fun f hf => by cases hf⟩
   | cons f L ih =>
     intro x
     obtain ⟨h1, h2⟩ := ih (seqStep B tn ep x f)
     have h3 : x ≤ seqStep B tn ep x f ∧ (inH17 B tn ep f = true → f.sq + 1 ≤ seqStep B tn ep x f) := by
       unfold seqStep
       cases hi : inH17 B tn ep f
       · simp
       · by_cases hc : x < f.sq + 1
         · rw [decide_eq_true hc]; simp; omega
         · rw [decide_eq_false hc]; simp; omega
     refine ⟨Int.le_trans h3.1 h1, fun g hgm hgi => ?_⟩
     rcases List.mem_cons.1 hgm with rfl | hgm
     · exact Int.le_trans (h3.2 hgi) h1
     · exact h2 g hgm hgi
 rcases h with ⟨h1, rfl⟩ | ⟨m, hm, rfl, htop⟩
 · refine Int.le_antisymm (hg L 0).1 (hs L 0 0 (Int.le_refl _) (fun f hf hi => ?_))
   have : f ∈ (L.filter (witB B)).filter (mineF tn ep) := (hin f).2 ⟨hf, hi⟩
   rw [h1] at this
   cases this
 · obtain ⟨m1, m2⟩ := (hin m).1 hm
   have hm0 := okB_sq (hok m m1 (mine_torn (tn := tn) (ep := ep) (by unfold inH17 at m2; simp only [Bool.and_eq_true] at m2; exact m2.2.2)))
   refine Int.le_antisymm ((hg L 0).2 m m1 m2) (hs L 0 _ (by omega) (fun f hf hi => ?_))
   have := htop f ((hin f).2 ⟨hf, hi⟩)
   omega
end Go.Proofs.YtdnpdoipipfkoaaGreatDoor

namespace Go.Proofs.YtdnpdoipipfkoaaGreatDoor
set_option linter.unusedVariables false
set_option linter.unusedSimpArgs false
set_option linter.unusedVariables false
set_option linter.unusedSimpArgs false
set_option maxRecDepth 100000
open Go.RowKit
def betF (f g : Fnd) : Bool := newF f g || (!newF g f && lowF f g)
def bsM (m : Int → Option Fnd) (f : Fnd) : Int → Option Fnd := if !(m f.pl).isSome || betF f ((m f.pl).getD noF) then updX m f.pl f else m
def bestsF (S : List Fnd) : Int → Option Fnd := S.foldl bsM (fun _ => none)
theorem bestsF_snoc (S : List Fnd) (f : Fnd) : bestsF (S ++ [f]) = bsM (bestsF S) f := by unfold bestsF; rw [List.foldl_append]; rfl
def stayF (gone : List Int) (f : Fnd) : Bool := !gone.contains f.bk
def optB (st : Fnd × Bool) : Option Fnd := if st.2 then some st.1 else none
theorem best_step (gone : List Int) (p : Int) (m : Int → Option Fnd) (st : Fnd × Bool) (f : Fnd) (h : m p = optB st) : (if stayF gone f then bsM m f else m) p = optB (bestStep gone p st f) := by
 unfold bestStep stayF
 cases hc : gone.contains f.bk
 · by_cases hp : f.pl = p
   · have e1 : (f.pl != p) = false := by simp [hp]
     rw [e1]
     obtain ⟨b, s⟩ := st
     cases s
     · have hm : m p = none := h
       unfold bsM
       rw [hp, hm]
       simp [optB, updX]
     · have hm : m p = some b := h
       unfold bsM betF sameF
       rw [hp, hm]
       simp only [Option.isSome_some, Bool.not_true, Bool.false_or, Option.getD_some, Bool.true_and, Bool.not_false, if_true]
       cases h1 : newF f b <;> cases h2 : newF b f <;> cases h3 : lowF f b <;> simp [optB, updX, hm]
   · have e1 : (f.pl != p) = true := by simp [hp]
     rw [e1]
     simp only [Bool.not_false, if_true, Bool.or_true]
     unfold bsM
     split
     · unfold updX
       rw [if_neg (fun e => hp e.symm)]
       exact h
     · exact h
 · simp [h]
theorem best_is (gone : List Int) (p : Int) : ∀ (A : List Fnd) (m : Int → Option Fnd) (st : Fnd × Bool), m p = optB st → (A.filter (stayF gone)).foldl bsM m p = optB (A.foldl (bestStep gone p) st)
 | [], m, st, h => h
 | f :: A, m, st, h => by
   have h1 := best_step gone p m st f h
   rw [List.filter_cons, List.foldl_cons]
   split
   · rename_i hs
     rw [if_pos hs] at h1
     exact best_is gone p A _ _ h1
   · rename_i hs
     rw [if_neg hs] at h1
     exact best_is gone p A _ _ h1
theorem bestsF_is (A : List Fnd) (gone : List Int) (p : Int) : bestsF (A.filter (stayF gone)) p = optB (bestN A gone p) := best_is gone p A _ _ rfl
abbrev Sp3 := Int × Int × Int
theorem strict_ext : ∀ (l1 l2 : List Sp3), l1.Pairwise (fun a b => a.1 < b.1) → l2.Pairwise (fun a b => a.1 < b.1) → (∀ x, x ∈ l1 ↔ x ∈ l2) → l1 = l2
 | [], [], _, _, _ => rfl
 | [], b :: t2, _, _, h => by have := (h b).2 (by simp); cases this
 | a :: t1, [], _, _, h => by have := (h a).1 (by simp); cases this
 | a :: t1, b :: t2, h1, h2, h => by
   obtain ⟨p1, p2⟩ := List.pairwise_cons.1 h1
   obtain ⟨q1, q2⟩ := List.pairwise_cons.1 h2
   have hab : a = b := by
     rcases List.mem_cons.1 ((h a).1 (by simp)) with e | e
     · exact e
     · rcases List.mem_cons.1 ((h b).2 (by simp)) with e2 | e2
       · exact e2.symm
       · have := q1 a e
         have := p1 b e2
         omega
   subst hab
   rw [strict_ext t1 t2 p2 q2 (fun x => ?_)]
   constructor
   · intro hx
     rcases List.mem_cons.1 ((h x).1 (by simp [hx])) with e | e
     · subst e; have := p1 _ hx; omega
     · exact e
   · intro hx
     rcases List.mem_cons.1 ((h x).2 (by simp [hx])) with e | e
     · subst e; have := q1 _ hx; omega
     · exact e
theorem spotsN_mem (A : List Fnd) (gone : List Int) : ∀ (m : Nat) (s : Sp3), s ∈ spotsN A gone m ↔ ∃ p : Nat, p < m ∧ (bestN A gone p).2 = true ∧ s = ((p : Int), (bestN A gone p).1.bk, (bestN A gone p).1.pg)
 | 0, s => by simp [spotsN]
 | m + 1, s => by
   have h1 : spotsN A gone (m + 1) = if (bestN A gone m).2 then spotsN A gone m ++ [((m : Int), (bestN A gone m).1.bk, (bestN A gone m).1.pg)] else spotsN A gone m := rfl
   rw [h1]
   have ih := spotsN_mem A gone m s
   split
   · rename_i hb
     rw [List.mem_append, List.mem_singleton, ih]
     constructor
     · rintro (⟨p, q1, q2⟩ | q)
       · exact ⟨p, by omega, q2⟩
       · exact ⟨m, by omega, hb, q⟩
     · rintro ⟨p, q1, q2, q3⟩
       by_cases e : p = m
       · subst e; exact .inr q3
       · exact .inl ⟨p, by omega, q2, q3⟩
   · rename_i hb
     rw [ih]
     constructor
     · rintro ⟨p, q1, q2⟩
       exact ⟨p, by omega, q2⟩
     · rintro ⟨p, q1, q2, q3⟩
       by_cases e : p = m
       · subst e; exact absurd q2 hb
       · exact ⟨p, by omega, q2, q3⟩
theorem spotsN_rise (A : List Fnd) (gone : List Int) : ∀ (m : Nat), (spotsN A gone m).Pairwise (fun a b => a.1 < b.1)
 | 0 => by simp [spotsN]
 | m + 1 => by
   have h1 : spotsN A gone (m + 1) = if (bestN A gone m).2 then spotsN A gone m ++ [((m : Int), (bestN A gone m).1.bk, (bestN A gone m).1.pg)] else spotsN A gone m := rfl
   rw [h1]
   have ih := spotsN_rise A gone m
   split
   · refine List.pairwise_append.2 ⟨ih, by simp, fun a ha b hb => ?_⟩
     obtain rfl := List.mem_singleton.1 hb
     obtain ⟨p, q1, q2, rfl⟩ := (spotsN_mem A gone m a).1 ha
     show (p : Int) < m
     omega
   · exact ih
theorem spots_is (A : List Fnd) (gone : List Int) (hA : ∀ f ∈ A, 0 ≤ f.pl ∧ f.pl ≤ 63) (l : List Sp3) (hs : l.Pairwise (fun a b => a.1 < b.1)) (hm : ∀ s, s ∈ l ↔ ∃ p f, bestsF (A.filter (stayF gone)) p = some f ∧ s = (p, f.bk, f.pg)) : l = spotsN A gone 64 := by
 refine strict_ext _ _ hs (spotsN_rise A gone 64) fun s => ?_
 rw [hm, spotsN_mem]
 constructor
 · rintro ⟨p, f, h1, rfl⟩
   rw [bestsF_is] at h1
   unfold optB at h1
   split at h1
   · rename_i h2
     injection h1 with h1
     have hk := (bestN_keeps gone p A A.length (Nat.le_refl _)).1
     rw [List.take_length] at hk
     obtain ⟨h3, h4⟩ := hk h2
     have h5 := hA _ h3
     rw [h4.2] at h5
     obtain ⟨q, rfl⟩ := Int.eq_ofNat_of_zero_le h5.1
     exact ⟨q, by omega, h2, by rw [h1]⟩
   · cases h1
 · rintro ⟨p, h1, h2, rfl⟩
   exact ⟨p, (bestN A gone p).1, by rw [bestsF_is]; unfold optB; rw [if_pos h2], rfl⟩
end Go.Proofs.YtdnpdoipipfkoaaGreatDoor
