/-
  Texts put together: VF KD KE KF KM AA AB AC.
-/
import Derived.Test.YtfgifgglcafadaaGreatDoorM13
import Derived.Test.YtfgifgglcafadaaGreatDoorM14
import Derived.Test.YtfgifgglcafadaaGreatDoorM05
import Derived.Test.YtfgifgglcafadaaGreatDoorM08
import Derived.Test.YtfgifgglcafadaaGreatDoorM09
import Derived.Test.YtfgifgglcafadaaGreatDoorM10
import Derived.Defers
import Derived.Recover
import Derived.Outline
import Derived.Deep.DeepCutAuto
import Derived.Deep.Cut
import Derived.Deep.LoopGhost
import Derived.Laws.EntriesVeiled
import Derived.Shelf.Abstract
namespace Go.Proofs.YtfgifgglcafadaaGreatDoor
set_option linter.unusedVariables false
set_option linter.unusedSimpArgs false
set_option linter.unusedVariables false
set_option linter.unusedSimpArgs false
set_option maxRecDepth 100000
open Go.RowKit
end Go.Proofs.YtfgifgglcafadaaGreatDoor

namespace Go.Proofs.YtfgifgglcafadaaGreatDoor
set_option linter.unusedVariables false
set_option linter.unusedSimpArgs false
set_option linter.unusedVariables false
set_option linter.unusedSimpArgs false
set_option maxRecDepth 100000
open Go.RowKit
def SaveC : Prop := ∀ (S : NShape) (V : Nat → Value) (zs : Nat → List Int) (s : NS) (x : Led) (VX : Nat → Value) (c : Int) (w : World), NandAt w S V zs s → Roles S → Cnt s c → c < 70000 → (∀ j, j < 4 → (zs j).length ≤ 64) → Small s → LedIs w x VX → GoodL x →
 Calls Tryz.prog 145 #[.pointer (some ⟨S.nb, 0, none⟩), .agg (ledC x VX)] w (Goes S V zs (.int .i64 (saveN S zs x S.all S.p s).2) (saveN S zs x S.all S.p s).1 w)
theorem bts_empty {w w' : World} {v : Value} (h : Bts w v []) : Bts w' v [] := by
 rcases h with h | ⟨b, off, cap, h1, h2, _⟩
 · exact .inl h
 · exact .inr ⟨b, off, cap, h1, h2, fun i hi => by simp at hi⟩
end Go.Proofs.YtfgifgglcafadaaGreatDoor

namespace Go.Proofs.YtfgifgglcafadaaGreatDoor
set_option linter.unusedVariables false
set_option linter.unusedSimpArgs false
set_option linter.unusedVariables false
set_option linter.unusedSimpArgs false
set_option maxRecDepth 100000
open Go.RowKit
end Go.Proofs.YtfgifgglcafadaaGreatDoor

namespace Go.Proofs.YtfgifgglcafadaaGreatDoor
set_option linter.unusedVariables false
set_option linter.unusedSimpArgs false
set_option linter.unusedVariables false
set_option linter.unusedSimpArgs false
set_option maxRecDepth 100000
open Go.RowKit
end Go.Proofs.YtfgifgglcafadaaGreatDoor

namespace Go.Proofs.YtfgifgglcafadaaGreatDoor
set_option linter.unusedVariables false
set_option linter.unusedSimpArgs false
set_option linter.unusedVariables false
set_option linter.unusedSimpArgs false
set_option maxRecDepth 100000
open Go.RowKit
theorem hiGen_led (r : Option (Led × Nat)) : hiGen r = (ledOf r).gen := by cases r <;> rfl
section
variable {S : NShape} {zs : Nat → List Int} {s : NS} {n p : Int} {x : Led}
theorem save_off (ho : s.off = true) : saveN S zs x n p s = (s, 12) := if_pos ho
theorem save_bad (ho : s.off = false) (he : snE x n p ≠ 0) : saveN S zs x n p s = (s, snE x n p) := by
 unfold saveN
 rw [if_neg (by rw [ho]; decide), if_pos he]
theorem save_old (ho : s.off = false) (he : snE x n p = 0) (hg : x.gen ≤ (ledOf (newestN n p S.pg s.L)).gen) : saveN S zs x n p s = (s, 2) := by
 unfold saveN
 rw [if_neg (by rw [ho]; decide), if_neg (by rw [he]; decide), if_pos (by rw [hiGen_led]; exact hg)]
theorem save_new (ho : s.off = false) (he : snE x n p = 0) (hg : ¬ x.gen ≤ (ledOf (newestN n p S.pg s.L)).gen) : saveN S zs x n p s =
   if (roomN S zs (blkOf (newestN n p S.pg s.L)) s).2.2 ≠ 0 then ((roomN S zs (blkOf (newestN n p S.pg s.L)) s).1, (roomN S zs (blkOf (newestN n p S.pg s.L)) s).2.2) else progAt S zs x n p (roomN S zs (blkOf (newestN n p S.pg s.L)) s).2.1 (roomN S zs (blkOf (newestN n p S.pg s.L)) s).1 := by
 unfold saveN roomN
 rw [if_neg (by rw [ho]; decide), if_neg (by rw [he]; decide), if_neg (by rw [hiGen_led]; exact hg)]
 split
 · simp
 · split
   · simp
   · rfl
theorem roomN_cnt {c : Int} (hc : Cnt s c) {b : Nat} (hb : 1 - b < S.all) : Cnt (roomN S zs b s).1 (c + 2) := by
 unfold roomN
 split
 · exact cnt_mono hc (by omega)
 · split
   · exact cnt_mono hc (by omega)
   · cases hm : s.mr (1 - b)
     · exact ersS_cnt hc hb hm
     · have : ersS S zs s 4 ((1 - b : Nat) : Int) = s := by unfold ersS; simp [hm]
       show Cnt (ersS S zs s 4 ((1 - b : Nat) : Int)) (c + 2)
       rw [this]
       exact cnt_mono hc (by omega)
theorem roomN_lt {b : Nat} (hb : b < 2) : (roomN S zs b s).2.1 < 2 := by
 unfold roomN
 split
 · exact hb
 · split <;> (show 1 - b < 2; omega)
end
def SavS (LB : Nat) (cs : Array Value) (x : World) : Prop := Blk x LB 56 cs
def SavT (v : Value) (st : ByteArray) (x : World) : Prop := (convert 73 9 v).run Tryz.prog x = .ok (.string st) x
theorem goes_ret {S : NShape} {V : Nat → Value} {zs : Nat → List Int} {r : NS × Int} {s2 : NS} {er : Int} {w w' : World} (hr : r = (s2, er)) (hN : NandAt w' S V zs s2) (hk : Keeps S.T w w') : Goes S V zs (.int .i64 r.2) r.1 w (.returned (.int .i64 er)) w' := by
 subst hr
 exact ⟨rfl, hN, hk⟩
set_option maxHeartbeats 3200000 in
theorem adSave_any : SaveC := by
 intro S V zs s x VX c w h hR hc hcn hz hs hL hG
 obtain ⟨r, hr⟩ : ∃ r, saveN S zs x S.all S.p s = r := ⟨_, rfl⟩
 rw [hr]
 have hbd := hR.bds
 have hpg := hR.pgs
 have hfld := geo_pages S.c S.d S.b S.p
 have hbl := Blk.new w 56 (ledC x VX)
 have ha := World.grownBy_alloc w (.cells (ledC x VX) 56) none
 obtain ⟨LB, hLB⟩ : ∃ z, w.heap.size = z := ⟨_, rfl⟩
 obtain ⟨w1, hw1⟩ : ∃ y, w.alloc (.cells (ledC x VX) 56) = y := ⟨_, rfl⟩
 rw [hw1] at hbl ha
 have NW := adNewest_any (h.ext ha hR) hR hs
 obtain ⟨fL, hfL⟩ : ∃ z, (if s.off then noLed else ledOf (newestN S.all S.p S.pg s.L)) = z := ⟨_, rfl⟩
 obtain ⟨fb, hfb⟩ : ∃ z, (if s.off then 0 else blkOf (newestN S.all S.p S.pg s.L)) = z := ⟨_, rfl⟩
 obtain ⟨fe, hfe⟩ : ∃ z, (if s.off then (12 : Int) else 0) = z := ⟨_, rfl⟩
 rw [hfL, hfb, hfe] at NW
 rw [hLB] at hbl
 have HF := Lib.hid (And.intro hfL (And.intro hfb hfe))
 have HH := Lib.hid (And.intro h (And.intro hR (And.intro hc (And.intro hcn (And.intro hz (And.intro hL (And.intro hG hs)))))))
 have HRR := Lib.hid hr
 have HA := Lib.hid ha
 have hsl := hL.slices
 have HLB := Lib.hid hLB
 clear hfL hfb hfe h hR hc hcn hz hL hG hs hr ha
 go_enter Tryz.func145, Tryz.ntmps145
 go_upto_region 1 with fail
 clear hLB hw1
 go_upto_if 16 with (first
   | (go_at_call 160; refine NW.mono ?_; rintro e w2 ⟨V2, rfl, hI2, _, hg2⟩; have hB2 := Blk.new w2 56 zeroC; have hbl2 := hbl.ext hg2; have hs2 := hI2.slices; have HE2 := Lib.hid (ext_trans HA.out hg2); clear hI2 hg2 hbl NW)
   | (refine led_store (L := fL) (V := V2) _ _ rfl rfl rfl hB2 rfl hs2 rfl ?_; intro w3 hb3 hg3 hs3; have hE3 := grown_trans (World.grownBy_alloc w2 (.cells zeroC 56) none) hg3 (fun p hp hlt => by injection hp with hp; omega); have hbl3 := hbl2.ext hE3; have HE3 := Lib.hid (ext_trans HE2.out hE3); clear hB2 hg3 hs3 hE3 hbl2 hs2))
 cases ho : s.off
 case true =>
   have hfe : fe = 12 := by rw [← HF.out.2.2, ho]; rfl
   have hb : (fe != 0) = true := by rw [hfe]; rfl
   have HX := Lib.hid (And.intro ho hfe)
   clear ho hfe hbl3 hb3 hsl
   go_wp2
   go_ret
   exact goes_ret (by rw [← HRR.out, save_off HX.out.1, HX.out.2]) (HH.out.1.ext HE3.out HH.out.2.1) (.ext HE3.out)
 case false =>
   have hfe : fe = 0 := by rw [← HF.out.2.2, ho]; rfl
   have hb : (fe != 0) = false := by rw [hfe]; rfl
   have hfL : ledOf (newestN S.all S.p S.pg s.L) = fL := by rw [← HF.out.1, ho]; rfl
   have hfb : blkOf (newestN S.all S.p S.pg s.L) = fb := by rw [← HF.out.2.1, ho]; rfl
   obtain ⟨ye, hye⟩ : ∃ z, snE x S.all S.p = z := ⟨_, rfl⟩
   obtain ⟨ys, hys⟩ : ∃ z, snL x S.all S.p = z := ⟨_, rfl⟩
   obtain ⟨st, hst⟩ : ∃ z, strOfNums ys = z := ⟨_, rfl⟩
   have HX := Lib.hid (And.intro ho (And.intro hfL (And.intro hfb (And.intro hye (And.intro hys hst)))))
   have FXd := HH.out.1.ext (ext_trans HE3.out (Ext.drew w3)) HH.out.2.1
   have BK := blocks7_is FXd.fix
   have GE := geometry7_is FXd.fix
   clear ho hfe hfL hfb hye hys hst FXd
   have hZ3 := HE3.out.size
   rw [HLB.out] at hZ3
   go_upto_region 4 with fail
   have hS0 : SavS LB (ledC x VX) w3.drew := hbl3
   refine region_line [(0, true), (1, true), (3, true), (2, false), (4, false), (5, true), (6, false), (7, true), (8, true), (9, true), (10, true), (11, true)] (SavS LB (ledC x VX)) (by kernel_rfl) (by kernel_rfl) (fun _ _ _ d _ h => by cases d <;> exact h) hS0 ?_
   repeat (refine line_read (a' := ?_) rfl (by kernel_rfl) (by kernel_rfl) hS0 (fun y hy K hK => ?_) ?_; rotate_left; · unfold SavS at hy; go_wp2_with (refine led_load _ rfl rfl hy rfl ?_); exact hK)
   refine line_act (by rfl) (fun K hK => ?_)
   go_wp2_with (go_at_call 24; refine BK.mono ?_; rintro e w' ⟨rfl, rfl⟩)
   refine hK _ _ _ hS0 (fun y hy => hy) ?_
   clear hK K
   refine line_act (by rfl) (fun K hK => ?_)
   go_wp2_with (go_at_call 141; refine GE.mono ?_; rintro e w4 ⟨rfl, hg4⟩)
   have hS4 : SavS LB (ledC x VX) w4 := Blk.ext hS0 hg4
   refine hK _ _ _ hS4 (fun y hy => hy) ?_
   clear hK K
   repeat (refine line_read (a' := ?_) rfl (by kernel_rfl) (by kernel_rfl) hS4 (fun y hy K hK => ?_) ?_; rotate_left; · unfold SavS at hy; go_wp2; exact hK)
   have hE4 := ext_trans (ext_trans HE3.out (Ext.drew w3)) hg4
   have BY := snapBytes_any x VX S.all S.p w4 (HH.out.2.2.2.2.2.1.ext hE4) HH.out.2.2.2.2.2.2.1 (by omega) (by omega)
   rw [HX.out.2.2.2.1, HX.out.2.2.2.2.1] at BY
   refine line_act (by rfl) (fun K hK => ?_)
   go_wp2_with (go_at_call 177; refine BY.mono ?_; rintro e w5 ⟨v5, rfl, hown5, hg5⟩)
   have hS5 : SavS LB (ledC x VX) w5 := Blk.ext hS4 hg5
   refine hK _ _ _ hS5 (fun y hy => hy) ?_
   clear hK K
   repeat (refine line_read (a' := ?_) rfl (by kernel_rfl) (by kernel_rfl) hS5 (fun y hy K hK => ?_) ?_; rotate_left; · unfold SavS at hy; go_wp2; exact hK)
   refine line_end ?_
   have HE5 := Lib.hid (ext_trans hE4 hg5)
   have hb5 := hb3.ext (ext_trans (ext_trans (Ext.drew w3) hg4) hg5)
   have HB5 := Lib.hid (And.intro (Owns.bts rfl hown5) (show ∀ q, v5.ownBlock = some q → S.T q = 0 from fun q hq => HH.out.1.fresh (by have := (hown5.lt q hq).1; have := hE4.size; omega)))
   have hbl5 : Blk w5 LB 56 (ledC x VX) := hS5
   clear hS0 hS4 hS5 BK GE BY hE4 hg4 hg5 hown5 hbl3 hb3 hb hZ3
   by_cases hy0 : ye = 0
   case neg =>
     have hb : (ye != 0) = true := by simpa using hy0
     have HY := Lib.hid hy0
     clear hy0 hb5 hbl5 hsl
     go_wp2
     go_ret
     obtain ⟨ho, hfL, hfb, hye, hys, hst⟩ := HX.out
     exact goes_ret (by rw [← HRR.out, save_bad ho (by rw [hye]; exact HY.out), hye]) (HH.out.1.ext HE5.out HH.out.2.1) (.ext HE5.out)
   case pos =>
     have hb : (ye != 0) = false := by rw [hy0]; rfl
     have cx := (hbl5.cell 0).trans (led_gen _ _)
     have cl := (hb5.cell 0).trans (led_gen _ _)
     obtain ⟨gx, hgx⟩ : ∃ z, x.gen = z := ⟨_, rfl⟩
     obtain ⟨gl, hgl⟩ : ∃ z, fL.gen = z := ⟨_, rfl⟩
     rw [hgx] at cx
     rw [hgl] at cl
     have HG := Lib.hid (And.intro hgx (And.intro hgl hy0))
     clear hgx hgl hy0 hb5 hbl5 hsl
     by_cases hg : gx ≤ gl
     · have hgb : decide (gx ≤ gl) = true := by simpa using hg
       go_wp2
       go_ret
       obtain ⟨ho, hfL, hfb, hye, hys, hst⟩ := HX.out
       exact goes_ret (by rw [← HRR.out, save_old ho (by rw [hye]; exact HG.out.2.2) (by rw [hfL, HG.out.1, HG.out.2.1]; exact hg)]) (HH.out.1.ext HE5.out HH.out.2.1) (.ext HE5.out)
     · have hgb : decide (gx ≤ gl) = false := by simpa using hg
       have hN5 := HH.out.1.ext HE5.out HH.out.2.1
       have hfb2 : fb < 2 := by
         have h1 := HX.out.2.2.1
         rw [← h1]
         cases hn : newestN S.all S.p S.pg s.L with
         | none => decide
         | some q => exact (newest_some (l := q.1) (b := q.2) hn).1
       have RM := adRoom_any hN5 HH.out.2.1 HH.out.2.2.1 (by have := HH.out.2.2.2.1; omega) HH.out.2.2.2.2.1 hfb2
       have RC := roomN_cnt (S := S) (zs := zs) (b := fb) HH.out.2.2.1 (by omega)
       have RL := roomN_lt (S := S) (zs := zs) (s := s) hfb2
       have HSV : saveN S zs x S.all S.p s = if (roomN S zs fb s).2.2 ≠ 0 then ((roomN S zs fb s).1, (roomN S zs fb s).2.2) else progAt S zs x S.all S.p (roomN S zs fb s).2.1 (roomN S zs fb s).1 := by
         obtain ⟨ho, hfL, hfb, hye, hys, hst⟩ := HX.out
         rw [save_new ho (by rw [hye]; exact HG.out.2.2) (by rw [hfL, HG.out.1, HG.out.2.1]; exact hg), hfb]
       rw [HRR.out] at HSV
       obtain ⟨⟨s2, bb, re⟩, hrm⟩ : ∃ z, roomN S zs fb s = z := ⟨_, rfl⟩
       rw [hrm] at RM RC RL HSV
       simp only at RM RC RL HSV
       have HV := Lib.hid (And.intro HSV (And.intro RC RL))
       clear HSV RC RL hrm hN5 hfb2 hg
       go_upto_if 43 with (go_at_call 178; refine RM.mono ?_; rintro e w6 ⟨rfl, hN6, hk6⟩; have HN6 := Lib.hid (And.intro hN6 hk6); clear hN6 hk6 RM)
       clear cx cl hgb hb
       by_cases hr0 : re = 0
       case neg =>
         have hb : (re != 0) = true := by simpa using hr0
         have HR0 := Lib.hid hr0
         clear hr0
         go_wp2
         go_ret
         exact goes_ret (by rw [HV.out.1, if_pos HR0.out]) HN6.out.1 ((Keeps.ext HE5.out).trans HN6.out.2)
       case pos =>
         have hb : (re != 0) = false := by rw [hr0]; rfl
         have HR0 := Lib.hid hr0
         clear hr0
         go_upto_region 12 with fail
         have hN6d := HN6.out.1.ext (Ext.drew w6) HH.out.2.1
         have hcv : SavT v5 st w6.drew := convert_is ((Keeps.trans HN6.out.2 (.ext (Ext.drew w6))).bts HB5.out.1 HB5.out.2) HX.out.2.2.2.2.2
         have NX := next7_is hN6d.fix (i := bb) (by have := HV.out.2.2; omega) (hN6d.row bb (by have := HV.out.2.2; omega)) HH.out.2.1
         have hsz : st.size ≤ 160 := by
           obtain ⟨ho, hfL, hfb, hye, hys, hst⟩ := HX.out
           have hall : min (S.all : Int) 256 = S.all := by omega
           have hrl : rightL x S.all S.p = true := by
             have h1 := hye
             rw [HG.out.2.2] at h1
             unfold snE at h1
             rw [hall] at h1
             split at h1
             · assumption
             · exact absurd h1 (by decide)
           have := page_fits ((rightL_iff (by omega) (by omega)).1 hrl) (n := S.all) (p := S.p) (by omega) (by omega)
           rw [hys, hst] at this
           exact this
         have PG := program_any (bs := []) (dt := st) (v := .slice none 0 0) hN6d HH.out.2.1 HV.out.2.1 (by have := HH.out.2.2.2.1; omega) HH.out.2.2.2.2.1 4 (bb : Int) ((nextN (s2.L bb) S.pg : Nat) : Int) (.inl ⟨rfl, rfl⟩) (fun hh => absurd hh (by decide)) (by decide) (by omega)
         have hpa : progAt S zs x S.all S.p bb s2 = (progS S zs s2 4 bb (nextN (s2.L bb) S.pg : Nat) [] st, progE S zs s2 4 bb (nextN (s2.L bb) S.pg : Nat) 0 st.size) := by
           obtain ⟨ho, hfL, hfb, hye, hys, hst⟩ := HX.out
           unfold progAt
           rw [hys, hst]
         have HP := Lib.hid (show r = _ by rw [HV.out.1, if_neg (by rw [HR0.out]; decide), hpa])
         clear hpa hsz hN6d
         refine region_line [(0, true), (1, true), (2, true), (3, true), (5, true), (6, true), (4, false), (7, false), (8, true)] (SavT v5 st) (by kernel_rfl) (by kernel_rfl) (fun _ _ _ d _ h => by cases d <;> exact h) hcv ?_
         repeat (refine line_read (a' := ?_) rfl (by kernel_rfl) (by kernel_rfl) hcv (fun y hy K hK => ?_) ?_; rotate_left; · unfold SavT at hy; go_wp2; exact hK)
         refine line_act (by rfl) (fun K hK => ?_)
         go_wp2_with (go_at_call 81; refine NX.mono ?_; rintro e w' ⟨rfl, rfl⟩)
         refine hK _ _ _ hcv (fun y hy => hy) ?_
         clear hK K
         refine line_act (by rfl) (fun K hK => ?_)
         go_wp2_with (go_at_call 179; refine PG.mono ?_; rintro e w9 ⟨rfl, hN9, hk9⟩)
         have hcv9 : SavT v5 st w9 := convert_is ((Keeps.trans (Keeps.trans HN6.out.2 (.ext (Ext.drew w6))) hk9).bts HB5.out.1 HB5.out.2) HX.out.2.2.2.2.2
         refine hK _ _ _ hcv9 (fun y hy => hy) ?_
         clear hK K
         repeat (refine line_read (a' := ?_) rfl (by kernel_rfl) (by kernel_rfl) hcv9 (fun y hy K hK => ?_) ?_; rotate_left; · unfold SavT at hy; go_wp2; exact hK)
         refine line_end ?_
         go_wp2
         go_ret
         exact goes_ret HP.out hN9 (((Keeps.ext HE5.out).trans HN6.out.2).trans ((Keeps.ext (Ext.drew w6)).trans hk9))
end Go.Proofs.YtfgifgglcafadaaGreatDoor

namespace Go.Proofs.YtfgifgglcafadaaGreatDoor
set_option linter.unusedVariables false
set_option linter.unusedSimpArgs false
set_option linter.unusedVariables false
set_option linter.unusedSimpArgs false
set_option maxRecDepth 100000
open Go.RowKit
structure HC where
 S : NShape
 V : Nat → Value
 zs : Nat → List Int
 hb : Nat
structure HX where
 n : NS
 L : Led
 VL : Nat → Value
 st : Nat → Option (SP × SC × SM)
 qp : Nat → Nat
 vw : Nat → Value
 vd : Nat → Value
 ws : Nat → List Chg
 ds : Nat → List Chg
 sl : Int
def ptB (b : Nat) : Value := .pointer (some ⟨b, 0, none⟩)
def ptS (x : Option (SP × SC × SM)) : Value := .pointer (x.map fun y => ⟨y.1.sb, 0, none⟩)
def hsC (H : HC) (x : HX) : Array Value :=
 #[ptB H.S.pb, ptB H.S.db, ptB H.S.nb, .int .i64 x.L.gen, .int .i64 x.L.eps,
   .bool (x.L.t 0).th, .int .i64 (x.L.t 0).ep, .int .i64 (x.L.t 0).sz, .int .i64 (x.L.t 0).sp, x.VL 0,
   .bool (x.L.t 1).th, .int .i64 (x.L.t 1).ep, .int .i64 (x.L.t 1).sz, .int .i64 (x.L.t 1).sp, x.VL 1,
   .bool (x.L.t 2).th, .int .i64 (x.L.t 2).ep, .int .i64 (x.L.t 2).sz, .int .i64 (x.L.t 2).sp, x.VL 2,
   .bool (x.L.t 3).th, .int .i64 (x.L.t 3).ep, .int .i64 (x.L.t 3).sz, .int .i64 (x.L.t 3).sp, x.VL 3,
   ptS (x.st 0), ptS (x.st 1), ptS (x.st 2), ptS (x.st 3), ptB (x.qp 0), ptB (x.qp 1), ptB (x.qp 2), ptB (x.qp 3), .int .i64 x.sl]
theorem hsC_led (H : HC) (x : HX) : (hsC H x).extract 3 (3 + 22) = ledC x.L x.VL := by simp [hsC, ledC]
theorem hsC_size (H : HC) (x : HX) : (hsC H x).size = 34 := rfl
theorem hsC_setL (H : HC) (x : HX) (L : Led) (VL : Nat → Value) : ((hsC H x).toList.take 3 ++ (ledC L VL).toList ++ (hsC H x).toList.drop (3 + (ledC L VL).toList.length)).toArray = hsC H { x with L := L, VL := VL } := by
 simp [hsC, ledC]
theorem hsC_st (H : HC) (x : HX) {t : Nat} (ht : t < 4) : (hsC H x)[25 + t]? = some (ptS (x.st t)) := by
 rcases (by omega : t = 0 ∨ t = 1 ∨ t = 2 ∨ t = 3) with rfl | rfl | rfl | rfl <;> rfl
theorem hsC_qp (H : HC) (x : HX) {t : Nat} (ht : t < 4) : (hsC H x)[29 + t]? = some (ptB (x.qp t)) := by
 rcases (by omega : t = 0 ∨ t = 1 ∨ t = 2 ∨ t = 3) with rfl | rfl | rfl | rfl <;> rfl
theorem hsC_th (H : HC) (x : HX) {t : Nat} (ht : t < 4) : (hsC H x)[5 + t * 5]? = some (.bool (x.L.t t).th) := by
 rcases (by omega : t = 0 ∨ t = 1 ∨ t = 2 ∨ t = 3) with rfl | rfl | rfl | rfl <;> rfl
theorem hsC_ten (H : HC) (x : HX) {t : Nat} (ht : t < 4) : (hsC H x).extract (5 + t * 5) (5 + t * 5 + 5) = tenC (x.L.t t) (x.VL t) := by
 rcases (by omega : t = 0 ∨ t = 1 ∨ t = 2 ∨ t = 3) with rfl | rfl | rfl | rfl <;> simp [hsC, tenC]
def updH {α : Type} (f : Nat → α) (t : Nat) (v : α) : Nat → α := fun j => if j = t then v else f j
theorem updH_same {α : Type} (f : Nat → α) (t : Nat) (v : α) : updH f t v t = v := if_pos rfl
theorem updH_ne {α : Type} (f : Nat → α) {t j : Nat} (v : α) (h : j ≠ t) : updH f t v j = f j := if_neg h
theorem hsC_setSt (H : HC) (x : HX) {t : Nat} (ht : t < 4) (s : Option (SP × SC × SM)) : (hsC H x).setIfInBounds (25 + t) (ptS s) = hsC H { x with st := updH x.st t s } := by
 rcases (by omega : t = 0 ∨ t = 1 ∨ t = 2 ∨ t = 3) with rfl | rfl | rfl | rfl <;> simp [hsC, updH]
theorem hsC_setQp (H : HC) (x : HX) {t : Nat} (ht : t < 4) (b : Nat) : (hsC H x).setIfInBounds (29 + t) (ptB b) = hsC H { x with qp := updH x.qp t b } := by
 rcases (by omega : t = 0 ∨ t = 1 ∨ t = 2 ∨ t = 3) with rfl | rfl | rfl | rfl <;> simp [hsC, updH]
theorem hsC_setSl (H : HC) (x : HX) (k : Int) : (hsC H x).setIfInBounds 33 (.int .i64 k) = hsC H { x with sl := k } := by simp [hsC]
structure HAt (w : World) (H : HC) (ρ : Nat → Nat) (x : HX) : Prop where
 nd : NandAt w H.S H.V H.zs x.n
 bk : Blk w H.hb 95 (hsC H x)
 fl : Flds w
 li : LedIs w x.L x.VL
 qs : ∀ t, t < 4 → QS w (x.qp t) (x.vw t) (x.vd t) (x.ws t) (x.ds t)
 ss : ∀ t, t < 4 → ∀ p c m, x.st t = some (p, c, m) → StAt w p c { m with n := x.n } ∧ StOk p c ∧ c.S = H.S ∧ c.zs = H.zs ∧ p.V = H.V
 rh : ρ H.hb = 2
 rn : ∀ k, H.S.T k ≠ 0 ↔ ρ k = 1
 rq : ∀ t, t < 4 → ∀ k, fpQ (x.qp t) (x.vw t) (x.vd t) k → ρ k = 3 + t
 rs : ∀ t, t < 4 → ∀ p c m, x.st t = some (p, c, m) → (ρ p.sb = 7 + t ∧ ρ p.tb = 7 + t ∧ ρ p.bb = 7 + t) ∧ ∀ k, p.bv.ownBlock = some k → ρ k = 0 ∧ k < w.heap.size
 rl : ∀ j, j < 4 → ∀ k, (x.VL j).ownBlock = some k → ρ k = 0 ∧ k < w.heap.size
 rv : ∀ j, j < 4 → ∀ k, (H.V j).ownBlock = some k → ρ k = 0 ∧ k < w.heap.size
 r0 : ρ 0 = 0
 rt : ∀ k, ρ k ≠ 0 → k < w.heap.size
def extR (ρ : Nat → Nat) (B C i : Nat) : Nat → Nat := fun k => if k < B then ρ k else if k < C then i else 0
section
variable {ρ : Nat → Nat} {B C i k : Nat}
theorem extR_lt (h : k < B) : extR ρ B C i k = ρ k := if_pos h
theorem extR_new (h : B ≤ k) (h2 : k < C) : extR ρ B C i k = i := by unfold extR; rw [if_neg (by omega), if_pos h2]
theorem extR_le (hBC : B ≤ C) (h : extR ρ B C i k ≠ 0) (hr : ∀ k, ρ k ≠ 0 → k < B) : k < C := by
 unfold extR at h
 split at h
 · omega
 · split at h
   · assumption
   · exact absurd rfl h
end
def Fr (B : Nat) (ρ ρ' : Nat → Nat) (w w' : World) : Prop := KpF (fun k => ρ k ≠ 0) w w' ∧ ∀ k, ρ' k ≠ 0 → ρ k ≠ 0 ∨ B ≤ k
theorem Fr.trans {B B2 : Nat} {ρ ρ1 ρ2 : Nat → Nat} {w w1 w2 : World} (h : Fr B ρ ρ1 w w1) (h2 : Fr B2 ρ1 ρ2 w1 w2) (hB : w.heap.size ≤ B) (hB2 : B ≤ B2) : Fr B ρ ρ2 w w2 :=
 ⟨⟨h2.1.os.trans h.1.os, h2.1.tape.trans h.1.tape, h2.1.output.trans h.1.output, Nat.le_trans h.1.size h2.1.size, fun k hk hf => (h2.1.block k (Nat.lt_of_lt_of_le hk h.1.size) (fun e => by
   rcases h.2 k e with e | e
   · exact hf e
   · omega)).trans (h.1.block k hk hf)⟩, fun k hk => by
   rcases h2.2 k hk with e | e
   · exact h.2 k e
   · exact .inr (by omega)⟩
theorem Fr.ext {B : Nat} {ρ : Nat → Nat} {w w' : World} (h : w.grownBy w' none) : Fr B ρ ρ w w' := ⟨KpF.of_grown h (fun k e => by cases e), fun _ hk => .inl hk⟩
theorem Fr.grown {B : Nat} {ρ ρ' : Nat → Nat} {w0 w w' : World} (h : w0.grownBy w none) (hl : ∀ k, ρ k ≠ 0 → w0.heap.size ≤ k) (hf : Fr B ρ ρ' w w') (hB : w0.heap.size ≤ B) : w0.grownBy w' none ∧ ∀ k, ρ' k ≠ 0 → w0.heap.size ≤ k :=
 ⟨⟨hf.1.os.trans h.os, hf.1.tape.trans h.tape, hf.1.output.trans h.output, Nat.le_trans h.size hf.1.size, fun k hk _ => (hf.1.block k (Nat.lt_of_lt_of_le hk h.size) (fun e => by have := hl k e; omega)).trans (h.block k hk (by simp))⟩, fun k hk => by
   rcases hf.2 k hk with e | e
   · exact hl k e
   · omega⟩
section
variable {w w' : World} {T : Nat → Nat} {F : Nat → Prop}
theorem Keeps.kpf (h : Keeps T w w') (hT : ∀ k, T k ≠ 0 → F k) : KpF F w w' := ⟨h.os, h.tape, h.output, h.size, fun k hk hf => h.block k hk (Classical.byContradiction fun e => hf (hT k e))⟩
theorem KpF.ints (h : KpF F w w') {v : Value} {xs : List Int} (hv : Ints w v xs) (hF : ∀ k, v.ownBlock = some k → ¬ F k) : Ints w' v xs := by
 rcases hv with hv | ⟨b, off, cap, rfl, h2, h3⟩ | hv
 · exact .inl hv
 · exact .inr (.inl ⟨b, off, cap, rfl, h2, fun i hi => (World.cell?_of_block (h.block b (World.block_lt_of_cell? w _ (h3 i hi)) (hF b rfl))).trans (h3 i hi)⟩)
 · exact .inr (.inr hv)
theorem KpF.mono {G : Nat → Prop} (h : KpF F w w') (hG : ∀ k, F k → G k) : KpF G w w' := ⟨h.os, h.tape, h.output, h.size, fun k hk hf => h.block k hk (fun e => hf (hG k e))⟩
theorem StAt.beside {p : SP} {c : SC} {m : SM} {n' : NS} (h : StAt w p c m) (hn : NandAt w' c.S p.V c.zs n') (hk : KpF F w w') (h0 : ¬ F 0) (hs : ¬ F p.sb) (ht : ¬ F p.tb) (hb : ¬ F p.bb) (hv : ∀ k, p.bv.ownBlock = some k → ¬ F k) : StAt w' p c { m with n := n' } :=
 ⟨hn, by
   obtain ⟨R, W, S, h1, h2⟩ := h.tb
   obtain ⟨cs, a1, a2⟩ := h1.is
   exact ⟨R, W, S, ⟨h1.bl, h1.pl, cs, (hk.block _ h1.lt ht).trans a1, a2⟩, h2⟩, bufStays _ _ _ _ h.bf (hk.block _ (bufLt _ _ _ h.bf) hb), (hk.block _ h.bk.lt hs).trans h.bk, hk.ints h.iv hv, fun j hj => by
   have e := hk.block 0 h.fl.lt h0
   exact ⟨(World.cell?_of_block e).trans (h.fl j hj).1, (World.cell?_of_block e).trans (h.fl j hj).2.1, (World.cell?_of_block e).trans (h.fl j hj).2.2⟩⟩
theorem Flds.kpf (h : Flds w) (hk : KpF F w w') (h0 : ¬ F 0) : Flds w' := fun j hj => by
 have e := hk.block 0 h.lt h0
 exact ⟨(World.cell?_of_block e).trans (h j hj).1, (World.cell?_of_block e).trans (h j hj).2.1, (World.cell?_of_block e).trans (h j hj).2.2⟩
end
section
variable {w w' : World} {H : HC} {ρ : Nat → Nat} {x : HX}
theorem HAt.ext (h : HAt w H ρ x) (hR : Roles H.S) (hg : w.grownBy w' none) : HAt w' H ρ x :=
 ⟨h.nd.ext hg hR, h.bk.ext hg, h.fl.ext hg, h.li.ext hg, fun t ht => (h.qs t ht).ext hg, fun t ht p c m e => by
   obtain ⟨a, b, d⟩ := h.ss t ht p c m e
   exact ⟨a.ext b hg, b, d⟩, h.rh, h.rn, h.rq, fun t ht p c m e => ⟨(h.rs t ht p c m e).1, fun k hk => ⟨((h.rs t ht p c m e).2 k hk).1, Nat.lt_of_lt_of_le ((h.rs t ht p c m e).2 k hk).2 hg.size⟩⟩,
   fun j hj k hk => ⟨(h.rl j hj k hk).1, Nat.lt_of_lt_of_le (h.rl j hj k hk).2 hg.size⟩, fun j hj k hk => ⟨(h.rv j hj k hk).1, Nat.lt_of_lt_of_le (h.rv j hj k hk).2 hg.size⟩, h.r0, fun k hk => Nat.lt_of_lt_of_le (h.rt k hk) hg.size⟩
theorem HAt.nb (h : HAt w H ρ x) : H.S.nb < w.heap.size ∧ H.S.pb < w.heap.size ∧ H.S.db < w.heap.size := ⟨World.block_lt_of_cell? w _ h.nd.fix.g0, h.nd.pow.lt, h.nd.drs.lt⟩
theorem HAt.T0 (h : HAt w H ρ x) {k : Nat} (hk : ρ k ≠ 1) : H.S.T k = 0 := Classical.byContradiction fun e => hk ((h.rn k).1 e)
theorem HAt.queue (h : HAt w H ρ x) {t : Nat} (ht : t < 4) {vw' vd' : Value} {ws' ds' : List Chg} (hq : QS w' (x.qp t) vw' vd' ws' ds') (hk : KpF (fpQ (x.qp t) (x.vw t) (x.vd t)) w w')
   (ho : ∀ k, fpQ (x.qp t) vw' vd' k → fpQ (x.qp t) (x.vw t) (x.vd t) k ∨ w.heap.size ≤ k) (hn : NandAt w' H.S H.V H.zs x.n) :
   HAt w' H (extR ρ w.heap.size w'.heap.size (3 + t)) { x with vw := updH x.vw t vw', vd := updH x.vd t vd', ws := updH x.ws t ws', ds := updH x.ds t ds' } := by
 have hF : ∀ k, fpQ (x.qp t) (x.vw t) (x.vd t) k → ρ k = 3 + t := h.rq t ht
 have hz := hk.size
 have nF : ∀ k, ρ k ≠ 3 + t → ¬ fpQ (x.qp t) (x.vw t) (x.vd t) k := fun k h1 h2 => h1 (hF k h2)
 have low : ∀ k, k < w.heap.size → extR ρ w.heap.size w'.heap.size (3 + t) k = ρ k := fun k hk => extR_lt hk
 have hnb := h.nb
 refine ⟨hn, (hk.block _ h.bk.lt (nF _ (by rw [h.rh]; omega))).trans h.bk, h.fl.kpf hk (nF 0 (by rw [h.r0]; omega)), fun j hj => hk.ints (h.li j hj) (fun k hk => nF k (by rw [(h.rl j hj k hk).1]; omega)), fun s hs => ?_, fun s hs p c m e => ?_,
   (low _ h.bk.lt).trans h.rh, fun k => ?_, fun s hs k hk2 => ?_, fun s hs p c m e => ?_, fun j hj k hk2 => ?_, fun j hj k hk2 => ?_, ?_, fun k hk2 => extR_le hz hk2 h.rt⟩
 · by_cases e : s = t
   · subst e
     simp only [updH_same]
     exact hq
   · simp only [updH_ne _ _ e]
     have h1 : ∀ k, fpQ (x.qp s) (x.vw s) (x.vd s) k → ¬ fpQ (x.qp t) (x.vw t) (x.vd t) k := fun k h2 => nF k (by rw [h.rq s hs k h2]; omega)
     exact (h.qs s hs).kept hk (h1 _ (.inl rfl)) (fun k hk => h1 _ (.inr (.inl hk))) (fun k hk => h1 _ (.inr (.inr hk)))
 · obtain ⟨a, b, d, e2, e3⟩ := h.ss s hs p c m e
   obtain ⟨⟨r1, r2, r3⟩, r4⟩ := h.rs s hs p c m e
   exact ⟨a.beside (n' := x.n) (by rw [d, e2, e3]; exact hn) hk (nF 0 (by rw [h.r0]; omega)) (nF _ (by rw [r1]; omega)) (nF _ (by rw [r2]; omega)) (nF _ (by rw [r3]; omega)) (fun k hk => nF k (by rw [(r4 k hk).1]; omega)), b, d, e2, e3⟩
 · by_cases hlt : k < w.heap.size
   · rw [low k hlt]; exact h.rn k
   · constructor
     · intro e
       exact absurd (h.nd.hi k e) hlt
     · intro e
       unfold extR at e
       rw [if_neg hlt] at e
       split at e <;> omega
 · by_cases e : s = t
   · subst e
     simp only [updH_same] at hk2
     rcases ho k hk2 with h1 | h1
     · rw [low k (by have := h.rt k (by rw [hF k h1]; omega); omega)]
       exact hF k h1
     · exact extR_new h1 ((hq.lt k hk2).2)
   · simp only [updH_ne _ _ e] at hk2
     have h1 := h.rq s hs k hk2
     rw [low k (h.rt k (by omega))]
     exact h1
 · obtain ⟨⟨r1, r2, r3⟩, r4⟩ := h.rs s hs p c m e
   refine ⟨⟨?_, ?_, ?_⟩, fun k hk2 => ?_⟩
   · rw [low _ (h.rt _ (by omega))]; exact r1
   · rw [low _ (h.rt _ (by omega))]; exact r2
   · rw [low _ (h.rt _ (by omega))]; exact r3
   · have := r4 k hk2
     rw [low k this.2]
     exact ⟨this.1, by omega⟩
 · have := h.rl j hj k hk2
   rw [low k this.2]
   exact ⟨this.1, by omega⟩
 · have := h.rv j hj k hk2
   rw [low k this.2]
   exact ⟨this.1, by omega⟩
 · rw [low 0 (by have := h.bk.lt; omega)]
   exact h.r0
theorem HAt.array (h : HAt w H ρ x) {n' : NS} (hn : NandAt w' H.S H.V H.zs n') (hk : Keeps H.S.T w w') : HAt w' H ρ { x with n := n' } := by
 have hF : KpF (fun k => ρ k = 1) w w' := hk.kpf (fun k e => (h.rn k).1 e)
 have hz := hk.size
 refine ⟨hn, (hF.block _ h.bk.lt (by show ¬ ρ _ = 1; rw [h.rh]; omega)).trans h.bk, h.fl.kpf hF (by show ¬ ρ _ = 1; rw [h.r0]; omega), fun j hj => hF.ints (h.li j hj) (fun k hk => by show ¬ ρ _ = 1; rw [(h.rl j hj k hk).1]; omega), fun s hs => ?_, fun s hs p c m e => ?_,
   h.rh, h.rn, h.rq, fun s hs p c m e => ⟨(h.rs s hs p c m e).1, fun k hk2 => ⟨((h.rs s hs p c m e).2 k hk2).1, Nat.lt_of_lt_of_le ((h.rs s hs p c m e).2 k hk2).2 hz⟩⟩, fun j hj k hk2 => ⟨(h.rl j hj k hk2).1, Nat.lt_of_lt_of_le (h.rl j hj k hk2).2 hz⟩,
   fun j hj k hk2 => ⟨(h.rv j hj k hk2).1, Nat.lt_of_lt_of_le (h.rv j hj k hk2).2 hz⟩, h.r0, fun k hk2 => Nat.lt_of_lt_of_le (h.rt k hk2) hz⟩
 · have h1 : ∀ k, fpQ (x.qp s) (x.vw s) (x.vd s) k → ¬ ρ k = 1 := fun k h2 => by rw [h.rq s hs k h2]; omega
   exact (h.qs s hs).kept hF (h1 _ (.inl rfl)) (fun k hk => h1 _ (.inr (.inl hk))) (fun k hk => h1 _ (.inr (.inr hk)))
 · obtain ⟨a, b, d, e2, e3⟩ := h.ss s hs p c m e
   obtain ⟨⟨r1, r2, r3⟩, r4⟩ := h.rs s hs p c m e
   exact ⟨a.beside (n' := n') (by rw [d, e2, e3]; exact hn) hF (by show ¬ ρ _ = 1; rw [h.r0]; omega) (by show ¬ ρ _ = 1; rw [r1]; omega) (by show ¬ ρ _ = 1; rw [r2]; omega) (by show ¬ ρ _ = 1; rw [r3]; omega) (fun k hk => by show ¬ ρ _ = 1; rw [(r4 k hk).1]; omega), b, d, e2, e3⟩
theorem HAt.own (h : HAt w H ρ x) (hR : Roles H.S) (sl' : Int) (hb : Blk w' H.hb 95 (hsC H { x with sl := sl' })) (hg : w.grownBy w' (some H.hb)) (hn : NandAt w' H.S H.V H.zs x.n) : HAt w' H ρ { x with sl := sl' } := by
 have hF : KpF (fun k => ρ k = 2) w w' := KpF.of_grown hg (fun k e => by injection e with e; rw [← e]; exact h.rh)
 have hz := hg.size
 refine ⟨hn, hb, h.fl.kpf hF (by show ¬ ρ _ = 2; rw [h.r0]; omega), fun j hj => hF.ints (h.li j hj) (fun k hk => by show ¬ ρ _ = 2; rw [(h.rl j hj k hk).1]; omega), fun s hs => ?_, fun s hs p c m e => ?_,
   h.rh, h.rn, h.rq, fun s hs p c m e => ⟨(h.rs s hs p c m e).1, fun k hk2 => ⟨((h.rs s hs p c m e).2 k hk2).1, Nat.lt_of_lt_of_le ((h.rs s hs p c m e).2 k hk2).2 hz⟩⟩, fun j hj k hk2 => ⟨(h.rl j hj k hk2).1, Nat.lt_of_lt_of_le (h.rl j hj k hk2).2 hz⟩,
   fun j hj k hk2 => ⟨(h.rv j hj k hk2).1, Nat.lt_of_lt_of_le (h.rv j hj k hk2).2 hz⟩, h.r0, fun k hk2 => Nat.lt_of_lt_of_le (h.rt k hk2) hz⟩
 · have h1 : ∀ k, fpQ (x.qp s) (x.vw s) (x.vd s) k → ¬ ρ k = 2 := fun k h2 => by rw [h.rq s hs k h2]; omega
   exact (h.qs s hs).kept hF (h1 _ (.inl rfl)) (fun k hk => h1 _ (.inr (.inl hk))) (fun k hk => h1 _ (.inr (.inr hk)))
 · obtain ⟨a, b, d, e2, e3⟩ := h.ss s hs p c m e
   obtain ⟨⟨r1, r2, r3⟩, r4⟩ := h.rs s hs p c m e
   exact ⟨a.beside (n' := x.n) (by rw [d, e2, e3]; exact hn) hF (by show ¬ ρ _ = 2; rw [h.r0]; omega) (by show ¬ ρ _ = 2; rw [r1]; omega) (by show ¬ ρ _ = 2; rw [r2]; omega) (by show ¬ ρ _ = 2; rw [r3]; omega) (fun k hk => by show ¬ ρ _ = 2; rw [(r4 k hk).1]; omega), b, d, e2, e3⟩
theorem HAt.newL (h : HAt w H ρ x) (hR : Roles H.S) (L' : Led) (VL' : Nat → Value) (hb : Blk w' H.hb 95 (hsC H { x with L := L', VL := VL' })) (hg : w.grownBy w' (some H.hb)) (hn : NandAt w' H.S H.V H.zs x.n) (hl : LedIs w L' VL') (hlo : ∀ j, j < 4 → ∀ k, (VL' j).ownBlock = some k → ρ k = 0 ∧ k < w.heap.size) : HAt w' H ρ { x with L := L', VL := VL' } := by
 have hF : KpF (fun k => ρ k = 2) w w' := KpF.of_grown hg (fun k e => by injection e with e; rw [← e]; exact h.rh)
 have hz := hg.size
 refine ⟨hn, hb, h.fl.kpf hF (by show ¬ ρ _ = 2; rw [h.r0]; omega), fun j hj => hF.ints (hl j hj) (fun k hk => by show ¬ ρ _ = 2; rw [(hlo j hj k hk).1]; omega), fun s hs => ?_, fun s hs p c m e => ?_,
   h.rh, h.rn, h.rq, fun s hs p c m e => ⟨(h.rs s hs p c m e).1, fun k hk2 => ⟨((h.rs s hs p c m e).2 k hk2).1, Nat.lt_of_lt_of_le ((h.rs s hs p c m e).2 k hk2).2 hz⟩⟩, fun j hj k hk2 => ⟨(hlo j hj k hk2).1, Nat.lt_of_lt_of_le (hlo j hj k hk2).2 hz⟩,
   fun j hj k hk2 => ⟨(h.rv j hj k hk2).1, Nat.lt_of_lt_of_le (h.rv j hj k hk2).2 hz⟩, h.r0, fun k hk2 => Nat.lt_of_lt_of_le (h.rt k hk2) hz⟩
 · have h1 : ∀ k, fpQ (x.qp s) (x.vw s) (x.vd s) k → ¬ ρ k = 2 := fun k h2 => by rw [h.rq s hs k h2]; omega
   exact (h.qs s hs).kept hF (h1 _ (.inl rfl)) (fun k hk => h1 _ (.inr (.inl hk))) (fun k hk => h1 _ (.inr (.inr hk)))
 · obtain ⟨a, b, d, e2, e3⟩ := h.ss s hs p c m e
   obtain ⟨⟨r1, r2, r3⟩, r4⟩ := h.rs s hs p c m e
   exact ⟨a.beside (n' := x.n) (by rw [d, e2, e3]; exact hn) hF (by show ¬ ρ _ = 2; rw [h.r0]; omega) (by show ¬ ρ _ = 2; rw [r1]; omega) (by show ¬ ρ _ = 2; rw [r2]; omega) (by show ¬ ρ _ = 2; rw [r3]; omega) (fun k hk => by show ¬ ρ _ = 2; rw [(r4 k hk).1]; omega), b, d, e2, e3⟩
theorem HAt.store (h : HAt w H ρ x) {t : Nat} (ht : t < 4) {p : SP} {c : SC} {m m' : SM} (he : x.st t = some (p, c, m)) (hs' : StAt w' p c m') (hk : Keeps (tS p c) w w') : HAt w' H ρ { x with n := m'.n, st := updH x.st t (some (p, c, m')) } := by
 obtain ⟨_, ok, cS, cz, pV⟩ := h.ss t ht p c m he
 obtain ⟨⟨q1, q2, q3⟩, q4⟩ := h.rs t ht p c m he
 have hF : KpF (fun k => ρ k = 1 ∨ ρ k = 7 + t) w w' := hk.kpf (fun k e => by
   unfold tS at e
   split at e
   · rename_i h1
     rcases h1 with rfl | rfl | rfl
     · exact .inr q1
     · exact .inr q2
     · exact .inr q3
   · rw [cS] at e
     exact .inl ((h.rn k).1 e))
 have hn : NandAt w' H.S H.V H.zs m'.n := by rw [← cS, ← cz, ← pV]; exact hs'.nd
 have hz := hk.size
 have e0 : hsC H { x with n := m'.n, st := updH x.st t (some (p, c, m')) } = hsC H x := by
   have e1 : ptS (updH x.st t (some (p, c, m')) t) = ptS (x.st t) := by rw [updH_same, he]; rfl
   have e2 : ∀ j, j < 4 → ptS (updH x.st t (some (p, c, m')) j) = ptS (x.st j) := fun j hj => by
     by_cases e : j = t
     · subst e; exact e1
     · rw [updH_ne _ _ e]
   unfold hsC
   simp only [e2 0 (by omega), e2 1 (by omega), e2 2 (by omega), e2 3 (by omega)]
 refine ⟨hn, by rw [e0]; exact (hF.block _ h.bk.lt (by show ¬ (ρ _ = 1 ∨ ρ _ = 7 + t); rw [h.rh]; omega)).trans h.bk, h.fl.kpf hF (by show ¬ (ρ _ = 1 ∨ ρ _ = 7 + t); rw [h.r0]; omega), fun j hj => hF.ints (h.li j hj) (fun k hk => by show ¬ (ρ _ = 1 ∨ ρ _ = 7 + t); rw [(h.rl j hj k hk).1]; omega), fun s hs => ?_, fun s hs p2 c2 m2 e => ?_,
   h.rh, h.rn, h.rq, fun s hs p2 c2 m2 e => ?_, fun j hj k hk2 => ⟨(h.rl j hj k hk2).1, Nat.lt_of_lt_of_le (h.rl j hj k hk2).2 hz⟩,
   fun j hj k hk2 => ⟨(h.rv j hj k hk2).1, Nat.lt_of_lt_of_le (h.rv j hj k hk2).2 hz⟩, h.r0, fun k hk2 => Nat.lt_of_lt_of_le (h.rt k hk2) hz⟩
 · have h1 : ∀ k, fpQ (x.qp s) (x.vw s) (x.vd s) k → ¬ (ρ k = 1 ∨ ρ k = 7 + t) := fun k h2 => by rw [h.rq s hs k h2]; omega
   exact (h.qs s hs).kept hF (h1 _ (.inl rfl)) (fun k hk => h1 _ (.inr (.inl hk))) (fun k hk => h1 _ (.inr (.inr hk)))
 · by_cases es : s = t
   · subst es
     simp only [updH_same, Option.some.injEq, Prod.mk.injEq] at e
     obtain ⟨rfl, rfl, rfl⟩ := e
     exact ⟨hs', ok, cS, cz, pV⟩
   · simp only [updH_ne _ _ es] at e
     obtain ⟨a, b, d, e2, e3⟩ := h.ss s hs p2 c2 m2 e
     obtain ⟨⟨r1, r2, r3⟩, r4⟩ := h.rs s hs p2 c2 m2 e
     exact ⟨a.beside (n' := m'.n) (by rw [d, e2, e3]; exact hn) hF (by show ¬ (ρ _ = 1 ∨ ρ _ = 7 + t); rw [h.r0]; omega) (by show ¬ (ρ _ = 1 ∨ ρ _ = 7 + t); rw [r1]; omega) (by show ¬ (ρ _ = 1 ∨ ρ _ = 7 + t); rw [r2]; omega) (by show ¬ (ρ _ = 1 ∨ ρ _ = 7 + t); rw [r3]; omega)
       (fun k hk => by show ¬ (ρ _ = 1 ∨ ρ _ = 7 + t); rw [(r4 k hk).1]; omega), b, d, e2, e3⟩
 · by_cases es : s = t
   · subst es
     simp only [updH_same, Option.some.injEq, Prod.mk.injEq] at e
     obtain ⟨rfl, rfl, rfl⟩ := e
     exact ⟨⟨q1, q2, q3⟩, fun k hk2 => ⟨(q4 k hk2).1, Nat.lt_of_lt_of_le (q4 k hk2).2 hz⟩⟩
   · simp only [updH_ne _ _ es] at e
     exact ⟨(h.rs s hs p2 c2 m2 e).1, fun k hk2 => ⟨((h.rs s hs p2 c2 m2 e).2 k hk2).1, Nat.lt_of_lt_of_le ((h.rs s hs p2 c2 m2 e).2 k hk2).2 hz⟩⟩
end
end Go.Proofs.YtfgifgglcafadaaGreatDoor

namespace Go.Proofs.YtfgifgglcafadaaGreatDoor
set_option linter.unusedVariables false
set_option linter.unusedSimpArgs false
set_option linter.unusedVariables false
set_option linter.unusedSimpArgs false
set_option maxRecDepth 100000
open Go.RowKit
section
variable {w : World} {H : HC} {ρ : Nat → Nat} {x : HX}
theorem HAt.c0 (h : HAt w H ρ x) : w.cell? ⟨H.hb, 0, none⟩ = some (.pointer (some ⟨H.S.pb, 0, none⟩)) := h.bk.cell 0
theorem HAt.c1 (h : HAt w H ρ x) : w.cell? ⟨H.hb, 1, none⟩ = some (.pointer (some ⟨H.S.db, 0, none⟩)) := h.bk.cell 1
theorem HAt.c2 (h : HAt w H ρ x) : w.cell? ⟨H.hb, 2, none⟩ = some (.pointer (some ⟨H.S.nb, 0, none⟩)) := h.bk.cell 2
theorem HAt.cS (h : HAt w H ρ x) {t : Nat} (ht : t < 4) : w.cell? ⟨H.hb, 25 + t, none⟩ = some (ptS (x.st t)) := (h.bk.cell _).trans (hsC_st H x ht)
theorem HAt.cQ (h : HAt w H ρ x) {t : Nat} (ht : t < 4) : w.cell? ⟨H.hb, 29 + t, none⟩ = some (.pointer (some ⟨x.qp t, 0, none⟩)) := (h.bk.cell _).trans (hsC_qp H x ht)
theorem HAt.cT (h : HAt w H ρ x) {t : Nat} (ht : t < 4) : w.cell? ⟨H.hb, 5 + t * 5, none⟩ = some (.bool (x.L.t t).th) := (h.bk.cell _).trans (hsC_th H x ht)
theorem HAt.cN (h : HAt w H ρ x) : w.cell? ⟨H.hb, 33, none⟩ = some (.int .i64 x.sl) := h.bk.cell 33
theorem up21 (h : HAt w H ρ x) : Calls Tryz.prog 13 #[.pointer (some ⟨H.hb, 0, none⟩)] w fun e w' => e = .returned (.bool (!x.n.off)) ∧ w = w' := by
 have c0 := h.c0
 have G := gone_is _ _ _ _ _ h.nd.pow
 obtain ⟨b, hb⟩ : ∃ b, x.n.off = b := ⟨_, rfl⟩
 rw [hb] at G ⊢
 clear h hb
 go_enter Tryz.func13, Tryz.ntmps13
 go_wp2_with (go_at_call 47; refine G.mono ?_; rintro e w' ⟨rfl, rfl⟩)
 go_ret
 exact ⟨rfl, rfl⟩
theorem up_nil21 (w : World) : Calls Tryz.prog 13 #[.pointer none] w fun e w' => e = .returned (.bool false) ∧ w = w' := by
 go_enter Tryz.func13, Tryz.ntmps13
 go_wp2
 go_ret
 exact ⟨rfl, rfl⟩
theorem drop21 (h : HAt w H ρ x) (ho : x.n.off = false) (u : FrameMode) : CallsD Tryz.prog 67 #[.pointer (some ⟨H.hb, 0, none⟩)] u w fun e u' w' => u' = u ∧ (e = .returned (.tuple #[]) ∧ w = w') := by
 have U := up21 h
 rw [ho] at U
 clear h ho
 go_enter_d Tryz.func67, Tryz.ntmps67
 go_wp2_with (go_at_call 13; refine U.mono ?_; rintro e w' ⟨rfl, rfl⟩)
 first | go_end0 | refine bodyPost_ret (results_none rfl _ _ _) rfl ?_
 exact ⟨rfl, rfl⟩
def lackT (off : Bool) (L : Led) (t : Int) : Int := if off then 12 else missT L t
set_option maxHeartbeats 800000 in
theorem lacks21 (h : HAt w H ρ x) (t : Int) : Calls Tryz.prog 48 #[.pointer (some ⟨H.hb, 0, none⟩), .int .i64 t] w fun e w' => e = .returned (.int .i64 (lackT x.n.off x.L t)) ∧ w = w' := by
 have U := up21 h
 unfold lackT
 cases ho : x.n.off
 · rw [ho] at U
   simp only [Bool.false_eq_true, if_false]
   unfold missT
   by_cases ht : inB t 0 3 = true
   · obtain ⟨k, rfl⟩ : ∃ k : Nat, t = k := ⟨t.toNat, by simp [inB] at ht; omega⟩
     have hk : k < 4 := by simp [inB] at ht; omega
     have c := h.cT hk
     rw [if_pos ht]
     simp only [Int.toNat_natCast]
     obtain ⟨b, hb⟩ : ∃ b, (x.L.t k).th = b := ⟨_, rfl⟩
     rw [hb] at c
     simp only [hb]
     have e0 : decide ((k : Int) < 0) = false := by simp
     have e1 : ¬ (4 : Int) ≤ (k : Int) := by omega
     clear h ho ht hb
     cases b
     all_goals
       simp only [if_true, Bool.false_eq_true, if_false]
       go_enter Tryz.func48, Tryz.ntmps48
       go_wp2_with (go_at_call 13; refine U.mono ?_; rintro e w' ⟨rfl, rfl⟩)
       go_ret
       exact ⟨rfl, rfl⟩
   · have ht' : t < 0 ∨ (0 ≤ t ∧ 4 ≤ t) := by simp [inB] at ht; omega
     rw [if_neg ht]
     clear h ho ht
     rcases ht' with h | ⟨h, h2⟩
     · have e0 : decide (t < 0) = true := by simpa using h
       go_enter Tryz.func48, Tryz.ntmps48
       go_wp2_with (go_at_call 13; refine U.mono ?_; rintro e w' ⟨rfl, rfl⟩)
       go_ret
       exact ⟨rfl, rfl⟩
     · have e0 : decide (t < 0) = false := by simpa using h
       go_enter Tryz.func48, Tryz.ntmps48
       go_wp2_with (go_at_call 13; refine U.mono ?_; rintro e w' ⟨rfl, rfl⟩)
       go_ret
       exact ⟨rfl, rfl⟩
 · rw [ho] at U
   simp only [if_true]
   clear h ho
   go_enter Tryz.func48, Tryz.ntmps48
   go_wp2_with (go_at_call 13; refine U.mono ?_; rintro e w' ⟨rfl, rfl⟩)
   go_ret
   exact ⟨rfl, rfl⟩
theorem lacks_nil21 (t : Int) (w : World) : Calls Tryz.prog 48 #[.pointer none, .int .i64 t] w fun e w' => e = .returned (.int .i64 12) ∧ w = w' := by
 have U := up_nil21 w
 go_enter Tryz.func48, Tryz.ntmps48
 go_wp2_with (go_at_call 13; refine U.mono ?_; rintro e w' ⟨rfl, rfl⟩)
 go_ret
 exact ⟨rfl, rfl⟩
theorem total21 (h : HAt w H ρ x) (hR : Roles H.S) (s r : Int) (hs : 1 ≤ s ∧ s ≤ 64) (hr : 0 ≤ r ∧ r ≤ 8) :
   Calls Tryz.prog 102 #[.pointer (some ⟨H.hb, 0, none⟩), .int .i64 s, .int .i64 r] w fun e w' => e = .returned (.int .i64 (s / H.S.pg + 2 + r)) ∧ w.grownBy w' none := by
 have c2 := h.c2
 have G := geometry18_is h.nd.fix
 have hb := hR.bds
 have T := fun wx => ruleTotal_any s r H.S.pg wx hs (by omega) (by omega)
 rw [hR.pgs] at T ⊢
 have hfld := geo_pages18 H.S.c H.S.d H.S.b H.S.p
 clear h hb
 go_enter Tryz.func102, Tryz.ntmps102
 go_wp2_with (first
   | (go_at_call 141; refine G.mono ?_; rintro e w1 ⟨rfl, hg1⟩)
   | (go_at_call 140; refine (T _).mono ?_; rintro e w2 ⟨rfl, rfl⟩))
 go_ret
 exact ⟨rfl, hg1⟩
end
def badG (S : NShape) : Value := .func (.func 25) #[.pointer (some ⟨S.nb, 0, none⟩)] #[]
theorem Tryz.funcNil21 (w : World) (n : Nat) : (binOp .eql 61 (.func (.func 25) #[.pointer (some ⟨n, 0, none⟩)] #[]) .nilFunc).run Tryz.prog w = .ok (.bool false) w := by kernel_rfl
theorem catch21 (p : Addr) (w : World) :
   CallsD Tryz.prog 205 #[.pointer (some p)] .returning w fun e u' w' => e = .returned (.tuple #[]) ∧ u' = .returning ∧ w' = w := by
 refine callsD_of_wpS Tryz.func205 rfl fun c₀ cs hu => ?_
 apply wpS_seq
 apply wpS_region
 simp [wpOpsS, go_sem, recoverD, hu, Tryz.ntmps205, Exit.thenS]
 refine wpS_cond (t := false) (by simp [Act.eval, Array.replicate]) ?_
 simp only [Bool.false_eq_true, if_false]
 refine wpS_of_wp (wp_skip ?_)
 cases c₀
 simp_all [bodyPostS, results, Tryz.results205]
section
variable {w : World} {S : NShape} {V : Nat → Value} {zs : Nat → List Int} {s : NS}
set_option maxHeartbeats 800000 in
theorem isBad21 (h : NandAt w S V zs s) (hR : Roles S) {i : Nat} (hi : i < S.all) :
   Calls Tryz.prog 169 #[badG S, .int .i64 (i : Int)] w fun e w' => e = .returned (.bool (s.mr i)) ∧ w.grownBy w' none := by
 have hmf : ∀ (fn : Fn) (first cap : Array Value) (w : World), (Instr.makeFunc fn first cap).run Tryz.prog w = .ok (.func fn first cap) w := fun _ _ _ _ => rfl
 have hE := World.grownBy_alloc w (.cells #[.bool false] 4) none
 have B := bad7_is (h.ext hE hR) hi
 obtain ⟨b, hb⟩ : ∃ b, s.mr i = b := ⟨_, rfl⟩
 obtain ⟨nb, hnb⟩ : ∃ b, S.nb = b := ⟨_, rfl⟩
 rw [hb] at B ⊢
 unfold badG
 rw [hnb] at B ⊢
 have fN := fun w => Tryz.funcNil21 w nb
 have HE := Lib.hid hE
 clear h hE hb hnb
 go_enter_defers Tryz.func169, Tryz.ntmps169
 go_wp2_with (go_at_call 25; refine B.mono ?_; rintro e w1 ⟨rfl, rfl⟩)
 refine leaves_cons (f := 205) (args := #[.pointer (some ⟨w.heap.size, 0, none⟩)]) (by simp) (by simp [go_sem]) ?_
 refine (catch21 ⟨w.heap.size, 0, none⟩ _).mono ?_
 rintro e u' w'' ⟨rfl, rfl, rfl⟩
 refine ⟨.bool b, by simp [settle, results, Tryz.results169, go_sem], rfl, ?_⟩
 exact World.grownBy_alloc w _ none
end
end Go.Proofs.YtfgifgglcafadaaGreatDoor

namespace Go.Proofs.YtfgifgglcafadaaGreatDoor
set_option linter.unusedVariables false
set_option linter.unusedSimpArgs false
set_option linter.unusedVariables false
set_option linter.unusedSimpArgs false
set_option maxRecDepth 100000
open Go.RowKit Go.Maps
def freeM (T : List Int) (mr : Nat → Bool) (k : Nat) : List Int := ((List.range k).map fun i : Nat => (2 : Int) + (i : Int)).filter fun x => decide (x ∉ T) && !mr x.toNat
theorem freeM_succ (T : List Int) (mr : Nat → Bool) (k : Nat) : freeM T mr (k + 1) = if (2 + (k : Int)) ∈ T ∨ mr (2 + (k : Int)).toNat = true then freeM T mr k else freeM T mr k ++ [2 + (k : Int)] := by
 unfold freeM
 rw [List.range_succ, List.map_append, List.filter_append]
 by_cases h : (2 + (k : Int)) ∈ T
 · simp [h]
 · cases h2 : mr (2 + (k : Int)).toNat
   · simp [h, h2]
   · simp [h, h2]
theorem freeM_len (T : List Int) (mr : Nat → Bool) (k : Nat) : (freeM T mr k).length ≤ k := by
 unfold freeM
 exact Nat.le_trans (List.length_filter_le _ _) (by simp)
theorem freeM_next {T : List Int} {mr : Nat → Bool} {m : Int} (h : 2 ≤ m) : freeM T mr (m + 1 - 2).toNat = if m ∈ T ∨ mr m.toNat = true then freeM T mr (m - 2).toNat else freeM T mr (m - 2).toNat ++ [m] := by
 obtain ⟨k, rfl⟩ : ∃ k : Nat, m = 2 + (k : Int) := ⟨(m - 2).toNat, by omega⟩
 rw [show ((2 + (k : Int)) + 1 - 2).toNat = k + 1 by omega, show ((2 + (k : Int)) - 2).toNat = k by omega]
 exact freeM_succ T mr k
theorem ints_take {w : World} {ao : Option Addr} {n cap k : Nat} {xs : List Int} (h : Ints w (.slice ao n cap) xs) (hk : k ≤ n) : Ints w (.slice ao k cap) (xs.take k) := by
 rcases h with ⟨h1, rfl⟩ | ⟨b, off, c2, h1, h2, h3⟩ | ⟨_, _, h1, h2⟩
 · simp only [Value.slice.injEq] at h1
   obtain ⟨rfl, rfl, rfl⟩ := h1
   obtain rfl : k = 0 := by omega
   exact .inl ⟨rfl, rfl⟩
 · simp only [Value.slice.injEq] at h1
   obtain ⟨rfl, rfl, rfl⟩ := h1
   have hl : (xs.take k).length = k := by rw [List.length_take]; omega
   refine .inr (.inl ⟨b, off, cap, by rw [hl], by omega, fun i hi => ?_⟩)
   rw [hl] at hi
   rw [h3 i (by omega), List.getD_eq_getElem?_getD, List.getD_eq_getElem?_getD, List.getElem?_take, if_pos hi]
 · simp only [Value.slice.injEq] at h1
   obtain ⟨rfl, rfl, rfl⟩ := h1
   subst h2
   obtain rfl : k = 0 := by omega
   exact .inr (.inr ⟨_, _, rfl, by simp⟩)
section
variable {w : World} {S : NShape} {V : Nat → Value} {zs : Nat → List Int} {s : NS}
set_option maxHeartbeats 3200000 in
theorem free21_any (h : NandAt w S V zs s) (hR : Roles S) (L : Led) (VL : Nat → Value) (hL : LedIs w L VL) (hm : ∀ j, j < 4 → (L.t j).bs.length ≤ 1048576) (hwf : ∀ j, j < 4 → WfL (L.t j).bs) :
   Calls Tryz.prog 139 #[.agg (ledC L VL), .int .i64 S.all, badG S] w fun e w' => ∃ v, e = .returned v ∧ OwnI w.heap.size w' v (freeM (takenL L) s.mr (S.all - 2)) ∧ Ext w w' := by
 have hB := hR.bds
 have hb := Blk.new w 56 (ledC L VL)
 have hE0 := World.grownBy_alloc w (.cells (ledC L VL) 56) none
 obtain ⟨w1, hw1⟩ : ∃ v, w.alloc (.cells (ledC L VL) 56) = v := ⟨_, rfl⟩
 rw [hw1] at hb hE0
 have T := taken10_any L VL w1 (hL.ext hE0) hm
 have HE0 := Lib.hid hE0
 have HTL := Lib.hid (takenTo_len hm 4 (by omega))
 have HTW := Lib.hid (takenTo_wf hwf 4 (by omega))
 have BAD := Lib.hid (fun (i : Nat) (hi : i < S.all) (wx : World) (hE : w.grownBy wx none) => isBad21 (h.ext hE hR) hR hi)
 obtain ⟨n, hn⟩ : ∃ n : Int, (S.all : Int) = n := ⟨_, rfl⟩
 have HN := Lib.hid hn
 have hn3 : 3 ≤ n ∧ n ≤ 64 := by omega
 rw [hn]
 obtain ⟨g, hg⟩ : ∃ g, badG S = g := ⟨_, rfl⟩
 obtain ⟨fn, ff, fc, hgf⟩ : ∃ fn ff fc, g = .func fn ff fc := ⟨_, _, _, hg.symm⟩
 rw [hg] at BAD ⊢
 subst hgf
 clear hE0 hwf h hR hB hg hn
 go_enter Tryz.func139, Tryz.ntmps139
 go_wp2_with (first
   | (refine led_load _ rfl rfl hb rfl ?_)
   | (go_at_call 168; refine T.mono ?_; rintro e w2 ⟨v2, rfl, ho2, hE2⟩; have S2 := set10_any v2 (takenL L) w2 (owns_ints rfl ho2) (by have hq := HTL.out; show (takenTo L 4).length ≤ _; omega) HTW.out; have HE2 := Lib.hid hE2; clear ho2 hE2)
   | (go_at_call 167; refine S2.mono ?_; rintro e w3 ⟨mb, rfl, hM, hmb, hE3⟩; have HM := Lib.hid hM; have HE3 := Lib.hid hE3; clear S2 hM hE3))
 have hw3 : w.heap.size ≤ w3.heap.size := by have := HE0.out.size; have := HE2.out.size; have := HE3.out.size; omega
 have HE := Lib.hid (ext_trans (ext_trans HE0.out HE2.out) HE3.out)
 obtain ⟨T', hT'⟩ : ∃ T', takenL L = T' := ⟨_, rfl⟩
 rw [hT'] at HM
 have HTT := Lib.hid hT'
 clear hw1 hb hT' T hm hL HTW
 go_loopw [8, 9] (fun f b wr => ∃ (m : Int) (v : Value), 2 ≤ m ∧ (m ≤ n ∨ m = 2) ∧ v = f ∧ b = .int .i64 m ∧ OwnI w3.heap.size wr v (freeM T' s.mr (m - 2).toNat) ∧ Ext w3 wr) (fun _ b _ => (n - intOf b).toNat)
 case atStart => exact ⟨2, _, by omega, .inr rfl, rfl, rfl, World.ownsRow_nil w3 _ _ _, Ext.refl w3⟩
 case round =>
   obtain ⟨m, v, hm2, hmn, hvx, rfl, hO, hE1⟩ := hrel
   subst hvx
   have HO := Lib.hid hO
   have HE1 := Lib.hid hE1
   have HMN := Lib.hid hmn
   clear hO hE1 hmn
   by_cases hlt : m < n
   · have hwm : (Lit.int .i64 m).wf = true := WalkArith.wf_i64 (by omega)
     have HWM := Lib.hid hwm
     obtain ⟨p, hp⟩ : ∃ p, decide (m ∈ T') = p := ⟨_, rfl⟩
     have HP := Lib.hid hp
     have HFL := Lib.hid (freeM_len T' s.mr (m - 2).toNat)
     have HNX := Lib.hid (freeM_next (T := T') (mr := s.mr) hm2)
     clear hwm hp
     cases p
     · have BD := BAD.out m.toNat (by have := HN.out; omega) (wr.alloc (.cells #[] 118)) (ext_trans (ext_trans HE.out HE1.out) (World.grownBy_alloc wr _ none))
       rw [show ((m.toNat : Nat) : Int) = m by omega] at BD
       obtain ⟨bd, hbd⟩ : ∃ b, s.mr m.toNat = b := ⟨_, rfl⟩
       rw [hbd] at BD
       have HBD := Lib.hid hbd
       clear hbd
       cases bd
       · go_wp2_with (first
           | (at_lookup; go_loud (refine wpList_lookup_own_unit _ rfl _ _ 218 rfl 3 118 Tryz.keyedInt Tryz.underlying218 (Tryz.zeroUnit _) mb _ _ rfl (HM.out.kept HE1.out (by simp)) _ _ rfl (keyOf_int_mk Tryz.underlying3 HWM.out) ?_; rw [set_has, HP.out]))
           | (go_at_call 169; refine BD.mono ?_; rintro e w5 ⟨rfl, hE5⟩; have HE5 := Lib.hid (ext_trans (World.grownBy_alloc wr (.cells #[] 118) none) hE5); clear hE5)
           | (at_builtin; go_loud (refine append_ints rfl _ _ rfl w3.heap.size v (freeM T' s.mr (m - 2).toNat) rfl (own_kept HO.out (ext_trans HE5.out (World.grownBy_alloc w5 (.cells #[.int .i64 m] 3) none)) (by simp)) (.slice (some ⟨w5.heap.size, 0, none⟩) 1 1) [m] rfl (ints_one w5 m 3) ?_ ?_ ?_); (have hq := HFL.out; simp only [List.length_cons, List.length_nil]; omega); (have hq := HE1.out.size; have hq2 := HE5.out.size; simp; omega); intro v7 w7 ho7 hg7 _; have HO7 := Lib.hid ho7; have HE7 := Lib.hid (ext_own (ext_trans HE1.out (ext_trans HE5.out (World.grownBy_alloc w5 (.cells #[.int .i64 m] 3) none))) (own_kept HO.out (ext_trans HE5.out (World.grownBy_alloc w5 (.cells #[.int .i64 m] 3) none)) (by simp)) (Nat.le_refl _) hg7); clear ho7 hg7))
         go_roundw
         case rel =>
           refine ⟨m + 1, _, by omega, .inl (by omega), rfl, by go_num, ?_, HE7.out⟩
           rw [HNX.out, if_neg (by have h1 := HP.out; have h2 := HBD.out; rintro (h3 | h3); exact absurd h3 (by simpa using h1); rw [h2] at h3; cases h3)]
           exact HO7.out
         case measure => simp [intOf]; omega
       · go_wp2_with (first
           | (at_lookup; go_loud (refine wpList_lookup_own_unit _ rfl _ _ 218 rfl 3 118 Tryz.keyedInt Tryz.underlying218 (Tryz.zeroUnit _) mb _ _ rfl (HM.out.kept HE1.out (by simp)) _ _ rfl (keyOf_int_mk Tryz.underlying3 HWM.out) ?_; rw [set_has, HP.out]))
           | (go_at_call 169; refine BD.mono ?_; rintro e w5 ⟨rfl, hE5⟩; have HE5 := Lib.hid (ext_trans (World.grownBy_alloc wr (.cells #[] 118) none) hE5); clear hE5))
         go_roundw
         case rel =>
           refine ⟨m + 1, _, by omega, .inl (by omega), rfl, by go_num, ?_, ext_trans HE1.out HE5.out⟩
           rw [HNX.out, if_pos (.inr HBD.out)]
           exact own_kept HO.out HE5.out (by simp)
         case measure => simp [intOf]; omega
     · go_wp2_with (first
         | (at_lookup; go_loud (refine wpList_lookup_own_unit _ rfl _ _ 218 rfl 3 118 Tryz.keyedInt Tryz.underlying218 (Tryz.zeroUnit _) mb _ _ rfl (HM.out.kept HE1.out (by simp)) _ _ rfl (keyOf_int_mk Tryz.underlying3 HWM.out) ?_; rw [set_has, HP.out])))
       go_roundw
       case rel =>
         refine ⟨m + 1, _, by omega, .inl (by omega), rfl, by go_num, ?_, ext_trans HE1.out (World.grownBy_alloc wr _ none)⟩
         rw [HNX.out, if_pos (.inl (by simpa using HP.out))]
         exact own_kept HO.out (World.grownBy_alloc wr _ none) (by simp)
       case measure => simp [intOf]; omega
   · have HEND := Lib.hid (show (m - 2).toNat = S.all - 2 by have := HMN.out; have := HN.out; omega)
     go_wp2
     go_ret
     refine ⟨_, rfl, ?_, ext_trans HE.out HE1.out⟩
     have h := ownsRow_le HO.out hw3
     rw [HEND.out] at h
     rw [HTT.out]
     exact h
end
end Go.Proofs.YtfgifgglcafadaaGreatDoor
