/-
  Texts put together: JN DD JO JP.
-/
import Derived.Test.YtdnpdoipipfkoaaGreatDoorM15
import Derived.Test.YtdnpdoipipfkoaaGreatDoorM02
import Derived.Test.YtdnpdoipipfkoaaGreatDoorM05
import Derived.Test.YtdnpdoipipfkoaaGreatDoorM11
namespace Go.Proofs.YtdnpdoipipfkoaaGreatDoor
set_option linter.unusedVariables false
set_option linter.unusedSimpArgs false
set_option linter.unusedVariables false
set_option linter.unusedSimpArgs false
set_option maxRecDepth 100000
open Go.RowKit
def New18 (S : NShape) (V : Nat → Value) (zs : Nat → List Int) (s : NS) (who ep sz sp : Int) (bl : List Int) (w : World) (e : Ending) (w' : World) : Prop :=
 ∃ p : SP, e = .returned (.tuple #[.pointer (some ⟨p.sb, 0, none⟩), .int .i64 0]) ∧ StAt w' p ⟨S, zs, who, ep, sz, sp, bl⟩ ⟨s, [], [], 0, -1, false⟩ ∧ StOk p ⟨S, zs, who, ep, sz, sp, bl⟩ ∧ p.V = V ∧ w.grownBy w' none ∧ w.heap.size ≤ p.sb ∧ w.heap.size ≤ p.tb ∧ w.heap.size ≤ p.bb ∧ ∀ k, p.bv.ownBlock = some k → w.heap.size ≤ k
set_option maxHeartbeats 3200000 in
theorem new18 {w : World} {S : NShape} {V : Nat → Value} {zs : Nat → List Int} {s : NS} (h : NandAt w S V zs s) (hR : Roles S) (hF : Flds w) (h0 : S.T 0 = 0) (hz : ∀ j, j < 4 → (zs j).length ≤ 64) (hV : ∀ j, j < 4 → ∀ k, (V j).ownBlock = some k → k < w.heap.size)
   (who ep sz sp : Int) (hw : 0 ≤ who ∧ who < 4) (v : Value) (bl : List Int) (hv : Ints w v bl) (hb1 : 1 ≤ bl.length) (hb : bl.length ≤ 64) (hbr : ∀ i, i < bl.length → 2 ≤ bl.getD i 0 ∧ bl.getD i 0 < S.all) :
   Calls Tryz.prog 27 #[.pointer (some ⟨S.nb, 0, none⟩), .int .i64 who, .agg #[.bool true, .int .i64 ep, .int .i64 sz, .int .i64 sp, v]] w (New18 S V zs s who ep sz sp bl w) := by
 have hpg := hR.bds
 have CL := fun (wx : World) (hE : w.grownBy wx none) => clonei_any v bl wx (hv.kept hE (by simp)) hb
 have GE := fun (wx : World) (hE : w.grownBy wx none) => geometry18_is (h.ext hE hR).fix
 have TN := fun (wx : World) => new14_ok bl.length S.pg wx (by unfold newOk; omega)
 have BN := new13_is
 rw [hR.pgs] at TN
 have hfld := geo_pages18 S.c S.d S.b S.p
 obtain ⟨ao, cap, hvv⟩ : ∃ ao cap, v = .slice ao bl.length cap := by
   obtain ⟨ao, cap, _, _, h1, _⟩ := hv.form
   exact ⟨ao, cap, h1⟩
 subst hvv
 have HH := Lib.hid (And.intro h (And.intro hR (And.intro hF (And.intro h0 (And.intro hz (And.intro hV (And.intro hb hbr)))))))
 obtain ⟨n, hn⟩ : ∃ z, bl.length = z := ⟨_, rfl⟩
 rw [hn] at CL TN hb hb1 ⊢
 have HN := Lib.hid hn
 have hw1 : ¬ who < 0 := by omega
 have hw2 : ¬ who ≥ 4 := by omega
 clear h hR hF h0 hz hV hv hbr hn hw hpg
 have hE0 := World.grownBy_alloc w (.cells #[.bool true, .int .i64 ep, .int .i64 sz, .int .i64 sp, .slice ao n cap] 33) none
 have hB0 := Blk.new w 33 #[.bool true, .int .i64 ep, .int .i64 sz, .int .i64 sp, .slice ao n cap]
 obtain ⟨tb, htb⟩ : ∃ z, w.heap.size = z := ⟨_, rfl⟩
 obtain ⟨w0, hw0⟩ : ∃ z, w.alloc (.cells #[.bool true, .int .i64 ep, .int .i64 sz, .int .i64 sp, .slice ao n cap] 33) = z := ⟨_, rfl⟩
 rw [hw0] at hE0 hB0
 rw [htb] at hB0
 have HE0 := Lib.hid hE0
 have HTB := Lib.hid htb
 have q0 : w0.cell? ⟨tb, 0, none⟩ = some (.bool true) := hB0.cell 0
 have q4 : w0.cell? ⟨tb, 4, none⟩ = some (.slice ao n cap) := hB0.cell 4
 have HB0 := Lib.hid hB0
 clear hE0 hB0
 go_enter Tryz.func27, Tryz.ntmps27
 go_upto_region 1 with fail
 clear hw0 htb
 go_upto_region 4 with (go_at_call 49; refine (CL _ HE0.out).mono ?_; rintro e w1 ⟨v1, rfl, hI1, hg1, ho1⟩; have hB1 := HB0.out.ext hg1; have q5 : w1.cell? ⟨tb, 4, none⟩ = some (.slice ao n cap) := hB1.cell 4; have f5 := hB1.free 4; have HI1 := Lib.hid (And.intro hI1 (And.intro (ext_trans HE0.out hg1) ho1)); obtain ⟨ao1, cp1, _, _, hv1, _⟩ := hI1.form; rw [HN.out] at hv1; subst hv1; clear hI1 hg1 ho1)
 have hB2 : Blk (w1.setCell ⟨tb, 4, none⟩ (.slice ao1 n cp1)) tb 33 #[.bool true, .int .i64 ep, .int .i64 sz, .int .i64 sp, .slice ao1 n cp1] := hB1.set 4 _
 have hE2 : w.grownBy (w1.setCell ⟨tb, 4, none⟩ (.slice ao1 n cp1)) none := g17_new HI1.out.2.1 (gb_set (gb_refl w1 (some tb)) _ _) (by have := HTB.out; omega)
 have hI2 := HI1.out.1.kept (gb_set (gb_refl w1 (some tb)) 4 (.slice ao1 n cp1)) (fun k hk e => by injection e with e; subst e; have h1 := (HI1.out.2.2 k hk).1; have h2 := HE0.out.size; have h3 := HTB.out; have h4 := HB0.out.lt; omega)
 obtain ⟨w2, hw2⟩ : ∃ z, w1.setCell ⟨tb, 4, none⟩ (.slice ao1 n cp1) = z := ⟨_, rfl⟩
 have hsz2 : w2.heap.size = w1.heap.size := by rw [← hw2]; simp [World.setCell]
 rw [hw2] at hB2 hE2 hI2 ⊢
 have HI2 := Lib.hid (And.intro hI2 (And.intro hE2 (And.intro HI1.out.2.2 hsz2)))
 have hS : Blk w2.drew tb 33 #[.bool true, .int .i64 ep, .int .i64 sz, .int .i64 sp, .slice ao1 n cp1] ∧ w.grownBy w2.drew none := ⟨hB2, drewE hE2⟩
 clear hw2 hB1 q0 q4 q5 f5 HI1 HB0 hI2 hE2 hB2 hsz2 CL
 refine region_line [(0, true), (1, true), (2, true), (3, true), (4, true), (5, true), (6, true), (7, false), (8, true), (9, false), (10, false), (11, false), (12, false), (13, true), (14, true)] (fun y => Blk y tb 33 #[.bool true, .int .i64 ep, .int .i64 sz, .int .i64 sp, .slice ao1 n cp1] ∧ w.grownBy y none) (by kernel_rfl) (by kernel_rfl) (fun _ _ _ d _ h => by cases d <;> exact h) hS ?_
 repeat (refine line_read (a' := ?_) rfl (by kernel_rfl) (by kernel_rfl) hS (fun y hy K hK => ?_) ?_; rotate_left; · (obtain ⟨hb, _⟩ := hy; have r0 : y.cell? ⟨tb, 0, none⟩ = some (.bool true) := hb.cell 0; have r1 : y.cell? ⟨tb, 1, none⟩ = some (.int .i64 ep) := hb.cell 1; have r2 : y.cell? ⟨tb, 2, none⟩ = some (.int .i64 sz) := hb.cell 2; have r3 : y.cell? ⟨tb, 3, none⟩ = some (.int .i64 sp) := hb.cell 3; have r4 : y.cell? ⟨tb, 4, none⟩ = some (.slice ao1 n cp1) := hb.cell 4; clear hb; go_wp2; exact hK))
 refine line_act (by rfl) (fun K hK => ?_)
 go_wp2_with (go_at_call 54; refine (GE _ hS.2).mono ?_; rintro e w3 ⟨rfl, hg3⟩)
 have hS3 : Blk w3 tb 33 #[.bool true, .int .i64 ep, .int .i64 sz, .int .i64 sp, .slice ao1 n cp1] ∧ w.grownBy w3 none := ⟨hS.1.ext hg3, ext_trans hS.2 hg3⟩
 have hg23 : w2.grownBy w3 none := ⟨hg3.os, hg3.tape, hg3.output, hg3.size, hg3.block⟩
 refine hK _ _ (fun y => Blk y tb 33 #[.bool true, .int .i64 ep, .int .i64 sz, .int .i64 sp, .slice ao1 n cp1] ∧ w.grownBy y none) hS3 (fun _ h => h) ?_
 clear hK K hg3
 repeat (refine line_read (a' := ?_) rfl (by kernel_rfl) (by kernel_rfl) hS3 (fun y hy K hK => ?_) ?_; rotate_left; · (go_wp2; exact hK))
 refine line_act (by rfl) (fun K hK => ?_)
 go_wp2_with (go_at_call 53; refine (TN _).mono ?_; rintro e w4 ⟨t4, rfl, hA4, ht4, hg4⟩)
 have hS4 : Blk w4 tb 33 #[.bool true, .int .i64 ep, .int .i64 sz, .int .i64 sp, .slice ao1 n cp1] ∧ w.grownBy w4 none := ⟨hS3.1.ext hg4, ext_trans hS3.2 hg4⟩
 refine hK _ _ (fun y => Blk y tb 33 #[.bool true, .int .i64 ep, .int .i64 sz, .int .i64 sp, .slice ao1 n cp1] ∧ w.grownBy y none) hS4 (fun _ h => h) ?_
 clear hK K
 refine line_act (by rfl) (fun K hK => ?_)
 go_wp2_with (go_at_call 55; refine (BN _).mono ?_; rintro e w5 ⟨b5, rfl, hA5, hb5, hg5⟩)
 have hS5 : Blk w5 tb 33 #[.bool true, .int .i64 ep, .int .i64 sz, .int .i64 sp, .slice ao1 n cp1] ∧ w.grownBy w5 none := ⟨hS4.1.ext hg5, ext_trans hS4.2 hg5⟩
 refine hK _ _ (fun y => Blk y tb 33 #[.bool true, .int .i64 ep, .int .i64 sz, .int .i64 sp, .slice ao1 n cp1] ∧ w.grownBy y none) hS5 (fun _ h => h) ?_
 clear hK K
 refine line_act (by rfl) (fun K hK => ?_)
 go_wp2
 refine hK _ _ (fun y => Blk y tb 33 #[.bool true, .int .i64 ep, .int .i64 sz, .int .i64 sp, .slice ao1 n cp1] ∧ w.grownBy y none) hS5 (fun _ h => h) ?_
 clear hK K
 refine line_act (by rfl) (fun K hK => ?_)
 go_wp2
 have hg6 := World.grownBy_alloc w5 (.cells #[.pointer (some ⟨S.nb, 0, none⟩), .int .i64 who, .bool true, .int .i64 ep, .int .i64 sz, .int .i64 sp, .slice ao1 n cp1, .pointer (some ⟨t4, 0, none⟩), .pointer (some ⟨b5, 0, none⟩), .int .i64 0, .int .i64 (-1), .bool false] 91) none
 have hB6 := Blk.new w5 91 #[.pointer (some ⟨S.nb, 0, none⟩), .int .i64 who, .bool true, .int .i64 ep, .int .i64 sz, .int .i64 sp, .slice ao1 n cp1, .pointer (some ⟨t4, 0, none⟩), .pointer (some ⟨b5, 0, none⟩), .int .i64 0, .int .i64 (-1), .bool false]
 have hS6 := (show Blk _ tb 33 #[.bool true, .int .i64 ep, .int .i64 sz, .int .i64 sp, .slice ao1 n cp1] ∧ w.grownBy _ none from ⟨hS5.1.ext hg6, ext_trans hS5.2 hg6⟩)
 refine hK _ _ (fun y => Blk y tb 33 #[.bool true, .int .i64 ep, .int .i64 sz, .int .i64 sp, .slice ao1 n cp1] ∧ w.grownBy y none) hS6 (fun _ h => h) ?_
 clear hK K
 repeat (refine line_read (a' := ?_) rfl (by kernel_rfl) (by kernel_rfl) hS6 (fun y hy K hK => ?_) ?_; rotate_left; · (go_wp2; exact hK))
 refine line_end ?_
 go_wp2
 go_returns
 obtain ⟨h, hR, hF, h0, hz, hV, hbl, hbr⟩ := HH.out
 obtain ⟨hI2, hE2, ho1, hsz2⟩ := HI2.out
 have hg45 := ext_trans hg4 hg5
 have hg25 := ext_trans hg23 hg45
 have hsw := hE2.size
 have hs23 := hg23.size
 have hs4 := hA4.lt
 have hs5 := hA5
 have hb5l := bufLt _ _ _ hA5
 have hsb : w4.heap.size ≤ w5.heap.size := hg5.size
 have hF0 := hF.lt
 refine ⟨⟨w5.heap.size, t4, b5, V, .slice ao1 n cp1⟩, rfl, ⟨h.ext hS6.2 hR, ?_, bufStays _ _ _ _ hA5 (hg6.block _ hb5l (by simp)), hB6, hI2.kept (ext_trans hg25 hg6) (by simp), hF.ext hS6.2⟩, ?_, rfl, hS6.2, by simp only; omega, by simp only; omega, by simp only; omega, fun k hk => by have h1 := (ho1 k hk).1; have h2 := HE0.out.size; omega⟩
 · rw [show (⟨S, zs, who, ep, sz, sp, bl⟩ : SC).bl.length = n from HN.out]
   exact (hA4.ext hg5).ext hg6
 · have hfr : ∀ k, w.heap.size ≤ k → S.T k = 0 := fun k hk => h.fresh hk
   refine ⟨hR, hz, h0, hfr _ (by simp only; omega), hfr _ (by simp only; omega), hfr _ (by simp only; omega), by simp only; omega, by simp only; omega, by simp only; omega, by simp only; omega, by simp only; omega, by simp only; omega, fun j hj k hk => ?_, fun k hk => ?_, hbl, hbr⟩
   · have := hV j hj k hk
     simp only; omega
   · have h1 := ho1 k hk
     have h2 := HE0.out.size
     exact ⟨hfr k (by omega), by simp only; omega, by simp only; omega, by simp only; omega⟩
end Go.Proofs.YtdnpdoipipfkoaaGreatDoor

namespace Go.Proofs.YtdnpdoipipfkoaaGreatDoor
set_option linter.unusedVariables false
set_option linter.unusedSimpArgs false
set_option linter.unusedVariables false
set_option linter.unusedSimpArgs false
set_option maxRecDepth 100000
open Go.RowKit
theorem low_of {xs : List Int} {k : Nat} (hk : k < xs.length) (h : xs.getD k 0 < 1) : lowB xs = true := by
 rw [List.getD_eq_getElem?_getD, List.getElem?_eq_getElem hk] at h
 simp only [Option.getD_some] at h
 simp only [lowB, List.any_eq_true, decide_eq_true_eq]
 exact ⟨_, List.getElem_mem hk, h⟩
theorem low_none {xs : List Int} (h : ∀ j, j < xs.length → ¬ xs.getD j 0 < 1) : lowB xs = false := by
 simp only [lowB, List.any_eq_false, decide_eq_true_eq]
 intro x hx
 obtain ⟨j, hj, rfl⟩ := List.mem_iff_getElem.1 hx
 have := h j hj
 rw [List.getD_eq_getElem?_getD, List.getElem?_eq_getElem hj] at this
 exact this
set_option maxRecDepth 100000 in
set_option maxHeartbeats 1600000 in
theorem check5_any (U : Nat → Value) (zs : Nat → List Int) (w : World) (hF : Four w U zs) :
   Calls Tryz.prog 24 #[.agg #[U 0, U 1, U 2, U 3]] w fun e w' => e = .returned (.int .i64 (newE zs)) ∧ Ext w w' := by
 have HF := Lib.hid hF
 have shape : ∀ j, j < 4 → ∃ ao cap, U j = .slice ao (zs j).length cap := fun j hj => by
   obtain ⟨ao, cap, _, _, h, _⟩ := (hF.ints j hj).form
   exact ⟨ao, cap, h⟩
 obtain ⟨a0, c0, h0⟩ := shape 0 (by omega)
 obtain ⟨a1, c1, h1⟩ := shape 1 (by omega)
 obtain ⟨a2, c2, h2⟩ := shape 2 (by omega)
 obtain ⟨a3, c3, h3⟩ := shape 3 (by omega)
 have HU := Lib.hid (And.intro h0 (And.intro h1 (And.intro h2 h3)))
 rw [h0, h1, h2, h3]
 clear shape h0 h1 h2 h3 hF
 have hg1 := World.grownBy_alloc w (.cells #[.slice a0 (zs 0).length c0, .slice a1 (zs 1).length c1, .slice a2 (zs 2).length c2, .slice a3 (zs 3).length c3] 65) none
 have b0 : (w.alloc (.cells #[.slice a0 (zs 0).length c0, .slice a1 (zs 1).length c1, .slice a2 (zs 2).length c2, .slice a3 (zs 3).length c3] 65)).cell? ⟨w.heap.size, 0, none⟩ = some (.slice a0 (zs 0).length c0) := by simp
 have b1 : (w.alloc (.cells #[.slice a0 (zs 0).length c0, .slice a1 (zs 1).length c1, .slice a2 (zs 2).length c2, .slice a3 (zs 3).length c3] 65)).cell? ⟨w.heap.size, 1, none⟩ = some (.slice a1 (zs 1).length c1) := by simp
 have b2 : (w.alloc (.cells #[.slice a0 (zs 0).length c0, .slice a1 (zs 1).length c1, .slice a2 (zs 2).length c2, .slice a3 (zs 3).length c3] 65)).cell? ⟨w.heap.size, 2, none⟩ = some (.slice a2 (zs 2).length c2) := by simp
 have b3 : (w.alloc (.cells #[.slice a0 (zs 0).length c0, .slice a1 (zs 1).length c1, .slice a2 (zs 2).length c2, .slice a3 (zs 3).length c3] 65)).cell? ⟨w.heap.size, 3, none⟩ = some (.slice a3 (zs 3).length c3) := by simp
 have i0 : ∀ w, (Instr.index 65 (.agg #[.slice a0 (zs 0).length c0, .slice a1 (zs 1).length c1, .slice a2 (zs 2).length c2, .slice a3 (zs 3).length c3]) (.int .i64 0)).run Tryz.prog w = .ok (.slice a0 (zs 0).length c0) w := fun _ => by kernel_rfl
 have i1 : ∀ w, (Instr.index 65 (.agg #[.slice a0 (zs 0).length c0, .slice a1 (zs 1).length c1, .slice a2 (zs 2).length c2, .slice a3 (zs 3).length c3]) (.int .i64 1)).run Tryz.prog w = .ok (.slice a1 (zs 1).length c1) w := fun _ => by kernel_rfl
 have i2 : ∀ w, (Instr.index 65 (.agg #[.slice a0 (zs 0).length c0, .slice a1 (zs 1).length c1, .slice a2 (zs 2).length c2, .slice a3 (zs 3).length c3]) (.int .i64 2)).run Tryz.prog w = .ok (.slice a2 (zs 2).length c2) w := fun _ => by kernel_rfl
 have i3 : ∀ w, (Instr.index 65 (.agg #[.slice a0 (zs 0).length c0, .slice a1 (zs 1).length c1, .slice a2 (zs 2).length c2, .slice a3 (zs 3).length c3]) (.int .i64 3)).run Tryz.prog w = .ok (.slice a3 (zs 3).length c3) w := fun _ => by kernel_rfl
 go_enter Tryz.func24, Tryz.ntmps24
 go_wp2
 obtain ⟨w1, hw1⟩ : ∃ v, w.alloc (.cells #[.slice a0 (zs 0).length c0, .slice a1 (zs 1).length c1, .slice a2 (zs 2).length c2, .slice a3 (zs 3).length c3] 65) = v := ⟨_, rfl⟩
 rw [hw1] at hg1 b0 b1 b2 b3 ⊢
 have HB := Lib.hid (And.intro b0 (And.intro b1 (And.intro b2 b3)))
 clear hw1 b0 b1 b2 b3
 go_loopw [10] (fun i wr => ∃ k : Nat, k ≤ 4 ∧ i = .int .i64 k ∧ (∀ j, j < k → ¬ 64 < (zs j).length) ∧ w1 = wr) (fun i _ => 4 - (intOf i).toNat)
 case atStart => exact ⟨0, by omega, rfl, fun j hj => by omega, rfl⟩
 case round =>
   obtain ⟨k, hk, rfl, hsmall, rfl⟩ := hrel
   have HS := Lib.hid hsmall
   clear hsmall
   by_cases hlt : k < 4
   · have h4 : k = 0 ∨ k = 1 ∨ k = 2 ∨ k = 3 := by omega
     rcases h4 with rfl | rfl | rfl | rfl
     · by_cases hbig : (64 : Int) < ((zs 0).length : Int)
       · have hE := newE_many (zs := zs) (j := 0) (by omega) (by omega)
         have HE := Lib.hid hE
         clear hE
         go_wp2
         go_ret
         exact ⟨by rw [HE.out]; simp, hg1⟩
       · have HN := Lib.hid (show ¬ 64 < (zs 0).length by omega)
         go_wp2
         go_roundw
         case rel =>
           refine ⟨1, by omega, by go_num, fun j hj => ?_, trivial⟩
           by_cases e : j = 0
           · subst e; exact HN.out
           · exact HS.out j (by omega)
         case measure => simp [intOf]
     · by_cases hbig : (64 : Int) < ((zs 1).length : Int)
       · have hE := newE_many (zs := zs) (j := 1) (by omega) (by omega)
         have HE := Lib.hid hE
         clear hE
         go_wp2
         go_ret
         exact ⟨by rw [HE.out]; simp, hg1⟩
       · have HN := Lib.hid (show ¬ 64 < (zs 1).length by omega)
         go_wp2
         go_roundw
         case rel =>
           refine ⟨2, by omega, by go_num, fun j hj => ?_, trivial⟩
           by_cases e : j = 1
           · subst e; exact HN.out
           · exact HS.out j (by omega)
         case measure => simp [intOf]
     · by_cases hbig : (64 : Int) < ((zs 2).length : Int)
       · have hE := newE_many (zs := zs) (j := 2) (by omega) (by omega)
         have HE := Lib.hid hE
         clear hE
         go_wp2
         go_ret
         exact ⟨by rw [HE.out]; simp, hg1⟩
       · have HN := Lib.hid (show ¬ 64 < (zs 2).length by omega)
         go_wp2
         go_roundw
         case rel =>
           refine ⟨3, by omega, by go_num, fun j hj => ?_, trivial⟩
           by_cases e : j = 2
           · subst e; exact HN.out
           · exact HS.out j (by omega)
         case measure => simp [intOf]
     · by_cases hbig : (64 : Int) < ((zs 3).length : Int)
       · have hE := newE_many (zs := zs) (j := 3) (by omega) (by omega)
         have HE := Lib.hid hE
         clear hE
         go_wp2
         go_ret
         exact ⟨by rw [HE.out]; simp, hg1⟩
       · have HN := Lib.hid (show ¬ 64 < (zs 3).length by omega)
         go_wp2
         go_roundw
         case rel =>
           refine ⟨4, by omega, by go_num, fun j hj => ?_, trivial⟩
           by_cases e : j = 3
           · subst e; exact HN.out
           · exact HS.out j (by omega)
         case measure => simp [intOf]
   · have HS := Lib.hid (fun j hj => HS.out j (by omega) : ∀ j, j < 4 → ¬ 64 < (zs j).length)
     have hkn : ¬ ((k : Int) < 4) := by omega
     clear hlt hk
     obtain ⟨q0, q1, q2, q3⟩ := HB.out
     go_wp2
     clear q0 q1 q2 q3
     go_loopw [18] (fun i wr => ∃ k : Nat, k ≤ 4 ∧ i = .int .i64 k ∧ (∀ j, j < k → lowB (zs j) = false) ∧ w1 = wr) (fun i _ => 4 - (intOf i).toNat)
     case atStart => exact ⟨0, by omega, rfl, fun j hj => by omega, rfl⟩
     case round =>
       obtain ⟨k, hk, rfl, hL, rfl⟩ := hrel
       have HL := Lib.hid hL
       clear hL
       by_cases hlt : k < 4
       · have h4 : k = 0 ∨ k = 1 ∨ k = 2 ∨ k = 3 := by omega
         rcases h4 with rfl | rfl | rfl | rfl
         · obtain ⟨ao, cp, bb, oo, hv, hcc⟩ := ((HF.out.kept hg1).ints 0 (by omega)).form
           rw [HU.out.1] at hv
           obtain ⟨rfl, rfl⟩ : a0 = ao ∧ c0 = cp := by simpa using hv
           have HC := Lib.hid hcc
           have hlen : (zs 0).length ≤ 64 := by have := HS.out 0 (by omega); omega
           clear hv hcc
           go_wp2
           go_loopw [23] (fun i wr => ∃ m : Nat, m ≤ (zs 0).length ∧ i = .int .i64 m ∧ (∀ j, j < m → ¬ (zs 0).getD j 0 < 1) ∧ w1 = wr) (fun i _ => (zs 0).length - (intOf i).toNat)
           case atStart => exact ⟨0, by omega, rfl, fun j hj => by omega, rfl⟩
           case round =>
             obtain ⟨m, hm, rfl, hnot, rfl⟩ := hrel
             have NOT := Lib.hid hnot
             clear hnot
             by_cases hmt : m < (zs 0).length
             · obtain ⟨rfl, hcell⟩ := HC.out m hmt
               obtain ⟨x, hx⟩ : ∃ x, (zs 0).getD m 0 = x := ⟨_, rfl⟩
               rw [hx] at hcell
               by_cases hx1 : x < 1
               · have hE5 := newE_low (zs := zs) HS.out (j := 0) (by omega) (low_of hmt (by rw [hx]; exact hx1))
                 have HE := Lib.hid hE5
                 clear hE5 hx
                 go_wp2
                 go_ret
                 exact ⟨by rw [HE.out]; simp, hg1⟩
               · have HX := Lib.hid hx
                 clear hx
                 go_wp2
                 go_roundw
                 case rel =>
                   refine ⟨m + 1, by omega, by go_num, fun j hj => ?_, trivial⟩
                   by_cases e : j = m
                   · subst e; rw [HX.out]; omega
                   · have := NOT.out j (by omega); omega
                 case measure => simp [intOf]; omega
             · obtain rfl : m = (zs 0).length := by omega
               have HLW := Lib.hid (low_none NOT.out)
               go_wp2
               go_roundw
               case rel =>
                 refine ⟨1, by omega, by go_num, fun j hj => ?_, trivial⟩
                 by_cases e : j = 0
                 · subst e; exact HLW.out
                 · exact HL.out j (by omega)
               case measure => simp [intOf]
         · obtain ⟨ao, cp, bb, oo, hv, hcc⟩ := ((HF.out.kept hg1).ints 1 (by omega)).form
           rw [HU.out.2.1] at hv
           obtain ⟨rfl, rfl⟩ : a1 = ao ∧ c1 = cp := by simpa using hv
           have HC := Lib.hid hcc
           have hlen : (zs 1).length ≤ 64 := by have := HS.out 1 (by omega); omega
           clear hv hcc
           go_wp2
           go_loopw [23] (fun i wr => ∃ m : Nat, m ≤ (zs 1).length ∧ i = .int .i64 m ∧ (∀ j, j < m → ¬ (zs 1).getD j 0 < 1) ∧ w1 = wr) (fun i _ => (zs 1).length - (intOf i).toNat)
           case atStart => exact ⟨0, by omega, rfl, fun j hj => by omega, rfl⟩
           case round =>
             obtain ⟨m, hm, rfl, hnot, rfl⟩ := hrel
             have NOT := Lib.hid hnot
             clear hnot
             by_cases hmt : m < (zs 1).length
             · obtain ⟨rfl, hcell⟩ := HC.out m hmt
               obtain ⟨x, hx⟩ : ∃ x, (zs 1).getD m 0 = x := ⟨_, rfl⟩
               rw [hx] at hcell
               by_cases hx1 : x < 1
               · have hE5 := newE_low (zs := zs) HS.out (j := 1) (by omega) (low_of hmt (by rw [hx]; exact hx1))
                 have HE := Lib.hid hE5
                 clear hE5 hx
                 go_wp2
                 go_ret
                 exact ⟨by rw [HE.out]; simp, hg1⟩
               · have HX := Lib.hid hx
                 clear hx
                 go_wp2
                 go_roundw
                 case rel =>
                   refine ⟨m + 1, by omega, by go_num, fun j hj => ?_, trivial⟩
                   by_cases e : j = m
                   · subst e; rw [HX.out]; omega
                   · have := NOT.out j (by omega); omega
                 case measure => simp [intOf]; omega
             · obtain rfl : m = (zs 1).length := by omega
               have HLW := Lib.hid (low_none NOT.out)
               go_wp2
               go_roundw
               case rel =>
                 refine ⟨2, by omega, by go_num, fun j hj => ?_, trivial⟩
                 by_cases e : j = 1
                 · subst e; exact HLW.out
                 · exact HL.out j (by omega)
               case measure => simp [intOf]
         · obtain ⟨ao, cp, bb, oo, hv, hcc⟩ := ((HF.out.kept hg1).ints 2 (by omega)).form
           rw [HU.out.2.2.1] at hv
           obtain ⟨rfl, rfl⟩ : a2 = ao ∧ c2 = cp := by simpa using hv
           have HC := Lib.hid hcc
           have hlen : (zs 2).length ≤ 64 := by have := HS.out 2 (by omega); omega
           clear hv hcc
           go_wp2
           go_loopw [23] (fun i wr => ∃ m : Nat, m ≤ (zs 2).length ∧ i = .int .i64 m ∧ (∀ j, j < m → ¬ (zs 2).getD j 0 < 1) ∧ w1 = wr) (fun i _ => (zs 2).length - (intOf i).toNat)
           case atStart => exact ⟨0, by omega, rfl, fun j hj => by omega, rfl⟩
           case round =>
             obtain ⟨m, hm, rfl, hnot, rfl⟩ := hrel
             have NOT := Lib.hid hnot
             clear hnot
             by_cases hmt : m < (zs 2).length
             · obtain ⟨rfl, hcell⟩ := HC.out m hmt
               obtain ⟨x, hx⟩ : ∃ x, (zs 2).getD m 0 = x := ⟨_, rfl⟩
               rw [hx] at hcell
               by_cases hx1 : x < 1
               · have hE5 := newE_low (zs := zs) HS.out (j := 2) (by omega) (low_of hmt (by rw [hx]; exact hx1))
                 have HE := Lib.hid hE5
                 clear hE5 hx
                 go_wp2
                 go_ret
                 exact ⟨by rw [HE.out]; simp, hg1⟩
               · have HX := Lib.hid hx
                 clear hx
                 go_wp2
                 go_roundw
                 case rel =>
                   refine ⟨m + 1, by omega, by go_num, fun j hj => ?_, trivial⟩
                   by_cases e : j = m
                   · subst e; rw [HX.out]; omega
                   · have := NOT.out j (by omega); omega
                 case measure => simp [intOf]; omega
             · obtain rfl : m = (zs 2).length := by omega
               have HLW := Lib.hid (low_none NOT.out)
               go_wp2
               go_roundw
               case rel =>
                 refine ⟨3, by omega, by go_num, fun j hj => ?_, trivial⟩
                 by_cases e : j = 2
                 · subst e; exact HLW.out
                 · exact HL.out j (by omega)
               case measure => simp [intOf]
         · obtain ⟨ao, cp, bb, oo, hv, hcc⟩ := ((HF.out.kept hg1).ints 3 (by omega)).form
           rw [HU.out.2.2.2] at hv
           obtain ⟨rfl, rfl⟩ : a3 = ao ∧ c3 = cp := by simpa using hv
           have HC := Lib.hid hcc
           have hlen : (zs 3).length ≤ 64 := by have := HS.out 3 (by omega); omega
           clear hv hcc
           go_wp2
           go_loopw [23] (fun i wr => ∃ m : Nat, m ≤ (zs 3).length ∧ i = .int .i64 m ∧ (∀ j, j < m → ¬ (zs 3).getD j 0 < 1) ∧ w1 = wr) (fun i _ => (zs 3).length - (intOf i).toNat)
           case atStart => exact ⟨0, by omega, rfl, fun j hj => by omega, rfl⟩
           case round =>
             obtain ⟨m, hm, rfl, hnot, rfl⟩ := hrel
             have NOT := Lib.hid hnot
             clear hnot
             by_cases hmt : m < (zs 3).length
             · obtain ⟨rfl, hcell⟩ := HC.out m hmt
               obtain ⟨x, hx⟩ : ∃ x, (zs 3).getD m 0 = x := ⟨_, rfl⟩
               rw [hx] at hcell
               by_cases hx1 : x < 1
               · have hE5 := newE_low (zs := zs) HS.out (j := 3) (by omega) (low_of hmt (by rw [hx]; exact hx1))
                 have HE := Lib.hid hE5
                 clear hE5 hx
                 go_wp2
                 go_ret
                 exact ⟨by rw [HE.out]; simp, hg1⟩
               · have HX := Lib.hid hx
                 clear hx
                 go_wp2
                 go_roundw
                 case rel =>
                   refine ⟨m + 1, by omega, by go_num, fun j hj => ?_, trivial⟩
                   by_cases e : j = m
                   · subst e; rw [HX.out]; omega
                   · have := NOT.out j (by omega); omega
                 case measure => simp [intOf]; omega
             · obtain rfl : m = (zs 3).length := by omega
               have HLW := Lib.hid (low_none NOT.out)
               go_wp2
               go_roundw
               case rel =>
                 refine ⟨4, by omega, by go_num, fun j hj => ?_, trivial⟩
                 by_cases e : j = 3
                 · subst e; exact HLW.out
                 · exact HL.out j (by omega)
               case measure => simp [intOf]
       · obtain rfl : k = 4 := by omega
         have e0 := newE_ok (zs := zs) HS.out HL.out
         have HE := Lib.hid e0
         clear e0
         go_wp2
         go_ret
         exact ⟨by rw [HE.out]; simp, hg1⟩
end Go.Proofs.YtdnpdoipipfkoaaGreatDoor

namespace Go.Proofs.YtdnpdoipipfkoaaGreatDoor
set_option linter.unusedVariables false
set_option linter.unusedSimpArgs false
set_option linter.unusedVariables false
set_option linter.unusedSimpArgs false
set_option maxRecDepth 100000
open Go.RowKit
def umN (x k : Int) : Int := (IntKind.u64.wrap x).tmod k
theorem umN_in (x k : Int) (hk : 0 < k) : 0 ≤ umN x k ∧ umN x k < k := by
 have h0 : 0 ≤ IntKind.u64.wrap x := by
   have h1 : IntKind.u64.wrap x = x % (2 ^ IntKind.u64.bits : Int) := by
     unfold IntKind.wrap
     simp [IntKind.signed]
   have h2 : (2 ^ IntKind.u64.bits : Int) = 18446744073709551616 := by decide
   rw [h2] at h1
   omega
 unfold umN
 exact ⟨Int.tmod_nonneg k h0, Int.tmod_lt_of_pos _ hk⟩
theorem wrap_in (x : Int) (h : -9223372036854775808 ≤ x ∧ x ≤ 9223372036854775807) : wrap64 x = x := by unfold wrap64; omega
def pgO (x : Int) : Int := 2 + umN x 5
def szO (x : Int) : Int := 1 + umN x 12
def prO (x : Int) : Int := umN x 4
def toO (size spare pages more : Int) : Int := szO size / pgO pages + 2 + prO spare + umN more 3
theorem pgO_is (x : Int) : wrap64 (2 + wrap64 ((IntKind.u64.wrap x).tmod 5)) = pgO x := by
 have h := umN_in x 5 (by decide)
 unfold pgO umN at *
 rw [wrap_in ((IntKind.u64.wrap x).tmod 5) (by omega), wrap_in _ (by omega)]
theorem szO_is (x : Int) : wrap64 (1 + wrap64 ((IntKind.u64.wrap x).tmod 12)) = szO x := by
 have h := umN_in x 12 (by decide)
 unfold szO umN at *
 rw [wrap_in ((IntKind.u64.wrap x).tmod 12) (by omega), wrap_in _ (by omega)]
theorem prO_is (x : Int) : wrap64 ((IntKind.u64.wrap x).tmod 4) = prO x := by
 have h := umN_in x 4 (by decide)
 unfold prO umN at *
 rw [wrap_in _ (by omega)]
theorem moO_is (x : Int) : wrap64 ((IntKind.u64.wrap x).tmod 3) = umN x 3 := by
 have h := umN_in x 3 (by decide)
 unfold umN at *
 rw [wrap_in _ (by omega)]
theorem pgO_in (x : Int) : 2 ≤ pgO x ∧ pgO x ≤ 6 := by have := umN_in x 5 (by decide); unfold pgO; omega
theorem szO_in (x : Int) : 1 ≤ szO x ∧ szO x ≤ 12 := by have := umN_in x 12 (by decide); unfold szO; omega
theorem prO_in (x : Int) : 0 ≤ prO x ∧ prO x ≤ 3 := by have := umN_in x 4 (by decide); unfold prO; omega
theorem toO_in (a b c d : Int) : 2 ≤ toO a b c d ∧ toO a b c d ≤ 13 := by
 have h1 := pgO_in c
 have h2 := szO_in a
 have h3 := prO_in b
 have h4 := umN_in d 3 (by decide)
 have h5 : 0 ≤ szO a / pgO c := Int.ediv_nonneg (by omega) (by omega)
 have h6 : szO a / pgO c ≤ 6 := by
   have := Int.ediv_le_ediv (c := 2) (by omega) (show szO a ≤ 12 by omega)
   have h7 : szO a / pgO c ≤ szO a / 2 := by
     apply Int.le_ediv_of_mul_le (by omega)
     have h8 := Int.ediv_mul_le (szO a) (show pgO c ≠ 0 by omega)
     have h9 : szO a / pgO c * 2 ≤ szO a / pgO c * pgO c := Int.mul_le_mul_of_nonneg_left (by omega) h5
     omega
   omega
 unfold toO
 omega
def blO (n : Nat) : List Int := List.map (fun i : Nat => 2 + (i : Int)) (List.range n)
theorem blO_succ (n : Nat) : blO (n + 1) = blO n ++ [2 + (n : Int)] := by unfold blO; rw [List.range_succ, List.map_append]; rfl
theorem blO_len (n : Nat) : (blO n).length = n := by simp [blO]
theorem blO_at (n i : Nat) (hi : i < n) : (blO n).getD i 0 = 2 + i := by
 unfold blO
 rw [List.getD_eq_getElem?_getD, List.getElem?_map, List.getElem?_range hi]
 rfl
def zsO (fz : List Int) (j : Nat) : List Int := if j = 1 then fz else []
def UO (fv : Value) (j : Nat) : Value := if j = 1 then fv else .slice none 0 0
theorem four_O {w : World} {fv : Value} {fz : List Int} (hI : Ints w fv fz) (hl : fz.length ≤ 9223372036854775807) (hb : ∀ k, fv.ownBlock = some k → k < w.heap.size) : Four w (UO fv) (zsO fz) := by
 refine ⟨fun j hj => ?_, fun j hj => ?_, fun j hj k hk => ?_⟩
 · unfold UO zsO
   split
   · exact hI
   · exact .inl ⟨rfl, rfl⟩
 · unfold zsO; split
   · exact hl
   · simp
 · unfold UO at hk
   split at hk
   · exact hb k hk
   · simp [Value.ownBlock] at hk
structure OpenS (w : World) (sz sp pg : Int) (tot : Nat) (fz : List Int) (p : SP) (S : NShape) (v : Value) (w' : World) : Prop where
 st : StAt w' p ⟨S, zsO fz, 1, 1, sz, sp, blO tot⟩ ⟨blankS [] (-1) false 0 (fun _ => 0) (fun _ => 0), [], [], 0, -1, false⟩
 ok : StOk p ⟨S, zsO fz, 1, 1, sz, sp, blO tot⟩
 vf : ∃ ao n cap, v = .slice ao n cap
 ext : w.grownBy w' none
 pgs : (S.pg : Int) = pg
 all : S.all = 2 + tot
 lo : ∀ k, S.T k ≠ 0 → w.heap.size ≤ k
 lb : w.heap.size ≤ p.sb ∧ w.heap.size ≤ p.tb ∧ w.heap.size ≤ p.bb
 vi : Ints w' v (blO tot)
 vl : ∀ k, v.ownBlock = some k → w.heap.size ≤ k ∧ k < w'.heap.size ∧ S.T k = 0 ∧ k ≠ p.sb ∧ k ≠ p.tb ∧ k ≠ p.bb
 hV : ∀ j, j < 4 → ∀ k, (p.V j).ownBlock = some k → k < w'.heap.size
def OpnP (sz sp pg : Int) (tot : Nat) (fz : List Int) (w : World) (e : Ending) (w' : World) : Prop :=
 (newE (zsO fz) ≠ 0 ∧ (∃ ao n cap, e = .returned (.tuple #[.pointer none, .pointer none, .pointer none, .pointer none, .agg #[.bool true, .int .i64 1, .int .i64 sz, .int .i64 sp, .slice ao n cap]])) ∧ w.grownBy w' none) ∨
 (newE (zsO fz) = 0 ∧ ∃ p S v, e = .returned (.tuple #[.pointer (some ⟨p.sb, 0, none⟩), .pointer (some ⟨S.nb, 0, none⟩), .pointer (some ⟨S.pb, 0, none⟩), .pointer (some ⟨S.db, 0, none⟩), .agg #[.bool true, .int .i64 1, .int .i64 sz, .int .i64 sp, v]]) ∧
   OpenS w sz sp pg tot fz p S v w')
section
variable {ops : Array Oper} {rest : List Oper} {o : Oper} {a : Act} {w : World} {Q : Exit → Act → World → Prop}
theorem Tryz.sizeTen18 : (Tryz.prog.info? 33).map (·.size) = some 5 := by kernel_rfl
def teC (a : Bool) (b c d : Int) (v : Value) : Array Value := #[.bool a, .int .i64 b, .int .i64 c, .int .i64 d, v]
theorem ten_store18 (x y : Operand) (ho : o.op = .store 33 x y) {g : Nat} (hx : a.eval x = .pointer (some ⟨g, 0, none⟩)) {u : Bool} {b c d : Int} {ao : Option Addr} {n cap : Nat} (hy : a.eval y = .agg (teC u b c d (.slice ao n cap))) {old : Array Value} (hg : Blk w g 33 old) (hold : old.size = 5) (hwt : Region.wanted o (yielded ops a.tmps) = true)
   (h : ∀ w', Blk w' g 33 (teC u b c d (.slice ao n cap)) → w.grownBy w' (some g) → w'.heap.size = w.heap.size → wpList Tryz.prog ops Q rest (a.put o.dst undef) w') : wpList Tryz.prog ops Q (o :: rest) a w :=
 wpList_store_part hwt _ x y ho g 0 5 _ hx hy _ old _ hg rfl Tryz.sizeTen18 (by omega) (by simp [teC, Value.oneCell']) (by
   have h1 : (teC u b c d (.slice ao n cap)).toList.length = 5 := rfl
   rw [h1, List.drop_of_length_le (by simp; omega)]
   simp) h
theorem ten_read18 (hwt : Region.wanted o (yielded ops a.tmps) = true) (x : Operand) (ho : o.op = .load 33 x) {g : Nat} (hx : a.eval x = .pointer (some ⟨g, 0, none⟩)) {u : Bool} {b c d : Int} {v : Value} (hg : Blk w g 33 (teC u b c d v))
   (h : wpList Tryz.prog ops Q rest (a.put o.dst (.agg #[.bool u, .int .i64 b, .int .i64 c, .int .i64 d, v])) w) : wpList Tryz.prog ops Q (o :: rest) a w :=
 wpList_load_part hwt _ x ho g 0 5 hx _ _ _ _ _ hg (show (teC u b c d v).extract 0 (0 + 5) = teC u b c d v from rfl) rfl Tryz.underlying33 rfl Tryz.sizeTen18 h
theorem Tryz.sizeArr18 : (Tryz.prog.info? 65).map (·.size) = some 4 := by kernel_rfl
def arC (f : Option Addr) (n cap : Nat) : Array Value := #[.slice none 0 0, .slice f n cap, .slice none 0 0, .slice none 0 0]
theorem arr_read18 (hwt : Region.wanted o (yielded ops a.tmps) = true) (x : Operand) (ho : o.op = .load 65 x) {g : Nat} (hx : a.eval x = .pointer (some ⟨g, 0, none⟩)) {f : Option Addr} {n cap : Nat} (hg : Blk w g 65 (arC f n cap))
   (h : wpList Tryz.prog ops Q rest (a.put o.dst (.agg #[.slice none 0 0, .slice f n cap, .slice none 0 0, .slice none 0 0])) w) : wpList Tryz.prog ops Q (o :: rest) a w :=
 wpList_load_part hwt _ x ho g 0 4 hx _ _ _ _ _ hg (show (arC f n cap).extract 0 (0 + 4) = arC f n cap from rfl) rfl Tryz.underlying65 rfl Tryz.sizeArr18 h
theorem arr_store18 (x y : Operand) (ho : o.op = .store 65 x y) {g : Nat} (hx : a.eval x = .pointer (some ⟨g, 0, none⟩)) {f : Option Addr} {n cap : Nat} (hy : a.eval y = .agg (arC f n cap)) {old : Array Value} (hg : Blk w g 65 old) (hold : old.size = 4) (hwt : Region.wanted o (yielded ops a.tmps) = true)
   (h : ∀ w', Blk w' g 65 (arC f n cap) → w.grownBy w' (some g) → w'.heap.size = w.heap.size → wpList Tryz.prog ops Q rest (a.put o.dst undef) w') : wpList Tryz.prog ops Q (o :: rest) a w :=
 wpList_store_part hwt _ x y ho g 0 4 _ hx hy _ old _ hg rfl Tryz.sizeArr18 (by omega) (by simp [arC, Value.oneCell']) (by
   have h1 : (arC f n cap).toList.length = 4 := rfl
   rw [h1, List.drop_of_length_le (by simp; omega)]
   simp) h
end
structure LisS (w0 wr : World) (ab tb : Nat) (size spare pages more : Int) (fv : Value) (sz sp : Int) (k : Nat) : Prop where
 bx : Blk wr ab 24 #[.int .i64 size, .int .i64 spare, .int .i64 pages, .int .i64 more, fv]
 tx : ∃ ao cap, Blk wr tb 33 #[.bool true, .int .i64 1, .int .i64 sz, .int .i64 sp, .slice ao k cap] ∧ wr.ownsRow (tb + 1) 3 1 (.slice ao k cap) k ((blO k).map (Value.int .i64))
 ex : w0.grownBy wr none
 rx : Blk wr (ab + 1) 33 #[.bool false, .int .i64 0, .int .i64 0, .int .i64 0, .slice none 0 0]
theorem StAt.other {w w' : World} {p : SP} {c : SC} {m : SM} {g : Nat} (h : StAt w p c m) (ok : StOk p c) (hg : w.grownBy w' (some g)) (ht : c.S.T g = 0) (h0 : g ≠ 0) (h1 : g ≠ p.sb) (h2 : g ≠ p.tb) (h3 : g ≠ p.bb) (hv : ∀ k, p.bv.ownBlock = some k → k ≠ g) (hV : ∀ j, j < 4 → ∀ k, (p.V j).ownBlock = some k → k ≠ g)
   (hb : ∀ o n, w.cell? ⟨g, o, none⟩ ≠ some (.int .u8 n)) : StAt w' p c m :=
 ⟨h.nd.other18 ok.R hg ht hb hV, h.tb.kept hg (fun e => by injection e with e; exact h2 e.symm), bufStays _ _ _ _ h.bf (hg.block _ (bufLt _ _ _ h.bf) (fun e => by injection e with e; exact h3 e.symm)), h.bk.kept hg (fun e => by injection e with e; exact h1 e.symm),
   h.iv.kept hg (fun k hk e => by injection e with e; exact hv k hk e), h.fl.kept hg (fun e => by injection e with e; exact h0 e.symm)⟩
theorem ten_nobyte {w : World} {g : Nat} {u : Bool} {b c d : Int} {ao : Option Addr} {n cap : Nat} (h : Blk w g 33 (teC u b c d (.slice ao n cap))) (o : Nat) (x : Int) : w.cell? ⟨g, o, none⟩ ≠ some (.int .u8 x) := by
 intro hc
 rw [h.cell o] at hc
 have hm := Array.mem_of_getElem? hc
 simp [teC] at hm
theorem LisS.ext {w0 wr wx : World} {ab tb : Nat} {size spare pages more : Int} {fv : Value} {sz sp : Int} {k : Nat} (h : LisS w0 wr ab tb size spare pages more fv sz sp k) (hg : wr.grownBy wx none) : LisS w0 wx ab tb size spare pages more fv sz sp k := by
 obtain ⟨ao, cap, h1, h2⟩ := h.tx
 exact ⟨h.bx.ext hg, ⟨ao, cap, h1.ext hg, h2.kept hg (Classical.em _)⟩, ext_trans h.ex hg, h.rx.ext hg⟩
set_option maxHeartbeats 6400000 in
theorem open18 (size spare pages more : Int) (fv : Value) (fz : List Int) (w : World) (hF : Flds w) (hI : Ints w fv fz) (hfb : ∀ k, fv.ownBlock = some k → k < w.heap.size) (hfl : fz.length ≤ 64) :
   Calls Tryz.prog 7 #[.agg #[.int .i64 size, .int .i64 spare, .int .i64 pages, .int .i64 more, fv], .int .i64 (-1)] w (OpnP (szO size) (prO spare) (pgO pages) (toO size spare pages more).toNat fz w) := by
 obtain ⟨fo, fc, hfv⟩ : ∃ ao cap, fv = .slice ao fz.length cap := by
   obtain ⟨ao, cap, _, _, h1, _⟩ := hI.form
   exact ⟨ao, cap, h1⟩
 obtain ⟨fl, hfle⟩ : ∃ z, fz.length = z := ⟨_, rfl⟩
 rw [hfle] at hfv
 subst hfv
 have F4 := four_O hI (by omega) hfb
 have H0 := Lib.hid (And.intro hF (And.intro hI (And.intro hfb (And.intro hfl F4))))
 have p1 := pgO_is pages
 have p2 := szO_is size
 have p3 := prO_is spare
 have p4 := moO_is more
 have P1 := Lib.hid (pgO_in pages)
 have P2 := Lib.hid (szO_in size)
 have P3 := Lib.hid (prO_in spare)
 have P4 := Lib.hid (umN_in more 3 (by decide))
 have P5 := Lib.hid (toO_in size spare pages more)
 have TT := fun wx => ruleTotal_any (szO size) (prO spare) (pgO pages) wx (by have := szO_in size; omega) (by have := prO_in spare; omega) (by have := pgO_in pages; omega)
 obtain ⟨pg, hpg⟩ : ∃ z, pgO pages = z := ⟨_, rfl⟩
 obtain ⟨sz, hsz⟩ : ∃ z, szO size = z := ⟨_, rfl⟩
 obtain ⟨sp, hsp⟩ : ∃ z, prO spare = z := ⟨_, rfl⟩
 obtain ⟨mo, hmo⟩ : ∃ z, umN more 3 = z := ⟨_, rfl⟩
 obtain ⟨tt, htt⟩ : ∃ z, toO size spare pages more = z := ⟨_, rfl⟩
 have HT := Lib.hid (show tt = sz / pg + 2 + sp + mo by rw [← htt, ← hsz, ← hpg, ← hsp, ← hmo]; rfl)
 rw [hpg] at p1 P1 TT ⊢
 rw [hsz] at p2 P2 TT ⊢
 rw [hsp] at p3 P3 TT ⊢
 rw [hmo] at p4 P4
 rw [htt] at P5 ⊢
 obtain ⟨tq, htq⟩ : ∃ z, sz / pg + 2 + sp = z := ⟨_, rfl⟩
 rw [htq] at HT TT
 obtain ⟨n, rfl⟩ : ∃ n : Nat, tt = n := ⟨tt.toNat, by have := P5.out; omega⟩
 rw [Int.toNat_natCast]
 have htb : 0 ≤ tq ∧ tq ≤ 13 := by have := HT.out; have := P4.out; have := P5.out; omega
 have hmb : 0 ≤ mo ∧ mo ≤ 3 := by have := P4.out; omega
 clear hpg hsz hsp hmo htt htq hF hI hfb hfl F4
 obtain ⟨ab, hab⟩ : ∃ z, w.heap.size = z := ⟨_, rfl⟩
 have HAB := Lib.hid hab
 have g1 := World.grownBy_alloc w (.cells #[.int .i64 size, .int .i64 spare, .int .i64 pages, .int .i64 more, .slice fo fl fc] 24) none
 have b1 := Blk.new w 24 #[.int .i64 size, .int .i64 spare, .int .i64 pages, .int .i64 more, .slice fo fl fc]
 obtain ⟨w1, hw1⟩ : ∃ y, w.alloc (.cells #[.int .i64 size, .int .i64 spare, .int .i64 pages, .int .i64 more, .slice fo fl fc] 24) = y := ⟨_, rfl⟩
 rw [hw1] at g1 b1
 have s1 : w1.heap.size = ab + 1 := by rw [← hw1]; simp [hab]
 have g2 := World.grownBy_alloc w1 (.cells #[.bool false, .int .i64 0, .int .i64 0, .int .i64 0, .slice none 0 0] 33) none
 have b2 := Blk.new w1 33 #[.bool false, .int .i64 0, .int .i64 0, .int .i64 0, .slice none 0 0]
 obtain ⟨w2, hw2⟩ : ∃ y, w1.alloc (.cells #[.bool false, .int .i64 0, .int .i64 0, .int .i64 0, .slice none 0 0] 33) = y := ⟨_, rfl⟩
 rw [hw2] at g2 b2
 have s2 : w2.heap.size = ab + 1 + 1 := by rw [← hw2]; simp [s1]
 rw [hab] at b1
 rw [s1] at b2
 have a0 : w2.cell? ⟨ab, 0, none⟩ = some (.int .i64 size) := (b1.ext g2).cell 0
 have a1 : w2.cell? ⟨ab, 1, none⟩ = some (.int .i64 spare) := (b1.ext g2).cell 1
 have a2 : w2.cell? ⟨ab, 2, none⟩ = some (.int .i64 pages) := (b1.ext g2).cell 2
 have H2 := Lib.hid (And.intro (ext_trans g1 g2) (And.intro (b1.ext g2) (And.intro b2 s2)))
 clear g1 b1 g2 b2
 go_enter Tryz.func7, Tryz.ntmps7
 go_upto_region 2 with fail
 rw [p1]
 clear hw1 hw2 s1 hab p1
 go_quiet (fail)
 rename_i nq
 rw [p2, p3]
 have hBn := Blk.new (w2.drewN nq) 33 (teC false 0 0 0 (.slice none 0 0))
 have g3 := World.grownBy_alloc (w2.drewN nq) (.cells (teC false 0 0 0 (.slice none 0 0)) 33) none
 have d0 : (w2.drewN nq).heap.size = ab + 1 + 1 := s2
 rw [d0] at hBn
 clear a0 a1 a2 p2 p3
 go_upto_region 4 with (refine ten_store18 _ _ rfl rfl rfl hBn rfl rfl ?_; intro w3 hb3 hg3 hs3)
 have g3' : w2.grownBy w3 none := by
   have h5 := g17_new (w := w2.drewN nq) g3 hg3 (by rw [d0]; exact Nat.le_refl _)
   exact ⟨h5.os, h5.tape, h5.output, h5.size, h5.block⟩
 have H3 := Lib.hid (show LisS w w3 ab (ab + 1 + 1) size spare pages more (.slice fo fl fc) sz sp 0 from ⟨H2.out.2.1.ext g3', ⟨none, 0, hb3, ⟨by simp [blO], .inl ⟨rfl, rfl⟩⟩⟩, ext_trans H2.out.1 g3', H2.out.2.2.1.ext g3'⟩)
 have hS : w3.drew.cell? ⟨ab, 3, none⟩ = some (.int .i64 more) := (H3.out.bx).cell 3
 clear s2 d0 g3 hb3 g3' hg3 hs3 hBn
 refine region_line [(0, true), (1, true), (2, true), (4, true), (5, true), (6, true), (7, true), (8, true), (10, true), (3, false), (9, true)] (fun y => y.cell? ⟨ab, 3, none⟩ = some (.int .i64 more)) (by kernel_rfl) (by kernel_rfl) (fun _ _ _ d _ h => by cases d <;> exact h) hS ?_
 repeat (refine line_read (a' := ?_) rfl (by kernel_rfl) (by kernel_rfl) hS (fun y hy K hK => ?_) ?_; rotate_left; · (go_wp2; exact hK))
 refine line_act (by rfl) (fun K hK => ?_)
 go_wp2_with (go_at_call 22; refine (TT _).mono ?_; rintro e w4 ⟨rfl, rfl⟩)
 refine hK _ _ (fun y => y.cell? ⟨ab, 3, none⟩ = some (.int .i64 more)) hS (fun _ h => h) ?_
 clear hK K
 repeat (refine line_read (a' := ?_) rfl (by kernel_rfl) (by kernel_rfl) hS (fun y hy K hK => ?_) ?_; rotate_left; · (go_wp2; exact hK))
 refine line_end ?_
 clear hS p4 TT
 have hsum : tq + mo = (n : Int) := by have := HT.out; omega
 rw [hsum]
 clear hsum htb hmb
 have hn13 : n ≤ 13 := by have := P5.out; omega
 obtain ⟨tb, htb⟩ : ∃ z, ab + 1 + 1 = z := ⟨_, rfl⟩
 have HTB := Lib.hid htb
 have H4 := Lib.hid (show LisS w w3.drew ab tb size spare pages more (.slice fo fl fc) sz sp 0 from by rw [← htb]; exact ⟨H3.out.bx, H3.out.tx, drewE H3.out.ex, H3.out.rx⟩)
 rw [htb]
 clear H3 htb H2
 go_wp2
 go_loopw [52] (fun i wr => ∃ k : Nat, k ≤ n ∧ i = .int .i64 k ∧ LisS w wr ab tb size spare pages more (.slice fo fl fc) sz sp k) (fun i _ => n - (intOf i).toNat)
 case atStart => exact ⟨0, by omega, rfl, H4.out⟩
 case round =>
   clear H4
   obtain ⟨k, hk, rfl, hL⟩ := hrel
   obtain ⟨wo, rfl⟩ : ∃ wo : World, wo = wr := ⟨_, rfl⟩
   have HL := Lib.hid hL
   obtain ⟨ao, cap, hbt, hown⟩ := hL.tx
   have HBT := Lib.hid (And.intro hbt hown)
   have t4 : wo.cell? ⟨tb, 4, none⟩ = some (.slice ao k cap) := hbt.cell 4
   clear hL
   by_cases hlt : k < n
   · have hal := hown.alloc (.cells #[.int .i64 (2 + k)] 3)
     have htbl := hbt.lt
     have hbls := blO_succ k
     have hbll := blO_len k
     have HX := Lib.hid (And.intro hbls htbl)
     clear hbt hown hbls
     go_wp2_with (at_builtin; go_loud (refine append_int18 rfl _ _ rfl (tb + 1) (.slice ao k cap) (blO k) k hbll rfl hal ⟨wo.heap.size, 0, none⟩ 1 (2 + k) rfl (by simp) (by omega) (by simp; omega) ?_; intro v' w5 hrow' hg'; have hbt5 := (HBT.out.1.alloc (.cells #[.int .i64 (2 + k)] 3)).kept hg' (fun e => by have h5 := (HBT.out.2.lt tb e.symm).1; omega); have t5 : w5.cell? ⟨tb, 4, none⟩ = some (.slice ao k cap) := hbt5.cell 4; have f5 := hbt5.free 4; have HR5 := Lib.hid (And.intro hrow' (And.intro hg' hbt5)); obtain ⟨ao7, cap7, hv7⟩ := owns_slice17 hrow'; subst hv7; clear hrow' hg' hbt5))
     go_roundw
     case rel =>
       have hE5 := own_ext17 hal (ext_trans HL.out.ex (World.grownBy_alloc wo _ none)) HR5.out.2.1 (by have h1 := HTB.out; have h2 := HAB.out; omega)
       have g5 := gb_set (gb_refl w5 (some tb)) 4 (.slice ao7 (k + 1) cap7)
       have h8 : ∀ q, q < wo.heap.size → q ≠ tb → (∀ r, (Value.slice ao k cap).ownBlock = some r → q ≠ r) → (w5.setCell ⟨tb, 4, none⟩ (.slice ao7 (k + 1) cap7)).heap[q]? = wo.heap[q]? := fun q hq h1 h2 =>
         (g5.block q (Nat.lt_of_lt_of_le hq (Nat.le_trans (World.grownBy_alloc wo (.cells #[.int .i64 (2 + k)] 3) none).size HR5.out.2.1.size)) (fun e => h1 (by injection e))).trans ((HR5.out.2.1.block q (by have := (World.grownBy_alloc wo (.cells #[.int .i64 (2 + k)] 3) none).size; omega) (fun e => h2 q e.symm rfl)).trans ((World.grownBy_alloc wo (.cells #[.int .i64 (2 + k)] 3) none).block q hq (by simp)))
       refine ⟨k + 1, by omega, by go_num, ⟨?_, ⟨ao7, cap7, HR5.out.2.2.set 4 _, ?_⟩, ?_, ?_⟩⟩
       · exact (h8 ab HL.out.bx.lt (by have := HTB.out; omega) (fun r hr e => by have h5 := (HBT.out.2.lt r hr).1; have := HTB.out; omega)).trans HL.out.bx
       · rw [HX.out.1]
         exact HR5.out.1.kept g5 (.inr (fun e => by have h5 := (HR5.out.1.lt tb e).1; omega))
       · exact g17_new hE5 g5 (by have h1 := HTB.out; have h2 := HAB.out; omega)
       · exact (h8 (ab + 1) HL.out.rx.lt (by have := HTB.out; omega) (fun r hr e => by have h5 := (HBT.out.2.lt r hr).1; have := HTB.out; omega)).trans HL.out.rx
     case measure => simp [intOf]; omega
   · obtain rfl : k = n := by omega
     clear hlt hbt hown t4
     have hLe : LisS w wo ab tb size spare pages more (.slice fo fl fc) sz sp k := HL.out
     have CK := fun (wx : World) (hE : w.grownBy wx none) => check5_any (UO (.slice fo fl fc)) (zsO fz) wx (H0.out.2.2.2.2.kept hE)
     have ND := fun (wx : World) (hE : w.grownBy wx none) => new_any (UO (.slice fo fl fc)) (zsO fz) wx (H0.out.2.2.2.2.kept hE)
     rw [show (#[UO (.slice fo fl fc) 0, UO (.slice fo fl fc) 1, UO (.slice fo fl fc) 2, UO (.slice fo fl fc) 3] : Array Value) = #[.slice none 0 0, .slice fo fl fc, .slice none 0 0, .slice none 0 0] from rfl] at CK ND
     have NP := newPow_is (-1)
     go_upto_region 10 with (go_at_call 23; refine (NP _).mono ?_; rintro e w6 ⟨pb, rfl, hp6, hg6, hpb6⟩; have HP6 := Lib.hid (And.intro hp6 (And.intro hg6 hpb6)); clear hp6 hg6 hpb6)
     have hL6 := HL.out.ext HP6.out.2.1
     have a4 : w6.cell? ⟨ab, 4, none⟩ = some (.slice fo fl fc) := hL6.bx.cell 4
     have hBn := Blk.new w6 65 (arC none 0 0)
     have g7 := World.grownBy_alloc w6 (.cells (arC none 0 0) 65) none
     have HL6 := Lib.hid (And.intro hL6 g7)
     have HWO := Lib.hid (And.intro hLe.ex.size hLe.rx.lt)
     have HBO := HBT
     clear hLe hL6 g7 HL HBT
     go_upto_region 11 with (refine arr_store18 _ _ rfl rfl rfl hBn rfl rfl ?_; intro w7 hb7 hg7 hs7)
     have g67 := g17_new (w := w6) HL6.out.2 hg7 (Nat.le_refl _)
     have hL7 := HL6.out.1.ext g67
     obtain ⟨qb, hqb⟩ : ∃ z, w6.heap.size = z := ⟨_, rfl⟩
     rw [hqb] at hb7 ⊢
     have HQB := Lib.hid hqb
     have HL7 := Lib.hid (And.intro hL7 (And.intro g67 hb7))
     have C7 := CK _ hL7.ex
     obtain ⟨ne, hne⟩ : ∃ z, newE (zsO fz) = z := ⟨_, rfl⟩
     rw [hne] at C7
     have HNE := Lib.hid hne
     clear a4 hBn hg7 hs7 hqb hne g67 HL6 hL7 CK
     by_cases h0 : ne = 0
     · have h0' : (ne != 0) = false := by simp [h0]
       have hk2 : 2 ≤ k := by have := P5.out; omega
       have hk0 : ((k : Int) == 0) = false := by simpa using (show (k : Int) ≠ 0 by omega)
       obtain ⟨pn, hpn⟩ : ∃ x : Nat, pg = x := ⟨pg.toNat, by have := P1.out; omega⟩
       subst hpn
       obtain ⟨ao, cap, hbt, hown⟩ := HL7.out.1.tx
       have HBT := Lib.hid (And.intro hbt hown)
       clear hbt hown
       have H00 := Lib.hid h0
       clear h0
       go_upto_region 14 with (first
         | (refine arr_read18 rfl _ rfl rfl hb8 ?_)
         | (refine arr_read18 rfl _ rfl rfl hb7 ?_)
         | (go_at_call 24; refine C7.mono ?_; rintro e w8 ⟨rfl, hg8⟩; have hb8 := hb7.ext hg8; have t8 : w8.cell? ⟨tb, 4, none⟩ = some (.slice ao k cap) := (HBT.out.1.ext hg8).cell 4; have N8 := ND _ (HL7.out.1.ext hg8).ex; have HG8 := Lib.hid hg8; clear hg8)
         | (go_at_call 25; refine N8.mono ?_; rintro e w9 hnp; obtain ⟨_, db, V, rfl, hD9, hg9, hdb9, hV9⟩ := hnp.resolve_left (fun h => h.1 (by rw [HNE.out, H00.out])); have HD9 := Lib.hid (And.intro hD9 (And.intro hg9 (And.intro hdb9 hV9))); clear hnp hD9 hg9 hdb9 hV9))
       clear hb7 hb8 C7 N8 ND t8
       have hg79 := ext_trans HG8.out HD9.out.2.1
       have hL9 := HL7.out.1.ext hg79
       have t9 : w9.cell? ⟨tb, 4, none⟩ = some (.slice ao k cap) := (HBT.out.1.ext hg79).cell 4
       have hg69 := ext_trans HL7.out.2.1 hg79
       have hpbl : pb < w6.heap.size := World.block_lt_of_cell? w6 _ HP6.out.1.c0
       have hs69 := hg69.size
       have hs78 := HG8.out.size
       have hs67 := HL7.out.2.1.size
       have hdl := HD9.out.1.lt
       have NN := new7_any pb db pn (2 + k) 1 1 (2 + (k : Int)) (.slice none 0 0) [] w9 (by
           have h1 := P1.out
           unfold geoE
           simp
           omega) (by omega) (.inl ⟨rfl, rfl⟩) (by simp) (HP6.out.1.stays (hg69.block _ hpbl (by simp))) HD9.out.1 (fun j hj q hq => by have := HD9.out.2.2.2 j hj q hq; omega) (by have := HD9.out.2.2.1; omega)
       have NN2 : Calls Tryz.prog 26 #[.agg #[.int .i64 1, .int .i64 1, .int .i64 (2 + (k : Int)), .int .i64 (pn : Int)], .pointer (some ⟨pb, 0, none⟩), .pointer (some ⟨db, 0, none⟩), .slice none 0 0] w9 (Fresh 1 1 (2 + (k : Int)) pn pb db (2 + k) [] V (zsO fz) (-1) false 0 (fun _ => 0) (fun _ => 0) w9) := NN.mono fun e w' h => by
         unfold NewP7 at h
         rw [if_pos (by simp [okM])] at h
         exact h
       have HX := Lib.hid (And.intro hL9 (And.intro hg69 (And.intro hpbl (And.intro hs69 (And.intro hs78 hs67)))))
       clear NN hL9 hg69 hpbl hs69 hs78 hs67
       go_upto_region 15 with (go_at_call 26; refine NN2.mono ?_; rintro e w10 ⟨S, hR, ⟨hSp, hSd, hSc, hSD, hSb, hSP, hSa, hSpg⟩, rfl, hN10, hg10, hT10⟩)
       clear NN2 t9
       have hL10 := HX.out.1.ext hg10
       have hb10 : Blk w10 tb 33 (teC true 1 sz sp (.slice ao k cap)) := (HBT.out.1.ext hg79).ext hg10
       have hw0 := H0.out.1.lt
       have hT0 : S.T 0 = 0 := Classical.byContradiction fun hne => by
         have h1 := hT10 0 hne
         have h2 := HP6.out.2.2
         have h3 := HD9.out.2.2.1
         have h4 := HX.out.2.2.2.1
         have h5 := HX.out.2.2.2.2.1
         have h6 := HX.out.2.2.2.2.2
         have h7 := HWO.out.1
         have h8 := HP6.out.2.1.size
         omega
       have NS := new18 hN10 hR (H0.out.1.ext hL10.ex) hT0 (fun j hj => by unfold zsO; split; exact H0.out.2.2.2.1; simp) (fun j hj q hq => by have h1 := HD9.out.2.2.2 j hj q hq; have h2 := hg10.size; omega)
         1 1 sz sp (by omega) (.slice ao k cap) (blO k) (owns_ints (blO_len k).symm ((HBT.out.2.kept hg79 (Classical.em _)).kept hg10 (Classical.em _))) (by rw [blO_len]; omega) (by rw [blO_len]; omega) (fun i hi => by rw [blO_len] at hi; rw [blO_at k i hi, hSa]; omega)
       have HN := Lib.hid (And.intro hL10 (And.intro hg10 (And.intro hT10 (And.intro hSpg (And.intro hSa (And.intro hSp hSd))))))
       rw [← hSp, ← hSd]
       clear hL10 hN10 hR hSp hSd hSc hSD hSb hSP hSa hSpg hg10 hT10
       go_upto_region 16 with (first
         | (refine ten_read18 rfl _ rfl rfl hb10 ?_)
         | (go_at_call 27; refine NS.mono ?_; rintro e w11 ⟨p, rfl, hA11, hok, hVp, hg11, hl1, hl2, hl3, hl4⟩))
       have hb11 := hb10.ext hg11
       have hr11 : Blk w11 (ab + 1) 33 (teC false 0 0 0 (.slice none 0 0)) := HN.out.1.rx.ext hg11
       have H11 := Lib.hid (And.intro hA11 (And.intro hok (And.intro hVp (And.intro hg11 (And.intro hl1 (And.intro hl2 (And.intro hl3 hl4)))))))
       clear hb10 NS hA11 hok hVp hg11 hl1 hl2 hl3 hl4
       have hS : Blk w11.drew tb 33 (teC true 1 sz sp (.slice ao k cap)) := hb11
       refine region_line [(0, true), (1, true), (2, true), (3, true), (4, true), (5, true), (6, true), (7, true), (8, true), (9, false)] (fun y => Blk y tb 33 (teC true 1 sz sp (.slice ao k cap))) (by kernel_rfl) (by kernel_rfl) (fun _ _ _ d _ h => by cases d <;> exact h) hS ?_
       repeat (refine line_read (a' := ?_) rfl (by kernel_rfl) (by kernel_rfl) hS (fun y hy K hK => ?_) ?_; rotate_left; · (go_wp2_with (refine ten_read18 rfl _ rfl rfl hy ?_); exact hK))
       refine line_act (by rfl) (fun K hK => ?_)
       have hr12 : Blk w11.drew (ab + 1) 33 (teC false 0 0 0 (.slice none 0 0)) := hr11
       go_wp2_with (refine ten_store18 _ _ rfl rfl rfl hr12 rfl rfl ?_; intro w12 hb12 hg12 hs12)
       have hS12 : Blk w12 tb 33 (teC true 1 sz sp (.slice ao k cap)) := hb11.kept (show w11.grownBy w12 (some (ab + 1)) from ⟨hg12.os, hg12.tape, hg12.output, hg12.size, hg12.block⟩) (fun e => by injection e with e; have := HTB.out; omega)
       refine hK _ _ (fun y => Blk y tb 33 (teC true 1 sz sp (.slice ao k cap))) hS12 (fun _ h => h) ?_
       clear hK K
       refine line_end ?_
       have d0 := hb12.cell 0
       have d1 := hb12.cell 1
       have d2 := hb12.cell 2
       have d3 := hb12.cell 3
       have d4 := hb12.cell 4
       simp [teC] at d0 d1 d2 d3 d4
       go_wp2
       refine bodyPost_ret (v := .tuple #[.pointer (some ⟨p.sb, 0, none⟩), .pointer (some ⟨S.nb, 0, none⟩), .pointer (some ⟨S.pb, 0, none⟩), .pointer (some ⟨S.db, 0, none⟩), .agg #[.bool true, .int .i64 1, .int .i64 sz, .int .i64 sp, .slice ao k cap]]) (by simp [results, Tryz.results7, go_sem, d0, d1, d2, d3, d4]) rfl (.inr ⟨by rw [HNE.out, H00.out], p, S, _, rfl, ?_⟩)
       obtain ⟨hA11, hok, hVp, hg11, hl1, hl2, hl3, hl4⟩ := H11.out
       have hgx : w11.grownBy w12 (some (ab + 1)) := ⟨hg12.os, hg12.tape, hg12.output, hg12.size, hg12.block⟩
       have e10 := HN.out.2.1.size
       have e1 := HX.out.2.2.2.1
       have e2 := HX.out.2.2.2.2.1
       have e3 := HX.out.2.2.2.2.2
       have e4 := HD9.out.2.1.size
       have e5 := HP6.out.2.1.size
       have e6 := HP6.out.2.2
       have e7 := HTB.out
       have e8 := HAB.out
       have e9 := HN.out.1.rx.lt
       have e11 : ab + 1 < wo.heap.size := HWO.out.2
       have hTl : ∀ q, S.T q ≠ 0 → wo.heap.size ≤ q := fun q hq => by
         have h1 := HN.out.2.2.1 q hq
         have h2 := HD9.out.2.2.1
         omega
       refine ⟨hA11.other hok hgx ?_ ?_ ?_ ?_ ?_ ?_ ?_ (ten_nobyte hr11), hok, ⟨_, _, _, rfl⟩, g17_new (ext_trans HN.out.1.ex hg11) hgx (by omega), ?_, HN.out.2.2.2.2.1, fun q hq => by have := hTl q hq; omega, ⟨by omega, by omega, by omega⟩, ?_, ?_, ?_⟩
       · exact Classical.byContradiction fun hne => by have := hTl _ hne; omega
       · omega
       · omega
       · omega
       · omega
       · intro q hq; have := hl4 q hq; omega
       · intro j hj q hq
         rw [hVp] at hq
         have := (HD9.out.2.2.2 j hj q hq).1
         omega
       · have := HN.out.2.2.2.1
         omega
       · exact owns_ints (blO_len k).symm ((((HBT.out.2.kept hg79 (Classical.em _)).kept HN.out.2.1 (Classical.em _)).kept hg11 (Classical.em _)).kept hgx (.inr fun e => by have := (HBT.out.2.lt _ e).1; omega))
       · intro q hq
         have e12 := (HBT.out.1.symm.trans ((HBO.out.1.ext HP6.out.2.1).ext HL7.out.2.1))
         simp only [Option.some.injEq, Obj.cells.injEq, Array.mk.injEq, List.cons.injEq, Value.slice.injEq, true_and, and_true] at e12
         obtain ⟨rfl, rfl⟩ := e12
         have e13 := HBO.out.2.lt q hq
         have e14 : w11.heap.size ≤ w12.heap.size := hg12.size
         have e15 := hg11.size
         refine ⟨?_, ?_, Classical.byContradiction fun hne => by have := hTl _ hne; omega, ?_, ?_, ?_⟩
         · omega
         · omega
         · omega
         · omega
         · omega
       · intro j hj q hq
         rw [hVp] at hq
         have e13 := HD9.out.2.2.2 j hj q hq
         have e14 : w11.heap.size ≤ w12.heap.size := hg12.size
         have e15 := hg11.size
         omega
     · have h0' : (ne != 0) = true := by simpa using h0
       have H00 := Lib.hid h0
       clear h0
       obtain ⟨ao, cap, hbt, hown⟩ := HL7.out.1.tx
       go_upto_region 12 with (first
         | (refine arr_read18 rfl _ rfl rfl hb7 ?_)
         | (go_at_call 24; refine C7.mono ?_; rintro e w8 ⟨rfl, hg8⟩))
       have hL8 := HL7.out.1.ext hg8
       have hS : Blk w8.drew tb 33 (teC true 1 sz sp (.slice ao k cap)) := (show Blk w8 tb 33 _ from hbt.ext hg8)
       have hr12 : Blk w8.drew (ab + 1) 33 (teC false 0 0 0 (.slice none 0 0)) := hL8.rx
       have HL8 := Lib.hid hL8
       clear hL8 hbt hown hg8 hb7 C7
       refine region_line [(0, true), (1, true), (2, true), (3, true), (4, true), (5, false)] (fun y => Blk y tb 33 (teC true 1 sz sp (.slice ao k cap))) (by kernel_rfl) (by kernel_rfl) (fun _ _ _ d _ h => by cases d <;> exact h) hS ?_
       repeat (refine line_read (a' := ?_) rfl (by kernel_rfl) (by kernel_rfl) hS (fun y hy K hK => ?_) ?_; rotate_left; · (go_wp2_with (refine ten_read18 rfl _ rfl rfl hy ?_); exact hK))
       refine line_act (by rfl) (fun K hK => ?_)
       go_wp2_with (refine ten_store18 _ _ rfl rfl rfl hr12 rfl rfl ?_; intro w12 hb12 hg12 hs12)
       have hS12 : Blk w12 tb 33 (teC true 1 sz sp (.slice ao k cap)) := hS.kept hg12 (fun e => by injection e with e; have := HTB.out; omega)
       refine hK _ _ (fun y => Blk y tb 33 (teC true 1 sz sp (.slice ao k cap))) hS12 (fun _ h => h) ?_
       clear hK K
       refine line_end ?_
       have d0 := hb12.cell 0
       have d1 := hb12.cell 1
       have d2 := hb12.cell 2
       have d3 := hb12.cell 3
       have d4 := hb12.cell 4
       simp [teC] at d0 d1 d2 d3 d4
       go_wp2
       refine bodyPost_ret (v := .tuple #[.pointer none, .pointer none, .pointer none, .pointer none, .agg #[.bool true, .int .i64 1, .int .i64 sz, .int .i64 sp, .slice ao k cap]]) (by simp [results, Tryz.results7, go_sem, d0, d1, d2, d3, d4]) rfl (.inl ⟨by rw [HNE.out]; exact H00.out, ⟨_, _, _, rfl⟩, ?_⟩)
       exact g17_new (ext_trans HL8.out.ex (Ext.drew w8)) hg12 (by have := HAB.out; omega)
end Go.Proofs.YtdnpdoipipfkoaaGreatDoor

namespace Go.Proofs.YtdnpdoipipfkoaaGreatDoor
set_option linter.unusedVariables false
set_option linter.unusedSimpArgs false
set_option linter.unusedVariables false
set_option linter.unusedSimpArgs false
set_option maxRecDepth 100000
open Go.RowKit
def hiB : ByteArray := ⟨#[104, 105]⟩
def b0F : NS := blankS [] (-1) false 0 (fun _ => 0) (fun _ => 0)
def m0F : SM := ⟨b0F, [], [], 0, -1, false⟩
theorem zsO_none : zsO [] = noZs := by
 funext j
 unfold zsO noZs
 split <;> rfl
theorem calmF : Calm b0F 0 := blank_calm _
section
variable {S : NShape} (hp : S.pg = 4) (ha : S.all = 6)
set_option linter.unusedSectionVars false
include hp ha
end
theorem szF : szO 3 = 4 := by decide
end Go.Proofs.YtdnpdoipipfkoaaGreatDoor
