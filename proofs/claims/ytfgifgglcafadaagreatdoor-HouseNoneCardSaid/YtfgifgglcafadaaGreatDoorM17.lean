/-
  Texts put together: AG AH AI AJ.
-/
import Derived.Test.YtfgifgglcafadaaGreatDoorM16
namespace Go.Proofs.YtfgifgglcafadaaGreatDoor
set_option linter.unusedVariables false
set_option linter.unusedSimpArgs false
set_option linter.unusedVariables false
set_option linter.unusedSimpArgs false
set_option maxRecDepth 100000
open Go.RowKit
theorem ptr_nobyte {w : World} {g : Nat} {T : TypeId} {a : Option Addr} (h : Blk w g T #[.pointer a]) (o : Nat) (n : Int) : w.cell? ⟨g, o, none⟩ ≠ some (.int .u8 n) := by
 intro hc
 rw [h.cell o] at hc
 have hm := Array.mem_of_getElem? hc
 simp at hm
theorem Tryz.eg21 : ∀ args w, (callFunc 106 args).run Tryz.prog w = .ok (.enter 106 args) w := enters_of Tryz.func106 (by kernel_rfl) rfl
section
variable {w : World} {H : HC} {ρ : Nat → Nat} {x : HX}
structure CrA (H : HC) (x : HX) (t : Nat) (s r ep : Int) (n : Nat) (L2 : Led) (n2 : NS) : Prop where
 ht : t < 4
 hs : 1 ≤ s ∧ s ≤ 64
 hr : 0 ≤ r ∧ r ≤ 8
 c0 : (createS x.L t s r []).2 = 0
 tot : s / H.S.pg + 2 + r = n
 n0 : 0 < n
 nF : n ≤ (freeM (takenL x.L) x.n.mr (H.S.all - 2)).length
 c1 : createS x.L t s r ((freeM (takenL x.L) x.n.mr (H.S.all - 2)).take n) = (L2, 0)
 ten : L2.t t = ⟨true, ep, s, r, (freeM (takenL x.L) x.n.mr (H.S.all - 2)).take n⟩
 blank : ∀ i, i < n → nextN (x.n.L (((freeM (takenL x.L) x.n.mr (H.S.all - 2)).take n).getD i 0).toNat) H.S.pg = 0
 good : GoodL L2
 sv : saveN H.S H.zs L2 H.S.all H.S.p x.n = (n2, 0)
 cnt : Cnt x.n 60000
 sm : Small x.n
 off2 : n2.off = false
 hm : ∀ j, j < 4 → (x.L.t j).bs.length ≤ 1048576
 hwf : ∀ j, j < 4 → WfL (x.L.t j).bs
set_option maxHeartbeats 6400000 in
theorem create21 (h : HAt w H ρ x) (hR : Roles H.S) (hzl : ∀ j, j < 4 → (H.zs j).length ≤ 64) {t : Nat} {s r ep : Int} {n : Nat} {L2 : Led} {n2 : NS} (A : CrA H x t s r ep n L2 n2) :
   Calls Tryz.prog 59 #[.pointer (some ⟨H.hb, 0, none⟩), .int .i64 (t : Int), .int .i64 s, .int .i64 r] w fun e w' => e = .returned (.int .i64 0) ∧
     ∃ ρ' p b VL2, HAt w' H ρ' (addT { x with n := n2, L := L2, VL := VL2 } t p ⟨H.S, H.zs, t, ep, s, r, (freeM (takenL x.L) x.n.mr (H.S.all - 2)).take n⟩ ⟨n2, [], [], 0, -1, false⟩ b) ∧ Fr w.heap.size ρ ρ' w w' := by
 have hbd := hR.bds
 have TOT := Lib.hid (fun (wx : World) (hE : w.grownBy wx none) => total21 (h.ext hR hE) hR s r A.hs A.hr)
 have FRE := Lib.hid (fun (wx : World) (hE : w.grownBy wx none) => hfree21 (h.ext hR hE) hR A.hm A.hwf n A.n0 A.nF)
 rw [A.tot] at TOT
 have CR0 := Lib.hid (fun (wx : World) (hE : w.grownBy wx none) => create_any x.L x.VL t s r (.slice none 0 0) [] wx (h.li.ext hE) A.hm (.inl ⟨rfl, rfl⟩) (by simp) (fun p hp => by simp [Value.ownBlock] at hp))
 have HNL := Lib.hid (show ∀ i, i < n → 2 ≤ ((freeM (takenL x.L) x.n.mr (H.S.all - 2)).take n).getD i 0 ∧ ((freeM (takenL x.L) x.n.mr (H.S.all - 2)).take n).getD i 0 < H.S.all from fun i hi => by
   have h1 := freeM_in (List.mem_of_mem_take (getD_mem21 (xs := (freeM (takenL x.L) x.n.mr (H.S.all - 2)).take n) (i := i) (by rw [List.length_take]; have := A.nF; omega)))
   omega)
 have HLE := Lib.hid (show ((freeM (takenL x.L) x.n.mr (H.S.all - 2)).take n).length = n ∧ n ≤ 64 from ⟨by rw [List.length_take]; have := A.nF; omega, by have := A.nF; have := freeM_len (takenL x.L) x.n.mr (H.S.all - 2); omega⟩)
 have HA := Lib.hid A
 obtain ⟨G, hG⟩ : ∃ G, (freeM (takenL x.L) x.n.mr (H.S.all - 2)).take n = G := ⟨_, rfl⟩
 rw [hG] at FRE HNL HLE ⊢
 have HG := Lib.hid hG
 have hwW : 0 ≤ (t : Int) ∧ (t : Int) < 4 := by have := A.ht; omega
 obtain ⟨⟨R0, er0⟩, hR0⟩ : ∃ z, createS x.L t s r [] = z := ⟨_, rfl⟩
 have e00 : (er0 != 0) = false := by
   have h1 := A.c0
   rw [hR0] at h1
   simpa using h1
 rw [hR0] at CR0
 have H0 := Lib.hid (And.intro h (And.intro hR hzl))
 have hE1 := World.grownBy_alloc w (.cells #[.pointer (some ⟨H.hb, 0, none⟩)] 38) none
 have hb1 := Blk.new w 38 #[.pointer (some ⟨H.hb, 0, none⟩)]
 obtain ⟨hx, hhx⟩ : ∃ z, w.heap.size = z := ⟨_, rfl⟩
 obtain ⟨w1, hw1⟩ : ∃ z, w.alloc (.cells #[.pointer (some ⟨H.hb, 0, none⟩)] 38) = z := ⟨_, rfl⟩
 have hz1 : w1.heap.size = hx + 1 := by rw [← hw1, ← hhx]; simp
 rw [hw1] at hE1 hb1
 rw [hhx] at hb1
 have hE2 := World.grownBy_alloc w1 (.cells #[.int .i64 (t : Int)] 3) none
 have hb2 := Blk.newAt w1 (hx + 1) hz1 3 #[.int .i64 (t : Int)]
 obtain ⟨w2, hw2⟩ : ∃ z, w1.alloc (.cells #[.int .i64 (t : Int)] 3) = z := ⟨_, rfl⟩
 have hz2 : w2.heap.size = hx + 1 + 1 := by rw [← hw2]; simp [hz1]
 rw [hw2] at hE2 hb2
 have hx2 := hb1.ext hE2
 have HW := Lib.hid (show hx + 1 + 1 = w2.heap.size ∧ w.heap.size = hx ∧ H.hb < hx ∧ w.grownBy w2 none ∧ Blk w2 hx 38 #[.pointer (some ⟨H.hb, 0, none⟩)] ∧ Blk w2 (hx + 1) 3 #[.int .i64 (t : Int)] from ⟨hz2.symm, hhx, by have := h.bk.lt; omega, ext_trans hE1 hE2, hx2, hb2⟩)
 have SE := Lib.hid (fun (y : World) (hE : w2.grownBy y none) => (SeeB.of_ext hE (by have := h.bk.lt; simp; omega) : SeeB w2 [hx, hx + 1, H.hb] y))
 have HC := Lib.hid (show ∀ y, SeeB w2 [hx, hx + 1, H.hb] y → y.cell? ⟨hx, 0, none⟩ = some (.pointer (some ⟨H.hb, 0, none⟩)) ∧ y.cell? ⟨hx + 1, 0, none⟩ = some (.int .i64 (t : Int)) ∧ Blk y H.hb 95 (hsC H x) ∧ y.cell? ⟨H.hb, 2, none⟩ = some (.pointer (some ⟨H.S.nb, 0, none⟩)) from fun y hy => ⟨hy.cell (by simp) (hx2.cell 0), hy.cell (by simp) (hb2.cell 0), (hy _ (by simp)).trans ((h.ext hR (ext_trans hE1 hE2)).bk), hy.cell (by simp) (h.ext hR (ext_trans hE1 hE2)).c2⟩)
 have hmf := Tryz.hmf21
 clear h hR hzl A hG hbd hR0 hE1 hE2 hb1 hb2 hx2
 go_enter Tryz.func59, Tryz.ntmps59
 go_upto_region 1 with fail
 clear hw1 hw2 hz1 hz2 hhx
 go_cut [9, 10] (fun s9 s10 wx => ∃ lb, s9 = .pointer (some ⟨lb, 0, none⟩) ∧ s10 = .int .i64 er0 ∧ w2.grownBy wx none)
 case first =>
   have hS : SeeB w2 [hx, hx + 1, H.hb] w2.drew := SE.out _ (Ext.drew w2)
   refine region_tree (.read 0 (.read 1 (.read 2 (.read 3 (.read 4 (.read 5 (.read 6 (.two 7 11 (.read 8 (.read 9 (.read 10 (.one 11 (.one 12 (.read 13 .done)))))) (.one 7 (.read 8 (.read 9 (.read 10 (.one 12 (.read 13 .done)))))))))))))) (SeeB w2 [hx, hx + 1, H.hb]) (by kernel_rfl) (by kernel_rfl) (fun _ _ _ d _ h => by cases d <;> exact h) hS ?_
   repeat (refine tree_read (a' := ?_) rfl (by kernel_rfl) (by kernel_rfl) hS (fun y hy K hK => ?_) ?_; rotate_left; · obtain ⟨k1, k2, b0, c2⟩ := HC.out y hy; go_wp2_with (refine hled_load rfl _ rfl rfl b0 ?_); exact hK)
   refine tree_two ?_ ?_
   · refine tree_one (by rfl) (fun K hK => ?_)
     go_wp2_with (go_at_call 100; refine (CR0.out _ (ext_trans HW.out.2.2.2.1 (Ext.drew w2))).mono ?_; rintro e w3 ⟨V3, rfl, hL3, _, hE3⟩)
     have hE3 : w2.grownBy w3 none := ext_trans (Ext.drew w2) hE3
     have hS3 := SE.out _ hE3
     refine hK _ _ (SeeB w2 [hx, hx + 1, H.hb]) hS3 (fun _ h => h) ?_
     clear hK K
     have hV3 := hL3.slices
     repeat (refine tree_read (a' := ?_) rfl (by kernel_rfl) (by kernel_rfl) hS3 (fun y hy K hK => ?_) ?_; rotate_left; · go_wp2; exact hK)
     refine tree_one (by rfl) (fun K hK => ?_)
     go_wp2
     have hb4 := Blk.new w3 56 zeroC
     have hE4 := ext_trans hE3 (World.grownBy_alloc w3 (.cells zeroC 56) none)
     refine hK _ _ (SeeB w2 [hx, hx + 1, H.hb]) (SE.out _ hE4) (fun _ h => h) ?_
     clear hK K
     refine tree_one (by rfl) (fun K hK => ?_)
     go_wp2_with (refine led_store _ _ rfl rfl rfl hb4 rfl hV3 rfl ?_; intro w5 hb5 hg5 hs5)
     have hE5 : w2.grownBy w5 none := g17_new hE4 hg5 (by have := hE3.size; omega)
     refine hK _ _ (SeeB w2 [hx, hx + 1, H.hb]) (SE.out _ hE5) (fun _ h => h) ?_
     clear hK K
     repeat (refine tree_read (a' := ?_) rfl (by kernel_rfl) (by kernel_rfl) (SE.out _ hE5) (fun y hy K hK => ?_) ?_; rotate_left; · go_wp2; exact hK)
     refine tree_end ?_
     go_wp2
     go_meet
     exact ⟨_, rfl, rfl, hE5⟩
   · refine tree_one (by rfl) (fun K hK => ?_)
     go_wp2
     have hb4 := Blk.new w2.drew 56 zeroC
     have hE4 : w2.grownBy (w2.drew.alloc (.cells zeroC 56)) none := ext_trans (Ext.drew w2) (World.grownBy_alloc w2.drew (.cells zeroC 56) none)
     refine hK _ _ (SeeB w2 [hx, hx + 1, H.hb]) (SE.out _ hE4) (fun _ h => h) ?_
     clear hK K
     refine tree_one (by rfl) (fun K hK => ?_)
     go_wp2_with (go_at_call 100; refine (CR0.out _ (ext_trans HW.out.2.2.2.1 hE4)).mono ?_; rintro e w3 ⟨V3, rfl, hL3, _, hE3⟩)
     have hb3 := hb4.ext hE3
     have hE3 : w2.grownBy w3 none := ext_trans hE4 hE3
     have hS3 := SE.out _ hE3
     refine hK _ _ (SeeB w2 [hx, hx + 1, H.hb]) hS3 (fun _ h => h) ?_
     clear hK K
     have hV3 := hL3.slices
     repeat (refine tree_read (a' := ?_) rfl (by kernel_rfl) (by kernel_rfl) hS3 (fun y hy K hK => ?_) ?_; rotate_left; · go_wp2; exact hK)
     refine tree_one (by rfl) (fun K hK => ?_)
     go_wp2_with (refine led_store _ _ rfl rfl rfl hb3 rfl hV3 rfl ?_; intro w5 hb5 hg5 hs5)
     have hE5 : w2.grownBy w5 none := g17_new hE3 hg5 (Nat.le_refl _)
     refine hK _ _ (SeeB w2 [hx, hx + 1, H.hb]) (SE.out _ hE5) (fun _ h => h) ?_
     clear hK K
     repeat (refine tree_read (a' := ?_) rfl (by kernel_rfl) (by kernel_rfl) (SE.out _ hE5) (fun y hy K hK => ?_) ?_; rotate_left; · go_wp2; exact hK)
     refine tree_end ?_
     go_wp2
     go_meet
     exact ⟨_, rfl, rfl, hE5⟩
 case rest =>
   obtain ⟨lb, rfl, rfl, hE⟩ := hcut
   have hS : SeeB w2 [hx, hx + 1, H.hb] wc.drew := SE.out _ (ext_trans hE (Ext.drew wc))
   have HE := Lib.hid hE
   clear hE CR0
   go_upto_region 4 with fail
   clear e00
   refine region_line [(0, true), (1, true), (2, true), (3, true), (4, false), (5, false), (6, true), (7, true), (8, true), (9, true), (10, true)] (SeeB w2 [hx, hx + 1, H.hb]) (by kernel_rfl) (by kernel_rfl) (fun _ _ _ d _ h => by cases d <;> exact h) hS ?_
   repeat (refine line_read (a' := ?_) rfl (by kernel_rfl) (by kernel_rfl) hS (fun y hy K hK => ?_) ?_; rotate_left; · (obtain ⟨k1, k2, b0, c2⟩ := HC.out y hy; go_wp2; exact hK))
   refine line_act (by rfl) (fun K hK => ?_)
   go_wp2_with (go_at_call 102; refine (TOT.out _ (ext_trans HW.out.2.2.2.1 (ext_trans HE.out (Ext.drew wc)))).mono ?_; rintro e w4 ⟨rfl, hg4⟩)
   have hE4 : w2.grownBy w4 none := ext_trans (ext_trans HE.out (Ext.drew wc)) hg4
   refine hK _ _ (SeeB w2 [hx, hx + 1, H.hb]) (SE.out _ hE4) (fun _ h => h) ?_
   clear hK K
   refine line_act (by rfl) (fun K hK => ?_)
   go_wp2_with (go_at_call 101; refine (FRE.out _ (ext_trans HW.out.2.2.2.1 hE4)).mono ?_; rintro e w5 ⟨v5, rfl, hI5, ho5, hg5⟩)
   have hE5 := ext_trans hE4 hg5
   refine hK _ _ (SeeB w2 [hx, hx + 1, H.hb]) (SE.out _ hE5) (fun _ h => h) ?_
   clear hK K
   repeat (refine line_read (a' := ?_) rfl (by kernel_rfl) (by kernel_rfl) (SE.out _ hE5) (fun y hy K hK => ?_) ?_; rotate_left; · (go_wp2; exact hK))
   refine line_end ?_
   obtain ⟨ao, cap, _, _, e5, _⟩ := hI5.form
   rw [HLE.out.1] at e5
   subst e5
   have hs4 := hE4.size
   have CR1 := Lib.hid (fun (wx : World) (hE : w5.grownBy wx none) => create_any x.L x.VL t s r (.slice ao n cap) G wx (H0.out.1.li.ext (ext_trans HW.out.2.2.2.1 (ext_trans hE5 hE))) HA.out.hm (hI5.kept hE (by simp)) (by rw [HLE.out.1]; have := HLE.out.2; omega) (fun p hp => by have h1 := (ho5 p hp).2; have h2 := hE.size; omega))
   obtain ⟨er1, her1⟩ : ∃ z : Int, z = 0 := ⟨_, rfl⟩
   have e1r : (er1 != 0) = false := by rw [her1]; rfl
   have hc1 := HA.out.c1
   rw [HG.out, ← her1] at hc1
   rw [hc1] at CR1
   have H5 := Lib.hid (show w2.grownBy w5 none ∧ Ints w5 (.slice ao n cap) G ∧ (∀ k, (Value.slice ao n cap).ownBlock = some k → w2.heap.size ≤ k ∧ k < w5.heap.size) ∧ er1 = 0 from ⟨hE5, hI5, fun k hk => by have := ho5 k hk; omega, her1⟩)
   clear hS hE4 hg4 hg5 hE5 hI5 ho5 TOT FRE hc1 her1 hs4
   go_upto_region 7 with fail
   go_cut [13, 14] (fun s13 s14 wx => ∃ lb V3, s13 = .pointer (some ⟨lb, 0, none⟩) ∧ s14 = .int .i64 er1 ∧ w5.grownBy wx none ∧ w5.heap.size ≤ lb ∧ Blk wx lb 56 (ledC L2 V3) ∧ LedIs wx L2 V3 ∧ ∀ j, j < 4 → ∀ k, (V3 j).ownBlock = some k → w5.heap.size ≤ k ∧ k < wx.heap.size)
   case first =>
     have hS : SeeB w2 [hx, hx + 1, H.hb] w5.drew := SE.out _ (ext_trans H5.out.1 (Ext.drew w5))
     refine region_tree (.read 0 (.read 1 (.read 2 (.read 3 (.read 4 (.read 5 (.read 6 (.read 7 (.two 8 12 (.read 9 (.read 10 (.read 11 (.one 12 (.one 13 (.read 14 .done)))))) (.one 8 (.read 9 (.read 10 (.read 11 (.one 13 (.read 14 .done))))))))))))))) (SeeB w2 [hx, hx + 1, H.hb]) (by kernel_rfl) (by kernel_rfl) (fun _ _ _ d _ h => by cases d <;> exact h) hS ?_
     repeat (refine tree_read (a' := ?_) rfl (by kernel_rfl) (by kernel_rfl) hS (fun y hy K hK => ?_) ?_; rotate_left; · obtain ⟨k1, k2, b0, c2⟩ := HC.out y hy; go_wp2_with (refine hled_load rfl _ rfl rfl b0 ?_); exact hK)
     refine tree_two ?_ ?_
     · refine tree_one (by rfl) (fun K hK => ?_)
       go_wp2_with (go_at_call 100; refine (CR1.out _ (Ext.drew w5)).mono ?_; rintro e w6 ⟨V6, rfl, hL6, ho6, hE6⟩)
       have hE6' : w5.grownBy w6 none := ext_trans (Ext.drew w5) hE6
       refine hK _ _ (SeeB w2 [hx, hx + 1, H.hb]) (SE.out _ (ext_trans H5.out.1 hE6')) (fun _ h => h) ?_
       clear hK K
       have hV6 := hL6.slices
       repeat (refine tree_read (a' := ?_) rfl (by kernel_rfl) (by kernel_rfl) (SE.out _ (ext_trans H5.out.1 hE6')) (fun y hy K hK => ?_) ?_; rotate_left; · go_wp2; exact hK)
       refine tree_one (by rfl) (fun K hK => ?_)
       go_wp2
       have hb7 := Blk.new w6 56 zeroC
       have hE7 := ext_trans hE6' (World.grownBy_alloc w6 (.cells zeroC 56) none)
       refine hK _ _ (SeeB w2 [hx, hx + 1, H.hb]) (SE.out _ (ext_trans H5.out.1 hE7)) (fun _ h => h) ?_
       clear hK K
       refine tree_one (by rfl) (fun K hK => ?_)
       go_wp2_with (refine led_store _ _ rfl rfl rfl hb7 rfl hV6 rfl ?_; intro w8 hb8 hg8 hs8)
       have hE68 : w6.grownBy w8 none := g17_new (World.grownBy_alloc w6 (.cells zeroC 56) none) hg8 (Nat.le_refl _)
       have hE8 : w5.grownBy w8 none := ext_trans hE6' hE68
       refine hK _ _ (SeeB w2 [hx, hx + 1, H.hb]) (SE.out _ (ext_trans H5.out.1 hE8)) (fun _ h => h) ?_
       clear hK K
       repeat (refine tree_read (a' := ?_) rfl (by kernel_rfl) (by kernel_rfl) (SE.out _ (ext_trans H5.out.1 hE8)) (fun y hy K hK => ?_) ?_; rotate_left; · go_wp2; exact hK)
       refine tree_end ?_
       go_wp2
       go_meet
       exact ⟨_, V6, rfl, rfl, hE8, hE6'.size, hb8, hL6.ext hE68, fun j hj k hk => by have h1 := ho6 j hj k hk; have h2 := hE68.size; have h3 : w5.drew.heap.size = w5.heap.size := rfl; omega⟩
     · refine tree_one (by rfl) (fun K hK => ?_)
       go_wp2
       have hb7 := Blk.new w5.drew 56 zeroC
       have hE7 : w5.grownBy (w5.drew.alloc (.cells zeroC 56)) none := ext_trans (Ext.drew w5) (World.grownBy_alloc w5.drew (.cells zeroC 56) none)
       refine hK _ _ (SeeB w2 [hx, hx + 1, H.hb]) (SE.out _ (ext_trans H5.out.1 hE7)) (fun _ h => h) ?_
       clear hK K
       refine tree_one (by rfl) (fun K hK => ?_)
       go_wp2_with (go_at_call 100; refine (CR1.out _ hE7).mono ?_; rintro e w6 ⟨V6, rfl, hL6, ho6, hE6⟩)
       have hb6 := hb7.ext hE6
       have hlt7 := hb7.lt
       have hE6' : w5.grownBy w6 none := ext_trans hE7 hE6
       refine hK _ _ (SeeB w2 [hx, hx + 1, H.hb]) (SE.out _ (ext_trans H5.out.1 hE6')) (fun _ h => h) ?_
       clear hK K
       have hV6 := hL6.slices
       repeat (refine tree_read (a' := ?_) rfl (by kernel_rfl) (by kernel_rfl) (SE.out _ (ext_trans H5.out.1 hE6')) (fun y hy K hK => ?_) ?_; rotate_left; · go_wp2; exact hK)
       refine tree_one (by rfl) (fun K hK => ?_)
       go_wp2_with (refine led_store _ _ rfl rfl rfl hb6 rfl hV6 rfl ?_; intro w8 hb8 hg8 hs8)
       have hE8 : w5.grownBy w8 none := g17_new hE6' hg8 (Nat.le_refl _)
       refine hK _ _ (SeeB w2 [hx, hx + 1, H.hb]) (SE.out _ (ext_trans H5.out.1 hE8)) (fun _ h => h) ?_
       clear hK K
       repeat (refine tree_read (a' := ?_) rfl (by kernel_rfl) (by kernel_rfl) (SE.out _ (ext_trans H5.out.1 hE8)) (fun y hy K hK => ?_) ?_; rotate_left; · go_wp2; exact hK)
       refine tree_end ?_
       go_wp2
       go_meet
       have h3 : w5.drew.heap.size = w5.heap.size := rfl
       exact ⟨_, V6, rfl, rfl, hE8, Nat.le_refl _, hb8, hL6.kept hg8 (fun j hj k hk e => by have h1 := ho6 j hj k hk; injection e with e; omega), fun j hj k hk => by have h1 := ho6 j hj k hk; have h2 := hE7.size; omega⟩
   case rest =>
     obtain ⟨l9, V9, rfl, rfl, hE9, hl9, hb9, hL9, ho9⟩ := hcut
     obtain ⟨wn, hwn⟩ : ∃ z, wc = z := ⟨_, rfl⟩
     rw [hwn] at hE9 hb9 hL9 ho9 ⊢
     clear hwn
     have hten := HA.out.ten
     rw [HG.out] at hten
     have ht4 := HA.out.ht
     have hEn : w.grownBy wn none := ext_trans HW.out.2.2.2.1 (ext_trans H5.out.1 hE9)
     have hn := H0.out.1.ext H0.out.2.1 hEn
     obtain ⟨er2, her2⟩ : ∃ z : Int, z = 0 := ⟨_, rfl⟩
     have e2r : (er2 != 0) = false := by rw [her2]; rfl
     have NEW := Lib.hid (fun (wx : World) (hE : wn.grownBy wx none) => new18 (hn.ext H0.out.2.1 hE).nd H0.out.2.1 (hn.ext H0.out.2.1 hE).fl (hn.T0 (by rw [hn.r0]; omega)) H0.out.2.2 (fun j hj k hk => ((hn.ext H0.out.2.1 hE).rv j hj k hk).2) t ep s r hwW (V9 t) G (by have h1 := (hL9.ext hE) t ht4; rw [hten] at h1; exact h1) (by rw [HLE.out.1]; exact HA.out.n0) (by rw [HLE.out.1]; exact HLE.out.2) (fun i hi => HNL.out i (by rw [HLE.out.1] at hi; exact hi)))
     unfold New18 at NEW
     rw [← her2] at NEW
     have HN := Lib.hid (show HAt wn H ρ x ∧ w.grownBy wn none ∧ w5.grownBy wn none ∧ LedIs wn L2 V9 ∧ (∀ j, j < 4 → ∀ k, (V9 j).ownBlock = some k → w5.heap.size ≤ k ∧ k < wn.heap.size) ∧ er2 = 0 ∧ w5.heap.size ≤ l9 from ⟨hn, hEn, hE9, hL9, ho9, her2, hl9⟩)
     have SE2 := Lib.hid (fun (y : World) (hE : wn.grownBy y none) => (SeeB.of_ext hE (by have h1 := hn.bk.lt; have h2 := hb9.lt; have h3 := HW.out.1; have h4 := H5.out.1.size; have h5 := hE9.size; simp; omega) : SeeB wn [hx, hx + 1, H.hb, l9] y))
     have HC2 := Lib.hid (show ∀ y, SeeB wn [hx, hx + 1, H.hb, l9] y → y.cell? ⟨hx, 0, none⟩ = some (.pointer (some ⟨H.hb, 0, none⟩)) ∧ y.cell? ⟨hx + 1, 0, none⟩ = some (.int .i64 (t : Int)) ∧ Blk y l9 56 (ledC L2 V9) ∧ y.cell? ⟨H.hb, 2, none⟩ = some (.pointer (some ⟨H.S.nb, 0, none⟩)) from fun y hy => by
       have h0 := HC.out wn (SE.out _ (ext_trans H5.out.1 hE9))
       exact ⟨hy.cell (by simp) h0.1, hy.cell (by simp) h0.2.1, (hy _ (by simp)).trans hb9, hy.cell (by simp) hn.c2⟩)
     have hz0 : ∀ k, w.heap.size ≤ k → ρ k = 0 := fun k hk => Classical.byContradiction fun e => by have := H0.out.1.rt k e; omega
     have HZ := Lib.hid hz0
     have hslV := hL9.slices
     clear CR1 hn hEn hE9 hl9 hb9 hL9 ho9 her2 hz0
     go_upto_region 10 with fail
     clear e1r
     go_cut [14, 15] (fun s14 s15 wx => ∃ sx p, s15 = .pointer (some ⟨sx, 0, none⟩) ∧ s14 = .int .i64 er2 ∧ wn.grownBy wx none ∧ wn.heap.size ≤ sx ∧ wx.cell? ⟨sx, 0, none⟩ = some (.pointer (some ⟨p.sb, 0, none⟩)) ∧ StAt wx p ⟨H.S, H.zs, t, ep, s, r, G⟩ ⟨x.n, [], [], er2, -1, false⟩ ∧ StOk p ⟨H.S, H.zs, t, ep, s, r, G⟩ ∧ p.V = H.V ∧ (wn.heap.size ≤ p.sb ∧ wn.heap.size ≤ p.tb ∧ wn.heap.size ≤ p.bb) ∧ ∀ k, p.bv.ownBlock = some k → wn.heap.size ≤ k)
     case first =>
       have hS : SeeB wn [hx, hx + 1, H.hb, l9] wn.drew := SE2.out _ (Ext.drew wn)
       refine region_tree (.read 0 (.read 1 (.read 2 (.read 3 (.read 4 (.read 5 (.read 6 (.read 7 (.read 8 (.two 9 13 (.read 10 (.read 11 (.read 12 (.one 13 (.one 14 (.read 15 .done)))))) (.one 9 (.read 10 (.read 11 (.read 12 (.one 14 (.read 15 .done)))))))))))))))) (SeeB wn [hx, hx + 1, H.hb, l9]) (by kernel_rfl) (by kernel_rfl) (fun _ _ _ d _ h => by cases d <;> exact h) hS ?_
       repeat (refine tree_read (a' := ?_) rfl (by kernel_rfl) (by kernel_rfl) hS (fun y hy K hK => ?_) ?_; rotate_left; · obtain ⟨k1, k2, b0, c2⟩ := HC2.out y hy; go_wp2_with (refine ten_load_in _ rfl ht4 rfl b0 rfl ?_); exact hK)
       rw [hten]
       refine tree_two ?_ ?_
       · refine tree_one (by rfl) (fun K hK => ?_)
         go_wp2_with (go_at_call 103; refine (NEW.out _ (Ext.drew wn)).mono ?_; rintro e w6 ⟨p, rfl, hst, hok, hpV, hg6, q1, q2, q3, q4⟩)
         have hE6 : wn.grownBy w6 none := ext_trans (Ext.drew wn) hg6
         refine hK _ _ (SeeB wn [hx, hx + 1, H.hb, l9]) (SE2.out _ hE6) (fun _ h => h) ?_
         clear hK K
         repeat (refine tree_read (a' := ?_) rfl (by kernel_rfl) (by kernel_rfl) (SE2.out _ hE6) (fun y hy K hK => ?_) ?_; rotate_left; · go_wp2; exact hK)
         refine tree_one (by rfl) (fun K hK => ?_)
         go_wp2
         have hE7 := ext_trans hE6 (World.grownBy_alloc w6 (.cells #[.pointer none] 90) none)
         refine hK _ _ (SeeB wn [hx, hx + 1, H.hb, l9]) (SE2.out _ hE7) (fun _ h => h) ?_
         clear hK K
         refine tree_one (by rfl) (fun K hK => ?_)
         go_wp2
         have hE8 := ext_trans hE6 (World.grownBy_alloc w6 (.cells #[.pointer (some ⟨p.sb, 0, none⟩)] 90) none)
         refine hK _ _ (SeeB wn [hx, hx + 1, H.hb, l9]) (SE2.out _ hE8) (fun _ h => h) ?_
         clear hK K
         repeat (refine tree_read (a' := ?_) rfl (by kernel_rfl) (by kernel_rfl) (SE2.out _ hE8) (fun y hy K hK => ?_) ?_; rotate_left; · go_wp2; exact hK)
         refine tree_end ?_
         go_wp2
         go_meet
         have hdz : wn.drew.heap.size = wn.heap.size := rfl
         exact ⟨_, p, rfl, rfl, hE8, hE6.size, (Blk.new w6 90 #[.pointer (some ⟨p.sb, 0, none⟩)]).cell 0, hst.ext hok (World.grownBy_alloc w6 _ none), hok, hpV, ⟨by omega, by omega, by omega⟩, fun k hk => by have := q4 k hk; omega⟩
       · refine tree_one (by rfl) (fun K hK => ?_)
         go_wp2
         have hb7 := Blk.new wn.drew 90 #[.pointer none]
         have hE7 : wn.grownBy (wn.drew.alloc (.cells #[.pointer none] 90)) none := ext_trans (Ext.drew wn) (World.grownBy_alloc wn.drew (.cells #[.pointer none] 90) none)
         refine hK _ _ (SeeB wn [hx, hx + 1, H.hb, l9]) (SE2.out _ hE7) (fun _ h => h) ?_
         clear hK K
         refine tree_one (by rfl) (fun K hK => ?_)
         go_wp2_with (go_at_call 103; refine (NEW.out _ hE7).mono ?_; rintro e w6 ⟨p, rfl, hst, hok, hpV, hg6, q1, q2, q3, q4⟩)
         have hb6 := hb7.ext hg6
         have hlt7 := hb7.lt
         have hE6 : wn.grownBy w6 none := ext_trans hE7 hg6
         refine hK _ _ (SeeB wn [hx, hx + 1, H.hb, l9]) (SE2.out _ hE6) (fun _ h => h) ?_
         clear hK K
         repeat (refine tree_read (a' := ?_) rfl (by kernel_rfl) (by kernel_rfl) (SE2.out _ hE6) (fun y hy K hK => ?_) ?_; rotate_left; · go_wp2; exact hK)
         refine tree_one (by rfl) (fun K hK => ?_)
         have c7 : w6.cell? ⟨wn.heap.size, 0, none⟩ = some (.pointer none) := hb6.cell 0
         have f7 : w6.frozen? ⟨wn.heap.size, 0, none⟩ = false := hb6.free 0
         go_wp2
         have hg8 := gb_set (gb_refl w6 (some wn.heap.size)) 0 (.pointer (some ⟨p.sb, 0, none⟩))
         have hE8 : wn.grownBy (w6.setCell ⟨wn.heap.size, 0, none⟩ (.pointer (some ⟨p.sb, 0, none⟩))) none := g17_new hE6 hg8 (Nat.le_refl _)
         refine hK _ _ (SeeB wn [hx, hx + 1, H.hb, l9]) (SE2.out _ hE8) (fun _ h => h) ?_
         clear hK K
         repeat (refine tree_read (a' := ?_) rfl (by kernel_rfl) (by kernel_rfl) (SE2.out _ hE8) (fun y hy K hK => ?_) ?_; rotate_left; · go_wp2; exact hK)
         refine tree_end ?_
         go_wp2
         go_meet
         have hdz : wn.drew.heap.size = wn.heap.size := rfl
         have e7 : w6.grownBy (w6.setCell ⟨wn.heap.size, 0, none⟩ (.pointer (some ⟨p.sb, 0, none⟩))) (some wn.heap.size) := hg8
         have hzz := (World.grownBy_alloc wn.drew (.cells #[.pointer none] 90) none).size
         have hal : (wn.drew.alloc (.cells #[.pointer none] 90)).heap.size = wn.heap.size + 1 := by simp
         have hf0 := HN.out.1.bk.lt
         refine ⟨_, p, rfl, rfl, hE8, Nat.le_refl _, World.cell?_setCell_same _ _ _ c7, hst.other21 hok e7 (HN.out.1.nd.fresh (Nat.le_refl _)) (by omega) (by omega) (by omega) (by omega) (fun k hk => by have := q4 k hk; omega) (fun j hj k hk => by rw [hpV] at hk; have := (HN.out.1.rv j hj k hk).2; omega) (ptr_nobyte hb6), hok, hpV, ⟨by omega, by omega, by omega⟩, fun k hk => by have := q4 k hk; omega⟩
     case rest =>
       obtain ⟨sx, p, rfl, rfl, hE10, hsx, csx, hst, hok, hpV, hlb, hbv⟩ := hcut
       have hWw := HN.out.2.1
       have h10 := HN.out.1.ext H0.out.2.1 hE10
       have hsb := HC2.out wc (SE2.out _ hE10)
       have ERA := fun (wx : World) (hE : wc.grownBy wx none) => erase21 (h10.ext H0.out.2.1 hE) H0.out.2.1 ao cap G (by rw [HLE.out.1]; exact ((H5.out.2.1.kept HN.out.2.2.1 (by simp)).kept hE10 (by simp)).kept hE (by simp)) (by rw [HLE.out.1]; exact HLE.out.2) (fun i hi => by rw [HLE.out.1] at hi; have h1 := HNL.out i hi; have h2 := HA.out.blank i hi; rw [HG.out] at h2; exact ⟨by omega, h1.2, h2⟩)
       rw [HLE.out.1] at ERA
       have ER := ERA wc (Ext.refl wc)
       obtain ⟨er3, her3⟩ : ∃ z : Int, z = 0 := ⟨_, rfl⟩
       have e3r : (er3 != 0) = false := by rw [her3]; rfl
       rw [← her3] at ER
       have k1 := hsb.1
       have hb13 := hsb.2.2.1
       have hsv := HA.out.sv
       have KEEP := keep21 h10 H0.out.2.1 HA.out.cnt (by decide) H0.out.2.2 HA.out.sm L2 V9 (HN.out.2.2.2.1.ext hE10) HA.out.good (fun j hj k hk => by have h1 := HN.out.2.2.2.2.1 j hj k hk; have h2 := H5.out.1.size; have h3 := HW.out.1; have h4 := HW.out.2.1; have h5 := hE10.size; exact ⟨HZ.out k (by omega), by omega⟩) (by rw [hsv]) 106 Tryz.eg21 #[.pointer (some ⟨sx, 0, none⟩), .pointer (some ⟨hx, 0, none⟩), .pointer (some ⟨hx + 1, 0, none⟩)]
         (fun w' => ∃ ρ' b, HAt w' H ρ' (addT { x with n := n2, L := L2, VL := V9 } t p ⟨H.S, H.zs, t, ep, s, r, G⟩ ⟨n2, [], [], 0, -1, false⟩ b) ∧ Fr w.heap.size ρ ρ' w w') (fun wx hA hk => by
           rw [hsv] at hA
           have hzp : ∀ k, wn.heap.size ≤ k → ρ k = 0 := fun k hk => HZ.out k (by have := hWw.size; omega)
           have nF : ∀ k, ρ k = 0 → ¬ fpA ρ k := fun k h1 h2 => by unfold fpA at h2; omega
           have hlsx : sx < wc.heap.size := World.block_lt_of_cell? wc _ csx
           have hlhx : hx < wc.heap.size := World.block_lt_of_cell? wc _ hsb.1
           have hltx : hx + 1 < wc.heap.size := World.block_lt_of_cell? wc _ hsb.2.1
           have z1 : ρ sx = 0 := hzp _ hsx
           have z2 : ρ hx = 0 := HZ.out _ (by have := HW.out.2.1; omega)
           have z3 : ρ (hx + 1) = 0 := HZ.out _ (by have := HW.out.2.1; omega)
           have hnd : NandAt wx H.S p.V H.zs n2 := by rw [hpV]; exact hA.nd
           have hst2 := hst.beside (n' := n2) hnd hk (nF _ h10.r0) (nF _ (hzp _ hlb.1)) (nF _ (hzp _ hlb.2.1)) (nF _ (hzp _ hlb.2.2)) (fun k hk => nF _ (hzp _ (hbv k hk)))
           rw [HN.out.2.2.2.2.2.1] at hst2
           have hrh := h10.rh
           have hsz := hk.size
           refine (create1_21 hA H0.out.2.1 HA.out.ht (m := ⟨n2, [], [], 0, -1, false⟩) (B := wn.heap.size) hst2 hok rfl rfl hpV hlb hzp (fun k hk => ⟨hbv k hk, by have := ints_lt21 hst.iv (by show 1 ≤ G.length; rw [HLE.out.1]; exact HA.out.n0) k hk; omega⟩) (fun j hj k hk => (HN.out.2.2.2.2.1 j hj k hk).2) (fun j hj k hk => (HN.out.1.rv j hj k hk).2)
             (fun s hs p2 c2 m2 e k hk => ((HN.out.1.rs s hs p2 c2 m2 e).2 k hk).2) (by have := HN.out.1.bk.lt; omega) sx hx (hx + 1)
             ((World.cell?_of_block (hk.block _ hlsx (nF _ z1))).trans csx) ((World.cell?_of_block (hk.block _ hlhx (nF _ z2))).trans hsb.1) ((World.cell?_of_block (hk.block _ hltx (nF _ z3))).trans hsb.2.1)
             (fun e => by rw [e, hrh] at z1; cases z1) (fun e => by rw [e, hrh] at z2; cases z2) (fun e => by rw [e, hrh] at z3; cases z3)).mono fun e w' ⟨r1, ρ', b, r2, r3⟩ => ⟨r1, ρ', b, r2, ((Fr.ext hWw).trans ((Fr.ext hE10).trans (⟨hk.mono (fun k e => by unfold fpA at e; omega), fun k e => .inl e⟩ : Fr wn.heap.size ρ ρ wc wx) (Nat.le_refl _) (Nat.le_refl _)) (Nat.le_refl _) hWw.size).trans r3 (Nat.le_refl _) hWw.size⟩)
       clear ERA hst hok hpV hlb hbv hsb hE10 csx h10 hsv hWw hten
       go_wp2_with (first
         | (refine led_load _ rfl rfl hb13 rfl ?_)
         | (go_at_call 104; refine ER.mono ?_; rintro e w11 ⟨rfl, rfl⟩)
         | (go_at_call 105; refine KEEP.mono ?_; rintro e w12 ⟨rfl, hR12⟩))
       go_ret
       obtain ⟨ρ', b, hF, hFr⟩ := hR12
       exact ⟨rfl, ρ', p, b, V9, hF, hFr⟩
end
end Go.Proofs.YtfgifgglcafadaaGreatDoor

namespace Go.Proofs.YtfgifgglcafadaaGreatDoor
set_option linter.unusedVariables false
set_option linter.unusedSimpArgs false
set_option linter.unusedVariables false
set_option linter.unusedSimpArgs false
set_option maxRecDepth 100000
open Go.RowKit
section
variable {w : World} {H : HC} {ρ : Nat → Nat} {x : HX}
set_option maxHeartbeats 800000 in
theorem ask21 (h : HAt w H ρ x) (ho : x.n.off = false) (g : Nat) (eg : ∀ args w, (callFunc g args).run Tryz.prog w = .ok (.enter g args) w) (caps : Array Value) (er : Int) (R : World → Prop)
   (hg : Calls Tryz.prog g caps w fun e w' => e = .returned (.int .i64 er) ∧ R w' ∧ ∃ ρ' x', HAt w' H ρ' x' ∧ x'.n.off = false) :
   Calls Tryz.prog 57 #[.pointer (some ⟨H.hb, 0, none⟩), .func (.func g) #[] caps] w fun e w' => e = .returned (.int .i64 er) ∧ R w' := by
 have U := up21 h
 rw [ho] at U
 clear h ho
 go_enter_defers Tryz.func57, Tryz.ntmps57
 go_wp2_with (first
   | (go_at_call 13; refine U.mono ?_; rintro e w1 ⟨rfl, rfl⟩)
   | (go_at_fn g; refine hg.mono ?_; rintro e w2 ⟨rfl, hR, hx2⟩))
 refine leaves_cons (f := 67) (args := #[.pointer (some ⟨H.hb, 0, none⟩)]) (by simp) (by simp [go_sem]) ?_
 obtain ⟨ρ', x', h2, ho2⟩ := hx2
 refine (drop21 h2 ho2 .returning).mono ?_
 rintro e u' w'' ⟨rfl, rfl, rfl⟩
 exact ⟨_, results_tmp rfl _ _ _, rfl, hR⟩
theorem ask_nil21 (g : Value) (hg : ∃ k a b, g = .func k a b) (w : World) : Calls Tryz.prog 57 #[.pointer none, g] w fun e w' => e = .returned (.int .i64 12) ∧ w = w' := by
 obtain ⟨k, a, b, rfl⟩ := hg
 have U := up_nil21 w
 go_enter Tryz.func57, Tryz.ntmps57
 go_wp2_with (go_at_call 13; refine U.mono ?_; rintro e w1 ⟨rfl, rfl⟩)
 go_ret
 exact ⟨rfl, rfl⟩
theorem Tryz.eg21c : ∀ args w, (callFunc 58 args).run Tryz.prog w = .ok (.enter 58 args) w := enters_of Tryz.func58 (by kernel_rfl) rfl
set_option maxHeartbeats 800000 in
theorem hcreate21 (h : HAt w H ρ x) (hR : Roles H.S) (ho : x.n.off = false) (t s r er : Int) (R : World → Prop)
   (hc : ∀ wx, w.grownBy wx none → Calls Tryz.prog 59 #[.pointer (some ⟨H.hb, 0, none⟩), .int .i64 t, .int .i64 s, .int .i64 r] wx fun e w' => e = .returned (.int .i64 er) ∧ R w' ∧ ∃ ρ' x', HAt w' H ρ' x' ∧ x'.n.off = false) :
   Calls Tryz.prog 16 #[.pointer (some ⟨H.hb, 0, none⟩), .int .i64 t, .int .i64 s, .int .i64 r] w fun e w' => e = .returned (.int .i64 er) ∧ R w' := by
 have hmf := Tryz.hmf21
 have hE1 := World.grownBy_alloc w (.cells #[.pointer (some ⟨H.hb, 0, none⟩)] 38) none
 have hb1 := Blk.new w 38 #[.pointer (some ⟨H.hb, 0, none⟩)]
 obtain ⟨a1, ha1⟩ : ∃ z, w.heap.size = z := ⟨_, rfl⟩
 obtain ⟨w1, hw1⟩ : ∃ z, w.alloc (.cells #[.pointer (some ⟨H.hb, 0, none⟩)] 38) = z := ⟨_, rfl⟩
 have hz1 : w1.heap.size = a1 + 1 := by rw [← hw1, ← ha1]; simp
 rw [hw1] at hE1 hb1
 rw [ha1] at hb1
 have hE2 := World.grownBy_alloc w1 (.cells #[.int .i64 t] 3) none
 have hb2 := Blk.newAt w1 (a1 + 1) hz1 3 #[.int .i64 t]
 obtain ⟨w2, hw2⟩ : ∃ z, w1.alloc (.cells #[.int .i64 t] 3) = z := ⟨_, rfl⟩
 have hz2 : w2.heap.size = a1 + 1 + 1 := by rw [← hw2]; simp [hz1]
 rw [hw2] at hE2 hb2
 have hE3 := World.grownBy_alloc w2 (.cells #[.int .i64 s] 3) none
 have hb3 := Blk.newAt w2 (a1 + 1 + 1) hz2 3 #[.int .i64 s]
 obtain ⟨w3, hw3⟩ : ∃ z, w2.alloc (.cells #[.int .i64 s] 3) = z := ⟨_, rfl⟩
 have hz3 : w3.heap.size = a1 + 1 + 1 + 1 := by rw [← hw3]; simp [hz2]
 rw [hw3] at hE3 hb3
 have hE4 := World.grownBy_alloc w3 (.cells #[.int .i64 r] 3) none
 have hb4 := Blk.newAt w3 (a1 + 1 + 1 + 1) hz3 3 #[.int .i64 r]
 obtain ⟨w4, hw4⟩ : ∃ z, w3.alloc (.cells #[.int .i64 r] 3) = z := ⟨_, rfl⟩
 have hz4 : w4.heap.size = a1 + 1 + 1 + 1 + 1 := by rw [← hw4]; simp [hz3]
 rw [hw4] at hE4 hb4
 have c1 : w4.cell? ⟨a1, 0, none⟩ = some (.pointer (some ⟨H.hb, 0, none⟩)) := (((hb1.ext hE2).ext hE3).ext hE4).cell 0
 have c2 : w4.cell? ⟨a1 + 1, 0, none⟩ = some (.int .i64 t) := ((hb2.ext hE3).ext hE4).cell 0
 have c3 : w4.cell? ⟨a1 + 1 + 1, 0, none⟩ = some (.int .i64 s) := (hb3.ext hE4).cell 0
 have c4 : w4.cell? ⟨a1 + 1 + 1 + 1, 0, none⟩ = some (.int .i64 r) := hb4.cell 0
 have hE : w.grownBy w4 none := ext_trans (ext_trans (ext_trans hE1 hE2) hE3) hE4
 have CR := hc w4 hE
 have C1 : Calls Tryz.prog 58 #[.pointer (some ⟨a1, 0, none⟩), .pointer (some ⟨a1 + 1, 0, none⟩), .pointer (some ⟨a1 + 1 + 1, 0, none⟩), .pointer (some ⟨a1 + 1 + 1 + 1, 0, none⟩)] w4 fun e w' => e = .returned (.int .i64 er) ∧ R w' ∧ ∃ ρ' x', HAt w' H ρ' x' ∧ x'.n.off = false := by
   clear hE1 hE2 hE3 hE4 hb1 hb2 hb3 hb4 hw1 hw2 hw3 hw4 hz1 hz2 hz3 hz4 ha1 hE h hR ho hc
   go_enter Tryz.func58, Tryz.ntmps58
   go_wp2_with (go_at_call 59; refine CR.mono ?_; rintro e w5 ⟨rfl, hR5, hx5⟩)
   go_ret
   exact ⟨rfl, hR5, hx5⟩
 have AK := ask21 (h.ext hR hE) ho 58 Tryz.eg21c _ er R C1
 clear hE1 hE2 hE3 hE4 hb1 hb2 hb3 hb4 hE h hR ho hc CR C1 c2 c3 c4
 go_enter Tryz.func16, Tryz.ntmps16
 go_upto_region 1 with fail
 clear hw1 hw2 hw3 hw4 hz1 hz2 hz3 hz4 ha1
 go_wp2_with (go_at_call 57; refine AK.mono ?_; rintro e w5 ⟨rfl, hR5⟩)
 go_ret
 exact ⟨rfl, hR5⟩
set_option maxHeartbeats 3200000 in
theorem create_no21 (h : HAt w H ρ x) (hR : Roles H.S) (t s r er : Int) (hm : ∀ j, j < 4 → (x.L.t j).bs.length ≤ 1048576) (he : (createS x.L t s r []).2 = er) (hn : er ≠ 0) :
   Calls Tryz.prog 59 #[.pointer (some ⟨H.hb, 0, none⟩), .int .i64 t, .int .i64 s, .int .i64 r] w fun e w' => e = .returned (.int .i64 er) ∧ w.grownBy w' none := by
 have CR0 := Lib.hid (fun (wx : World) (hE : w.grownBy wx none) => create_any x.L x.VL t s r (.slice none 0 0) [] wx (h.li.ext hE) hm (.inl ⟨rfl, rfl⟩) (by simp) (fun p hp => by simp [Value.ownBlock] at hp))
 obtain ⟨⟨R0, er0⟩, hR0⟩ : ∃ z, createS x.L t s r [] = z := ⟨_, rfl⟩
 rw [hR0] at CR0
 have he0 : er0 = er := by rw [hR0] at he; exact he
 have e00 : (er0 != 0) = true := by rw [he0]; simpa using hn
 have H0 := Lib.hid he0
 clear he0
 have hE1 := World.grownBy_alloc w (.cells #[.pointer (some ⟨H.hb, 0, none⟩)] 38) none
 have hb1 := Blk.new w 38 #[.pointer (some ⟨H.hb, 0, none⟩)]
 obtain ⟨hx, hhx⟩ : ∃ z, w.heap.size = z := ⟨_, rfl⟩
 obtain ⟨w1, hw1⟩ : ∃ z, w.alloc (.cells #[.pointer (some ⟨H.hb, 0, none⟩)] 38) = z := ⟨_, rfl⟩
 have hz1 : w1.heap.size = hx + 1 := by rw [← hw1, ← hhx]; simp
 rw [hw1] at hE1 hb1
 rw [hhx] at hb1
 have hE2 := World.grownBy_alloc w1 (.cells #[.int .i64 t] 3) none
 have hb2 := Blk.newAt w1 (hx + 1) hz1 3 #[.int .i64 t]
 obtain ⟨w2, hw2⟩ : ∃ z, w1.alloc (.cells #[.int .i64 t] 3) = z := ⟨_, rfl⟩
 have hz2 : w2.heap.size = hx + 1 + 1 := by rw [← hw2]; simp [hz1]
 rw [hw2] at hE2 hb2
 have hx2 := hb1.ext hE2
 have HW := Lib.hid (show hx + 1 + 1 = w2.heap.size ∧ w.heap.size = hx ∧ H.hb < hx ∧ w.grownBy w2 none ∧ Blk w2 hx 38 #[.pointer (some ⟨H.hb, 0, none⟩)] ∧ Blk w2 (hx + 1) 3 #[.int .i64 t] from ⟨hz2.symm, hhx, by have := h.bk.lt; omega, ext_trans hE1 hE2, hx2, hb2⟩)
 have SE := Lib.hid (fun (y : World) (hE : w2.grownBy y none) => (SeeB.of_ext hE (by have := h.bk.lt; simp; omega) : SeeB w2 [hx, hx + 1, H.hb] y))
 have HC := Lib.hid (show ∀ y, SeeB w2 [hx, hx + 1, H.hb] y → y.cell? ⟨hx, 0, none⟩ = some (.pointer (some ⟨H.hb, 0, none⟩)) ∧ y.cell? ⟨hx + 1, 0, none⟩ = some (.int .i64 t) ∧ Blk y H.hb 95 (hsC H x) ∧ y.cell? ⟨H.hb, 2, none⟩ = some (.pointer (some ⟨H.S.nb, 0, none⟩)) from fun y hy => ⟨hy.cell (by simp) (hx2.cell 0), hy.cell (by simp) (hb2.cell 0), (hy _ (by simp)).trans ((h.ext hR (ext_trans hE1 hE2)).bk), hy.cell (by simp) (h.ext hR (ext_trans hE1 hE2)).c2⟩)
 have hmf := Tryz.hmf21
 clear h hR hm hn he hR0 hE1 hE2 hb1 hb2 hx2
 go_enter Tryz.func59, Tryz.ntmps59
 go_upto_region 1 with fail
 clear hw1 hw2 hz1 hz2 hhx
 go_cut [9, 10] (fun s9 s10 wx => ∃ lb, s9 = .pointer (some ⟨lb, 0, none⟩) ∧ s10 = .int .i64 er0 ∧ w2.grownBy wx none)
 case first =>
   have hS : SeeB w2 [hx, hx + 1, H.hb] w2.drew := SE.out _ (Ext.drew w2)
   refine region_tree (.read 0 (.read 1 (.read 2 (.read 3 (.read 4 (.read 5 (.read 6 (.two 7 11 (.read 8 (.read 9 (.read 10 (.one 11 (.one 12 (.read 13 .done)))))) (.one 7 (.read 8 (.read 9 (.read 10 (.one 12 (.read 13 .done)))))))))))))) (SeeB w2 [hx, hx + 1, H.hb]) (by kernel_rfl) (by kernel_rfl) (fun _ _ _ d _ h => by cases d <;> exact h) hS ?_
   repeat (refine tree_read (a' := ?_) rfl (by kernel_rfl) (by kernel_rfl) hS (fun y hy K hK => ?_) ?_; rotate_left; · obtain ⟨k1, k2, b0, c2⟩ := HC.out y hy; go_wp2_with (refine hled_load rfl _ rfl rfl b0 ?_); exact hK)
   refine tree_two ?_ ?_
   · refine tree_one (by rfl) (fun K hK => ?_)
     go_wp2_with (go_at_call 100; refine (CR0.out _ (ext_trans HW.out.2.2.2.1 (Ext.drew w2))).mono ?_; rintro e w3 ⟨V3, rfl, hL3, _, hE3⟩)
     have hE3 : w2.grownBy w3 none := ext_trans (Ext.drew w2) hE3
     have hS3 := SE.out _ hE3
     refine hK _ _ (SeeB w2 [hx, hx + 1, H.hb]) hS3 (fun _ h => h) ?_
     clear hK K
     have hV3 := hL3.slices
     repeat (refine tree_read (a' := ?_) rfl (by kernel_rfl) (by kernel_rfl) hS3 (fun y hy K hK => ?_) ?_; rotate_left; · go_wp2; exact hK)
     refine tree_one (by rfl) (fun K hK => ?_)
     go_wp2
     have hb4 := Blk.new w3 56 zeroC
     have hE4 := ext_trans hE3 (World.grownBy_alloc w3 (.cells zeroC 56) none)
     refine hK _ _ (SeeB w2 [hx, hx + 1, H.hb]) (SE.out _ hE4) (fun _ h => h) ?_
     clear hK K
     refine tree_one (by rfl) (fun K hK => ?_)
     go_wp2_with (refine led_store _ _ rfl rfl rfl hb4 rfl hV3 rfl ?_; intro w5 hb5 hg5 hs5)
     have hE5 : w2.grownBy w5 none := g17_new hE4 hg5 (by have := hE3.size; omega)
     refine hK _ _ (SeeB w2 [hx, hx + 1, H.hb]) (SE.out _ hE5) (fun _ h => h) ?_
     clear hK K
     repeat (refine tree_read (a' := ?_) rfl (by kernel_rfl) (by kernel_rfl) (SE.out _ hE5) (fun y hy K hK => ?_) ?_; rotate_left; · go_wp2; exact hK)
     refine tree_end ?_
     go_wp2
     go_meet
     exact ⟨_, rfl, rfl, hE5⟩
   · refine tree_one (by rfl) (fun K hK => ?_)
     go_wp2
     have hb4 := Blk.new w2.drew 56 zeroC
     have hE4 : w2.grownBy (w2.drew.alloc (.cells zeroC 56)) none := ext_trans (Ext.drew w2) (World.grownBy_alloc w2.drew (.cells zeroC 56) none)
     refine hK _ _ (SeeB w2 [hx, hx + 1, H.hb]) (SE.out _ hE4) (fun _ h => h) ?_
     clear hK K
     refine tree_one (by rfl) (fun K hK => ?_)
     go_wp2_with (go_at_call 100; refine (CR0.out _ (ext_trans HW.out.2.2.2.1 hE4)).mono ?_; rintro e w3 ⟨V3, rfl, hL3, _, hE3⟩)
     have hb3 := hb4.ext hE3
     have hE3 : w2.grownBy w3 none := ext_trans hE4 hE3
     have hS3 := SE.out _ hE3
     refine hK _ _ (SeeB w2 [hx, hx + 1, H.hb]) hS3 (fun _ h => h) ?_
     clear hK K
     have hV3 := hL3.slices
     repeat (refine tree_read (a' := ?_) rfl (by kernel_rfl) (by kernel_rfl) hS3 (fun y hy K hK => ?_) ?_; rotate_left; · go_wp2; exact hK)
     refine tree_one (by rfl) (fun K hK => ?_)
     go_wp2_with (refine led_store _ _ rfl rfl rfl hb3 rfl hV3 rfl ?_; intro w5 hb5 hg5 hs5)
     have hE5 : w2.grownBy w5 none := g17_new hE3 hg5 (Nat.le_refl _)
     refine hK _ _ (SeeB w2 [hx, hx + 1, H.hb]) (SE.out _ hE5) (fun _ h => h) ?_
     clear hK K
     repeat (refine tree_read (a' := ?_) rfl (by kernel_rfl) (by kernel_rfl) (SE.out _ hE5) (fun y hy K hK => ?_) ?_; rotate_left; · go_wp2; exact hK)
     refine tree_end ?_
     go_wp2
     go_meet
     exact ⟨_, rfl, rfl, hE5⟩
 case rest =>
   obtain ⟨lb, rfl, rfl, hE⟩ := hcut
   have HE := Lib.hid (ext_trans HW.out.2.2.2.1 hE)
   clear hE CR0
   go_wp2
   go_ret
   exact ⟨by rw [H0.out]; rfl, HE.out⟩
end
end Go.Proofs.YtfgifgglcafadaaGreatDoor

namespace Go.Proofs.YtfgifgglcafadaaGreatDoor
set_option linter.unusedVariables false
set_option linter.unusedSimpArgs false
set_option linter.unusedVariables false
set_option linter.unusedSimpArgs false
set_option maxRecDepth 100000
open Go.RowKit
section
variable {w : World} {p : SP} {c : SC} {m : SM}
set_option maxHeartbeats 3200000 in
theorem wait21 (h : StAt w p c m) (ok : StOk p c) (x : Chg) (hl : lacE c x.pl = 0) (h16 : x.dt.size ≤ 16) (hro : m.ro = false) (h4 : m.q.length < 4) :
   Calls Tryz.prog 155 #[.pointer (some ⟨p.sb, 0, none⟩), .agg (chgC x)] w (Gs p c (.int .i64 (putE m.q x)) { m with q := putR m.q x } w) := by
 have hg0 := World.grownBy_alloc w (.cells (chgC x) 144) none
 have h1 := h.ext ok hg0
 have hb1 := Blk.new w 144 (chgC x)
 have hfr : tS p c w.heap.size = 0 := by
   have e1 := h.nd.fresh (Nat.le_refl w.heap.size)
   have e2 := h.bk.lt
   have e3 := h.tb.lt
   have e4 := bufLt _ _ _ h.bf
   unfold tS
   rw [if_neg (by omega)]
   exact e1
 obtain ⟨cb, hcb⟩ : ∃ z, w.heap.size = z := ⟨_, rfl⟩
 rw [hcb] at hb1 hfr
 obtain ⟨w1, hw1⟩ : ∃ y, w.alloc (.cells (chgC x) 144) = y := ⟨_, rfl⟩
 rw [hw1] at hg0 h1 hb1
 have LK := lacks18 h1 x.pl
 have FU := buf_full18 w1 p.bb m.q h1.bf (by omega)
 have d0 : w1.cell? ⟨cb, 0, none⟩ = some (.int .i64 x.pl) := hb1.cell 0
 have d2 : w1.cell? ⟨cb, 2, none⟩ = some (.string x.dt) := hb1.cell 2
 obtain ⟨_, _, _, _, _, _, _, c8, _, _, c11⟩ := h1.cells
 have H1 := Lib.hid (And.intro h1 (And.intro (Keeps.ext (T := tS p c) hg0) (And.intro hb1 hfr)))
 have FIN := Lib.hid (fun (wx : World) (hx : StAt wx p c m) => (show Calls Tryz.prog 183 #[.pointer (some ⟨p.bb, 0, none⟩), .agg (chgC x)] wx (Gs p c (.int .i64 (putE m.q x)) { m with q := putR m.q x } wx) from
   (buf_put18 wx p.bb m.q x hx.bf (by omega) (by omega)).mono fun e w' ⟨h1, h2, h3⟩ => ⟨h1, hx.buf ok h2 h3, Keeps.own18 h3 (.inr (.inr rfl))⟩))
 have SA := Lib.hid (fun (wx : World) (hE : w1.grownBy wx none) => h1.ext ok hE)
 rw [hl] at LK
 rw [hro] at c11
 rw [decide_eq_false (by omega : ¬ m.q.length = 4)] at FU
 have h16' : ¬ (x.dt.size : Int) > 16 := by omega
 clear h h1 hl h16 hb1 hg0 hro h4 c8 hfr
 go_enter Tryz.func155, Tryz.ntmps155
 go_upto_region 1 with fail
 clear hw1 hcb
 have c8 := H1.out.1.cells.2.2.2.2.2.2.2.1
 go_upto_region 12 with (first
   | (go_at_call 96; refine LK.mono ?_; rintro e4 w2 ⟨rfl, rfl⟩)
   | (go_at_call 182; refine FU.mono ?_; rintro e4 w3 ⟨rfl, hg3⟩))
 have HA4 := Lib.hid (And.intro (SA.out _ hg3) (And.intro (H1.out.2.1.trans (Keeps.ext hg3)) (H1.out.2.2.1.ext hg3)))
 clear hg3 c8
 obtain ⟨c8b, hbx⟩ : w3.cell? ⟨p.sb, 8, none⟩ = some (.pointer (some ⟨p.bb, 0, none⟩)) ∧ Blk w3 cb 144 (chgC x) := ⟨(HA4.out.1).cells.2.2.2.2.2.2.2.1, HA4.out.2.2⟩
 have hS : w3.drew.cell? ⟨p.sb, 8, none⟩ = some (.pointer (some ⟨p.bb, 0, none⟩)) ∧ Blk w3.drew cb 144 (chgC x) := ⟨c8b, hbx⟩
 have P := FIN.out w3.drew ((HA4.out.1).ext ok (Ext.drew w3))
 clear c8b hbx
 refine region_line [(0, true), (1, true), (2, true), (3, true), (4, true), (5, false), (6, true)] (fun y => y.cell? ⟨p.sb, 8, none⟩ = some (.pointer (some ⟨p.bb, 0, none⟩)) ∧ Blk y cb 144 (chgC x)) (by kernel_rfl) (by kernel_rfl) (fun _ _ _ d _ h => by cases d <;> exact h) hS ?_
 repeat (refine line_read (a' := ?_) rfl (by kernel_rfl) (by kernel_rfl) hS (fun y hy K hK => ?_) ?_; rotate_left; · obtain ⟨c8, hbk⟩ := hy; go_wp2_with (refine chg_load_want rfl _ rfl rfl (hbk.range 0 3 rfl) ?_); exact hK)
 refine line_act (by rfl) (fun K hK => ?_)
 go_wp2_with (go_at_call 183; refine P.mono ?_; rintro e7 w7 ⟨rfl, hA7, hk7⟩)
 have hS7 : w7.cell? ⟨p.sb, 8, none⟩ = some (.pointer (some ⟨p.bb, 0, none⟩)) ∧ Blk w7 cb 144 (chgC x) := ⟨hA7.cells.2.2.2.2.2.2.2.1, (hk7.block _ hS.2.lt H1.out.2.2.2).trans hS.2⟩
 refine hK _ _ (fun y => y.cell? ⟨p.sb, 8, none⟩ = some (.pointer (some ⟨p.bb, 0, none⟩)) ∧ Blk y cb 144 (chgC x)) hS7 (fun _ h => h) ?_
 clear hK K
 repeat (refine line_read (a' := ?_) rfl (by kernel_rfl) (by kernel_rfl) hS7 (fun y hy K hK => ?_) ?_; rotate_left; · go_wp2; exact hK)
 refine line_end ?_
 go_wp2
 go_ret
 exact ⟨rfl, hA7, (HA4.out.2.1).trans ((Keeps.ext (Ext.drew w3)).trans hk7)⟩
theorem write21 (h : StAt w p c m) (ok : StOk p c) (pl : Int) (dt : ByteArray) (hl : lacE c pl = 0) (h16 : dt.size ≤ 16) (hro : m.ro = false) (h4 : m.q.length < 4) :
   Calls Tryz.prog 120 #[.pointer (some ⟨p.sb, 0, none⟩), .int .i64 pl, .string dt] w (Gs p c (.int .i64 (putE m.q ⟨pl, 1, dt⟩)) { m with q := putR m.q ⟨pl, 1, dt⟩ } w) := by
 have W := wait21 h ok ⟨pl, 1, dt⟩ hl h16 hro h4
 rw [show (chgC ⟨pl, 1, dt⟩) = #[.int .i64 pl, .int .i64 1, .string dt] from rfl] at W
 clear h ok hl h16 hro h4
 go_enter Tryz.func120, Tryz.ntmps120
 go_wp2_with (go_at_call 155; refine W.mono ?_; rintro e1 w1 ⟨rfl, hA, hk⟩)
 go_ret
 exact ⟨rfl, hA, hk⟩
set_option maxHeartbeats 1600000 in
theorem read21 (h : StAt w p c m) (ok : StOk p c) (q : Int) (hq : m.q.length ≤ 4) (hl : lacE c q = 0) (x : Chg) (hx : lastN m.q q = (x, true)) :
   Calls Tryz.prog 56 #[.pointer (some ⟨p.sb, 0, none⟩), .int .i64 q] w fun e w' => e = .returned (.tuple #[.string x.dt, .int .i64 0]) ∧ w.grownBy w' none := by
 have LK := lacks18 h q
 have LA := buf_last18 w p.bb m.q q h.bf hq
 have c8 := h.cells.2.2.2.2.2.2.2.1
 rw [hl] at LK
 rw [hx] at LA
 clear h hl hx hq
 go_enter Tryz.func56, Tryz.ntmps56
 go_wp2_with (first
   | (go_at_call 96; refine LK.mono ?_; rintro e1 w1 ⟨rfl, rfl⟩)
   | (go_at_call 97; refine LA.mono ?_; rintro e1 w1 ⟨rfl, hg1⟩; have hBn := Blk.new w1 144 (chgC noChg); have HG1 := Lib.hid hg1; clear hg1)
   | (refine chg_store (c := x) _ _ rfl rfl rfl hBn rfl rfl ?_; intro w2 hb2 hg2 hs2; have d2 := (hb2.cell 2).trans (show (chgC x)[2]? = some (.string x.dt) from rfl); have HE2 := Lib.hid (g17_new (ext_trans HG1.out (World.grownBy_alloc w1 _ none)) hg2 HG1.out.size); clear hg2 hs2 hBn hb2))
 go_returns
 exact ⟨rfl, HE2.out⟩
end
theorem NandAt.otherF {w w' : World} {S : NShape} {V : Nat → Value} {zs : Nat → List Int} {s : NS} {F : Nat → Prop} (h : NandAt w S V zs s) (hR : Roles S) (hg : KpF F w w') (ht : ∀ k, F k → S.T k = 0) (hV : ∀ j, j < 4 → ∀ k, (V j).ownBlock = some k → ¬ F k) (hb : ∀ i j, (s.L i j).bs = []) : NandAt w' S V zs s := by
 have e : ∀ k, S.T k ≠ 0 → w'.heap[k]? = w.heap[k]? := fun k hk => hg.block k (h.hi k hk) (fun hf => hk (ht k hf))
 have e3 := e S.bm (by rw [hR.tm]; decide)
 have e4 := e S.be (by rw [hR.te]; decide)
 have e6 := e S.db (by rw [hR.td]; decide)
 refine ⟨h.fix.stays (e _ (by rw [hR.tn]; decide)) (e _ (by rw [hR.tl]; decide)), fun i hi => ?_, fun i hi => (World.cell?_of_block e3).trans (h.mks i hi), fun o => (World.frozen?_of_block e3).trans (h.mkf o),
   fun i hi => (World.cell?_of_block e4).trans (h.ers i hi), fun o => (World.frozen?_of_block e4).trans (h.erf o), h.pow.stays (e _ (by rw [hR.tp]; decide)), ?_, h.tv, fun k hk => Nat.lt_of_lt_of_le (h.hi k hk) hg.size⟩
 · have hr := h.row i hi
   have er := e (S.row i) (by rw [hR.tr i hi]; omega)
   refine ⟨fun j hj => (World.cell?_of_block er).trans (hr.st j hj), fun j hj => ?_, fun j hj => (World.cell?_of_block er).trans (hr.dt j hj), fun o => (World.frozen?_of_block er).trans (hr.free o)⟩
   obtain ⟨v, h1, h2, h3⟩ := hr.bs j hj
   rw [hb i j] at h2 ⊢
   exact ⟨v, (World.cell?_of_block er).trans h1, bts_empty h2, h3⟩
 · exact ⟨fun j hj => (World.cell?_of_block e6).trans (h.drs.row j hj), fun j hj => (World.cell?_of_block e6).trans (h.drs.ops j hj), fun j hj => (World.cell?_of_block e6).trans (h.drs.bad j hj), fun o => (World.frozen?_of_block e6).trans (h.drs.free o), fun j hj => hg.ints (h.drs.ints j hj) (hV j hj), h.drs.apart⟩
section
variable {w w' : World} {H : HC} {ρ : Nat → Nat} {x : HX}
theorem HAt.nandQ (h : HAt w H ρ x) (hR : Roles H.S) {t : Nat} (ht : t < 4) (hk : KpF (fpQ (x.qp t) (x.vw t) (x.vd t)) w w') (hb : ∀ i j, (x.n.L i j).bs = []) : NandAt w' H.S H.V H.zs x.n :=
 h.nd.otherF hR hk (fun k e => h.T0 (by rw [h.rq t ht k e]; omega)) (fun j hj k hk e => by have h1 := h.rq t ht k e; rw [(h.rv j hj k hk).1] at h1; omega) hb
theorem HAt.turnW (h : HAt w H ρ x) (hR : Roles H.S) {t : Nat} (ht : t < 4) (hb : ∀ i j, (x.n.L i j).bs = []) {ws' : List Chg} (hq : QwP w (x.qp t) (x.vw t) (x.vd t) ws' (x.ds t) w') :
   ∃ ρ' v, HAt w' H ρ' { x with vw := updH x.vw t v, vd := updH x.vd t (x.vd t), ws := updH x.ws t ws', ds := updH x.ds t (x.ds t) } ∧ Fr w.heap.size ρ ρ' w w' := by
 obtain ⟨v, h1, h2, h3⟩ := hq
 exact ⟨_, v, h.queue ht h1 h2 (fun k hk => by
   rcases hk with hk | hk | hk
   · exact .inl (.inl hk)
   · rcases h3 k hk with e | e
     · exact .inl (.inr (.inl e))
     · exact .inr e
   · exact .inl (.inr (.inr hk))) (h.nandQ hR ht h2 hb), ⟨h2.mono (fun k e => by rw [h.rq t ht k e]; omega), fun k e => by
   by_cases hk : k < w.heap.size
   · rw [extR_lt hk] at e; exact .inl e
   · exact .inr (by omega)⟩⟩
theorem HAt.turnD (h : HAt w H ρ x) (hR : Roles H.S) {t : Nat} (ht : t < 4) (hb : ∀ i j, (x.n.L i j).bs = []) {ds' : List Chg} (hq : QdP w (x.qp t) (x.vw t) (x.vd t) (x.ws t) ds' w') :
   ∃ ρ' v, HAt w' H ρ' { x with vw := updH x.vw t (x.vw t), vd := updH x.vd t v, ws := updH x.ws t (x.ws t), ds := updH x.ds t ds' } ∧ Fr w.heap.size ρ ρ' w w' := by
 obtain ⟨v, h1, h2, h3⟩ := hq
 exact ⟨_, v, h.queue ht h1 h2 (fun k hk => by
   rcases hk with hk | hk | hk
   · exact .inl (.inl hk)
   · exact .inl (.inr (.inl hk))
   · rcases h3 k hk with e | e
     · exact .inl (.inr (.inr e))
     · exact .inr e) (h.nandQ hR ht h2 hb), ⟨h2.mono (fun k e => by rw [h.rq t ht k e]; omega), fun k e => by
   by_cases hk : k < w.heap.size
   · rw [extR_lt hk] at e; exact .inl e
   · exact .inr (by omega)⟩⟩
end
end Go.Proofs.YtfgifgglcafadaaGreatDoor

namespace Go.Proofs.YtfgifgglcafadaaGreatDoor
set_option linter.unusedVariables false
set_option linter.unusedSimpArgs false
set_option linter.unusedVariables false
set_option linter.unusedSimpArgs false
set_option maxRecDepth 100000
open Go.RowKit
section
variable {w w' : World} {H : HC} {ρ : Nat → Nat} {x : HX}
set_option maxHeartbeats 1600000 in
theorem submit21 (h : HAt w H ρ x) (hR : Roles H.S) (ho : x.n.off = false) (t : Nat) (ht : t < 4) (hth : (x.L.t t).th = true) (hnb : ∀ i j, (x.n.L i j).bs = []) (c : Chg) :
   Calls Tryz.prog 20 #[.pointer (some ⟨H.hb, 0, none⟩), .int .i64 (t : Int), .agg (chgC c)] w fun e w' => e = .returned (.int .i64 (subE (x.ws t) c)) ∧ ∃ ρ' v, HAt w' H ρ' { x with vw := updH x.vw t v, vd := updH x.vd t (x.vd t), ws := updH x.ws t (subR (x.ws t) c), ds := updH x.ds t (x.ds t) } ∧ Fr w.heap.size ρ ρ' w w' := by
 have hE := World.grownBy_alloc w (.cells (chgC c) 30) none
 have hb1 := Blk.new w 30 (chgC c)
 have hc1 := h.bk.lt
 obtain ⟨cb, hcb⟩ : ∃ z, w.heap.size = z := ⟨_, rfl⟩
 obtain ⟨w1, hw1⟩ : ∃ z, w.alloc (.cells (chgC c) 30) = z := ⟨_, rfl⟩
 rw [hw1] at hE hb1
 rw [hcb] at hb1 hc1
 have h1 := h.ext hR hE
 have LK := lacks21 h1 (t : Int)
 have hl0 : lackT x.n.off x.L (t : Int) = 0 := by
   unfold lackT missT
   rw [ho, if_neg (by decide), if_pos (by simp [inB]; omega)]
   simp [hth]
 rw [hl0] at LK
 obtain ⟨er, her⟩ : ∃ z : Int, z = 0 := ⟨_, rfl⟩
 have e0 : (er != 0) = false := by rw [her]; rfl
 rw [← her] at LK
 have SB := Lib.hid (fun (wx : World) (hE : w1.grownBy wx none) => submit20 ((h1.qs t ht).ext hE) c)
 have hcQ := h1.cQ ht
 have ht4 : (t : Int) < 4 := by omega
 have H1 := Lib.hid (And.intro h1 (And.intro hR hnb))
 have HE1 := Lib.hid (ext_trans hE (Ext.drew w1))
 have NF := Lib.hid (show ¬ fpQ (x.qp t) (x.vw t) (x.vd t) H.hb ∧ ¬ fpQ (x.qp t) (x.vw t) (x.vd t) cb from ⟨fun e => by have := h.rq t ht _ e; rw [h.rh] at this; omega, fun e => by have := h.rt cb (by rw [h.rq t ht _ e]; omega); omega⟩)
 have hS : SeeB w1 [H.hb, cb] w1.drew := SeeB.of_ext (Ext.drew w1) (by have := h1.bk.lt; have := hb1.lt; simp; omega)
 have HC := Lib.hid (show ∀ y, SeeB w1 [H.hb, cb] y → y.cell? ⟨H.hb, 29 + t, none⟩ = some (.pointer (some ⟨x.qp t, 0, none⟩)) ∧ Blk y cb 30 (chgC c) from fun y hy => ⟨hy.cell (by simp) hcQ, (hy _ (by simp)).trans hb1⟩)
 clear h hR ho hE hb1 h1 hl0 her hc1 hth
 go_enter Tryz.func20, Tryz.ntmps20
 go_upto_region 4 with (go_at_call 48; refine LK.mono ?_; rintro e w2 ⟨rfl, rfl⟩)
 clear hw1 hcb e0 LK
 refine region_line [(0, true), (1, true), (2, true), (3, true), (4, true), (5, true), (6, true), (7, false), (8, true)] (SeeB w1 [H.hb, cb]) (by kernel_rfl) (by kernel_rfl) (fun _ _ _ d _ h => by cases d <;> exact h) hS ?_
 repeat (refine line_read (a' := ?_) rfl (by kernel_rfl) (by kernel_rfl) hS (fun y hy K hK => ?_) ?_; rotate_left; · (obtain ⟨k1, b0⟩ := HC.out y hy; go_wp2_with (refine cmd_load rfl _ rfl rfl (b0.range 0 3 rfl) ?_); exact hK))
 refine line_act (by rfl) (fun K hK => ?_)
 go_wp2_with (go_at_call 66; refine (SB.out _ (Ext.drew w1)).mono ?_; rintro e w3 ⟨rfl, hq3⟩)
 obtain ⟨v3, q3, k3, o3⟩ := hq3
 have hS3 : SeeB w1 [H.hb, cb] w3 := fun k hk => by
   have hlt : k < w1.heap.size := by have := H1.out.1.bk.lt; have := (HC.out w1 (fun _ _ => rfl)).2.lt; simp at hk; omega
   simp at hk
   rcases hk with rfl | rfl
   · exact k3.block _ hlt NF.out.1
   · exact k3.block _ hlt NF.out.2
 refine hK _ _ (SeeB w1 [H.hb, cb]) hS3 (fun _ h => h) ?_
 clear hK K
 repeat (refine line_read (a' := ?_) rfl (by kernel_rfl) (by kernel_rfl) hS3 (fun y hy K hK => ?_) ?_; rotate_left; · go_wp2; exact hK)
 refine line_end ?_
 go_wp2
 go_ret
 obtain ⟨ρ', v, a1, a2⟩ := (H1.out.1.ext H1.out.2.1 (Ext.drew w1)).turnW H1.out.2.1 ht H1.out.2.2 ⟨v3, q3, k3, o3⟩
 exact ⟨rfl, ρ', v, a1, (Fr.ext HE1.out).trans a2 (Nat.le_refl _) HE1.out.size⟩
theorem peek21 (h : HAt w H ρ x) (ho : x.n.off = false) (t : Nat) (ht : t < 4) (hth : (x.L.t t).th = true) {p : SP} {c : SC} {m : SM} (hst : x.st t = some (p, c, m)) (q : Int) (hq : m.q.length ≤ 4) (hl : lacE c q = 0) (y : Chg) (hx : lastN m.q q = (y, true)) :
   Calls Tryz.prog 15 #[.pointer (some ⟨H.hb, 0, none⟩), .int .i64 (t : Int), .int .i64 q] w fun e w' => e = .returned (.tuple #[.string y.dt, .int .i64 0]) ∧ w.grownBy w' none := by
 have LK := lacks21 h (t : Int)
 have hl0 : lackT x.n.off x.L (t : Int) = 0 := by
   unfold lackT missT
   rw [ho, if_neg (by decide), if_pos (by simp [inB]; omega)]
   simp [hth]
 rw [hl0] at LK
 have cS := h.cS ht
 rw [hst] at cS
 obtain ⟨a, ok, _⟩ := h.ss t ht p c m hst
 have RD := read21 a ok q hq hl y hx
 have ht4 : (t : Int) < 4 := by omega
 have cS : w.cell? ⟨H.hb, 25 + t, none⟩ = some (.pointer (some ⟨p.sb, 0, none⟩)) := cS
 clear h ho hth hst hl hx hl0 a ok
 go_enter Tryz.func15, Tryz.ntmps15
 go_wp2_with (first
   | (go_at_call 48; refine LK.mono ?_; rintro e w2 ⟨rfl, rfl⟩)
   | (go_at_call 56; refine RD.mono ?_; rintro e w3 ⟨rfl, hg3⟩))
 go_returns
 exact ⟨rfl, hg3⟩
theorem hdone21 (h : HAt w H ρ x) (t : Nat) (ht : t < 4) (hl : (x.ds t).length ≤ 1000000) :
   Calls Tryz.prog 40 #[.pointer (some ⟨H.hb, 0, none⟩), .int .i64 (t : Int)] w fun e w' => ∃ v, e = .returned v ∧ w'.ownsRow w.heap.size 81 3 v (x.ds t).length (chgsL (x.ds t)) ∧ w.grownBy w' none := by
 have AL := all20 (h.qs t ht) hl
 have cQ := h.cQ ht
 have ht4 : ¬ (t : Int) ≥ 4 := by omega
 have ht0 : ¬ (t : Int) < 0 := by omega
 clear h hl
 go_enter Tryz.func40, Tryz.ntmps40
 go_wp2_with (go_at_call 84; refine AL.mono ?_; rintro e w2 ⟨v, rfl, ho, hg⟩)
 go_ret
 exact ⟨_, rfl, ho, hg⟩
theorem slots21 (h : HAt w H ρ x) : Calls Tryz.prog 38 #[.pointer (some ⟨H.hb, 0, none⟩)] w fun e w' => e = .returned (.int .i64 x.sl) ∧ w = w' := by
 have cN := h.cN
 clear h
 go_enter Tryz.func38, Tryz.ntmps38
 go_wp2
 go_ret
 exact ⟨rfl, rfl⟩
end
section
variable {w : World} {p : SP} {c : SC} {m : SM}
set_option maxHeartbeats 800000 in
theorem run21 (h : StAt w p c m) (ok : StOk p c) (pl : Int) (dt : ByteArray) (hl : lacE c pl = 0) (h16 : dt.size ≤ 16) (hro : m.ro = false) (h4 : m.q.length < 4) :
   Calls Tryz.prog 69 #[.pointer (some ⟨p.sb, 0, none⟩), .agg (chgC ⟨2, pl, dt⟩)] w fun e w' => e = .returned (.tuple #[.string ⟨#[]⟩, .int .i64 (putE m.q ⟨pl, 1, dt⟩)]) ∧ StAt w' p c { m with q := putR m.q ⟨pl, 1, dt⟩ } ∧ Keeps (tS p c) w w' := by
 have hE := World.grownBy_alloc w (.cells (chgC ⟨2, pl, dt⟩) 30) none
 have hb1 := Blk.new w 30 (chgC ⟨2, pl, dt⟩)
 obtain ⟨cb, hcb⟩ : ∃ z, w.heap.size = z := ⟨_, rfl⟩
 obtain ⟨w1, hw1⟩ : ∃ z, w.alloc (.cells (chgC ⟨2, pl, dt⟩) 30) = z := ⟨_, rfl⟩
 rw [hw1] at hE hb1
 rw [hcb] at hb1
 have W := write21 (h.ext ok hE) ok pl dt hl h16 hro h4
 have c0 : w1.cell? ⟨cb, 0, none⟩ = some (.int .i64 2) := hb1.cell 0
 have c1 : w1.cell? ⟨cb, 1, none⟩ = some (.int .i64 pl) := hb1.cell 1
 have c2 : w1.cell? ⟨cb, 2, none⟩ = some (.string dt) := hb1.cell 2
 have HE := Lib.hid (Keeps.ext (T := tS p c) hE)
 clear h ok hl h16 hro h4 hE hb1
 go_enter Tryz.func69, Tryz.ntmps69
 go_wp2_with (go_at_call 120; refine W.mono ?_; rintro e w2 ⟨rfl, hA, hk⟩)
 go_returns
 exact ⟨rfl, hA, HE.out.trans hk⟩
end
end Go.Proofs.YtfgifgglcafadaaGreatDoor
