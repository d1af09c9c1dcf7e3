/-
  Texts put together: AR AQ AS TL.
-/
import Derived.Test.YtfgifgglcafadaaGreatDoorM18
import Derived.Test.YtfgifgglcafadaaGreatDoorM10
import Derived.Test.YtfgifgglcafadaaGreatDoorM02
import Derived.Test.YtfgifgglcafadaaGreatDoorTie
import Derived.ProofKit
import Derived.LaidMore
import Derived.OpenShut
import Derived.Stop.Joined
namespace Go.Proofs.YtfgifgglcafadaaGreatDoor
set_option linter.unusedVariables false
set_option linter.unusedSimpArgs false
set_option linter.unusedVariables false
set_option linter.unusedSimpArgs false
set_option maxRecDepth 100000
open Go.RowKit
theorem Tryz.eqDone21 (w : World) : (binOp .eql 81 (.agg #[.int .i64 1, .int .i64 0, .string ⟨#[]⟩]) (.agg #[.int .i64 1, .int .i64 0, .string ⟨#[]⟩])).run Tryz.prog w = .ok (.bool true) w := by kernel_rfl
theorem newE21 : newE noZs = 0 := by kernel_rfl
theorem createS21 : (createS led21 1 5 1 []).2 = 7 := by kernel_rfl
set_option maxHeartbeats 6400000 in
theorem fixed21 (w : World) (hF : Flds w) : Calls Tryz.prog 7 #[] w fun e w' => e = .returned (.bool true) ∧ w.grownBy w' none := by
 have SM := small21 8 4 w
 have NW := Lib.hid (fun (wx : World) (hE : w.grownBy wx none) => hnew21 2 1 8 4 16 (fun _ => nilS) noZs nilS [] (hF.ext hE) ⟨fun _ _ => .inl ⟨rfl, rfl⟩, fun _ _ => by simp [noZs], fun _ _ k hk => by simp [nilS, Value.ownBlock] at hk⟩ newE21 (.inl ⟨rfl, rfl⟩) (by simp) (by decide) (by decide) (by decide))
 unfold NewH at NW
 obtain ⟨er0, her0⟩ : ∃ z : Int, z = 0 := ⟨_, rfl⟩
 have t0 : (er0 == 0) = true := by rw [her0]; rfl
 have NW2 := Lib.hid (fun (wx : World) (hE : w.grownBy wx none) => (show Calls Tryz.prog 11 #[.agg (suC 2 1 8 4 (fun _ => nilS) nilS)] wx fun e w' => ∃ H ρ qp, e = .returned (.tuple #[.pointer (some ⟨H.hb, 0, none⟩), .int .i64 er0]) ∧ HAt w' H ρ (newX n21 qp) ∧ Roles H.S ∧ (H.S.all = 16 ∧ H.S.p = 4 ∧ H.S.pg = 4) ∧ H.zs = noZs ∧ wx.grownBy w' none ∧ ∀ k, ρ k ≠ 0 → wx.heap.size ≤ k from
   (NW.out wx hE).mono fun e w' ⟨H, ρ, qp, a1, a2, a3, a4, a5, a6, a7, a8⟩ => ⟨H, ρ, qp, by rw [her0]; exact a1, a2, a3, ⟨a4.2.2.2.2.1, a4.2.2.2.1, a4.2.2.2.2.2⟩, a5, a6, a8⟩))
 clear NW her0
 go_enter Tryz.func7, Tryz.ntmps7
 go_upto_region 2 with (first
   | (go_at_call 41; refine SM.mono ?_; rintro e w1 ⟨rfl, hE1⟩; have HE1 := Lib.hid hE1; clear hE1)
   | (go_at_call 11; refine (NW2.out _ HE1.out).mono ?_; rintro e w2 ⟨H, ρ, qp, rfl, hA, hR, hsh, hzs, hE2, hlo⟩))
 have HR := Lib.hid (And.intro hR hsh)
 have hEw := ext_trans HE1.out hE2
 have hlo2 : ∀ k, ρ k ≠ 0 → w.heap.size ≤ k := fun k hk => Nat.le_trans HE1.out.size (hlo k hk)
 have A := cra21 H qp hsh.1 hsh.2.1 hsh.2.2
 obtain ⟨_, s2, s3⟩ := save21 H.S H.zs hsh.1 hsh.2.1 hsh.2.2
 obtain ⟨n2, hn2⟩ : ∃ z, (saveN H.S H.zs led21 H.S.all H.S.p n21).1 = z := ⟨_, rfl⟩
 rw [hn2] at A s2 s3
 have HN2 := Lib.hid (show n2.off = false ∧ ∀ i j, (n2.L i j).bs = [] from ⟨s2, fun i j => (s3 i j).1⟩)
 have hzl : ∀ j, j < 4 → (H.zs j).length ≤ 64 := fun j _ => by rw [hzs]; simp [noZs]
 have hfr : (freeM (takenL (newX n21 qp).L) (newX n21 qp).n.mr (H.S.all - 2)).take 4 = g21 := by rw [hsh.1]; exact free21
 obtain ⟨er1, her1⟩ : ∃ z : Int, z = 0 := ⟨_, rfl⟩
 have t1 : (er1 == 0) = true := by rw [her1]; rfl
 have CR := hcreate21 hA hR rfl 1 5 1 er1 (fun w' => ∃ ρ' p b VL2, HAt w' H ρ' (addT { newX n21 qp with n := n2, L := led21, VL := VL2 } 1 p ⟨H.S, H.zs, 1, 1, 5, 1, g21⟩ ⟨n2, [], [], 0, -1, false⟩ b) ∧ Fr w2.heap.size ρ ρ' w2 w') (fun wx hE => by
   refine (create21 (hA.ext hR hE) hR hzl A).mono ?_
   rintro e w' ⟨rfl, ρ', p, b, VL2, h1, h2⟩
   rw [hfr] at h1
   exact ⟨by rw [her1], ⟨ρ', p, b, VL2, h1, (Fr.ext hE).trans h2 (Nat.le_refl _) hE.size⟩, ρ', _, h1, s2⟩)
 have HW2 := Lib.hid (And.intro hEw hlo2)
 clear hA hR hsh hzs hE2 hlo hEw hlo2 A s2 s3 hn2 hzl hfr her1 NW2 SM
 go_upto_region 3 with (go_at_call 16; refine CR.mono ?_; rintro e w3 ⟨rfl, ρ3, p, b, VL2, h3, fr3⟩)
 obtain ⟨g3, l3⟩ := Fr.grown HW2.out.1 HW2.out.2 fr3 HW2.out.1.size
 obtain ⟨er2, her2⟩ : ∃ z, subE [] ⟨2, 4, ⟨#[120]⟩⟩ = z := ⟨_, rfl⟩
 have t2 : (er2 == 0) = true := by rw [← her2]; kernel_rfl
 have SB := submit21 h3 HR.out.1 HN2.out.1 1 (by omega) (by show (led21.t 1).th = true; rw [led21_t]; rfl) HN2.out.2 ⟨2, 4, ⟨#[120]⟩⟩
 rw [show (addT { newX n21 qp with n := n2, L := led21, VL := VL2 } 1 p ⟨H.S, H.zs, 1, 1, 5, 1, g21⟩ ⟨n2, [], [], 0, -1, false⟩ b).ws 1 = [] from rfl, her2] at SB
 rw [show (chgC ⟨2, 4, ⟨#[120]⟩⟩) = #[.int .i64 2, .int .i64 4, .string ⟨#[120]⟩] from rfl] at SB
 have H3 := Lib.hid (And.intro g3 l3)
 clear CR h3 fr3 g3 l3 her2
 go_upto_region 4 with (go_at_call 20; refine SB.mono ?_; rintro e w4 ⟨rfl, ρ4, v4, h4, fr4⟩)
 obtain ⟨g4, l4⟩ := Fr.grown H3.out.1 H3.out.2 fr4 H3.out.1.size
 have F0 : Fx21 w w4 H n2 p ⟨H.S, H.zs, 1, 1, 5, 1, g21⟩ 0 := ⟨fun _ => ⟨ρ4, _, h4, l4, rfl, rfl, rfl, rfl, by kernel_rfl, rfl, rfl, rfl, rfl⟩, fun h => (by omega), g4⟩
 have HF0 := Lib.hid F0
 clear SB h4 fr4 g4 l4 F0
 go_wp2
 go_loopw [20] (fun i wr => ∃ k : Nat, k ≤ 4 ∧ i = .int .i64 k ∧ Fx21 w wr H n2 p ⟨H.S, H.zs, 1, 1, 5, 1, g21⟩ k) (fun i _ => 4 - (intOf i).toNat)
 case atStart => exact ⟨0, by omega, rfl, HF0.out⟩
 case round =>
   obtain ⟨k, hk, rfl, hX⟩ := hrel
   obtain ⟨wo, rfl⟩ : ∃ wo : World, wo = wr := ⟨_, rfl⟩
   by_cases hlt : (k : Int) < 4
   · have SL := hX.slot HR.out.1 HN2.out.1 HN2.out.2 (by omega) rfl
     clear hX
     go_wp2_with (go_at_call 21; refine SL.mono ?_; rintro e w5 ⟨⟨bb, rfl⟩, hX5⟩)
     go_roundw
     case rel => exact ⟨k + 1, by omega, by go_num, hX5⟩
     case measure => simp [intOf]; omega
   · obtain rfl : k = 4 := by omega
     obtain ⟨ρ5, x, hA, l5, e1, e2, e3, e4, e5, e6, e7, e8, e9⟩ := hX.at2 (by omega)
     have g5 := hX.ex
     have hoff : x.n.off = false := by rw [e1]; exact HN2.out.1
     have hth : (x.L.t 1).th = true := by rw [e2, led21_t]; rfl
     have hbs : (x.L.t 1).bs = g21 := by rw [e2, led21_t]; rfl
     have hml : ∀ j, j < 4 → (x.L.t j).bs.length ≤ 1048576 := fun j _ => by rw [e2]; exact led21_good.len j (by omega)
     have DN := hdone21 hA 1 (by omega) (by rw [e8]; decide)
     rw [e8] at DN
     have PK := Lib.hid (fun (wx : World) (hE : wo.grownBy wx none) => peek21 (hA.ext HR.out.1 hE) hoff 1 (by omega) hth e9 4 (by show 1 ≤ 4; decide) (by show (if (4 : Int) < 0 ∨ (5 : Int) ≤ 4 then (5 : Int) else 0) = 0; decide) ⟨4, 1, ⟨#[120]⟩⟩ (by kernel_rfl))
     obtain ⟨sx, hsx⟩ : ∃ z : ByteArray, z = ⟨#[120]⟩ := ⟨_, rfl⟩
     have tsx : (sx.toList == [120]) = true := by rw [hsx]; kernel_rfl
     obtain ⟨er3, her3⟩ : ∃ z : Int, z = 0 := ⟨_, rfl⟩
     have t3 : (er3 == 0) = true := by rw [her3]; rfl
     simp only [← hsx, ← her3] at PK
     have ST := Lib.hid (fun (wx : World) (hE : wo.grownBy wx none) => stat21 (hA.ext HR.out.1 hE) HR.out.1 hoff 1 (by omega) hth e9 (by show 1 ≤ 4; decide) (by rw [hbs]; decide))
     unfold StatP at ST
     obtain ⟨nb, hnb⟩ : ∃ z, ((x.L.t 1).bs.length : Int) = z := ⟨_, rfl⟩
     have tnb : (nb == 4) = true := by rw [← hnb, hbs]; rfl
     obtain ⟨nw, hnw⟩ : ∃ z, (((([⟨4, 1, ⟨#[120]⟩⟩] : List Chg)).length + (x.ws 1).length : Nat) : Int) = z := ⟨_, rfl⟩
     have tnw : (nw == 1) = true := by rw [← hnw, e5]; rfl
     have ST2 := Lib.hid (fun (wx : World) (hE : wo.grownBy wx none) => (show Calls Tryz.prog 14 #[.pointer (some ⟨H.hb, 0, none⟩), .int .i64 1] wx fun e w' => (∃ a b d e2 f g h, e = .returned (.tuple #[.agg (stC21 a b nb d e2 f g h nw), .int .i64 er3])) ∧ wx.grownBy w' none from by
       rw [← hnb, ← hnw, her3]
       exact ST.out wx hE))
     obtain ⟨er7, her7⟩ : ∃ z : Int, z = 7 := ⟨_, rfl⟩
     have t7 : (er7 == 7) = true := by rw [her7]; rfl
     have CN := Lib.hid (fun (wx : World) (hE : wo.grownBy wx none) => hcreate21 (hA.ext HR.out.1 hE) HR.out.1 hoff 1 5 1 er7 (fun w' => wx.grownBy w' none) (fun wy hE2 => (create_no21 ((hA.ext HR.out.1 hE).ext HR.out.1 hE2) HR.out.1 1 5 1 er7 hml (by rw [e2, her7]; exact createS21) (by rw [her7]; decide)).mono fun e w' ⟨q1, q2⟩ => ⟨q1, ext_trans hE2 q2, _, _, ((hA.ext HR.out.1 hE).ext HR.out.1 hE2).ext HR.out.1 q2, hoff⟩))
     have SLT := Lib.hid (fun (wx : World) (hE : wo.grownBy wx none) => slots21 (hA.ext HR.out.1 hE))
     obtain ⟨n4, hn4⟩ : ∃ z, x.sl = z := ⟨_, rfl⟩
     have t4 : (n4 == 4) = true := by rw [← hn4, e3]; rfl
     rw [hn4] at SLT
     have UPP := Lib.hid (fun (wx : World) (hE : wo.grownBy wx none) => up21 (hA.ext HR.out.1 hE))
     rw [hoff] at UPP
     have G5 := Lib.hid g5
     have eD := Tryz.eqDone21
     clear hX hA l5 e1 e2 e3 e4 e5 e6 e7 e8 e9 g5 hoff hth hbs hml hsx her3 ST hnb hnw her7 hn4 hlt
     go_upto_region 9 with (go_at_call 40; refine DN.mono ?_; rintro e w6 ⟨v6, rfl, ho6, hE6⟩)
     obtain ⟨dg, dcap, rfl⟩ := owns_some18 ho6 (by decide)
     have HO6 := Lib.hid ho6
     clear DN ho6
     go_upto_region 10 with (go_at_call 15; refine (PK.out _ hE6).mono ?_; rintro e w7 ⟨rfl, hg7⟩; have hE7 := ext_trans hE6 hg7)
     go_upto_region 11 with (first
       | (go_at_call 14; refine (ST2.out _ hE7).mono ?_; rintro e w8 ⟨⟨p1, p2, p4, p5, p6, p7, p8, rfl⟩, hg8⟩; have hBn := Blk.new w8 43 #[.int .i64 0, .int .i64 0, .int .i64 0, .int .i64 0, .int .i64 0, .int .i64 0, .bool false, .int .i64 0, .int .i64 0])
       | (refine stat_store (p1 := p1) (p2 := p2) (p3 := nb) (p4 := p4) (p5 := p5) (p6 := p6) (p7 := p7) (p8 := p8) (p9 := nw) _ _ rfl rfl rfl hBn rfl rfl ?_; intro w9 hb9 hg9 hs9))
     have hE9 : w6.grownBy w9 none := ext_trans hg7 (ext_trans hg8 (g17_new (World.grownBy_alloc w8 _ none) hg9 (Nat.le_refl _)))
     have hEo9 := ext_trans hE6 hE9
     have s2 := (hb9.cell 2).trans (show (stC21 p1 p2 nb p4 p5 p6 p7 p8 nw)[2]? = some (.int .i64 nb) from rfl)
     have s8 := (hb9.cell 8).trans (show (stC21 p1 p2 nb p4 p5 p6 p7 p8 nw)[8]? = some (.int .i64 nw) from rfl)
     obtain ⟨q1, q2, q3, hr⟩ := tri_row (j := 0) (cj := ⟨1, 0, ⟨#[]⟩⟩) (TailRow.of_owns (HO6.out.kept hE9 (Classical.em _))) (by decide) rfl
     simp only [Option.some.injEq, Addr.mk.injEq] at q3
     obtain ⟨rfl, rfl, _⟩ := q3
     clear hBn hg8 hg9 hs9 hb9 hg7 hE7 hE6 PK ST2
     go_wp2_with (first
       | (refine dne_load rfl _ rfl rfl hr ?_)
       | (go_at_call 16; refine (CN.out _ hEo9).mono ?_; rintro e w10 ⟨rfl, hE10⟩)
       | (go_at_call 38; refine (SLT.out _ (ext_trans hEo9 hE10)).mono ?_; rintro e w11 ⟨rfl, rfl⟩)
       | (go_at_call 13; refine (UPP.out _ (ext_trans hEo9 hE10)).mono ?_; rintro e w11 ⟨rfl, rfl⟩))
     go_ret
     exact ⟨rfl, ext_trans G5.out (ext_trans hEo9 hE10)⟩
end Go.Proofs.YtfgifgglcafadaaGreatDoor

namespace Go.Proofs.YtfgifgglcafadaaGreatDoor
set_option linter.unusedVariables false
set_option linter.unusedSimpArgs false
set_option linter.unusedVariables false
set_option linter.unusedSimpArgs false
set_option maxRecDepth 100000
open Go.RowKit
theorem create_nil21 (t s r : Int) (w : World) : Calls Tryz.prog 16 #[.pointer none, .int .i64 t, .int .i64 s, .int .i64 r] w fun e w' => e = .returned (.int .i64 12) ∧ w.grownBy w' none := by
 have hmf := Tryz.hmf21
 have HE := Lib.hid (ext_trans (ext_trans (ext_trans (World.grownBy_alloc w (.cells #[.pointer none] 38) none) (World.grownBy_alloc _ (.cells #[.int .i64 t] 3) none)) (World.grownBy_alloc _ (.cells #[.int .i64 s] 3) none)) (World.grownBy_alloc _ (.cells #[.int .i64 r] 3) none))
 go_enter Tryz.func16, Tryz.ntmps16
 go_wp2_with (go_at_call 57; refine (ask_nil21 _ ⟨_, _, _, rfl⟩ _).mono ?_; rintro e w5 ⟨rfl, rfl⟩)
 go_ret
 exact ⟨rfl, HE.out⟩
theorem destroy_nil21 (t : Int) (w : World) : Calls Tryz.prog 17 #[.pointer none, .int .i64 t] w fun e w' => e = .returned (.int .i64 12) ∧ w.grownBy w' none := by
 have hmf := Tryz.hmf21
 have HE := Lib.hid (ext_trans (World.grownBy_alloc w (.cells #[.pointer none] 38) none) (World.grownBy_alloc _ (.cells #[.int .i64 t] 3) none))
 go_enter Tryz.func17, Tryz.ntmps17
 go_wp2_with (go_at_call 57; refine (ask_nil21 _ ⟨_, _, _, rfl⟩ _).mono ?_; rintro e w5 ⟨rfl, rfl⟩)
 go_ret
 exact ⟨rfl, HE.out⟩
theorem resize_nil21 (t s : Int) (w : World) : Calls Tryz.prog 18 #[.pointer none, .int .i64 t, .int .i64 s] w fun e w' => e = .returned (.int .i64 12) ∧ w.grownBy w' none := by
 have hmf := Tryz.hmf21
 have HE := Lib.hid (ext_trans (ext_trans (World.grownBy_alloc w (.cells #[.pointer none] 38) none) (World.grownBy_alloc _ (.cells #[.int .i64 t] 3) none)) (World.grownBy_alloc _ (.cells #[.int .i64 s] 3) none))
 go_enter Tryz.func18, Tryz.ntmps18
 go_wp2_with (go_at_call 57; refine (ask_nil21 _ ⟨_, _, _, rfl⟩ _).mono ?_; rintro e w5 ⟨rfl, rfl⟩)
 go_ret
 exact ⟨rfl, HE.out⟩
theorem swap_nil21 (t s : Int) (w : World) : Calls Tryz.prog 19 #[.pointer none, .int .i64 t, .int .i64 s] w fun e w' => e = .returned (.int .i64 12) ∧ w.grownBy w' none := by
 have hmf := Tryz.hmf21
 have HE := Lib.hid (ext_trans (ext_trans (World.grownBy_alloc w (.cells #[.pointer none] 38) none) (World.grownBy_alloc _ (.cells #[.int .i64 t] 3) none)) (World.grownBy_alloc _ (.cells #[.int .i64 s] 3) none))
 go_enter Tryz.func19, Tryz.ntmps19
 go_wp2_with (go_at_call 57; refine (ask_nil21 _ ⟨_, _, _, rfl⟩ _).mono ?_; rintro e w5 ⟨rfl, rfl⟩)
 go_ret
 exact ⟨rfl, HE.out⟩
theorem submit_nil21 (t : Int) (c : Chg) (w : World) : Calls Tryz.prog 20 #[.pointer none, .int .i64 t, .agg (chgC c)] w fun e w' => e = .returned (.int .i64 12) ∧ w.grownBy w' none := by
 have HE := Lib.hid (World.grownBy_alloc w (.cells (chgC c) 30) none)
 have LK := fun wx => lacks_nil21 t wx
 go_enter Tryz.func20, Tryz.ntmps20
 go_wp2_with (go_at_call 48; refine (LK _).mono ?_; rintro e w5 ⟨rfl, rfl⟩)
 go_ret
 exact ⟨rfl, HE.out⟩
theorem peek_nil21 (t q : Int) (w : World) : Calls Tryz.prog 15 #[.pointer none, .int .i64 t, .int .i64 q] w fun e w' => e = .returned (.tuple #[.string ⟨#[]⟩, .int .i64 12]) ∧ w = w' := by
 have LK := fun wx => lacks_nil21 t wx
 go_enter Tryz.func15, Tryz.ntmps15
 go_wp2_with (go_at_call 48; refine (LK _).mono ?_; rintro e w5 ⟨rfl, rfl⟩)
 go_returns
 exact ⟨rfl, rfl⟩
theorem stat_nil21 (t : Int) (w : World) : Calls Tryz.prog 14 #[.pointer none, .int .i64 t] w fun e w' => e = .returned (.tuple #[.agg (stC21 0 0 0 0 0 0 false 0 0), .int .i64 12]) ∧ w.grownBy w' none := by
 have hE := World.grownBy_alloc w (.cells #[.int .i64 0, .int .i64 0, .int .i64 0, .int .i64 0, .int .i64 0, .int .i64 0, .bool false, .int .i64 0, .int .i64 0] 43) none
 have hb1 := Blk.new w 43 #[.int .i64 0, .int .i64 0, .int .i64 0, .int .i64 0, .int .i64 0, .int .i64 0, .bool false, .int .i64 0, .int .i64 0]
 have LK := fun wx => lacks_nil21 t wx
 have HE := Lib.hid hE
 clear hE
 go_enter Tryz.func14, Tryz.ntmps14
 go_wp2_with (first
   | (go_at_call 48; refine (LK _).mono ?_; rintro e w5 ⟨rfl, rfl⟩)
   | (refine stat_store (p1 := 0) (p2 := 0) (p3 := 0) (p4 := 0) (p5 := 0) (p6 := 0) (p7 := false) (p8 := 0) (p9 := 0) _ _ rfl rfl rfl hb1 rfl rfl ?_; intro w6 hb6 hg6 hs6))
 refine bodyPost_ret (v := .tuple #[.agg (stC21 0 0 0 0 0 0 false 0 0), .int .i64 12]) (results_ct20 (fn := Tryz.f14) rfl rfl rfl hb6 Tryz.underlying43 rfl Tryz.sizeStat) rfl ?_
 exact ⟨rfl, g17_new HE.out hg6 (Nat.le_refl _)⟩
theorem slot_nil21 (w : World) : Calls Tryz.prog 21 #[.pointer none] w fun e w' => e = .returned (.bool false) ∧ w = w' := by
 have U := fun wx => up_nil21 wx
 go_enter Tryz.func21, Tryz.ntmps21
 go_wp2_with (go_at_call 13; refine (U _).mono ?_; rintro e w5 ⟨rfl, rfl⟩)
 go_ret
 exact ⟨rfl, rfl⟩
theorem cut_nil21 (w : World) : Calls Tryz.prog 36 #[.pointer none] w fun e w' => e = .returned (.tuple #[]) ∧ w = w' := by
 go_enter Tryz.func36, Tryz.ntmps36
 go_wp2
 go_end0
 exact ⟨rfl, rfl⟩
theorem budget_nil21 (k : Int) (w : World) : Calls Tryz.prog 37 #[.pointer none, .int .i64 k] w fun e w' => e = .returned (.tuple #[]) ∧ w = w' := by
 have U := fun wx => up_nil21 wx
 go_enter Tryz.func37, Tryz.ntmps37
 go_wp2_with (go_at_call 13; refine (U _).mono ?_; rintro e w5 ⟨rfl, rfl⟩)
 go_end0
 exact ⟨rfl, rfl⟩
theorem mount_nil21 (k : Int) (w : World) : Calls Tryz.prog 32 #[.pointer none, .int .i64 k] w fun e w' => e = .returned (.int .i64 12) ∧ w = w' := by
 go_enter Tryz.func32, Tryz.ntmps32
 go_wp2
 go_ret
 exact ⟨rfl, rfl⟩
theorem slots_nil21 (w : World) : Calls Tryz.prog 38 #[.pointer none] w fun e w' => e = .returned (.int .i64 0) ∧ w = w' := by
 go_enter Tryz.func38, Tryz.ntmps38
 go_wp2
 go_ret
 exact ⟨rfl, rfl⟩
theorem ops_nil21 (w : World) : Calls Tryz.prog 39 #[.pointer none] w fun e w' => e = .returned (.int .i64 0) ∧ w = w' := by
 go_enter Tryz.func39, Tryz.ntmps39
 go_wp2
 go_ret
 exact ⟨rfl, rfl⟩
theorem done_nil21 (t : Int) (w : World) : Calls Tryz.prog 40 #[.pointer none, .int .i64 t] w fun e w' => e = .returned (.slice none 0 0) ∧ w = w' := by
 go_enter Tryz.func40, Tryz.ntmps40
 go_wp2
 go_ret
 exact ⟨rfl, rfl⟩
theorem array_nil21 (w : World) : Calls Tryz.prog 23 #[.pointer none] w fun e w' => e = .returned (.pointer none) ∧ w = w' := by
 go_enter Tryz.func23, Tryz.ntmps23
 go_wp2
 go_ret
 exact ⟨rfl, rfl⟩
theorem ledger_nil21 (w : World) : Calls Tryz.prog 22 #[.pointer none] w fun e w' => e = .returned (.agg (ledC noLed fun _ => nilS)) ∧ w.grownBy w' none := by
 have U := fun wx => up_nil21 wx
 have hE := World.grownBy_alloc w (.cells zeroC 56) none
 have hb1 := Blk.new w 56 zeroC
 have HE := Lib.hid hE
 clear hE
 go_enter Tryz.func22, Tryz.ntmps22
 go_wp2_with (first
   | (go_at_call 13; refine (U _).mono ?_; rintro e w5 ⟨rfl, rfl⟩)
   | (refine led_build0 rfl rfl ?_)
   | (refine led_store (L := noLed) (V := fun _ => nilS) _ _ rfl rfl rfl hb1 rfl (fun _ _ => ⟨_, _, _, rfl⟩) rfl ?_; intro w6 hb6 hg6 hs6))
 refine bodyPost_ret (v := .agg (ledC noLed fun _ => nilS)) (results_cell_row rfl _ _ w.heap.size _ _ (0, 0) _ rfl hb6 Tryz.underlying56 rfl Tryz.sizeLed) rfl ?_
 exact ⟨rfl, g17_new HE.out hg6 (Nat.le_refl _)⟩
end Go.Proofs.YtfgifgglcafadaaGreatDoor

namespace Go.Proofs.YtfgifgglcafadaaGreatDoor
set_option linter.unusedVariables false
set_option linter.unusedSimpArgs false
set_option linter.unusedVariables false
set_option linter.unusedSimpArgs false
set_option maxRecDepth 100000
open Go.RowKit
theorem led_build0w21 {ops : Array Oper} {rest : List Oper} {o : Oper} {a : Act} {w : World} {Q : Exit → Act → World → Prop} (hw : Region.wanted o (yielded ops a.tmps) = true) (ho : o.op = .build 56 #[])
   (h : wpList Tryz.prog ops Q rest (a.put o.dst (.agg (ledC noLed (fun _ => nilS)))) w) : wpList Tryz.prog ops Q (o :: rest) a w := by
 refine wpList_want hw fun K hK => ?_
 have hm : ((#[] : Array (Nat × Operand)).map fun (q : Nat × Operand) => (q.1, a.eval q.2)) = #[] := by simp
 unfold Oper.wp execOp
 simp only [ho, hm, Sem.run_bind, led_build0V, Result.andThen_ok, Sem.run_pure]
 exact hK _ _ h
def actC21 (k t o s r : Int) (c : Chg) : Array Value := #[.int .u8 k, .int .i64 t, .int .i64 o, .int .i64 s, .int .i64 r, .int .i64 c.pl, .int .i64 c.kd, .string c.dt]
theorem act_cells {w : World} {b : Nat} {k t o s r : Int} {c : Chg} (h : Blk w b 32 (actC21 k t o s r c)) :
   w.cell? ⟨b, 1, none⟩ = some (.int .i64 t) ∧ w.cell? ⟨b, 2, none⟩ = some (.int .i64 o) ∧ w.cell? ⟨b, 3, none⟩ = some (.int .i64 s) ∧ w.cell? ⟨b, 4, none⟩ = some (.int .i64 r) ∧ w.cell? ⟨b, 5, none⟩ = some (.int .i64 c.pl) ∧ w.cell? ⟨b, 6, none⟩ = some (.int .i64 c.kd) ∧ w.cell? ⟨b, 7, none⟩ = some (.string c.dt) :=
 ⟨h.cell 1, h.cell 2, h.cell 3, h.cell 4, h.cell 5, h.cell 6, h.cell 7⟩
set_option maxHeartbeats 6400000 in
theorem houseNone21 (k t o s r : Int) (c : Chg) (w : World) (hF : Flds w) : Calls Tryz.prog 6 #[.agg (actC21 k t o s r c)] w fun e w' => e = .returned (.bool true) ∧ w.grownBy w' none := by
 obtain ⟨z, hz⟩ : ∃ z : Int, z = 12 := ⟨_, rfl⟩
 have tz : (z == 12) = true := by rw [hz]; rfl
 have CR := Lib.hid (fun wx => (hz.symm ▸ create_nil21 t s r wx : Calls Tryz.prog 16 #[.pointer none, .int .i64 t, .int .i64 s, .int .i64 r] wx fun e w' => e = .returned (.int .i64 z) ∧ wx.grownBy w' none))
 have DS := Lib.hid (fun wx => (hz.symm ▸ destroy_nil21 t wx : Calls Tryz.prog 17 #[.pointer none, .int .i64 t] wx fun e w' => e = .returned (.int .i64 z) ∧ wx.grownBy w' none))
 have RZ := Lib.hid (fun wx => (hz.symm ▸ resize_nil21 t 3 wx : Calls Tryz.prog 18 #[.pointer none, .int .i64 t, .int .i64 3] wx fun e w' => e = .returned (.int .i64 z) ∧ wx.grownBy w' none))
 have SW := Lib.hid (fun wx => (hz.symm ▸ swap_nil21 t o wx : Calls Tryz.prog 19 #[.pointer none, .int .i64 t, .int .i64 o] wx fun e w' => e = .returned (.int .i64 z) ∧ wx.grownBy w' none))
 have SB := Lib.hid (fun wx => (hz.symm ▸ submit_nil21 t c wx : Calls Tryz.prog 20 #[.pointer none, .int .i64 t, .agg #[.int .i64 c.pl, .int .i64 c.kd, .string c.dt]] wx fun e w' => e = .returned (.int .i64 z) ∧ wx.grownBy w' none))
 have MT := Lib.hid (fun wx => (hz.symm ▸ mount_nil21 s wx : Calls Tryz.prog 32 #[.pointer none, .int .i64 s] wx fun e w' => e = .returned (.int .i64 z) ∧ wx = w'))
 have PK := Lib.hid (fun wx => (hz.symm ▸ peek_nil21 t 0 wx : Calls Tryz.prog 15 #[.pointer none, .int .i64 t, .int .i64 0] wx fun e w' => e = .returned (.tuple #[.string ⟨#[]⟩, .int .i64 z]) ∧ wx = w'))
 have ST := Lib.hid (fun wx => (hz.symm ▸ stat_nil21 t wx : Calls Tryz.prog 14 #[.pointer none, .int .i64 t] wx fun e w' => e = .returned (.tuple #[.agg (stC21 0 0 0 0 0 0 false 0 0), .int .i64 z]) ∧ wx.grownBy w' none))
 have hE0 := World.grownBy_alloc w (.cells (actC21 k t o s r c) 32) none
 have hb0 := Blk.new w 32 (actC21 k t o s r c)
 obtain ⟨ab, hab⟩ : ∃ z, w.heap.size = z := ⟨_, rfl⟩
 obtain ⟨w0, hw0⟩ : ∃ z, w.alloc (.cells (actC21 k t o s r c) 32) = z := ⟨_, rfl⟩
 rw [hw0] at hE0 hb0
 rw [hab] at hb0
 have FX := fixed21 w0 (hF.ext hE0)
 have HE0 := Lib.hid hE0
 have HB0 := Lib.hid hb0
 clear hz hE0 hb0 hF
 go_enter Tryz.func6, Tryz.ntmps6
 go_upto_region 1 with fail
 clear hw0 hab
 go_upto_region 4 with (go_at_call 7; refine FX.mono ?_; rintro e w1 ⟨rfl, hg1⟩)
 have HB1 := Lib.hid (HB0.out.ext hg1)
 obtain ⟨c1, _, _, _, _, _, _⟩ := act_cells HB1.out
 have HE1 := Lib.hid (ext_trans HE0.out hg1)
 clear hg1 FX
 go_upto_region 7 with (first
   | (go_at_call 36; refine (cut_nil21 _).mono ?_; rintro e w2 ⟨rfl, rfl⟩)
   | (go_at_call 37; refine (budget_nil21 3 _).mono ?_; rintro e w2 ⟨rfl, rfl⟩)
   | (go_at_call 14; refine (ST.out _).mono ?_; rintro e w2 ⟨rfl, hg2⟩; have hBn := Blk.new w2 43 #[.int .i64 0, .int .i64 0, .int .i64 0, .int .i64 0, .int .i64 0, .int .i64 0, .bool false, .int .i64 0, .int .i64 0])
   | (refine stat_store (p1 := 0) (p2 := 0) (p3 := 0) (p4 := 0) (p5 := 0) (p6 := 0) (p7 := false) (p8 := 0) (p9 := 0) _ _ rfl rfl rfl hBn rfl rfl ?_; intro w3 hb3 hg3 hs3))
 have hg13 := ext_trans hg2 (g17_new (World.grownBy_alloc w2 _ none) hg3 (Nat.le_refl _))
 have HB3 := Lib.hid (HB1.out.ext hg13)
 obtain ⟨d1, d2, d3, d4, d5, d6, d7⟩ := act_cells HB3.out
 have HE3 := Lib.hid (ext_trans HE1.out hg13)
 clear hg13 hg2 hg3 hs3 hBn hb3 c1
 go_upto_region 8 with (go_at_call 15; refine (PK.out _).mono ?_; rintro e w4 ⟨rfl, rfl⟩)
 have M0 : ∀ (wx : World), w3.grownBy wx none → wx.cell? ⟨ab, 1, none⟩ = some (.int .i64 t) ∧ wx.cell? ⟨ab, 2, none⟩ = some (.int .i64 o) ∧ wx.cell? ⟨ab, 3, none⟩ = some (.int .i64 s) ∧ wx.cell? ⟨ab, 4, none⟩ = some (.int .i64 r) ∧ wx.cell? ⟨ab, 5, none⟩ = some (.int .i64 c.pl) ∧ wx.cell? ⟨ab, 6, none⟩ = some (.int .i64 c.kd) ∧ wx.cell? ⟨ab, 7, none⟩ = some (.string c.dt) := fun wx hE => act_cells (HB3.out.ext hE)
 have HM := Lib.hid M0
 clear M0 PK ST
 have hu := Ext.refl w3
 go_wp2_with (first
   | (go_at_call 16; refine (CR.out _).mono ?_; rintro e w5 ⟨rfl, hg5⟩; obtain ⟨a1, a2, a3, a4, a5, a6, a7⟩ := HM.out w5 hg5; clear d1 d2 d3 d4 d5 d6 d7)
   | (go_at_call 17; refine (DS.out _).mono ?_; rintro e w6 ⟨rfl, hg6⟩; have hE6 := ext_trans hg5 hg6; obtain ⟨b1, b2, b3, b4, b5, b6, b7⟩ := HM.out w6 hE6; clear a1 a2 a3 a4 a5 a6 a7)
   | (go_at_call 18; refine (RZ.out _).mono ?_; rintro e w7 ⟨rfl, hg7⟩; have hE7 := ext_trans hE6 hg7; obtain ⟨c1, c2, c3, c4, c5, c6, c7⟩ := HM.out w7 hE7; clear b1 b2 b3 b4 b5 b6 b7)
   | (go_at_call 19; refine (SW.out _).mono ?_; rintro e w8 ⟨rfl, hg8⟩; have hE8 := ext_trans hE7 hg8; obtain ⟨f1, f2, f3, f4, f5, f6, f7⟩ := HM.out w8 hE8; clear c1 c2 c3 c4 c5 c6 c7)
   | (go_at_call 20; refine (SB.out _).mono ?_; rintro e w9 ⟨rfl, hg9⟩; have hE9 := ext_trans hE8 hg9; obtain ⟨g1, g2, g3, g4, g5, g6, g7⟩ := HM.out w9 hE9; clear f1 f2 f3 f4 f5 f6 f7)
   | (go_at_call 32; refine (MT.out _).mono ?_; rintro e w10 ⟨rfl, rfl⟩)
   | (go_at_call 21; refine (slot_nil21 _).mono ?_; rintro e w10 ⟨rfl, rfl⟩)
   | (go_at_call 13; refine (up_nil21 _).mono ?_; rintro e w10 ⟨rfl, rfl⟩)
   | (go_at_call 38; refine (slots_nil21 _).mono ?_; rintro e w10 ⟨rfl, rfl⟩)
   | (go_at_call 39; refine (ops_nil21 _).mono ?_; rintro e w10 ⟨rfl, rfl⟩)
   | (go_at_call 40; refine (done_nil21 _ _).mono ?_; rintro e w10 ⟨rfl, rfl⟩)
   | (go_at_call 23; refine (array_nil21 _).mono ?_; rintro e w10 ⟨rfl, rfl⟩)
   | (go_at_call 22; refine (ledger_nil21 _).mono ?_; rintro e w11 ⟨rfl, hg11⟩; have hE11 := ext_trans hE9 hg11)
   | (refine led_build0w21 rfl rfl ?_)
   | (go_at_call 33; refine (same10_eq noLed (fun _ => nilS) (fun _ => nilS) _ (noLed_is _) (noLed_is _) (fun _ _ => by simp [noLed, noTen])).mono ?_; rintro e w12 ⟨rfl, hg12⟩; have hE12 := ext_trans hE11 hg12))
 go_ret
 exact ⟨rfl, ext_trans HE3.out hE12⟩
end Go.Proofs.YtfgifgglcafadaaGreatDoor

namespace Go.Proofs.YtfgifgglcafadaaGreatDoor
set_option linter.unusedVariables false
set_option linter.unusedSimpArgs false
set_option linter.unusedVariables false
set_option linter.unusedSimpArgs false
set_option maxRecDepth 100000
open Go.ChangeShapes Go.WideShapes Go.ChangeAt Go.WideMaps Go.WideElems Go.RowKit
def laidTag : List (String × DataW Unit) := [("almshouse/tag.fields", Rows.laid_almshouse_tag_fields)]
theorem gFields : Tryz.prog.globalNamed "almshouse/tag.fields" = some 0 := by kernel_rfl
theorem tFields : (Tryz.prog.globals[0]?).map (·.type) = some 277 := by kernel_rfl
theorem door_met (os : Os) (args : Array Value) : laidMetH Tryz.prog laidTag ((World.doorLaid Tryz.prog 19 os).forCall (fun _ _ => 0) ⟨#[], args, []⟩).memory :=
 laidMetH_of_parts3 (fuel := 8) (laidMet_of_run' 8 (by kernel_rfl) (by kernel_rfl)) (by kernel_rfl) (by kernel_rfl)
theorem one_of {H : Type} {enc : TypeId × Value → H} {W : World} {base : Nat} {sp : Nat → Bool} {held : Bool} {fuel : Nat} {cs : List Value} {x : DataW H × List MemPlace} {a b c : Int}
   (h : DataW.trod enc Tryz.prog W base sp held fuel 276 cs = some x) (hx : x.1 = .agg [.lit (.int .i64 a), .lit (.int .i64 b), .lit (.int .i64 c)]) :
   cs.take 1 = [.int .i64 a] ∧ (cs.drop 1).take 1 = [.int .i64 b] ∧ (cs.drop 2).take 1 = [.int .i64 c] := by
 obtain ⟨ys, n, _, rfl, hlen, hn, hel⟩ := DataW.trod_struct Tryz.underlying276 h
 have c3 : Tryz.prog.cellsOf 3 = 1 := by kernel_rfl
 have h0 : DataW.trod enc Tryz.prog W base sp held n 3 ((cs.drop 0).take (Tryz.prog.cellsOf 3)) = ys[0]? := hel 0 _ rfl
 have h1 : DataW.trod enc Tryz.prog W base sp held n 3 ((cs.drop 1).take (Tryz.prog.cellsOf 3)) = ys[1]? := hel 1 _ rfl
 have h2 : DataW.trod enc Tryz.prog W base sp held n 3 ((cs.drop 2).take (Tryz.prog.cellsOf 3)) = ys[2]? := hel 2 _ rfl
 rw [c3] at h0 h1 h2
 match ys, hn, hx, h0, h1, h2 with
 | [y0, y1, y2], _, hx, h0, h1, h2 =>
   obtain ⟨k0, e0, f0, _⟩ := DataW.trod_int Tryz.underlying3 (show DataW.trod _ Tryz.prog W base sp held n 3 _ = some y0 from h0)
   obtain ⟨k1, e1, f1, _⟩ := DataW.trod_int Tryz.underlying3 (show DataW.trod _ Tryz.prog W base sp held n 3 _ = some y1 from h1)
   obtain ⟨k2, e2, f2, _⟩ := DataW.trod_int Tryz.underlying3 (show DataW.trod _ Tryz.prog W base sp held n 3 _ = some y2 from h2)
   simp only [List.map_cons, List.map_nil, DataW.agg.injEq, List.cons.injEq, f0, f1, f2, DataW.lit.injEq, Lit.int.injEq, true_and, and_true] at hx
   obtain ⟨rfl, rfl, rfl⟩ := hx
   exact ⟨by simpa using e0, e1, e2⟩
theorem cell_at {l : List Value} {i : Nat} {u : Value} (h : (l.drop i).take 1 = [u]) : l[i]? = some u := by
 have : ((l.drop i).take 1)[0]? = some u := by rw [h]; rfl
 simpa using this
theorem flds_of {W : World} (h : laidMetH Tryz.prog laidTag W) : Flds W := by
 rw [MakeChecks.laidMetH_plain _ _ _ (by kernel_rfl)] at h
 obtain ⟨ps, ⟨g0, t0, cs0, f0, p0, q0, hg0, ht0, hv0, hd0, _, _⟩, _, _⟩ := h
 obtain rfl := Option.some.inj (gFields.symm.trans hg0)
 obtain rfl := Option.some.inj (tFields.symm.trans ht0)
 have c40 : Tryz.prog.cellsOf 276 = 3 := by kernel_rfl
 obtain ⟨xs, m1, rfl, hx1, hlen, hn, hel⟩ := DataW.trod_array Tryz.underlying277 hd0
 simp only [c40] at hel
 have hcell : ∀ i u, cs0.toList[i]? = some u → W.cell? ⟨0, i, none⟩ = some u := fun i u hu => by
   rw [World.var?_cell hg0 hv0 i]
   simpa using hu
 simp only [Prod.mk.injEq, Rows.laid_almshouse_tag_fields, DataW.agg.injEq] at hx1
 match xs, hn, hx1, hel with
 | [x0, x1, x2, x3, x4], _, hx1, hel =>
   simp only [List.map_cons, List.map_nil, List.cons.injEq, and_true] at hx1
   obtain ⟨⟨e0, e1, e2, e3, e4⟩, _⟩ := hx1
   have get : ∀ (i : Nat) (a b c : Int), (((cs0.toList.drop (i * 3)).take 3).take 1 = [.int .i64 a] ∧ (((cs0.toList.drop (i * 3)).take 3).drop 1).take 1 = [.int .i64 b] ∧ (((cs0.toList.drop (i * 3)).take 3).drop 2).take 1 = [.int .i64 c]) →
       W.cell? ⟨0, i * 3, none⟩ = some (.int .i64 a) ∧ W.cell? ⟨0, i * 3 + 1, none⟩ = some (.int .i64 b) ∧ W.cell? ⟨0, i * 3 + 2, none⟩ = some (.int .i64 c) := fun i a b c ⟨h0, h1, h2⟩ => by
     refine ⟨hcell _ _ (cell_at ?_), hcell _ _ (cell_at ?_), hcell _ _ (cell_at ?_)⟩
     · simpa [List.take_take] using h0
     · rw [← List.drop_drop]; simpa [List.drop_take, List.take_take] using h1
     · rw [← List.drop_drop]; simpa [List.drop_take, List.take_take] using h2
   intro j hj
   have : j = 0 ∨ j = 1 ∨ j = 2 ∨ j = 3 ∨ j = 4 := by omega
   rcases this with rfl | rfl | rfl | rfl | rfl
   · exact get 0 1 0 3 (one_of (show DataW.trod _ Tryz.prog W 0 _ _ m1 276 _ = some x0 from hel 0 (by decide)) e0.symm)
   · exact get 1 4 0 2147483647 (one_of (show DataW.trod _ Tryz.prog W 0 _ _ m1 276 _ = some x1 from hel 1 (by decide)) e1.symm)
   · exact get 2 1 0 63 (one_of (show DataW.trod _ Tryz.prog W 0 _ _ m1 276 _ = some x2 from hel 2 (by decide)) e2.symm)
   · exact get 3 4 0 2147483647 (one_of (show DataW.trod _ Tryz.prog W 0 _ _ m1 276 _ = some x3 from hel 3 (by decide)) e3.symm)
   · exact get 4 1 1 2 (one_of (show DataW.trod _ Tryz.prog W 0 _ _ m1 276 _ = some x4 from hel 4 (by decide)) e4.symm)
end Go.Proofs.YtfgifgglcafadaaGreatDoor
