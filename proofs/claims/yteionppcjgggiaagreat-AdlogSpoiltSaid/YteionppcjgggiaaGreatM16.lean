/-
  Texts put together: VF KD KE KF KM KN.
-/
import Derived.Test.YteionppcjgggiaaGreatM14
import Derived.Test.YteionppcjgggiaaGreatM15
import Derived.Test.YteionppcjgggiaaGreatM13
import Derived.Test.YteionppcjgggiaaGreatM02
/-
  The document's bytes of a ledger.
-/
namespace Go.Proofs.YteionppcjgggiaaGreat
set_option linter.unusedVariables false
set_option linter.unusedSimpArgs false
set_option maxRecDepth 100000
open Go.RowKit

/-- The document's word for it, as the program's. -/
theorem right10_is (L : Led) (V : Nat → Value) (n p : Int) (w : World) (hL : LedIs w L V) (hG : GoodL L) (hn : -9223372036854775000 ≤ n) (hn1 : n ≤ 9223372036854775807) {b : Bool} (hb : rightL L n p = b) :
    Calls Tryz.prog 17 #[.agg (ledC L V), .int .i64 n, .int .i64 p] w fun e w' => e = .returned (.bool b) ∧ Ext w w' := by
  subst hb
  refine (right10_any L V n p w hL hG).mono ?_
  rintro e w' ⟨b, rfl, hb, hE⟩
  refine ⟨?_, hE⟩
  have h2 := rightL_iff (L := L) (n := n) (p := p) hn hn1
  cases b
  · cases hd : rightL L n p
    · rfl
    · exact absurd (hb.2 (h2.1 hd)) (by simp)
  · rw [h2.2 (hb.1 rfl)]

/-- What the document puts of one tenant that is there, ahead of its blocks. -/
def entH (x : Ten) : List Int := [1] ++ (leB x.ep 4 ++ [x.sz, x.sp, (x.bs.length : Int)])
theorem entL_there {x : Ten} (h : x.th = true) : entL x = entH x ++ x.bs := by simp [entL, entH, h]

set_option maxRecDepth 100000 in
set_option maxHeartbeats 1600000 in
theorem refSnapBytes_any (L : Led) (V : Nat → Value) (n p : Int) (w : World) (hL : LedIs w L V) (hG : GoodL L) (hn0 : -9223372036854775000 ≤ n) (hn9 : n ≤ 256) :
    Calls Tryz.prog 7 #[.agg (ledC L V), .int .i64 n, .int .i64 p] w (MadeE w (snL L n p) (snE L n p)) := by
  have hmn : min n 256 = n := by omega
  unfold snL snE
  rw [hmn]
  have hb := Blk.new w 36 (ledC L V)
  have hE0 := World.grownBy_alloc w (.cells (ledC L V) 36) none
  obtain ⟨w1, hw1⟩ : ∃ v, w.alloc (.cells (ledC L V) 36) = v := ⟨_, rfl⟩
  rw [hw1] at hb hE0
  have HL := Lib.hid (hL.ext hE0)
  have HE0 := Lib.hid hE0
  have HR : rightL L n p = true → FitsL L := fun h => ((rightL_iff hn0 (by omega)).1 h).fits hn9 hn0
  have C := fun {b} (h : rightL L n p = b) => right10_is L V n p w1 (hL.ext hE0) hG hn0 (by omega) h
  clear hL hE0 hG hmn
  cases hr : rightL L n p
  · replace C := C hr
    simp only [Bool.false_eq_true, if_false]
    clear HR hr
    go_enter Tryz.func7, Tryz.ntmps7
    go_wp2_with (first
      | (refine led_load _ rfl rfl hb rfl ?_)
      | (go_at_call 17; refine C.mono ?_; rintro e w2 ⟨rfl, hE2⟩))
    go_returns
    exact ⟨_, rfl, owns_nil _ _, ext_trans HE0.out hE2⟩
  · replace C := C hr
    simp only [if_true]
    have hF := HR hr
    have HF := Lib.hid hF
    have g0 := hF.1
    have g1 := hF.2.1
    have P1 := fun wr => refPut_is (w := wr) (v0 := .slice none 0 0) (xs := []) (v := L.gen) (n := 4) (.inl ⟨rfl, rfl⟩) (by simp) (putL_four g0.1 g0.2)
    have P2 := fun v2 wr (h : Bts wr v2 ([] ++ leB L.gen 4)) => refPut_is (v := L.eps) (n := 4) h (by simp [leB_len]) (putL_four g1.1 g1.2)
    have M := fun v wr (h : Bts wr v (bodyL L)) => refMake_any 76 v (bodyL L) wr h (bodyTo_byts HF.out 4 (by omega)) (by have := bodyTo_len HF.out 4 (by omega); show (bodyTo L 4).length ≤ _; omega)
    rw [(body_mk hF).1, (body_mk hF).2] at M
    have cg := (hb.cell 0).trans (led_gen L V)
    have ce := (hb.cell 1).trans (led_eps L V)
    obtain ⟨fin, hfin⟩ : ∃ z, frL 76 (bodyL L) = z := ⟨_, rfl⟩
    rw [hfin] at M ⊢
    have HFIN := Lib.hid hfin
    clear HR hr hF g0 g1 hfin
    go_enter Tryz.func7, Tryz.ntmps7
    go_wp2_with (first
      | (refine led_load _ rfl rfl hb rfl ?_)
      | (go_at_call 17; refine C.mono ?_; rintro e w2 ⟨rfl, hE2⟩; have HE2 := Lib.hid hE2; have hb2 := hb.ext hE2; have c0 := hE2.cell cg (by simp); have c1 := hE2.cell ce (by simp); clear hE2 C cg ce))
    have hgd := Ext.drew w2
    have hS := And.intro (hgd.cell c0 (by simp)) (hgd.cell c1 (by simp))
    have hb3 := hb2.ext hgd
    have HE3 := Lib.hid (ext_trans HE2.out hgd)
    clear c0 c1
    refine region_line [(0, true), (1, true), (3, true), (4, true), (2, false), (5, false), (6, true)] (fun x => x.cell? ⟨w.heap.size, 0, none⟩ = some (.int .i64 L.gen) ∧ x.cell? ⟨w.heap.size, 1, none⟩ = some (.int .i64 L.eps)) (by kernel_rfl) (by kernel_rfl) (fun _ _ _ d _ h => by cases d <;> exact h) hS ?_
    generalize w2.drew = wd at hgd hS hb3 HE3 ⊢
    repeat (refine line_read (a' := ?_) rfl (by kernel_rfl) (by kernel_rfl) hS (fun x hx K hK => ?_) ?_; rotate_left; · obtain ⟨q0, q1⟩ := hx; go_wp2; exact hK)
    refine line_act (by rfl) (fun K hK => ?_)
    go_wp2_with (go_at_call 18; refine (P1 wd).mono ?_; rintro e w3 ⟨v3, rfl, hown3, hg3⟩)
    replace hS := And.intro (hg3.cell hS.1 (by simp)) (hg3.cell hS.2 (by simp))
    refine hK _ _ _ hS (fun x hx => hx) ?_
    clear hK K
    refine line_act (by rfl) (fun K hK => ?_)
    go_wp2_with (go_at_call 18; refine (P2 v3 w3 (Owns.bts rfl hown3)).mono ?_; rintro e w4 ⟨v4, rfl, hown4, hg4⟩)
    replace hS := And.intro (hg4.cell hS.1 (by simp)) (hg4.cell hS.2 (by simp))
    refine hK _ _ _ hS (fun x hx => hx) ?_
    clear hK K
    repeat (refine line_read (a' := ?_) rfl (by kernel_rfl) (by kernel_rfl) hS (fun x hx K hK => ?_) ?_; rotate_left; · obtain ⟨q0, q1⟩ := hx; go_wp2; exact hK)
    refine line_end ?_
    have hb4 := hb3.ext (ext_trans hg3 hg4)
    have HW4 := Lib.hid (And.intro (Owns.bts rfl hown4) (ext_trans HE3.out (ext_trans hg3 hg4)))
    clear hown4 hg3 hg4 hS hgd hb3 hb2 hown3 P1 P2
    go_wp2_with (refine tens_load _ rfl rfl hb4 rfl ?_)
    go_loopw [8, 26] (fun o i wr => ∃ (k : Nat) (v : Value), k ≤ 4 ∧ v = o ∧ i = .int .i64 k ∧ Bts wr v (bodyTo L k) ∧ Ext w1 wr) (fun _ i _ => 4 - (intOf i).toNat)
    case atStart => exact ⟨0, _, by omega, rfl, rfl, HW4.out.1, HW4.out.2⟩
    case round =>
      obtain ⟨k, v, hk, hv, rfl, hB, hE⟩ := hrel
      subst hv
      obtain ⟨wo, rfl⟩ : ∃ wo : World, wo = wr := ⟨_, rfl⟩
      by_cases hlt : k < 4
      · have hix := tens_at L V hlt
        have hI := (HL.out k hlt).kept hE (by simp)
        have hS := hI.slice
        have hBn := Blk.new wo 33 zeroTC
        have HE := Lib.hid hE
        have hlen := bodyTo_len HF.out k (by omega)
        have hft := HF.out.2.2 k hlt
        obtain ⟨xs, hxs⟩ : ∃ xs, bodyTo L k = xs := ⟨_, rfl⟩
        obtain ⟨x, hx⟩ : ∃ x, L.t k = x := ⟨_, rfl⟩
        obtain ⟨vx, hvx⟩ : ∃ v, V k = v := ⟨_, rfl⟩
        rw [hxs] at hB hlen
        rw [hx, hvx] at hix
        rw [hx, hvx] at hI
        rw [hvx] at hS
        rw [hx] at hft
        have HNX := Lib.hid (show bodyTo L (k + 1) = xs ++ entL x by rw [bodyTo, hxs, hx])
        have HB := Lib.hid hB
        have HI := Lib.hid hI
        obtain ⟨ao, cp, bb, oo, hvx2, hc⟩ := hI.form
        have HC := Lib.hid hc
        obtain ⟨xt, xe, xz, xp, xb⟩ := x
        simp only [] at hvx2 HC hft hix HNX
        obtain ⟨nx, hnx⟩ : ∃ n, xb.length = n := ⟨_, rfl⟩
        rw [hnx] at hvx2
        have HLN := Lib.hid hnx
        rw [hvx2] at hix hS
        clear hE hI hb4 hb hx hvx hxs hc hB hnx hvx2
        cases xt
        · have P0 := fun w6 (h : Ext wo w6) => refPut_is (v := 0) (n := 1) (HB.out.kept h (by simp)) (by omega) (putL_one (by decide) (by decide))
          go_wp2_with (first
            | (refine ten_store _ _ rfl rfl rfl hBn rfl hS rfl ?_; intro w6 hb6 hg6 hs6; clear hBn hs6; have HG6 := Lib.hid (grown_trans (World.grownBy_alloc wo (.cells zeroTC 33) none) hg6 (fun p hp hlt => by injection hp with hp; omega)); have x0 := (hb6.cell 0).trans (ten_th _ _); clear hg6)
            | (go_at_call 18; refine (P0 w6 HG6.out).mono ?_; rintro e w7 ⟨v7, rfl, hown7, hg7⟩))
          go_roundw
          case rel => exact ⟨k + 1, _, by omega, rfl, by go_num, by rw [HNX.out]; exact Owns.bts rfl hown7, ext_trans HE.out (ext_trans HG6.out hg7)⟩
          case measure => simp [intOf]; omega
        · have f := hft rfl
          have q1 := f.ep
          have q2 := f.sz
          have q3 := f.sp
          have q4 := f.len
          have HOne := Lib.hid f.bs
          simp only [] at q1 q2 q3 q4
          rw [HLN.out] at q4
          clear hft f
          have A1 := fun w6 (h : Ext wo w6) => refPut_is (v := 1) (n := 1) (HB.out.kept h (by simp)) (by omega) (putL_one (by decide) (by decide))
          have A2 := fun v wx (h : Bts wx v (xs ++ [1])) => refPut_is (v := xe) (n := 4) h (by simp; omega) (putL_four q1.1 q1.2)
          have A3 := fun v wx (h : Bts wx v (xs ++ [1] ++ leB xe 4)) => refPut_is (v := xz) (n := 1) h (by simp [leB_len]; omega) (putL_one q2.1 q2.2)
          have A4 := fun v wx (h : Bts wx v (xs ++ [1] ++ leB xe 4 ++ [xz])) => refPut_is (v := xp) (n := 1) h (by simp [leB_len]; omega) (putL_one q3.1 q3.2)
          have A5 := fun v wx (h : Bts wx v (xs ++ [1] ++ leB xe 4 ++ [xz] ++ [xp])) => refPut_is (v := (nx : Int)) (n := 1) h (by simp [leB_len]; omega) (putL_one (by omega) (by omega))
          have HA := Lib.hid (show xs ++ [1] ++ leB xe 4 ++ [xz] ++ [xp] ++ [(nx : Int)] = xs ++ entH ⟨true, xe, xz, xp, xb⟩ by simp [entH, HLN.out])
          go_wp2_with (refine ten_store _ _ rfl rfl rfl hBn rfl hS rfl ?_; intro w6 hb6 hg6 hs6; clear hBn hs6; have HG6 := Lib.hid (grown_trans (World.grownBy_alloc wo (.cells zeroTC 33) none) hg6 (fun p hp hlt => by injection hp with hp; omega)); have x0 := (hb6.cell 0).trans (ten_th _ _); clear hg6)
          have x1 := (hb6.cell 1).trans (ten_ep _ _)
          have x2 := (hb6.cell 2).trans (ten_sz _ _)
          have hgd := Ext.drew w6
          have hS2 := And.intro (hgd.cell x1 (by simp)) (hgd.cell x2 (by simp))
          clear x0 x1 x2
          refine region_line [(0, true), (2, true), (3, true), (5, true), (6, true), (1, false), (4, false), (7, false), (8, true)] (fun x => x.cell? ⟨wo.heap.size, 1, none⟩ = some (.int .i64 xe) ∧ x.cell? ⟨wo.heap.size, 2, none⟩ = some (.int .i64 xz)) (by kernel_rfl) (by kernel_rfl) (fun _ _ _ d _ h => by cases d <;> exact h) hS2 ?_
          have HD := Lib.hid (ext_trans HG6.out hgd)
          have hbd := hb6.ext hgd
          generalize w6.drew = wd at hS2 HD hbd ⊢
          clear hgd hb6
          repeat (refine line_read (a' := ?_) rfl (by kernel_rfl) (by kernel_rfl) hS2 (fun x hx K hK => ?_) ?_; rotate_left; · obtain ⟨q0, q1⟩ := hx; go_wp2; exact hK)
          refine line_act (by rfl) (fun K hK => ?_)
          go_wp2_with (go_at_call 18; refine (A1 wd HD.out).mono ?_; rintro e w7 ⟨v7, rfl, hown7, hg7⟩)
          replace hS2 := And.intro (hg7.cell hS2.1 (by simp)) (hg7.cell hS2.2 (by simp))
          refine hK _ _ _ hS2 (fun x hx => hx) ?_
          clear hK K
          refine line_act (by rfl) (fun K hK => ?_)
          go_wp2_with (go_at_call 18; refine (A2 v7 w7 (Owns.bts rfl hown7)).mono ?_; rintro e w8 ⟨v8, rfl, hown8, hg8⟩)
          replace hS2 := And.intro (hg8.cell hS2.1 (by simp)) (hg8.cell hS2.2 (by simp))
          refine hK _ _ _ hS2 (fun x hx => hx) ?_
          clear hK K
          refine line_act (by rfl) (fun K hK => ?_)
          go_wp2_with (go_at_call 18; refine (A3 v8 w8 (Owns.bts rfl hown8)).mono ?_; rintro e w9 ⟨v9, rfl, hown9, hg9⟩)
          replace hS2 := And.intro (hg9.cell hS2.1 (by simp)) (hg9.cell hS2.2 (by simp))
          refine hK _ _ _ hS2 (fun x hx => hx) ?_
          clear hK K
          repeat (refine line_read (a' := ?_) rfl (by kernel_rfl) (by kernel_rfl) hS2 (fun x hx K hK => ?_) ?_; rotate_left; · obtain ⟨q0, q1⟩ := hx; go_wp2; exact hK)
          refine line_end ?_
          have hg79 := ext_trans hg7 (ext_trans hg8 hg9)
          have hb9 := hbd.ext hg79
          have HE9 := Lib.hid (ext_trans HD.out hg79)
          clear A1 A2 A3 hown7 hown8 hg7 hg8 hg9 hg79 hbd hS2
          go_wp2
          have x3 := (hb9.cell 3).trans (ten_sp _ _)
          have x4 := (hb9.cell 4).trans (ten_bs _ _)
          have hgd := Ext.drew w9
          have hS2 := And.intro (hgd.cell x3 (by simp)) (hgd.cell x4 (by simp))
          clear x3 x4
          refine region_line [(0, true), (1, true), (2, true), (4, true), (5, true), (6, true), (3, false), (7, false), (8, true)] (fun x => x.cell? ⟨wo.heap.size, 3, none⟩ = some (.int .i64 xp) ∧ x.cell? ⟨wo.heap.size, 4, none⟩ = some (.slice ao nx cp)) (by kernel_rfl) (by kernel_rfl) (fun _ _ _ d _ h => by cases d <;> exact h) hS2 ?_
          have HB9 := Lib.hid ((Owns.bts rfl hown9).kept hgd (by simp))
          have hbd := hb9.ext hgd
          have HD2 := Lib.hid (ext_trans HE9.out hgd)
          generalize w9.drew = we at hS2 HB9 hbd HD2 ⊢
          clear hgd hb9 hown9
          repeat (refine line_read (a' := ?_) rfl (by kernel_rfl) (by kernel_rfl) hS2 (fun x hx K hK => ?_) ?_; rotate_left; · obtain ⟨q0, q1⟩ := hx; go_wp2; exact hK)
          refine line_act (by rfl) (fun K hK => ?_)
          go_wp2_with (go_at_call 18; refine (A4 v9 we HB9.out).mono ?_; rintro e w10 ⟨v10, rfl, hown10, hg10⟩)
          replace hS2 := And.intro (hg10.cell hS2.1 (by simp)) (hg10.cell hS2.2 (by simp))
          refine hK _ _ _ hS2 (fun x hx => hx) ?_
          clear hK K
          refine line_act (by rfl) (fun K hK => ?_)
          go_wp2_with (go_at_call 18; refine (A5 v10 w10 (Owns.bts rfl hown10)).mono ?_; rintro e w11 ⟨v11, rfl, hown11, hg11⟩)
          replace hS2 := And.intro (hg11.cell hS2.1 (by simp)) (hg11.cell hS2.2 (by simp))
          refine hK _ _ _ hS2 (fun x hx => hx) ?_
          clear hK K
          repeat (refine line_read (a' := ?_) rfl (by kernel_rfl) (by kernel_rfl) hS2 (fun x hx K hK => ?_) ?_; rotate_left; · obtain ⟨q0, q1⟩ := hx; go_wp2; exact hK)
          refine line_end ?_
          have hg1011 := ext_trans hg10 hg11
          have x4 := ((hbd.ext hg1011).cell 4).trans (ten_bs _ _)
          have HE11 := Lib.hid (ext_trans HD2.out hg1011)
          have hB11 := Owns.bts rfl hown11
          rw [HA.out] at hB11
          have HB11 := Lib.hid hB11
          clear A4 A5 hown10 hown11 hg10 hg11 hg1011 hbd hS2 hB11
          go_wp2
          go_loopw [8, 53] (fun o i wr => ∃ (q : Nat) (v : Value), q ≤ nx ∧ v = o ∧ i = .int .i64 q ∧ Bts wr v (xs ++ entH ⟨true, xe, xz, xp, xb⟩ ++ xb.take q) ∧ Ext w11 wr) (fun _ i _ => nx - (intOf i).toNat)
          case atStart => exact ⟨0, _, by omega, rfl, rfl, by simpa using HB11.out, Ext.refl w11⟩
          case round =>
            obtain ⟨q, v, hq, hv, rfl, hB, hE⟩ := hrel
            subst hv
            by_cases hlq : q < nx
            · have hlq2 : q < xb.length := by have := HLN.out; omega
              obtain ⟨rfl, hcell⟩ := HC.out q hlq2
              have hcell := (ext_trans HE11.out hE).cell hcell (by simp)
              obtain ⟨y, hy⟩ : ∃ y, xb.getD q 0 = y := ⟨_, rfl⟩
              have hy1 := HOne.out _ (getD_mem0 hlq2)
              rw [hy] at hcell hy1
              have HY := Lib.hid hy
              have PX := refPut_is (v := y) (n := 1) hB (by simp [entH, leB_len]; omega) (putL_one hy1.1 hy1.2)
              have HEE := Lib.hid hE
              clear hy hB hE
              go_wp2_with (go_at_call 18; refine PX.mono ?_; rintro e w12 ⟨v12, rfl, hown12, hg12⟩)
              go_roundw
              case rel => exact ⟨q + 1, _, by omega, rfl, by go_num, by rw [take_snocI hlq2, HY.out, ← List.append_assoc]; exact Owns.bts rfl hown12, ext_trans HEE.out hg12⟩
              case measure => simp [intOf]; omega
            · obtain rfl : q = nx := by omega
              have htk : xb.take q = xb := by rw [← HLN.out]; exact List.take_length
              rw [htk, List.append_assoc, ← entL_there (x := ⟨true, xe, xz, xp, xb⟩) rfl] at hB
              have HB := Lib.hid hB
              clear htk
              go_wp2
              go_roundw
              case rel => exact ⟨k + 1, _, by omega, rfl, by go_num, by rw [HNX.out]; exact HB.out, ext_trans HE.out (ext_trans HE11.out hE)⟩
              case measure => simp [intOf]; omega
      · obtain rfl : k = 4 := by omega
        have HB := Lib.hid hB
        go_wp2_with (go_at_call 19; refine (M v wo HB.out).mono ?_; rintro e w8 ⟨v8, rfl, hown8, hg8⟩)
        go_returns
        exact ⟨_, rfl, ownsRow_le hown8 (by have := HE0.out.size; have := hE.size; omega), ext_trans HE0.out (ext_trans hE hg8)⟩

end Go.Proofs.YteionppcjgggiaaGreat

/-
  Layer 12: what Load and Save answer (their contracts); the law AdlogKeeps over them.
-/
namespace Go.Proofs.YteionppcjgggiaaGreat
set_option linter.unusedVariables false
set_option linter.unusedSimpArgs false
set_option maxRecDepth 100000
open Go.RowKit

/-- What loading answers, while the power is there. -/
def LoadC : Prop := ∀ (S : NShape) (V : Nat → Value) (zs : Nat → List Int) (s : NS) (w : World), NandAt w S V zs s → Roles S → s.off = false → Small s →
  Calls Tryz.prog 11 #[.pointer (some ⟨S.nb, 0, none⟩)] w (ChangeP w (ledOf (newestN S.all S.p S.pg s.L), 0))
/-- What saving answers, and what it leaves. -/
def SaveC : Prop := ∀ (S : NShape) (V : Nat → Value) (zs : Nat → List Int) (s : NS) (x : Led) (VX : Nat → Value) (c : Int) (w : World), NandAt w S V zs s → Roles S → Cnt s c → c < 70000 → (∀ j, j < 4 → (zs j).length ≤ 64) → Small s → LedIs w x VX → GoodL x →
  Calls Tryz.prog 13 #[.pointer (some ⟨S.nb, 0, none⟩), .agg (ledC x VX)] w (Goes S V zs (.int .i64 (saveN S zs x S.all S.p s).2) (saveN S zs x S.all S.p s).1 w)
def FixC : Prop := ∀ w : World, Calls Tryz.prog 4 #[] w fun e w' => e = .returned (.bool true) ∧ Ext w w'

theorem bts_empty {w w' : World} {v : Value} (h : Bts w v []) : Bts w' v [] := by
  rcases h with h | ⟨b, off, cap, h1, h2, _⟩
  · exact .inl h
  · exact .inr ⟨b, off, cap, h1, h2, fun i hi => by simp at hi⟩
theorem ints_empty {w w' : World} {v : Value} (h : Ints w v []) : Ints w' v [] := by
  rcases h with h | ⟨b, off, cap, h1, h2, _⟩ | h
  · exact .inl h
  · exact .inr (.inl ⟨b, off, cap, h1, h2, fun i hi => by simp at hi⟩)
  · exact .inr (.inr h)
/-- A block without a role is turned: an array with nothing beside its pages, and no faults, stands. -/
theorem NandAt.other0 {w w' : World} {S : NShape} {V : Nat → Value} {s : NS} {NB : Nat} (h : NandAt w S V noZs s) (hR : Roles S) (hg : w.grownBy w' (some NB)) (ht : S.T NB = 0) (hb : Beside (· = []) s) : NandAt w' S V noZs s := by
  have e : ∀ k, S.T k ≠ 0 → w'.heap[k]? = w.heap[k]? := fun k hk => hg.block k (h.hi k hk) (fun e => by injection e with e; rw [e] at hk; exact hk ht)
  have e3 := e S.bm (by rw [hR.tm]; decide)
  have e4 := e S.be (by rw [hR.te]; decide)
  have e6 := e S.db (by rw [hR.td]; decide)
  refine ⟨h.fix.stays (e _ (by rw [hR.tn]; decide)) (e _ (by rw [hR.tl]; decide)), fun i hi => ?_, fun i hi => (World.cell?_of_block e3).trans (h.mks i hi), fun o => (World.frozen?_of_block e3).trans (h.mkf o),
    fun i hi => (World.cell?_of_block e4).trans (h.ers i hi), fun o => (World.frozen?_of_block e4).trans (h.erf o), h.pow.stays (e _ (by rw [hR.tp]; decide)), ?_, h.tv, fun k hk => Nat.lt_of_lt_of_le (h.hi k hk) hg.size⟩
  · have hr := h.row i hi
    have er := e (S.row i) (by rw [hR.tr i hi]; omega)
    refine ⟨fun j hj => (World.cell?_of_block er).trans (hr.st j hj), fun j hj => ?_, fun j hj => (World.cell?_of_block er).trans (hr.dt j hj), fun o => (World.frozen?_of_block er).trans (hr.free o)⟩
    obtain ⟨v, h1, h2, h3⟩ := hr.bs j hj
    have hbe : (s.L i j).bs = [] := (hb i j).1
    rw [hbe] at h2 ⊢
    exact ⟨v, (World.cell?_of_block er).trans h1, bts_empty h2, h3⟩
  · exact ⟨fun j hj => (World.cell?_of_block e6).trans (h.drs.row j hj), fun j hj => (World.cell?_of_block e6).trans (h.drs.ops j hj), fun j hj => (World.cell?_of_block e6).trans (h.drs.bad j hj), fun o => (World.frozen?_of_block e6).trans (h.drs.free o), fun j hj => ints_empty (h.drs.ints j hj), h.drs.apart⟩

/-- What stands while ledgers are saved. -/
structure Log12 (w0 w : World) (S : NShape) (V : Nat → Value) (s : NS) (NB : Nat) (now : Led) (Vn : Nat → Value) : Prop where
  nd : NandAt w S V noZs s
  tells : Tells S.all S.p S.pg s.L now
  mr : s.mr 0 = false ∧ s.mr 1 = false
  sm : Beside (· = []) s
  nb : Blk w NB 36 (ledC now Vn)
  is : LedIs w0 now Vn
  len : ∀ j, j < 4 → (now.t j).bs.length ≤ 40
  t0 : S.T NB = 0
  lo : ∀ k, S.T k ≠ 0 → w0.heap.size ≤ k
  ext : Ext w0 w
theorem Log12.next {w0 w w' : World} {S : NShape} {V : Nat → Value} {s : NS} {NB : Nat} {now : Led} {Vn : Nat → Value} (h : Log12 w0 w S V s NB now Vn) (hR : Roles S) (hE : Ext w w') : Log12 w0 w' S V s NB now Vn :=
  ⟨h.nd.ext hE hR, h.tells, h.mr, h.sm, h.nb.ext hE, h.is, h.len, h.t0, h.lo, ext_trans h.ext hE⟩
theorem Log12.goes {w0 w w' : World} {S : NShape} {V : Nat → Value} {s s' : NS} {NB : Nat} {now : Led} {Vn : Nat → Value} (h : Log12 w0 w S V s NB now Vn) (hN : NandAt w' S V noZs s') (hk : Keeps S.T w w')
    (hT : Tells S.all S.p S.pg s'.L now) (hm : s'.mr = s.mr) (hs : Beside (· = []) s') : Log12 w0 w' S V s' NB now Vn :=
  ⟨hN, hT, by rw [hm]; exact h.mr, hs, (hk.block NB h.nb.lt h.t0).trans h.nb, h.is, h.len, h.t0, h.lo, Keeps.grown h.ext hk h.lo⟩
/-- Another ledger is the newest. -/
structure Log12b (w0 w : World) (S : NShape) (V : Nat → Value) (s : NS) (NB : Nat) (now : Led) (Vn : Nat → Value) (x : Led) : Prop where
  nd : NandAt w S V noZs s
  tells : Tells S.all S.p S.pg s.L x
  mr : s.mr 0 = false ∧ s.mr 1 = false
  sm : Beside (· = []) s
  nb : Blk w NB 36 (ledC now Vn)
  t0 : S.T NB = 0
  lo : ∀ k, S.T k ≠ 0 → w0.heap.size ≤ k
  ext : Ext w0 w
theorem Log12.new {w0 w w' : World} {S : NShape} {V : Nat → Value} {s s' : NS} {NB : Nat} {now x : Led} {Vn : Nat → Value} (h : Log12 w0 w S V s NB now Vn) (hN : NandAt w' S V noZs s') (hk : Keeps S.T w w')
    (hT : Tells S.all S.p S.pg s'.L x) (hm : s'.mr = s.mr) (hs : Beside (· = []) s') : Log12b w0 w' S V s' NB now Vn x :=
  ⟨hN, hT, by rw [hm]; exact h.mr, hs, (hk.block NB h.nb.lt h.t0).trans h.nb, h.t0, h.lo, Keeps.grown h.ext hk h.lo⟩
theorem Log12b.put {w0 w w' : World} {S : NShape} {V : Nat → Value} {s : NS} {NB : Nat} {now x : Led} {Vn VX : Nat → Value} (h : Log12b w0 w S V s NB now Vn x) (hR : Roles S) (hb : Blk w' NB 36 (ledC x VX)) (hg : w.grownBy w' (some NB)) (hNB : w0.heap.size ≤ NB)
    (hi : LedIs w0 x VX) (hl : ∀ j, j < 4 → (x.t j).bs.length ≤ 40) : Log12 w0 w' S V s NB x VX := by
  exact ⟨h.nd.other0 hR hg h.t0 h.sm, h.tells, h.mr, h.sm, hb, hi, hl, h.t0, h.lo, grown_trans h.ext hg (fun p hp hlt => by injection hp with hp; omega)⟩
theorem Log12b.next {w0 w w' : World} {S : NShape} {V : Nat → Value} {s : NS} {NB : Nat} {now x : Led} {Vn : Nat → Value} (h : Log12b w0 w S V s NB now Vn x) (hR : Roles S) (hE : Ext w w') : Log12b w0 w' S V s NB now Vn x :=
  ⟨h.nd.ext hE hR, h.tells, h.mr, h.sm, h.nb.ext hE, h.t0, h.lo, ext_trans h.ext hE⟩

end Go.Proofs.YteionppcjgggiaaGreat

/-
  The law AdlogKeeps, over what Load and Save answer.
-/
namespace Go.Proofs.YteionppcjgggiaaGreat
set_option linter.unusedVariables false
set_option linter.unusedSimpArgs false
set_option maxRecDepth 100000
open Go.RowKit

theorem ChangeP.eqL {w w' : World} {A B : Led} {e : Int} {en : Ending} (h : ChangeP w (A, e) en w') (hE : EqL A B) : ChangeP w (B, e) en w' := by
  obtain ⟨V', h1, h2, h3, h4⟩ := h
  exact ⟨V', by rw [h1]; show Ending.returned (.tuple #[.agg (ledC A V'), .int .i64 e]) = .returned (.tuple #[.agg (ledC B V'), .int .i64 e]); rw [hE.cells], hE.is h2, h3, h4⟩
theorem CameL0.good {w : World} {L : Led} {V : Nat → Value} (h : CameL0 w L V) (hl : ∀ j, j < 4 → (L.t j).bs.length ≤ 40) : GoodL L := ⟨fun j hj => by have := hl j hj; omega, h.wf, h.ep⟩
theorem blank_tells (n p bud : Int) (pg : Nat) : Tells n p pg (blankS [] bud false 0 (fun _ => 0) (fun _ => 0)).L noLed := by
  have h : ∀ b j, pgLed n p ((blankS [] bud false 0 (fun _ => 0) (fun _ => 0)).L b j) = none := fun b j => pgLed_blank (show (0 : Int) ≠ 1 by decide)
  exact ⟨fun b _ j _ m hm => (by rw [h b j] at hm; cases hm), .inl ⟨fun b _ j _ => h b j, EqL.refl _⟩⟩

end Go.Proofs.YteionppcjgggiaaGreat

/-
  Layer 12's fixed, over what Load and Save answer.
-/
namespace Go.Proofs.YteionppcjgggiaaGreat
set_option linter.unusedVariables false
set_option linter.unusedSimpArgs false
set_option maxRecDepth 100000
open Go.RowKit

/-- Loading from a nil array. -/
def LoadN : Prop := ∀ w : World, Calls Tryz.prog 11 #[.pointer none] w (ChangeP w (noLed, 1))

theorem led_build1V (g : Int) (w : World) : (Instr.build 36 #[(0, .int .i64 g)]).run Tryz.prog w = .ok (.agg (ledC ⟨g, 0, fun _ => noTen⟩ (fun _ => nilS))) w := by kernel_rfl
theorem led_build1 {ops : Array Oper} {rest : List Oper} {o : Oper} {a : Act} {w : World} {Q : Exit → Act → World → Prop} (hgd : o.guard = none) (x : Operand) (ho : o.op = .build 36 #[(0, x)]) {g : Int} (hx : a.eval x = .int .i64 g)
    (h : wpList Tryz.prog ops Q rest (a.put o.dst (.agg (ledC ⟨g, 0, fun _ => noTen⟩ (fun _ => nilS)))) w) : wpList Tryz.prog ops Q (o :: rest) a w := by
  refine wpList_plain hgd fun K hK => ?_
  have hm : (#[((0 : Nat), x)].map fun (q : Nat × Operand) => (q.1, a.eval q.2)) = #[(0, .int .i64 g)] := by simp [hx]
  unfold Oper.wp execOp
  simp only [ho, hm, Sem.run_bind, led_build1V, Result.andThen_ok, Sem.run_pure]
  exact hK _ _ h
/-- The same, where it is asked for under a guard. -/
theorem led_build0w {ops : Array Oper} {rest : List Oper} {o : Oper} {a : Act} {w : World} {Q : Exit → Act → World → Prop} (hw : Region.wanted o (yielded ops a.tmps) = true) (ho : o.op = .build 36 #[])
    (h : wpList Tryz.prog ops Q rest (a.put o.dst (.agg (ledC noLed (fun _ => nilS)))) w) : wpList Tryz.prog ops Q (o :: rest) a w := by
  refine wpList_want hw fun K hK => ?_
  have hm : ((#[] : Array (Nat × Operand)).map fun (q : Nat × Operand) => (q.1, a.eval q.2)) = #[] := by simp
  unfold Oper.wp execOp
  simp only [ho, hm, Sem.run_bind, led_build0V, Result.andThen_ok, Sem.run_pure]
  exact hK _ _ h

def led3 : Led := ⟨3, 0, fun _ => noTen⟩
theorem led3_right (n p : Int) : RightP led3 n p :=
  ⟨by decide, by decide, fun j _ => ⟨fun h => by simp [led3, noTen] at h, fun _ => ⟨rfl, rfl, rfl, rfl⟩⟩, by show (takenTo led3 4).Nodup; simp [takenTo, led3, noTen], by show (epochsTo led3 4).Nodup; simp [epochsTo, led3, noTen]⟩
theorem led3_good : GoodL led3 := ⟨fun j _ => by simp [led3, noTen], fun j _ b hb => by simp [led3, noTen] at hb, fun j _ => (show (Lit.int .i64 0).wf = true by decide)⟩
theorem led3_is (w : World) : LedIs w led3 (fun _ => nilS) := fun _ _ => .inl ⟨rfl, rfl⟩

set_option maxHeartbeats 3200000 in
theorem fix12_any (LD : LoadC) (SV : SaveC) (LN : LoadN) : FixC := by
  intro w
  go_enter Tryz.func4, Tryz.ntmps4
  go_upto_region 2 with (go_at_call 6; refine (array12_any 4 (-1) _ (by decide)).mono ?_; rintro e w1 ⟨S, V, hR, ⟨q1, q2, q3, q4, q5, q6⟩, rfl, hN, hE1, hT⟩)
  have hall : 2 ≤ S.all := by rw [q5]; decide
  have hpos : 0 < S.pg := by rw [q6]; decide
  have h64 : (S.all : Int) ≤ 64 := by rw [q5]; decide
  have C0 : Calm (blankS [] (-1) false 0 (fun _ => 0) (fun _ => 0)) 0 := blank_calm []
  have T0 := blank_tells S.all S.p (-1) S.pg
  have M0 : (blankS [] (-1) false 0 (fun _ => 0) (fun _ => 0)).mr 0 = false ∧ (blankS [] (-1) false 0 (fun _ => 0) (fun _ => 0)).mr 1 = false := ⟨rfl, rfl⟩
  have B0 : Beside (· = []) (blankS [] (-1) false 0 (fun _ => 0) (fun _ => 0)) := fun _ _ => ⟨rfl, pgOk_none (.inl rfl)⟩
  generalize blankS [] (-1) false 0 (fun _ => 0) (fun _ => 0) = s0 at *
  obtain ⟨sv1, C1⟩ := save_calm (zs := noZs) C0 T0 hall hpos M0 (led3_right _ _) (show (0 : Int) < 3 by decide) (by omega) h64
  obtain ⟨st1, M1⟩ := save_tells (zs := noZs) T0 hall hpos M0 (led3_right _ _) (show (0 : Int) < 3 by decide) (by omega) h64
  have B1 := (save_small (zs := noZs) (P := (· = [])) B0 rfl C0.cnt T0 hall hpos M0 (led3_right _ _) (show (0 : Int) < 3 by decide) (by omega) h64).1
  have T1 : Tells S.all S.p S.pg (saveN S noZs led3 S.all S.p s0).1.L led3 := by
    rcases st1 with ⟨_, h⟩ | ⟨h, _⟩
    · exact h
    · rw [sv1] at h; exact absurd h (by decide)
  have RF := save_refused (zs := noZs) (x := led3) T1 C1.off (by omega) h64 (.inr (Int.le_refl _))
  have SV1 := fun wx (hN : NandAt wx S V noZs s0) => SV S V noZs s0 led3 (fun _ => nilS) 0 wx hN hR C0.cnt (by decide) (fun _ _ => by simp [noZs]) B0.small (led3_is _) led3_good
  obtain ⟨s1, hs1⟩ : ∃ z, (saveN S noZs led3 S.all S.p s0).1 = z := ⟨_, rfl⟩
  rw [sv1, hs1] at SV1
  rw [hs1] at C1 B1 T1 RF
  have SV2 := fun wx (hN : NandAt wx S V noZs s1) => SV S V noZs s1 led3 (fun _ => nilS) (0 + 5) wx hN hR C1.cnt (by decide) (fun _ _ => by simp [noZs]) B1.small (led3_is _) led3_good
  rw [RF] at SV2
  have LD0 := fun wx (hN : NandAt wx S V noZs s0) => (LD S V noZs s0 wx hN hR C0.off B0.small).mono (fun e w' h => ChangeP.eqL h T0.newest.1)
  have LD1 := fun wx (hN : NandAt wx S V noZs s1) => (LD S V noZs s1 wx hN hR C1.off B1.small).mono (fun e w' h => ChangeP.eqL h T1.newest.1)
  have HR := Lib.hid (And.intro hR hT)
  have HN := Lib.hid hN
  have HE1 := Lib.hid hE1
  clear C0 C1 T0 T1 M0 B0 B1 sv1 st1 M1 hs1 RF q1 q2 q3 q4 q5 q6 hall hpos h64 hR hT hN hE1
  go_wp2_with (first
    | (go_at_call 11; refine (LN w7).mono ?_; rintro e w8 ⟨Vc, rfl, hIc, _, hE8⟩; have hBc := Blk.new w8 36 zeroC; have HE8 := Lib.hid (ext_trans HE7.out hE8); have ha8 := ha7.ext hE8; have hb8 := hb7.ext hE8; clear hE8 ha7 hb7)
    | (refine led_store (L := noLed) (V := Vc) _ _ rfl rfl rfl hBc rfl hIc.slices rfl ?_; intro w9 hc9 hg9 hs9; have hE9 := grown_trans (World.grownBy_alloc w8 (.cells zeroC 36) none) hg9 (fun p hp hlt => by injection hp with hp; omega); have HE9 := Lib.hid (ext_trans HE8.out hE9); have ha9 := ha8.ext hE9; have hb9 := hb8.ext hE9; have cb := (hb9.cell 0).trans (led_gen _ _); clear hBc hg9 hs9 hE9 ha8 hb8 hc9 hIc)
    | (refine led_load _ rfl rfl ha9 rfl ?_)
    | (refine led_build0w rfl rfl ?_)
    | (go_at_call 12; refine (same10_eq noLed Va (fun _ => nilS) w9 (fun j hj => ints_empty (HIa.out j hj)) (noLed_is _) (fun _ _ => by simp [noLed, noTen])).mono ?_; rintro e w10 ⟨rfl, hE10⟩; have HE10 := Lib.hid (ext_trans HE9.out hE10); have cb10 := hE10.cell cb (by simp); clear hE10 cb ha9 hb9)
    | (go_at_call 13; refine (SV2 w6 HN6.out).mono ?_; rintro e w7 ⟨rfl, hN7, hk7⟩; have HE7 := Lib.hid (Keeps.grown HE6.out hk7 HR.out.2); have ha7 : Blk w7 w2.heap.size 36 (ledC noLed Va) := (hk7.block _ ha6.lt TA.out).trans ha6; have hb7 : Blk w7 w5.heap.size 36 (ledC led3 Vb) := (hk7.block _ hb6.lt TB.out).trans hb6; clear hN7 hk7 ha6 hb6 SV2)
    | (go_at_call 11; refine (LD1 w4 HN4.out).mono ?_; rintro e w5 ⟨Vb, rfl, hIb, _, hE5⟩; have hBb := Blk.new w5 36 zeroC; have HN5 := Lib.hid (HN4.out.ext hE5 HR.out.1); have HE5 := Lib.hid (ext_trans HE4.out hE5); have ha5 := ha4.ext hE5; clear hE5 ha4 LD1)
    | (refine led_store (L := led3) (V := Vb) _ _ rfl rfl rfl hBb rfl hIb.slices rfl ?_; intro w6 hb6 hg6 hs6; have hE6 := grown_trans (World.grownBy_alloc w5 (.cells zeroC 36) none) hg6 (fun p hp hlt => by injection hp with hp; omega); have HN6 := Lib.hid (HN5.out.ext hE6 HR.out.1); have HE6 := Lib.hid (ext_trans HE5.out hE6); have ha6 := ha5.ext hE6; have TB := Lib.hid (HN5.out.fresh (Nat.le_refl _)); clear hBb hg6 hs6 hE6 ha5 hIb)
    | (go_at_call 13; refine (SV1 w3 HN3.out).mono ?_; rintro e w4 ⟨rfl, hN4, hk4⟩; have HN4 := Lib.hid hN4; have HE4 := Lib.hid (Keeps.grown HE3.out hk4 HR.out.2); have ha4 : Blk w4 w2.heap.size 36 (ledC noLed Va) := (hk4.block _ ha3.lt TA.out).trans ha3; clear hN4 hk4 ha3 SV1)
    | (go_at_call 11; refine (LD0 w1 HN.out).mono ?_; rintro e w2 ⟨Va, rfl, hIa, _, hE2⟩; have hBa := Blk.new w2 36 zeroC; have HN2 := Lib.hid (HN.out.ext hE2 HR.out.1); have HE2 := Lib.hid (ext_trans HE1.out hE2); have HIa := Lib.hid hIa; have hsa := hIa.slices; clear hE2 hIa LD0)
    | (refine led_store (L := noLed) (V := Va) _ _ rfl rfl rfl hBa rfl hsa rfl ?_; intro w3 ha3 hg3 hs3; have hE3 := grown_trans (World.grownBy_alloc w2 (.cells zeroC 36) none) hg3 (fun p hp hlt => by injection hp with hp; omega); have HN3 := Lib.hid (HN2.out.ext hE3 HR.out.1); have HE3 := Lib.hid (ext_trans HE2.out hE3); have TA := Lib.hid (HN2.out.fresh (Nat.le_refl _)); clear hBa hg3 hs3 hE3 hsa)
    | (refine led_build1 rfl _ rfl rfl ?_))
  go_ret
  exact ⟨rfl, HE10.out⟩

end Go.Proofs.YteionppcjgggiaaGreat

/-
  Package adlog: Load, Save.
-/
namespace Go.Proofs.YteionppcjgggiaaGreat
set_option linter.unusedVariables false
set_option linter.unusedSimpArgs false
set_option maxRecDepth 100000
open Go.RowKit

/-! ### Load -/
theorem adLoad_is {w : World} {a : Value} {L : Led} {b : Nat} {er : Int} (NW : ∀ wx, Ext w wx → Calls Tryz.prog 30 #[a] wx (NewestP wx L b er)) :
    Calls Tryz.prog 11 #[a] w (ChangeP w (L, er)) := by
  have hres := Blk.new w 36 zeroC
  have ha := World.grownBy_alloc w (.cells zeroC 36) none
  obtain ⟨w1, hw1⟩ : ∃ x, w.alloc (.cells zeroC 36) = x := ⟨_, rfl⟩
  rw [hw1] at hres ha
  have hsz : w.heap.size < w1.heap.size := by rw [← hw1]; simp
  have NW1 := NW w1 ha
  have HA := Lib.hid (And.intro ha hsz)
  clear NW ha hsz
  go_enter Tryz.func11, Tryz.ntmps11
  go_wp2_with (first
    | (go_at_call 30; refine NW1.mono ?_; rintro e w2 ⟨V2, rfl, hI2, hl2, hg2⟩; have hr2 := hres.ext hg2; have hB2 := Blk.new w2 36 zeroC; have hsl := hI2.slices; have HI2 := Lib.hid (And.intro hI2 (And.intro hl2 hg2)); clear hres NW1 hI2 hl2 hg2)
    | (refine led_store (L := L) (V := V2) _ _ rfl rfl rfl hr3 rfl hsl rfl ?_; intro w4 hb4 hg4 hs4)
    | (refine led_store (L := L) (V := V2) _ _ rfl rfl rfl hB2 rfl hsl rfl ?_; intro w3 hb3 hg3 hs3; have hE3 := grown_trans (World.grownBy_alloc w2 (.cells zeroC 36) none) hg3 (fun p hp hlt => by injection hp with hp; omega); have hr3 := hr2.ext hE3; have HE3 := Lib.hid hE3; clear hB2 hr2 hg3 hs3 hE3)
    | (refine led_load _ rfl rfl hb3 rfl ?_))
  refine bodyPost_ret (v := .tuple #[.agg (ledC L V2), .int .i64 er]) (results_cell_row2 (fn := Tryz.f11) rfl rfl rfl hb4 Tryz.underlying36 rfl Tryz.sizeLed) rfl ?_
  obtain ⟨hI2, hl2, hg2⟩ := HI2.out
  obtain ⟨ha, hsz⟩ := HA.out
  have q := HE3.out.size
  have q2 := hg4.size
  exact ⟨_, rfl, (hI2.ext HE3.out).kept hg4 (fun j hj p hp e => by injection e with e; have := hl2 j hj p hp; omega), fun j hj p hp => by have := hl2 j hj p hp; omega, grown_trans (ext_trans ha (ext_trans hg2 HE3.out)) hg4 (fun p hp hlt => by injection hp with hp; omega)⟩

theorem adLoad_any : LoadC := by
  intro S V zs s w h hR ho hs
  refine adLoad_is (b := blkOf (newestN S.all S.p S.pg s.L)) (fun wx hE => ?_)
  have := adNewest_any (h.ext hE hR) hR hs
  rw [ho] at this
  exact this

/-- A nil array. -/
theorem adNewest_nil (w : World) : Calls Tryz.prog 30 #[.pointer none] w (NewestP w noLed 0 1) := by
  have hres := Blk.new w 36 zeroC
  go_enter Tryz.func30, Tryz.ntmps30
  go_wp2_with (first
    | (refine led_build0 rfl rfl ?_)
    | (refine led_store (L := noLed) (V := fun _ => nilS) _ _ rfl rfl rfl hres rfl (fun _ _ => ⟨_, _, _, rfl⟩) rfl ?_; intro w3 hb3 hg3 hs3))
  refine bodyPost_ret (v := .tuple #[.agg (ledC noLed fun _ => nilS), .int .i64 ((0 : Nat) : Int), .int .i64 1]) (results_cell_row3 (fn := Tryz.f30) rfl rfl rfl rfl hb3 Tryz.underlying36 rfl Tryz.sizeLed) rfl ?_
  exact ⟨_, rfl, noLed_is _, fun j _ q hq => by simp [Value.ownBlock] at hq, grown_trans (World.grownBy_alloc w _ none) hg3 (fun p hp hlt => by injection hp with hp; omega)⟩
theorem adLoad_nil : LoadN := fun w => adLoad_is (b := 0) (fun wx _ => adNewest_nil wx)

/-! ### Save -/
theorem hiGen_led (r : Option (Led × Nat)) : hiGen r = (ledOf r).gen := by cases r <;> rfl
section
variable {S : NShape} {zs : Nat → List Int} {s : NS} {n p : Int} {x : Led}
theorem save_off (ho : s.off = true) : saveN S zs x n p s = (s, 12) := if_pos ho
theorem save_bad (ho : s.off = false) (he : snE x n p ≠ 0) : saveN S zs x n p s = (s, snE x n p) := by
  unfold saveN
  rw [if_neg (by rw [ho]; decide), if_pos he]
theorem save_old (ho : s.off = false) (he : snE x n p = 0) (hg : x.gen ≤ (ledOf (newestN n p S.pg s.L)).gen) : saveN S zs x n p s = (s, 2) := by
  unfold saveN
  rw [if_neg (by rw [ho]; decide), if_neg (by rw [he]; decide), if_pos (by rw [hiGen_led]; exact hg)]
theorem save_new (ho : s.off = false) (he : snE x n p = 0) (hg : ¬ x.gen ≤ (ledOf (newestN n p S.pg s.L)).gen) : saveN S zs x n p s =
    if (roomN S zs (blkOf (newestN n p S.pg s.L)) s).2.2 ≠ 0 then ((roomN S zs (blkOf (newestN n p S.pg s.L)) s).1, (roomN S zs (blkOf (newestN n p S.pg s.L)) s).2.2) else progAt S zs x n p (roomN S zs (blkOf (newestN n p S.pg s.L)) s).2.1 (roomN S zs (blkOf (newestN n p S.pg s.L)) s).1 := by
  unfold saveN roomN
  rw [if_neg (by rw [ho]; decide), if_neg (by rw [he]; decide), if_neg (by rw [hiGen_led]; exact hg)]
  split
  · simp
  · split
    · simp
    · rfl
theorem roomN_cnt {c : Int} (hc : Cnt s c) {b : Nat} (hb : 1 - b < S.all) : Cnt (roomN S zs b s).1 (c + 2) := by
  unfold roomN
  split
  · exact cnt_mono hc (by omega)
  · split
    · exact cnt_mono hc (by omega)
    · cases hm : s.mr (1 - b)
      · exact ersS_cnt hc hb hm
      · have : ersS S zs s 4 ((1 - b : Nat) : Int) = s := by unfold ersS; simp [hm]
        show Cnt (ersS S zs s 4 ((1 - b : Nat) : Int)) (c + 2)
        rw [this]
        exact cnt_mono hc (by omega)
theorem roomN_lt {b : Nat} (hb : b < 2) : (roomN S zs b s).2.1 < 2 := by
  unfold roomN
  split
  · exact hb
  · split <;> (show 1 - b < 2; omega)
end

/-- What is read while a page is written. -/
def SavS (LB : Nat) (cs : Array Value) (x : World) : Prop := Blk x LB 36 cs
def SavT (v : Value) (st : ByteArray) (x : World) : Prop := (convert 37 9 v).run Tryz.prog x = .ok (.string st) x
theorem goes_ret {S : NShape} {V : Nat → Value} {zs : Nat → List Int} {r : NS × Int} {s2 : NS} {er : Int} {w w' : World} (hr : r = (s2, er)) (hN : NandAt w' S V zs s2) (hk : Keeps S.T w w') : Goes S V zs (.int .i64 r.2) r.1 w (.returned (.int .i64 er)) w' := by
  subst hr
  exact ⟨rfl, hN, hk⟩

set_option maxHeartbeats 3200000 in
theorem adSave_any : SaveC := by
  intro S V zs s x VX c w h hR hc hcn hz hs hL hG
  obtain ⟨r, hr⟩ : ∃ r, saveN S zs x S.all S.p s = r := ⟨_, rfl⟩
  rw [hr]
  have hbd := hR.bds
  have hpg := hR.pgs
  have hfld := geo_pages S.c S.d S.b S.p
  have hbl := Blk.new w 36 (ledC x VX)
  have ha := World.grownBy_alloc w (.cells (ledC x VX) 36) none
  obtain ⟨LB, hLB⟩ : ∃ z, w.heap.size = z := ⟨_, rfl⟩
  obtain ⟨w1, hw1⟩ : ∃ y, w.alloc (.cells (ledC x VX) 36) = y := ⟨_, rfl⟩
  rw [hw1] at hbl ha
  have NW := adNewest_any (h.ext ha hR) hR hs
  obtain ⟨fL, hfL⟩ : ∃ z, (if s.off then noLed else ledOf (newestN S.all S.p S.pg s.L)) = z := ⟨_, rfl⟩
  obtain ⟨fb, hfb⟩ : ∃ z, (if s.off then 0 else blkOf (newestN S.all S.p S.pg s.L)) = z := ⟨_, rfl⟩
  obtain ⟨fe, hfe⟩ : ∃ z, (if s.off then (12 : Int) else 0) = z := ⟨_, rfl⟩
  rw [hfL, hfb, hfe] at NW
  rw [hLB] at hbl
  have HF := Lib.hid (And.intro hfL (And.intro hfb hfe))
  have HH := Lib.hid (And.intro h (And.intro hR (And.intro hc (And.intro hcn (And.intro hz (And.intro hL (And.intro hG hs)))))))
  have HRR := Lib.hid hr
  have HA := Lib.hid ha
  have hsl := hL.slices
  have HLB := Lib.hid hLB
  clear hfL hfb hfe h hR hc hcn hz hL hG hs hr ha
  go_enter Tryz.func13, Tryz.ntmps13
  go_upto_region 1 with fail
  clear hLB hw1
  go_upto_if 16 with (first
    | (go_at_call 30; refine NW.mono ?_; rintro e w2 ⟨V2, rfl, hI2, _, hg2⟩; have hB2 := Blk.new w2 36 zeroC; have hbl2 := hbl.ext hg2; have hs2 := hI2.slices; have HE2 := Lib.hid (ext_trans HA.out hg2); clear hI2 hg2 hbl NW)
    | (refine led_store (L := fL) (V := V2) _ _ rfl rfl rfl hB2 rfl hs2 rfl ?_; intro w3 hb3 hg3 hs3; have hE3 := grown_trans (World.grownBy_alloc w2 (.cells zeroC 36) none) hg3 (fun p hp hlt => by injection hp with hp; omega); have hbl3 := hbl2.ext hE3; have HE3 := Lib.hid (ext_trans HE2.out hE3); clear hB2 hg3 hs3 hE3 hbl2 hs2))
  cases ho : s.off
  case true =>
    have hfe : fe = 12 := by rw [← HF.out.2.2, ho]; rfl
    have hb : (fe != 0) = true := by rw [hfe]; rfl
    have HX := Lib.hid (And.intro ho hfe)
    clear ho hfe hbl3 hb3 hsl
    go_wp2
    go_ret
    exact goes_ret (by rw [← HRR.out, save_off HX.out.1, HX.out.2]) (HH.out.1.ext HE3.out HH.out.2.1) (.ext HE3.out)
  case false =>
    have hfe : fe = 0 := by rw [← HF.out.2.2, ho]; rfl
    have hb : (fe != 0) = false := by rw [hfe]; rfl
    have hfL : ledOf (newestN S.all S.p S.pg s.L) = fL := by rw [← HF.out.1, ho]; rfl
    have hfb : blkOf (newestN S.all S.p S.pg s.L) = fb := by rw [← HF.out.2.1, ho]; rfl
    obtain ⟨ye, hye⟩ : ∃ z, snE x S.all S.p = z := ⟨_, rfl⟩
    obtain ⟨ys, hys⟩ : ∃ z, snL x S.all S.p = z := ⟨_, rfl⟩
    obtain ⟨st, hst⟩ : ∃ z, strOfNums ys = z := ⟨_, rfl⟩
    have HX := Lib.hid (And.intro ho (And.intro hfL (And.intro hfb (And.intro hye (And.intro hys hst)))))
    have FXd := HH.out.1.ext (ext_trans HE3.out (Ext.drew w3)) HH.out.2.1
    have BK := blocks7_is FXd.fix
    have GE := geometry7_is FXd.fix
    clear ho hfe hfL hfb hye hys hst FXd
    have hZ3 := HE3.out.size
    rw [HLB.out] at hZ3
    go_upto_region 4 with fail
    have hS0 : SavS LB (ledC x VX) w3.drew := hbl3
    refine region_line [(0, true), (1, true), (3, true), (2, false), (4, false), (5, true), (6, false), (7, true), (8, true), (9, true), (10, true), (11, true)] (SavS LB (ledC x VX)) (by kernel_rfl) (by kernel_rfl) (fun _ _ _ d _ h => by cases d <;> exact h) hS0 ?_
    repeat (refine line_read (a' := ?_) rfl (by kernel_rfl) (by kernel_rfl) hS0 (fun y hy K hK => ?_) ?_; rotate_left; · unfold SavS at hy; go_wp2_with (refine led_load _ rfl rfl hy rfl ?_); exact hK)
    refine line_act (by rfl) (fun K hK => ?_)
    go_wp2_with (go_at_call 32; refine BK.mono ?_; rintro e w' ⟨rfl, rfl⟩)
    refine hK _ _ _ hS0 (fun y hy => hy) ?_
    clear hK K
    refine line_act (by rfl) (fun K hK => ?_)
    go_wp2_with (go_at_call 33; refine GE.mono ?_; rintro e w4 ⟨rfl, hg4⟩)
    have hS4 : SavS LB (ledC x VX) w4 := Blk.ext hS0 hg4
    refine hK _ _ _ hS4 (fun y hy => hy) ?_
    clear hK K
    repeat (refine line_read (a' := ?_) rfl (by kernel_rfl) (by kernel_rfl) hS4 (fun y hy K hK => ?_) ?_; rotate_left; · unfold SavS at hy; go_wp2; exact hK)
    have hE4 := ext_trans (ext_trans HE3.out (Ext.drew w3)) hg4
    have BY := snapBytes_any x VX S.all S.p w4 (HH.out.2.2.2.2.2.1.ext hE4) HH.out.2.2.2.2.2.2.1 (by omega) (by omega)
    rw [HX.out.2.2.2.1, HX.out.2.2.2.2.1] at BY
    refine line_act (by rfl) (fun K hK => ?_)
    go_wp2_with (go_at_call 31; refine BY.mono ?_; rintro e w5 ⟨v5, rfl, hown5, hg5⟩)
    have hS5 : SavS LB (ledC x VX) w5 := Blk.ext hS4 hg5
    refine hK _ _ _ hS5 (fun y hy => hy) ?_
    clear hK K
    repeat (refine line_read (a' := ?_) rfl (by kernel_rfl) (by kernel_rfl) hS5 (fun y hy K hK => ?_) ?_; rotate_left; · unfold SavS at hy; go_wp2; exact hK)
    refine line_end ?_
    have HE5 := Lib.hid (ext_trans hE4 hg5)
    have hb5 := hb3.ext (ext_trans (ext_trans (Ext.drew w3) hg4) hg5)
    have HB5 := Lib.hid (And.intro (Owns.bts rfl hown5) (show ∀ q, v5.ownBlock = some q → S.T q = 0 from fun q hq => HH.out.1.fresh (by have := (hown5.lt q hq).1; have := hE4.size; omega)))
    have hbl5 : Blk w5 LB 36 (ledC x VX) := hS5
    clear hS0 hS4 hS5 BK GE BY hE4 hg4 hg5 hown5 hbl3 hb3 hb hZ3
    by_cases hy0 : ye = 0
    case neg =>
      have hb : (ye != 0) = true := by simpa using hy0
      have HY := Lib.hid hy0
      clear hy0 hb5 hbl5 hsl
      go_wp2
      go_ret
      obtain ⟨ho, hfL, hfb, hye, hys, hst⟩ := HX.out
      exact goes_ret (by rw [← HRR.out, save_bad ho (by rw [hye]; exact HY.out), hye]) (HH.out.1.ext HE5.out HH.out.2.1) (.ext HE5.out)
    case pos =>
      have hb : (ye != 0) = false := by rw [hy0]; rfl
      have cx := (hbl5.cell 0).trans (led_gen _ _)
      have cl := (hb5.cell 0).trans (led_gen _ _)
      obtain ⟨gx, hgx⟩ : ∃ z, x.gen = z := ⟨_, rfl⟩
      obtain ⟨gl, hgl⟩ : ∃ z, fL.gen = z := ⟨_, rfl⟩
      rw [hgx] at cx
      rw [hgl] at cl
      have HG := Lib.hid (And.intro hgx (And.intro hgl hy0))
      clear hgx hgl hy0 hb5 hbl5 hsl
      by_cases hg : gx ≤ gl
      · have hgb : decide (gx ≤ gl) = true := by simpa using hg
        go_wp2
        go_ret
        obtain ⟨ho, hfL, hfb, hye, hys, hst⟩ := HX.out
        exact goes_ret (by rw [← HRR.out, save_old ho (by rw [hye]; exact HG.out.2.2) (by rw [hfL, HG.out.1, HG.out.2.1]; exact hg)]) (HH.out.1.ext HE5.out HH.out.2.1) (.ext HE5.out)
      · have hgb : decide (gx ≤ gl) = false := by simpa using hg
        have hN5 := HH.out.1.ext HE5.out HH.out.2.1
        have hfb2 : fb < 2 := by
          have h1 := HX.out.2.2.1
          rw [← h1]
          cases hn : newestN S.all S.p S.pg s.L with
          | none => decide
          | some q => exact (newest_some (l := q.1) (b := q.2) hn).1
        have RM := adRoom_any hN5 HH.out.2.1 HH.out.2.2.1 (by have := HH.out.2.2.2.1; omega) HH.out.2.2.2.2.1 hfb2
        have RC := roomN_cnt (S := S) (zs := zs) (b := fb) HH.out.2.2.1 (by omega)
        have RL := roomN_lt (S := S) (zs := zs) (s := s) hfb2
        have HSV : saveN S zs x S.all S.p s = if (roomN S zs fb s).2.2 ≠ 0 then ((roomN S zs fb s).1, (roomN S zs fb s).2.2) else progAt S zs x S.all S.p (roomN S zs fb s).2.1 (roomN S zs fb s).1 := by
          obtain ⟨ho, hfL, hfb, hye, hys, hst⟩ := HX.out
          rw [save_new ho (by rw [hye]; exact HG.out.2.2) (by rw [hfL, HG.out.1, HG.out.2.1]; exact hg), hfb]
        rw [HRR.out] at HSV
        obtain ⟨⟨s2, bb, re⟩, hrm⟩ : ∃ z, roomN S zs fb s = z := ⟨_, rfl⟩
        rw [hrm] at RM RC RL HSV
        simp only at RM RC RL HSV
        have HV := Lib.hid (And.intro HSV (And.intro RC RL))
        clear HSV RC RL hrm hN5 hfb2 hg
        go_upto_if 43 with (go_at_call 34; refine RM.mono ?_; rintro e w6 ⟨rfl, hN6, hk6⟩; have HN6 := Lib.hid (And.intro hN6 hk6); clear hN6 hk6 RM)
        clear cx cl hgb hb
        by_cases hr0 : re = 0
        case neg =>
          have hb : (re != 0) = true := by simpa using hr0
          have HR0 := Lib.hid hr0
          clear hr0
          go_wp2
          go_ret
          exact goes_ret (by rw [HV.out.1, if_pos HR0.out]) HN6.out.1 ((Keeps.ext HE5.out).trans HN6.out.2)
        case pos =>
          have hb : (re != 0) = false := by rw [hr0]; rfl
          have HR0 := Lib.hid hr0
          clear hr0
          go_upto_region 12 with fail
          have hN6d := HN6.out.1.ext (Ext.drew w6) HH.out.2.1
          have hcv : SavT v5 st w6.drew := convert_is ((Keeps.trans HN6.out.2 (.ext (Ext.drew w6))).bts HB5.out.1 HB5.out.2) HX.out.2.2.2.2.2
          have NX := next7_is hN6d.fix (i := bb) (by have := HV.out.2.2; omega) (hN6d.row bb (by have := HV.out.2.2; omega)) HH.out.2.1
          have hsz : st.size ≤ 160 := by
            obtain ⟨ho, hfL, hfb, hye, hys, hst⟩ := HX.out
            have hall : min (S.all : Int) 256 = S.all := by omega
            have hrl : rightL x S.all S.p = true := by
              have h1 := hye
              rw [HG.out.2.2] at h1
              unfold snE at h1
              rw [hall] at h1
              split at h1
              · assumption
              · exact absurd h1 (by decide)
            have := page_fits ((rightL_iff (by omega) (by omega)).1 hrl) (n := S.all) (p := S.p) (by omega) (by omega)
            rw [hys, hst] at this
            exact this
          have PG := program_any (bs := []) (dt := st) (v := .slice none 0 0) hN6d HH.out.2.1 HV.out.2.1 (by have := HH.out.2.2.2.1; omega) HH.out.2.2.2.2.1 4 (bb : Int) ((nextN (s2.L bb) S.pg : Nat) : Int) (.inl ⟨rfl, rfl⟩) (fun hh => absurd hh (by decide)) (by decide) (by omega)
          have hpa : progAt S zs x S.all S.p bb s2 = (progS S zs s2 4 bb (nextN (s2.L bb) S.pg : Nat) [] st, progE S zs s2 4 bb (nextN (s2.L bb) S.pg : Nat) 0 st.size) := by
            obtain ⟨ho, hfL, hfb, hye, hys, hst⟩ := HX.out
            unfold progAt
            rw [hys, hst]
          have HP := Lib.hid (show r = _ by rw [HV.out.1, if_neg (by rw [HR0.out]; decide), hpa])
          clear hpa hsz hN6d
          refine region_line [(0, true), (1, true), (2, true), (3, true), (5, true), (6, true), (4, false), (7, false), (8, true)] (SavT v5 st) (by kernel_rfl) (by kernel_rfl) (fun _ _ _ d _ h => by cases d <;> exact h) hcv ?_
          repeat (refine line_read (a' := ?_) rfl (by kernel_rfl) (by kernel_rfl) hcv (fun y hy K hK => ?_) ?_; rotate_left; · unfold SavT at hy; go_wp2; exact hK)
          refine line_act (by rfl) (fun K hK => ?_)
          go_wp2_with (go_at_call 9; refine NX.mono ?_; rintro e w' ⟨rfl, rfl⟩)
          refine hK _ _ _ hcv (fun y hy => hy) ?_
          clear hK K
          refine line_act (by rfl) (fun K hK => ?_)
          go_wp2_with (go_at_call 8; refine PG.mono ?_; rintro e w9 ⟨rfl, hN9, hk9⟩)
          have hcv9 : SavT v5 st w9 := convert_is ((Keeps.trans (Keeps.trans HN6.out.2 (.ext (Ext.drew w6))) hk9).bts HB5.out.1 HB5.out.2) HX.out.2.2.2.2.2
          refine hK _ _ _ hcv9 (fun y hy => hy) ?_
          clear hK K
          repeat (refine line_read (a' := ?_) rfl (by kernel_rfl) (by kernel_rfl) hcv9 (fun y hy K hK => ?_) ?_; rotate_left; · unfold SavT at hy; go_wp2; exact hK)
          refine line_end ?_
          go_wp2
          go_ret
          exact goes_ret HP.out hN9 (((Keeps.ext HE5.out).trans HN6.out.2).trans ((Keeps.ext (Ext.drew w6)).trans hk9))

end Go.Proofs.YteionppcjgggiaaGreat

/-
  Layer 12: its fixed, AdlogKeeps and AdlogCuts, over the program's own Load and Save.
-/
namespace Go.Proofs.YteionppcjgggiaaGreat
set_option linter.unusedVariables false
set_option linter.unusedSimpArgs false
set_option maxRecDepth 100000
open Go.RowKit

theorem fix12_own : FixC := fix12_any adLoad_any adSave_any adLoad_nil
end Go.Proofs.YteionppcjgggiaaGreat
