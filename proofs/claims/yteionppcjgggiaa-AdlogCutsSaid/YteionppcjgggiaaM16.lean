/-
  Texts put together: KG KN.
-/
import Derived.Test.YteionppcjgggiaaM15
import Derived.Test.YteionppcjgggiaaM02
/-
  The law AdlogCuts, over what Load and Save answer.
-/
namespace Go.Proofs.Yteionppcjgggiaa
set_option linter.unusedVariables false
set_option linter.unusedSimpArgs false
set_option maxRecDepth 100000
open Go.RowKit

/-- The power is back, with a budget. -/
def backS (s : NS) (n : Int) : NS := { s with px := n, off := false }
theorem back_goes {w : World} {S : NShape} {V : Nat → Value} {zs : Nat → List Int} {s : NS} (n : Int) (h : NandAt w S V zs s) (hR : Roles S) :
    Calls Try.prog 12 #[.pointer (some ⟨S.pb, 0, none⟩), .int .i64 n] w (Goes S V zs (.tuple #[]) (backS s n) w) := by
  refine (back_is S.pb s.px s.off s.po n w h.pow).mono ?_
  rintro e w' ⟨rfl, hp, hg⟩
  exact ⟨rfl, h.power hR hg hp, .own hg (by rw [hR.tp]; decide)⟩
theorem back_cnt {s : NS} {c n : Int} (h : Cnt s c) (h0 : -9223372036854775808 ≤ n) (h1 : n ≤ 9223372036854775807) : Cnt (backS s n) c := ⟨h.po, h.N, h.M, h.er, h0, h1⟩

theorem Log12b.goes {w0 w w' : World} {S : NShape} {V : Nat → Value} {s s' : NS} {NB : Nat} {now x : Led} {Vn : Nat → Value} (h : Log12b w0 w S V s NB now Vn x) (hN : NandAt w' S V noZs s') (hk : Keeps S.T w w')
    (hT : Tells S.all S.p S.pg s'.L x) (hm : s'.mr = s.mr) (hs : Beside (· = []) s') : Log12b w0 w' S V s' NB now Vn x :=
  ⟨hN, hT, by rw [hm]; exact h.mr, hs, (hk.block NB h.nb.lt h.t0).trans h.nb, h.t0, h.lo, Keeps.grown h.ext hk h.lo⟩

set_option maxHeartbeats 12800000 in
theorem adlogCuts_any (LD : LoadC) (SV : SaveC) (FX : FixC) (pb : Int) (a : Option Addr) (len cap : Nat) (Ls : Nat → Led) (Vs : Nat → Nat → Value) (a2 : Option Addr) (len2 cap2 : Nat) (w : World) (h0 : 0 ≤ pb) (h1 : pb ≤ 255) (h : IsLeds w a len cap Ls Vs)
    (hm2 : len2 ≤ 9223372036854775807) (h2 : ∀ k, k < len2 → ∃ b off u, a2 = some ⟨b, off, none⟩ ∧ w.cell? ⟨b, off + k, none⟩ = some (.int .u8 u) ∧ 0 ≤ u ∧ u ≤ 255) :
    Calls Try.prog 4 #[.int .u8 pb, .slice a len cap, .slice a2 len2 cap2] w fun e w' => e = .returned (.bool true) ∧ Ext w w' := by
  have HI := Lib.hid h
  have HU := Lib.hid h2
  have hmax := h.1
  unfold maxLen at hmax
  have FW := fun w2 (hE : Ext w w2) {b : Bool} (hb : b = true ↔ FewP len Ls) => few12_is a len cap Ls Vs w2 ⟨h.1, fun i hi => by
    obtain ⟨⟨b, off, e1, e2, e3⟩, hC⟩ := h.2 i hi
    exact ⟨⟨b, off, e1, range_ext e2 hE, Nat.lt_of_lt_of_le e3 hE.size⟩, hC.is.ext hE, fun j hj h0 q hq => Nat.lt_of_lt_of_le (hC.low j hj h0 q hq) hE.size, hC.len, hC.wf, hC.ep⟩⟩ hb
  clear h h2
  by_cases hfew : FewP len Ls
  case neg =>
    have FW := fun w2 (hE : Ext w w2) => FW w2 hE (b := false) ⟨fun h => Bool.noConfusion h, fun h => absurd h hfew⟩
    go_enter Try.func4, Try.ntmps4
    go_wp2_with (first
      | (go_at_call 5; refine (FX _).mono ?_; rintro e w2 ⟨rfl, hE2⟩)
      | (go_at_call 6; refine (FW w2 hE2).mono ?_; rintro e w3 ⟨rfl, hE3⟩))
    go_ret
    exact ⟨rfl, ext_trans hE2 hE3⟩
  have FW := fun w2 (hE : Ext w w2) => FW w2 hE (b := true) ⟨fun _ => hfew, fun _ => rfl⟩
  by_cases hbig : (100 : Int) < (len2 : Int)
  case pos =>
    go_enter Try.func4, Try.ntmps4
    go_wp2_with (first
      | (go_at_call 5; refine (FX _).mono ?_; rintro e w2 ⟨rfl, hE2⟩)
      | (go_at_call 6; refine (FW w2 hE2).mono ?_; rintro e w3 ⟨rfl, hE3⟩))
    go_ret
    exact ⟨rfl, ext_trans hE2 hE3⟩
  obtain ⟨hl40, hall⟩ := hfew
  have HALL := Lib.hid hall
  clear hall
  obtain ⟨pg, hpg⟩ : ∃ pg : Nat, 2 + pb % 15 = (pg : Int) := ⟨(2 + pb % 15).toNat, by omega⟩
  have hpg2 : 2 ≤ pg ∧ pg ≤ 16 := by omega
  go_enter Try.func4, Try.ntmps4
  go_upto_region 6 with (first
    | (go_at_call 5; refine (FX _).mono ?_; rintro e w2 ⟨rfl, hE2⟩)
    | (go_at_call 6; refine (FW w2 hE2).mono ?_; rintro e w3 ⟨rfl, hE3⟩; have HE3 := Lib.hid (ext_trans hE2 hE3)))
  clear hpg h0 h1 FW hE2 hE3
  go_wp2_with (first
    | (go_at_call 7; refine (array12_any pg (-1) _ hpg2).mono ?_; rintro e w4 ⟨S, V, hR, ⟨q1, q2, q3, q4, q5, q6⟩, rfl, hN, hE4, hT⟩; have hBn := Blk.new w4 34 zeroC)
    | (refine led_build0 rfl rfl ?_)
    | (refine led_store (L := noLed) (V := fun _ => nilS) _ _ rfl rfl rfl hBn rfl (fun _ _ => ⟨_, _, _, rfl⟩) rfl ?_; intro w5 hb5 hg5 hs5))
  have hE5 : Ext w4 w5 := grown_trans (World.grownBy_alloc w4 (.cells zeroC 34) none) hg5 (fun p hp hlt => by injection hp with hp; omega)
  have S5 : Log12 w3 w5 S V (blankS [] (-1) false 0 (fun _ => 0) (fun _ => 0)) w4.heap.size noLed (fun _ => nilS) :=
    ⟨hN.ext hE5 hR, blank_tells _ _ _ _, ⟨rfl, rfl⟩, fun _ _ => ⟨rfl, pgOk_none (.inl rfl)⟩, hb5, noLed_is _, fun _ _ => by simp [noLed, noTen], hN.fresh (Nat.le_refl _), hT, ext_trans hE4 hE5⟩
  have HS5 := Lib.hid S5
  have HR := Lib.hid (And.intro hR (And.intro q5 (And.intro q6 q4)))
  have HNB := Lib.hid (show w3.heap.size ≤ w4.heap.size from hE4.size)
  clear S5 hb5 hg5 hs5 hE5 hN hE4 hT hBn hR q1 q2 q3 q4 q5 q6
  obtain ⟨NB, hNB⟩ : ∃ n, w4.heap.size = n := ⟨_, rfl⟩
  rw [hNB] at HS5 HNB ⊢
  clear hNB
  go_loopw [11, 40] (fun t i wr => ∃ (k at_ : Nat) (s : NS) (now : Led) (Vn : Nat → Value), k ≤ len2 ∧ at_ ≤ len ∧ t = .int .i64 at_ ∧ i = .int .i64 k ∧ Cnt s (5 * k) ∧ s.off = false ∧ Log12 w3 wr S V s NB now Vn) (fun _ i _ => len2 - (intOf i).toNat)
  case atStart => exact ⟨0, 0, _, _, _, by omega, by omega, rfl, rfl, (blank_calm []).cnt, rfl, HS5.out⟩
  case round =>
    obtain ⟨k, at_, s, now, Vn, hk, hat, rfl, rfl, hC, hoff, hL⟩ := hrel
    obtain ⟨wo, rfl⟩ : ∃ wo : World, wo = wr := ⟨_, rfl⟩
    by_cases hlt : k < len2
    · obtain ⟨b2, off2, u, rfl, hu, hu0, hu1⟩ := HU.out k hlt
      have hu2 := (ext_trans HE3.out hL.ext).cell hu (by simp)
      have HL := Lib.hid hL
      have HC := Lib.hid (And.intro hC hoff)
      clear hu hC hoff hL
      by_cases hend : len ≤ at_
      · have hendI : (len : Int) ≤ (at_ : Int) := by omega
        go_wp2
        go_ret
        exact ⟨rfl, ext_trans HE3.out HL.out.ext⟩
      · have hendI : ¬ (len : Int) ≤ (at_ : Int) := by omega
        have hltl : at_ < len := by omega
        obtain ⟨⟨b, off, rfl, hr, _⟩, hX⟩ := HI.out.2 at_ hltl
        have hlx := HALL.out at_ hltl
        obtain ⟨x, hx⟩ : ∃ L, Ls at_ = L := ⟨_, rfl⟩
        obtain ⟨VX, hVX⟩ : ∃ V, Vs at_ = V := ⟨_, rfl⟩
        rw [hx, hVX] at hr hX
        rw [hx] at hlx
        have hr1 := range_ext hr (ext_trans HE3.out HL.out.ext)
        have hsl := hX.is.slices
        have hBx := Blk.new wo 34 zeroC
        have HX := Lib.hid (And.intro hX (And.intro (hX.good hlx) hlx))
        clear hr hX hx hVX hlx
        go_upto_region 15 with (first
          | (refine leds_load rfl _ rfl rfl hr1 ?_)
          | (refine led_store (L := x) (V := VX) _ _ rfl rfl rfl hBx rfl hsl rfl ?_; intro w6 hb6 hg6 hs6; have HE6 := Lib.hid (grown_trans (World.grownBy_alloc wo (.cells zeroC 34) none) hg6 (fun p hp hlt => by injection hp with hp; omega)); clear hBx hg6 hs6))
        have HL6 := Lib.hid (HL.out.next HR.out.1 HE6.out)
        have hx0 : S.T wo.heap.size = 0 := HL.out.nd.fresh (Nat.le_refl _)
        obtain ⟨XB, hXB⟩ : ∃ n, wo.heap.size = n := ⟨_, rfl⟩
        rw [hXB] at hb6 hx0 ⊢
        have HX0 := Lib.hid hx0
        have e30 : (S.all : Int) = 30 := by rw [HR.out.2.1]; rfl
        have eP : S.p = (pg : Int) := HR.out.2.2.2
        have hall : 2 ≤ S.all := by rw [HR.out.2.1]; decide
        have hpos : 0 < S.pg := by rw [HR.out.2.2.1]; omega
        have R10 := fun {b : Bool} (hb : rightL x 30 pg = b) w7 (hE : Ext w3 w7) => right10_is x VX 30 pg w7 (HX.out.1.is.ext (ext_trans HE3.out hE)) HX.out.2.1 (by decide) (by decide) hb
        have hT := HL.out.tells
        obtain ⟨gx, hgx⟩ : ∃ g, x.gen = g := ⟨_, rfl⟩
        obtain ⟨gn, hgn⟩ : ∃ g, now.gen = g := ⟨_, rfl⟩
        have HGX := Lib.hid hgx
        have HGN := Lib.hid hgn
        clear hr1 hx0 hXB
        by_cases hcase : RightP x S.all S.p ∧ now.gen < x.gen
        · obtain ⟨ub, hub⟩ : ∃ z, u % 3 = z := ⟨_, rfl⟩
          have hCb : Cnt (backS s ub) (5 * k) := back_cnt HC.out.1 (by omega) (by omega)
          obtain ⟨st1, st2⟩ := save_tells (s := backS s ub) (zs := noZs) hT hall hpos HL.out.mr hcase.1 hcase.2 (by omega) (by omega)
          obtain ⟨st3, st4⟩ := save_small (s := backS s ub) (zs := noZs) (P := (· = [])) HL.out.sm rfl hCb hT hall hpos HL.out.mr hcase.1 hcase.2 (by omega) (by omega)
          have SAVE := fun w9 (hL : Log12 w3 w9 S V (backS s ub) NB now Vn) => SV S V noZs (backS s ub) x VX (5 * k) w9 hL.nd HR.out.1 hCb (by omega) (fun _ _ => by simp [noZs]) hL.sm.small (HX.out.1.is.ext (ext_trans HE3.out hL.ext)) HX.out.2.1
          have hrl : rightL x 30 pg = true := by rw [← e30, ← eP]; exact (rightL_iff (by omega) (by omega)).2 hcase.1
          replace R10 := R10 hrl
          obtain ⟨s2, hs2⟩ : ∃ z, (saveN S noZs x S.all S.p (backS s ub)).1 = z := ⟨_, rfl⟩
          rw [hs2] at st1 st2 st3 st4
          have hgt : ¬ gx ≤ gn := by have := hcase.2; omega
          have hgtb : decide (gx ≤ gn) = false := by simpa using hgt
          have HUB := Lib.hid hub
          have HCC := Lib.hid (show Cnt (backS s2 (-1)) (5 * ((k + 1 : Nat) : Int)) by rw [show (5 : Int) * ((k + 1 : Nat) : Int) = 5 * k + 5 by omega]; exact back_cnt st4 (by decide) (by decide))
          have HST := Lib.hid (And.intro st3 st2)
          clear hrl hcase e30 eP hall hpos hgx hgn hCb st2 st3 st4 hT hub
          rcases st1 with ⟨sv1, st1⟩ | ⟨sv1, st1⟩
          · rw [sv1, hs2] at SAVE
            have HT2 := Lib.hid st1
            clear sv1 st1 hs2
            go_wp2_with (first
            | (refine led_load _ rfl rfl hb6 rfl ?_)
            | (go_at_call 9; refine (R10 w6 HL6.out.ext).mono ?_; rintro e w8 ⟨rfl, hE8⟩; have HL8 := Lib.hid (HL6.out.next HR.out.1 hE8); have hb8 := hb6.ext hE8; have cx := (hb8.cell 0).trans (led_gen _ _); rw [HGX.out] at cx; have cn := (HL8.out.nb.cell 0).trans (led_gen _ _); rw [HGN.out] at cn; clear hE8 hb6 R10)
            | (go_at_call 12; refine (back_goes (-1) HB10.out.nd HR.out.1).mono ?_; rintro e w11 ⟨rfl, hN11, hk11⟩; have HB11 := Lib.hid (HB10.out.goes hN11 hk11 HB10.out.tells rfl HB10.out.sm); have hb11 : Blk w11 XB 34 (ledC x VX) := (hk11.block XB hb10.lt HX0.out).trans hb10; clear hN11 hk11 hb10)
            | (go_at_call 12; rw [HUB.out]; refine (back_goes ub HL8.out.nd HR.out.1).mono ?_; rintro e w9 ⟨rfl, hN9, hk9⟩; have HL9 := Lib.hid (HL8.out.goes hN9 hk9 HL8.out.tells rfl HL8.out.sm); have hb9 : Blk w9 XB 34 (ledC x VX) := (hk9.block XB hb8.lt HX0.out).trans hb8; clear hN9 hk9 hb8 cx cn)
            | (refine led_load _ rfl rfl hb9 rfl ?_)
            | (go_at_call 8; refine (SAVE w9 HL9.out).mono ?_; rintro e w10 ⟨rfl, hN10, hk10⟩; have HB10 := Lib.hid (HL9.out.new hN10 hk10 HT2.out HST.out.2 HST.out.1); have hb10 : Blk w10 XB 34 (ledC x VX) := (hk10.block XB hb9.lt HX0.out).trans hb9; clear hN10 hk10 hb9 SAVE)
            | (go_at_call 10; refine ((LD S V noZs (backS s2 (-1)) _ HB11.out.nd HR.out.1 rfl HB11.out.sm.small).mono (fun e w' h => ChangeP.eqL h HB11.out.tells.newest.1)).mono ?_; rintro e w12 ⟨Vg, rfl, hI, _, hE12⟩; have HB12 := Lib.hid (HB11.out.next HR.out.1 hE12); have hBg := Blk.new w12 34 zeroC; have hb12 := hb11.ext hE12; clear hE12 hb11)
            | (refine led_store (L := x) (V := Vg) _ _ rfl rfl rfl hBg rfl hI.slices rfl ?_; intro w13 hb13 hg13 hs13; have hE13 := grown_trans (World.grownBy_alloc w12 (.cells zeroC 34) none) hg13 (fun p hp hlt => by injection hp with hp; omega); have HB13 := Lib.hid (HB12.out.next HR.out.1 hE13); have hx13 := hb12.ext hE13; have HI13 := Lib.hid (hI.ext hE13); clear hBg hg13 hs13 hE13 hI hb12)
            | (refine led_load _ rfl rfl hb13 rfl ?_)
            | (refine led_load _ rfl rfl hx13 rfl ?_)
            | (go_at_call 11; refine (same10_eq x Vg VX w13 HI13.out (HX.out.1.is.ext (ext_trans HE3.out HB13.out.ext)) (fun j hj => by have := HX.out.2.2 j hj; omega)).mono ?_; rintro e w14 ⟨rfl, hE14⟩; have HB14 := Lib.hid (HB13.out.next HR.out.1 hE14); have hx14 := hx13.ext hE14; have hnb14 := HB14.out.nb; clear hE14 hx13 hb13)
            | (refine led_load _ rfl rfl hx14 rfl ?_)
            | (refine led_store (L := x) (V := VX) _ _ rfl rfl rfl hnb14 (ledC_size _ _) hsl rfl ?_; intro w15 hb15 hg15 hs15; have HL15 := Lib.hid (HB14.out.put HR.out.1 hb15 hg15 HNB.out (HX.out.1.is.ext HE3.out) HX.out.2.2); clear hb15 hg15 hs15 hnb14 hx14)
            | (refine wpList_pass rfl ?_ ?_; (simp only [Act.put, List.setIfInBounds_toArray, List.set_cons_succ, List.set_cons_zero]; rfl)))
            go_roundw
            case rel => exact ⟨k + 1, at_ + 1, backS s2 (-1), x, VX, by omega, by omega, by go_num, by go_num, HCC.out, rfl, HL15.out⟩
            case measure => simp [intOf]; omega
          · rw [sv1, hs2] at SAVE
            have HT2 := Lib.hid st1
            clear sv1 st1 hs2
            go_wp2_with (first
            | (refine led_load _ rfl rfl hb6 rfl ?_)
            | (go_at_call 9; refine (R10 w6 HL6.out.ext).mono ?_; rintro e w8 ⟨rfl, hE8⟩; have HL8 := Lib.hid (HL6.out.next HR.out.1 hE8); have hb8 := hb6.ext hE8; have cx := (hb8.cell 0).trans (led_gen _ _); rw [HGX.out] at cx; have cn := (HL8.out.nb.cell 0).trans (led_gen _ _); rw [HGN.out] at cn; clear hE8 hb6 R10)
            | (go_at_call 12; refine (back_goes (-1) HL10.out.nd HR.out.1).mono ?_; rintro e w11 ⟨rfl, hN11, hk11⟩; have HL11 := Lib.hid (HL10.out.goes hN11 hk11 HL10.out.tells rfl HL10.out.sm); clear hN11 hk11)
            | (go_at_call 12; rw [HUB.out]; refine (back_goes ub HL8.out.nd HR.out.1).mono ?_; rintro e w9 ⟨rfl, hN9, hk9⟩; have HL9 := Lib.hid (HL8.out.goes hN9 hk9 HL8.out.tells rfl HL8.out.sm); have hb9 : Blk w9 XB 34 (ledC x VX) := (hk9.block XB hb8.lt HX0.out).trans hb8; clear hN9 hk9 hb8 cx cn)
            | (refine led_load _ rfl rfl hb9 rfl ?_)
            | (go_at_call 8; refine (SAVE w9 HL9.out).mono ?_; rintro e w10 ⟨rfl, hN10, hk10⟩; have HL10 := Lib.hid (HL9.out.goes hN10 hk10 HT2.out HST.out.2 HST.out.1); clear hN10 hk10 hb9 SAVE)
            | (go_at_call 10; refine ((LD S V noZs (backS s2 (-1)) _ HL11.out.nd HR.out.1 rfl HL11.out.sm.small).mono (fun e w' h => ChangeP.eqL h HL11.out.tells.newest.1)).mono ?_; rintro e w12 ⟨Vg, rfl, hI, _, hE12⟩; have HL12 := Lib.hid (HL11.out.next HR.out.1 hE12); have hBg := Blk.new w12 34 zeroC; clear hE12)
            | (refine led_store (L := now) (V := Vg) _ _ rfl rfl rfl hBg rfl hI.slices rfl ?_; intro w13 hb13 hg13 hs13; have hE13 := grown_trans (World.grownBy_alloc w12 (.cells zeroC 34) none) hg13 (fun p hp hlt => by injection hp with hp; omega); have HL13 := Lib.hid (HL12.out.next HR.out.1 hE13); have hnb13 := HL13.out.nb; have HI13 := Lib.hid (hI.ext hE13); clear hBg hg13 hs13 hE13 hI)
            | (refine led_load _ rfl rfl hb13 rfl ?_)
            | (refine led_load _ rfl rfl hnb13 rfl ?_)
            | (go_at_call 11; refine (same10_eq now Vg Vn w13 HI13.out (HL13.out.is.ext HL13.out.ext) (fun j hj => by have := HL13.out.len j hj; omega)).mono ?_; rintro e w14 ⟨rfl, hE14⟩; have HL14 := Lib.hid (HL13.out.next HR.out.1 hE14); clear hE14)
            | (refine wpList_pass rfl ?_ ?_; (simp only [Act.put, List.setIfInBounds_toArray, List.set_cons_succ, List.set_cons_zero]; rfl)))
            go_roundw
            case rel => exact ⟨k + 1, at_, backS s2 (-1), now, Vn, by omega, hat, by go_num, by go_num, HCC.out, rfl, HL14.out⟩
            case measure => simp [intOf]; omega
        · have hor : ¬ RightP x S.all S.p ∨ x.gen ≤ now.gen := by
            by_cases hr : RightP x S.all S.p
            · exact .inr (by have : ¬ now.gen < x.gen := fun h => hcase ⟨hr, h⟩; omega)
            · exact .inl hr
          cases hrl : rightL x 30 pg
          · replace R10 := R10 hrl
            clear hT hor hrl hcase e30 eP hall hpos hgx hgn
            go_wp2_with (first
            | (refine led_load _ rfl rfl hb6 rfl ?_)
            | (go_at_call 9; refine (R10 w6 HL6.out.ext).mono ?_; rintro e w8 ⟨rfl, hE8⟩; have HL8 := Lib.hid (HL6.out.next HR.out.1 hE8); clear hE8 hb6 R10)
            | (refine wpList_pass rfl ?_ ?_; (simp only [Act.put, List.setIfInBounds_toArray, List.set_cons_succ, List.set_cons_zero]; rfl)))
            go_roundw
            case rel => exact ⟨k + 1, at_ + 1, s, now, Vn, by omega, by omega, by go_num, by go_num, cnt_mono HC.out.1 (by omega), HC.out.2, HL8.out⟩
            case measure => simp [intOf]; omega
          · replace R10 := R10 hrl
            have hgt : gx ≤ gn := by
              have hR2 : RightP x S.all S.p := by rw [e30, eP]; exact (rightL_iff (by omega) (by omega)).1 hrl
              rcases hor with h | h
              · exact absurd hR2 h
              · omega
            have hgtb : decide (gx ≤ gn) = true := by simpa using hgt
            clear hT hor hrl hcase e30 eP hall hpos hgx hgn
            go_wp2_with (first
            | (refine led_load _ rfl rfl hb6 rfl ?_)
            | (go_at_call 9; refine (R10 w6 HL6.out.ext).mono ?_; rintro e w8 ⟨rfl, hE8⟩; have HL8 := Lib.hid (HL6.out.next HR.out.1 hE8); have hb8 := hb6.ext hE8; have cx := (hb8.cell 0).trans (led_gen _ _); rw [HGX.out] at cx; have cn := (HL8.out.nb.cell 0).trans (led_gen _ _); rw [HGN.out] at cn; clear hE8 hb6 R10))
            go_roundw
            case rel => exact ⟨k + 1, at_ + 1, s, now, Vn, by omega, by omega, by go_num, by go_num, cnt_mono HC.out.1 (by omega), HC.out.2, HL8.out⟩
            case measure => simp [intOf]; omega
    · have HL := Lib.hid hL
      obtain rfl : k = len2 := by omega
      clear hL
      go_wp2
      go_ret
      exact ⟨rfl, ext_trans HE3.out HL.out.ext⟩

end Go.Proofs.Yteionppcjgggiaa

/-
  Layer 12: its fixed, AdlogKeeps and AdlogCuts, over the program's own Load and Save.
-/
namespace Go.Proofs.Yteionppcjgggiaa
set_option linter.unusedVariables false
set_option linter.unusedSimpArgs false
set_option maxRecDepth 100000
open Go.RowKit

theorem fix12_own : FixC := fix12_any adLoad_any adSave_any adLoad_nil
theorem adlogKeeps_own (pb : Int) (a : Option Addr) (len cap : Nat) (Ls : Nat → Led) (Vs : Nat → Nat → Value) (w : World) (h0 : 0 ≤ pb) (h1 : pb ≤ 255) (h : IsLeds w a len cap Ls Vs) :
    Calls Try.prog 3 #[.int .u8 pb, .slice a len cap] w fun e w' => e = .returned (.bool true) ∧ Ext w w' :=
  adlogKeeps_any adLoad_any adSave_any fix12_own pb a len cap Ls Vs w h0 h1 h
theorem adlogCuts_own (pb : Int) (a : Option Addr) (len cap : Nat) (Ls : Nat → Led) (Vs : Nat → Nat → Value) (a2 : Option Addr) (len2 cap2 : Nat) (z : List Int) (w : World) (h0 : 0 ≤ pb) (h1 : pb ≤ 255) (h : IsLeds w a len cap Ls Vs)
    (h2 : IsRow .u8 w a2 len2 cap2 z) (hs : ∀ x, a2 = some x → x.spot = none ∧ x.block < w.heap.size) :
    Calls Try.prog 4 #[.int .u8 pb, .slice a len cap, .slice a2 len2 cap2] w fun e w' => e = .returned (.bool true) ∧ Ext w w' := by
  refine adlogCuts_any adLoad_any adSave_any fix12_own pb a len cap Ls Vs a2 len2 cap2 w h0 h1 h ?_ (fun k hk => ?_)
  · rcases h2 with ⟨rfl, rfl, rfl, rfl⟩ | ⟨x, rfl, hl, hm, hz, hc, hw⟩
    · decide
    · unfold maxLen at hm; omega
  · rcases h2 with ⟨rfl, rfl, rfl, rfl⟩ | ⟨x, rfl, hl, hm, hz, hc, hw⟩
    · omega
    · obtain ⟨b, off, sp⟩ := x
      have hsp : sp = none := (hs _ rfl).1
      subst hsp
      have hk2 : k < z.length := by omega
      have h1 := hc k (by omega)
      rw [addr_add] at h1
      have h3 := hw z[k] (List.getElem_mem hk2)
      refine ⟨b, off, z[k], rfl, by rw [h1]; simp [List.getElem?_eq_getElem hk2, List.getD_eq_getElem?_getD], ?_⟩
      simp [Lit.wf, IntKind.min, IntKind.max, IntKind.bits, IntKind.signed] at h3
      omega

end Go.Proofs.Yteionppcjgggiaa
