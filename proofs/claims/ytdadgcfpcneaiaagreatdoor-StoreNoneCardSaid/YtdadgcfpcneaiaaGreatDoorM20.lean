/-
  Texts put together: JJ JE JK.
-/
import Derived.Test.YtdadgcfpcneaiaaGreatDoorM19
import Derived.Test.YtdadgcfpcneaiaaGreatDoorM17
import Derived.Test.YtdadgcfpcneaiaaGreatDoorM18
/-
  Layer 18 (store): collect, leaveFront, makeRoom.
-/
namespace Go.Proofs.YtdadgcfpcneaiaaGreatDoor
set_option linter.unusedVariables false
set_option linter.unusedSimpArgs false
set_option linter.unusedVariables false
set_option linter.unusedSimpArgs false
set_option maxRecDepth 100000
open Go.RowKit

section
variable {w w' : World} {p : SP} {c : SC} {m : SM}

theorem collect18 (h : StAt w p c m) (ok : StOk p c) {k : Int} (wf : Wf c m k) (hs : -9223372036854775000 ≤ c.sp ∧ c.sp ≤ 9223372036854775000) {b : Nat} (hb : b < c.bl.length) (hk : k < 1152921504606800000) {e : Int} {m' : SM} (hm : collR c m b 100 = some (e, m')) :
    Calls Tryz.prog 46 #[.pointer (some ⟨p.sb, 0, none⟩), .int .i64 (b : Int)] w (Gs p c (.int .i64 e) m' w) := by
  unfold collR at hm
  have hpg := ok.R.bds.2.2.2
  cases hmv : moveR c m b 0 100 with
  | none => rw [hmv] at hm; simp at hm
  | some r =>
    obtain ⟨e1, m1⟩ := r
    rw [hmv] at hm
    simp only at hm
    have MV := move18 h ok wf hs b 0 100 (by omega) hmv
    have hw1 := wf_moveR hpg wf hmv
    have ER := fun wx (hx : StAt wx p c m1) => erase18 hx ok hw1.cn ((cnt_ers hw1.cn c.who (c.ph b)).mono18 (by omega)) (by omega) hs hb
    clear h wf hmv hw1
    by_cases h0 : e1 = 0
    · rw [if_neg (by simp [h0])] at hm
      simp only [Option.some.injEq, Prod.mk.injEq] at hm
      obtain ⟨rfl, rfl⟩ := hm
      have h0' : (e1 != 0) = false := by simp [h0]
      clear h0
      generalize eraE c m1 b = e2 at *
      generalize eraM c m1 b = m2 at *
      go_enter Tryz.func46, Tryz.ntmps46
      go_wp2_with (first
        | (go_at_call 81; refine MV.mono ?_; rintro e w1 ⟨rfl, hA1, hk1⟩; have E2 := ER _ hA1; have HK1 := Lib.hid hk1; clear hA1 hk1)
        | (go_at_call 82; refine E2.mono ?_; rintro e w2 ⟨rfl, hA2, hk2⟩))
      go_ret
      exact ⟨rfl, hA2, HK1.out.trans hk2⟩
    · rw [if_pos h0] at hm
      simp only [Option.some.injEq, Prod.mk.injEq] at hm
      obtain ⟨rfl, rfl⟩ := hm
      have h0' : (e1 != 0) = true := by simpa using h0
      clear h0 ER
      go_enter Tryz.func46, Tryz.ntmps46
      go_wp2_with (go_at_call 81; refine MV.mono ?_; rintro e w1 ⟨rfl, hA1, hk1⟩)
      go_ret
      exact ⟨rfl, hA1, hk1⟩

set_option maxHeartbeats 1600000 in
theorem leaveFront18 (h : StAt w p c m) (ok : StOk p c) {k : Int} (wf : Wf c m k) (hs : -9223372036854775000 ≤ c.sp ∧ c.sp ≤ 9223372036854775000) {b : Nat} (hb : b < c.bl.length) (hf : m.fr = b) (hk : k < 1152921504606800000) {e : Int} {m' : SM} (hm : leavR c m 100 = some (e, m')) :
    Calls Tryz.prog 106 #[.pointer (some ⟨p.sb, 0, none⟩)] w (Gs p c (.int .i64 e) m' w) := by
  have AF := afford18 h ok hs 0
  have hpg := ok.R.bds.2.2.2
  unfold affE affM at AF
  unfold leavR at hm
  by_cases hsp : sprN c m > 0
  · rw [if_pos hsp] at hm
    rw [if_pos hsp, if_pos hsp] at AF
    rw [hf] at hm
    cases hmv : moveR c m b 1 100 with
    | none => rw [hmv] at hm; simp at hm
    | some r =>
      obtain ⟨e1, m1⟩ := r
      rw [hmv] at hm
      simp only at hm
      have C10 := Lib.hid (fun wx (hx : StAt wx p c m) => (show wx.cell? ⟨p.sb, 10, none⟩ = some (.int .i64 (b : Int)) from by rw [← hf]; exact hx.cells.2.2.2.2.2.2.2.2.2.1))
      have MV := fun wx (hx : StAt wx p c m) => move18 hx ok wf hs b 1 100 (by omega) hmv
      have hw1 := wf_moveR hpg wf hmv
      obtain ⟨x, hx, _, hxa, hx2, hx3⟩ := ok.phys hb
      have MK := fun (wx : World) (hx : StAt wx p c m1) => mark18 hx ok hw1.cn (by omega) x
      have SS := fun (wx : World) (hx : StAt wx p c m1) => hx.see ok hb hx2
      rw [hx] at hm
      obtain ⟨n, hn⟩ : ∃ z, c.bl.length = z := ⟨_, rfl⟩
      rw [hn] at SS hb
      clear h wf hmv hw1 hf hx hx2 hx3 hsp hn
      by_cases h0 : e1 = 0
      · rw [if_neg (by simp [h0])] at hm
        simp only [Option.some.injEq, Prod.mk.injEq] at hm
        obtain ⟨rfl, rfl⟩ := hm
        have h0' : (e1 != 0) = false := by simp [h0]
        clear h0
        go_enter Tryz.func106, Tryz.ntmps106
        go_upto_region 8 with (first
          | (go_at_call 126; refine AF.mono ?_; rintro e w1 ⟨rfl, hA1, hk1⟩; have M2 := MV _ hA1; have c10 := C10.out _ hA1; have HK1 := Lib.hid hk1; clear hA1 hk1)
          | (go_at_call 81; refine M2.mono ?_; rintro e w2 ⟨rfl, hA2, hk2⟩))
        obtain ⟨g, off, cap, hC, hSE, hSK⟩ := SS _ hA2
        have HC := Lib.hid hC
        have HA2 := Lib.hid (And.intro hA2 (And.intro (HK1.out.trans hk2) (And.intro hSE hSK)))
        clear hC hA2 hk2 hSE hSK c10
        have hA3 := HA2.out.1.ext ok (Ext.drew w2)
        have hS := HA2.out.2.2.1 _ (Ext.drew w2)
        refine region_line [(0, true), (1, true), (2, true), (3, true), (4, true), (5, true), (6, true), (7, true), (8, true), (9, true), (10, true), (11, true), (12, false), (13, true)] (SeeB w2 [p.sb, g]) (by kernel_rfl) (by kernel_rfl) (fun _ _ _ d _ h => by cases d <;> exact h) hS ?_
        repeat (refine line_read (a' := ?_) rfl (by kernel_rfl) (by kernel_rfl) hS (fun y hy K hK => ?_) ?_; rotate_left; · obtain ⟨c0, c1, c6, ci⟩ := HC.out y hy; go_wp2; exact hK)
        refine line_act (by rfl) (fun K hK => ?_)
        go_wp2_with (go_at_call 127; refine (MK _ hA3).mono ?_; rintro e w3 ⟨⟨rfl, hN, hK3⟩, hK4⟩)
        have hS3 : SeeB w2 [p.sb, g] w3 := HA2.out.2.2.2 w3 ⟨hK4.os, hK4.tape, hK4.output, hK4.size, hK4.block⟩
        refine hK _ _ (SeeB w2 [p.sb, g]) hS3 (fun _ h => h) ?_
        clear hK K
        repeat (refine line_read (a' := ?_) rfl (by kernel_rfl) (by kernel_rfl) hS3 (fun y hy K hK => ?_) ?_; rotate_left; · go_wp2; exact hK)
        refine line_end ?_
        go_wp2
        go_ret
        exact ⟨rfl, hN, (HA2.out.2.1.trans (Keeps.ext (Ext.drew w2))).trans hK3⟩
      · rw [if_pos h0] at hm
        simp only [Option.some.injEq, Prod.mk.injEq] at hm
        obtain ⟨rfl, rfl⟩ := hm
        have h0' : (e1 != 0) = true := by simpa using h0
        clear h0 MK SS
        go_enter Tryz.func106, Tryz.ntmps106
        go_wp2_with (first
          | (go_at_call 126; refine AF.mono ?_; rintro e w1 ⟨rfl, hA1, hk1⟩; have M2 := MV _ hA1; have c10 := C10.out _ hA1; have HK1 := Lib.hid hk1; clear hA1 hk1)
          | (go_at_call 81; refine M2.mono ?_; rintro e w2 ⟨rfl, hA2, hk2⟩))
        go_ret
        exact ⟨rfl, hA2, HK1.out.trans hk2⟩
  · rw [if_neg hsp] at hm
    rw [if_neg hsp, if_neg hsp] at AF
    simp only [Option.some.injEq, Prod.mk.injEq] at hm
    obtain ⟨rfl, rfl⟩ := hm
    obtain ⟨er, her, hen⟩ : ∃ er : Int, (13 : Int) = er ∧ (er != 0) = true := ⟨13, rfl, rfl⟩
    rw [her] at AF ⊢
    clear her h wf hf hsp
    go_enter Tryz.func106, Tryz.ntmps106
    go_wp2_with (go_at_call 126; refine AF.mono ?_; rintro e w1 ⟨rfl, hA1, hk1⟩; have HA1 := Lib.hid (And.intro hA1 hk1); clear hA1 hk1)
    go_ret
    exact ⟨rfl, HA1.out⟩

theorem greedy18 (wx : World) (v : Value) (ws : List Int) (hi : Ints wx v ws) (hl : ws.length ≤ 64) : Calls Tryz.prog 123 #[v] wx fun e w' => e = .returned (.int .i64 (grdN ws)) ∧ wx.grownBy w' none := by
  obtain ⟨r, hr, hc⟩ := vicGreedy_any v ws wx hi (by omega)
  rw [(grdN_is ws).eq hr]
  exact hc

set_option maxHeartbeats 3200000 in
theorem makeRoom18 (h : StAt w p c m) (ok : StOk p c) {k : Int} (wf : Wf c m k) (hs : -9223372036854775000 ≤ c.sp ∧ c.sp ≤ 9223372036854775000) (hk : k < 1152921504606800000) {e : Int} {m' : SM} (hm : roomR c m 100 = some (e, m')) :
    Calls Tryz.prog 104 #[.pointer (some ⟨p.sb, 0, none⟩)] w (Gs p c (.int .i64 e) m' w) := by
  have H0 := Lib.hid h
  have SA := Lib.hid (fun (wx : World) (hE : w.grownBy wx none) => h.ext ok hE)
  have HS := has18 h m.fr
  have PG := fun (wx : World) (hE : w.grownBy wx none) => pages18 (h.ext ok hE) ok
  have c10 := h.cells.2.2.2.2.2.2.2.2.2.1
  have WF := Lib.hid wf
  obtain ⟨g, hg⟩ : ∃ z, (hasS c m.fr && decide (nextB c m m.fr.toNat < c.S.pg)) = z := ⟨_, rfl⟩
  have HG := Lib.hid hg
  go_enter Tryz.func104, Tryz.ntmps104
  go_upto_region 1 with fail
  go_cut [21] (fun s21 wx => s21 = .bool g ∧ w.grownBy wx none)
  case first =>
    clear hm
    cases hh : hasS c m.fr
    · rw [hh] at HS hg
      rw [Bool.false_and] at hg
      subst hg
      generalize m.fr = fr at *
      go_wp2_with (go_at_call 44; refine HS.mono ?_; rintro e w1 ⟨rfl, rfl⟩)
      go_meet
      exact ⟨rfl, Ext.refl w⟩
    · have hin : 0 ≤ m.fr ∧ m.fr < c.bl.length := by unfold hasS at hh; simpa using hh
      obtain ⟨b, hb⟩ : ∃ b : Nat, m.fr = b := ⟨m.fr.toNat, by omega⟩
      have NX := next18 h ok (b := b) (by omega)
      rw [hh] at HS hg
      rw [Bool.true_and, hb, Int.toNat_natCast] at hg
      rw [hb] at HS c10
      generalize nextB c m b = nx at *
      generalize c.S.pg = pg at *
      clear h hh hin hb wf
      by_cases hlt : nx < pg
      · rw [decide_eq_true hlt] at hg
        subst hg
        have hlt' : (nx : Int) < pg := by omega
        go_wp2_with (first
          | (go_at_call 44; refine HS.mono ?_; rintro e w1 ⟨rfl, rfl⟩)
          | (go_at_call 99; refine NX.mono ?_; rintro e w2 ⟨rfl, hg2⟩; have P2 := PG _ hg2; have HG2 := Lib.hid hg2; clear hg2)
          | (go_at_call 61; refine P2.mono ?_; rintro e w3 ⟨rfl, hg3⟩))
        go_meet
        exact ⟨rfl, ext_trans HG2.out hg3⟩
      · rw [decide_eq_false hlt] at hg
        subst hg
        have hlt' : ¬ (nx : Int) < pg := by omega
        go_wp2_with (first
          | (go_at_call 44; refine HS.mono ?_; rintro e w1 ⟨rfl, rfl⟩)
          | (go_at_call 99; refine NX.mono ?_; rintro e w2 ⟨rfl, hg2⟩; have P2 := PG _ hg2; have HG2 := Lib.hid hg2; clear hg2)
          | (go_at_call 61; refine P2.mono ?_; rintro e w3 ⟨rfl, hg3⟩))
        go_meet
        exact ⟨rfl, ext_trans HG2.out hg3⟩
  case rest =>
    obtain ⟨rfl, hE1⟩ := hcut
    have HE1 := Lib.hid hE1
    have h1 := SA.out _ hE1
    unfold roomR at hm
    rw [hg] at hm
    clear h c10 HS PG hg hE1
    cases g
    · simp only [Bool.false_eq_true, if_false] at hm
      have FR := free18 h1 ok
      have SP := fun wx (hE : wc.grownBy wx none) => spares18 (h1.ext ok hE) ok hs
      have WO := fun wx (hE : wc.grownBy wx none) => worths18 (h1.ext ok hE) ok
      have hfl := freeK_len c m c.bl.length
      have hbl := ok.bl
      have hfe : freeL c m = freeK c m c.bl.length := rfl
      rw [← hfe] at hfl
      have hwl : (worthL c m).length = c.bl.length := worthK_len c m _
      have hsn : (0 : Int) ≤ sprN c m := by unfold sprN; split <;> omega
      have SA1 := Lib.hid (fun (wx : World) (hE : wc.grownBy wx none) => h1.ext ok hE)
      have C10 := Lib.hid (fun (wx : World) (hE : wc.grownBy wx none) => (show wx.cell? ⟨p.sb, 10, none⟩ = some (.int .i64 m.fr) ∧ wx.frozen? ⟨p.sb, 10, none⟩ = false from ⟨(h1.ext ok hE).cells.2.2.2.2.2.2.2.2.2.1, (h1.ext ok hE).bk.free 10⟩))
      have GR := grdN_is (worthL c m)
      have CL := fun (b : Nat) (hb : b < c.bl.length) (hc : collR c m b 100 = some (e, m')) wx (hx : StAt wx p c m) => collect18 hx ok WF.out hs hb hk hc
      have hsu : sprN c m ≤ 9223372036854775000 := by unfold sprN; split <;> omega
      generalize hfl' : freeL c m = F at *
      generalize hwl' : worthL c m = W at *
      have GW := Lib.hid (fun wx (v : Value) (hi : Ints wx v W) => greedy18 wx v W hi (by omega))
      generalize grdN W = gr at *
      generalize sprN c m = sn at *
      obtain ⟨fl, hfll⟩ : ∃ z, F.length = z := ⟨_, rfl⟩
      obtain ⟨wl, hwll⟩ : ∃ z, W.length = z := ⟨_, rfl⟩
      unfold RowI at FR WO
      rw [hfll] at FR hm hfl
      rw [hwll] at WO hwl
      have HWL := Lib.hid hwll
      by_cases hsp : (fl : Int) - 1 > sn
      · rw [if_pos hsp] at hm
        simp only [Option.some.injEq, Prod.mk.injEq] at hm
        obtain ⟨rfl, rfl⟩ := hm
        obtain ⟨x, F', hF⟩ : ∃ x F', F = x :: F' := by
          cases F with
          | nil => simp at hfll; omega
          | cons x F' => exact ⟨x, F', rfl⟩
        have hh : F.headD 0 = x := by rw [hF]; rfl
        have HL := Lib.hid (show (List.map (Value.int .i64) F)[0]? = some (.int .i64 x) by rw [hF]; rfl)
        have hp : 0 < fl := by omega
        have HN := Lib.hid (And.intro h1 (And.intro hF hh))
        clear WO GW CL GR hfll hwll hfl' hwl' hF hh hwl hfe h1
        go_upto_region 5 with (first
          | (go_at_call 23; refine FR.mono ?_; rintro e w1 ⟨⟨v, rfl, hown⟩, hg1⟩; have S2 := SP _ hg1; have HO := Lib.hid (And.intro hown hg1); obtain ⟨gg, cp, rfl⟩ := owns_some18 hown hp; clear hown hg1)
          | (go_at_call 122; refine S2.mono ?_; rintro e w2 ⟨rfl, hg2⟩))
        have hown2 := HO.out.1.kept hg2 (Classical.em _)
        have cx : w2.cell? ⟨gg, 0, none⟩ = some (.int .i64 x) := (show w2.cell? ⟨gg, 0 + 0, none⟩ = _ from by have h5 := hown2.cells (g := gg) rfl 0 _ HL.out; rwa [addr_add] at h5)
        have hE2 := ext_trans HO.out.2 hg2
        obtain ⟨c10, f10⟩ := C10.out _ hE2
        have HE2 := Lib.hid hE2
        clear hown2 hg2 S2 hE2
        go_wp2
        go_ret
        rw [HN.out.2.2]
        exact ⟨rfl, (SA1.out _ HE2.out).setFr ok x, (Keeps.ext (ext_trans HE1.out HE2.out)).trans (Keeps.own18 (gb_set (gb_refl w2 _) _ _) (.inl rfl))⟩
      · rw [if_neg hsp] at hm
        by_cases hgr : gr = -1
        · rw [if_pos hgr] at hm
          simp only [Option.some.injEq, Prod.mk.injEq] at hm
          obtain ⟨rfl, rfl⟩ := hm
          have hgr' : (gr == -1) = true := by simpa using hgr
          clear CL GR hfll hwll hfl' hwl' hgr hfe hwl
          go_wp2_with (first
            | (go_at_call 23; refine FR.mono ?_; rintro e w1 ⟨⟨v, rfl, hown⟩, hg1⟩; have S2 := SP _ hg1; have HO := Lib.hid hg1; obtain ⟨ao1, cp1, rfl⟩ := owns_slice17 hown; clear hown hg1)
            | (go_at_call 122; refine S2.mono ?_; rintro e w2 ⟨rfl, hg2⟩; have hE2 := ext_trans HO.out hg2; have W2 := WO _ hE2; have HE2 := Lib.hid hE2; clear hE2 hg2)
            | (go_at_call 124; refine W2.mono ?_; rintro e w3 ⟨⟨v3, rfl, hown3⟩, hg3⟩; have G3 := GW.out _ v3 (owns_ints HWL.out.symm hown3); have HE3 := Lib.hid (ext_trans HE2.out hg3); obtain ⟨ao3, cp3, rfl⟩ := owns_slice17 hown3; clear hown3 hg3)
            | (go_at_call 123; refine G3.mono ?_; rintro e w4 ⟨rfl, hg4⟩; have HE4 := Lib.hid (ext_trans HE3.out hg4); clear hg4))
          go_ret
          exact ⟨rfl, SA1.out _ HE4.out, Keeps.ext (ext_trans HE1.out HE4.out)⟩
        · rw [if_neg hgr] at hm
          have hgr' : (gr == -1) = false := by simpa using hgr
          obtain ⟨b, rfl, hbl2⟩ : ∃ b : Nat, gr = b ∧ b < c.bl.length := by
            rcases GR with ⟨h5, _⟩ | ⟨i, h5, h6, _⟩
            · exact absurd h5 hgr
            · exact ⟨i, h5, by omega⟩
          have C2 := CL b hbl2 hm
          clear CL GR hfll hwll hfl' hwl' hgr hfe hwl hm hbl2
          go_wp2_with (first
            | (go_at_call 23; refine FR.mono ?_; rintro e w1 ⟨⟨v, rfl, hown⟩, hg1⟩; have S2 := SP _ hg1; have HO := Lib.hid hg1; obtain ⟨ao1, cp1, rfl⟩ := owns_slice17 hown; clear hown hg1)
            | (go_at_call 122; refine S2.mono ?_; rintro e w2 ⟨rfl, hg2⟩; have hE2 := ext_trans HO.out hg2; have W2 := WO _ hE2; have HE2 := Lib.hid hE2; clear hE2 hg2)
            | (go_at_call 124; refine W2.mono ?_; rintro e w3 ⟨⟨v3, rfl, hown3⟩, hg3⟩; have G3 := GW.out _ v3 (owns_ints HWL.out.symm hown3); have HE3 := Lib.hid (ext_trans HE2.out hg3); obtain ⟨ao3, cp3, rfl⟩ := owns_slice17 hown3; clear hown3 hg3)
            | (go_at_call 123; refine G3.mono ?_; rintro e w4 ⟨rfl, hg4⟩; have C4 := C2 _ (SA1.out _ (ext_trans HE3.out hg4)); have HE4 := Lib.hid (ext_trans HE3.out hg4); clear hg4)
            | (go_at_call 46; refine C4.mono ?_; rintro e w5 ⟨rfl, hA5, hk5⟩))
          go_ret
          exact ⟨rfl, hA5, (Keeps.ext (ext_trans HE1.out HE4.out)).trans hk5⟩
    · simp only [if_true, Option.some.injEq, Prod.mk.injEq] at hm
      obtain ⟨rfl, rfl⟩ := hm
      have H1 := Lib.hid h1
      clear h1
      go_wp2
      go_ret
      exact ⟨rfl, H1.out, Keeps.ext HE1.out⟩
end

end Go.Proofs.YtdadgcfpcneaiaaGreatDoor

/-
  Layer 18 (store): put, needed, copyTo, settle.
-/
namespace Go.Proofs.YtdadgcfpcneaiaaGreatDoor
set_option linter.unusedVariables false
set_option linter.unusedSimpArgs false
set_option linter.unusedVariables false
set_option linter.unusedSimpArgs false
set_option maxRecDepth 100000
open Go.RowKit

section
variable {w w' : World} {p : SP} {c : SC} {m : SM}

/-- What put puts behind: the cells of the tag's block, and of the change's. -/
structure PutS (x : Chg) (cb tb : Nat) (te ep sq : Int) (y : World) : Prop where
  c0 : y.cell? ⟨cb, 0, none⟩ = some (.int .i64 x.pl)
  c2 : y.cell? ⟨cb, 2, none⟩ = some (.string x.dt)
  t0 : y.cell? ⟨tb, 0, none⟩ = some (.int .i64 te)
  t1 : y.cell? ⟨tb, 1, none⟩ = some (.int .i64 ep)
  t2 : y.cell? ⟨tb, 2, none⟩ = some (.int .i64 x.pl)
  t3 : y.cell? ⟨tb, 3, none⟩ = some (.int .i64 sq)
  t4 : y.cell? ⟨tb, 4, none⟩ = some (.int .i64 x.kd)
  t5 : y.cell? ⟨tb, 5, none⟩ = some (.bool false)

theorem PutS.keeps {y z : World} {T : Nat → Nat} {x : Chg} {cb tb : Nat} {te ep sq : Int} (h : PutS x cb tb te ep sq y) (hk : Keeps T y z) (h1 : T cb = 0) (h2 : T tb = 0) : PutS x cb tb te ep sq z := by
  have e1 := hk.block cb (World.block_lt_of_cell? y _ h.c0) h1
  have e2 := hk.block tb (World.block_lt_of_cell? y _ h.t0) h2
  exact ⟨(World.cell?_of_block e1).trans h.c0, (World.cell?_of_block e1).trans h.c2, (World.cell?_of_block e2).trans h.t0, (World.cell?_of_block e2).trans h.t1, (World.cell?_of_block e2).trans h.t2, (World.cell?_of_block e2).trans h.t3, (World.cell?_of_block e2).trans h.t4, (World.cell?_of_block e2).trans h.t5⟩

set_option maxHeartbeats 3200000 in
theorem put18 (h : StAt w p c m) (ok : StOk p c) {k : Int} (hcn : Cnt m.n k) (hk : k < 1152921504606846900) (hsq : 0 ≤ m.sq ∧ m.sq ≤ k) {b : Nat} (hb : b < c.bl.length) (hf : m.fr = b) (x : Chg) (hd : x.dt.size ≤ 9223372036854775807) :
    Calls Tryz.prog 105 #[.pointer (some ⟨p.sb, 0, none⟩), .agg (chgC x)] w (Gs p c (.int .i64 (putE18 c m x)) (putM c m x) w) := by
  obtain ⟨n0, rs0, q0, sq0, fr0, ro0⟩ := m
  simp only at hf hsq hcn
  subst hf
  have NX := fun (wx : World) (hx : StAt wx p c ⟨n0, rs0, q0, sq0, (b : Int), ro0⟩) => next18 hx ok hb
  have PR := fun (wx : World) (hx : StAt wx p c ⟨n0, rs0, q0, sq0, (b : Int), ro0⟩) => program18 hx ok hcn (by omega) hb (nextB c ⟨n0, rs0, q0, sq0, (b : Int), ro0⟩ b) c.who c.ep x.pl sq0 x.kd false x.dt hd
  have ST := Lib.hid (fun (wx : World) (s2 : NS) (hx : StAt wx p c ⟨s2, rs0, q0, sq0 + 1, (b : Int), ro0⟩) => tabSet hx.tb x.pl (b : Int) (nextB c ⟨n0, rs0, q0, sq0, (b : Int), ro0⟩ b) (by have := hx.tb.len; omega))
  unfold putE18 putM
  simp only [Int.toNat_natCast]
  simp only at PR ST
  obtain ⟨nx, hnx⟩ : ∃ z, nextB c ⟨n0, rs0, q0, sq0, (b : Int), ro0⟩ b = z := ⟨_, rfl⟩
  rw [hnx] at NX PR ST ⊢
  obtain ⟨er, her⟩ : ∃ z, prgE c n0 (b : Int) nx x.pl sq0 x.kd c.who c.ep false x.dt = z := ⟨_, rfl⟩
  obtain ⟨s2, hs2⟩ : ∃ z, prgS c n0 (b : Int) nx x.pl sq0 x.kd c.who c.ep false x.dt = z := ⟨_, rfl⟩
  rw [her, hs2] at PR ⊢
  obtain ⟨E, hE⟩ : ∃ z, (if er = 0 then setE c.bl.length c.S.pg rs0 x.pl (b : Int) nx else er) = z := ⟨_, rfl⟩
  obtain ⟨M, hM⟩ : ∃ z : SM, (if er = 0 then ⟨s2, setR c.bl.length c.S.pg rs0 x.pl (b : Int) nx, q0, sq0 + 1, (b : Int), ro0⟩ else ⟨s2, rs0, q0, sq0, (b : Int), ro0⟩) = z := ⟨_, rfl⟩
  rw [hE, hM]
  have HEM := Lib.hid (And.intro hE hM)
  clear hE hM
  have hEb := World.grownBy_alloc w (.cells (chgC x) 84) none
  have HCB := Lib.hid (And.intro (h.ext ok hEb) (And.intro hEb (Blk.new w 84 (chgC x))))
  have FR := Lib.hid (fun k (hk : w.heap.size ≤ k) => h.fresh hk)
  clear h hEb hnx her hs2 hb
  obtain ⟨cb, hcb⟩ : ∃ z, w.heap.size = z := ⟨_, rfl⟩
  have HCBE := Lib.hid hcb
  go_enter Tryz.func105, Tryz.ntmps105
  go_upto_region 1 with fail
  obtain ⟨w1, hw1⟩ : ∃ y, w.alloc (.cells (chgC x) 84) = y := ⟨_, rfl⟩
  rw [hw1]
  have h1 : StAt w1 p c ⟨n0, rs0, q0, sq0, (b : Int), ro0⟩ := by rw [← hw1]; exact HCB.out.1
  have hE1 : w.grownBy w1 none := by rw [← hw1]; exact HCB.out.2.1
  have hB1 : Blk w1 cb 84 (chgC x) := by rw [← hw1, ← hcb]; exact HCB.out.2.2
  have H1 := Lib.hid (And.intro h1 (And.intro hE1 hB1))
  have c10 : w1.cell? ⟨p.sb, 10, none⟩ = some (.int .i64 (b : Int)) := h1.cells.2.2.2.2.2.2.2.2.2.1
  clear hw1 hE1 hB1 hcb HCB
  go_upto_region 2 with (go_at_call 99; refine (NX _ h1).mono ?_; rintro e w2 ⟨rfl, hg2⟩)
  have H2 := Lib.hid (And.intro (H1.out.1.ext ok hg2) (And.intro (ext_trans H1.out.2.1 hg2) (H1.out.2.2.ext hg2)))
  clear h1 c10 H1 hg2 NX
  go_cut [6] (fun s6 wx => ∃ tb, s6 = .pointer (some ⟨tb, 0, none⟩) ∧ Blk wx tb 90 #[.int .i64 c.who, .int .i64 c.ep, .int .i64 x.pl, .int .i64 sq0, .int .i64 x.kd, .bool false] ∧ w2.grownBy wx none ∧ w2.heap.size ≤ tb)
  case first =>
    obtain ⟨c0, c1, c3, c4, c5, c6, c7, c8, c9, c10, c11⟩ := H2.out.1.cells
    have d0 : w2.cell? ⟨cb, 0, none⟩ = some (.int .i64 x.pl) := H2.out.2.2.cell 0
    have d1 : w2.cell? ⟨cb, 1, none⟩ = some (.int .i64 x.kd) := H2.out.2.2.cell 1
    have hl1 := H2.out.1.bk.lt
    have hl2 := H2.out.2.2.lt
    clear c0 c4 c5 c6 c7 c8 c10 c11
    go_region
    all_goals (go_wp2_with fail; go_meet)
    all_goals exact ⟨_, rfl, Blk.new _ _ _, ext_trans (World.grownBy_alloc _ _ none) (Ext.drew _), Nat.le_refl _⟩
  case rest =>
    obtain ⟨tb, rfl, hT, hg3, htb⟩ := hcut
    have h3 := H2.out.1.ext ok hg3
    have hE3 := ext_trans H2.out.2.1 hg3
    have hB3 := H2.out.2.2.ext hg3
    have htl := hT.lt
    have hcl := hB3.lt
    have hsl := h3.bk.lt
    have hcc := h3.cells.2.2.2.2.2.2.2.2.2.1
    have hS : wc.drew.cell? ⟨p.sb, 10, none⟩ = some (.int .i64 (b : Int)) ∧ PutS x cb tb c.who c.ep sq0 wc.drew := ⟨hcc, hB3.cell 0, hB3.cell 2, hT.cell 0, hT.cell 1, hT.cell 2, hT.cell 3, hT.cell 4, hT.cell 5⟩
    have H3 := Lib.hid (And.intro h3 hE3)
    have f1 := FR.out cb (by have := HCBE.out; omega)
    have f2 := FR.out tb (by have := H2.out.2.1.size; omega)
    clear h3 hE3 hT hg3 hcc hsl htl htb hB3 hcl H2
    go_upto_region 3 with fail
    refine region_line [(0, true), (1, true), (2, true), (3, true), (4, true), (5, true), (6, true), (7, true), (8, true), (9, false), (10, true)] (fun y => y.cell? ⟨p.sb, 10, none⟩ = some (.int .i64 (b : Int)) ∧ PutS x cb tb c.who c.ep sq0 y) (by kernel_rfl) (by kernel_rfl) (fun _ _ _ d _ h => by cases d <;> exact h) hS ?_
    repeat (refine line_read (a' := ?_) rfl (by kernel_rfl) (by kernel_rfl) hS (fun y hy K hK => ?_) ?_; rotate_left; · obtain ⟨c10, d0, d2, t0, t1, t2, t3, t4, t5⟩ := hy; go_wp2; exact hK)
    refine line_act (by rfl) (fun K hK => ?_)
    go_wp2_with (go_at_call 125; refine (PR _ (H3.out.1.ext ok (Ext.drew wc))).mono ?_; rintro e w4 ⟨rfl, hA4, hk4⟩)
    have hS4 : w4.cell? ⟨p.sb, 10, none⟩ = some (.int .i64 (b : Int)) ∧ PutS x cb tb c.who c.ep sq0 w4 := ⟨hA4.cells.2.2.2.2.2.2.2.2.2.1, hS.2.keeps hk4 f1 f2⟩
    refine hK _ _ (fun y => y.cell? ⟨p.sb, 10, none⟩ = some (.int .i64 (b : Int)) ∧ PutS x cb tb c.who c.ep sq0 y) hS4 (fun _ h => h) ?_
    clear hK K
    repeat (refine line_read (a' := ?_) rfl (by kernel_rfl) (by kernel_rfl) hS4 (fun y hy K hK => ?_) ?_; rotate_left; · go_wp2; exact hK)
    refine line_end ?_
    have hkk : Keeps (tS p c) w w4 := (Keeps.ext (ext_trans H3.out.2 (Ext.drew wc))).trans hk4
    have H4 := Lib.hid (And.intro hA4 (And.intro hkk hS4.2))
    clear hA4 hk4 hkk hS hS4 H3 PR
    by_cases h0 : er = 0
    · have h0' : (er != 0) = false := by simp [h0]
      have c9 := H4.out.1.cells.2.2.2.2.2.2.2.2.1
      have f9 := H4.out.1.bk.free 9
      have H5 := Lib.hid (H4.out.1.setSq ok (sq0 + 1))
      have hq := HEM.out
      rw [if_pos h0, if_pos h0] at hq
      obtain ⟨rfl, rfl⟩ := hq
      clear h0
      go_upto_region 7 with fail
      clear c9 f9
      obtain ⟨w5, hw5⟩ : ∃ y, w4.setCell ⟨p.sb, 9, none⟩ (.int .i64 (sq0 + 1)) = y := ⟨_, rfl⟩
      rw [hw5] at H5 ⊢
      have hk5 : Keeps (tS p c) w4 w5 := by rw [← hw5]; exact Keeps.own18 (gb_set (gb_refl w4 _) _ _) (.inl rfl)
      have hP5 := H4.out.2.2.keeps hk5 f1 f2
      have HK5 := Lib.hid (H4.out.2.1.trans hk5)
      clear hw5 hk5
      have hd5 := H5.out.ext ok (Ext.drew w5)
      have hS5 : w5.drew.cell? ⟨p.sb, 10, none⟩ = some (.int .i64 (b : Int)) ∧ w5.drew.cell? ⟨p.sb, 7, none⟩ = some (.pointer (some ⟨p.tb, 0, none⟩)) ∧ w5.drew.cell? ⟨cb, 0, none⟩ = some (.int .i64 x.pl) := ⟨hd5.cells.2.2.2.2.2.2.2.2.2.1, hd5.cells.2.2.2.2.2.2.1, hP5.c0⟩
      clear hP5
      refine region_line [(0, true), (1, true), (2, true), (3, true), (4, true), (5, true), (6, true), (7, true), (8, true), (9, true), (10, true), (11, false), (12, true)] (fun y => y.cell? ⟨p.sb, 10, none⟩ = some (.int .i64 (b : Int)) ∧ y.cell? ⟨p.sb, 7, none⟩ = some (.pointer (some ⟨p.tb, 0, none⟩)) ∧ y.cell? ⟨cb, 0, none⟩ = some (.int .i64 x.pl)) (by kernel_rfl) (by kernel_rfl) (fun _ _ _ d _ h => by cases d <;> exact h) hS5 ?_
      repeat (refine line_read (a' := ?_) rfl (by kernel_rfl) (by kernel_rfl) hS5 (fun y hy K hK => ?_) ?_; rotate_left; · obtain ⟨c10, c7, d0⟩ := hy; go_wp2; exact hK)
      refine line_act (by rfl) (fun K hK => ?_)
      go_wp2_with (go_at_call 62; refine (ST.out _ _ hd5).mono ?_; rintro e w6 ⟨rfl, hA6, hg6⟩)
      have h6 := hd5.tab ok hA6 hg6
      have hk6 : Keeps (tS p c) w5 w6 := (Keeps.ext (Ext.drew w5)).trans (Keeps.own18 hg6 (.inr (.inl rfl)))
      have hS6 : w6.cell? ⟨p.sb, 10, none⟩ = some (.int .i64 (b : Int)) ∧ w6.cell? ⟨p.sb, 7, none⟩ = some (.pointer (some ⟨p.tb, 0, none⟩)) ∧ w6.cell? ⟨cb, 0, none⟩ = some (.int .i64 x.pl) := ⟨h6.cells.2.2.2.2.2.2.2.2.2.1, h6.cells.2.2.2.2.2.2.1, (World.cell?_of_block (hk6.block cb (World.block_lt_of_cell? w5 _ hS5.2.2) f1)).trans hS5.2.2⟩
      refine hK _ _ (fun y => y.cell? ⟨p.sb, 10, none⟩ = some (.int .i64 (b : Int)) ∧ y.cell? ⟨p.sb, 7, none⟩ = some (.pointer (some ⟨p.tb, 0, none⟩)) ∧ y.cell? ⟨cb, 0, none⟩ = some (.int .i64 x.pl)) hS6 (fun _ h => h) ?_
      clear hK K
      repeat (refine line_read (a' := ?_) rfl (by kernel_rfl) (by kernel_rfl) hS6 (fun y hy K hK => ?_) ?_; rotate_left; · go_wp2; exact hK)
      refine line_end ?_
      go_wp2
      go_ret
      exact ⟨rfl, h6, HK5.out.trans hk6⟩
    · have h0' : (er != 0) = true := by simpa using h0
      have hq := HEM.out
      rw [if_neg h0, if_neg h0] at hq
      obtain ⟨rfl, rfl⟩ := hq
      clear h0
      go_wp2
      go_ret
      exact ⟨rfl, H4.out.1, H4.out.2.1⟩
end

end Go.Proofs.YtdadgcfpcneaiaaGreatDoor

/-
  Layer 18 (store): writeChange, writeFirst, Flush, wait, Write, Trim, Read, Collect.
-/
namespace Go.Proofs.YtdadgcfpcneaiaaGreatDoor
set_option linter.unusedVariables false
set_option linter.unusedSimpArgs false
set_option linter.unusedVariables false
set_option linter.unusedSimpArgs false
set_option maxRecDepth 100000
open Go.RowKit

theorem move_fr {c : SC} {row : List Fnd} {spoken : Int} : ∀ (j : Nat) (m m' : SM), moveF c row spoken j m = some (0, m') → ∃ b : Nat, m'.fr = b ∧ b < c.bl.length
  | 0, m, m', hm => by simp [moveF] at hm
  | j + 1, m, m', hm => by
    unfold moveF at hm
    cases hf : freeL c m with
    | nil => rw [hf] at hm; simp at hm
    | cons tg l =>
      rw [hf] at hm
      simp only at hm
      obtain ⟨b, hb, hbl, _⟩ := free_in (c := c) (m := m) (x := tg) (by rw [hf]; simp)
      split at hm
      · simp only [Option.some.injEq, Prod.mk.injEq] at hm
        rw [← hm.2]; exact ⟨b, hb, hbl⟩
      · rename_i h1
        split at hm
        · simp only [Option.some.injEq, Prod.mk.injEq] at hm
          exact absurd hm.1 h1
        · split at hm
          · rename_i h3
            simp only [Option.some.injEq, Prod.mk.injEq] at hm
            exact absurd hm.1 h3
          · exact move_fr j _ m' hm
theorem give_fr {c : SC} {m : SM} {b s : Int} : (giveM c m b s).fr = m.fr := by unfold giveM; split <;> rfl
theorem era_fr {c : SC} {m : SM} {b : Int} : (eraM c m b).fr = m.fr := by
  unfold eraM
  split
  · rfl
  · exact give_fr
theorem room_fr {c : SC} {m m' : SM} {j : Nat} (hm : roomR c m j = some (0, m')) : ∃ b : Nat, m'.fr = b ∧ b < c.bl.length := by
  unfold roomR at hm
  split at hm
  · rename_i h
    simp only [Option.some.injEq, Prod.mk.injEq] at hm
    rw [← hm.2]
    simp only [Bool.and_eq_true, hasS, decide_eq_true_eq] at h
    exact ⟨m.fr.toNat, by omega, by omega⟩
  · split at hm
    · rename_i hf
      simp only [Option.some.injEq, Prod.mk.injEq] at hm
      rw [← hm.2]
      cases hl : freeL c m with
      | nil =>
        rw [hl] at hf
        have : (0 : Int) ≤ sprN c m := by unfold sprN; split <;> omega
        simp at hf
        omega
      | cons x l =>
        obtain ⟨b, hb, hbl, _⟩ := free_in (c := c) (m := m) (x := x) (by rw [hl]; simp)
        exact ⟨b, hb, hbl⟩
    · split at hm
      · simp at hm
      · unfold collR at hm
        split at hm
        · cases hm
        · rename_i e1 m1 h1
          split at hm
          · rename_i h2
            simp only [Option.some.injEq, Prod.mk.injEq] at hm
            exact absurd hm.1 h2
          · rename_i h2
            simp only [Option.some.injEq, Prod.mk.injEq] at hm
            rw [← hm.2, era_fr]
            have h2' : e1 = 0 := by simpa using h2
            subst h2'
            unfold moveR at h1
            split at h1
            · rename_i h3
              simp only [Option.some.injEq, Prod.mk.injEq] at h1
              exact absurd h1.1 h3
            · exact move_fr _ _ _ h1
theorem put_fr {c : SC} {m : SM} {x : Chg} : (putM c m x).fr = m.fr := by unfold putM; split <;> rfl

/-- What stands between the tries of a change. -/
structure ChgS (p : SP) (c : SC) (w0 wr : World) (cb : Nat) (x : Chg) (k0 : Int) (g : Nat) (e : Int) (m' m : SM) : Prop where
  st : StAt wr p c m
  wf : Wf c m (k0 + 40020 * (100 - (g : Int)))
  box : Blk wr cb 84 (chgC x)
  kp : Keeps (tS p c) w0 wr
  eq : chgR c x 100 g m = some (e, m')
  le : g ≤ 100

section
variable {w w' : World} {p : SP} {c : SC} {m : SM}

set_option maxHeartbeats 3200000 in
theorem writeChange18 (h : StAt w p c m) (ok : StOk p c) {k : Int} (wf : Wf c m k) (hs : -9223372036854775000 ≤ c.sp ∧ c.sp ≤ 9223372036854775000) (hk : k < 1152921504600000000) (x : Chg) (hd : x.dt.size ≤ 9223372036854775807) {e : Int} {m' : SM} (hm : chgR c x 100 100 m = some (e, m')) :
    Calls Tryz.prog 78 #[.pointer (some ⟨p.sb, 0, none⟩), .agg (chgC x)] w (Gs p c (.int .i64 e) m' w) := by
  have hpg := ok.R.bds.2.2.2
  have hg0 := World.grownBy_alloc w (.cells (chgC x) 84) none
  have MR := Lib.hid (fun (wx : World) (mx : SM) (hx : StAt wx p c mx) (kk : Int) (hw : Wf c mx kk) (hk : kk < 1152921504606800000) (e1 : Int) (m1 : SM) (hm : roomR c mx 100 = some (e1, m1)) => makeRoom18 hx ok hw hs hk hm)
  have PT := Lib.hid (fun (wx : World) (mx : SM) (hx : StAt wx p c mx) (kk : Int) (hw : Wf c mx kk) (hk : kk < 1152921504606846900) (b : Nat) (hb : b < c.bl.length) (hf : mx.fr = b) => put18 hx ok hw.cn hk hw.sq hb hf x hd)
  have LF := Lib.hid (fun (wx : World) (mx : SM) (hx : StAt wx p c mx) (kk : Int) (hw : Wf c mx kk) (hk : kk < 1152921504606800000) (b : Nat) (hb : b < c.bl.length) (hf : mx.fr = b) (e1 : Int) (m1 : SM) (hm : leavR c mx 100 = some (e1, m1)) => leaveFront18 hx ok hw hs hb hf hk hm)
  have hfr := h.fresh (Nat.le_refl _)
  have HS := Lib.hid (show ChgS p c w (w.alloc (.cells (chgC x) 84)) w.heap.size x k 100 e m' m from ⟨h.ext ok hg0, wf.mono (by omega), Blk.new w _ _, Keeps.ext hg0, hm, by omega⟩)
  obtain ⟨cb, hcb⟩ : ∃ z, w.heap.size = z := ⟨_, rfl⟩
  rw [hcb] at hfr HS
  have HCB := Lib.hid (And.intro hcb hfr)
  clear h wf hm hg0 hfr
  go_enter Tryz.func78, Tryz.ntmps78
  go_upto_block 0 with fail
  obtain ⟨w1, hw1⟩ : ∃ y, w.alloc (.cells (chgC x) 84) = y := ⟨_, rfl⟩
  rw [hw1] at HS ⊢
  clear hw1 hcb
  go_wp2_with fail
  go_loopg [5] 100 (fun g _ wr => ∃ mx, ChgS p c w wr cb x k g e m' mx)
  case atStart => exact ⟨m, HS.out⟩
  case round =>
    clear HS
    obtain ⟨mx, hS⟩ := hrel
    match gk, hS with
    | 0, hS => exact absurd hS.eq (by simp [chgR])
    | g + 1, hS =>
      obtain ⟨wo, rfl⟩ : ∃ wo : World, wo = wr := ⟨_, rfl⟩
      have heq := hS.eq
      have hle := hS.le
      have hwf := hS.wf
      have HS := Lib.hid hS
      unfold chgR at heq
      cases hr : roomR c mx 100 with
      | none => rw [hr] at heq; simp at heq
      | some r =>
        obtain ⟨e1, m1⟩ := r
        rw [hr] at heq
        simp only at heq
        have M1 := MR.out wo mx hS.st _ hwf (by omega) e1 m1 hr
        have hw1 := wf_room hpg hwf hr
        by_cases a0 : e1 = 0
        · rw [if_neg (by simp [a0])] at heq
          subst a0
          obtain ⟨b, hfb, hbl⟩ := room_fr hr
          have P1 := fun wx (hx : StAt wx p c m1) => PT.out wx m1 hx _ hw1 (by omega) b hbl hfb
          have hw2 := wf_put hw1 x
          have hfb2 : (putM c m1 x).fr = b := put_fr.trans hfb
          generalize putE18 c m1 x = e2 at *
          generalize putM c m1 x = m2 at *
          have L1 := fun wx (hx : StAt wx p c m2) e3 m3 (hm : leavR c m2 100 = some (e3, m3)) => LF.out wx m2 hx _ hw2 (by omega) b hbl hfb2 e3 m3 hm
          have H2 := Lib.hid (And.intro hw2 (And.intro hle (And.intro hfb hbl)))
          clear hS hwf hw1 hr hfb hfb2 hbl hle
          by_cases a1 : e2 = 10
          · rw [if_neg (by simp [a1])] at heq
            have a1' : (e2 != 10) = false := by simp [a1]
            clear a1
            cases hl : leavR c m2 100 with
            | none => rw [hl] at heq; simp at heq
            | some r3 =>
              obtain ⟨e3, m3⟩ := r3
              rw [hl] at heq
              simp only at heq
              have L2 := fun wx hx => L1 wx hx e3 m3 hl
              have hw3 := wf_leav hpg H2.out.1 hl
              have HW3 := Lib.hid hw3
              clear L1 hl hw2 hw3
              by_cases a2 : e3 = 0
              · rw [if_neg (by simp [a2])] at heq
                have a2' : (e3 != 0) = false := by simp [a2]
                have HEQ := Lib.hid heq
                clear a2 heq
                go_wp2_with (first
                  | (go_at_call 104; refine M1.mono ?_; rintro e4 w2 ⟨rfl, hA2, hk2⟩; have P2 := P1 _ hA2; have hbx : Blk w2 cb 84 (chgC x) := (hk2.block _ HS.out.box.lt HCB.out.2).trans HS.out.box; have HK2 := Lib.hid hk2; clear hA2 hk2)
                  | (refine chg_load_want rfl _ rfl rfl (hbx.range 0 3 rfl) ?_)
                  | (go_at_call 105; refine P2.mono ?_; rintro e4 w3 ⟨rfl, hA3, hk3⟩; have L3 := L2 _ hA3; have hbx3 : Blk w3 cb 84 (chgC x) := (hk3.block _ hbx.lt HCB.out.2).trans hbx; have HK3 := Lib.hid (And.intro (HK2.out.trans hk3) hbx3); clear hA3 hk3 hbx3)
                  | (go_at_call 106; refine L3.mono ?_; rintro e4 w4 ⟨rfl, hA4, hk4⟩))
                go_roundg g
                case measure => omega
                case rel => exact ⟨m3, hA4, HW3.out.mono (by have := H2.out.2.1; omega), (hk4.block _ HK3.out.2.lt HCB.out.2).trans HK3.out.2, HS.out.kp.trans (HK3.out.1.trans hk4), HEQ.out, by have := H2.out.2.1; omega⟩
              · rw [if_pos a2] at heq
                simp only [Option.some.injEq, Prod.mk.injEq] at heq
                obtain ⟨rfl, rfl⟩ := heq
                have a2' : (e3 != 0) = true := by simpa using a2
                clear a2
                go_wp2_with (first
                  | (go_at_call 104; refine M1.mono ?_; rintro e4 w2 ⟨rfl, hA2, hk2⟩; have P2 := P1 _ hA2; have hbx : Blk w2 cb 84 (chgC x) := (hk2.block _ HS.out.box.lt HCB.out.2).trans HS.out.box; have HK2 := Lib.hid hk2; clear hA2 hk2)
                  | (refine chg_load_want rfl _ rfl rfl (hbx.range 0 3 rfl) ?_)
                  | (go_at_call 105; refine P2.mono ?_; rintro e4 w3 ⟨rfl, hA3, hk3⟩; have L3 := L2 _ hA3; have HK3 := Lib.hid (HS.out.kp.trans (HK2.out.trans hk3)); clear hA3 hk3)
                  | (go_at_call 106; refine L3.mono ?_; rintro e4 w4 ⟨rfl, hA4, hk4⟩))
                go_ret
                exact ⟨rfl, hA4, HK3.out.trans hk4⟩
          · rw [if_pos a1] at heq
            simp only [Option.some.injEq, Prod.mk.injEq] at heq
            obtain ⟨rfl, rfl⟩ := heq
            have a1' : (e2 != 10) = true := by simpa using a1
            clear a1 L1 hw2
            go_wp2_with (first
              | (go_at_call 104; refine M1.mono ?_; rintro e4 w2 ⟨rfl, hA2, hk2⟩; have P2 := P1 _ hA2; have hbx : Blk w2 cb 84 (chgC x) := (hk2.block _ HS.out.box.lt HCB.out.2).trans HS.out.box; have HK2 := Lib.hid hk2; clear hA2 hk2)
              | (refine chg_load_want rfl _ rfl rfl (hbx.range 0 3 rfl) ?_)
              | (go_at_call 105; refine P2.mono ?_; rintro e4 w3 ⟨rfl, hA3, hk3⟩))
            go_ret
            exact ⟨rfl, hA3, HS.out.kp.trans (HK2.out.trans hk3)⟩
        · rw [if_pos a0] at heq
          simp only [Option.some.injEq, Prod.mk.injEq] at heq
          obtain ⟨rfl, rfl⟩ := heq
          have a0' : (e1 != 0) = true := by simpa using a0
          clear a0 hS hwf hw1 hr hle
          go_wp2_with (go_at_call 104; refine M1.mono ?_; rintro e4 w2 ⟨rfl, hA2, hk2⟩)
          go_ret
          exact ⟨rfl, hA2, HS.out.kp.trans hk2⟩

set_option maxHeartbeats 1600000 in
theorem writeFirst18 (h : StAt w p c m) (ok : StOk p c) {k : Int} (wf : Wf c m k) (hs : -9223372036854775000 ≤ c.sp ∧ c.sp ≤ 9223372036854775000) (hk : k < 1152921504600000000) {e : Int} {m' : SM} (hm : firR c 100 m = some (e, m')) :
    Calls Tryz.prog 43 #[.pointer (some ⟨p.sb, 0, none⟩)] w (Gs p c (.int .i64 e) m' w) := by
  have hpg := ok.R.bds.2.2.2
  have c8 := h.cells.2.2.2.2.2.2.2.1
  have FI := buf_first18 w p.bb m.q h.bf wf.ql
  have SA := Lib.hid (fun (wx : World) (hE : w.grownBy wx none) => h.ext ok hE)
  unfold firR at hm
  by_cases hq : m.q.length = 0
  · rw [if_pos hq] at hm
    simp only [Option.some.injEq, Prod.mk.injEq] at hm
    obtain ⟨rfl, rfl⟩ := hm
    rw [decide_eq_false (show ¬ 0 < m.q.length by omega)] at FI
    generalize firstC m.q = x at *
    clear h wf hq
    go_enter Tryz.func43, Tryz.ntmps43
    go_wp2_with (first
      | (go_at_call 77; refine FI.mono ?_; rintro e1 w1 ⟨rfl, hg1⟩; have hBn := Blk.new w1 84 (chgC noChg); have HG1 := Lib.hid hg1; clear hg1)
      | (refine chg_store (c := x) _ _ rfl rfl rfl hBn rfl rfl ?_; intro w2 hb2 hg2 hs2))
    go_ret
    have hE := g17_new (ext_trans HG1.out (World.grownBy_alloc w1 _ none)) hg2 HG1.out.size
    exact ⟨rfl, SA.out _ hE, Keeps.ext hE⟩
  · rw [if_neg hq] at hm
    rw [decide_eq_true (show 0 < m.q.length by omega)] at FI
    have hd : (firstC m.q).dt.size ≤ 16 := by
      obtain ⟨y, l, hyl⟩ : ∃ y l, m.q = y :: l := by
        cases hm2 : m.q with
        | nil => rw [hm2] at hq; simp at hq
        | cons y l => exact ⟨y, l, rfl⟩
      rw [hyl]
      exact wf.qd y (by rw [hyl]; simp)
    cases hc : chgR c (firstC m.q) 100 100 m with
    | none => rw [hc] at hm; simp at hm
    | some r =>
      obtain ⟨e1, m1⟩ := r
      rw [hc] at hm
      simp only at hm
      have WC := fun wx (hx : StAt wx p c m) => writeChange18 hx ok wf hs hk (firstC m.q) (by omega) hc
      have hw1 := wf_chg hpg 100 m k e1 m1 wf hc
      have DR := fun wx (hx : StAt wx p c m1) => buf_drop18 wx p.bb m1.q hx.bf hw1.ql
      have C8 := Lib.hid (fun wx (hx : StAt wx p c m1) => hx.cells.2.2.2.2.2.2.2.1)
      generalize firstC m.q = x at *
      generalize hdd : decide (0 < m1.q.length) = dd at *
      clear h wf hq hc hw1 hd hdd
      by_cases a0 : e1 = 0
      · rw [if_neg (by simp [a0])] at hm
        simp only [Option.some.injEq, Prod.mk.injEq] at hm
        obtain ⟨rfl, rfl⟩ := hm
        have a0' : (e1 != 0) = false := by simp [a0]
        clear a0
        go_enter Tryz.func43, Tryz.ntmps43
        go_wp2_with (first
          | (go_at_call 77; refine FI.mono ?_; rintro e1 w1 ⟨rfl, hg1⟩; have hBn := Blk.new w1 84 (chgC noChg); have HG1 := Lib.hid hg1; clear hg1)
          | (refine chg_store (c := x) _ _ rfl rfl rfl hBn rfl rfl ?_; intro w2 hb2 hg2 hs2; have hE2 := g17_new (ext_trans HG1.out (World.grownBy_alloc w1 _ none)) hg2 HG1.out.size; have W2 := WC _ (SA.out _ hE2); have HE2 := Lib.hid hE2; clear hg2 hs2 hBn hE2)
          | (refine chg_load_want rfl _ rfl rfl (hb2.range 0 3 rfl) ?_)
          | (go_at_call 78; refine W2.mono ?_; rintro e1 w3 ⟨rfl, hA3, hk3⟩; have D3 := DR _ hA3; have c8 := C8.out _ hA3; have HA3 := Lib.hid (And.intro hA3 hk3); clear hA3 hk3)
          | (go_at_call 79; refine D3.mono ?_; rintro e1 w4 ⟨rfl, hB4, hg4⟩))
        go_ret
        exact ⟨rfl, HA3.out.1.buf ok hB4 hg4, ((Keeps.ext HE2.out).trans HA3.out.2).trans (Keeps.own18 hg4 (.inr (.inr rfl)))⟩
      · rw [if_pos a0] at hm
        simp only [Option.some.injEq, Prod.mk.injEq] at hm
        obtain ⟨rfl, rfl⟩ := hm
        have a0' : (e1 != 0) = true := by simpa using a0
        clear a0 DR
        go_enter Tryz.func43, Tryz.ntmps43
        go_wp2_with (first
          | (go_at_call 77; refine FI.mono ?_; rintro e1 w1 ⟨rfl, hg1⟩; have hBn := Blk.new w1 84 (chgC noChg); have HG1 := Lib.hid hg1; clear hg1)
          | (refine chg_store (c := x) _ _ rfl rfl rfl hBn rfl rfl ?_; intro w2 hb2 hg2 hs2; have hE2 := g17_new (ext_trans HG1.out (World.grownBy_alloc w1 _ none)) hg2 HG1.out.size; have W2 := WC _ (SA.out _ hE2); have HE2 := Lib.hid hE2; clear hg2 hs2 hBn hE2)
          | (refine chg_load_want rfl _ rfl rfl (hb2.range 0 3 rfl) ?_)
          | (go_at_call 78; refine W2.mono ?_; rintro e1 w3 ⟨rfl, hA3, hk3⟩))
        go_ret
        exact ⟨rfl, hA3, (Keeps.ext HE2.out).trans hk3⟩
end

end Go.Proofs.YtdadgcfpcneaiaaGreatDoor
