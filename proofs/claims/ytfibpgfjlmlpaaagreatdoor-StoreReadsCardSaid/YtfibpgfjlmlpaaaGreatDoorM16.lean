/-
  Texts put together: JK JL JN.
-/
import Derived.Test.YtfibpgfjlmlpaaaGreatDoorM15
/-
  Layer 18 (store): writeChange, writeFirst, Flush, wait, Write, Trim, Read, Collect.
-/
namespace Go.Proofs.YtfibpgfjlmlpaaaGreatDoor
set_option linter.unusedVariables false
set_option linter.unusedSimpArgs false
set_option linter.unusedVariables false
set_option linter.unusedSimpArgs false
set_option maxRecDepth 100000
open Go.RowKit

theorem move_fr {c : SC} {row : List Fnd} {spoken : Int} : ∀ (j : Nat) (m m' : SM), moveF c row spoken j m = some (0, m') → ∃ b : Nat, m'.fr = b ∧ b < c.bl.length
  | 0, m, m', hm => by simp [moveF] at hm
  | j + 1, m, m', hm => by
    unfold moveF at hm
    cases hf : freeL c m with
    | nil => rw [hf] at hm; simp at hm
    | cons tg l =>
      rw [hf] at hm
      simp only at hm
      obtain ⟨b, hb, hbl, _⟩ := free_in (c := c) (m := m) (x := tg) (by rw [hf]; simp)
      split at hm
      · simp only [Option.some.injEq, Prod.mk.injEq] at hm
        rw [← hm.2]; exact ⟨b, hb, hbl⟩
      · rename_i h1
        split at hm
        · simp only [Option.some.injEq, Prod.mk.injEq] at hm
          exact absurd hm.1 h1
        · split at hm
          · rename_i h3
            simp only [Option.some.injEq, Prod.mk.injEq] at hm
            exact absurd hm.1 h3
          · exact move_fr j _ m' hm
theorem give_fr {c : SC} {m : SM} {b s : Int} : (giveM c m b s).fr = m.fr := by unfold giveM; split <;> rfl
theorem era_fr {c : SC} {m : SM} {b : Int} : (eraM c m b).fr = m.fr := by
  unfold eraM
  split
  · rfl
  · exact give_fr
theorem room_fr {c : SC} {m m' : SM} {j : Nat} (hm : roomR c m j = some (0, m')) : ∃ b : Nat, m'.fr = b ∧ b < c.bl.length := by
  unfold roomR at hm
  split at hm
  · rename_i h
    simp only [Option.some.injEq, Prod.mk.injEq] at hm
    rw [← hm.2]
    simp only [Bool.and_eq_true, hasS, decide_eq_true_eq] at h
    exact ⟨m.fr.toNat, by omega, by omega⟩
  · split at hm
    · rename_i hf
      simp only [Option.some.injEq, Prod.mk.injEq] at hm
      rw [← hm.2]
      cases hl : freeL c m with
      | nil =>
        rw [hl] at hf
        have : (0 : Int) ≤ sprN c m := by unfold sprN; split <;> omega
        simp at hf
        omega
      | cons x l =>
        obtain ⟨b, hb, hbl, _⟩ := free_in (c := c) (m := m) (x := x) (by rw [hl]; simp)
        exact ⟨b, hb, hbl⟩
    · split at hm
      · simp at hm
      · unfold collR at hm
        split at hm
        · cases hm
        · rename_i e1 m1 h1
          split at hm
          · rename_i h2
            simp only [Option.some.injEq, Prod.mk.injEq] at hm
            exact absurd hm.1 h2
          · rename_i h2
            simp only [Option.some.injEq, Prod.mk.injEq] at hm
            rw [← hm.2, era_fr]
            have h2' : e1 = 0 := by simpa using h2
            subst h2'
            unfold moveR at h1
            split at h1
            · rename_i h3
              simp only [Option.some.injEq, Prod.mk.injEq] at h1
              exact absurd h1.1 h3
            · exact move_fr _ _ _ h1
theorem put_fr {c : SC} {m : SM} {x : Chg} : (putM c m x).fr = m.fr := by unfold putM; split <;> rfl

/-- What stands between the tries of a change. -/
structure ChgS (p : SP) (c : SC) (w0 wr : World) (cb : Nat) (x : Chg) (k0 : Int) (g : Nat) (e : Int) (m' m : SM) : Prop where
  st : StAt wr p c m
  wf : Wf c m (k0 + 40020 * (100 - (g : Int)))
  box : Blk wr cb 89 (chgC x)
  kp : Keeps (tS p c) w0 wr
  eq : chgR c x 100 g m = some (e, m')
  le : g ≤ 100

section
variable {w w' : World} {p : SP} {c : SC} {m : SM}

set_option maxHeartbeats 3200000 in
theorem writeChange18 (h : StAt w p c m) (ok : StOk p c) {k : Int} (wf : Wf c m k) (hs : -9223372036854775000 ≤ c.sp ∧ c.sp ≤ 9223372036854775000) (hk : k < 1152921504600000000) (x : Chg) (hd : x.dt.size ≤ 9223372036854775807) {e : Int} {m' : SM} (hm : chgR c x 100 100 m = some (e, m')) :
    Calls Tryz.prog 80 #[.pointer (some ⟨p.sb, 0, none⟩), .agg (chgC x)] w (Gs p c (.int .i64 e) m' w) := by
  have hpg := ok.R.bds.2.2.2
  have hg0 := World.grownBy_alloc w (.cells (chgC x) 89) none
  have MR := Lib.hid (fun (wx : World) (mx : SM) (hx : StAt wx p c mx) (kk : Int) (hw : Wf c mx kk) (hk : kk < 1152921504606800000) (e1 : Int) (m1 : SM) (hm : roomR c mx 100 = some (e1, m1)) => makeRoom18 hx ok hw hs hk hm)
  have PT := Lib.hid (fun (wx : World) (mx : SM) (hx : StAt wx p c mx) (kk : Int) (hw : Wf c mx kk) (hk : kk < 1152921504606846900) (b : Nat) (hb : b < c.bl.length) (hf : mx.fr = b) => put18 hx ok hw.cn hk hw.sq hb hf x hd)
  have LF := Lib.hid (fun (wx : World) (mx : SM) (hx : StAt wx p c mx) (kk : Int) (hw : Wf c mx kk) (hk : kk < 1152921504606800000) (b : Nat) (hb : b < c.bl.length) (hf : mx.fr = b) (e1 : Int) (m1 : SM) (hm : leavR c mx 100 = some (e1, m1)) => leaveFront18 hx ok hw hs hb hf hk hm)
  have hfr := h.fresh (Nat.le_refl _)
  have HS := Lib.hid (show ChgS p c w (w.alloc (.cells (chgC x) 89)) w.heap.size x k 100 e m' m from ⟨h.ext ok hg0, wf.mono (by omega), Blk.new w _ _, Keeps.ext hg0, hm, by omega⟩)
  obtain ⟨cb, hcb⟩ : ∃ z, w.heap.size = z := ⟨_, rfl⟩
  rw [hcb] at hfr HS
  have HCB := Lib.hid (And.intro hcb hfr)
  clear h wf hm hg0 hfr
  go_enter Tryz.func80, Tryz.ntmps80
  go_upto_block 0 with fail
  obtain ⟨w1, hw1⟩ : ∃ y, w.alloc (.cells (chgC x) 89) = y := ⟨_, rfl⟩
  rw [hw1] at HS ⊢
  clear hw1 hcb
  go_wp2_with fail
  go_loopg [5] 100 (fun g _ wr => ∃ mx, ChgS p c w wr cb x k g e m' mx)
  case atStart => exact ⟨m, HS.out⟩
  case round =>
    clear HS
    obtain ⟨mx, hS⟩ := hrel
    match gk, hS with
    | 0, hS => exact absurd hS.eq (by simp [chgR])
    | g + 1, hS =>
      obtain ⟨wo, rfl⟩ : ∃ wo : World, wo = wr := ⟨_, rfl⟩
      have heq := hS.eq
      have hle := hS.le
      have hwf := hS.wf
      have HS := Lib.hid hS
      unfold chgR at heq
      cases hr : roomR c mx 100 with
      | none => rw [hr] at heq; simp at heq
      | some r =>
        obtain ⟨e1, m1⟩ := r
        rw [hr] at heq
        simp only at heq
        have M1 := MR.out wo mx hS.st _ hwf (by omega) e1 m1 hr
        have hw1 := wf_room hpg hwf hr
        by_cases a0 : e1 = 0
        · rw [if_neg (by simp [a0])] at heq
          subst a0
          obtain ⟨b, hfb, hbl⟩ := room_fr hr
          have P1 := fun wx (hx : StAt wx p c m1) => PT.out wx m1 hx _ hw1 (by omega) b hbl hfb
          have hw2 := wf_put hw1 x
          have hfb2 : (putM c m1 x).fr = b := put_fr.trans hfb
          generalize putE18 c m1 x = e2 at *
          generalize putM c m1 x = m2 at *
          have L1 := fun wx (hx : StAt wx p c m2) e3 m3 (hm : leavR c m2 100 = some (e3, m3)) => LF.out wx m2 hx _ hw2 (by omega) b hbl hfb2 e3 m3 hm
          have H2 := Lib.hid (And.intro hw2 (And.intro hle (And.intro hfb hbl)))
          clear hS hwf hw1 hr hfb hfb2 hbl hle
          by_cases a1 : e2 = 10
          · rw [if_neg (by simp [a1])] at heq
            have a1' : (e2 != 10) = false := by simp [a1]
            clear a1
            cases hl : leavR c m2 100 with
            | none => rw [hl] at heq; simp at heq
            | some r3 =>
              obtain ⟨e3, m3⟩ := r3
              rw [hl] at heq
              simp only at heq
              have L2 := fun wx hx => L1 wx hx e3 m3 hl
              have hw3 := wf_leav hpg H2.out.1 hl
              have HW3 := Lib.hid hw3
              clear L1 hl hw2 hw3
              by_cases a2 : e3 = 0
              · rw [if_neg (by simp [a2])] at heq
                have a2' : (e3 != 0) = false := by simp [a2]
                have HEQ := Lib.hid heq
                clear a2 heq
                go_wp2_with (first
                  | (go_at_call 113; refine M1.mono ?_; rintro e4 w2 ⟨rfl, hA2, hk2⟩; have P2 := P1 _ hA2; have hbx : Blk w2 cb 89 (chgC x) := (hk2.block _ HS.out.box.lt HCB.out.2).trans HS.out.box; have HK2 := Lib.hid hk2; clear hA2 hk2)
                  | (refine chg_load_want rfl _ rfl rfl (hbx.range 0 3 rfl) ?_)
                  | (go_at_call 114; refine P2.mono ?_; rintro e4 w3 ⟨rfl, hA3, hk3⟩; have L3 := L2 _ hA3; have hbx3 : Blk w3 cb 89 (chgC x) := (hk3.block _ hbx.lt HCB.out.2).trans hbx; have HK3 := Lib.hid (And.intro (HK2.out.trans hk3) hbx3); clear hA3 hk3 hbx3)
                  | (go_at_call 115; refine L3.mono ?_; rintro e4 w4 ⟨rfl, hA4, hk4⟩))
                go_roundg g
                case measure => omega
                case rel => exact ⟨m3, hA4, HW3.out.mono (by have := H2.out.2.1; omega), (hk4.block _ HK3.out.2.lt HCB.out.2).trans HK3.out.2, HS.out.kp.trans (HK3.out.1.trans hk4), HEQ.out, by have := H2.out.2.1; omega⟩
              · rw [if_pos a2] at heq
                simp only [Option.some.injEq, Prod.mk.injEq] at heq
                obtain ⟨rfl, rfl⟩ := heq
                have a2' : (e3 != 0) = true := by simpa using a2
                clear a2
                go_wp2_with (first
                  | (go_at_call 113; refine M1.mono ?_; rintro e4 w2 ⟨rfl, hA2, hk2⟩; have P2 := P1 _ hA2; have hbx : Blk w2 cb 89 (chgC x) := (hk2.block _ HS.out.box.lt HCB.out.2).trans HS.out.box; have HK2 := Lib.hid hk2; clear hA2 hk2)
                  | (refine chg_load_want rfl _ rfl rfl (hbx.range 0 3 rfl) ?_)
                  | (go_at_call 114; refine P2.mono ?_; rintro e4 w3 ⟨rfl, hA3, hk3⟩; have L3 := L2 _ hA3; have HK3 := Lib.hid (HS.out.kp.trans (HK2.out.trans hk3)); clear hA3 hk3)
                  | (go_at_call 115; refine L3.mono ?_; rintro e4 w4 ⟨rfl, hA4, hk4⟩))
                go_ret
                exact ⟨rfl, hA4, HK3.out.trans hk4⟩
          · rw [if_pos a1] at heq
            simp only [Option.some.injEq, Prod.mk.injEq] at heq
            obtain ⟨rfl, rfl⟩ := heq
            have a1' : (e2 != 10) = true := by simpa using a1
            clear a1 L1 hw2
            go_wp2_with (first
              | (go_at_call 113; refine M1.mono ?_; rintro e4 w2 ⟨rfl, hA2, hk2⟩; have P2 := P1 _ hA2; have hbx : Blk w2 cb 89 (chgC x) := (hk2.block _ HS.out.box.lt HCB.out.2).trans HS.out.box; have HK2 := Lib.hid hk2; clear hA2 hk2)
              | (refine chg_load_want rfl _ rfl rfl (hbx.range 0 3 rfl) ?_)
              | (go_at_call 114; refine P2.mono ?_; rintro e4 w3 ⟨rfl, hA3, hk3⟩))
            go_ret
            exact ⟨rfl, hA3, HS.out.kp.trans (HK2.out.trans hk3)⟩
        · rw [if_pos a0] at heq
          simp only [Option.some.injEq, Prod.mk.injEq] at heq
          obtain ⟨rfl, rfl⟩ := heq
          have a0' : (e1 != 0) = true := by simpa using a0
          clear a0 hS hwf hw1 hr hle
          go_wp2_with (go_at_call 113; refine M1.mono ?_; rintro e4 w2 ⟨rfl, hA2, hk2⟩)
          go_ret
          exact ⟨rfl, hA2, HS.out.kp.trans hk2⟩

set_option maxHeartbeats 1600000 in
theorem writeFirst18 (h : StAt w p c m) (ok : StOk p c) {k : Int} (wf : Wf c m k) (hs : -9223372036854775000 ≤ c.sp ∧ c.sp ≤ 9223372036854775000) (hk : k < 1152921504600000000) {e : Int} {m' : SM} (hm : firR c 100 m = some (e, m')) :
    Calls Tryz.prog 48 #[.pointer (some ⟨p.sb, 0, none⟩)] w (Gs p c (.int .i64 e) m' w) := by
  have hpg := ok.R.bds.2.2.2
  have c8 := h.cells.2.2.2.2.2.2.2.1
  have FI := buf_first18 w p.bb m.q h.bf wf.ql
  have SA := Lib.hid (fun (wx : World) (hE : w.grownBy wx none) => h.ext ok hE)
  unfold firR at hm
  by_cases hq : m.q.length = 0
  · rw [if_pos hq] at hm
    simp only [Option.some.injEq, Prod.mk.injEq] at hm
    obtain ⟨rfl, rfl⟩ := hm
    rw [decide_eq_false (show ¬ 0 < m.q.length by omega)] at FI
    generalize firstC m.q = x at *
    clear h wf hq
    go_enter Tryz.func48, Tryz.ntmps48
    go_wp2_with (first
      | (go_at_call 79; refine FI.mono ?_; rintro e1 w1 ⟨rfl, hg1⟩; have hBn := Blk.new w1 89 (chgC noChg); have HG1 := Lib.hid hg1; clear hg1)
      | (refine chg_store (c := x) _ _ rfl rfl rfl hBn rfl rfl ?_; intro w2 hb2 hg2 hs2))
    go_ret
    have hE := g17_new (ext_trans HG1.out (World.grownBy_alloc w1 _ none)) hg2 HG1.out.size
    exact ⟨rfl, SA.out _ hE, Keeps.ext hE⟩
  · rw [if_neg hq] at hm
    rw [decide_eq_true (show 0 < m.q.length by omega)] at FI
    have hd : (firstC m.q).dt.size ≤ 16 := by
      obtain ⟨y, l, hyl⟩ : ∃ y l, m.q = y :: l := by
        cases hm2 : m.q with
        | nil => rw [hm2] at hq; simp at hq
        | cons y l => exact ⟨y, l, rfl⟩
      rw [hyl]
      exact wf.qd y (by rw [hyl]; simp)
    cases hc : chgR c (firstC m.q) 100 100 m with
    | none => rw [hc] at hm; simp at hm
    | some r =>
      obtain ⟨e1, m1⟩ := r
      rw [hc] at hm
      simp only at hm
      have WC := fun wx (hx : StAt wx p c m) => writeChange18 hx ok wf hs hk (firstC m.q) (by omega) hc
      have hw1 := wf_chg hpg 100 m k e1 m1 wf hc
      have DR := fun wx (hx : StAt wx p c m1) => buf_drop18 wx p.bb m1.q hx.bf hw1.ql
      have C8 := Lib.hid (fun wx (hx : StAt wx p c m1) => hx.cells.2.2.2.2.2.2.2.1)
      generalize firstC m.q = x at *
      generalize hdd : decide (0 < m1.q.length) = dd at *
      clear h wf hq hc hw1 hd hdd
      by_cases a0 : e1 = 0
      · rw [if_neg (by simp [a0])] at hm
        simp only [Option.some.injEq, Prod.mk.injEq] at hm
        obtain ⟨rfl, rfl⟩ := hm
        have a0' : (e1 != 0) = false := by simp [a0]
        clear a0
        go_enter Tryz.func48, Tryz.ntmps48
        go_wp2_with (first
          | (go_at_call 79; refine FI.mono ?_; rintro e1 w1 ⟨rfl, hg1⟩; have hBn := Blk.new w1 89 (chgC noChg); have HG1 := Lib.hid hg1; clear hg1)
          | (refine chg_store (c := x) _ _ rfl rfl rfl hBn rfl rfl ?_; intro w2 hb2 hg2 hs2; have hE2 := g17_new (ext_trans HG1.out (World.grownBy_alloc w1 _ none)) hg2 HG1.out.size; have W2 := WC _ (SA.out _ hE2); have HE2 := Lib.hid hE2; clear hg2 hs2 hBn hE2)
          | (refine chg_load_want rfl _ rfl rfl (hb2.range 0 3 rfl) ?_)
          | (go_at_call 80; refine W2.mono ?_; rintro e1 w3 ⟨rfl, hA3, hk3⟩; have D3 := DR _ hA3; have c8 := C8.out _ hA3; have HA3 := Lib.hid (And.intro hA3 hk3); clear hA3 hk3)
          | (go_at_call 81; refine D3.mono ?_; rintro e1 w4 ⟨rfl, hB4, hg4⟩))
        go_ret
        exact ⟨rfl, HA3.out.1.buf ok hB4 hg4, ((Keeps.ext HE2.out).trans HA3.out.2).trans (Keeps.own18 hg4 (.inr (.inr rfl)))⟩
      · rw [if_pos a0] at hm
        simp only [Option.some.injEq, Prod.mk.injEq] at hm
        obtain ⟨rfl, rfl⟩ := hm
        have a0' : (e1 != 0) = true := by simpa using a0
        clear a0 DR
        go_enter Tryz.func48, Tryz.ntmps48
        go_wp2_with (first
          | (go_at_call 79; refine FI.mono ?_; rintro e1 w1 ⟨rfl, hg1⟩; have hBn := Blk.new w1 89 (chgC noChg); have HG1 := Lib.hid hg1; clear hg1)
          | (refine chg_store (c := x) _ _ rfl rfl rfl hBn rfl rfl ?_; intro w2 hb2 hg2 hs2; have hE2 := g17_new (ext_trans HG1.out (World.grownBy_alloc w1 _ none)) hg2 HG1.out.size; have W2 := WC _ (SA.out _ hE2); have HE2 := Lib.hid hE2; clear hg2 hs2 hBn hE2)
          | (refine chg_load_want rfl _ rfl rfl (hb2.range 0 3 rfl) ?_)
          | (go_at_call 80; refine W2.mono ?_; rintro e1 w3 ⟨rfl, hA3, hk3⟩))
        go_ret
        exact ⟨rfl, hA3, (Keeps.ext HE2.out).trans hk3⟩
end

end Go.Proofs.YtfibpgfjlmlpaaaGreatDoor

/-
  Layer 18 (store): Flush, wait, Write, Trim, Read, Collect.
-/
namespace Go.Proofs.YtfibpgfjlmlpaaaGreatDoor
set_option linter.unusedVariables false
set_option linter.unusedSimpArgs false
set_option linter.unusedVariables false
set_option linter.unusedSimpArgs false
set_option maxRecDepth 100000
open Go.RowKit

theorem lastN_mem (row : List Chg) (q : Int) (h : (lastN row q).2 = true) : (lastN row q).1 ∈ row := by
  have key : ∀ (row : List Chg) (acc : Chg × Bool), (row.foldl (fun acc x => if x.pl = q then (x, true) else acc) acc).2 = true → (row.foldl (fun acc x => if x.pl = q then (x, true) else acc) acc).1 ∈ row ∨ acc.2 = true ∧ (row.foldl (fun acc x => if x.pl = q then (x, true) else acc) acc).1 = acc.1 := by
    intro row
    induction row with
    | nil => intro acc h; exact .inr ⟨h, rfl⟩
    | cons x l ih =>
      intro acc h
      simp only [List.foldl_cons] at h ⊢
      rcases ih _ h with h1 | ⟨h1, h2⟩
      · exact .inl (List.mem_cons_of_mem _ h1)
      · by_cases hx : x.pl = q
        · rw [if_pos hx] at h2 ⊢
          exact .inl (by rw [h2]; simp)
        · rw [if_neg hx] at h1 h2 ⊢
          exact .inr ⟨h1, h2⟩
  rcases key row (noChg, false) h with h1 | ⟨h1, _⟩
  · exact h1
  · cases h1

theorem wf_flu {c : SC} (hp : c.S.pg ≤ 16) : ∀ (j : Nat) (m : SM) (n : Int) (e : Int) (m' : SM), Wf c m n → fluF c 100 j m = some (e, m') → Wf c m' (n + 4002000 * j)
  | 0, m, n, e, m', h, hm => by
    simp only [fluF, Option.some.injEq, Prod.mk.injEq] at hm
    rw [← hm.2]; exact h.mono (by omega)
  | j + 1, m, n, e, m', h, hm => by
    unfold fluF at hm
    split at hm
    · cases hm
    · rename_i e1 m1 h1
      have hw := wf_fir hp h h1
      split at hm
      · simp only [Option.some.injEq, Prod.mk.injEq] at hm
        rw [← hm.2]; exact hw.mono (by omega)
      · exact (wf_flu hp j m1 _ e m' hw hm).mono (by omega)
theorem wf_wai {c : SC} {m : SM} {x : Chg} {n : Int} {e : Int} {m' : SM} (hp : c.S.pg ≤ 16) (h : Wf c m n) (hm : waiR c 100 m x = some (e, m')) : Wf c m' (n + 4002000) := by
  have put : ∀ (m : SM) (n : Int), Wf c m n → ¬ 16 < x.dt.size → Wf c { m with q := putR m.q x } n := fun m n h hd => by
    have hq := h.ql
    by_cases hp0 : putE m.q x = 0
    · have he : putR m.q x = m.q ++ [x] := by unfold putR; rw [if_pos hp0]
      have h4 : m.q.length ≠ 4 := fun h4 => by
        unfold putE at hp0
        split at hp0
        · first | omega | (rw [if_pos h4] at hp0; omega)
        · rename_i h2; exact h2 hp0
      rw [he]
      refine Wf.mk' h.cn h.pg h.sq (by simp; omega) (fun y hy => ?_) h.fr
      rcases List.mem_append.1 hy with hy | hy
      · exact h.qd y hy
      · simp at hy; rw [hy]; omega
    · have he : putR m.q x = m.q := by unfold putR; rw [if_neg hp0]
      rw [he]
      exact h
  unfold waiR at hm
  split at hm
  · simp only [Option.some.injEq, Prod.mk.injEq] at hm
    rw [← hm.2]; exact h.mono (by omega)
  · split at hm
    · simp only [Option.some.injEq, Prod.mk.injEq] at hm
      rw [← hm.2]; exact h.mono (by omega)
    · rename_i hd
      split at hm
      · simp only [Option.some.injEq, Prod.mk.injEq] at hm
        rw [← hm.2]; exact h.mono (by omega)
      · split at hm
        · split at hm
          · cases hm
          · rename_i e1 m1 h1
            have hw := wf_fir hp h h1
            split at hm
            · simp only [Option.some.injEq, Prod.mk.injEq] at hm
              rw [← hm.2]; exact hw.mono (by omega)
            · simp only [Option.some.injEq, Prod.mk.injEq] at hm
              rw [← hm.2]; exact (put m1 _ hw hd).mono (by omega)
        · simp only [Option.some.injEq, Prod.mk.injEq] at hm
          rw [← hm.2]; exact (put m _ h hd).mono (by omega)

structure FluS (p : SP) (c : SC) (w0 wr : World) (k0 : Int) (n i : Nat) (e : Int) (m' m : SM) : Prop where
  st : StAt wr p c m
  wf : Wf c m (k0 + 4002000 * i)
  kp : Keeps (tS p c) w0 wr
  eq : fluF c 100 (n - i) m = some (e, m')

section
variable {w w' : World} {p : SP} {c : SC} {m : SM}

set_option maxHeartbeats 1600000 in
theorem flush18 (h : StAt w p c m) (ok : StOk p c) {k : Int} (wf : Wf c m k) (hs : -9223372036854775000 ≤ c.sp ∧ c.sp ≤ 9223372036854775000) (hk : k < 1152921504500000000) {e : Int} {m' : SM} (hm : fluR c 100 m = some (e, m')) :
    Calls Tryz.prog 17 #[.pointer (some ⟨p.sb, 0, none⟩)] w (Gs p c (.int .i64 e) m' w) := by
  have hpg := ok.R.bds.2.2.2
  obtain ⟨_, _, _, _, _, _, _, c8, _, _, c11⟩ := h.cells
  have LN := buf_len18 w p.bb m.q h.bf wf.ql
  have H0 := Lib.hid (And.intro h wf)
  have WF := Lib.hid (fun (wx : World) (mx : SM) (hx : StAt wx p c mx) (kk : Int) (hw : Wf c mx kk) (hk : kk < 1152921504600000000) (e1 : Int) (m1 : SM) (hm : firR c 100 mx = some (e1, m1)) => writeFirst18 hx ok hw hs hk hm)
  unfold fluR at hm
  cases hro : m.ro
  · rw [hro] at hm c11
    simp only [Bool.false_eq_true, if_false] at hm
    have hql := wf.ql
    obtain ⟨n, hn⟩ : ∃ z, m.q.length = z := ⟨_, rfl⟩
    rw [hn] at LN hm hql
    have HM := Lib.hid hm
    clear h wf hm hro hn
    go_enter Tryz.func17, Tryz.ntmps17
    go_wp2_with (go_at_call 47; refine LN.mono ?_; rintro e1 w1 ⟨rfl, hg1⟩; have HG1 := Lib.hid hg1; clear hg1)
    clear c8 c11 LN
    go_loopw [15] (fun i wr => ∃ (j : Nat) (mx : SM), j ≤ n ∧ i = .int .i64 j ∧ FluS p c w wr k n j e m' mx) (fun i _ => n - (intOf i).toNat)
    case atStart => exact ⟨0, m, by omega, rfl, H0.out.1.ext ok HG1.out, H0.out.2.mono (by omega), Keeps.ext HG1.out, HM.out⟩
    case round =>
      obtain ⟨j, mx, hj, rfl, hS⟩ := hrel
      obtain ⟨wo, rfl⟩ : ∃ wo : World, wo = wr := ⟨_, rfl⟩
      have HS := Lib.hid hS
      by_cases hlt : j < n
      · have heq := hS.eq
        rw [show n - j = (n - (j + 1)) + 1 by omega, fluF] at heq
        cases hf : firR c 100 mx with
        | none => rw [hf] at heq; simp at heq
        | some r =>
          obtain ⟨e1, m1⟩ := r
          rw [hf] at heq
          simp only at heq
          have W1 := WF.out wo mx hS.st _ hS.wf (by omega) e1 m1 hf
          have HW1 := Lib.hid (wf_fir hpg hS.wf hf)
          clear hS hf
          by_cases a0 : e1 = 0
          · rw [if_neg (by simp [a0])] at heq
            have a0' : (e1 != 0) = false := by simp [a0]
            have HEQ := Lib.hid heq
            clear a0 heq
            go_wp2_with (go_at_call 48; refine W1.mono ?_; rintro e2 w2 ⟨rfl, hA2, hk2⟩)
            go_roundw
            case rel => exact ⟨j + 1, m1, by omega, by go_num, hA2, HW1.out.mono (by omega), HS.out.kp.trans hk2, HEQ.out⟩
            case measure => simp [intOf]; omega
          · rw [if_pos a0] at heq
            simp only [Option.some.injEq, Prod.mk.injEq] at heq
            obtain ⟨rfl, rfl⟩ := heq
            have a0' : (e1 != 0) = true := by simpa using a0
            clear a0
            go_wp2_with (go_at_call 48; refine W1.mono ?_; rintro e2 w2 ⟨rfl, hA2, hk2⟩)
            go_ret
            exact ⟨rfl, hA2, HS.out.kp.trans hk2⟩
      · have heq := hS.eq
        rw [show n - j = 0 by omega] at heq
        simp only [fluF, Option.some.injEq, Prod.mk.injEq] at heq
        obtain ⟨rfl, rfl⟩ := heq
        obtain rfl : j = n := by omega
        clear hS
        go_wp2
        go_ret
        exact ⟨rfl, HS.out.st, HS.out.kp⟩
  · rw [hro] at hm c11
    simp only [if_true, Option.some.injEq, Prod.mk.injEq] at hm
    obtain ⟨rfl, rfl⟩ := hm
    clear h wf LN hro
    go_enter Tryz.func17, Tryz.ntmps17
    go_wp2
    go_ret
    exact ⟨rfl, H0.out.1, Keeps.refl _ _⟩

/-- The last step of wait: the change is taken. -/
theorem put_at18 (h : StAt w p c m) (ok : StOk p c) (hq : m.q.length ≤ 4) (x : Chg) (hd : x.dt.size ≤ 9223372036854775807) : Calls Tryz.prog 75 #[.pointer (some ⟨p.bb, 0, none⟩), .agg (chgC x)] w (Gs p c (.int .i64 (putE m.q x)) { m with q := putR m.q x } w) :=
  (buf_put18 w p.bb m.q x h.bf hq hd).mono fun e w' ⟨h1, h2, h3⟩ => ⟨h1, h.buf ok h2 h3, Keeps.own18 h3 (.inr (.inr rfl))⟩

set_option maxHeartbeats 3200000 in
theorem wait18 (h : StAt w p c m) (ok : StOk p c) {k : Int} (wf : Wf c m k) (hs : -9223372036854775000 ≤ c.sp ∧ c.sp ≤ 9223372036854775000) (hk : k < 1152921504500000000) (x : Chg) (hd : x.dt.size ≤ 9223372036854775807) {e : Int} {m' : SM} (hm : waiR c 100 m x = some (e, m')) :
    Calls Tryz.prog 42 #[.pointer (some ⟨p.sb, 0, none⟩), .agg (chgC x)] w (Gs p c (.int .i64 e) m' w) := by
  have hpg := ok.R.bds.2.2.2
  have hg0 := World.grownBy_alloc w (.cells (chgC x) 89) none
  have h1 := h.ext ok hg0
  have hb1 := Blk.new w 89 (chgC x)
  have hfr := h.fresh (Nat.le_refl _)
  obtain ⟨cb, hcb⟩ : ∃ z, w.heap.size = z := ⟨_, rfl⟩
  rw [hcb] at hb1 hfr
  obtain ⟨w1, hw1⟩ : ∃ y, w.alloc (.cells (chgC x) 89) = y := ⟨_, rfl⟩
  rw [hw1] at hg0 h1 hb1
  have LK := lacks18 h1 x.pl
  have FU := buf_full18 w1 p.bb m.q h1.bf wf.ql
  have d0 : w1.cell? ⟨cb, 0, none⟩ = some (.int .i64 x.pl) := hb1.cell 0
  have d2 : w1.cell? ⟨cb, 2, none⟩ = some (.string x.dt) := hb1.cell 2
  obtain ⟨_, _, _, _, _, _, _, c8, _, _, c11⟩ := h1.cells
  have H1 := Lib.hid (And.intro h1 (And.intro (Keeps.ext (T := tS p c) hg0) (And.intro hb1 hfr)))
  have HW1 := Lib.hid hw1
  -- what is done from the last region on
  have FIN := Lib.hid (fun (wx : World) (mx : SM) (hx : StAt wx p c mx) (hq : mx.q.length ≤ 4) => put_at18 hx ok hq x hd)
  unfold waiR at hm
  have hql := wf.ql
  by_cases hl : lacE c x.pl = 0
  · rw [if_neg (by simp [hl])] at hm
    rw [hl] at LK
    by_cases h16 : 16 < x.dt.size
    · rw [if_pos h16] at hm
      simp only [Option.some.injEq, Prod.mk.injEq] at hm
      obtain ⟨rfl, rfl⟩ := hm
      have h16' : (x.dt.size : Int) > 16 := by omega
      clear h wf h1 hl h16 hb1 hg0 FU hd
      go_enter Tryz.func42, Tryz.ntmps42
      go_upto_region 1 with fail
      clear hw1
      go_wp2_with (go_at_call 43; refine LK.mono ?_; rintro e1 w2 ⟨rfl, rfl⟩)
      go_ret
      exact ⟨rfl, H1.out.1, H1.out.2.1⟩
    · rw [if_neg h16] at hm
      have h16' : ¬ (x.dt.size : Int) > 16 := by omega
      cases hro : m.ro
      · rw [hro] at c11
        rw [if_neg (by rw [hro]; decide)] at hm
        by_cases h4 : m.q.length = 4
        · rw [if_pos h4] at hm
          rw [decide_eq_true h4] at FU
          cases hf : firR c 100 m with
          | none => rw [hf] at hm; simp at hm
          | some r =>
            obtain ⟨e1, m1⟩ := r
            rw [hf] at hm
            simp only at hm
            have W1 := fun wx (hx : StAt wx p c m) => writeFirst18 hx ok wf hs (by omega) hf
            have hwf1 := wf_fir hpg wf hf
            have HQ1 := Lib.hid hwf1.ql
            have SA := Lib.hid (fun (wx : World) (hE : w1.grownBy wx none) => h1.ext ok hE)
            by_cases a0 : e1 = 0
            · rw [if_neg (by simp [a0])] at hm
              simp only [Option.some.injEq, Prod.mk.injEq] at hm
              obtain ⟨rfl, rfl⟩ := hm
              have a0' : (e1 != 0) = false := by simp [a0]
              clear h wf h1 hl h16 hb1 hg0 hro h4 hf hwf1 a0 hql hd c8
              go_enter Tryz.func42, Tryz.ntmps42
              go_upto_region 1 with fail
              clear hw1
              have c8 := H1.out.1.cells.2.2.2.2.2.2.2.1
              go_upto_region 12 with (first
                | (go_at_call 43; refine LK.mono ?_; rintro e4 w2 ⟨rfl, rfl⟩)
                | (go_at_call 74; refine FU.mono ?_; rintro e4 w3 ⟨rfl, hg3⟩; have W3 := W1 _ (SA.out _ hg3); have HG3 := Lib.hid hg3; clear hg3)
                | (go_at_call 48; refine W3.mono ?_; rintro e4 w4 ⟨rfl, hA4, hk4⟩))
              have HA4 := Lib.hid (And.intro hA4 (And.intro ((H1.out.2.1.trans (Keeps.ext HG3.out)).trans hk4) ((hk4.block _ (H1.out.2.2.1.ext HG3.out).lt H1.out.2.2.2).trans (H1.out.2.2.1.ext HG3.out))))
              clear hA4 hk4 c8
              obtain ⟨c8b, hbx⟩ : w4.cell? ⟨p.sb, 8, none⟩ = some (.pointer (some ⟨p.bb, 0, none⟩)) ∧ Blk w4 cb 89 (chgC x) := ⟨(HA4.out.1).cells.2.2.2.2.2.2.2.1, HA4.out.2.2⟩
              have hS : w4.drew.cell? ⟨p.sb, 8, none⟩ = some (.pointer (some ⟨p.bb, 0, none⟩)) ∧ Blk w4.drew cb 89 (chgC x) := ⟨c8b, hbx⟩
              have P := FIN.out w4.drew m1 ((HA4.out.1).ext ok (Ext.drew w4)) HQ1.out
              clear c8b hbx
              refine region_line [(0, true), (1, true), (2, true), (3, true), (4, true), (5, false), (6, true)] (fun y => y.cell? ⟨p.sb, 8, none⟩ = some (.pointer (some ⟨p.bb, 0, none⟩)) ∧ Blk y cb 89 (chgC x)) (by kernel_rfl) (by kernel_rfl) (fun _ _ _ d _ h => by cases d <;> exact h) hS ?_
              repeat (refine line_read (a' := ?_) rfl (by kernel_rfl) (by kernel_rfl) hS (fun y hy K hK => ?_) ?_; rotate_left; · obtain ⟨c8, hbk⟩ := hy; go_wp2_with (refine chg_load_want rfl _ rfl rfl (hbk.range 0 3 rfl) ?_); exact hK)
              refine line_act (by rfl) (fun K hK => ?_)
              go_wp2_with (go_at_call 75; refine P.mono ?_; rintro e7 w7 ⟨rfl, hA7, hk7⟩)
              have hS7 : w7.cell? ⟨p.sb, 8, none⟩ = some (.pointer (some ⟨p.bb, 0, none⟩)) ∧ Blk w7 cb 89 (chgC x) := ⟨hA7.cells.2.2.2.2.2.2.2.1, (hk7.block _ hS.2.lt H1.out.2.2.2).trans hS.2⟩
              refine hK _ _ (fun y => y.cell? ⟨p.sb, 8, none⟩ = some (.pointer (some ⟨p.bb, 0, none⟩)) ∧ Blk y cb 89 (chgC x)) hS7 (fun _ h => h) ?_
              clear hK K
              repeat (refine line_read (a' := ?_) rfl (by kernel_rfl) (by kernel_rfl) hS7 (fun y hy K hK => ?_) ?_; rotate_left; · go_wp2; exact hK)
              refine line_end ?_
              go_wp2
              go_ret
              exact ⟨rfl, hA7, (HA4.out.2.1).trans ((Keeps.ext (Ext.drew w4)).trans hk7)⟩
            · rw [if_pos a0] at hm
              simp only [Option.some.injEq, Prod.mk.injEq] at hm
              obtain ⟨rfl, rfl⟩ := hm
              have a0' : (e1 != 0) = true := by simpa using a0
              clear h wf h1 hl h16 hb1 hg0 hro h4 hf hwf1 a0 hql hd
              go_enter Tryz.func42, Tryz.ntmps42
              go_upto_region 1 with fail
              clear hw1
              go_wp2_with (first
                | (go_at_call 43; refine LK.mono ?_; rintro e4 w2 ⟨rfl, rfl⟩)
                | (go_at_call 74; refine FU.mono ?_; rintro e4 w3 ⟨rfl, hg3⟩; have W3 := W1 _ (SA.out _ hg3); have HG3 := Lib.hid hg3; clear hg3)
                | (go_at_call 48; refine W3.mono ?_; rintro e4 w4 ⟨rfl, hA4, hk4⟩))
              go_ret
              exact ⟨rfl, hA4, (H1.out.2.1.trans (Keeps.ext HG3.out)).trans hk4⟩
        · rw [if_neg h4] at hm
          rw [decide_eq_false h4] at FU
          simp only [Option.some.injEq, Prod.mk.injEq] at hm
          obtain ⟨rfl, rfl⟩ := hm
          have SA := Lib.hid (fun (wx : World) (hE : w1.grownBy wx none) => h1.ext ok hE)
          have HQ := Lib.hid hql
          clear h wf h1 hl h16 hb1 hg0 hro h4 hql hd c8
          go_enter Tryz.func42, Tryz.ntmps42
          go_upto_region 1 with fail
          clear hw1
          have c8 := H1.out.1.cells.2.2.2.2.2.2.2.1
          go_upto_region 12 with (first
            | (go_at_call 43; refine LK.mono ?_; rintro e4 w2 ⟨rfl, rfl⟩)
            | (go_at_call 74; refine FU.mono ?_; rintro e4 w3 ⟨rfl, hg3⟩))
          have HA4 := Lib.hid (And.intro (SA.out _ hg3) (And.intro (H1.out.2.1.trans (Keeps.ext hg3)) (H1.out.2.2.1.ext hg3)))
          clear hg3 c8
          obtain ⟨c8b, hbx⟩ : w3.cell? ⟨p.sb, 8, none⟩ = some (.pointer (some ⟨p.bb, 0, none⟩)) ∧ Blk w3 cb 89 (chgC x) := ⟨(HA4.out.1).cells.2.2.2.2.2.2.2.1, HA4.out.2.2⟩
          have hS : w3.drew.cell? ⟨p.sb, 8, none⟩ = some (.pointer (some ⟨p.bb, 0, none⟩)) ∧ Blk w3.drew cb 89 (chgC x) := ⟨c8b, hbx⟩
          have P := FIN.out w3.drew m ((HA4.out.1).ext ok (Ext.drew w3)) HQ.out
          clear c8b hbx
          refine region_line [(0, true), (1, true), (2, true), (3, true), (4, true), (5, false), (6, true)] (fun y => y.cell? ⟨p.sb, 8, none⟩ = some (.pointer (some ⟨p.bb, 0, none⟩)) ∧ Blk y cb 89 (chgC x)) (by kernel_rfl) (by kernel_rfl) (fun _ _ _ d _ h => by cases d <;> exact h) hS ?_
          repeat (refine line_read (a' := ?_) rfl (by kernel_rfl) (by kernel_rfl) hS (fun y hy K hK => ?_) ?_; rotate_left; · obtain ⟨c8, hbk⟩ := hy; go_wp2_with (refine chg_load_want rfl _ rfl rfl (hbk.range 0 3 rfl) ?_); exact hK)
          refine line_act (by rfl) (fun K hK => ?_)
          go_wp2_with (go_at_call 75; refine P.mono ?_; rintro e7 w7 ⟨rfl, hA7, hk7⟩)
          have hS7 : w7.cell? ⟨p.sb, 8, none⟩ = some (.pointer (some ⟨p.bb, 0, none⟩)) ∧ Blk w7 cb 89 (chgC x) := ⟨hA7.cells.2.2.2.2.2.2.2.1, (hk7.block _ hS.2.lt H1.out.2.2.2).trans hS.2⟩
          refine hK _ _ (fun y => y.cell? ⟨p.sb, 8, none⟩ = some (.pointer (some ⟨p.bb, 0, none⟩)) ∧ Blk y cb 89 (chgC x)) hS7 (fun _ h => h) ?_
          clear hK K
          repeat (refine line_read (a' := ?_) rfl (by kernel_rfl) (by kernel_rfl) hS7 (fun y hy K hK => ?_) ?_; rotate_left; · go_wp2; exact hK)
          refine line_end ?_
          go_wp2
          go_ret
          exact ⟨rfl, hA7, (HA4.out.2.1).trans ((Keeps.ext (Ext.drew w3)).trans hk7)⟩
      · rw [hro] at hm c11
        simp only [if_true, Option.some.injEq, Prod.mk.injEq] at hm
        obtain ⟨rfl, rfl⟩ := hm
        clear h wf h1 hl h16 hb1 hg0 FU hd hro
        go_enter Tryz.func42, Tryz.ntmps42
        go_upto_region 1 with fail
        clear hw1
        go_wp2_with (go_at_call 43; refine LK.mono ?_; rintro e1 w2 ⟨rfl, rfl⟩)
        go_ret
        exact ⟨rfl, H1.out.1, H1.out.2.1⟩
  · rw [if_pos hl] at hm
    simp only [Option.some.injEq, Prod.mk.injEq] at hm
    obtain ⟨rfl, rfl⟩ := hm
    have hl' : (lacE c x.pl != 0) = true := by simpa using hl
    generalize lacE c x.pl = le at *
    clear h wf h1 hl hb1 hg0 FU hd
    go_enter Tryz.func42, Tryz.ntmps42
    go_upto_region 1 with fail
    clear hw1
    go_wp2_with (go_at_call 43; refine LK.mono ?_; rintro e1 w2 ⟨rfl, rfl⟩)
    go_ret
    exact ⟨rfl, H1.out.1, H1.out.2.1⟩

theorem write18 (h : StAt w p c m) (ok : StOk p c) {k : Int} (wf : Wf c m k) (hs : -9223372036854775000 ≤ c.sp ∧ c.sp ≤ 9223372036854775000) (hk : k < 1152921504500000000) (pl : Int) (dt : ByteArray) (hd : dt.size ≤ 9223372036854775807) {e : Int} {m' : SM} (hm : waiR c 100 m ⟨pl, 1, dt⟩ = some (e, m')) :
    Calls Tryz.prog 15 #[.pointer (some ⟨p.sb, 0, none⟩), .int .i64 pl, .string dt] w (Gs p c (.int .i64 e) m' w) := by
  have W := wait18 h ok wf hs hk ⟨pl, 1, dt⟩ hd hm
  rw [show (chgC ⟨pl, 1, dt⟩) = #[.int .i64 pl, .int .i64 1, .string dt] from rfl] at W
  clear h ok wf hm
  go_enter Tryz.func15, Tryz.ntmps15
  go_wp2_with (go_at_call 42; refine W.mono ?_; rintro e1 w1 ⟨rfl, hA, hk⟩)
  go_ret
  exact ⟨rfl, hA, hk⟩
theorem trim18 (h : StAt w p c m) (ok : StOk p c) {k : Int} (wf : Wf c m k) (hs : -9223372036854775000 ≤ c.sp ∧ c.sp ≤ 9223372036854775000) (hk : k < 1152921504500000000) (pl : Int) {e : Int} {m' : SM} (hm : waiR c 100 m ⟨pl, 2, ⟨#[]⟩⟩ = some (e, m')) :
    Calls Tryz.prog 14 #[.pointer (some ⟨p.sb, 0, none⟩), .int .i64 pl] w (Gs p c (.int .i64 e) m' w) := by
  have W := wait18 h ok wf hs hk ⟨pl, 2, ⟨#[]⟩⟩ (by show (0 : Nat) ≤ 9223372036854775807; omega) hm
  rw [show (chgC ⟨pl, 2, ⟨#[]⟩⟩) = #[.int .i64 pl, .int .i64 2, .string ⟨#[]⟩] from rfl] at W
  clear h ok wf hm
  go_enter Tryz.func14, Tryz.ntmps14
  go_wp2_with (go_at_call 42; refine W.mono ?_; rintro e1 w1 ⟨rfl, hA, hk⟩)
  go_ret
  exact ⟨rfl, hA, hk⟩

theorem collectP18 (h : StAt w p c m) (ok : StOk p c) {k : Int} (wf : Wf c m k) (hs : -9223372036854775000 ≤ c.sp ∧ c.sp ≤ 9223372036854775000) (hk : k < 1152921504500000000) (b : Int) {e : Int} {m' : SM} (hm : colR c m b 100 = some (e, m')) :
    Calls Tryz.prog 19 #[.pointer (some ⟨p.sb, 0, none⟩), .int .i64 b] w (Gs p c (.int .i64 e) m' w) := by
  have HS := has18 h b
  have H0 := Lib.hid h
  obtain ⟨_, _, _, _, _, _, _, _, _, _, c11⟩ := h.cells
  unfold colR at hm
  cases hro : m.ro
  · rw [hro] at c11
    rw [if_neg (by rw [hro]; decide)] at hm
    cases hh : hasS c b
    · rw [if_pos hh] at hm
      simp only [Option.some.injEq, Prod.mk.injEq] at hm
      obtain ⟨rfl, rfl⟩ := hm
      rw [hh] at HS
      clear h wf hro hh
      go_enter Tryz.func19, Tryz.ntmps19
      go_wp2_with (go_at_call 49; refine HS.mono ?_; rintro e1 w1 ⟨rfl, rfl⟩)
      go_ret
      exact ⟨rfl, H0.out, Keeps.refl _ _⟩
    · have hin : 0 ≤ b ∧ b < c.bl.length := by unfold hasS at hh; simpa using hh
      obtain ⟨n, rfl⟩ : ∃ n : Nat, b = n := ⟨b.toNat, by omega⟩
      have hn : n < c.bl.length := by omega
      rw [if_neg (by rw [hh]; decide), Int.toNat_natCast] at hm
      rw [hh] at HS
      have MC := may18 h ok hn
      cases hmy : mayS c m n
      · rw [if_pos hmy] at hm
        simp only [Option.some.injEq, Prod.mk.injEq] at hm
        obtain ⟨rfl, rfl⟩ := hm
        rw [hmy] at MC
        clear wf hro hh hin hn hmy
        go_enter Tryz.func19, Tryz.ntmps19
        go_wp2_with (first
          | (go_at_call 49; refine HS.mono ?_; rintro e1 w1 ⟨rfl, rfl⟩)
          | (go_at_call 50; refine MC.mono ?_; rintro e1 w2 ⟨rfl, hg⟩))
        go_ret
        exact ⟨rfl, H0.out.ext ok hg, Keeps.ext hg⟩
      · rw [if_neg (by rw [hmy]; decide)] at hm
        rw [hmy] at MC
        have CO := fun wx (hx : StAt wx p c m) => collect18 hx ok wf hs hn (by omega) hm
        clear h wf hro hh hin hmy
        go_enter Tryz.func19, Tryz.ntmps19
        go_wp2_with (first
          | (go_at_call 49; refine HS.mono ?_; rintro e1 w1 ⟨rfl, rfl⟩)
          | (go_at_call 50; refine MC.mono ?_; rintro e1 w2 ⟨rfl, hg⟩; have C2 := CO _ (H0.out.ext ok hg); have HG := Lib.hid hg; clear hg)
          | (go_at_call 51; refine C2.mono ?_; rintro e1 w3 ⟨rfl, hA3, hk3⟩))
        go_ret
        exact ⟨rfl, hA3, (Keeps.ext HG.out).trans hk3⟩
  · rw [hro] at c11
    rw [if_pos hro] at hm
    simp only [Option.some.injEq, Prod.mk.injEq] at hm
    obtain ⟨rfl, rfl⟩ := hm
    clear h wf hro HS
    go_enter Tryz.func19, Tryz.ntmps19
    go_wp2
    go_ret
    exact ⟨rfl, H0.out, Keeps.refl _ _⟩

/-- What a reading answers. -/
def ReadP (dt : ByteArray) (er : Int) (w : World) (e : Ending) (w' : World) : Prop := e = .returned (.tuple #[.string dt, .int .i64 er]) ∧ w.grownBy w' none

set_option maxHeartbeats 3200000 in
theorem read18 (h : StAt w p c m) (ok : StOk p c) {k : Int} (wf : Wf c m k) (q : Int) :
    Calls Tryz.prog 16 #[.pointer (some ⟨p.sb, 0, none⟩), .int .i64 q] w (ReadP (reaD c m q) (reaE c m q) w) := by
  have LK := lacks18 h q
  have LA := buf_last18 w p.bb m.q q h.bf wf.ql
  have AT := Lib.hid (fun (wx : World) (hE : w.grownBy wx none) => tabAt (h.ext ok hE).tb q)
  have FD := Lib.hid (fun (wx : World) (hE : w.grownBy wx none) (b pg : Int) => find18 (h.ext ok hE) ok wf b pg)
  have C7 := Lib.hid (fun (wx : World) (hE : w.grownBy wx none) => (h.ext ok hE).cells.2.2.2.2.2.2.1)
  have c8 := h.cells.2.2.2.2.2.2.2.1
  obtain ⟨D, hD⟩ : ∃ z, reaD c m q = z := ⟨_, rfl⟩
  obtain ⟨E, hE⟩ : ∃ z, reaE c m q = z := ⟨_, rfl⟩
  rw [hD, hE]
  unfold reaD at hD
  unfold reaE at hE
  clear h wf
  by_cases hl : lacE c q = 0
  · rw [if_neg (by simp [hl])] at hD hE
    rw [hl] at LK
    clear hl
    generalize (lastN m.q q).1 = x at *
    generalize (lastN m.q q).2 = f1 at *
    cases f1
    · simp only [Bool.false_eq_true, if_false] at hD hE
      obtain ⟨bk, hbk⟩ : ∃ z, (atN m.rs q).1 = z := ⟨_, rfl⟩
      obtain ⟨pg, hpg⟩ : ∃ z, (atN m.rs q).2.1 = z := ⟨_, rfl⟩
      obtain ⟨f2, hf2⟩ : ∃ z, (atN m.rs q).2.2 = z := ⟨_, rfl⟩
      rw [hbk, hpg, hf2] at AT hD hE
      clear hbk hpg hf2
      cases f2
      · simp only [Bool.false_eq_true, if_false] at hD hE
        subst hD hE
        go_enter Tryz.func16, Tryz.ntmps16
        go_wp2_with (first
          | (go_at_call 43; refine LK.mono ?_; rintro e1 w1 ⟨rfl, rfl⟩)
          | (go_at_call 44; refine LA.mono ?_; rintro e1 w1 ⟨rfl, hg1⟩; have hBn := Blk.new w1 89 (chgC noChg); have HG1 := Lib.hid hg1; clear hg1)
          | (refine chg_store (c := x) _ _ rfl rfl rfl hBn rfl rfl ?_; intro w2 hb2 hg2 hs2; have hE2 := g17_new (ext_trans HG1.out (World.grownBy_alloc w1 _ none)) hg2 HG1.out.size; have A2 := AT.out _ hE2; have c7 := C7.out _ hE2; have HE2 := Lib.hid hE2; clear hg2 hs2 hBn hE2 hb2)
          | (go_at_call 45; refine A2.mono ?_; rintro e1 w3 ⟨rfl, hg3⟩))
        go_returns
        exact ⟨rfl, ext_trans HE2.out hg3⟩
      · simp only [if_true] at hD hE
        have FD2 := fun wx hx => FD.out wx hx bk pg
        generalize fdF c m.n bk pg = f at *
        generalize fdE c m.n bk pg = er at *
        subst hE
        unfold FoundP at FD2
        have HD := Lib.hid hD
        clear hD
        by_cases hk2 : f.kd = 2
        · have hk2' : (f.kd == 2) = true := by simpa using hk2
          have HK := Lib.hid hk2
          clear hk2
          obtain ⟨kd, hkd⟩ : ∃ z, f.kd = z := ⟨_, rfl⟩
          rw [hkd] at hk2'
          have HKD := Lib.hid hkd
          clear hkd
          go_enter Tryz.func16, Tryz.ntmps16
          go_wp2_with (first
            | (go_at_call 43; refine LK.mono ?_; rintro e1 w1 ⟨rfl, rfl⟩)
            | (go_at_call 44; refine LA.mono ?_; rintro e1 w1 ⟨rfl, hg1⟩; have hBn := Blk.new w1 89 (chgC noChg); have HG1 := Lib.hid hg1; clear hg1)
            | (refine chg_store (c := x) _ _ rfl rfl rfl hBn rfl rfl ?_; intro w2 hb2 hg2 hs2; have hE2 := g17_new (ext_trans HG1.out (World.grownBy_alloc w1 _ none)) hg2 HG1.out.size; have A2 := AT.out _ hE2; have c7 := C7.out _ hE2; have HE2 := Lib.hid hE2; clear hg2 hs2 hBn hE2 hb2)
            | (go_at_call 45; refine A2.mono ?_; rintro e1 w3 ⟨rfl, hg3⟩; have F3 := FD2 _ (ext_trans HE2.out hg3); have HG3 := Lib.hid (ext_trans HE2.out hg3); clear hg3)
            | (go_at_call 46; refine F3.mono ?_; rintro e1 w4 ⟨rfl, hg4⟩; have hBf := Blk.new w4 97 (fndC noF); have HG4 := Lib.hid (ext_trans HG3.out hg4); clear hg4)
            | (refine fnd_store (f := f) _ _ rfl rfl rfl hBf rfl rfl ?_; intro w5 hb5 hg5 hs5; have d7 := (hb5.cell 7).trans (show (fndC f)[7]? = some (.int .i64 kd) by rw [← HKD.out]; rfl); have d9 : w5.cell? ⟨_, 9, none⟩ = some (.string f.dt) := hb5.cell 9; have HG5 := Lib.hid (g17_new (ext_trans HG4.out (World.grownBy_alloc w4 _ none)) hg5 HG4.out.size); clear hg5 hs5 hBf hb5))
          go_returns
          have hq := HD.out
          rw [if_pos HK.out] at hq
          subst hq
          exact ⟨rfl, HG5.out⟩
        · have hk2' : (f.kd == 2) = false := by simpa using hk2
          have HK := Lib.hid hk2
          clear hk2
          obtain ⟨kd, hkd⟩ : ∃ z, f.kd = z := ⟨_, rfl⟩
          rw [hkd] at hk2'
          have HKD := Lib.hid hkd
          clear hkd
          go_enter Tryz.func16, Tryz.ntmps16
          go_wp2_with (first
            | (go_at_call 43; refine LK.mono ?_; rintro e1 w1 ⟨rfl, rfl⟩)
            | (go_at_call 44; refine LA.mono ?_; rintro e1 w1 ⟨rfl, hg1⟩; have hBn := Blk.new w1 89 (chgC noChg); have HG1 := Lib.hid hg1; clear hg1)
            | (refine chg_store (c := x) _ _ rfl rfl rfl hBn rfl rfl ?_; intro w2 hb2 hg2 hs2; have hE2 := g17_new (ext_trans HG1.out (World.grownBy_alloc w1 _ none)) hg2 HG1.out.size; have A2 := AT.out _ hE2; have c7 := C7.out _ hE2; have HE2 := Lib.hid hE2; clear hg2 hs2 hBn hE2 hb2)
            | (go_at_call 45; refine A2.mono ?_; rintro e1 w3 ⟨rfl, hg3⟩; have F3 := FD2 _ (ext_trans HE2.out hg3); have HG3 := Lib.hid (ext_trans HE2.out hg3); clear hg3)
            | (go_at_call 46; refine F3.mono ?_; rintro e1 w4 ⟨rfl, hg4⟩; have hBf := Blk.new w4 97 (fndC noF); have HG4 := Lib.hid (ext_trans HG3.out hg4); clear hg4)
            | (refine fnd_store (f := f) _ _ rfl rfl rfl hBf rfl rfl ?_; intro w5 hb5 hg5 hs5; have d7 := (hb5.cell 7).trans (show (fndC f)[7]? = some (.int .i64 kd) by rw [← HKD.out]; rfl); have d9 : w5.cell? ⟨_, 9, none⟩ = some (.string f.dt) := hb5.cell 9; have HG5 := Lib.hid (g17_new (ext_trans HG4.out (World.grownBy_alloc w4 _ none)) hg5 HG4.out.size); clear hg5 hs5 hBf hb5))
          go_returns
          have hq := HD.out
          rw [if_neg HK.out] at hq
          subst hq
          exact ⟨rfl, HG5.out⟩
    · simp only [if_true] at hD hE
      subst hD hE
      go_enter Tryz.func16, Tryz.ntmps16
      go_wp2_with (first
        | (go_at_call 43; refine LK.mono ?_; rintro e1 w1 ⟨rfl, rfl⟩)
        | (go_at_call 44; refine LA.mono ?_; rintro e1 w1 ⟨rfl, hg1⟩; have hBn := Blk.new w1 89 (chgC noChg); have HG1 := Lib.hid hg1; clear hg1)
        | (refine chg_store (c := x) _ _ rfl rfl rfl hBn rfl rfl ?_; intro w2 hb2 hg2 hs2; have hE2 := g17_new (ext_trans HG1.out (World.grownBy_alloc w1 _ none)) hg2 HG1.out.size; have d2 : w2.cell? ⟨_, 2, none⟩ = some (.string x.dt) := hb2.cell 2; have HE2 := Lib.hid hE2; clear hg2 hs2 hBn hE2 hb2))
      go_returns
      exact ⟨rfl, HE2.out⟩
  · rw [if_pos hl] at hD hE
    subst hD hE
    have hl' : (lacE c q != 0) = true := by simpa using hl
    generalize lacE c q = le at *
    clear hl
    go_enter Tryz.func16, Tryz.ntmps16
    go_wp2_with (go_at_call 43; refine LK.mono ?_; rintro e1 w1 ⟨rfl, rfl⟩)
    go_returns
    exact ⟨rfl, Ext.refl _⟩
end

end Go.Proofs.YtfibpgfjlmlpaaaGreatDoor

/-
  Layer 18 (store): New.
-/
namespace Go.Proofs.YtfibpgfjlmlpaaaGreatDoor
set_option linter.unusedVariables false
set_option linter.unusedSimpArgs false
set_option linter.unusedVariables false
set_option linter.unusedSimpArgs false
set_option maxRecDepth 100000
open Go.RowKit

/-- A store of blank blocks. -/
def New18 (S : NShape) (V : Nat → Value) (zs : Nat → List Int) (s : NS) (who ep sz sp : Int) (bl : List Int) (w : World) (e : Ending) (w' : World) : Prop :=
  ∃ p : SP, e = .returned (.tuple #[.pointer (some ⟨p.sb, 0, none⟩), .int .i64 0]) ∧ StAt w' p ⟨S, zs, who, ep, sz, sp, bl⟩ ⟨s, [], [], 0, -1, false⟩ ∧ StOk p ⟨S, zs, who, ep, sz, sp, bl⟩ ∧ p.V = V ∧ w.grownBy w' none ∧ w.heap.size ≤ p.sb ∧ w.heap.size ≤ p.tb ∧ w.heap.size ≤ p.bb ∧ ∀ k, p.bv.ownBlock = some k → w.heap.size ≤ k

set_option maxHeartbeats 3200000 in
theorem new18 {w : World} {S : NShape} {V : Nat → Value} {zs : Nat → List Int} {s : NS} (h : NandAt w S V zs s) (hR : Roles S) (hF : Flds w) (h0 : S.T 0 = 0) (hz : ∀ j, j < 4 → (zs j).length ≤ 64) (hV : ∀ j, j < 4 → ∀ k, (V j).ownBlock = some k → k < w.heap.size)
    (who ep sz sp : Int) (hw : 0 ≤ who ∧ who < 4) (v : Value) (bl : List Int) (hv : Ints w v bl) (hb1 : 1 ≤ bl.length) (hb : bl.length ≤ 64) (hbr : ∀ i, i < bl.length → 2 ≤ bl.getD i 0 ∧ bl.getD i 0 < S.all) :
    Calls Tryz.prog 41 #[.pointer (some ⟨S.nb, 0, none⟩), .int .i64 who, .agg #[.bool true, .int .i64 ep, .int .i64 sz, .int .i64 sp, v]] w (New18 S V zs s who ep sz sp bl w) := by
  have hpg := hR.bds
  have CL := fun (wx : World) (hE : w.grownBy wx none) => clonei_any v bl wx (hv.kept hE (by simp)) hb
  have GE := fun (wx : World) (hE : w.grownBy wx none) => geometry18_is (h.ext hE hR).fix
  have TN := fun (wx : World) => new14_ok bl.length S.pg wx (by unfold newOk; omega)
  have BN := new13_is
  rw [hR.pgs] at TN
  have hfld := geo_pages18 S.c S.d S.b S.p
  obtain ⟨ao, cap, hvv⟩ : ∃ ao cap, v = .slice ao bl.length cap := by
    obtain ⟨ao, cap, _, _, h1, _⟩ := hv.form
    exact ⟨ao, cap, h1⟩
  subst hvv
  have HH := Lib.hid (And.intro h (And.intro hR (And.intro hF (And.intro h0 (And.intro hz (And.intro hV (And.intro hb hbr)))))))
  obtain ⟨n, hn⟩ : ∃ z, bl.length = z := ⟨_, rfl⟩
  rw [hn] at CL TN hb hb1 ⊢
  have HN := Lib.hid hn
  have hw1 : ¬ who < 0 := by omega
  have hw2 : ¬ who ≥ 4 := by omega
  clear h hR hF h0 hz hV hv hbr hn hw hpg
  have hE0 := World.grownBy_alloc w (.cells #[.bool true, .int .i64 ep, .int .i64 sz, .int .i64 sp, .slice ao n cap] 33) none
  have hB0 := Blk.new w 33 #[.bool true, .int .i64 ep, .int .i64 sz, .int .i64 sp, .slice ao n cap]
  obtain ⟨tb, htb⟩ : ∃ z, w.heap.size = z := ⟨_, rfl⟩
  obtain ⟨w0, hw0⟩ : ∃ z, w.alloc (.cells #[.bool true, .int .i64 ep, .int .i64 sz, .int .i64 sp, .slice ao n cap] 33) = z := ⟨_, rfl⟩
  rw [hw0] at hE0 hB0
  rw [htb] at hB0
  have HE0 := Lib.hid hE0
  have HTB := Lib.hid htb
  have q0 : w0.cell? ⟨tb, 0, none⟩ = some (.bool true) := hB0.cell 0
  have q4 : w0.cell? ⟨tb, 4, none⟩ = some (.slice ao n cap) := hB0.cell 4
  have HB0 := Lib.hid hB0
  clear hE0 hB0
  go_enter Tryz.func41, Tryz.ntmps41
  go_upto_region 1 with fail
  clear hw0 htb
  go_upto_region 4 with (go_at_call 68; refine (CL _ HE0.out).mono ?_; rintro e w1 ⟨v1, rfl, hI1, hg1, ho1⟩; have hB1 := HB0.out.ext hg1; have q5 : w1.cell? ⟨tb, 4, none⟩ = some (.slice ao n cap) := hB1.cell 4; have f5 := hB1.free 4; have HI1 := Lib.hid (And.intro hI1 (And.intro (ext_trans HE0.out hg1) ho1)); obtain ⟨ao1, cp1, _, _, hv1, _⟩ := hI1.form; rw [HN.out] at hv1; subst hv1; clear hI1 hg1 ho1)
  have hB2 : Blk (w1.setCell ⟨tb, 4, none⟩ (.slice ao1 n cp1)) tb 33 #[.bool true, .int .i64 ep, .int .i64 sz, .int .i64 sp, .slice ao1 n cp1] := hB1.set 4 _
  have hE2 : w.grownBy (w1.setCell ⟨tb, 4, none⟩ (.slice ao1 n cp1)) none := g17_new HI1.out.2.1 (gb_set (gb_refl w1 (some tb)) _ _) (by have := HTB.out; omega)
  have hI2 := HI1.out.1.kept (gb_set (gb_refl w1 (some tb)) 4 (.slice ao1 n cp1)) (fun k hk e => by injection e with e; subst e; have h1 := (HI1.out.2.2 k hk).1; have h2 := HE0.out.size; have h3 := HTB.out; have h4 := HB0.out.lt; omega)
  obtain ⟨w2, hw2⟩ : ∃ z, w1.setCell ⟨tb, 4, none⟩ (.slice ao1 n cp1) = z := ⟨_, rfl⟩
  have hsz2 : w2.heap.size = w1.heap.size := by rw [← hw2]; simp [World.setCell]
  rw [hw2] at hB2 hE2 hI2 ⊢
  have HI2 := Lib.hid (And.intro hI2 (And.intro hE2 (And.intro HI1.out.2.2 hsz2)))
  have hS : Blk w2.drew tb 33 #[.bool true, .int .i64 ep, .int .i64 sz, .int .i64 sp, .slice ao1 n cp1] ∧ w.grownBy w2.drew none := ⟨hB2, drewE hE2⟩
  clear hw2 hB1 q0 q4 q5 f5 HI1 HB0 hI2 hE2 hB2 hsz2 CL
  refine region_line [(0, true), (1, true), (2, true), (3, true), (4, true), (5, true), (6, true), (7, false), (8, true), (9, false), (10, false), (11, false), (12, false), (13, true), (14, true)] (fun y => Blk y tb 33 #[.bool true, .int .i64 ep, .int .i64 sz, .int .i64 sp, .slice ao1 n cp1] ∧ w.grownBy y none) (by kernel_rfl) (by kernel_rfl) (fun _ _ _ d _ h => by cases d <;> exact h) hS ?_
  repeat (refine line_read (a' := ?_) rfl (by kernel_rfl) (by kernel_rfl) hS (fun y hy K hK => ?_) ?_; rotate_left; · (obtain ⟨hb, _⟩ := hy; have r0 : y.cell? ⟨tb, 0, none⟩ = some (.bool true) := hb.cell 0; have r1 : y.cell? ⟨tb, 1, none⟩ = some (.int .i64 ep) := hb.cell 1; have r2 : y.cell? ⟨tb, 2, none⟩ = some (.int .i64 sz) := hb.cell 2; have r3 : y.cell? ⟨tb, 3, none⟩ = some (.int .i64 sp) := hb.cell 3; have r4 : y.cell? ⟨tb, 4, none⟩ = some (.slice ao1 n cp1) := hb.cell 4; clear hb; go_wp2; exact hK))
  refine line_act (by rfl) (fun K hK => ?_)
  go_wp2_with (go_at_call 24; refine (GE _ hS.2).mono ?_; rintro e w3 ⟨rfl, hg3⟩)
  have hS3 : Blk w3 tb 33 #[.bool true, .int .i64 ep, .int .i64 sz, .int .i64 sp, .slice ao1 n cp1] ∧ w.grownBy w3 none := ⟨hS.1.ext hg3, ext_trans hS.2 hg3⟩
  have hg23 : w2.grownBy w3 none := ⟨hg3.os, hg3.tape, hg3.output, hg3.size, hg3.block⟩
  refine hK _ _ (fun y => Blk y tb 33 #[.bool true, .int .i64 ep, .int .i64 sz, .int .i64 sp, .slice ao1 n cp1] ∧ w.grownBy y none) hS3 (fun _ h => h) ?_
  clear hK K hg3
  repeat (refine line_read (a' := ?_) rfl (by kernel_rfl) (by kernel_rfl) hS3 (fun y hy K hK => ?_) ?_; rotate_left; · (go_wp2; exact hK))
  refine line_act (by rfl) (fun K hK => ?_)
  go_wp2_with (go_at_call 72; refine (TN _).mono ?_; rintro e w4 ⟨t4, rfl, hA4, ht4, hg4⟩)
  have hS4 : Blk w4 tb 33 #[.bool true, .int .i64 ep, .int .i64 sz, .int .i64 sp, .slice ao1 n cp1] ∧ w.grownBy w4 none := ⟨hS3.1.ext hg4, ext_trans hS3.2 hg4⟩
  refine hK _ _ (fun y => Blk y tb 33 #[.bool true, .int .i64 ep, .int .i64 sz, .int .i64 sp, .slice ao1 n cp1] ∧ w.grownBy y none) hS4 (fun _ h => h) ?_
  clear hK K
  refine line_act (by rfl) (fun K hK => ?_)
  go_wp2_with (go_at_call 73; refine (BN _).mono ?_; rintro e w5 ⟨b5, rfl, hA5, hb5, hg5⟩)
  have hS5 : Blk w5 tb 33 #[.bool true, .int .i64 ep, .int .i64 sz, .int .i64 sp, .slice ao1 n cp1] ∧ w.grownBy w5 none := ⟨hS4.1.ext hg5, ext_trans hS4.2 hg5⟩
  refine hK _ _ (fun y => Blk y tb 33 #[.bool true, .int .i64 ep, .int .i64 sz, .int .i64 sp, .slice ao1 n cp1] ∧ w.grownBy y none) hS5 (fun _ h => h) ?_
  clear hK K
  refine line_act (by rfl) (fun K hK => ?_)
  go_wp2
  refine hK _ _ (fun y => Blk y tb 33 #[.bool true, .int .i64 ep, .int .i64 sz, .int .i64 sp, .slice ao1 n cp1] ∧ w.grownBy y none) hS5 (fun _ h => h) ?_
  clear hK K
  refine line_act (by rfl) (fun K hK => ?_)
  go_wp2
  have hg6 := World.grownBy_alloc w5 (.cells #[.pointer (some ⟨S.nb, 0, none⟩), .int .i64 who, .bool true, .int .i64 ep, .int .i64 sz, .int .i64 sp, .slice ao1 n cp1, .pointer (some ⟨t4, 0, none⟩), .pointer (some ⟨b5, 0, none⟩), .int .i64 0, .int .i64 (-1), .bool false] 86) none
  have hB6 := Blk.new w5 86 #[.pointer (some ⟨S.nb, 0, none⟩), .int .i64 who, .bool true, .int .i64 ep, .int .i64 sz, .int .i64 sp, .slice ao1 n cp1, .pointer (some ⟨t4, 0, none⟩), .pointer (some ⟨b5, 0, none⟩), .int .i64 0, .int .i64 (-1), .bool false]
  have hS6 := (show Blk _ tb 33 #[.bool true, .int .i64 ep, .int .i64 sz, .int .i64 sp, .slice ao1 n cp1] ∧ w.grownBy _ none from ⟨hS5.1.ext hg6, ext_trans hS5.2 hg6⟩)
  refine hK _ _ (fun y => Blk y tb 33 #[.bool true, .int .i64 ep, .int .i64 sz, .int .i64 sp, .slice ao1 n cp1] ∧ w.grownBy y none) hS6 (fun _ h => h) ?_
  clear hK K
  repeat (refine line_read (a' := ?_) rfl (by kernel_rfl) (by kernel_rfl) hS6 (fun y hy K hK => ?_) ?_; rotate_left; · (go_wp2; exact hK))
  refine line_end ?_
  go_wp2
  go_returns
  obtain ⟨h, hR, hF, h0, hz, hV, hbl, hbr⟩ := HH.out
  obtain ⟨hI2, hE2, ho1, hsz2⟩ := HI2.out
  have hg45 := ext_trans hg4 hg5
  have hg25 := ext_trans hg23 hg45
  have hsw := hE2.size
  have hs23 := hg23.size
  have hs4 := hA4.lt
  have hs5 := hA5
  have hb5l := bufLt _ _ _ hA5
  have hsb : w4.heap.size ≤ w5.heap.size := hg5.size
  have hF0 := hF.lt
  refine ⟨⟨w5.heap.size, t4, b5, V, .slice ao1 n cp1⟩, rfl, ⟨h.ext hS6.2 hR, ?_, bufStays _ _ _ _ hA5 (hg6.block _ hb5l (by simp)), hB6, hI2.kept (ext_trans hg25 hg6) (by simp), hF.ext hS6.2⟩, ?_, rfl, hS6.2, by simp only; omega, by simp only; omega, by simp only; omega, fun k hk => by have h1 := (ho1 k hk).1; have h2 := HE0.out.size; omega⟩
  · rw [show (⟨S, zs, who, ep, sz, sp, bl⟩ : SC).bl.length = n from HN.out]
    exact (hA4.ext hg5).ext hg6
  · have hfr : ∀ k, w.heap.size ≤ k → S.T k = 0 := fun k hk => h.fresh hk
    refine ⟨hR, hz, h0, hfr _ (by simp only; omega), hfr _ (by simp only; omega), hfr _ (by simp only; omega), by simp only; omega, by simp only; omega, by simp only; omega, by simp only; omega, by simp only; omega, by simp only; omega, fun j hj k hk => ?_, fun k hk => ?_, hbl, hbr⟩
    · have := hV j hj k hk
      simp only; omega
    · have h1 := ho1 k hk
      have h2 := HE0.out.size
      exact ⟨hfr k (by omega), by simp only; omega, by simp only; omega, by simp only; omega⟩

end Go.Proofs.YtfibpgfjlmlpaaaGreatDoor
