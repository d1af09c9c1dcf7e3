/-
  Texts put together: JK JL ZN ZO.
-/
import Derived.Test.YtdnpdoipipfkoaaGreatDoorM14
import Derived.Test.YtdnpdoipipfkoaaGreatDoorM12
namespace Go.Proofs.YtdnpdoipipfkoaaGreatDoor
set_option linter.unusedVariables false
set_option linter.unusedSimpArgs false
set_option linter.unusedVariables false
set_option linter.unusedSimpArgs false
set_option maxRecDepth 100000
open Go.RowKit
theorem move_fr {c : SC} {row : List Fnd} {spoken : Int} : ∀ (j : Nat) (m m' : SM), moveF c row spoken j m = some (0, m') → ∃ b : Nat, m'.fr = b ∧ b < c.bl.length
 | 0, m, m', hm => by simp [moveF] at hm
 | j + 1, m, m', hm => by
   unfold moveF at hm
   cases hf : freeL c m with
   | nil => rw [hf] at hm; simp at hm
   | cons tg l =>
     rw [hf] at hm
     simp only at hm
     obtain ⟨b, hb, hbl, _⟩ := free_in (c := c) (m := m) (x := tg) (by rw [hf]; simp)
     split at hm
     · simp only [Option.some.injEq, Prod.mk.injEq] at hm
       rw [← hm.2]; exact ⟨b, hb, hbl⟩
     · rename_i h1
       split at hm
       · simp only [Option.some.injEq, Prod.mk.injEq] at hm
         exact absurd hm.1 h1
       · split at hm
         · rename_i h3
           simp only [Option.some.injEq, Prod.mk.injEq] at hm
           exact absurd hm.1 h3
         · exact move_fr j _ m' hm
theorem give_fr {c : SC} {m : SM} {b s : Int} : (giveM c m b s).fr = m.fr := by unfold giveM; split <;> rfl
theorem era_fr {c : SC} {m : SM} {b : Int} : (eraM c m b).fr = m.fr := by
 unfold eraM
 split
 · rfl
 · exact give_fr
theorem room_fr {c : SC} {m m' : SM} {j : Nat} (hm : roomR c m j = some (0, m')) : ∃ b : Nat, m'.fr = b ∧ b < c.bl.length := by
 unfold roomR at hm
 split at hm
 · rename_i h
   simp only [Option.some.injEq, Prod.mk.injEq] at hm
   rw [← hm.2]
   simp only [Bool.and_eq_true, hasS, decide_eq_true_eq] at h
   exact ⟨m.fr.toNat, by omega, by omega⟩
 · split at hm
   · rename_i hf
     simp only [Option.some.injEq, Prod.mk.injEq] at hm
     rw [← hm.2]
     cases hl : freeL c m with
     | nil =>
       rw [hl] at hf
       have : (0 : Int) ≤ sprN c m := by unfold sprN; split <;> omega
       simp at hf
       omega
     | cons x l =>
       obtain ⟨b, hb, hbl, _⟩ := free_in (c := c) (m := m) (x := x) (by rw [hl]; simp)
       exact ⟨b, hb, hbl⟩
   · split at hm
     · simp at hm
     · unfold collR at hm
       split at hm
       · cases hm
       · rename_i e1 m1 h1
         split at hm
         · rename_i h2
           simp only [Option.some.injEq, Prod.mk.injEq] at hm
           exact absurd hm.1 h2
         · rename_i h2
           simp only [Option.some.injEq, Prod.mk.injEq] at hm
           rw [← hm.2, era_fr]
           have h2' : e1 = 0 := by simpa using h2
           subst h2'
           unfold moveR at h1
           split at h1
           · rename_i h3
             simp only [Option.some.injEq, Prod.mk.injEq] at h1
             exact absurd h1.1 h3
           · exact move_fr _ _ _ h1
theorem put_fr {c : SC} {m : SM} {x : Chg} : (putM c m x).fr = m.fr := by unfold putM; split <;> rfl
structure ChgS (p : SP) (c : SC) (w0 wr : World) (cb : Nat) (x : Chg) (k0 : Int) (g : Nat) (e : Int) (m' m : SM) : Prop where
 st : StAt wr p c m
 wf : Wf c m (k0 + 40020 * (100 - (g : Int)))
 box : Blk wr cb 87 (chgC x)
 kp : Keeps (tS p c) w0 wr
 eq : chgR c x 100 g m = some (e, m')
 le : g ≤ 100
section
variable {w w' : World} {p : SP} {c : SC} {m : SM}
set_option maxHeartbeats 3200000 in
theorem writeChange18 (h : StAt w p c m) (ok : StOk p c) {k : Int} (wf : Wf c m k) (hs : -9223372036854775000 ≤ c.sp ∧ c.sp ≤ 9223372036854775000) (hk : k < 1152921504600000000) (x : Chg) (hd : x.dt.size ≤ 9223372036854775807) {e : Int} {m' : SM} (hm : chgR c x 100 100 m = some (e, m')) :
   Calls Tryz.prog 63 #[.pointer (some ⟨p.sb, 0, none⟩), .agg (chgC x)] w (Gs p c (.int .i64 e) m' w) := by
 have hpg := ok.R.bds.2.2.2
 have hg0 := World.grownBy_alloc w (.cells (chgC x) 87) none
 have MR := Lib.hid (fun (wx : World) (mx : SM) (hx : StAt wx p c mx) (kk : Int) (hw : Wf c mx kk) (hk : kk < 1152921504606800000) (e1 : Int) (m1 : SM) (hm : roomR c mx 100 = some (e1, m1)) => makeRoom18 hx ok hw hs hk hm)
 have PT := Lib.hid (fun (wx : World) (mx : SM) (hx : StAt wx p c mx) (kk : Int) (hw : Wf c mx kk) (hk : kk < 1152921504606846900) (b : Nat) (hb : b < c.bl.length) (hf : mx.fr = b) => put18 hx ok hw.cn hk hw.sq hb hf x hd)
 have LF := Lib.hid (fun (wx : World) (mx : SM) (hx : StAt wx p c mx) (kk : Int) (hw : Wf c mx kk) (hk : kk < 1152921504606800000) (b : Nat) (hb : b < c.bl.length) (hf : mx.fr = b) (e1 : Int) (m1 : SM) (hm : leavR c mx 100 = some (e1, m1)) => leaveFront18 hx ok hw hs hb hf hk hm)
 have hfr := h.fresh (Nat.le_refl _)
 have HS := Lib.hid (show ChgS p c w (w.alloc (.cells (chgC x) 87)) w.heap.size x k 100 e m' m from ⟨h.ext ok hg0, wf.mono (by omega), Blk.new w _ _, Keeps.ext hg0, hm, by omega⟩)
 obtain ⟨cb, hcb⟩ : ∃ z, w.heap.size = z := ⟨_, rfl⟩
 rw [hcb] at hfr HS
 have HCB := Lib.hid (And.intro hcb hfr)
 clear h wf hm hg0 hfr
 go_enter Tryz.func63, Tryz.ntmps63
 go_upto_block 0 with fail
 obtain ⟨w1, hw1⟩ : ∃ y, w.alloc (.cells (chgC x) 87) = y := ⟨_, rfl⟩
 rw [hw1] at HS ⊢
 clear hw1 hcb
 go_wp2_with fail
 go_loopg [5] 100 (fun g _ wr => ∃ mx, ChgS p c w wr cb x k g e m' mx)
 case atStart => exact ⟨m, HS.out⟩
 case round =>
   clear HS
   obtain ⟨mx, hS⟩ := hrel
   match gk, hS with
   | 0, hS => exact absurd hS.eq (by simp [chgR])
   | g + 1, hS =>
     obtain ⟨wo, rfl⟩ : ∃ wo : World, wo = wr := ⟨_, rfl⟩
     have heq := hS.eq
     have hle := hS.le
     have hwf := hS.wf
     have HS := Lib.hid hS
     unfold chgR at heq
     cases hr : roomR c mx 100 with
     | none => rw [hr] at heq; simp at heq
     | some r =>
       obtain ⟨e1, m1⟩ := r
       rw [hr] at heq
       simp only at heq
       have M1 := MR.out wo mx hS.st _ hwf (by omega) e1 m1 hr
       have hw1 := wf_room hpg hwf hr
       by_cases a0 : e1 = 0
       · rw [if_neg (by simp [a0])] at heq
         subst a0
         obtain ⟨b, hfb, hbl⟩ := room_fr hr
         have P1 := fun wx (hx : StAt wx p c m1) => PT.out wx m1 hx _ hw1 (by omega) b hbl hfb
         have hw2 := wf_put hw1 x
         have hfb2 : (putM c m1 x).fr = b := put_fr.trans hfb
         generalize putE18 c m1 x = e2 at *
         generalize putM c m1 x = m2 at *
         have L1 := fun wx (hx : StAt wx p c m2) e3 m3 (hm : leavR c m2 100 = some (e3, m3)) => LF.out wx m2 hx _ hw2 (by omega) b hbl hfb2 e3 m3 hm
         have H2 := Lib.hid (And.intro hw2 (And.intro hle (And.intro hfb hbl)))
         clear hS hwf hw1 hr hfb hfb2 hbl hle
         by_cases a1 : e2 = 10
         · rw [if_neg (by simp [a1])] at heq
           have a1' : (e2 != 10) = false := by simp [a1]
           clear a1
           cases hl : leavR c m2 100 with
           | none => rw [hl] at heq; simp at heq
           | some r3 =>
             obtain ⟨e3, m3⟩ := r3
             rw [hl] at heq
             simp only at heq
             have L2 := fun wx hx => L1 wx hx e3 m3 hl
             have hw3 := wf_leav hpg H2.out.1 hl
             have HW3 := Lib.hid hw3
             clear L1 hl hw2 hw3
             by_cases a2 : e3 = 0
             · rw [if_neg (by simp [a2])] at heq
               have a2' : (e3 != 0) = false := by simp [a2]
               have HEQ := Lib.hid heq
               clear a2 heq
               go_wp2_with (first
                 | (go_at_call 96; refine M1.mono ?_; rintro e4 w2 ⟨rfl, hA2, hk2⟩; have P2 := P1 _ hA2; have hbx : Blk w2 cb 87 (chgC x) := (hk2.block _ HS.out.box.lt HCB.out.2).trans HS.out.box; have HK2 := Lib.hid hk2; clear hA2 hk2)
                 | (refine chg_load_want rfl _ rfl rfl (hbx.range 0 3 rfl) ?_)
                 | (go_at_call 97; refine P2.mono ?_; rintro e4 w3 ⟨rfl, hA3, hk3⟩; have L3 := L2 _ hA3; have hbx3 : Blk w3 cb 87 (chgC x) := (hk3.block _ hbx.lt HCB.out.2).trans hbx; have HK3 := Lib.hid (And.intro (HK2.out.trans hk3) hbx3); clear hA3 hk3 hbx3)
                 | (go_at_call 98; refine L3.mono ?_; rintro e4 w4 ⟨rfl, hA4, hk4⟩))
               go_roundg g
               case measure => omega
               case rel => exact ⟨m3, hA4, HW3.out.mono (by have := H2.out.2.1; omega), (hk4.block _ HK3.out.2.lt HCB.out.2).trans HK3.out.2, HS.out.kp.trans (HK3.out.1.trans hk4), HEQ.out, by have := H2.out.2.1; omega⟩
             · rw [if_pos a2] at heq
               simp only [Option.some.injEq, Prod.mk.injEq] at heq
               obtain ⟨rfl, rfl⟩ := heq
               have a2' : (e3 != 0) = true := by simpa using a2
               clear a2
               go_wp2_with (first
                 | (go_at_call 96; refine M1.mono ?_; rintro e4 w2 ⟨rfl, hA2, hk2⟩; have P2 := P1 _ hA2; have hbx : Blk w2 cb 87 (chgC x) := (hk2.block _ HS.out.box.lt HCB.out.2).trans HS.out.box; have HK2 := Lib.hid hk2; clear hA2 hk2)
                 | (refine chg_load_want rfl _ rfl rfl (hbx.range 0 3 rfl) ?_)
                 | (go_at_call 97; refine P2.mono ?_; rintro e4 w3 ⟨rfl, hA3, hk3⟩; have L3 := L2 _ hA3; have HK3 := Lib.hid (HS.out.kp.trans (HK2.out.trans hk3)); clear hA3 hk3)
                 | (go_at_call 98; refine L3.mono ?_; rintro e4 w4 ⟨rfl, hA4, hk4⟩))
               go_ret
               exact ⟨rfl, hA4, HK3.out.trans hk4⟩
         · rw [if_pos a1] at heq
           simp only [Option.some.injEq, Prod.mk.injEq] at heq
           obtain ⟨rfl, rfl⟩ := heq
           have a1' : (e2 != 10) = true := by simpa using a1
           clear a1 L1 hw2
           go_wp2_with (first
             | (go_at_call 96; refine M1.mono ?_; rintro e4 w2 ⟨rfl, hA2, hk2⟩; have P2 := P1 _ hA2; have hbx : Blk w2 cb 87 (chgC x) := (hk2.block _ HS.out.box.lt HCB.out.2).trans HS.out.box; have HK2 := Lib.hid hk2; clear hA2 hk2)
             | (refine chg_load_want rfl _ rfl rfl (hbx.range 0 3 rfl) ?_)
             | (go_at_call 97; refine P2.mono ?_; rintro e4 w3 ⟨rfl, hA3, hk3⟩))
           go_ret
           exact ⟨rfl, hA3, HS.out.kp.trans (HK2.out.trans hk3)⟩
       · rw [if_pos a0] at heq
         simp only [Option.some.injEq, Prod.mk.injEq] at heq
         obtain ⟨rfl, rfl⟩ := heq
         have a0' : (e1 != 0) = true := by simpa using a0
         clear a0 hS hwf hw1 hr hle
         go_wp2_with (go_at_call 96; refine M1.mono ?_; rintro e4 w2 ⟨rfl, hA2, hk2⟩)
         go_ret
         exact ⟨rfl, hA2, HS.out.kp.trans hk2⟩
set_option maxHeartbeats 1600000 in
theorem writeFirst18 (h : StAt w p c m) (ok : StOk p c) {k : Int} (wf : Wf c m k) (hs : -9223372036854775000 ≤ c.sp ∧ c.sp ≤ 9223372036854775000) (hk : k < 1152921504600000000) {e : Int} {m' : SM} (hm : firR c 100 m = some (e, m')) :
   Calls Tryz.prog 33 #[.pointer (some ⟨p.sb, 0, none⟩)] w (Gs p c (.int .i64 e) m' w) := by
 have hpg := ok.R.bds.2.2.2
 have c8 := h.cells.2.2.2.2.2.2.2.1
 have FI := buf_first18 w p.bb m.q h.bf wf.ql
 have SA := Lib.hid (fun (wx : World) (hE : w.grownBy wx none) => h.ext ok hE)
 unfold firR at hm
 by_cases hq : m.q.length = 0
 · rw [if_pos hq] at hm
   simp only [Option.some.injEq, Prod.mk.injEq] at hm
   obtain ⟨rfl, rfl⟩ := hm
   rw [decide_eq_false (show ¬ 0 < m.q.length by omega)] at FI
   generalize firstC m.q = x at *
   clear h wf hq
   go_enter Tryz.func33, Tryz.ntmps33
   go_wp2_with (first
     | (go_at_call 62; refine FI.mono ?_; rintro e1 w1 ⟨rfl, hg1⟩; have hBn := Blk.new w1 87 (chgC noChg); have HG1 := Lib.hid hg1; clear hg1)
     | (refine chg_store (c := x) _ _ rfl rfl rfl hBn rfl rfl ?_; intro w2 hb2 hg2 hs2))
   go_ret
   have hE := g17_new (ext_trans HG1.out (World.grownBy_alloc w1 _ none)) hg2 HG1.out.size
   exact ⟨rfl, SA.out _ hE, Keeps.ext hE⟩
 · rw [if_neg hq] at hm
   rw [decide_eq_true (show 0 < m.q.length by omega)] at FI
   have hd : (firstC m.q).dt.size ≤ 16 := by
     obtain ⟨y, l, hyl⟩ : ∃ y l, m.q = y :: l := by
       cases hm2 : m.q with
       | nil => rw [hm2] at hq; simp at hq
       | cons y l => exact ⟨y, l, rfl⟩
     rw [hyl]
     exact wf.qd y (by rw [hyl]; simp)
   cases hc : chgR c (firstC m.q) 100 100 m with
   | none => rw [hc] at hm; simp at hm
   | some r =>
     obtain ⟨e1, m1⟩ := r
     rw [hc] at hm
     simp only at hm
     have WC := fun wx (hx : StAt wx p c m) => writeChange18 hx ok wf hs hk (firstC m.q) (by omega) hc
     have hw1 := wf_chg hpg 100 m k e1 m1 wf hc
     have DR := fun wx (hx : StAt wx p c m1) => buf_drop18 wx p.bb m1.q hx.bf hw1.ql
     have C8 := Lib.hid (fun wx (hx : StAt wx p c m1) => hx.cells.2.2.2.2.2.2.2.1)
     generalize firstC m.q = x at *
     generalize hdd : decide (0 < m1.q.length) = dd at *
     clear h wf hq hc hw1 hd hdd
     by_cases a0 : e1 = 0
     · rw [if_neg (by simp [a0])] at hm
       simp only [Option.some.injEq, Prod.mk.injEq] at hm
       obtain ⟨rfl, rfl⟩ := hm
       have a0' : (e1 != 0) = false := by simp [a0]
       clear a0
       go_enter Tryz.func33, Tryz.ntmps33
       go_wp2_with (first
         | (go_at_call 62; refine FI.mono ?_; rintro e1 w1 ⟨rfl, hg1⟩; have hBn := Blk.new w1 87 (chgC noChg); have HG1 := Lib.hid hg1; clear hg1)
         | (refine chg_store (c := x) _ _ rfl rfl rfl hBn rfl rfl ?_; intro w2 hb2 hg2 hs2; have hE2 := g17_new (ext_trans HG1.out (World.grownBy_alloc w1 _ none)) hg2 HG1.out.size; have W2 := WC _ (SA.out _ hE2); have HE2 := Lib.hid hE2; clear hg2 hs2 hBn hE2)
         | (refine chg_load_want rfl _ rfl rfl (hb2.range 0 3 rfl) ?_)
         | (go_at_call 63; refine W2.mono ?_; rintro e1 w3 ⟨rfl, hA3, hk3⟩; have D3 := DR _ hA3; have c8 := C8.out _ hA3; have HA3 := Lib.hid (And.intro hA3 hk3); clear hA3 hk3)
         | (go_at_call 64; refine D3.mono ?_; rintro e1 w4 ⟨rfl, hB4, hg4⟩))
       go_ret
       exact ⟨rfl, HA3.out.1.buf ok hB4 hg4, ((Keeps.ext HE2.out).trans HA3.out.2).trans (Keeps.own18 hg4 (.inr (.inr rfl)))⟩
     · rw [if_pos a0] at hm
       simp only [Option.some.injEq, Prod.mk.injEq] at hm
       obtain ⟨rfl, rfl⟩ := hm
       have a0' : (e1 != 0) = true := by simpa using a0
       clear a0 DR
       go_enter Tryz.func33, Tryz.ntmps33
       go_wp2_with (first
         | (go_at_call 62; refine FI.mono ?_; rintro e1 w1 ⟨rfl, hg1⟩; have hBn := Blk.new w1 87 (chgC noChg); have HG1 := Lib.hid hg1; clear hg1)
         | (refine chg_store (c := x) _ _ rfl rfl rfl hBn rfl rfl ?_; intro w2 hb2 hg2 hs2; have hE2 := g17_new (ext_trans HG1.out (World.grownBy_alloc w1 _ none)) hg2 HG1.out.size; have W2 := WC _ (SA.out _ hE2); have HE2 := Lib.hid hE2; clear hg2 hs2 hBn hE2)
         | (refine chg_load_want rfl _ rfl rfl (hb2.range 0 3 rfl) ?_)
         | (go_at_call 63; refine W2.mono ?_; rintro e1 w3 ⟨rfl, hA3, hk3⟩))
       go_ret
       exact ⟨rfl, hA3, (Keeps.ext HE2.out).trans hk3⟩
end
end Go.Proofs.YtdnpdoipipfkoaaGreatDoor

namespace Go.Proofs.YtdnpdoipipfkoaaGreatDoor
set_option linter.unusedVariables false
set_option linter.unusedSimpArgs false
set_option linter.unusedVariables false
set_option linter.unusedSimpArgs false
set_option maxRecDepth 100000
open Go.RowKit
theorem wf_flu {c : SC} (hp : c.S.pg ≤ 16) : ∀ (j : Nat) (m : SM) (n : Int) (e : Int) (m' : SM), Wf c m n → fluF c 100 j m = some (e, m') → Wf c m' (n + 4002000 * j)
 | 0, m, n, e, m', h, hm => by
   simp only [fluF, Option.some.injEq, Prod.mk.injEq] at hm
   rw [← hm.2]; exact h.mono (by omega)
 | j + 1, m, n, e, m', h, hm => by
   unfold fluF at hm
   split at hm
   · cases hm
   · rename_i e1 m1 h1
     have hw := wf_fir hp h h1
     split at hm
     · simp only [Option.some.injEq, Prod.mk.injEq] at hm
       rw [← hm.2]; exact hw.mono (by omega)
     · exact (wf_flu hp j m1 _ e m' hw hm).mono (by omega)
theorem wf_wai {c : SC} {m : SM} {x : Chg} {n : Int} {e : Int} {m' : SM} (hp : c.S.pg ≤ 16) (h : Wf c m n) (hm : waiR c 100 m x = some (e, m')) : Wf c m' (n + 4002000) := by
 have put : ∀ (m : SM) (n : Int), Wf c m n → ¬ 16 < x.dt.size → Wf c { m with q := putR m.q x } n := fun m n h hd => by
   have hq := h.ql
   by_cases hp0 : putE m.q x = 0
   · have he : putR m.q x = m.q ++ [x] := by unfold putR; rw [if_pos hp0]
     have h4 : m.q.length ≠ 4 := fun h4 => by
       unfold putE at hp0
       split at hp0
       · first | omega | (rw [if_pos h4] at hp0; omega)
       · rename_i h2; exact h2 hp0
     rw [he]
     refine Wf.mk' h.cn h.pg h.sq (by simp; omega) (fun y hy => ?_) h.fr
     rcases List.mem_append.1 hy with hy | hy
     · exact h.qd y hy
     · simp at hy; rw [hy]; omega
   · have he : putR m.q x = m.q := by unfold putR; rw [if_neg hp0]
     rw [he]
     exact h
 unfold waiR at hm
 split at hm
 · simp only [Option.some.injEq, Prod.mk.injEq] at hm
   rw [← hm.2]; exact h.mono (by omega)
 · split at hm
   · simp only [Option.some.injEq, Prod.mk.injEq] at hm
     rw [← hm.2]; exact h.mono (by omega)
   · rename_i hd
     split at hm
     · simp only [Option.some.injEq, Prod.mk.injEq] at hm
       rw [← hm.2]; exact h.mono (by omega)
     · split at hm
       · split at hm
         · cases hm
         · rename_i e1 m1 h1
           have hw := wf_fir hp h h1
           split at hm
           · simp only [Option.some.injEq, Prod.mk.injEq] at hm
             rw [← hm.2]; exact hw.mono (by omega)
           · simp only [Option.some.injEq, Prod.mk.injEq] at hm
             rw [← hm.2]; exact (put m1 _ hw hd).mono (by omega)
       · simp only [Option.some.injEq, Prod.mk.injEq] at hm
         rw [← hm.2]; exact (put m _ h hd).mono (by omega)
structure FluS (p : SP) (c : SC) (w0 wr : World) (k0 : Int) (n i : Nat) (e : Int) (m' m : SM) : Prop where
 st : StAt wr p c m
 wf : Wf c m (k0 + 4002000 * i)
 kp : Keeps (tS p c) w0 wr
 eq : fluF c 100 (n - i) m = some (e, m')
section
variable {w w' : World} {p : SP} {c : SC} {m : SM}
set_option maxHeartbeats 1600000 in
theorem flush18 (h : StAt w p c m) (ok : StOk p c) {k : Int} (wf : Wf c m k) (hs : -9223372036854775000 ≤ c.sp ∧ c.sp ≤ 9223372036854775000) (hk : k < 1152921504500000000) {e : Int} {m' : SM} (hm : fluR c 100 m = some (e, m')) :
   Calls Tryz.prog 12 #[.pointer (some ⟨p.sb, 0, none⟩)] w (Gs p c (.int .i64 e) m' w) := by
 have hpg := ok.R.bds.2.2.2
 obtain ⟨_, _, _, _, _, _, _, c8, _, _, c11⟩ := h.cells
 have LN := buf_len18 w p.bb m.q h.bf wf.ql
 have H0 := Lib.hid (And.intro h wf)
 have WF := Lib.hid (fun (wx : World) (mx : SM) (hx : StAt wx p c mx) (kk : Int) (hw : Wf c mx kk) (hk : kk < 1152921504600000000) (e1 : Int) (m1 : SM) (hm : firR c 100 mx = some (e1, m1)) => writeFirst18 hx ok hw hs hk hm)
 unfold fluR at hm
 cases hro : m.ro
 · rw [hro] at hm c11
   simp only [Bool.false_eq_true, if_false] at hm
   have hql := wf.ql
   obtain ⟨n, hn⟩ : ∃ z, m.q.length = z := ⟨_, rfl⟩
   rw [hn] at LN hm hql
   have HM := Lib.hid hm
   clear h wf hm hro hn
   go_enter Tryz.func12, Tryz.ntmps12
   go_wp2_with (go_at_call 32; refine LN.mono ?_; rintro e1 w1 ⟨rfl, hg1⟩; have HG1 := Lib.hid hg1; clear hg1)
   clear c8 c11 LN
   go_loopw [15] (fun i wr => ∃ (j : Nat) (mx : SM), j ≤ n ∧ i = .int .i64 j ∧ FluS p c w wr k n j e m' mx) (fun i _ => n - (intOf i).toNat)
   case atStart => exact ⟨0, m, by omega, rfl, H0.out.1.ext ok HG1.out, H0.out.2.mono (by omega), Keeps.ext HG1.out, HM.out⟩
   case round =>
     obtain ⟨j, mx, hj, rfl, hS⟩ := hrel
     obtain ⟨wo, rfl⟩ : ∃ wo : World, wo = wr := ⟨_, rfl⟩
     have HS := Lib.hid hS
     by_cases hlt : j < n
     · have heq := hS.eq
       rw [show n - j = (n - (j + 1)) + 1 by omega, fluF] at heq
       cases hf : firR c 100 mx with
       | none => rw [hf] at heq; simp at heq
       | some r =>
         obtain ⟨e1, m1⟩ := r
         rw [hf] at heq
         simp only at heq
         have W1 := WF.out wo mx hS.st _ hS.wf (by omega) e1 m1 hf
         have HW1 := Lib.hid (wf_fir hpg hS.wf hf)
         clear hS hf
         by_cases a0 : e1 = 0
         · rw [if_neg (by simp [a0])] at heq
           have a0' : (e1 != 0) = false := by simp [a0]
           have HEQ := Lib.hid heq
           clear a0 heq
           go_wp2_with (go_at_call 33; refine W1.mono ?_; rintro e2 w2 ⟨rfl, hA2, hk2⟩)
           go_roundw
           case rel => exact ⟨j + 1, m1, by omega, by go_num, hA2, HW1.out.mono (by omega), HS.out.kp.trans hk2, HEQ.out⟩
           case measure => simp [intOf]; omega
         · rw [if_pos a0] at heq
           simp only [Option.some.injEq, Prod.mk.injEq] at heq
           obtain ⟨rfl, rfl⟩ := heq
           have a0' : (e1 != 0) = true := by simpa using a0
           clear a0
           go_wp2_with (go_at_call 33; refine W1.mono ?_; rintro e2 w2 ⟨rfl, hA2, hk2⟩)
           go_ret
           exact ⟨rfl, hA2, HS.out.kp.trans hk2⟩
     · have heq := hS.eq
       rw [show n - j = 0 by omega] at heq
       simp only [fluF, Option.some.injEq, Prod.mk.injEq] at heq
       obtain ⟨rfl, rfl⟩ := heq
       obtain rfl : j = n := by omega
       clear hS
       go_wp2
       go_ret
       exact ⟨rfl, HS.out.st, HS.out.kp⟩
 · rw [hro] at hm c11
   simp only [if_true, Option.some.injEq, Prod.mk.injEq] at hm
   obtain ⟨rfl, rfl⟩ := hm
   clear h wf LN hro
   go_enter Tryz.func12, Tryz.ntmps12
   go_wp2
   go_ret
   exact ⟨rfl, H0.out.1, Keeps.refl _ _⟩
theorem put_at18 (h : StAt w p c m) (ok : StOk p c) (hq : m.q.length ≤ 4) (x : Chg) (hd : x.dt.size ≤ 9223372036854775807) : Calls Tryz.prog 61 #[.pointer (some ⟨p.bb, 0, none⟩), .agg (chgC x)] w (Gs p c (.int .i64 (putE m.q x)) { m with q := putR m.q x } w) :=
 (buf_put18 w p.bb m.q x h.bf hq hd).mono fun e w' ⟨h1, h2, h3⟩ => ⟨h1, h.buf ok h2 h3, Keeps.own18 h3 (.inr (.inr rfl))⟩
set_option maxHeartbeats 3200000 in
theorem wait18 (h : StAt w p c m) (ok : StOk p c) {k : Int} (wf : Wf c m k) (hs : -9223372036854775000 ≤ c.sp ∧ c.sp ≤ 9223372036854775000) (hk : k < 1152921504500000000) (x : Chg) (hd : x.dt.size ≤ 9223372036854775807) {e : Int} {m' : SM} (hm : waiR c 100 m x = some (e, m')) :
   Calls Tryz.prog 31 #[.pointer (some ⟨p.sb, 0, none⟩), .agg (chgC x)] w (Gs p c (.int .i64 e) m' w) := by
 have hpg := ok.R.bds.2.2.2
 have hg0 := World.grownBy_alloc w (.cells (chgC x) 87) none
 have h1 := h.ext ok hg0
 have hb1 := Blk.new w 87 (chgC x)
 have hfr := h.fresh (Nat.le_refl _)
 obtain ⟨cb, hcb⟩ : ∃ z, w.heap.size = z := ⟨_, rfl⟩
 rw [hcb] at hb1 hfr
 obtain ⟨w1, hw1⟩ : ∃ y, w.alloc (.cells (chgC x) 87) = y := ⟨_, rfl⟩
 rw [hw1] at hg0 h1 hb1
 have LK := lacks18 h1 x.pl
 have FU := buf_full18 w1 p.bb m.q h1.bf wf.ql
 have d0 : w1.cell? ⟨cb, 0, none⟩ = some (.int .i64 x.pl) := hb1.cell 0
 have d2 : w1.cell? ⟨cb, 2, none⟩ = some (.string x.dt) := hb1.cell 2
 obtain ⟨_, _, _, _, _, _, _, c8, _, _, c11⟩ := h1.cells
 have H1 := Lib.hid (And.intro h1 (And.intro (Keeps.ext (T := tS p c) hg0) (And.intro hb1 hfr)))
 have HW1 := Lib.hid hw1
 -- what is done from the last region on
 have FIN := Lib.hid (fun (wx : World) (mx : SM) (hx : StAt wx p c mx) (hq : mx.q.length ≤ 4) => put_at18 hx ok hq x hd)
 unfold waiR at hm
 have hql := wf.ql
 by_cases hl : lacE c x.pl = 0
 · rw [if_neg (by simp [hl])] at hm
   rw [hl] at LK
   by_cases h16 : 16 < x.dt.size
   · rw [if_pos h16] at hm
     simp only [Option.some.injEq, Prod.mk.injEq] at hm
     obtain ⟨rfl, rfl⟩ := hm
     have h16' : (x.dt.size : Int) > 16 := by omega
     clear h wf h1 hl h16 hb1 hg0 FU hd
     go_enter Tryz.func31, Tryz.ntmps31
     go_upto_region 1 with fail
     clear hw1
     go_wp2_with (go_at_call 40; refine LK.mono ?_; rintro e1 w2 ⟨rfl, rfl⟩)
     go_ret
     exact ⟨rfl, H1.out.1, H1.out.2.1⟩
   · rw [if_neg h16] at hm
     have h16' : ¬ (x.dt.size : Int) > 16 := by omega
     cases hro : m.ro
     · rw [hro] at c11
       rw [if_neg (by rw [hro]; decide)] at hm
       by_cases h4 : m.q.length = 4
       · rw [if_pos h4] at hm
         rw [decide_eq_true h4] at FU
         cases hf : firR c 100 m with
         | none => rw [hf] at hm; simp at hm
         | some r =>
           obtain ⟨e1, m1⟩ := r
           rw [hf] at hm
           simp only at hm
           have W1 := fun wx (hx : StAt wx p c m) => writeFirst18 hx ok wf hs (by omega) hf
           have hwf1 := wf_fir hpg wf hf
           have HQ1 := Lib.hid hwf1.ql
           have SA := Lib.hid (fun (wx : World) (hE : w1.grownBy wx none) => h1.ext ok hE)
           by_cases a0 : e1 = 0
           · rw [if_neg (by simp [a0])] at hm
             simp only [Option.some.injEq, Prod.mk.injEq] at hm
             obtain ⟨rfl, rfl⟩ := hm
             have a0' : (e1 != 0) = false := by simp [a0]
             clear h wf h1 hl h16 hb1 hg0 hro h4 hf hwf1 a0 hql hd c8
             go_enter Tryz.func31, Tryz.ntmps31
             go_upto_region 1 with fail
             clear hw1
             have c8 := H1.out.1.cells.2.2.2.2.2.2.2.1
             go_upto_region 12 with (first
               | (go_at_call 40; refine LK.mono ?_; rintro e4 w2 ⟨rfl, rfl⟩)
               | (go_at_call 60; refine FU.mono ?_; rintro e4 w3 ⟨rfl, hg3⟩; have W3 := W1 _ (SA.out _ hg3); have HG3 := Lib.hid hg3; clear hg3)
               | (go_at_call 33; refine W3.mono ?_; rintro e4 w4 ⟨rfl, hA4, hk4⟩))
             have HA4 := Lib.hid (And.intro hA4 (And.intro ((H1.out.2.1.trans (Keeps.ext HG3.out)).trans hk4) ((hk4.block _ (H1.out.2.2.1.ext HG3.out).lt H1.out.2.2.2).trans (H1.out.2.2.1.ext HG3.out))))
             clear hA4 hk4 c8
             obtain ⟨c8b, hbx⟩ : w4.cell? ⟨p.sb, 8, none⟩ = some (.pointer (some ⟨p.bb, 0, none⟩)) ∧ Blk w4 cb 87 (chgC x) := ⟨(HA4.out.1).cells.2.2.2.2.2.2.2.1, HA4.out.2.2⟩
             have hS : w4.drew.cell? ⟨p.sb, 8, none⟩ = some (.pointer (some ⟨p.bb, 0, none⟩)) ∧ Blk w4.drew cb 87 (chgC x) := ⟨c8b, hbx⟩
             have P := FIN.out w4.drew m1 ((HA4.out.1).ext ok (Ext.drew w4)) HQ1.out
             clear c8b hbx
             refine region_line [(0, true), (1, true), (2, true), (3, true), (4, true), (5, false), (6, true)] (fun y => y.cell? ⟨p.sb, 8, none⟩ = some (.pointer (some ⟨p.bb, 0, none⟩)) ∧ Blk y cb 87 (chgC x)) (by kernel_rfl) (by kernel_rfl) (fun _ _ _ d _ h => by cases d <;> exact h) hS ?_
             repeat (refine line_read (a' := ?_) rfl (by kernel_rfl) (by kernel_rfl) hS (fun y hy K hK => ?_) ?_; rotate_left; · obtain ⟨c8, hbk⟩ := hy; go_wp2_with (refine chg_load_want rfl _ rfl rfl (hbk.range 0 3 rfl) ?_); exact hK)
             refine line_act (by rfl) (fun K hK => ?_)
             go_wp2_with (go_at_call 61; refine P.mono ?_; rintro e7 w7 ⟨rfl, hA7, hk7⟩)
             have hS7 : w7.cell? ⟨p.sb, 8, none⟩ = some (.pointer (some ⟨p.bb, 0, none⟩)) ∧ Blk w7 cb 87 (chgC x) := ⟨hA7.cells.2.2.2.2.2.2.2.1, (hk7.block _ hS.2.lt H1.out.2.2.2).trans hS.2⟩
             refine hK _ _ (fun y => y.cell? ⟨p.sb, 8, none⟩ = some (.pointer (some ⟨p.bb, 0, none⟩)) ∧ Blk y cb 87 (chgC x)) hS7 (fun _ h => h) ?_
             clear hK K
             repeat (refine line_read (a' := ?_) rfl (by kernel_rfl) (by kernel_rfl) hS7 (fun y hy K hK => ?_) ?_; rotate_left; · go_wp2; exact hK)
             refine line_end ?_
             go_wp2
             go_ret
             exact ⟨rfl, hA7, (HA4.out.2.1).trans ((Keeps.ext (Ext.drew w4)).trans hk7)⟩
           · rw [if_pos a0] at hm
             simp only [Option.some.injEq, Prod.mk.injEq] at hm
             obtain ⟨rfl, rfl⟩ := hm
             have a0' : (e1 != 0) = true := by simpa using a0
             clear h wf h1 hl h16 hb1 hg0 hro h4 hf hwf1 a0 hql hd
             go_enter Tryz.func31, Tryz.ntmps31
             go_upto_region 1 with fail
             clear hw1
             go_wp2_with (first
               | (go_at_call 40; refine LK.mono ?_; rintro e4 w2 ⟨rfl, rfl⟩)
               | (go_at_call 60; refine FU.mono ?_; rintro e4 w3 ⟨rfl, hg3⟩; have W3 := W1 _ (SA.out _ hg3); have HG3 := Lib.hid hg3; clear hg3)
               | (go_at_call 33; refine W3.mono ?_; rintro e4 w4 ⟨rfl, hA4, hk4⟩))
             go_ret
             exact ⟨rfl, hA4, (H1.out.2.1.trans (Keeps.ext HG3.out)).trans hk4⟩
       · rw [if_neg h4] at hm
         rw [decide_eq_false h4] at FU
         simp only [Option.some.injEq, Prod.mk.injEq] at hm
         obtain ⟨rfl, rfl⟩ := hm
         have SA := Lib.hid (fun (wx : World) (hE : w1.grownBy wx none) => h1.ext ok hE)
         have HQ := Lib.hid hql
         clear h wf h1 hl h16 hb1 hg0 hro h4 hql hd c8
         go_enter Tryz.func31, Tryz.ntmps31
         go_upto_region 1 with fail
         clear hw1
         have c8 := H1.out.1.cells.2.2.2.2.2.2.2.1
         go_upto_region 12 with (first
           | (go_at_call 40; refine LK.mono ?_; rintro e4 w2 ⟨rfl, rfl⟩)
           | (go_at_call 60; refine FU.mono ?_; rintro e4 w3 ⟨rfl, hg3⟩))
         have HA4 := Lib.hid (And.intro (SA.out _ hg3) (And.intro (H1.out.2.1.trans (Keeps.ext hg3)) (H1.out.2.2.1.ext hg3)))
         clear hg3 c8
         obtain ⟨c8b, hbx⟩ : w3.cell? ⟨p.sb, 8, none⟩ = some (.pointer (some ⟨p.bb, 0, none⟩)) ∧ Blk w3 cb 87 (chgC x) := ⟨(HA4.out.1).cells.2.2.2.2.2.2.2.1, HA4.out.2.2⟩
         have hS : w3.drew.cell? ⟨p.sb, 8, none⟩ = some (.pointer (some ⟨p.bb, 0, none⟩)) ∧ Blk w3.drew cb 87 (chgC x) := ⟨c8b, hbx⟩
         have P := FIN.out w3.drew m ((HA4.out.1).ext ok (Ext.drew w3)) HQ.out
         clear c8b hbx
         refine region_line [(0, true), (1, true), (2, true), (3, true), (4, true), (5, false), (6, true)] (fun y => y.cell? ⟨p.sb, 8, none⟩ = some (.pointer (some ⟨p.bb, 0, none⟩)) ∧ Blk y cb 87 (chgC x)) (by kernel_rfl) (by kernel_rfl) (fun _ _ _ d _ h => by cases d <;> exact h) hS ?_
         repeat (refine line_read (a' := ?_) rfl (by kernel_rfl) (by kernel_rfl) hS (fun y hy K hK => ?_) ?_; rotate_left; · obtain ⟨c8, hbk⟩ := hy; go_wp2_with (refine chg_load_want rfl _ rfl rfl (hbk.range 0 3 rfl) ?_); exact hK)
         refine line_act (by rfl) (fun K hK => ?_)
         go_wp2_with (go_at_call 61; refine P.mono ?_; rintro e7 w7 ⟨rfl, hA7, hk7⟩)
         have hS7 : w7.cell? ⟨p.sb, 8, none⟩ = some (.pointer (some ⟨p.bb, 0, none⟩)) ∧ Blk w7 cb 87 (chgC x) := ⟨hA7.cells.2.2.2.2.2.2.2.1, (hk7.block _ hS.2.lt H1.out.2.2.2).trans hS.2⟩
         refine hK _ _ (fun y => y.cell? ⟨p.sb, 8, none⟩ = some (.pointer (some ⟨p.bb, 0, none⟩)) ∧ Blk y cb 87 (chgC x)) hS7 (fun _ h => h) ?_
         clear hK K
         repeat (refine line_read (a' := ?_) rfl (by kernel_rfl) (by kernel_rfl) hS7 (fun y hy K hK => ?_) ?_; rotate_left; · go_wp2; exact hK)
         refine line_end ?_
         go_wp2
         go_ret
         exact ⟨rfl, hA7, (HA4.out.2.1).trans ((Keeps.ext (Ext.drew w3)).trans hk7)⟩
     · rw [hro] at hm c11
       simp only [if_true, Option.some.injEq, Prod.mk.injEq] at hm
       obtain ⟨rfl, rfl⟩ := hm
       clear h wf h1 hl h16 hb1 hg0 FU hd hro
       go_enter Tryz.func31, Tryz.ntmps31
       go_upto_region 1 with fail
       clear hw1
       go_wp2_with (go_at_call 40; refine LK.mono ?_; rintro e1 w2 ⟨rfl, rfl⟩)
       go_ret
       exact ⟨rfl, H1.out.1, H1.out.2.1⟩
 · rw [if_pos hl] at hm
   simp only [Option.some.injEq, Prod.mk.injEq] at hm
   obtain ⟨rfl, rfl⟩ := hm
   have hl' : (lacE c x.pl != 0) = true := by simpa using hl
   generalize lacE c x.pl = le at *
   clear h wf h1 hl hb1 hg0 FU hd
   go_enter Tryz.func31, Tryz.ntmps31
   go_upto_region 1 with fail
   clear hw1
   go_wp2_with (go_at_call 40; refine LK.mono ?_; rintro e1 w2 ⟨rfl, rfl⟩)
   go_ret
   exact ⟨rfl, H1.out.1, H1.out.2.1⟩
theorem write18 (h : StAt w p c m) (ok : StOk p c) {k : Int} (wf : Wf c m k) (hs : -9223372036854775000 ≤ c.sp ∧ c.sp ≤ 9223372036854775000) (hk : k < 1152921504500000000) (pl : Int) (dt : ByteArray) (hd : dt.size ≤ 9223372036854775807) {e : Int} {m' : SM} (hm : waiR c 100 m ⟨pl, 1, dt⟩ = some (e, m')) :
   Calls Tryz.prog 10 #[.pointer (some ⟨p.sb, 0, none⟩), .int .i64 pl, .string dt] w (Gs p c (.int .i64 e) m' w) := by
 have W := wait18 h ok wf hs hk ⟨pl, 1, dt⟩ hd hm
 rw [show (chgC ⟨pl, 1, dt⟩) = #[.int .i64 pl, .int .i64 1, .string dt] from rfl] at W
 clear h ok wf hm
 go_enter Tryz.func10, Tryz.ntmps10
 go_wp2_with (go_at_call 31; refine W.mono ?_; rintro e1 w1 ⟨rfl, hA, hk⟩)
 go_ret
 exact ⟨rfl, hA, hk⟩
theorem trim18 (h : StAt w p c m) (ok : StOk p c) {k : Int} (wf : Wf c m k) (hs : -9223372036854775000 ≤ c.sp ∧ c.sp ≤ 9223372036854775000) (hk : k < 1152921504500000000) (pl : Int) {e : Int} {m' : SM} (hm : waiR c 100 m ⟨pl, 2, ⟨#[]⟩⟩ = some (e, m')) :
   Calls Tryz.prog 11 #[.pointer (some ⟨p.sb, 0, none⟩), .int .i64 pl] w (Gs p c (.int .i64 e) m' w) := by
 have W := wait18 h ok wf hs hk ⟨pl, 2, ⟨#[]⟩⟩ (by show (0 : Nat) ≤ 9223372036854775807; omega) hm
 rw [show (chgC ⟨pl, 2, ⟨#[]⟩⟩) = #[.int .i64 pl, .int .i64 2, .string ⟨#[]⟩] from rfl] at W
 clear h ok wf hm
 go_enter Tryz.func11, Tryz.ntmps11
 go_wp2_with (go_at_call 31; refine W.mono ?_; rintro e1 w1 ⟨rfl, hA, hk⟩)
 go_ret
 exact ⟨rfl, hA, hk⟩
theorem collectP18 (h : StAt w p c m) (ok : StOk p c) {k : Int} (wf : Wf c m k) (hs : -9223372036854775000 ≤ c.sp ∧ c.sp ≤ 9223372036854775000) (hk : k < 1152921504500000000) (b : Int) {e : Int} {m' : SM} (hm : colR c m b 100 = some (e, m')) :
   Calls Tryz.prog 14 #[.pointer (some ⟨p.sb, 0, none⟩), .int .i64 b] w (Gs p c (.int .i64 e) m' w) := by
 have HS := has18 h b
 have H0 := Lib.hid h
 obtain ⟨_, _, _, _, _, _, _, _, _, _, c11⟩ := h.cells
 unfold colR at hm
 cases hro : m.ro
 · rw [hro] at c11
   rw [if_neg (by rw [hro]; decide)] at hm
   cases hh : hasS c b
   · rw [if_pos hh] at hm
     simp only [Option.some.injEq, Prod.mk.injEq] at hm
     obtain ⟨rfl, rfl⟩ := hm
     rw [hh] at HS
     clear h wf hro hh
     go_enter Tryz.func14, Tryz.ntmps14
     go_wp2_with (go_at_call 34; refine HS.mono ?_; rintro e1 w1 ⟨rfl, rfl⟩)
     go_ret
     exact ⟨rfl, H0.out, Keeps.refl _ _⟩
   · have hin : 0 ≤ b ∧ b < c.bl.length := by unfold hasS at hh; simpa using hh
     obtain ⟨n, rfl⟩ : ∃ n : Nat, b = n := ⟨b.toNat, by omega⟩
     have hn : n < c.bl.length := by omega
     rw [if_neg (by rw [hh]; decide), Int.toNat_natCast] at hm
     rw [hh] at HS
     have MC := may18 h ok hn
     cases hmy : mayS c m n
     · rw [if_pos hmy] at hm
       simp only [Option.some.injEq, Prod.mk.injEq] at hm
       obtain ⟨rfl, rfl⟩ := hm
       rw [hmy] at MC
       clear wf hro hh hin hn hmy
       go_enter Tryz.func14, Tryz.ntmps14
       go_wp2_with (first
         | (go_at_call 34; refine HS.mono ?_; rintro e1 w1 ⟨rfl, rfl⟩)
         | (go_at_call 35; refine MC.mono ?_; rintro e1 w2 ⟨rfl, hg⟩))
       go_ret
       exact ⟨rfl, H0.out.ext ok hg, Keeps.ext hg⟩
     · rw [if_neg (by rw [hmy]; decide)] at hm
       rw [hmy] at MC
       have CO := fun wx (hx : StAt wx p c m) => collect18 hx ok wf hs hn (by omega) hm
       clear h wf hro hh hin hmy
       go_enter Tryz.func14, Tryz.ntmps14
       go_wp2_with (first
         | (go_at_call 34; refine HS.mono ?_; rintro e1 w1 ⟨rfl, rfl⟩)
         | (go_at_call 35; refine MC.mono ?_; rintro e1 w2 ⟨rfl, hg⟩; have C2 := CO _ (H0.out.ext ok hg); have HG := Lib.hid hg; clear hg)
         | (go_at_call 36; refine C2.mono ?_; rintro e1 w3 ⟨rfl, hA3, hk3⟩))
       go_ret
       exact ⟨rfl, hA3, (Keeps.ext HG.out).trans hk3⟩
 · rw [hro] at c11
   rw [if_pos hro] at hm
   simp only [Option.some.injEq, Prod.mk.injEq] at hm
   obtain ⟨rfl, rfl⟩ := hm
   clear h wf hro HS
   go_enter Tryz.func14, Tryz.ntmps14
   go_wp2
   go_ret
   exact ⟨rfl, H0.out, Keeps.refl _ _⟩
def ReadP (dt : ByteArray) (er : Int) (w : World) (e : Ending) (w' : World) : Prop := e = .returned (.tuple #[.string dt, .int .i64 er]) ∧ w.grownBy w' none
set_option maxHeartbeats 3200000 in
theorem read18 (h : StAt w p c m) (ok : StOk p c) {k : Int} (wf : Wf c m k) (q : Int) :
   Calls Tryz.prog 21 #[.pointer (some ⟨p.sb, 0, none⟩), .int .i64 q] w (ReadP (reaD c m q) (reaE c m q) w) := by
 have LK := lacks18 h q
 have LA := buf_last18 w p.bb m.q q h.bf wf.ql
 have AT := Lib.hid (fun (wx : World) (hE : w.grownBy wx none) => tabAt (h.ext ok hE).tb q)
 have FD := Lib.hid (fun (wx : World) (hE : w.grownBy wx none) (b pg : Int) => find18 (h.ext ok hE) ok wf b pg)
 have C7 := Lib.hid (fun (wx : World) (hE : w.grownBy wx none) => (h.ext ok hE).cells.2.2.2.2.2.2.1)
 have c8 := h.cells.2.2.2.2.2.2.2.1
 obtain ⟨D, hD⟩ : ∃ z, reaD c m q = z := ⟨_, rfl⟩
 obtain ⟨E, hE⟩ : ∃ z, reaE c m q = z := ⟨_, rfl⟩
 rw [hD, hE]
 unfold reaD at hD
 unfold reaE at hE
 clear h wf
 by_cases hl : lacE c q = 0
 · rw [if_neg (by simp [hl])] at hD hE
   rw [hl] at LK
   clear hl
   generalize (lastN m.q q).1 = x at *
   generalize (lastN m.q q).2 = f1 at *
   cases f1
   · simp only [Bool.false_eq_true, if_false] at hD hE
     obtain ⟨bk, hbk⟩ : ∃ z, (atN m.rs q).1 = z := ⟨_, rfl⟩
     obtain ⟨pg, hpg⟩ : ∃ z, (atN m.rs q).2.1 = z := ⟨_, rfl⟩
     obtain ⟨f2, hf2⟩ : ∃ z, (atN m.rs q).2.2 = z := ⟨_, rfl⟩
     rw [hbk, hpg, hf2] at AT hD hE
     clear hbk hpg hf2
     cases f2
     · simp only [Bool.false_eq_true, if_false] at hD hE
       subst hD hE
       go_enter Tryz.func21, Tryz.ntmps21
       go_wp2_with (first
         | (go_at_call 40; refine LK.mono ?_; rintro e1 w1 ⟨rfl, rfl⟩)
         | (go_at_call 41; refine LA.mono ?_; rintro e1 w1 ⟨rfl, hg1⟩; have hBn := Blk.new w1 87 (chgC noChg); have HG1 := Lib.hid hg1; clear hg1)
         | (refine chg_store (c := x) _ _ rfl rfl rfl hBn rfl rfl ?_; intro w2 hb2 hg2 hs2; have hE2 := g17_new (ext_trans HG1.out (World.grownBy_alloc w1 _ none)) hg2 HG1.out.size; have A2 := AT.out _ hE2; have c7 := C7.out _ hE2; have HE2 := Lib.hid hE2; clear hg2 hs2 hBn hE2 hb2)
         | (go_at_call 42; refine A2.mono ?_; rintro e1 w3 ⟨rfl, hg3⟩))
       go_returns
       exact ⟨rfl, ext_trans HE2.out hg3⟩
     · simp only [if_true] at hD hE
       have FD2 := fun wx hx => FD.out wx hx bk pg
       generalize fdF c m.n bk pg = f at *
       generalize fdE c m.n bk pg = er at *
       subst hE
       unfold FoundP at FD2
       have HD := Lib.hid hD
       clear hD
       by_cases hk2 : f.kd = 2
       · have hk2' : (f.kd == 2) = true := by simpa using hk2
         have HK := Lib.hid hk2
         clear hk2
         obtain ⟨kd, hkd⟩ : ∃ z, f.kd = z := ⟨_, rfl⟩
         rw [hkd] at hk2'
         have HKD := Lib.hid hkd
         clear hkd
         go_enter Tryz.func21, Tryz.ntmps21
         go_wp2_with (first
           | (go_at_call 40; refine LK.mono ?_; rintro e1 w1 ⟨rfl, rfl⟩)
           | (go_at_call 41; refine LA.mono ?_; rintro e1 w1 ⟨rfl, hg1⟩; have hBn := Blk.new w1 87 (chgC noChg); have HG1 := Lib.hid hg1; clear hg1)
           | (refine chg_store (c := x) _ _ rfl rfl rfl hBn rfl rfl ?_; intro w2 hb2 hg2 hs2; have hE2 := g17_new (ext_trans HG1.out (World.grownBy_alloc w1 _ none)) hg2 HG1.out.size; have A2 := AT.out _ hE2; have c7 := C7.out _ hE2; have HE2 := Lib.hid hE2; clear hg2 hs2 hBn hE2 hb2)
           | (go_at_call 42; refine A2.mono ?_; rintro e1 w3 ⟨rfl, hg3⟩; have F3 := FD2 _ (ext_trans HE2.out hg3); have HG3 := Lib.hid (ext_trans HE2.out hg3); clear hg3)
           | (go_at_call 43; refine F3.mono ?_; rintro e1 w4 ⟨rfl, hg4⟩; have hBf := Blk.new w4 108 (fndC noF); have HG4 := Lib.hid (ext_trans HG3.out hg4); clear hg4)
           | (refine fnd_store (f := f) _ _ rfl rfl rfl hBf rfl rfl ?_; intro w5 hb5 hg5 hs5; have d7 := (hb5.cell 7).trans (show (fndC f)[7]? = some (.int .i64 kd) by rw [← HKD.out]; rfl); have d9 : w5.cell? ⟨_, 9, none⟩ = some (.string f.dt) := hb5.cell 9; have HG5 := Lib.hid (g17_new (ext_trans HG4.out (World.grownBy_alloc w4 _ none)) hg5 HG4.out.size); clear hg5 hs5 hBf hb5))
         go_returns
         have hq := HD.out
         rw [if_pos HK.out] at hq
         subst hq
         exact ⟨rfl, HG5.out⟩
       · have hk2' : (f.kd == 2) = false := by simpa using hk2
         have HK := Lib.hid hk2
         clear hk2
         obtain ⟨kd, hkd⟩ : ∃ z, f.kd = z := ⟨_, rfl⟩
         rw [hkd] at hk2'
         have HKD := Lib.hid hkd
         clear hkd
         go_enter Tryz.func21, Tryz.ntmps21
         go_wp2_with (first
           | (go_at_call 40; refine LK.mono ?_; rintro e1 w1 ⟨rfl, rfl⟩)
           | (go_at_call 41; refine LA.mono ?_; rintro e1 w1 ⟨rfl, hg1⟩; have hBn := Blk.new w1 87 (chgC noChg); have HG1 := Lib.hid hg1; clear hg1)
           | (refine chg_store (c := x) _ _ rfl rfl rfl hBn rfl rfl ?_; intro w2 hb2 hg2 hs2; have hE2 := g17_new (ext_trans HG1.out (World.grownBy_alloc w1 _ none)) hg2 HG1.out.size; have A2 := AT.out _ hE2; have c7 := C7.out _ hE2; have HE2 := Lib.hid hE2; clear hg2 hs2 hBn hE2 hb2)
           | (go_at_call 42; refine A2.mono ?_; rintro e1 w3 ⟨rfl, hg3⟩; have F3 := FD2 _ (ext_trans HE2.out hg3); have HG3 := Lib.hid (ext_trans HE2.out hg3); clear hg3)
           | (go_at_call 43; refine F3.mono ?_; rintro e1 w4 ⟨rfl, hg4⟩; have hBf := Blk.new w4 108 (fndC noF); have HG4 := Lib.hid (ext_trans HG3.out hg4); clear hg4)
           | (refine fnd_store (f := f) _ _ rfl rfl rfl hBf rfl rfl ?_; intro w5 hb5 hg5 hs5; have d7 := (hb5.cell 7).trans (show (fndC f)[7]? = some (.int .i64 kd) by rw [← HKD.out]; rfl); have d9 : w5.cell? ⟨_, 9, none⟩ = some (.string f.dt) := hb5.cell 9; have HG5 := Lib.hid (g17_new (ext_trans HG4.out (World.grownBy_alloc w4 _ none)) hg5 HG4.out.size); clear hg5 hs5 hBf hb5))
         go_returns
         have hq := HD.out
         rw [if_neg HK.out] at hq
         subst hq
         exact ⟨rfl, HG5.out⟩
   · simp only [if_true] at hD hE
     subst hD hE
     go_enter Tryz.func21, Tryz.ntmps21
     go_wp2_with (first
       | (go_at_call 40; refine LK.mono ?_; rintro e1 w1 ⟨rfl, rfl⟩)
       | (go_at_call 41; refine LA.mono ?_; rintro e1 w1 ⟨rfl, hg1⟩; have hBn := Blk.new w1 87 (chgC noChg); have HG1 := Lib.hid hg1; clear hg1)
       | (refine chg_store (c := x) _ _ rfl rfl rfl hBn rfl rfl ?_; intro w2 hb2 hg2 hs2; have hE2 := g17_new (ext_trans HG1.out (World.grownBy_alloc w1 _ none)) hg2 HG1.out.size; have d2 : w2.cell? ⟨_, 2, none⟩ = some (.string x.dt) := hb2.cell 2; have HE2 := Lib.hid hE2; clear hg2 hs2 hBn hE2 hb2))
     go_returns
     exact ⟨rfl, HE2.out⟩
 · rw [if_pos hl] at hD hE
   subst hD hE
   have hl' : (lacE c q != 0) = true := by simpa using hl
   generalize lacE c q = le at *
   clear hl
   go_enter Tryz.func21, Tryz.ntmps21
   go_wp2_with (go_at_call 40; refine LK.mono ?_; rintro e1 w1 ⟨rfl, rfl⟩)
   go_returns
   exact ⟨rfl, Ext.refl _⟩
end
end Go.Proofs.YtdnpdoipipfkoaaGreatDoor

namespace Go.Proofs.YtdnpdoipipfkoaaGreatDoor
set_option linter.unusedVariables false
set_option linter.unusedSimpArgs false
set_option linter.unusedVariables false
set_option linter.unusedSimpArgs false
set_option maxRecDepth 100000
open Go.RowKit
def Plc (c : SC) (n : NS) (rs : List R14) (q : Int) (d : ByteArray) : Prop := (∃ k d0, Hold c n rs q k d0 ∧ d = if k = 2 then ⟨#[]⟩ else d0) ∨ ((∀ r ∈ rs, r.pl ≠ q) ∧ d = ⟨#[]⟩)
def Val (c : SC) (m : SM) (q : Int) (d : ByteArray) : Prop := if (lastN m.q q).2 = true then d = (lastN m.q q).1.dt else Plc c m.n m.rs q d
theorem Plc.move {c : SC} {n n' : NS} {rs rs' : List R14} (hh : ∀ q k d, Hold c n rs q k d → Hold c n' rs' q k d) (hb : ∀ r ∈ rs', ∃ r0 ∈ rs, r0.pl = r.pl) {q : Int} {d : ByteArray} (h : Plc c n rs q d) : Plc c n' rs' q d := by
 rcases h with ⟨k, d0, h1, h2⟩ | ⟨h1, h2⟩
 · exact .inl ⟨k, d0, hh q k d0 h1, h2⟩
 · exact .inr ⟨fun r hr e => by
     obtain ⟨r0, a1, a2⟩ := hb r hr
     exact h1 r0 a1 (a2.trans e), h2⟩
theorem Val.move {c : SC} {m m' : SM} (hq : m'.q = m.q) (hh : ∀ q k d, Hold c m.n m.rs q k d → Hold c m'.n m'.rs q k d) (hb : ∀ r ∈ m'.rs, ∃ r0 ∈ m.rs, r0.pl = r.pl) {q : Int} {d : ByteArray} (h : Val c m q d) : Val c m' q d := by
 unfold Val at h ⊢
 rw [hq]
 split at h
 · rename_i h1; rw [if_pos h1]; exact h
 · rename_i h1; rw [if_neg h1]; exact h.move hh hb
theorem plc_is {c : SC} {s : NS} {rs : List R14} (h : LitS s) (hB : BlOk c) (R : RsOk c s rs) (q : Int) :
   Plc c s rs q (if (atN rs q).2.2 then (if (fdF c s (atN rs q).1 (atN rs q).2.1).kd = 2 then ⟨#[]⟩ else (fdF c s (atN rs q).1 (atN rs q).2.1).dt) else ⟨#[]⟩) ∧ ((atN rs q).2.2 = true → fdE c s (atN rs q).1 (atN rs q).2.1 = 0) ∧ ∀ d, Plc c s rs q d → d = if (atN rs q).2.2 then (if (fdF c s (atN rs q).1 (atN rs q).2.1).kd = 2 then ⟨#[]⟩ else (fdF c s (atN rs q).1 (atN rs q).2.1).dt) else ⟨#[]⟩ := by
 by_cases hr : ∃ r ∈ rs, r.pl = q
 · obtain ⟨r, hr, rfl⟩ := hr
   obtain ⟨f, hf, hfl⟩ := R.pg r hr
   have hk := R.ok r hr
   obtain ⟨F1, F2⟩ := fd_is h hB ⟨hk.2.2.1, hk.2.2.2.1⟩ ⟨hk.2.2.2.2.1, hk.2.2.2.2.2⟩ hf
   rw [atN_some R.pls hr]
   simp only [if_true]
   rw [F1, F2]
   refine ⟨.inl ⟨f.kd, f.dt, ⟨r, hr, rfl, f, hf, hfl, rfl, rfl⟩, rfl⟩, fun _ => rfl, fun d hd => ?_⟩
   rcases hd with ⟨k, d0, ⟨r2, h1, h2, g, h3, h4, rfl, rfl⟩, h5⟩ | ⟨h1, _⟩
   · obtain rfl := nodup_inj R.pls h1 hr h2
     have G := fd_is h hB ⟨hk.2.2.1, hk.2.2.2.1⟩ ⟨hk.2.2.2.2.1, hk.2.2.2.2.2⟩ h3
     have : f = g := F2.symm.trans G.2
     rw [this]; exact h5
   · exact absurd rfl (h1 r hr)
 · have hn : ∀ r ∈ rs, r.pl ≠ q := fun r h1 h2 => hr ⟨r, h1, h2⟩
   rw [atN_none hn]
   refine ⟨.inr ⟨hn, rfl⟩, (fun e => by cases e), fun d hd => ?_⟩
   rcases hd with ⟨k, d0, ⟨r2, h1, h2, _⟩, _⟩ | ⟨_, h1⟩
   · exact absurd h2 (hn r2 h1)
   · exact h1
theorem lac_in {c : SC} {q : Int} (h : 0 ≤ q ∧ q < c.sz) : lacE c q = 0 := by unfold lacE; rw [if_neg (by omega)]
theorem lac_out {c : SC} {q : Int} (h : ¬ (0 ≤ q ∧ q < c.sz)) : lacE c q = 5 := by unfold lacE; rw [if_pos (by omega)]
theorem rea_is {c : SC} {m : SM} (h : LitS m.n) (hB : BlOk c) (R : RsOk c m.n m.rs) {q : Int} (hq : 0 ≤ q ∧ q < c.sz) : reaE c m q = 0 ∧ Val c m q (reaD c m q) ∧ ∀ d, Val c m q d → reaD c m q = d := by
 obtain ⟨p1, p2, p3⟩ := plc_is h hB R q
 unfold reaE reaD Val
 rw [lac_in hq, if_neg (show ¬ (0 : Int) ≠ 0 by decide), if_neg (show ¬ (0 : Int) ≠ 0 by decide)]
 cases hl : (lastN m.q q).2
 · simp only [Bool.false_eq_true, if_false]
   refine ⟨?_, p1, fun d hd => (p3 d hd).symm⟩
   cases ha : (atN m.rs q).2.2
   · rfl
   · simp only [if_true]
     exact p2 ha
 · simp only [if_true]
   exact ⟨trivial, trivial, fun d hd => hd.symm⟩
theorem lastN_cons (x : Chg) (l : List Chg) (q : Int) : lastN (x :: l) q = if (lastN l q).2 = true then lastN l q else if x.pl = q then (x, true) else (noChg, false) := by
 have key : ∀ (l : List Chg) (acc : Chg × Bool), l.foldl (fun acc x => if x.pl = q then (x, true) else acc) acc = if (lastN l q).2 = true then lastN l q else acc := by
   intro l
   induction l with
   | nil => intro acc; rfl
   | cons y l ih =>
     intro acc
     rw [List.foldl_cons, ih]
     have e : lastN (y :: l) q = if (lastN l q).2 = true then lastN l q else if y.pl = q then (y, true) else (noChg, false) := by
       show (y :: l).foldl _ (noChg, false) = _
       rw [List.foldl_cons, ih]
     rw [e]
     by_cases h1 : (lastN l q).2 = true
     · rw [if_pos h1, if_pos h1, if_pos h1]
     · rw [if_neg h1, if_neg h1]
       by_cases h2 : y.pl = q
       · simp [h2]
       · simp [h2]
 show (x :: l).foldl _ (noChg, false) = _
 rw [List.foldl_cons, key]
def ChgOk (c : SC) (x : Chg) : Prop := (0 ≤ x.pl ∧ x.pl < c.sz) ∧ (x.kd = 1 ∨ (x.kd = 2 ∧ x.dt = ⟨#[]⟩)) ∧ x.dt.size ≤ 16
theorem ChgOk.chk {c : SC} (st : Stt c) {x : Chg} (h : ChgOk c x) : chkE x.pl x.kd x.dt = 0 := by
 obtain ⟨h1, h2, h3⟩ := h
 have := st.sz
 unfold chkE
 rw [if_neg, if_neg (by omega)]
 rcases h2 with h2 | ⟨h2, h4⟩
 · omega
 · rw [h4]
   intro a
   rcases a with a | a | a | ⟨_, a⟩
   · omega
   · omega
   · omega
   · exact a rfl
structure SInv (c : SC) (m : SM) : Prop where
 lit : LitS m.n
 R : RsOk c m.n m.rs
 sm : (badN c m : Int) + sprN c m = c.sp
 mf : (badN c m : Int) ≤ m.n.M c.who.toNat
 sq : 0 ≤ m.sq
 live : m.ro = false → Live c m
 dead : m.ro = true → c.sp < m.n.M c.who.toNat
 ql : m.q.length ≤ 4
 qok : ∀ x ∈ m.q, ChgOk c x
structure CaP (c : SC) (m : SM) (e : Int) (m' : SM) : Prop where
 inv : SInv c m'
 po : m.n.po ≤ m'.n.po
 fa : ∃ f : Nat, m'.n.M c.who.toNat = m.n.M c.who.toNat + f
 ro : m.ro = true → m'.ro = true
 no : e = 13 → m'.ro = true
 er : e = 0 ∨ e = 13
theorem fir_is {c : SC} (st : Stt c) {m : SM} (I : SInv c m) (hro : m.ro = false) (hsq : m.sq ≤ 2147483647) :
   ∃ e m', firR c 100 m = some (e, m') ∧ CaP c m e m' ∧ (∀ q d, Val c m q d → Val c m' q d) ∧ (e = 0 → m'.ro = false ∧ m'.q = m.q.drop 1) ∧ (e ≠ 0 → m'.q = m.q) ∧ m'.sq + m'.q.length = m.sq + m.q.length ∧
     (∀ f : Nat, m'.n.M c.who.toNat = m.n.M c.who.toNat + f → f ≤ 10 ∧ m'.n.po ≤ m.n.po + (2 * (c.S.pg : Int) + 3) * f + c.S.pg + 1) := by
 unfold firR
 cases hq : m.q with
 | nil =>
   rw [if_pos (by rfl)]
   refine ⟨_, _, rfl, ⟨I, Int.le_refl _, ⟨0, by simp⟩, id, (fun e => by cases e), .inl rfl⟩, fun _ _ h => h, fun _ => ⟨hro, by rw [hq]; rfl⟩, fun e => absurd rfl e, by rw [hq], fun f hf => ?_⟩
   obtain rfl : f = 0 := by omega
   simp
   omega
 | cons x l =>
   rw [if_neg (by simp)]
   obtain ⟨hx, hk, hd⟩ := I.qok x (by rw [hq]; simp)
   have L := I.live hro
   have hspr : sprN c m < 100 := by have := I.sm; have := st.sp; omega
   obtain ⟨e, m', h', V⟩ := chg_is st hx (by rcases hk with a | ⟨a, _⟩; exact .inl a; exact .inr a) (by omega) (k := 100) (by omega) 100 m I.lit I.R L I.sm ⟨I.sq, hsq⟩ (by exact_mod_cast hspr)
   rw [show firstC (x :: l) = x from rfl, h']
   simp only
   have hq' : m'.q = x :: l := V.q.trans hq
   have hql := I.ql
   rw [hq, List.length_cons] at hql
   have hqok : ∀ y ∈ l, ChgOk c y := fun y hy => I.qok y (by rw [hq]; simp [hy])
   have hsm := I.mf
   obtain ⟨f, f1, f2, f3, f3b, f4⟩ := V.res
   have hspr' := spr_nn c m'
   have hsm' := V.sm
   have hsp := st.sp
   have hpo : ∀ f' : Nat, m'.n.M c.who.toNat = m.n.M c.who.toNat + f' → f' ≤ 10 ∧ m'.n.po ≤ m.n.po + (2 * (c.S.pg : Int) + 3) * f' + c.S.pg + 1 := fun f' hf' => by
     obtain rfl : f' = f := by omega
     exact ⟨by omega, f2⟩
   rcases f4 with ⟨g0, g1, g2, g3, g4, g5, g6⟩ | ⟨g0, g1, g2, g3, g4, g5⟩
   · rw [if_neg (by rw [g0]; decide), hq', List.drop_succ_cons, List.drop_zero]
     refine ⟨_, _, rfl, ⟨⟨V.lit, V.R, V.sm, by show (badN c m' : Int) ≤ m'.n.M c.who.toNat; omega, by show 0 ≤ m'.sq; have := I.sq; omega, fun _ => ⟨g6.fr, g6.J⟩, (fun e => by have : m'.ro = true := e; rw [g1, hro] at this; cases this), by simp only; omega, hqok⟩, V.po, ⟨f, f1⟩, (fun e => by rw [hro] at e; cases e), (fun e => by cases e), .inl rfl⟩, fun q d hv => ?_, fun _ => ⟨g1.trans hro, by rfl⟩, fun e => absurd rfl e, by simp only [List.length_cons]; omega, hpo⟩
     unfold Val at hv ⊢
     rw [hq, lastN_cons] at hv
     simp only
     by_cases h1 : (lastN l q).2 = true
     · rw [if_pos h1] at hv ⊢
       rw [if_pos h1] at hv
       exact hv
     · rw [if_neg h1] at hv ⊢
       by_cases h2 : x.pl = q
       · rw [if_pos h2, if_pos rfl] at hv
         subst h2
         refine .inl ⟨_, _, g4, ?_⟩
         rw [hv]
         rcases hk with a | ⟨a, b⟩
         · rw [if_neg (by omega)]
         · rw [b]; simp
       · rw [if_neg h2, if_neg (by decide)] at hv
         rcases hv with ⟨k, d0, h3, h4⟩ | ⟨h3, h4⟩
         · exact .inl ⟨k, d0, g3 q k d0 (fun e => h2 e.symm) h3, h4⟩
         · refine .inr ⟨fun r hr e => ?_, h4⟩
           rcases g5 r hr with a | ⟨r0, a1, a2⟩
           · exact h2 (a.symm.trans e)
           · exact h3 r0 a1 (a2.trans e)
   · rw [if_pos (by rw [g0]; decide)]
     refine ⟨_, _, rfl, ⟨⟨V.lit, V.R, V.sm, by omega, by rw [g2]; exact I.sq, (fun e => by rw [g1] at e; cases e), fun _ => by omega, by rw [hq']; simpa using hql, by rw [hq', ← hq]; exact I.qok⟩, V.po, ⟨f, f1⟩, fun _ => g1, fun _ => g1, .inr g0⟩, fun q d hv => hv.move V.q g3 g4, (fun e => by rw [g0] at e; cases e), fun _ => hq', by rw [hq', g2], hpo⟩
end Go.Proofs.YtdnpdoipipfkoaaGreatDoor

namespace Go.Proofs.YtdnpdoipipfkoaaGreatDoor
set_option linter.unusedVariables false
set_option linter.unusedSimpArgs false
set_option linter.unusedVariables false
set_option linter.unusedSimpArgs false
set_option maxRecDepth 100000
open Go.RowKit
theorem put_ok18 {c : SC} (st : Stt c) {q : List Chg} {x : Chg} (h : ChgOk c x) (hl : q.length ≤ 3) : putE q x = 0 ∧ putR q x = q ++ [x] := by
 have e : putE q x = 0 := by unfold putE; rw [if_pos (h.chk st), if_neg (by omega)]
 exact ⟨e, by unfold putR; rw [if_pos e]⟩
theorem SInv.more {c : SC} {m : SM} (I : SInv c m) {x : Chg} (h : ChgOk c x) (hl : m.q.length ≤ 3) : SInv c { m with q := m.q ++ [x] } :=
 ⟨I.lit, I.R, I.sm, I.mf, I.sq, fun e => ⟨(I.live e).fr, (I.live e).J⟩, I.dead, by simp; omega, fun y hy => by
   rcases List.mem_append.1 hy with hy | hy
   · exact I.qok y hy
   · simp at hy; rw [hy]; exact h⟩
theorem val_more {c : SC} {m : SM} {x : Chg} {q : Int} {d : ByteArray} (h : if q = x.pl then d = x.dt else Val c m q d) : Val c { m with q := m.q ++ [x] } q d := by
 unfold Val at h ⊢
 simp only
 rw [lastN_snoc]
 by_cases e : x.pl = q
 · rw [if_pos e, if_pos rfl]
   rw [if_pos e.symm] at h
   exact h
 · rw [if_neg e]
   rw [if_neg (fun a => e a.symm)] at h
   exact h
structure WaP (c : SC) (m : SM) (x : Chg) (e : Int) (m' : SM) : Prop where
 inv : SInv c m'
 po : m.n.po ≤ m'.n.po
 fa : ∃ f : Nat, m'.n.M c.who.toNat = m.n.M c.who.toNat + f ∧ f ≤ 10 ∧ m'.n.po ≤ m.n.po + (2 * (c.S.pg : Int) + 3) * f + c.S.pg + 1
 sq : m'.sq + m'.q.length ≤ m.sq + m.q.length + 1
 ro : m.ro = true → m'.ro = true
 res : (¬ (0 ≤ x.pl ∧ x.pl < c.sz) ∧ e = 5 ∧ m' = m) ∨ ((0 ≤ x.pl ∧ x.pl < c.sz) ∧ 16 < x.dt.size ∧ e = 3 ∧ m' = m) ∨
   ((0 ≤ x.pl ∧ x.pl < c.sz) ∧ x.dt.size ≤ 16 ∧ ((e = 0 ∧ m.ro = false ∧ m'.ro = false ∧ ∀ q d, (if q = x.pl then d = x.dt else Val c m q d) → Val c m' q d) ∨ (e = 13 ∧ m'.ro = true ∧ ∀ q d, Val c m q d → Val c m' q d)))
theorem fa_none {c : SC} (m : SM) : ∃ f : Nat, m.n.M c.who.toNat = m.n.M c.who.toNat + f ∧ f ≤ 10 ∧ m.n.po ≤ m.n.po + (2 * (c.S.pg : Int) + 3) * f + c.S.pg + 1 := ⟨0, by simp, by omega, by simp; omega⟩
theorem wai_is {c : SC} (st : Stt c) {m : SM} (I : SInv c m) (hsq : m.sq ≤ 2147483647) {x : Chg} (hk : x.kd = 1 ∨ (x.kd = 2 ∧ x.dt = ⟨#[]⟩)) : ∃ e m', waiR c 100 m x = some (e, m') ∧ WaP c m x e m' := by
 unfold waiR
 by_cases hx : 0 ≤ x.pl ∧ x.pl < c.sz
 · rw [lac_in hx, if_neg (by decide)]
   by_cases hd : 16 < x.dt.size
   · rw [if_pos hd]
     exact ⟨_, _, rfl, ⟨I, Int.le_refl _, fa_none m, by omega, id, .inr (.inl ⟨hx, hd, rfl, rfl⟩)⟩⟩
   · rw [if_neg hd]
     have hok : ChgOk c x := ⟨hx, hk, by omega⟩
     by_cases hro : m.ro = true
     · rw [if_pos hro]
       exact ⟨_, _, rfl, ⟨I, Int.le_refl _, fa_none m, by omega, id, .inr (.inr ⟨hx, by omega, .inr ⟨rfl, hro, fun _ _ h => h⟩⟩)⟩⟩
     · rw [if_neg hro]
       have hrf : m.ro = false := by cases h : m.ro; rfl; exact absurd h hro
       by_cases h4 : m.q.length = 4
       · rw [if_pos h4]
         obtain ⟨e1, m1, h1, C, hv, h0, hn, hs, hp⟩ := fir_is st I hrf hsq
         rw [h1]
         simp only
         obtain ⟨f, hf⟩ := C.fa
         by_cases he : e1 = 0
         · rw [if_neg (by rw [he]; decide)]
           obtain ⟨a1, a2⟩ := h0 he
           have hl : m1.q.length ≤ 3 := by rw [a2, List.length_drop]; omega
           obtain ⟨p1, p2⟩ := put_ok18 st hok hl
           rw [p1, p2]
           refine ⟨_, _, rfl, ⟨C.inv.more hok hl, C.po, ⟨f, hf, hp f hf⟩, by simp only [List.length_append, List.length_singleton]; omega, fun e => absurd e hro, .inr (.inr ⟨hx, by omega, .inl ⟨rfl, hrf, a1, fun q d h => val_more ?_⟩⟩)⟩⟩
           by_cases e : q = x.pl
           · rw [if_pos e] at h ⊢; exact h
           · rw [if_neg e] at h ⊢; exact hv q d h
         · rw [if_pos he]
           have h13 : e1 = 13 := C.er.resolve_left he
           exact ⟨_, _, rfl, ⟨C.inv, C.po, ⟨f, hf, hp f hf⟩, by omega, fun e => absurd e hro, .inr (.inr ⟨hx, by omega, .inr ⟨h13, C.no h13, hv⟩⟩)⟩⟩
       · rw [if_neg h4]
         have hl : m.q.length ≤ 3 := by have := I.ql; omega
         obtain ⟨p1, p2⟩ := put_ok18 st hok hl
         rw [p1, p2]
         exact ⟨_, _, rfl, ⟨I.more hok hl, Int.le_refl _, fa_none m, by simp only [List.length_append, List.length_singleton]; omega, id, .inr (.inr ⟨hx, by omega, .inl ⟨rfl, hrf, hrf, fun q d h => val_more h⟩⟩)⟩⟩
 · rw [lac_out hx, if_pos (by decide)]
   exact ⟨_, _, rfl, ⟨I, Int.le_refl _, fa_none m, by omega, id, .inl ⟨hx, rfl, rfl⟩⟩⟩
end Go.Proofs.YtdnpdoipipfkoaaGreatDoor
