/-
  Texts put together: KB NO NP VD.
-/
import Derived.Test.YteionppcjgggiaaGreatM12
import Derived.Lib.SmallJoins
import Derived.Test.YteionppcjgggiaaGreatM09
/-
  Layer 12: saving a ledger: what it answers and leaves, and what is told behind it.
-/
namespace Go.Proofs.YteionppcjgggiaaGreat
set_option linter.unusedVariables false
set_option linter.unusedSimpArgs false
set_option maxRecDepth 100000
open Go.RowKit

def progAt (S : NShape) (zs : Nat → List Int) (x : Led) (n p : Int) (b : Nat) (s : NS) : NS × Int :=
  (progS S zs s 4 b (nextN (s.L b) S.pg : Nat) [] (strOfNums (snL x n p)), progE S zs s 4 b (nextN (s.L b) S.pg : Nat) 0 (strOfNums (snL x n p)).size)
/-- What saving answers, and what it leaves. -/
def saveN (S : NShape) (zs : Nat → List Int) (x : Led) (n p : Int) (s : NS) : NS × Int :=
  if s.off = true then (s, 12)
  else if snE x n p ≠ 0 then (s, snE x n p)
  else if x.gen ≤ hiGen (newestN n p S.pg s.L) then (s, 2)
  else if nextN (s.L (blkOf (newestN n p S.pg s.L))) S.pg < S.pg then progAt S zs x n p (blkOf (newestN n p S.pg s.L)) s
  else if nextN (s.L (1 - blkOf (newestN n p S.pg s.L))) S.pg = 0 then progAt S zs x n p (1 - blkOf (newestN n p S.pg s.L)) s
  else if ersE S zs s 4 (1 - blkOf (newestN n p S.pg s.L) : Nat) ≠ 0 then (ersS S zs s 4 (1 - blkOf (newestN n p S.pg s.L) : Nat), ersE S zs s 4 (1 - blkOf (newestN n p S.pg s.L) : Nat))
  else progAt S zs x n p (1 - blkOf (newestN n p S.pg s.L)) (ersS S zs s 4 (1 - blkOf (newestN n p S.pg s.L) : Nat))

theorem hasB_at {S : NShape} {b : Nat} (h : b < S.all) : hasB S b = true := by unfold hasB; exact decide_eq_true (by omega)
theorem lackE_at {S : NShape} {b j : Nat} (h : b < S.all) (hj : j < S.pg) : lackE S b j = 0 := by
  unfold lackE
  rw [hasB_at h, if_pos rfl, if_pos (by omega)]
theorem prog_at {S : NShape} {zs : Nat → List Int} {x : Led} {n p : Int} {b : Nat} {s : NS} (hb : b < S.all) (hj : nextN (s.L b) S.pg < S.pg) (hm : s.mr b = false) (hs : (strOfNums (snL x n p)).size ≤ 160) :
    progAt S zs x n p b s = (operS zs s 4 (tornPg b (nextN (s.L b) S.pg)) (turnPg b (nextN (s.L b) S.pg) ⟨1, [], strOfNums (snL x n p)⟩), operE zs s 4) := by
  unfold progAt progS progE
  rw [lackE_at hb hj]
  simp only [Int.toNat_natCast, true_and, if_true]
  rw [if_pos ⟨by simp; omega, hm, trivial⟩, if_neg (by omega), hm]
  simp
theorem ers_at {S : NShape} {zs : Nat → List Int} {b : Nat} {s : NS} (hb : b < S.all) (hm : s.mr b = false) :
    ersS S zs s 4 b = operS zs s 4 (fillPg b S.pg 2) (eraseS b S.pg) ∧ ersE S zs s 4 b = operE zs s 4 := by
  unfold ersS ersE
  rw [hasB_at hb]
  simp only [Int.toNat_natCast, hm]
  exact ⟨rfl, rfl⟩

/-- An operation of the admin's. -/
theorem oper_three (zs : Nat → List Int) (s : NS) (sp dn : NS → NS) :
    (operS zs s 4 sp dn = dn (spendS s) ∧ operE zs s 4 = 0 ∧ (spendS s).off = s.off ∧ s.off = false) ∨ (operS zs s 4 sp dn = sp (spendS s) ∧ operE zs s 4 = 12) ∨ (operS zs s 4 sp dn = spendS s ∧ operE zs s 4 = 12) := by
  rw [admin_S, admin_E]
  rcases spE_cases s.px s.off with h | h | h
  · rw [h]; exact .inr (.inr ⟨rfl, rfl⟩)
  · rw [h]; exact .inr (.inl ⟨rfl, rfl⟩)
  · rw [h]
    refine .inl ⟨rfl, rfl, ?_⟩
    unfold spE at h
    split at h
    · cases h
    · rename_i ho
      split at h
      · cases h
      · rename_i hx
        simp only [Bool.not_eq_true] at ho
        refine ⟨?_, ho⟩
        show spG s.px s.off = s.off
        unfold spG
        simp [ho, hx]

theorem turn_L (i j : Nat) (x : Pg) (s : NS) (i' j' : Nat) : (turnPg i j x s).L i' j' = if i' = i ∧ j' = j then x else s.L i' j' := by
  unfold turnPg
  dsimp only
  by_cases e : i' = i
  · subst e
    by_cases e2 : j' = j
    · subst e2; simp
    · simp [e2]
  · simp [e]
theorem fill_L (i pg : Nat) (x : Int) (s : NS) (i' j' : Nat) : (fillPg i pg x s).L i' j' = if i' = i ∧ j' < pg then Pg.none x else s.L i' j' := by
  unfold fillPg fillTo
  dsimp only
  by_cases e : i' = i
  · subst e
    by_cases e2 : j' < pg
    · simp [e2]
    · simp [e2]
  · simp [e]

section
variable {S : NShape} {zs : Nat → List Int} {s : NS} {n p : Int} {now x : Led}

/-- The page of a ledger that may be tells it. -/
theorem page_tells (h : RightP x n p) (hn0 : -9223372036854775000 ≤ n) (hn : n ≤ 64) : ∃ m, pgLed n p ⟨1, [], strOfNums (snL x n p)⟩ = some m ∧ EqL m x := by
  obtain ⟨_, e2, e3, e4⟩ := snap_back h hn0 (by omega)
  have hF := h.fits (by omega) hn0
  have hb : byt (strOfNums (snL x n p)) = frL 76 (bodyL x) := by rw [e2]; exact byt_str (frL_byts (bodyTo_byts hF 4 (by omega)))
  refine ⟨_, ?_, e4⟩
  unfold pgLed
  simp only [hb]
  rw [if_pos ⟨trivial, e3⟩]
theorem page_fits (h : RightP x n p) (hn0 : -9223372036854775000 ≤ n) (hn : n ≤ 64) : (strOfNums (snL x n p)).size ≤ 160 := by
  rw [str_size, (snap_back h hn0 (by omega)).2.1]
  have := snap_fits h hn
  omega

/-- Behind an operation on a page that was blank. -/
theorem prog_tells {b : Nat} (hT : Tells n p S.pg s.L now) (hb : b < 2) (hall : 2 ≤ S.all) (hj : nextN (s.L b) S.pg < S.pg) (hm : s.mr b = false) (hR : RightP x n p) (hx : now.gen < x.gen) (hn0 : -9223372036854775000 ≤ n) (hn : n ≤ 64) :
    ((progAt S zs x n p b s).2 = 0 ∧ Tells n p S.pg (progAt S zs x n p b s).1.L x) ∨ ((progAt S zs x n p b s).2 = 12 ∧ Tells n p S.pg (progAt S zs x n p b s).1.L now) := by
  rw [prog_at (by omega) hj hm (page_fits hR hn0 hn)]
  have hbl : pgLed n p (s.L b (nextN (s.L b) S.pg)) = none := pgLed_blank (by rw [nextN_past (s.L b) S.pg _ (Nat.le_refl _) hj]; decide)
  obtain ⟨m0, hm0, he0⟩ := page_tells hR hn0 hn
  rcases oper_three zs s (tornPg b (nextN (s.L b) S.pg)) (turnPg b (nextN (s.L b) S.pg) ⟨1, [], strOfNums (snL x n p)⟩) with ⟨e1, e2, _⟩ | ⟨e1, e2⟩ | ⟨e1, e2⟩
  · refine .inl ⟨e2, ?_⟩
    rw [e1]
    refine hT.more hx (b0 := b) (j0 := nextN (s.L b) S.pg) hb hj (by rw [turn_L, if_pos ⟨rfl, rfl⟩]; exact hm0) he0 (fun c _ j _ => ?_)
    by_cases e : c = b ∧ j = nextN (s.L b) S.pg
    · exact .inl e
    · exact .inr (fun m h => by rw [turn_L, if_neg e] at h; exact h)
  · refine .inr ⟨e2, ?_⟩
    rw [e1]
    have hL : ∀ c j, (tornPg b (nextN (s.L b) S.pg) (spendS s)).L c j = if c = b ∧ j = nextN (s.L b) S.pg then { s.L b (nextN (s.L b) S.pg) with st := 2 } else s.L c j := fun c j => turn_L _ _ _ _ _ _
    refine hT.less (fun c _ j _ m h => ?_) (fun j _ m h => ?_)
    · rw [hL] at h
      split at h
      · rw [pgLed_blank (show (2 : Int) ≠ 1 by decide)] at h; cases h
      · exact h
    · rw [hL]
      split
      · rename_i e
        rw [e.1, e.2, hbl] at h; cases h
      · exact h
  · refine .inr ⟨e2, ?_⟩
    rw [e1]
    exact hT

theorem spend_mr (s : NS) : (spendS s).mr = s.mr := rfl
theorem prog_mr {b : Nat} (hb : b < S.all) (hj : nextN (s.L b) S.pg < S.pg) (hm : s.mr b = false) (hs : (strOfNums (snL x n p)).size ≤ 160) : (progAt S zs x n p b s).1.mr = s.mr := by
  rw [prog_at hb hj hm hs]
  rcases oper_three zs s (tornPg b (nextN (s.L b) S.pg)) (turnPg b (nextN (s.L b) S.pg) ⟨1, [], strOfNums (snL x n p)⟩) with ⟨e1, _⟩ | ⟨e1, _⟩ | ⟨e1, _⟩ <;> rw [e1] <;> rfl

theorem nextN_fill {i pg : Nat} {s : NS} : nextN ((fillPg i pg 0 s).L i) pg = 0 := by
  have : ∀ k, k ≤ pg → nextN ((fillPg i pg 0 s).L i) k = 0 := fun k => by
    induction k with
    | zero => intro _; rfl
    | succ k ih =>
      intro hk
      have e : (fillPg i pg 0 s).L i k = Pg.none 0 := by rw [fill_L, if_pos ⟨rfl, by omega⟩]
      unfold nextN
      rw [e, if_pos (show (Pg.none 0).st = 0 from rfl), ih (by omega)]
  exact this pg (Nat.le_refl _)
theorem erase_L (i pg : Nat) (s : NS) : (eraseS i pg s).L = (fillPg i pg 0 s).L := rfl

/-- Behind an erasing of the block that isn't the newest's. -/
theorem ers_tells (hT : Tells n p S.pg s.L now) (hall : 2 ≤ S.all) (hm : s.mr (1 - blkOf (newestN n p S.pg s.L)) = false) {b : Nat} (hb : b = 1 - blkOf (newestN n p S.pg s.L)) :
    Tells n p S.pg (ersS S zs s 4 b).L now ∧ (ersS S zs s 4 b).mr = s.mr ∧ (ersE S zs s 4 b = 12 ∨ ersE S zs s 4 b = 0 ∧ nextN ((ersS S zs s 4 b).L b) S.pg = 0) := by
  have hk := hT.newest.2.2
  have hne : b ≠ blkOf (newestN n p S.pg s.L) := by omega
  rw [(ers_at (zs := zs) (show b < S.all by omega) (hb ▸ hm)).1, (ers_at (zs := zs) (show b < S.all by omega) (hb ▸ hm)).2]
  have key : ∀ v, v ≠ 1 → Tells n p S.pg (fillPg b S.pg v (spendS s)).L now := fun v hv => by
    refine hT.less (fun c _ j _ m h => ?_) (fun j _ m h => ?_)
    · rw [fill_L] at h
      split at h
      · rw [pgLed_blank hv] at h; cases h
      · exact h
    · rw [fill_L, if_neg (fun e => hne e.1.symm)]
      exact h
  rcases oper_three zs s (fillPg b S.pg 2) (eraseS b S.pg) with ⟨e1, e2, _⟩ | ⟨e1, e2⟩ | ⟨e1, e2⟩
  · rw [e1, e2]
    exact ⟨by rw [erase_L]; exact key 0 (by decide), rfl, .inr ⟨rfl, by rw [erase_L]; exact nextN_fill⟩⟩
  · rw [e1, e2]
    exact ⟨key 2 (by decide), rfl, .inl rfl⟩
  · rw [e1, e2]
    exact ⟨hT, rfl, .inl rfl⟩

/-- SAVING: it is told OK, and the ledger is the newest; or the power went, and the one ahead of it is. -/
theorem save_tells (hT : Tells n p S.pg s.L now) (hall : 2 ≤ S.all) (hpg : 0 < S.pg) (hm : s.mr 0 = false ∧ s.mr 1 = false) (hR : RightP x n p) (hx : now.gen < x.gen) (hn0 : -9223372036854775000 ≤ n) (hn : n ≤ 64) :
    (((saveN S zs x n p s).2 = 0 ∧ Tells n p S.pg (saveN S zs x n p s).1.L x) ∨ ((saveN S zs x n p s).2 = 12 ∧ Tells n p S.pg (saveN S zs x n p s).1.L now)) ∧ (saveN S zs x n p s).1.mr = s.mr := by
  obtain ⟨h1, h2, h3⟩ := hT.newest
  have hmr : ∀ b, b < 2 → s.mr b = false := fun b hb => by
    have : b = 0 ∨ b = 1 := by omega
    rcases this with rfl | rfl
    · exact hm.1
    · exact hm.2
  have hs := page_fits hR hn0 hn
  unfold saveN
  by_cases ho : s.off = true
  · rw [if_pos ho]
    exact ⟨.inr ⟨rfl, hT⟩, rfl⟩
  rw [if_neg ho, (snap_back hR hn0 (by omega)).1, if_neg (by simp), h2, if_neg (by omega)]
  by_cases hj : nextN (s.L (blkOf (newestN n p S.pg s.L))) S.pg < S.pg
  · rw [if_pos hj]
    exact ⟨prog_tells hT h3 hall hj (hmr _ h3) hR hx hn0 hn, prog_mr (by omega) hj (hmr _ h3) hs⟩
  rw [if_neg hj]
  by_cases hz : nextN (s.L (1 - blkOf (newestN n p S.pg s.L))) S.pg = 0
  · rw [if_pos hz]
    exact ⟨prog_tells hT (by omega) hall (by omega) (hmr _ (by omega)) hR hx hn0 hn, prog_mr (by omega) (by omega) (hmr _ (by omega)) hs⟩
  rw [if_neg hz]
  obtain ⟨t1, t2, t3⟩ := ers_tells (zs := zs) hT hall (hmr _ (by omega)) rfl
  by_cases he : ersE S zs s 4 (1 - blkOf (newestN n p S.pg s.L) : Nat) ≠ 0
  · rw [if_pos he]
    rcases t3 with t3 | ⟨t3, _⟩
    · exact ⟨.inr ⟨t3, t1⟩, t2⟩
    · exact absurd t3 he
  · rw [if_neg he]
    rcases t3 with t3 | ⟨_, t4⟩
    · rw [t3] at he; exact absurd (by decide) he
    · have hm2 : (ersS S zs s 4 (1 - blkOf (newestN n p S.pg s.L) : Nat)).mr (1 - blkOf (newestN n p S.pg s.L)) = false := by rw [t2]; exact hmr _ (by omega)
      exact ⟨prog_tells t1 (by omega) hall (by omega) hm2 hR hx hn0 hn, by rw [prog_mr (by omega) (by omega) hm2 hs, t2]⟩

/-- A ledger that may not be, or isn't newer, is refused. -/
theorem save_refused (hT : Tells n p S.pg s.L now) (ho : s.off = false) (hn0 : -9223372036854775000 ≤ n) (hn : n ≤ 64) (h : ¬ RightP x n p ∨ x.gen ≤ now.gen) : saveN S zs x n p s = (s, 2) := by
  obtain ⟨h1, h2, h3⟩ := hT.newest
  unfold saveN
  rw [if_neg (by rw [ho]; simp)]
  by_cases hR : RightP x n p
  · rw [(snap_back hR hn0 (by omega)).1, if_neg (by simp), h2, if_pos]
    rcases h with h | h
    · exact absurd hR h
    · exact h
  · have hr : rightL x (min n 256) p = false := by
      rw [show min n 256 = n by omega]
      cases hh : rightL x n p
      · rfl
      · exact absurd ((rightL_iff hn0 (by omega)).1 hh) hR
    have e : snE x n p = 2 := by unfold snE; rw [hr]; rfl
    rw [e, if_pos (by decide)]

/-- While the power lasts. -/
theorem calm_oper {c : Int} (hc : Calm s c) (sp dn : NS → NS) : operS zs s 4 sp dn = dn (spendS s) ∧ operE zs s 4 = 0 ∧ Calm (spendS s) (c + 2) := by
  rw [admin_S, admin_E, hc.px, hc.off]
  exact ⟨rfl, rfl, by have := calm_spend hc zs 4; rw [admin_D] at this; exact this⟩
theorem turn_calm {c : Int} (hc : Calm s c) (i j : Nat) (y : Pg) : Calm (turnPg i j y s) c := calm_of hc rfl rfl rfl rfl rfl hc.cnt.er
theorem prog_calm {b : Nat} {c : Int} (hc : Calm s c) (hb : b < S.all) (hj : nextN (s.L b) S.pg < S.pg) (hm : s.mr b = false) (hs : (strOfNums (snL x n p)).size ≤ 160) : (progAt S zs x n p b s).2 = 0 ∧ Calm (progAt S zs x n p b s).1 (c + 2) := by
  rw [prog_at hb hj hm hs]
  obtain ⟨e1, e2, e3⟩ := calm_oper (zs := zs) hc (tornPg b (nextN (s.L b) S.pg)) (turnPg b (nextN (s.L b) S.pg) ⟨1, [], strOfNums (snL x n p)⟩)
  rw [e1]
  exact ⟨e2, turn_calm e3 _ _ _⟩
theorem erase_calm {c : Int} (hc : Calm s c) (i pg : Nat) : Calm (eraseS i pg s) (c + 1) := by
  have h2 := hc.mono (m := c + 1) (by omega)
  refine calm_of h2 rfl rfl rfl rfl rfl (fun i' => ?_)
  have e1 := hc.cnt.er i
  have e2 := hc.cnt.er i'
  show 0 ≤ (if i' = i then s.er i + 1 else s.er i') ∧ (if i' = i then s.er i + 1 else s.er i') ≤ c + 1
  split <;> omega
theorem save_calm {c : Int} (hc : Calm s c) (hT : Tells n p S.pg s.L now) (hall : 2 ≤ S.all) (hpg : 0 < S.pg) (hm : s.mr 0 = false ∧ s.mr 1 = false) (hR : RightP x n p) (hx : now.gen < x.gen) (hn0 : -9223372036854775000 ≤ n) (hn : n ≤ 64) :
    (saveN S zs x n p s).2 = 0 ∧ Calm (saveN S zs x n p s).1 (c + 5) := by
  obtain ⟨h1, h2, h3⟩ := hT.newest
  have hmr : ∀ b, b < 2 → s.mr b = false := fun b hb => by
    have : b = 0 ∨ b = 1 := by omega
    rcases this with rfl | rfl
    · exact hm.1
    · exact hm.2
  have hs := page_fits hR hn0 hn
  unfold saveN
  rw [if_neg (by rw [hc.off]; simp), (snap_back hR hn0 (by omega)).1, if_neg (by simp), h2, if_neg (by omega)]
  by_cases hj : nextN (s.L (blkOf (newestN n p S.pg s.L))) S.pg < S.pg
  · rw [if_pos hj]
    have := prog_calm (zs := zs) hc (show blkOf (newestN n p S.pg s.L) < S.all by omega) hj (hmr _ h3) hs
    exact ⟨this.1, this.2.mono (by omega)⟩
  rw [if_neg hj]
  by_cases hz : nextN (s.L (1 - blkOf (newestN n p S.pg s.L))) S.pg = 0
  · rw [if_pos hz]
    have := prog_calm (zs := zs) hc (show 1 - blkOf (newestN n p S.pg s.L) < S.all by omega) (by omega) (hmr _ (by omega)) hs
    exact ⟨this.1, this.2.mono (by omega)⟩
  rw [if_neg hz]
  obtain ⟨t1, t2, t3⟩ := ers_tells (zs := zs) hT hall (hmr _ (by omega)) rfl
  have hers := ers_at (zs := zs) (show 1 - blkOf (newestN n p S.pg s.L) < S.all by omega) (hmr _ (by omega))
  obtain ⟨e1, e2, e3⟩ := calm_oper (zs := zs) hc (fillPg (1 - blkOf (newestN n p S.pg s.L)) S.pg 2) (eraseS (1 - blkOf (newestN n p S.pg s.L)) S.pg)
  rw [if_neg (by rw [hers.2, e2]; simp)]
  have hc2 : Calm (ersS S zs s 4 (1 - blkOf (newestN n p S.pg s.L) : Nat)) (c + 3) := by
    rw [hers.1, e1]
    have := erase_calm e3 (1 - blkOf (newestN n p S.pg s.L)) S.pg
    exact this.mono (by omega)
  rcases t3 with t3 | ⟨_, t4⟩
  · rw [hers.2, e2] at t3; exact absurd t3 (by decide)
  · have hm2 : (ersS S zs s 4 (1 - blkOf (newestN n p S.pg s.L) : Nat)).mr (1 - blkOf (newestN n p S.pg s.L)) = false := by rw [t2]; exact hmr _ (by omega)
    have := prog_calm (zs := zs) hc2 (show 1 - blkOf (newestN n p S.pg s.L) < S.all by omega) (by omega) hm2 hs
    exact ⟨this.1, this.2.mono (by omega)⟩

/-- Counts, whatever the power does. -/
theorem turn_cnt {c : Int} (hc : Cnt s c) (i j : Nat) (y : Pg) : Cnt (turnPg i j y s) c := ⟨hc.po, hc.N, hc.M, hc.er, hc.px⟩
theorem fill_cnt {c : Int} (hc : Cnt s c) (i pg : Nat) (y : Int) : Cnt (fillPg i pg y s) c := ⟨hc.po, hc.N, hc.M, hc.er, hc.px⟩
theorem erase_cnt {c : Int} (hc : Cnt s c) (i pg : Nat) : Cnt (eraseS i pg s) (c + 1) := by
  obtain ⟨h1, h2, h3, h4, h5⟩ := hc
  refine ⟨⟨h1.1, by have := h1.2; show s.po ≤ c + 1; omega⟩, fun j => ⟨(h2 j).1, by have := (h2 j).2; show s.N j ≤ c + 1; omega⟩, fun j => ⟨(h3 j).1, by have := (h3 j).2; show s.M j ≤ c + 1; omega⟩, fun i' => ?_, h5⟩
  have e1 := h4 i
  have e2 := h4 i'
  show 0 ≤ (if i' = i then s.er i + 1 else s.er i') ∧ (if i' = i then s.er i + 1 else s.er i') ≤ c + 1
  split <;> omega
theorem cnt_mono {c d : Int} (h : Cnt s c) (hd : c ≤ d) : Cnt s d := by
  obtain ⟨h1, h2, h3, h4, h5⟩ := h
  exact ⟨by omega, fun j => by have := h2 j; omega, fun j => by have := h3 j; omega, fun i => by have := h4 i; omega, h5⟩
theorem oper_cnt {c : Int} (hc : Cnt s c) (sp dn : NS → NS) (hsp : ∀ s', Cnt s' (c + 1) → Cnt (sp s') (c + 2)) (hdn : ∀ s', Cnt s' (c + 1) → Cnt (dn s') (c + 2)) : Cnt (operS zs s 4 sp dn) (c + 2) := by
  rcases oper_three zs s sp dn with ⟨e1, _⟩ | ⟨e1, _⟩ | ⟨e1, _⟩ <;> rw [e1]
  · exact hdn _ hc.spend
  · exact hsp _ hc.spend
  · exact cnt_mono hc.spend (by omega)
theorem progAt_cnt {b : Nat} {c : Int} (hc : Cnt s c) (hb : b < S.all) (hj : nextN (s.L b) S.pg < S.pg) (hm : s.mr b = false) (hs : (strOfNums (snL x n p)).size ≤ 160) : Cnt (progAt S zs x n p b s).1 (c + 2) := by
  rw [prog_at hb hj hm hs]
  exact oper_cnt hc _ _ (fun s' h => cnt_mono (turn_cnt h _ _ _) (by omega)) (fun s' h => cnt_mono (turn_cnt h _ _ _) (by omega))
theorem ersS_cnt {b : Nat} {c : Int} (hc : Cnt s c) (hb : b < S.all) (hm : s.mr b = false) : Cnt (ersS S zs s 4 b) (c + 2) := by
  rw [(ers_at (zs := zs) hb hm).1]
  exact oper_cnt hc _ _ (fun s' h => cnt_mono (fill_cnt h _ _ _) (by omega)) (fun s' h => by have := erase_cnt h b S.pg; exact cnt_mono this (by omega))

/-- What stands beside pages stays small; pages' data, too. -/
def PgOk (x : Pg) : Prop := x.dt.size ≤ 160 ∧ (x.st = 0 ∨ x.st = 1 ∨ x.st = 2)
def Beside (P : List Int → Prop) (s : NS) : Prop := ∀ i j, P (s.L i j).bs ∧ PgOk (s.L i j)
theorem pgOk_none {y : Int} (h : y = 0 ∨ y = 1 ∨ y = 2) : PgOk (Pg.none y) := ⟨Nat.zero_le _, h⟩
abbrev Small (s : NS) : Prop := Beside (fun l => l.length ≤ 32) s
variable {P : List Int → Prop}
theorem Beside.turn (h : Beside P s) (i j : Nat) (y : Pg) (hy : P y.bs ∧ PgOk y) : Beside P (turnPg i j y s) := fun i' j' => by
  rw [turn_L]; split
  · exact hy
  · exact h i' j'
theorem Beside.fill (h : Beside P s) (hP : P []) (i pg : Nat) (y : Int) (hy : y = 0 ∨ y = 1 ∨ y = 2) : Beside P (fillPg i pg y s) := fun i' j' => by
  rw [fill_L]; split
  · exact ⟨hP, pgOk_none hy⟩
  · exact h i' j'
theorem Beside.small {s : NS} (h : Beside (· = []) s) : Small s := fun i j => ⟨by rw [(h i j).1]; simp, (h i j).2⟩
theorem oper_small (h : Beside P s) (sp dn : NS → NS) (hsp : ∀ s', Beside P s' → Beside P (sp s')) (hdn : ∀ s', Beside P s' → Beside P (dn s')) : Beside P (operS zs s 4 sp dn) := by
  have hs : Beside P (spendS s) := h
  rcases oper_three zs s sp dn with ⟨e1, _⟩ | ⟨e1, _⟩ | ⟨e1, _⟩ <;> rw [e1]
  · exact hdn _ hs
  · exact hsp _ hs
  · exact hs
theorem progAt_small {b : Nat} (h : Beside P s) (hP : P []) (hb : b < S.all) (hj : nextN (s.L b) S.pg < S.pg) (hm : s.mr b = false) (hs : (strOfNums (snL x n p)).size ≤ 160) : Beside P (progAt S zs x n p b s).1 := by
  rw [prog_at hb hj hm hs]
  exact oper_small h _ _ (fun s' h' => h'.turn _ _ _ ⟨(h' _ _).1, (h' _ _).2.1, .inr (.inr rfl)⟩) (fun s' h' => h'.turn _ _ _ ⟨hP, hs, .inr (.inl rfl)⟩)
theorem ersS_small {b : Nat} (h : Beside P s) (hP : P []) (hb : b < S.all) (hm : s.mr b = false) : Beside P (ersS S zs s 4 b) := by
  rw [(ers_at (zs := zs) hb hm).1]
  exact oper_small h _ _ (fun s' h' => h'.fill hP _ _ _ (.inr (.inr rfl))) (fun s' h' => h'.fill hP _ _ _ (.inl rfl))
theorem save_small {c : Int} (hsm : Beside P s) (hP : P []) (hc : Cnt s c) (hT : Tells n p S.pg s.L now) (hall : 2 ≤ S.all) (hpg : 0 < S.pg) (hm : s.mr 0 = false ∧ s.mr 1 = false) (hR : RightP x n p) (hx : now.gen < x.gen) (hn0 : -9223372036854775000 ≤ n) (hn : n ≤ 64) :
    Beside P (saveN S zs x n p s).1 ∧ Cnt (saveN S zs x n p s).1 (c + 5) := by
  obtain ⟨h1, h2, h3⟩ := hT.newest
  have hmr : ∀ b, b < 2 → s.mr b = false := fun b hb => by
    have : b = 0 ∨ b = 1 := by omega
    rcases this with rfl | rfl
    · exact hm.1
    · exact hm.2
  have hs := page_fits hR hn0 hn
  unfold saveN
  by_cases ho : s.off = true
  · rw [if_pos ho]
    exact ⟨hsm, cnt_mono hc (by omega)⟩
  rw [if_neg ho, (snap_back hR hn0 (by omega)).1, if_neg (by simp), h2, if_neg (by omega)]
  by_cases hj : nextN (s.L (blkOf (newestN n p S.pg s.L))) S.pg < S.pg
  · rw [if_pos hj]
    exact ⟨progAt_small hsm hP (by omega) hj (hmr _ h3) hs, cnt_mono (progAt_cnt hc (by omega) hj (hmr _ h3) hs) (by omega)⟩
  rw [if_neg hj]
  by_cases hz : nextN (s.L (1 - blkOf (newestN n p S.pg s.L))) S.pg = 0
  · rw [if_pos hz]
    exact ⟨progAt_small hsm hP (by omega) (by omega) (hmr _ (by omega)) hs, cnt_mono (progAt_cnt hc (by omega) (by omega) (hmr _ (by omega)) hs) (by omega)⟩
  rw [if_neg hz]
  obtain ⟨t1, t2, t3⟩ := ers_tells (zs := zs) hT hall (hmr _ (by omega)) rfl
  have hsm2 := ersS_small (S := S) (zs := zs) (b := 1 - blkOf (newestN n p S.pg s.L)) hsm hP (by omega) (hmr _ (by omega))
  have hc2 := ersS_cnt (zs := zs) (S := S) (b := 1 - blkOf (newestN n p S.pg s.L)) hc (by omega) (hmr _ (by omega))
  by_cases he : ersE S zs s 4 (1 - blkOf (newestN n p S.pg s.L) : Nat) ≠ 0
  · rw [if_pos he]
    exact ⟨hsm2, cnt_mono hc2 (by omega)⟩
  · rw [if_neg he]
    rcases t3 with t3 | ⟨_, t4⟩
    · rw [t3] at he; exact absurd (by decide) he
    · have hm2 : (ersS S zs s 4 (1 - blkOf (newestN n p S.pg s.L) : Nat)).mr (1 - blkOf (newestN n p S.pg s.L)) = false := by rw [t2]; exact hmr _ (by omega)
      exact ⟨progAt_small hsm2 hP (by omega) (by omega) hm2 hs, cnt_mono (progAt_cnt hc2 (by omega) (by omega) hm2 hs) (by omega)⟩
end

end Go.Proofs.YteionppcjgggiaaGreat

/-
  Layer 7's law: made, few.
-/
namespace Go.Proofs.YteionppcjgggiaaGreat
set_option linter.unusedVariables false
set_option linter.unusedSimpArgs false
set_option maxRecDepth 100000
open Go.RowKit

theorem new7_geo (pb db : Nat) (c d b p : Int) (v : Value) (w : World) (hg : geoE c d b p ≠ 0) :
    Calls Tryz.prog 16 #[four c d b p, .pointer (some ⟨pb, 0, none⟩), .pointer (some ⟨db, 0, none⟩), v] w fun e w' => e = .returned (.tuple #[.pointer none, .int .i64 (geoE c d b p)]) ∧ w.grownBy w' none := by
  have C := check_any c d b p
  have hg' : (geoE c d b p != 0) = true := by simpa using hg
  generalize geoE c d b p = x at *
  clear hg
  unfold four fourObj at *
  go_enter Tryz.func16, Tryz.ntmps16
  go_wp2_with (go_at_call 39; refine (C _).mono ?_; rintro e w' ⟨rfl, rfl⟩)
  refine bodyPost_ret (v := .tuple #[.pointer none, .int .i64 x]) (by simp [results, Tryz.results16, go_sem]) rfl ⟨rfl, grown_alloc (World.grownBy_alloc w _ none) _⟩

/-- Draws without faults. -/
def NoDraws (w : World) (e : Ending) (w' : World) : Prop :=
  ∃ b V, e = .returned (.tuple #[.pointer (some ⟨b, 0, none⟩), .int .i64 0]) ∧ DrAt w' b V noZs (fun _ => 0) (fun _ => 0) ∧ w.grownBy w' none ∧ w.heap.size ≤ b ∧ ∀ j, j < 4 → ∀ k, (V j).ownBlock = some k → w.heap.size ≤ k ∧ k < w'.heap.size
theorem newD_none (w : World) : Calls Tryz.prog 15 #[.agg #[.slice none 0 0, .slice none 0 0, .slice none 0 0, .slice none 0 0]] w (NoDraws w) := by
  have hF : Four w (fun _ => .slice none 0 0) noZs := ⟨fun _ _ => .inl ⟨rfl, rfl⟩, fun _ _ => by simp [noZs], fun _ _ k hk => by simp [Value.ownBlock] at hk⟩
  have h0 : newE noZs = 0 := by decide
  refine (new_any (fun _ => .slice none 0 0) noZs w hF).mono fun e w' hp => ?_
  rcases hp with ⟨h', _⟩ | ⟨_, r⟩
  · exact absurd h0 h'
  · exact r

/-- An array, with all power, without faults. -/
def MadeP (c d b : Int) (pg al : Nat) (ms : List Int) (w : World) (e : Ending) (w' : World) : Prop :=
  ∃ (S : NShape) (V : Nat → Value), Roles S ∧ (S.c = c ∧ S.d = d ∧ S.b = b ∧ S.p = pg ∧ S.all = al ∧ S.pg = pg) ∧ e = .returned (.tuple #[.pointer (some ⟨S.nb, 0, none⟩), .pointer (some ⟨S.pb, 0, none⟩), .int .i64 0]) ∧
    NandAt w' S V noZs (blankS ms (-1) false 0 (fun _ => 0) (fun _ => 0)) ∧ w.grownBy w' none ∧ ∀ k, S.T k ≠ 0 → w.heap.size ≤ k

def NewPow (n : Int) (w : World) (e : Ending) (w' : World) : Prop := ∃ pb, e = .returned (.pointer (some ⟨pb, 0, none⟩)) ∧ PowAt w' pb n false 0 ∧ w.grownBy w' none ∧ w.heap.size ≤ pb
theorem newPow_is (n : Int) (w : World) : Calls Tryz.prog 14 #[.int .i64 n] w (NewPow n w) :=
  (new_is n w).mono fun _ _ ⟨he, hp, hg⟩ => ⟨_, he, hp, hg, Nat.le_refl _⟩

/-- The boxes of a geometry and of no faults. -/
structure BoxM (w : World) (c d b p : Int) (x : World) : Prop where
  g0 : x.cell? ⟨w.heap.size, 0, none⟩ = some (.int .i64 c)
  g1 : x.cell? ⟨w.heap.size, 1, none⟩ = some (.int .i64 d)
  g2 : x.cell? ⟨w.heap.size, 2, none⟩ = some (.int .i64 b)
  g3 : x.cell? ⟨w.heap.size, 3, none⟩ = some (.int .i64 p)
  f0 : x.cell? ⟨w.heap.size + 1, 0, none⟩ = some (.slice none 0 0)
  f1 : x.cell? ⟨w.heap.size + 1, 1, none⟩ = some (.slice none 0 0)
  f2 : x.cell? ⟨w.heap.size + 1, 2, none⟩ = some (.slice none 0 0)
  f3 : x.cell? ⟨w.heap.size + 1, 3, none⟩ = some (.slice none 0 0)
theorem BoxM.ext {w : World} {c d b p : Int} {x y : World} (h : BoxM w c d b p x) (hg : x.grownBy y none) : BoxM w c d b p y :=
  ⟨hg.cell h.g0 (by simp), hg.cell h.g1 (by simp), hg.cell h.g2 (by simp), hg.cell h.g3 (by simp), hg.cell h.f0 (by simp), hg.cell h.f1 (by simp), hg.cell h.f2 (by simp), hg.cell h.f3 (by simp)⟩
theorem boxM (w : World) (c d b p : Int) (T U : TypeId) : BoxM w c d b p ((w.alloc (fourObj c d b p T)).alloc (.cells #[.slice none 0 0, .slice none 0 0, .slice none 0 0, .slice none 0 0] U)) := by
  have e0 : ∀ o, ((w.alloc (fourObj c d b p T)).alloc (.cells #[.slice none 0 0, .slice none 0 0, .slice none 0 0, .slice none 0 0] U)).cell? ⟨w.heap.size, o, none⟩ = (#[.int .i64 c, .int .i64 d, .int .i64 b, .int .i64 p] : Array Value)[o]? := fun o => by
    rw [World.cell?_alloc_past _ _ _ (by simp), fourObj, World.cell?_alloc_at _ _ _ _ rfl]
  have e1 : ∀ o, ((w.alloc (fourObj c d b p T)).alloc (.cells #[.slice none 0 0, .slice none 0 0, .slice none 0 0, .slice none 0 0] U)).cell? ⟨w.heap.size + 1, o, none⟩ = (#[.slice none 0 0, .slice none 0 0, .slice none 0 0, .slice none 0 0] : Array Value)[o]? := fun o => by
    rw [World.cell?_alloc_at _ _ _ _ (by simp)]
  exact ⟨e0 0, e0 1, e0 2, e0 3, e1 0, e1 1, e1 2, e1 3⟩

end Go.Proofs.YteionppcjgggiaaGreat

/-
  Layer 7's law: fixed.
-/
namespace Go.Proofs.YteionppcjgggiaaGreat
set_option linter.unusedVariables false
set_option linter.unusedSimpArgs false
set_option maxRecDepth 100000
open Go.RowKit

theorem convert7 {w : World} {v : Value} {xs : List Int} {s : ByteArray} (h : Bts w v xs) (hs : strOfNums xs = s) : (convert 37 9 v).run Tryz.prog w = .ok (.string s) w := by
  subst hs
  rcases h with ⟨rfl, rfl⟩ | ⟨b, off, cap, rfl, h2, h3⟩
  · exact run_convert_bytes_nil w 37 5 Tryz.underlying37 Tryz.underlying5 0 0 9 Tryz.underlying9
  · exact run_convert_bytes_arg w 37 5 Tryz.underlying37 Tryz.underlying5 b off xs.length cap xs rfl h3 9 Tryz.underlying9

section
variable {w : World} {S : NShape} {V : Nat → Value} {zs : Nat → List Int} {s : NS}

theorem read_good (h : NandAt w S V zs s) (hR : Roles S) {i j : Nat} (hi : i < S.all) (hj : j < S.pg) (ho : s.off = false) (hbs : ∀ i j, (s.L i j).bs.length ≤ 140737488351232) {bs : List Int} {dt : ByteArray} (hx : s.L i j = ⟨1, bs, dt⟩) :
    Calls Tryz.prog 67 #[.pointer (some ⟨S.nb, 0, none⟩), .int .i64 i, .int .i64 j] w (ReadsPg bs dt w) := by
  have e0 : lackE S i j = 0 := by unfold lackE hasB; rw [if_pos (by simp; omega), if_pos (by omega)]
  have e1 : readE S s i j = 0 := by unfold readE; rw [if_pos e0, ho, Int.toNat_natCast, Int.toNat_natCast, hx]; rfl
  refine (read7_any h hR i j hbs).mono fun e w' hr => ?_
  rcases hr with ⟨h1, _⟩ | ⟨_, h2⟩
  · exact absurd e1 h1
  · rw [Int.toNat_natCast, Int.toNat_natCast, hx] at h2; exact h2
theorem read_blank (h : NandAt w S V zs s) (hR : Roles S) {i j : Nat} (hi : i < S.all) (hj : j < S.pg) (ho : s.off = false) (hbs : ∀ i j, (s.L i j).bs.length ≤ 140737488351232) (hx : (s.L i j).st = 0) :
    Calls Tryz.prog 67 #[.pointer (some ⟨S.nb, 0, none⟩), .int .i64 i, .int .i64 j] w (ReadsNot 6 w) := by
  have e0 : lackE S i j = 0 := by unfold lackE hasB; rw [if_pos (by simp; omega), if_pos (by omega)]
  have e1 : readE S s i j = 6 := by unfold readE; rw [if_pos e0, ho, Int.toNat_natCast, Int.toNat_natCast, hx]; rfl
  refine (read7_any h hR i j hbs).mono fun e w' hr => ?_
  rcases hr with ⟨_, h2⟩ | ⟨h1, _⟩
  · rw [e1] at h2; exact h2
  · rw [e1] at h1; cases h1
theorem erase_good {n who : Int} {i : Nat} (h : NandAt w S V noZs s) (hR : Roles S) (hc : Calm s n) (hn : n < 80000) (hi : i < S.all) (hm : s.mr i = false) :
    Calls Tryz.prog 55 #[.pointer (some ⟨S.nb, 0, none⟩), .int .i64 who, .int .i64 i] w (Goes S V noZs (.int .i64 0) (eraseDone i S.pg s who) w) := by
  have P := erase_any h hR hc.cnt hn (fun _ _ => by simp [noZs]) who i
  have e0 : hasB S i = true := by unfold hasB; simp; omega
  have e1 : ersE S noZs s who i = 0 := by unfold ersE; rw [e0, if_pos rfl, Int.toNat_natCast, hm, if_neg (by decide), calm_E hc]
  have e2 : ersS S noZs s who i = eraseDone i S.pg s who := by unfold ersS; rw [e0, Int.toNat_natCast, hm, if_pos (by decide), calm_S hc]; rfl
  rw [e1, e2] at P
  exact P
theorem erase_marked {n who : Int} {i : Nat} (h : NandAt w S V noZs s) (hR : Roles S) (hc : Calm s n) (hn : n < 80000) (hi : i < S.all) (hm : s.mr i = true) :
    Calls Tryz.prog 55 #[.pointer (some ⟨S.nb, 0, none⟩), .int .i64 who, .int .i64 i] w (Goes S V noZs (.int .i64 10) s w) := by
  have P := erase_any h hR hc.cnt hn (fun _ _ => by simp [noZs]) who i
  have e0 : hasB S i = true := by unfold hasB; simp; omega
  have e1 : ersE S noZs s who i = 10 := by unfold ersE; rw [e0, if_pos rfl, Int.toNat_natCast, hm, if_pos rfl]
  have e2 : ersS S noZs s who i = s := by unfold ersS; rw [e0, Int.toNat_natCast, hm, if_neg (by decide)]
  rw [e1, e2] at P
  exact P
end

theorem nextN_blank : ∀ n : Nat, nextN (fun _ => Pg.none 0) n = 0
  | 0 => rfl
  | n + 1 => by unfold nextN; rw [if_pos (show (Pg.none 0).st = 0 from rfl)]; exact nextN_blank n
theorem blank_calm (ms : List Int) : Calm (blankS ms (-1) false 0 (fun _ => 0) (fun _ => 0)) 0 :=
  ⟨rfl, rfl, ⟨⟨Int.le_refl _, Int.le_refl _⟩, fun _ => ⟨Int.le_refl _, Int.le_refl _⟩, fun _ => ⟨Int.le_refl _, Int.le_refl _⟩, fun _ => ⟨Int.le_refl _, Int.le_refl _⟩, by show -9223372036854775808 ≤ (-1 : Int) ∧ (-1 : Int) ≤ 9223372036854775807; omega⟩⟩

def fS0 : NS := blankS [3] (-1) false 0 (fun _ => 0) (fun _ => 0)
def fS1 : NS := progDone 2 0 ⟨1, [116], ⟨#[120]⟩⟩ fS0 0
def fS2 : NS := eraseDone 2 2 fS1 0
theorem fC0 : Calm fS0 0 := blank_calm _
theorem fC1 : Calm fS1 2 := progDone_calm _ _ _ _ fC0
theorem fC2 : Calm fS2 5 := eraseDone_calm _ _ _ fC1
theorem fL1 : fS1.L = updL (fun _ _ => Pg.none 0) 2 0 ⟨1, [116], ⟨#[120]⟩⟩ := progDone_L _ _ _ _ _
theorem fL1_bs (i j : Nat) : (fS1.L i j).bs.length ≤ 140737488351232 := by
  rw [fL1]; unfold updL
  split
  · simp only; split <;> simp [Pg.none]
  · simp [Pg.none]
theorem fL2 (i j : Nat) : (fS2.L i j).bs.length ≤ 140737488351232 := by
  unfold fS2
  rw [eraseDone_L]
  simp only
  split
  · simp only
    split
    · simp [Pg.none]
    · exact fL1_bs _ _
  · exact fL1_bs _ _

theorem one_ints (x : World) (n : Int) (T : TypeId) : Ints (x.alloc (.cells #[.int .i64 n] T)) (.slice (some ⟨x.heap.size, 0, none⟩) 1 1) [n] := by
  refine .inr (.inl ⟨_, 0, 1, rfl, Nat.le_refl _, fun i hi => ?_⟩)
  have : i = 0 := by simp at hi; omega
  subst this
  rw [Nat.zero_add, World.cell?_alloc_at _ _ _ _ rfl]
  rfl
theorem one_btsA {x : World} {g : Nat} {n : Int} (h : x.cell? ⟨g, 0, none⟩ = some (.int .u8 n)) : BtsA x (.slice (some ⟨g, 0, none⟩) 1 1) [n] := by
  refine .inr ⟨_, 1, rfl, Nat.le_refl _, fun i hi => ?_⟩
  have : i = 0 := by simp at hi; omega
  subst this
  rw [addr_add]
  exact h

def TrueB7 (w : World) (e : Ending) (w' : World) : Prop := e = .returned (.bool true) ∧ w.grownBy w' none

theorem Keeps.grown {T : Nat → Nat} {w0 w w' : World} (h : w0.grownBy w none) (hk : Keeps T w w') (hT : ∀ k, T k ≠ 0 → w0.heap.size ≤ k) : w0.grownBy w' none :=
  ⟨hk.os.trans h.os, hk.tape.trans h.tape, hk.output.trans h.output, Nat.le_trans h.size hk.size, fun k hk2 _ => (hk.block k (Nat.lt_of_lt_of_le hk2 h.size) (Classical.byContradiction fun hne => by have := hT k hne; omega)).trans (h.block k hk2 (by simp))⟩

end Go.Proofs.YteionppcjgggiaaGreat

/-
  Package snap: readEntry.
-/
namespace Go.Proofs.YteionppcjgggiaaGreat
set_option linter.unusedVariables false
set_option linter.unusedSimpArgs false
set_option maxRecDepth 100000
open Go.RowKit

theorem number_s {s : Rst} {br c : Nat} {n : Int} {w : World} (hR : RdIs 152 w br c s.1 s.2) (hB : Byts s.1) :
    Calls Tryz.prog 92 #[.pointer (some ⟨br, 0, none⟩), .int .i64 n] w fun e w' => e = .returned (.int .i64 (rdV n s)) ∧ RdIs 152 w' br c (rdN n s).1 (rdN n s).2 ∧ w.grownBy w' (some br) := number_is hR hB rfl rfl rfl
theorem flag_s {s : Rst} {br c : Nat} {w : World} (hR : RdIs 152 w br c s.1 s.2) (hB : Byts s.1) :
    Calls Tryz.prog 106 #[.pointer (some ⟨br, 0, none⟩)] w fun e w' => e = .returned (.bool (rdB s)) ∧ RdIs 152 w' br c (rdF s).1 (rdF s).2 ∧ w.grownBy w' (some br) := flag_is hR hB rfl rfl rfl

/-- What stands while an entry is read. -/
structure Ent (T : TypeId) (w0 w : World) (br c R E : Nat) (s : Rst) (x : Ten) (v : Value) : Prop where
  rd : RdIs T w br c s.1 s.2
  byt : Byts s.1
  res : Blk w R 33 zeroTC
  ent : Blk w E 33 (tenC x v)
  row : OwnI (E + 1) w v x.bs
  ext : w0.grownBy w (some br)
  oR : w0.heap.size ≤ R
  oE : R < E
  ob : br < w0.heap.size
  oc : c < w0.heap.size

theorem Ent.num {T : TypeId} {w0 w w' : World} {br c R E : Nat} {s s' : Rst} {x : Ten} {v : Value} (h : Ent T w0 w br c R E s x v) (hg : w.grownBy w' (some br)) (hR : RdIs T w' br c s'.1 s'.2) (hB : Byts s'.1) : Ent T w0 w' br c R E s' x v := by
  have := h.oR
  have := h.oE
  have := h.ob
  exact ⟨hR, hB, h.res.kept hg (by simp; omega), h.ent.kept hg (by simp; omega), own_kept h.row hg (fun p hp e => by injection e with e; have := (own_lt h.row p hp).1; omega), grown_trans h.ext hg (fun p hp _ => by injection hp with hp; rw [hp]), h.oR, h.oE, h.ob, h.oc⟩
theorem Ent.put {T : TypeId} {w0 w : World} {br c R E : Nat} {s : Rst} {x y : Ten} {v : Value} {i : Nat} {u : Value} (h : Ent T w0 w br c R E s x v) (hy : (tenC x v).setIfInBounds i u = tenC y v) (hb : y.bs = x.bs) : Ent T w0 (w.setCell ⟨E, i, none⟩ u) br c R E s y v := by
  have q1 := h.oR
  have q2 := h.oE
  have q3 := h.ob
  have q4 := h.oc
  have hg : w.grownBy (w.setCell ⟨E, i, none⟩ u) (some E) := grown_set w ⟨E, i, none⟩ u
  refine ⟨h.rd.kept hg (by simp; omega) (by simp; omega), h.byt, h.res.kept hg (by simp; omega), ?_, ?_, grown_trans h.ext hg (fun p hp hlt => by injection hp with hp; omega), h.oR, h.oE, h.ob, h.oc⟩
  · rw [← hy]; exact h.ent.set i u
  · rw [hb]; exact own_kept h.row hg (fun p hp e => by injection e with e; have := (own_lt h.row p hp).1; omega)
theorem Ent.next {T : TypeId} {w0 w w' : World} {br c R E : Nat} {s : Rst} {x : Ten} {v : Value} (h : Ent T w0 w br c R E s x v) (hg : Ext w w') : Ent T w0 w' br c R E s x v :=
  ⟨h.rd.kept hg (by simp) (by simp), h.byt, h.res.ext hg, h.ent.ext hg, own_kept h.row hg (by simp), grown_trans h.ext hg (fun p hp => by simp at hp), h.oR, h.oE, h.ob, h.oc⟩
/-- One more number behind the row. -/
theorem Ent.more {T : TypeId} {w0 w w1 : World} {br c R E : Nat} {s : Rst} {x : Ten} {v v' : Value} {a : Int} (h : Ent T w0 w br c R E s x v) (ho : OwnI (E + 1) w1 v' (x.bs ++ [a]))
    (hg : (w.alloc (.cells #[.int .i64 a] 3)).grownBy w1 v.ownBlock) : Ent T w0 (w1.setCell ⟨E, 4, none⟩ v') br c R E s { x with bs := x.bs ++ [a] } v' := by
  have q1 := h.oR
  have q2 := h.oE
  have q3 := h.ob
  have q4 := h.oc
  have ha := World.grownBy_alloc w (.cells #[.int .i64 a] 3) none
  have own : ∀ p, v.ownBlock = some p → E < p ∧ p < w.heap.size := fun p hp => by have := own_lt h.row p hp; omega
  have hs : w1.grownBy (w1.setCell ⟨E, 4, none⟩ v') (some E) := grown_set w1 ⟨E, 4, none⟩ v'
  have hE1 := (h.ent.ext ha).kept hg (fun e => by have := own E e.symm; omega)
  have hR1 := (h.res.ext ha).kept hg (fun e => by have := own R e.symm; omega)
  have hr1 := (h.rd.kept ha (by simp) (by simp)).kept hg (fun e => by have := own br e.symm; omega) (fun e => by have := own c e.symm; omega)
  refine ⟨hr1.kept hs (by simp; omega) (by simp; omega), h.byt, hR1.kept hs (by simp; omega), ?_, ?_, ?_, h.oR, h.oE, h.ob, h.oc⟩
  · exact hE1.set 4 v'
  · exact own_kept ho hs (fun p hp e => by injection e with e; have := (own_lt ho p hp).1; omega)
  · have e1 : w0.grownBy (w.alloc (.cells #[.int .i64 a] 3)) (some br) := grown_trans h.ext ha (fun p hp => by simp at hp)
    exact grown_trans (grown_trans e1 hg (fun p hp hlt => by have := own p hp; omega)) hs (fun p hp hlt => by injection hp with hp; omega)

theorem gb_some {w w' : World} (h : w.grownBy w' none) (B : Nat) : w.grownBy w' (some B) := ⟨h.os, h.tape, h.output, h.size, fun k hk _ => h.block k hk (by simp)⟩
theorem ent_start {T : TypeId} {w w1 w2 w3 : World} {br c : Nat} {s : Rst} (ha : Ext w w1) (hres : Blk w1 w.heap.size 33 zeroTC) (hg2 : w1.grownBy w2 (some br)) (hR : RdIs T w2 br c s.1 s.2) (hB : Byts s.1)
    (hb3 : Blk w3 w2.heap.size 33 (tenC ⟨true, 0, 0, 0, []⟩ nilS)) (hg3 : (w2.alloc (.cells zeroTC 33)).grownBy w3 (some w2.heap.size)) (hb : br < w.heap.size) (hc : c < w.heap.size) (hsz : w1.heap.size = w.heap.size + 1) :
    Ent T w w3 br c w.heap.size w2.heap.size s ⟨true, 0, 0, 0, []⟩ nilS := by
  have q2 := hg2.size
  have hg : w2.grownBy w3 none := grown_trans (World.grownBy_alloc w2 (.cells zeroTC 33) none) hg3 (fun p hp hlt => by injection hp with hp; omega)
  exact ⟨hR.kept hg (by simp) (by simp), hB, (hres.kept hg2 (by simp; omega)).ext hg, hb3, World.ownsRow_nil _ _ _ _, grown_trans (grown_trans (gb_some ha br) hg2 (fun p hp _ => hp.symm)) hg (fun p hp => by simp at hp), Nat.le_refl _, by omega, hb, hc⟩

theorem results_cell_one {P : Program} {fn : Func} {p : Tmp} {ty : TypeId} {tmps : Array Value} {w : World} {g : Nat} {bt : TypeId} {cs : Array Value} {d : TypeDesc} (h : fn.results = #[.cell p ty])
    (hp : tmps.getD p undef = .pointer (some ⟨g, 0, none⟩)) (hg : w.heap[g]? = some (.cells cs bt (0, 0)))
    (hu : P.underlying ty = some d) (hd : (match d with | .struct _ | .array _ _ => true | _ => false) = true) (hi : (P.info? ty).map (·.size) = some cs.size) :
    (results fn tmps).run P w = .ok (.agg cs) w := by
  have hp' : tmps[p]?.getD undef = .pointer (some ⟨g, 0, none⟩) := by simpa using hp
  simp [results, h, hp', asAddr, run_loadVar_row w g bt ty cs (0, 0) d hg hu hd hi]

/-- An entry that is read. -/
def EntP (T : TypeId) (w : World) (br c : Nat) (s : Rst) (e : Ending) (w' : World) : Prop :=
  ∃ v, e = .returned (.agg (tenC (entT s) v)) ∧ OwnI w.heap.size w' v (entT s).bs ∧ RdIs T w' br c (entS s).1 (entS s).2 ∧ w.grownBy w' (some br)

set_option maxRecDepth 100000 in
set_option maxHeartbeats 1600000 in
theorem readEntry_any (br c : Nat) (s : Rst) (w : World) (hR : RdIs 152 w br c s.1 s.2) (hB : Byts s.1) (hb : br < w.heap.size) (hc : c < w.heap.size) :
    Calls Tryz.prog 93 #[.pointer (some ⟨br, 0, none⟩)] w (EntP 152 w br c s) := by
  have hres := Blk.new w 33 zeroTC
  have ha := World.grownBy_alloc w (.cells zeroTC 33) none
  have hsz : (w.alloc (.cells zeroTC 33)).heap.size = w.heap.size + 1 := by simp
  obtain ⟨w1, hw1⟩ : ∃ x, w.alloc (.cells zeroTC 33) = x := ⟨_, rfl⟩
  rw [hw1] at hres ha hsz
  have F1 := flag_s (hR.kept ha (by simp) (by simp)) hB
  have HA := Lib.hid ha
  have HRES := Lib.hid hres
  have HBY := Lib.hid hB
  cases hq : rdB s
  · rw [hq] at F1
    have HX := Lib.hid (show entT s = noTen by unfold entT; rw [if_neg (by rw [hq]; simp)])
    have HS := Lib.hid (show entS s = rdF s by unfold entS; rw [if_neg (by rw [hq]; simp)])
    clear hq ha hB hR hres
    go_enter Tryz.func93, Tryz.ntmps93
    go_wp2_with (first
      | (go_at_call 106; refine F1.mono ?_; rintro e w2 ⟨rfl, hR2, hg2⟩; have hr2 := HRES.out.kept hg2 (by simp; omega))
      | (refine ten_store (z := noTen) (v := nilS) _ _ rfl rfl rfl hr2 rfl ⟨_, _, _, rfl⟩ rfl ?_; intro w3 hb3 hg3 hs3))
    refine bodyPost_ret (v := .agg (tenC noTen nilS)) (results_cell_one rfl rfl hb3 Tryz.underlying33 rfl Tryz.sizeTen) rfl ?_
    refine ⟨nilS, by rw [HX.out], by rw [HX.out]; exact World.ownsRow_nil _ _ _ _, by rw [HS.out]; exact hR2.kept hg3 (by simp; omega) (by simp; omega), ?_⟩
    exact grown_trans (grown_trans (gb_some HA.out br) hg2 (fun p hp _ => hp.symm)) hg3 (fun p hp hlt => by injection hp with hp; omega)
  · rw [hq] at F1
    obtain ⟨s1, hs1⟩ : ∃ z, rdF s = z := ⟨_, rfl⟩
    obtain ⟨s2, hs2⟩ : ∃ z, rdN 4 s1 = z := ⟨_, rfl⟩
    obtain ⟨s3, hs3⟩ : ∃ z, rdN 1 s2 = z := ⟨_, rfl⟩
    obtain ⟨s4, hs4⟩ : ∃ z, rdN 1 s3 = z := ⟨_, rfl⟩
    obtain ⟨s5, hs5⟩ : ∃ z, rdN 1 s4 = z := ⟨_, rfl⟩
    obtain ⟨y1, hy1⟩ : ∃ z, rdV 4 s1 = z := ⟨_, rfl⟩
    obtain ⟨y2, hy2⟩ : ∃ z, rdV 1 s2 = z := ⟨_, rfl⟩
    obtain ⟨y3, hy3⟩ : ∃ z, rdV 1 s3 = z := ⟨_, rfl⟩
    have b1 : Byts s1.1 := hs1 ▸ rdF_byts hB
    have b2 : Byts s2.1 := hs2 ▸ rdN_byts b1
    have b3 : Byts s3.1 := hs3 ▸ rdN_byts b2
    have b4 : Byts s4.1 := hs4 ▸ rdN_byts b3
    have b5 : Byts s5.1 := hs5 ▸ rdN_byts b4
    have e4 : ent4 s = s4 := by unfold ent4; rw [hs1, hs2, hs3, hs4]
    obtain ⟨m, hm⟩ : ∃ m : Nat, rdV 1 s4 = (m : Int) := ⟨(rdV 1 s4).toNat, by have := rdV_one b4; omega⟩
    have hm5 : m ≤ 255 := by have := rdV_one b4; omega
    have HX := Lib.hid (show entT s = ⟨true, y1, y2, y3, rowV s5 m⟩ by unfold entT entN; rw [if_pos hq, e4, hs1, hy1, hs2, hy2, hs3, hy3, hs5, hm, Int.toNat_natCast])
    have HS := Lib.hid (show entS s = rowS s5 m by unfold entS entN; rw [if_pos hq, e4, hs5, hm, Int.toNat_natCast])
    have N1 := fun wr (h : RdIs 152 wr br c s1.1 s1.2) => number_s (n := 4) h b1
    have N2 := fun wr (h : RdIs 152 wr br c s2.1 s2.2) => number_s (n := 1) h b2
    have N3 := fun wr (h : RdIs 152 wr br c s3.1 s3.2) => number_s (n := 1) h b3
    have N4 := fun wr (h : RdIs 152 wr br c s4.1 s4.2) => number_s (n := 1) h b4
    rw [hs1] at F1
    rw [hs2, hy1] at N1
    rw [hs3, hy2] at N2
    rw [hs4, hy3] at N3
    rw [hs5, hm] at N4
    have HBS := Lib.hid (And.intro b1 (And.intro b2 (And.intro b3 (And.intro b4 b5))))
    clear hq ha hB hR hres hs1 hs2 hs3 hs4 hs5 hy1 hy2 hy3 b1 b2 b3 b4 b5 e4 hm
    go_enter Tryz.func93, Tryz.ntmps93
    go_wp2_with (first
      | (go_at_call 92; refine (N4 _ S4.out.rd).mono ?_; rintro e n5 ⟨rfl, hR5, hg5⟩; have S5 := Lib.hid (S4.out.num hg5 hR5 HBS.out.2.2.2.2); clear hR5 hg5)
      | (go_at_call 92; refine (N3 _ S3.out.rd).mono ?_; rintro e n4 ⟨rfl, hR4, hg4⟩; have T4 := S3.out.num hg4 hR4 HBS.out.2.2.2.1; have d3 := (T4.ent.cell 3).trans (ten_sp _ _); have f3 := T4.ent.free 3; have S4 := Lib.hid (T4.put (i := 3) (y := ⟨true, y1, y2, y3, []⟩) (u := .int .i64 y3) rfl rfl); clear T4 hR4 hg4)
      | (go_at_call 92; refine (N2 _ S2.out.rd).mono ?_; rintro e n3 ⟨rfl, hR3, hg3⟩; have T3 := S2.out.num hg3 hR3 HBS.out.2.2.1; have d2 := (T3.ent.cell 2).trans (ten_sz _ _); have f2 := T3.ent.free 2; have S3 := Lib.hid (T3.put (i := 2) (y := ⟨true, y1, y2, 0, []⟩) (u := .int .i64 y2) rfl rfl); clear T3 hR3 hg3)
      | (go_at_call 92; refine (N1 _ S1.out.rd).mono ?_; rintro e n2 ⟨rfl, hR2, hg2⟩; have T2 := S1.out.num hg2 hR2 HBS.out.2.1; have d1 := (T2.ent.cell 1).trans (ten_ep _ _); have f1 := T2.ent.free 1; have S2 := Lib.hid (T2.put (i := 1) (y := ⟨true, y1, 0, 0, []⟩) (u := .int .i64 y1) rfl rfl); clear T2 hR2 hg2)
      | (go_at_call 106; refine F1.mono ?_; rintro e w2 ⟨rfl, hR2, hg2⟩; have HW2 := Lib.hid (And.intro hR2 hg2); have hBn := Blk.new w2 33 zeroTC; clear hR2 hg2)
      | (refine ten_store (z := ⟨true, 0, 0, 0, []⟩) (v := nilS) _ _ rfl rfl rfl hBn rfl ⟨_, _, _, rfl⟩ rfl ?_; intro w3 hb3 hg3 hs3; have S1 := Lib.hid (ent_start HA.out HRES.out HW2.out.2 HW2.out.1 HBS.out.1 hb3 hg3 hb hc hsz); clear hb3 hg3 hs3 hBn))
    clear F1 N1 N2 N3 N4 hb hc hsz
    go_loopw [20] (fun i wr => ∃ (k : Nat) (v : Value), k ≤ m ∧ i = .int .i64 k ∧ Ent 152 w wr br c w.heap.size w2.heap.size (rowS s5 k) ⟨true, y1, y2, y3, rowV s5 k⟩ v) (fun i _ => m - (intOf i).toNat)
    case atStart => exact ⟨0, nilS, by omega, rfl, S5.out⟩
    case round =>
      obtain ⟨k, v, hk, rfl, hS⟩ := hrel
      by_cases hlt : k < m
      · have HR := Lib.hid hS
        obtain ⟨a, ha⟩ : ∃ z, rdV 1 (rowS s5 k) = z := ⟨_, rfl⟩
        have N := fun wx (h : RdIs 152 wx br c (rowS s5 k).1 (rowS s5 k).2) => number_s (n := 1) h hS.byt
        rw [ha] at N
        have HAA := Lib.hid ha
        have hlen : (rowV s5 k).length ≤ 255 := by rw [rowV_len]; omega
        have HLEN := Lib.hid hlen
        clear ha hS hlen
        go_wp2
        refine region_tree (.read 0 (.read 2 (.two 1 3 (.one 3 (.one 4 (.one 5 (.read 6 (.one 7 .done))))) (.two 1 4 (.one 4 (.one 5 (.read 6 (.one 7 .done)))) (.one 1 (.one 5 (.read 6 (.one 7 .done)))))))) (fun _ => True) (by kernel_rfl) (by kernel_rfl) (fun _ _ _ d _ h => by cases d <;> exact h) trivial ?_
        have HW := Lib.hid (HR.out.next (Ext.drew wr))
        generalize wr.drew = wd at HW ⊢
        have hT : True := trivial
        repeat (refine tree_read (a' := ?_) rfl (by kernel_rfl) (by kernel_rfl) hT (fun x hx K hK => ?_) ?_; rotate_left; · go_wp2; exact hK)
        refine tree_two ?_ ?_
        · have HX1 := HW
          have c4 := (HX1.out.ent.cell 4).trans (ten_bs _ _)
          refine tree_one (by rfl) (fun K hK => ?_)
          go_wp2
          refine hK _ _ (fun _ => True) hT (fun x hx => hx) ?_
          clear hK K
          clear c4
          refine tree_one (by rfl) (fun K hK => ?_)
          have hRd := HW.out.rd
          go_wp2_with (go_at_call 92; refine (N _ hRd).mono ?_; rintro e wn ⟨rfl, hRn, hgn⟩)
          have HN := Lib.hid (HW.out.num (s' := rowS s5 (k + 1)) hgn hRn (rdN_byts HW.out.byt))
          refine hK _ _ (fun _ => True) hT (fun x hx => hx) ?_
          clear hK K
          clear hRn hgn hRd
          refine tree_one (by rfl) (fun K hK => ?_)
          go_wp2
          refine hK _ _ (fun _ => True) hT (fun x hx => hx) ?_
          clear hK K
          refine tree_one (by rfl) (fun K hK => ?_)
          refine append_ints rfl _ _ rfl (w2.heap.size + 1) v (rowV s5 k) rfl (own_kept HN.out.row (World.grownBy_alloc wn (.cells #[.int .i64 a] 3) none) (by simp)) (.slice (some ⟨wn.heap.size, 0, none⟩) 1 1) [a] rfl (ints_one wn a 3) ?_ ?_ ?_
          · have hq := HLEN.out
            simp only [List.length_cons, List.length_nil]
            omega
          · have hq := HN.out.ent.lt
            simp
            omega
          intro v9 w9 ho9 hg9 hw9
          obtain ⟨av9, nv9, cv9, rfl⟩ : SliceV v9 := (owns_ints rfl ho9).slice
          go_wp2
          refine hK _ _ (fun _ => True) hT (fun x hx => hx) ?_
          clear hK K
          repeat (refine tree_read (a' := ?_) rfl (by kernel_rfl) (by kernel_rfl) hT (fun x hx K hK => ?_) ?_; rotate_left; · go_wp2; exact hK)
          have hE9 := (HN.out.ent.ext (World.grownBy_alloc wn (.cells #[.int .i64 a] 3) none)).kept hg9 (fun e => by have := (own_lt HN.out.row _ e.symm).1; omega)
          have c9 := (hE9.cell 4).trans (ten_bs _ _)
          have f9 := hE9.free 4
          have HM := Lib.hid (HN.out.more ho9 hg9)
          clear hE9
          refine tree_one (by rfl) (fun K hK => ?_)
          go_wp2
          refine hK _ _ (fun _ => True) hT (fun x hx => hx) ?_
          clear hK K
          refine tree_end ?_
          go_wp2
          go_roundw
          case rel => exact ⟨k + 1, _, by omega, by go_num, by rw [rowV, HAA.out]; exact HM.out⟩
          case measure => simp [intOf]; omega
        · refine tree_one (by rfl) (fun K hK => ?_)
          have hRd := HW.out.rd
          go_wp2_with (go_at_call 92; refine (N _ hRd).mono ?_; rintro e wn ⟨rfl, hRn, hgn⟩)
          have HN := Lib.hid (HW.out.num (s' := rowS s5 (k + 1)) hgn hRn (rdN_byts HW.out.byt))
          refine hK _ _ (fun _ => True) hT (fun x hx => hx) ?_
          clear hK K
          clear hRn hgn hRd
          refine tree_two ?_ ?_
          · have HX1 := HN
            have c4 := (HX1.out.ent.cell 4).trans (ten_bs _ _)
            refine tree_one (by rfl) (fun K hK => ?_)
            go_wp2
            refine hK _ _ (fun _ => True) hT (fun x hx => hx) ?_
            clear hK K
            clear c4
            refine tree_one (by rfl) (fun K hK => ?_)
            go_wp2
            refine hK _ _ (fun _ => True) hT (fun x hx => hx) ?_
            clear hK K
            refine tree_one (by rfl) (fun K hK => ?_)
            refine append_ints rfl _ _ rfl (w2.heap.size + 1) v (rowV s5 k) rfl (own_kept HN.out.row (World.grownBy_alloc wn (.cells #[.int .i64 a] 3) none) (by simp)) (.slice (some ⟨wn.heap.size, 0, none⟩) 1 1) [a] rfl (ints_one wn a 3) ?_ ?_ ?_
            · have hq := HLEN.out
              simp only [List.length_cons, List.length_nil]
              omega
            · have hq := HN.out.ent.lt
              simp
              omega
            intro v9 w9 ho9 hg9 hw9
            obtain ⟨av9, nv9, cv9, rfl⟩ : SliceV v9 := (owns_ints rfl ho9).slice
            go_wp2
            refine hK _ _ (fun _ => True) hT (fun x hx => hx) ?_
            clear hK K
            repeat (refine tree_read (a' := ?_) rfl (by kernel_rfl) (by kernel_rfl) hT (fun x hx K hK => ?_) ?_; rotate_left; · go_wp2; exact hK)
            have hE9 := (HN.out.ent.ext (World.grownBy_alloc wn (.cells #[.int .i64 a] 3) none)).kept hg9 (fun e => by have := (own_lt HN.out.row _ e.symm).1; omega)
            have c9 := (hE9.cell 4).trans (ten_bs _ _)
            have f9 := hE9.free 4
            have HM := Lib.hid (HN.out.more ho9 hg9)
            clear hE9
            refine tree_one (by rfl) (fun K hK => ?_)
            go_wp2
            refine hK _ _ (fun _ => True) hT (fun x hx => hx) ?_
            clear hK K
            refine tree_end ?_
            go_wp2
            go_roundw
            case rel => exact ⟨k + 1, _, by omega, by go_num, by rw [rowV, HAA.out]; exact HM.out⟩
            case measure => simp [intOf]; omega
          · refine tree_one (by rfl) (fun K hK => ?_)
            go_wp2
            refine hK _ _ (fun _ => True) hT (fun x hx => hx) ?_
            clear hK K
            have HX1 := Lib.hid (HN.out.next (World.grownBy_alloc wn (.cells #[.int .i64 a] 3) none))
            have c4 := (HX1.out.ent.cell 4).trans (ten_bs _ _)
            refine tree_one (by rfl) (fun K hK => ?_)
            go_wp2
            refine hK _ _ (fun _ => True) hT (fun x hx => hx) ?_
            clear hK K
            clear c4
            refine tree_one (by rfl) (fun K hK => ?_)
            refine append_ints rfl _ _ rfl (w2.heap.size + 1) v (rowV s5 k) rfl (own_kept HN.out.row (World.grownBy_alloc wn (.cells #[.int .i64 a] 3) none) (by simp)) (.slice (some ⟨wn.heap.size, 0, none⟩) 1 1) [a] rfl (ints_one wn a 3) ?_ ?_ ?_
            · have hq := HLEN.out
              simp only [List.length_cons, List.length_nil]
              omega
            · have hq := HN.out.ent.lt
              simp
              omega
            intro v9 w9 ho9 hg9 hw9
            obtain ⟨av9, nv9, cv9, rfl⟩ : SliceV v9 := (owns_ints rfl ho9).slice
            go_wp2
            refine hK _ _ (fun _ => True) hT (fun x hx => hx) ?_
            clear hK K
            repeat (refine tree_read (a' := ?_) rfl (by kernel_rfl) (by kernel_rfl) hT (fun x hx K hK => ?_) ?_; rotate_left; · go_wp2; exact hK)
            have hE9 := (HN.out.ent.ext (World.grownBy_alloc wn (.cells #[.int .i64 a] 3) none)).kept hg9 (fun e => by have := (own_lt HN.out.row _ e.symm).1; omega)
            have c9 := (hE9.cell 4).trans (ten_bs _ _)
            have f9 := hE9.free 4
            have HM := Lib.hid (HN.out.more ho9 hg9)
            clear hE9
            refine tree_one (by rfl) (fun K hK => ?_)
            go_wp2
            refine hK _ _ (fun _ => True) hT (fun x hx => hx) ?_
            clear hK K
            refine tree_end ?_
            go_wp2
            go_roundw
            case rel => exact ⟨k + 1, _, by omega, by go_num, by rw [rowV, HAA.out]; exact HM.out⟩
            case measure => simp [intOf]; omega
      · obtain rfl : k = m := by omega
        have HR := Lib.hid hS
        have hr := hS.res
        have he := hS.ent
        have hsv : SliceV v := (owns_ints rfl hS.row).slice
        clear hS
        go_wp2_with (first
          | (refine ten_load _ rfl rfl he rfl ?_)
          | (refine ten_store _ _ rfl rfl rfl hr rfl hsv rfl ?_; intro w3 hb3 hg3 hs3))
        refine bodyPost_ret (results_cell_one rfl rfl hb3 Tryz.underlying33 rfl Tryz.sizeTen) rfl ?_
        have q1 := HR.out.oE
        have q2 := HR.out.ob
        have q3 := HR.out.oc
        refine ⟨v, by rw [HX.out], ?_, by rw [HS.out]; exact HR.out.rd.kept hg3 (by simp; omega) (by simp; omega), grown_trans HR.out.ext hg3 (fun p hp hlt => by injection hp with hp; omega)⟩
        rw [HX.out]
        exact ownsRow_le (own_kept HR.out.row hg3 (fun p hp e => by injection e with e; have := (own_lt HR.out.row p hp).1; omega)) (by omega)

end Go.Proofs.YteionppcjgggiaaGreat
