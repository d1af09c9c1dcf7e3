/-
  Texts put together: KA KB VD.
-/
import Derived.Test.YtfgifgglcafadaaGreatDoorM11
import Derived.Test.YtfgifgglcafadaaGreatDoorM05
namespace Go.Proofs.YtfgifgglcafadaaGreatDoor
set_option linter.unusedVariables false
set_option linter.unusedSimpArgs false
set_option linter.unusedVariables false
set_option linter.unusedSimpArgs false
set_option maxRecDepth 100000
open Go.RowKit
def pgLed (n p : Int) (x : Pg) : Option Led := if x.st = 1 ∧ snpE (byt x.dt) n p = 0 then some (snpL (byt x.dt) n p) else none
def stepN (n p : Int) (b : Nat) (acc : Option (Led × Nat)) (x : Pg) : Option (Led × Nat) :=
 match pgLed n p x with
 | none => acc
 | some m => match acc with
   | none => some (m, b)
   | some (l, c) => if l.gen < m.gen then some (m, b) else some (l, c)
def scanN (n p : Int) (b : Nat) (f : Nat → Pg) (acc : Option (Led × Nat)) : Nat → Option (Led × Nat)
 | 0 => acc
 | k + 1 => stepN n p b (scanN n p b f acc k) (f k)
def newestN (n p : Int) (pg : Nat) (L : Nat → Nat → Pg) : Option (Led × Nat) := scanN n p 1 (L 1) (scanN n p 0 (L 0) none pg) pg
def hiGen (r : Option (Led × Nat)) : Int := match r with | none => 0 | some (l, _) => l.gen
def blkOf (r : Option (Led × Nat)) : Nat := match r with | none => 0 | some (_, b) => b
def ledOf (r : Option (Led × Nat)) : Led := match r with | none => noLed | some (l, _) => l
theorem pgLed_blank {n p : Int} {x : Pg} (h : x.st ≠ 1) : pgLed n p x = none := by
 unfold pgLed
 rw [if_neg (fun hh => h hh.1)]
theorem stepN_none {n p : Int} {b : Nat} {acc : Option (Led × Nat)} {x : Pg} (h : pgLed n p x = none) : stepN n p b acc x = acc := by
 unfold stepN; rw [h]
theorem nextN_past (f : Nat → Pg) : ∀ n j, nextN f n ≤ j → j < n → (f j).st = 0
 | 0, j, _, h => by omega
 | n + 1, j, h1, h2 => by
   unfold nextN at h1
   split at h1
   · rename_i h0
     by_cases e : j = n
     · subst e; exact h0
     · exact nextN_past f n j h1 (by omega)
   · omega
structure Found (n p : Int) (b : Nat) (f : Nat → Pg) (acc : Option (Led × Nat)) (k : Nat) (r : Option (Led × Nat)) : Prop where
 from_ : ∀ l c, r = some (l, c) → acc = some (l, c) ∨ c = b ∧ ∃ j, j < k ∧ pgLed n p (f j) = some l
 keep : ∀ l c, acc = some (l, c) → ∃ m d, r = some (m, d) ∧ l.gen ≤ m.gen
 top : ∀ j m, j < k → pgLed n p (f j) = some m → ∃ l c, r = some (l, c) ∧ m.gen ≤ l.gen
theorem scan_found (n p : Int) (b : Nat) (f : Nat → Pg) (acc : Option (Led × Nat)) : ∀ k, Found n p b f acc k (scanN n p b f acc k)
 | 0 => ⟨fun l c h => .inl h, fun l c h => ⟨l, c, h, Int.le_refl _⟩, fun j m hj => by omega⟩
 | k + 1 => by
   have ih := scan_found n p b f acc k
   rw [scanN]
   unfold stepN
   cases hm : pgLed n p (f k) with
   | none =>
     refine ⟨fun l c h => ?_, ih.keep, fun j m hj h => ?_⟩
     · rcases ih.from_ l c h with h | ⟨h1, j, hj, h⟩
       · exact .inl h
       · exact .inr ⟨h1, j, by omega, h⟩
     · by_cases e : j = k
       · subst e; rw [hm] at h; cases h
       · exact ih.top j m (by omega) h
   | some m =>
     cases hs : scanN n p b f acc k with
     | none =>
       refine ⟨fun l c h => ?_, fun l c h => ?_, fun j m' hj h => ?_⟩
       · simp only [Option.some.injEq, Prod.mk.injEq] at h
         obtain ⟨rfl, rfl⟩ := h
         exact .inr ⟨rfl, k, by omega, hm⟩
       · obtain ⟨m', d, h1, _⟩ := ih.keep l c h
         rw [hs] at h1; cases h1
       · by_cases e : j = k
         · subst e; rw [hm] at h; cases h; exact ⟨m, b, rfl, Int.le_refl _⟩
         · obtain ⟨l, c, h1, _⟩ := ih.top j m' (by omega) h
           rw [hs] at h1; cases h1
     | some q =>
       obtain ⟨l0, c0⟩ := q
       dsimp only
       by_cases hlt : l0.gen < m.gen
       · rw [if_pos hlt]
         refine ⟨fun l c h => ?_, fun l c h => ?_, fun j m' hj h => ?_⟩
         · simp only [Option.some.injEq, Prod.mk.injEq] at h
           obtain ⟨rfl, rfl⟩ := h
           exact .inr ⟨rfl, k, by omega, hm⟩
         · obtain ⟨m', d, h1, h2⟩ := ih.keep l c h
           rw [hs] at h1
           cases h1
           exact ⟨m, b, rfl, by omega⟩
         · by_cases e : j = k
           · subst e; rw [hm] at h; cases h; exact ⟨m, b, rfl, Int.le_refl _⟩
           · obtain ⟨l, c, h1, h2⟩ := ih.top j m' (by omega) h
             rw [hs] at h1
             cases h1
             exact ⟨m, b, rfl, by omega⟩
       · rw [if_neg hlt]
         refine ⟨fun l c h => ?_, fun l c h => ?_, fun j m' hj h => ?_⟩
         · rcases ih.from_ l c (by rw [hs]; exact h) with h | ⟨h1, j, hj, h⟩
           · exact .inl h
           · exact .inr ⟨h1, j, by omega, h⟩
         · obtain ⟨m', d, h1, h2⟩ := ih.keep l c h
           rw [hs] at h1
           cases h1
           exact ⟨l0, c0, rfl, h2⟩
         · by_cases e : j = k
           · subst e; rw [hm] at h; cases h; exact ⟨l0, c0, rfl, by omega⟩
           · obtain ⟨l, c, h1, h2⟩ := ih.top j m' (by omega) h
             rw [hs] at h1
             cases h1
             exact ⟨l0, c0, rfl, h2⟩
theorem newest_none {n p : Int} {pg : Nat} {L : Nat → Nat → Pg} (h : newestN n p pg L = none) : ∀ b, b < 2 → ∀ j, j < pg → pgLed n p (L b j) = none := by
 have h1 := scan_found n p 1 (L 1) (scanN n p 0 (L 0) none pg) pg
 have h0 := scan_found n p 0 (L 0) none pg
 intro b hb j hj
 cases hm : pgLed n p (L b j) with
 | none => rfl
 | some m =>
   have : b = 0 ∨ b = 1 := by omega
   rcases this with rfl | rfl
   · obtain ⟨l, c, e1, _⟩ := h0.top j m hj hm
     obtain ⟨m', d, e2, _⟩ := h1.keep l c e1
     have : newestN n p pg L = some (m', d) := e2
     rw [h] at this; cases this
   · obtain ⟨l, c, e1, _⟩ := h1.top j m hj hm
     have : newestN n p pg L = some (l, c) := e1
     rw [h] at this; cases this
theorem newest_some {n p : Int} {pg : Nat} {L : Nat → Nat → Pg} {l : Led} {b : Nat} (h : newestN n p pg L = some (l, b)) :
   b < 2 ∧ (∃ j, j < pg ∧ pgLed n p (L b j) = some l) ∧ ∀ c, c < 2 → ∀ j, j < pg → ∀ m, pgLed n p (L c j) = some m → m.gen ≤ l.gen := by
 have h1 := scan_found n p 1 (L 1) (scanN n p 0 (L 0) none pg) pg
 have h0 := scan_found n p 0 (L 0) none pg
 have hr : scanN n p 1 (L 1) (scanN n p 0 (L 0) none pg) pg = some (l, b) := h
 refine ⟨?_, ?_, fun c hc j hj m hm => ?_⟩
 · rcases h1.from_ l b hr with e | ⟨rfl, _⟩
   · rcases h0.from_ l b e with e | ⟨rfl, _⟩
     · cases e
     · decide
   · decide
 · rcases h1.from_ l b hr with e | ⟨rfl, j, hj, e⟩
   · rcases h0.from_ l b e with e | ⟨rfl, j, hj, e⟩
     · cases e
     · exact ⟨j, hj, e⟩
   · exact ⟨j, hj, e⟩
 · have : c = 0 ∨ c = 1 := by omega
   rcases this with rfl | rfl
   · obtain ⟨l', c', e1, e2⟩ := h0.top j m hj hm
     obtain ⟨m', d, e3, e4⟩ := h1.keep l' c' e1
     rw [hr] at e3; cases e3
     omega
   · obtain ⟨l', c', e1, e2⟩ := h1.top j m hj hm
     rw [hr] at e1; cases e1
     exact e2
structure Tells (n p : Int) (pg : Nat) (L : Nat → Nat → Pg) (now : Led) : Prop where
 le : ∀ b, b < 2 → ∀ j, j < pg → ∀ m, pgLed n p (L b j) = some m → m.gen < now.gen ∨ EqL m now
 has : ((∀ b, b < 2 → ∀ j, j < pg → pgLed n p (L b j) = none) ∧ EqL now noLed) ∨ ∃ b j m, b < 2 ∧ j < pg ∧ pgLed n p (L b j) = some m ∧ EqL m now
theorem Tells.newest {n p : Int} {pg : Nat} {L : Nat → Nat → Pg} {now : Led} (h : Tells n p pg L now) : EqL (ledOf (newestN n p pg L)) now ∧ hiGen (newestN n p pg L) = now.gen ∧ blkOf (newestN n p pg L) < 2 := by
 cases hn : newestN n p pg L with
 | none =>
   have h0 := newest_none hn
   rcases h.has with ⟨_, h1⟩ | ⟨b, j, m, hb, hj, hm, _⟩
   · exact ⟨h1.symm, h1.gen.symm, by decide⟩
   · rw [h0 b hb j hj] at hm; cases hm
 | some q =>
   obtain ⟨l, b⟩ := q
   obtain ⟨hb, ⟨j, hj, hm⟩, htop⟩ := newest_some hn
   have he : EqL l now := by
     rcases h.le b hb j hj l hm with hlt | he
     · rcases h.has with ⟨h0, _⟩ | ⟨b', j', m', hb', hj', hm', he'⟩
       · rw [h0 b hb j hj] at hm; cases hm
       · have := htop b' hb' j' hj' m' hm'
         have := he'.gen
         omega
     · exact he
   exact ⟨he, he.gen, hb⟩
theorem Tells.less {n p : Int} {pg : Nat} {L L' : Nat → Nat → Pg} {now : Led} (h : Tells n p pg L now) (h1 : ∀ b, b < 2 → ∀ j, j < pg → ∀ m, pgLed n p (L' b j) = some m → pgLed n p (L b j) = some m)
   (h2 : ∀ j, j < pg → ∀ m, pgLed n p (L (blkOf (newestN n p pg L)) j) = some m → pgLed n p (L' (blkOf (newestN n p pg L)) j) = some m) : Tells n p pg L' now := by
 refine ⟨fun b hb j hj m hm => h.le b hb j hj m (h1 b hb j hj m hm), ?_⟩
 cases hn : newestN n p pg L with
 | none =>
   have h0 := newest_none hn
   rcases h.has with ⟨_, h3⟩ | ⟨b, j, m, hb, hj, hm, _⟩
   · refine .inl ⟨fun b hb j hj => ?_, h3⟩
     cases hm : pgLed n p (L' b j) with
     | none => rfl
     | some m => have := h1 b hb j hj m hm; rw [h0 b hb j hj] at this; cases this
   · rw [h0 b hb j hj] at hm; cases hm
 | some q =>
   obtain ⟨l, b⟩ := q
   have he := h.newest.1
   rw [hn] at h2 he
   obtain ⟨hb, ⟨j, hj, hm⟩, _⟩ := newest_some hn
   exact .inr ⟨b, j, l, hb, hj, h2 j hj l hm, he⟩
theorem Tells.more {n p : Int} {pg : Nat} {L L' : Nat → Nat → Pg} {now x m0 : Led} (h : Tells n p pg L now) (hx : now.gen < x.gen) {b0 j0 : Nat} (hb0 : b0 < 2) (hj0 : j0 < pg) (hm0 : pgLed n p (L' b0 j0) = some m0) (he0 : EqL m0 x)
   (h1 : ∀ b, b < 2 → ∀ j, j < pg → (b = b0 ∧ j = j0) ∨ ∀ m, pgLed n p (L' b j) = some m → pgLed n p (L b j) = some m) : Tells n p pg L' x := by
 refine ⟨fun b hb j hj m hm => ?_, .inr ⟨b0, j0, m0, hb0, hj0, hm0, he0⟩⟩
 rcases h1 b hb j hj with ⟨rfl, rfl⟩ | h2
 · rw [hm0] at hm; cases hm; exact .inr he0
 · rcases h.le b hb j hj m (h2 m hm) with h3 | h3
   · exact .inl (by omega)
   · exact .inl (by have := h3.gen; omega)
theorem admin_B (zs : Nat → List Int) (s : NS) : drawB zs s 4 = false := by unfold drawB; rw [if_neg (by omega)]
theorem admin_D (zs : Nat → List Int) (s : NS) : drawS zs s 4 = s := by unfold drawS; rw [if_neg (by omega)]
theorem admin_E (zs : Nat → List Int) (s : NS) : operE zs s 4 = if spE s.px s.off = 0 then 0 else 12 := by unfold operE; rw [admin_B]; rfl
theorem admin_S (zs : Nat → List Int) (s : NS) (sp dn : NS → NS) : operS zs s 4 sp dn = if spE s.px s.off = 12 then spendS s else if spE s.px s.off = 11 then sp (spendS s) else dn (spendS s) := by
 unfold operS
 rw [admin_B, admin_D]
 rfl
end Go.Proofs.YtfgifgglcafadaaGreatDoor

namespace Go.Proofs.YtfgifgglcafadaaGreatDoor
set_option linter.unusedVariables false
set_option linter.unusedSimpArgs false
set_option linter.unusedVariables false
set_option linter.unusedSimpArgs false
set_option maxRecDepth 100000
open Go.RowKit
def progAt (S : NShape) (zs : Nat → List Int) (x : Led) (n p : Int) (b : Nat) (s : NS) : NS × Int :=
 (progS S zs s 4 b (nextN (s.L b) S.pg : Nat) [] (strOfNums (snL x n p)), progE S zs s 4 b (nextN (s.L b) S.pg : Nat) 0 (strOfNums (snL x n p)).size)
def saveN (S : NShape) (zs : Nat → List Int) (x : Led) (n p : Int) (s : NS) : NS × Int :=
 if s.off = true then (s, 12)
 else if snE x n p ≠ 0 then (s, snE x n p)
 else if x.gen ≤ hiGen (newestN n p S.pg s.L) then (s, 2)
 else if nextN (s.L (blkOf (newestN n p S.pg s.L))) S.pg < S.pg then progAt S zs x n p (blkOf (newestN n p S.pg s.L)) s
 else if nextN (s.L (1 - blkOf (newestN n p S.pg s.L))) S.pg = 0 then progAt S zs x n p (1 - blkOf (newestN n p S.pg s.L)) s
 else if ersE S zs s 4 (1 - blkOf (newestN n p S.pg s.L) : Nat) ≠ 0 then (ersS S zs s 4 (1 - blkOf (newestN n p S.pg s.L) : Nat), ersE S zs s 4 (1 - blkOf (newestN n p S.pg s.L) : Nat))
 else progAt S zs x n p (1 - blkOf (newestN n p S.pg s.L)) (ersS S zs s 4 (1 - blkOf (newestN n p S.pg s.L) : Nat))
theorem hasB_at {S : NShape} {b : Nat} (h : b < S.all) : hasB S b = true := by unfold hasB; exact decide_eq_true (by omega)
theorem lackE_at {S : NShape} {b j : Nat} (h : b < S.all) (hj : j < S.pg) : lackE S b j = 0 := by
 unfold lackE
 rw [hasB_at h, if_pos rfl, if_pos (by omega)]
theorem prog_at {S : NShape} {zs : Nat → List Int} {x : Led} {n p : Int} {b : Nat} {s : NS} (hb : b < S.all) (hj : nextN (s.L b) S.pg < S.pg) (hm : s.mr b = false) (hs : (strOfNums (snL x n p)).size ≤ 160) :
   progAt S zs x n p b s = (operS zs s 4 (tornPg b (nextN (s.L b) S.pg)) (turnPg b (nextN (s.L b) S.pg) ⟨1, [], strOfNums (snL x n p)⟩), operE zs s 4) := by
 unfold progAt progS progE
 rw [lackE_at hb hj]
 simp only [Int.toNat_natCast, true_and, if_true]
 rw [if_pos ⟨by simp; omega, hm, trivial⟩, if_neg (by omega), hm]
 simp
theorem ers_at {S : NShape} {zs : Nat → List Int} {b : Nat} {s : NS} (hb : b < S.all) (hm : s.mr b = false) :
   ersS S zs s 4 b = operS zs s 4 (fillPg b S.pg 2) (eraseS b S.pg) ∧ ersE S zs s 4 b = operE zs s 4 := by
 unfold ersS ersE
 rw [hasB_at hb]
 simp only [Int.toNat_natCast, hm]
 exact ⟨rfl, rfl⟩
theorem oper_three (zs : Nat → List Int) (s : NS) (sp dn : NS → NS) :
   (operS zs s 4 sp dn = dn (spendS s) ∧ operE zs s 4 = 0 ∧ (spendS s).off = s.off ∧ s.off = false) ∨ (operS zs s 4 sp dn = sp (spendS s) ∧ operE zs s 4 = 12) ∨ (operS zs s 4 sp dn = spendS s ∧ operE zs s 4 = 12) := by
 rw [admin_S, admin_E]
 rcases spE_cases s.px s.off with h | h | h
 · rw [h]; exact .inr (.inr ⟨rfl, rfl⟩)
 · rw [h]; exact .inr (.inl ⟨rfl, rfl⟩)
 · rw [h]
   refine .inl ⟨rfl, rfl, ?_⟩
   unfold spE at h
   split at h
   · cases h
   · rename_i ho
     split at h
     · cases h
     · rename_i hx
       simp only [Bool.not_eq_true] at ho
       refine ⟨?_, ho⟩
       show spG s.px s.off = s.off
       unfold spG
       simp [ho, hx]
theorem turn_L (i j : Nat) (x : Pg) (s : NS) (i' j' : Nat) : (turnPg i j x s).L i' j' = if i' = i ∧ j' = j then x else s.L i' j' := by
 unfold turnPg
 dsimp only
 by_cases e : i' = i
 · subst e
   by_cases e2 : j' = j
   · subst e2; simp
   · simp [e2]
 · simp [e]
theorem fill_L (i pg : Nat) (x : Int) (s : NS) (i' j' : Nat) : (fillPg i pg x s).L i' j' = if i' = i ∧ j' < pg then Pg.none x else s.L i' j' := by
 unfold fillPg fillTo
 dsimp only
 by_cases e : i' = i
 · subst e
   by_cases e2 : j' < pg
   · simp [e2]
   · simp [e2]
 · simp [e]
section
variable {S : NShape} {zs : Nat → List Int} {s : NS} {n p : Int} {now x : Led}
theorem page_tells (h : RightP x n p) (hn0 : -9223372036854775000 ≤ n) (hn : n ≤ 64) : ∃ m, pgLed n p ⟨1, [], strOfNums (snL x n p)⟩ = some m ∧ EqL m x := by
 obtain ⟨_, e2, e3, e4⟩ := snap_back h hn0 (by omega)
 have hF := h.fits (by omega) hn0
 have hb : byt (strOfNums (snL x n p)) = frL 76 (bodyL x) := by rw [e2]; exact byt_str (frL_byts (bodyTo_byts hF 4 (by omega)))
 refine ⟨_, ?_, e4⟩
 unfold pgLed
 simp only [hb]
 rw [if_pos ⟨trivial, e3⟩]
theorem page_fits (h : RightP x n p) (hn0 : -9223372036854775000 ≤ n) (hn : n ≤ 64) : (strOfNums (snL x n p)).size ≤ 160 := by
 rw [str_size, (snap_back h hn0 (by omega)).2.1]
 have := snap_fits h hn
 omega
theorem prog_tells {b : Nat} (hT : Tells n p S.pg s.L now) (hb : b < 2) (hall : 2 ≤ S.all) (hj : nextN (s.L b) S.pg < S.pg) (hm : s.mr b = false) (hR : RightP x n p) (hx : now.gen < x.gen) (hn0 : -9223372036854775000 ≤ n) (hn : n ≤ 64) :
   ((progAt S zs x n p b s).2 = 0 ∧ Tells n p S.pg (progAt S zs x n p b s).1.L x) ∨ ((progAt S zs x n p b s).2 = 12 ∧ Tells n p S.pg (progAt S zs x n p b s).1.L now) := by
 rw [prog_at (by omega) hj hm (page_fits hR hn0 hn)]
 have hbl : pgLed n p (s.L b (nextN (s.L b) S.pg)) = none := pgLed_blank (by rw [nextN_past (s.L b) S.pg _ (Nat.le_refl _) hj]; decide)
 obtain ⟨m0, hm0, he0⟩ := page_tells hR hn0 hn
 rcases oper_three zs s (tornPg b (nextN (s.L b) S.pg)) (turnPg b (nextN (s.L b) S.pg) ⟨1, [], strOfNums (snL x n p)⟩) with ⟨e1, e2, _⟩ | ⟨e1, e2⟩ | ⟨e1, e2⟩
 · refine .inl ⟨e2, ?_⟩
   rw [e1]
   refine hT.more hx (b0 := b) (j0 := nextN (s.L b) S.pg) hb hj (by rw [turn_L, if_pos ⟨rfl, rfl⟩]; exact hm0) he0 (fun c _ j _ => ?_)
   by_cases e : c = b ∧ j = nextN (s.L b) S.pg
   · exact .inl e
   · exact .inr (fun m h => by rw [turn_L, if_neg e] at h; exact h)
 · refine .inr ⟨e2, ?_⟩
   rw [e1]
   have hL : ∀ c j, (tornPg b (nextN (s.L b) S.pg) (spendS s)).L c j = if c = b ∧ j = nextN (s.L b) S.pg then { s.L b (nextN (s.L b) S.pg) with st := 2 } else s.L c j := fun c j => turn_L _ _ _ _ _ _
   refine hT.less (fun c _ j _ m h => ?_) (fun j _ m h => ?_)
   · rw [hL] at h
     split at h
     · rw [pgLed_blank (show (2 : Int) ≠ 1 by decide)] at h; cases h
     · exact h
   · rw [hL]
     split
     · rename_i e
       rw [e.1, e.2, hbl] at h; cases h
     · exact h
 · refine .inr ⟨e2, ?_⟩
   rw [e1]
   exact hT
theorem prog_mr {b : Nat} (hb : b < S.all) (hj : nextN (s.L b) S.pg < S.pg) (hm : s.mr b = false) (hs : (strOfNums (snL x n p)).size ≤ 160) : (progAt S zs x n p b s).1.mr = s.mr := by
 rw [prog_at hb hj hm hs]
 rcases oper_three zs s (tornPg b (nextN (s.L b) S.pg)) (turnPg b (nextN (s.L b) S.pg) ⟨1, [], strOfNums (snL x n p)⟩) with ⟨e1, _⟩ | ⟨e1, _⟩ | ⟨e1, _⟩ <;> rw [e1] <;> rfl
theorem nextN_fill {i pg : Nat} {s : NS} : nextN ((fillPg i pg 0 s).L i) pg = 0 := by
 have : ∀ k, k ≤ pg → nextN ((fillPg i pg 0 s).L i) k = 0 := fun k => by
   induction k with
   | zero => intro _; rfl
   | succ k ih =>
     intro hk
     have e : (fillPg i pg 0 s).L i k = Pg.none 0 := by rw [fill_L, if_pos ⟨rfl, by omega⟩]
     unfold nextN
     rw [e, if_pos (show (Pg.none 0).st = 0 from rfl), ih (by omega)]
 exact this pg (Nat.le_refl _)
theorem erase_L (i pg : Nat) (s : NS) : (eraseS i pg s).L = (fillPg i pg 0 s).L := rfl
theorem ers_tells (hT : Tells n p S.pg s.L now) (hall : 2 ≤ S.all) (hm : s.mr (1 - blkOf (newestN n p S.pg s.L)) = false) {b : Nat} (hb : b = 1 - blkOf (newestN n p S.pg s.L)) :
   Tells n p S.pg (ersS S zs s 4 b).L now ∧ (ersS S zs s 4 b).mr = s.mr ∧ (ersE S zs s 4 b = 12 ∨ ersE S zs s 4 b = 0 ∧ nextN ((ersS S zs s 4 b).L b) S.pg = 0) := by
 have hk := hT.newest.2.2
 have hne : b ≠ blkOf (newestN n p S.pg s.L) := by omega
 rw [(ers_at (zs := zs) (show b < S.all by omega) (hb ▸ hm)).1, (ers_at (zs := zs) (show b < S.all by omega) (hb ▸ hm)).2]
 have key : ∀ v, v ≠ 1 → Tells n p S.pg (fillPg b S.pg v (spendS s)).L now := fun v hv => by
   refine hT.less (fun c _ j _ m h => ?_) (fun j _ m h => ?_)
   · rw [fill_L] at h
     split at h
     · rw [pgLed_blank hv] at h; cases h
     · exact h
   · rw [fill_L, if_neg (fun e => hne e.1.symm)]
     exact h
 rcases oper_three zs s (fillPg b S.pg 2) (eraseS b S.pg) with ⟨e1, e2, _⟩ | ⟨e1, e2⟩ | ⟨e1, e2⟩
 · rw [e1, e2]
   exact ⟨by rw [erase_L]; exact key 0 (by decide), rfl, .inr ⟨rfl, by rw [erase_L]; exact nextN_fill⟩⟩
 · rw [e1, e2]
   exact ⟨key 2 (by decide), rfl, .inl rfl⟩
 · rw [e1, e2]
   exact ⟨hT, rfl, .inl rfl⟩
theorem save_tells (hT : Tells n p S.pg s.L now) (hall : 2 ≤ S.all) (hpg : 0 < S.pg) (hm : s.mr 0 = false ∧ s.mr 1 = false) (hR : RightP x n p) (hx : now.gen < x.gen) (hn0 : -9223372036854775000 ≤ n) (hn : n ≤ 64) :
   (((saveN S zs x n p s).2 = 0 ∧ Tells n p S.pg (saveN S zs x n p s).1.L x) ∨ ((saveN S zs x n p s).2 = 12 ∧ Tells n p S.pg (saveN S zs x n p s).1.L now)) ∧ (saveN S zs x n p s).1.mr = s.mr := by
 obtain ⟨h1, h2, h3⟩ := hT.newest
 have hmr : ∀ b, b < 2 → s.mr b = false := fun b hb => by
   have : b = 0 ∨ b = 1 := by omega
   rcases this with rfl | rfl
   · exact hm.1
   · exact hm.2
 have hs := page_fits hR hn0 hn
 unfold saveN
 by_cases ho : s.off = true
 · rw [if_pos ho]
   exact ⟨.inr ⟨rfl, hT⟩, rfl⟩
 rw [if_neg ho, (snap_back hR hn0 (by omega)).1, if_neg (by simp), h2, if_neg (by omega)]
 by_cases hj : nextN (s.L (blkOf (newestN n p S.pg s.L))) S.pg < S.pg
 · rw [if_pos hj]
   exact ⟨prog_tells hT h3 hall hj (hmr _ h3) hR hx hn0 hn, prog_mr (by omega) hj (hmr _ h3) hs⟩
 rw [if_neg hj]
 by_cases hz : nextN (s.L (1 - blkOf (newestN n p S.pg s.L))) S.pg = 0
 · rw [if_pos hz]
   exact ⟨prog_tells hT (by omega) hall (by omega) (hmr _ (by omega)) hR hx hn0 hn, prog_mr (by omega) (by omega) (hmr _ (by omega)) hs⟩
 rw [if_neg hz]
 obtain ⟨t1, t2, t3⟩ := ers_tells (zs := zs) hT hall (hmr _ (by omega)) rfl
 by_cases he : ersE S zs s 4 (1 - blkOf (newestN n p S.pg s.L) : Nat) ≠ 0
 · rw [if_pos he]
   rcases t3 with t3 | ⟨t3, _⟩
   · exact ⟨.inr ⟨t3, t1⟩, t2⟩
   · exact absurd t3 he
 · rw [if_neg he]
   rcases t3 with t3 | ⟨_, t4⟩
   · rw [t3] at he; exact absurd (by decide) he
   · have hm2 : (ersS S zs s 4 (1 - blkOf (newestN n p S.pg s.L) : Nat)).mr (1 - blkOf (newestN n p S.pg s.L)) = false := by rw [t2]; exact hmr _ (by omega)
     exact ⟨prog_tells t1 (by omega) hall (by omega) hm2 hR hx hn0 hn, by rw [prog_mr (by omega) (by omega) hm2 hs, t2]⟩
theorem calm_oper {c : Int} (hc : Calm s c) (sp dn : NS → NS) : operS zs s 4 sp dn = dn (spendS s) ∧ operE zs s 4 = 0 ∧ Calm (spendS s) (c + 2) := by
 rw [admin_S, admin_E, hc.px, hc.off]
 exact ⟨rfl, rfl, by have := calm_spend hc zs 4; rw [admin_D] at this; exact this⟩
theorem turn_calm {c : Int} (hc : Calm s c) (i j : Nat) (y : Pg) : Calm (turnPg i j y s) c := calm_of hc rfl rfl rfl rfl rfl hc.cnt.er
theorem prog_calm {b : Nat} {c : Int} (hc : Calm s c) (hb : b < S.all) (hj : nextN (s.L b) S.pg < S.pg) (hm : s.mr b = false) (hs : (strOfNums (snL x n p)).size ≤ 160) : (progAt S zs x n p b s).2 = 0 ∧ Calm (progAt S zs x n p b s).1 (c + 2) := by
 rw [prog_at hb hj hm hs]
 obtain ⟨e1, e2, e3⟩ := calm_oper (zs := zs) hc (tornPg b (nextN (s.L b) S.pg)) (turnPg b (nextN (s.L b) S.pg) ⟨1, [], strOfNums (snL x n p)⟩)
 rw [e1]
 exact ⟨e2, turn_calm e3 _ _ _⟩
theorem erase_calm {c : Int} (hc : Calm s c) (i pg : Nat) : Calm (eraseS i pg s) (c + 1) := by
 have h2 := hc.mono (m := c + 1) (by omega)
 refine calm_of h2 rfl rfl rfl rfl rfl (fun i' => ?_)
 have e1 := hc.cnt.er i
 have e2 := hc.cnt.er i'
 show 0 ≤ (if i' = i then s.er i + 1 else s.er i') ∧ (if i' = i then s.er i + 1 else s.er i') ≤ c + 1
 split <;> omega
theorem save_calm {c : Int} (hc : Calm s c) (hT : Tells n p S.pg s.L now) (hall : 2 ≤ S.all) (hpg : 0 < S.pg) (hm : s.mr 0 = false ∧ s.mr 1 = false) (hR : RightP x n p) (hx : now.gen < x.gen) (hn0 : -9223372036854775000 ≤ n) (hn : n ≤ 64) :
   (saveN S zs x n p s).2 = 0 ∧ Calm (saveN S zs x n p s).1 (c + 5) := by
 obtain ⟨h1, h2, h3⟩ := hT.newest
 have hmr : ∀ b, b < 2 → s.mr b = false := fun b hb => by
   have : b = 0 ∨ b = 1 := by omega
   rcases this with rfl | rfl
   · exact hm.1
   · exact hm.2
 have hs := page_fits hR hn0 hn
 unfold saveN
 rw [if_neg (by rw [hc.off]; simp), (snap_back hR hn0 (by omega)).1, if_neg (by simp), h2, if_neg (by omega)]
 by_cases hj : nextN (s.L (blkOf (newestN n p S.pg s.L))) S.pg < S.pg
 · rw [if_pos hj]
   have := prog_calm (zs := zs) hc (show blkOf (newestN n p S.pg s.L) < S.all by omega) hj (hmr _ h3) hs
   exact ⟨this.1, this.2.mono (by omega)⟩
 rw [if_neg hj]
 by_cases hz : nextN (s.L (1 - blkOf (newestN n p S.pg s.L))) S.pg = 0
 · rw [if_pos hz]
   have := prog_calm (zs := zs) hc (show 1 - blkOf (newestN n p S.pg s.L) < S.all by omega) (by omega) (hmr _ (by omega)) hs
   exact ⟨this.1, this.2.mono (by omega)⟩
 rw [if_neg hz]
 obtain ⟨t1, t2, t3⟩ := ers_tells (zs := zs) hT hall (hmr _ (by omega)) rfl
 have hers := ers_at (zs := zs) (show 1 - blkOf (newestN n p S.pg s.L) < S.all by omega) (hmr _ (by omega))
 obtain ⟨e1, e2, e3⟩ := calm_oper (zs := zs) hc (fillPg (1 - blkOf (newestN n p S.pg s.L)) S.pg 2) (eraseS (1 - blkOf (newestN n p S.pg s.L)) S.pg)
 rw [if_neg (by rw [hers.2, e2]; simp)]
 have hc2 : Calm (ersS S zs s 4 (1 - blkOf (newestN n p S.pg s.L) : Nat)) (c + 3) := by
   rw [hers.1, e1]
   have := erase_calm e3 (1 - blkOf (newestN n p S.pg s.L)) S.pg
   exact this.mono (by omega)
 rcases t3 with t3 | ⟨_, t4⟩
 · rw [hers.2, e2] at t3; exact absurd t3 (by decide)
 · have hm2 : (ersS S zs s 4 (1 - blkOf (newestN n p S.pg s.L) : Nat)).mr (1 - blkOf (newestN n p S.pg s.L)) = false := by rw [t2]; exact hmr _ (by omega)
   have := prog_calm (zs := zs) hc2 (show 1 - blkOf (newestN n p S.pg s.L) < S.all by omega) (by omega) hm2 hs
   exact ⟨this.1, this.2.mono (by omega)⟩
theorem turn_cnt {c : Int} (hc : Cnt s c) (i j : Nat) (y : Pg) : Cnt (turnPg i j y s) c := ⟨hc.po, hc.N, hc.M, hc.er, hc.px⟩
theorem fill_cnt {c : Int} (hc : Cnt s c) (i pg : Nat) (y : Int) : Cnt (fillPg i pg y s) c := ⟨hc.po, hc.N, hc.M, hc.er, hc.px⟩
theorem erase_cnt {c : Int} (hc : Cnt s c) (i pg : Nat) : Cnt (eraseS i pg s) (c + 1) := by
 obtain ⟨h1, h2, h3, h4, h5⟩ := hc
 refine ⟨⟨h1.1, by have := h1.2; show s.po ≤ c + 1; omega⟩, fun j => ⟨(h2 j).1, by have := (h2 j).2; show s.N j ≤ c + 1; omega⟩, fun j => ⟨(h3 j).1, by have := (h3 j).2; show s.M j ≤ c + 1; omega⟩, fun i' => ?_, h5⟩
 have e1 := h4 i
 have e2 := h4 i'
 show 0 ≤ (if i' = i then s.er i + 1 else s.er i') ∧ (if i' = i then s.er i + 1 else s.er i') ≤ c + 1
 split <;> omega
theorem cnt_mono {c d : Int} (h : Cnt s c) (hd : c ≤ d) : Cnt s d := by
 obtain ⟨h1, h2, h3, h4, h5⟩ := h
 exact ⟨by omega, fun j => by have := h2 j; omega, fun j => by have := h3 j; omega, fun i => by have := h4 i; omega, h5⟩
theorem oper_cnt {c : Int} (hc : Cnt s c) (sp dn : NS → NS) (hsp : ∀ s', Cnt s' (c + 1) → Cnt (sp s') (c + 2)) (hdn : ∀ s', Cnt s' (c + 1) → Cnt (dn s') (c + 2)) : Cnt (operS zs s 4 sp dn) (c + 2) := by
 rcases oper_three zs s sp dn with ⟨e1, _⟩ | ⟨e1, _⟩ | ⟨e1, _⟩ <;> rw [e1]
 · exact hdn _ hc.spend
 · exact hsp _ hc.spend
 · exact cnt_mono hc.spend (by omega)
theorem progAt_cnt {b : Nat} {c : Int} (hc : Cnt s c) (hb : b < S.all) (hj : nextN (s.L b) S.pg < S.pg) (hm : s.mr b = false) (hs : (strOfNums (snL x n p)).size ≤ 160) : Cnt (progAt S zs x n p b s).1 (c + 2) := by
 rw [prog_at hb hj hm hs]
 exact oper_cnt hc _ _ (fun s' h => cnt_mono (turn_cnt h _ _ _) (by omega)) (fun s' h => cnt_mono (turn_cnt h _ _ _) (by omega))
theorem ersS_cnt {b : Nat} {c : Int} (hc : Cnt s c) (hb : b < S.all) (hm : s.mr b = false) : Cnt (ersS S zs s 4 b) (c + 2) := by
 rw [(ers_at (zs := zs) hb hm).1]
 exact oper_cnt hc _ _ (fun s' h => cnt_mono (fill_cnt h _ _ _) (by omega)) (fun s' h => by have := erase_cnt h b S.pg; exact cnt_mono this (by omega))
def PgOk12 (x : Pg) : Prop := x.dt.size ≤ 160 ∧ (x.st = 0 ∨ x.st = 1 ∨ x.st = 2)
def Beside (P : List Int → Prop) (s : NS) : Prop := ∀ i j, P (s.L i j).bs ∧ PgOk12 (s.L i j)
theorem pgOk_none {y : Int} (h : y = 0 ∨ y = 1 ∨ y = 2) : PgOk12 (Pg.none y) := ⟨Nat.zero_le _, h⟩
abbrev Small (s : NS) : Prop := Beside (fun l => l.length ≤ 32) s
variable {P : List Int → Prop}
theorem Beside.turn (h : Beside P s) (i j : Nat) (y : Pg) (hy : P y.bs ∧ PgOk12 y) : Beside P (turnPg i j y s) := fun i' j' => by
 rw [turn_L]; split
 · exact hy
 · exact h i' j'
theorem Beside.fill (h : Beside P s) (hP : P []) (i pg : Nat) (y : Int) (hy : y = 0 ∨ y = 1 ∨ y = 2) : Beside P (fillPg i pg y s) := fun i' j' => by
 rw [fill_L]; split
 · exact ⟨hP, pgOk_none hy⟩
 · exact h i' j'
theorem Beside.small {s : NS} (h : Beside (· = []) s) : Small s := fun i j => ⟨by rw [(h i j).1]; simp, (h i j).2⟩
theorem oper_small (h : Beside P s) (sp dn : NS → NS) (hsp : ∀ s', Beside P s' → Beside P (sp s')) (hdn : ∀ s', Beside P s' → Beside P (dn s')) : Beside P (operS zs s 4 sp dn) := by
 have hs : Beside P (spendS s) := h
 rcases oper_three zs s sp dn with ⟨e1, _⟩ | ⟨e1, _⟩ | ⟨e1, _⟩ <;> rw [e1]
 · exact hdn _ hs
 · exact hsp _ hs
 · exact hs
theorem progAt_small {b : Nat} (h : Beside P s) (hP : P []) (hb : b < S.all) (hj : nextN (s.L b) S.pg < S.pg) (hm : s.mr b = false) (hs : (strOfNums (snL x n p)).size ≤ 160) : Beside P (progAt S zs x n p b s).1 := by
 rw [prog_at hb hj hm hs]
 exact oper_small h _ _ (fun s' h' => h'.turn _ _ _ ⟨(h' _ _).1, (h' _ _).2.1, .inr (.inr rfl)⟩) (fun s' h' => h'.turn _ _ _ ⟨hP, hs, .inr (.inl rfl)⟩)
theorem ersS_small {b : Nat} (h : Beside P s) (hP : P []) (hb : b < S.all) (hm : s.mr b = false) : Beside P (ersS S zs s 4 b) := by
 rw [(ers_at (zs := zs) hb hm).1]
 exact oper_small h _ _ (fun s' h' => h'.fill hP _ _ _ (.inr (.inr rfl))) (fun s' h' => h'.fill hP _ _ _ (.inl rfl))
theorem save_small {c : Int} (hsm : Beside P s) (hP : P []) (hc : Cnt s c) (hT : Tells n p S.pg s.L now) (hall : 2 ≤ S.all) (hpg : 0 < S.pg) (hm : s.mr 0 = false ∧ s.mr 1 = false) (hR : RightP x n p) (hx : now.gen < x.gen) (hn0 : -9223372036854775000 ≤ n) (hn : n ≤ 64) :
   Beside P (saveN S zs x n p s).1 ∧ Cnt (saveN S zs x n p s).1 (c + 5) := by
 obtain ⟨h1, h2, h3⟩ := hT.newest
 have hmr : ∀ b, b < 2 → s.mr b = false := fun b hb => by
   have : b = 0 ∨ b = 1 := by omega
   rcases this with rfl | rfl
   · exact hm.1
   · exact hm.2
 have hs := page_fits hR hn0 hn
 unfold saveN
 by_cases ho : s.off = true
 · rw [if_pos ho]
   exact ⟨hsm, cnt_mono hc (by omega)⟩
 rw [if_neg ho, (snap_back hR hn0 (by omega)).1, if_neg (by simp), h2, if_neg (by omega)]
 by_cases hj : nextN (s.L (blkOf (newestN n p S.pg s.L))) S.pg < S.pg
 · rw [if_pos hj]
   exact ⟨progAt_small hsm hP (by omega) hj (hmr _ h3) hs, cnt_mono (progAt_cnt hc (by omega) hj (hmr _ h3) hs) (by omega)⟩
 rw [if_neg hj]
 by_cases hz : nextN (s.L (1 - blkOf (newestN n p S.pg s.L))) S.pg = 0
 · rw [if_pos hz]
   exact ⟨progAt_small hsm hP (by omega) (by omega) (hmr _ (by omega)) hs, cnt_mono (progAt_cnt hc (by omega) (by omega) (hmr _ (by omega)) hs) (by omega)⟩
 rw [if_neg hz]
 obtain ⟨t1, t2, t3⟩ := ers_tells (zs := zs) hT hall (hmr _ (by omega)) rfl
 have hsm2 := ersS_small (S := S) (zs := zs) (b := 1 - blkOf (newestN n p S.pg s.L)) hsm hP (by omega) (hmr _ (by omega))
 have hc2 := ersS_cnt (zs := zs) (S := S) (b := 1 - blkOf (newestN n p S.pg s.L)) hc (by omega) (hmr _ (by omega))
 by_cases he : ersE S zs s 4 (1 - blkOf (newestN n p S.pg s.L) : Nat) ≠ 0
 · rw [if_pos he]
   exact ⟨hsm2, cnt_mono hc2 (by omega)⟩
 · rw [if_neg he]
   rcases t3 with t3 | ⟨_, t4⟩
   · rw [t3] at he; exact absurd (by decide) he
   · have hm2 : (ersS S zs s 4 (1 - blkOf (newestN n p S.pg s.L) : Nat)).mr (1 - blkOf (newestN n p S.pg s.L)) = false := by rw [t2]; exact hmr _ (by omega)
     exact ⟨progAt_small hsm2 hP (by omega) (by omega) hm2 hs, cnt_mono (progAt_cnt hc2 (by omega) (by omega) hm2 hs) (by omega)⟩
end
end Go.Proofs.YtfgifgglcafadaaGreatDoor

namespace Go.Proofs.YtfgifgglcafadaaGreatDoor
set_option linter.unusedVariables false
set_option linter.unusedSimpArgs false
set_option linter.unusedVariables false
set_option linter.unusedSimpArgs false
set_option maxRecDepth 100000
open Go.RowKit
theorem number_s {s : Rst} {br c : Nat} {n : Int} {w : World} (hR : RdIs 303 w br c s.1 s.2) (hB : Byts s.1) :
   Calls Tryz.prog 244 #[.pointer (some ⟨br, 0, none⟩), .int .i64 n] w fun e w' => e = .returned (.int .i64 (rdV n s)) ∧ RdIs 303 w' br c (rdN n s).1 (rdN n s).2 ∧ w.grownBy w' (some br) := number_is hR hB rfl rfl rfl
theorem flag_s {s : Rst} {br c : Nat} {w : World} (hR : RdIs 303 w br c s.1 s.2) (hB : Byts s.1) :
   Calls Tryz.prog 246 #[.pointer (some ⟨br, 0, none⟩)] w fun e w' => e = .returned (.bool (rdB s)) ∧ RdIs 303 w' br c (rdF s).1 (rdF s).2 ∧ w.grownBy w' (some br) := flag_is hR hB rfl rfl rfl
structure Ent (T : TypeId) (w0 w : World) (br c R E : Nat) (s : Rst) (x : Ten) (v : Value) : Prop where
 rd : RdIs T w br c s.1 s.2
 byt : Byts s.1
 res : Blk w R 53 zeroTC
 ent : Blk w E 53 (tenC x v)
 row : OwnI (E + 1) w v x.bs
 ext : w0.grownBy w (some br)
 oR : w0.heap.size ≤ R
 oE : R < E
 ob : br < w0.heap.size
 oc : c < w0.heap.size
theorem Ent.num {T : TypeId} {w0 w w' : World} {br c R E : Nat} {s s' : Rst} {x : Ten} {v : Value} (h : Ent T w0 w br c R E s x v) (hg : w.grownBy w' (some br)) (hR : RdIs T w' br c s'.1 s'.2) (hB : Byts s'.1) : Ent T w0 w' br c R E s' x v := by
 have := h.oR
 have := h.oE
 have := h.ob
 exact ⟨hR, hB, h.res.kept hg (by simp; omega), h.ent.kept hg (by simp; omega), own_kept h.row hg (fun p hp e => by injection e with e; have := (own_lt h.row p hp).1; omega), grown_trans h.ext hg (fun p hp _ => by injection hp with hp; rw [hp]), h.oR, h.oE, h.ob, h.oc⟩
theorem Ent.put {T : TypeId} {w0 w : World} {br c R E : Nat} {s : Rst} {x y : Ten} {v : Value} {i : Nat} {u : Value} (h : Ent T w0 w br c R E s x v) (hy : (tenC x v).setIfInBounds i u = tenC y v) (hb : y.bs = x.bs) : Ent T w0 (w.setCell ⟨E, i, none⟩ u) br c R E s y v := by
 have q1 := h.oR
 have q2 := h.oE
 have q3 := h.ob
 have q4 := h.oc
 have hg : w.grownBy (w.setCell ⟨E, i, none⟩ u) (some E) := grown_set w ⟨E, i, none⟩ u
 refine ⟨h.rd.kept hg (by simp; omega) (by simp; omega), h.byt, h.res.kept hg (by simp; omega), ?_, ?_, grown_trans h.ext hg (fun p hp hlt => by injection hp with hp; omega), h.oR, h.oE, h.ob, h.oc⟩
 · rw [← hy]; exact h.ent.set i u
 · rw [hb]; exact own_kept h.row hg (fun p hp e => by injection e with e; have := (own_lt h.row p hp).1; omega)
theorem Ent.next {T : TypeId} {w0 w w' : World} {br c R E : Nat} {s : Rst} {x : Ten} {v : Value} (h : Ent T w0 w br c R E s x v) (hg : Ext w w') : Ent T w0 w' br c R E s x v :=
 ⟨h.rd.kept hg (by simp) (by simp), h.byt, h.res.ext hg, h.ent.ext hg, own_kept h.row hg (by simp), grown_trans h.ext hg (fun p hp => by simp at hp), h.oR, h.oE, h.ob, h.oc⟩
theorem Ent.more {T : TypeId} {w0 w w1 : World} {br c R E : Nat} {s : Rst} {x : Ten} {v v' : Value} {a : Int} (h : Ent T w0 w br c R E s x v) (ho : OwnI (E + 1) w1 v' (x.bs ++ [a]))
   (hg : (w.alloc (.cells #[.int .i64 a] 3)).grownBy w1 v.ownBlock) : Ent T w0 (w1.setCell ⟨E, 4, none⟩ v') br c R E s { x with bs := x.bs ++ [a] } v' := by
 have q1 := h.oR
 have q2 := h.oE
 have q3 := h.ob
 have q4 := h.oc
 have ha := World.grownBy_alloc w (.cells #[.int .i64 a] 3) none
 have own : ∀ p, v.ownBlock = some p → E < p ∧ p < w.heap.size := fun p hp => by have := own_lt h.row p hp; omega
 have hs : w1.grownBy (w1.setCell ⟨E, 4, none⟩ v') (some E) := grown_set w1 ⟨E, 4, none⟩ v'
 have hE1 := (h.ent.ext ha).kept hg (fun e => by have := own E e.symm; omega)
 have hR1 := (h.res.ext ha).kept hg (fun e => by have := own R e.symm; omega)
 have hr1 := (h.rd.kept ha (by simp) (by simp)).kept hg (fun e => by have := own br e.symm; omega) (fun e => by have := own c e.symm; omega)
 refine ⟨hr1.kept hs (by simp; omega) (by simp; omega), h.byt, hR1.kept hs (by simp; omega), ?_, ?_, ?_, h.oR, h.oE, h.ob, h.oc⟩
 · exact hE1.set 4 v'
 · exact own_kept ho hs (fun p hp e => by injection e with e; have := (own_lt ho p hp).1; omega)
 · have e1 : w0.grownBy (w.alloc (.cells #[.int .i64 a] 3)) (some br) := grown_trans h.ext ha (fun p hp => by simp at hp)
   exact grown_trans (grown_trans e1 hg (fun p hp hlt => by have := own p hp; omega)) hs (fun p hp hlt => by injection hp with hp; omega)
theorem gb_some {w w' : World} (h : w.grownBy w' none) (B : Nat) : w.grownBy w' (some B) := ⟨h.os, h.tape, h.output, h.size, fun k hk _ => h.block k hk (by simp)⟩
theorem ent_start {T : TypeId} {w w1 w2 w3 : World} {br c : Nat} {s : Rst} (ha : Ext w w1) (hres : Blk w1 w.heap.size 53 zeroTC) (hg2 : w1.grownBy w2 (some br)) (hR : RdIs T w2 br c s.1 s.2) (hB : Byts s.1)
   (hb3 : Blk w3 w2.heap.size 53 (tenC ⟨true, 0, 0, 0, []⟩ nilS)) (hg3 : (w2.alloc (.cells zeroTC 53)).grownBy w3 (some w2.heap.size)) (hb : br < w.heap.size) (hc : c < w.heap.size) (hsz : w1.heap.size = w.heap.size + 1) :
   Ent T w w3 br c w.heap.size w2.heap.size s ⟨true, 0, 0, 0, []⟩ nilS := by
 have q2 := hg2.size
 have hg : w2.grownBy w3 none := grown_trans (World.grownBy_alloc w2 (.cells zeroTC 53) none) hg3 (fun p hp hlt => by injection hp with hp; omega)
 exact ⟨hR.kept hg (by simp) (by simp), hB, (hres.kept hg2 (by simp; omega)).ext hg, hb3, World.ownsRow_nil _ _ _ _, grown_trans (grown_trans (gb_some ha br) hg2 (fun p hp _ => hp.symm)) hg (fun p hp => by simp at hp), Nat.le_refl _, by omega, hb, hc⟩
theorem results_cell_one {P : Program} {fn : Func} {p : Tmp} {ty : TypeId} {tmps : Array Value} {w : World} {g : Nat} {bt : TypeId} {cs : Array Value} {d : TypeDesc} (h : fn.results = #[.cell p ty])
   (hp : tmps.getD p undef = .pointer (some ⟨g, 0, none⟩)) (hg : w.heap[g]? = some (.cells cs bt (0, 0)))
   (hu : P.underlying ty = some d) (hd : (match d with | .struct _ | .array _ _ => true | _ => false) = true) (hi : (P.info? ty).map (·.size) = some cs.size) :
   (results fn tmps).run P w = .ok (.agg cs) w := by
 have hp' : tmps[p]?.getD undef = .pointer (some ⟨g, 0, none⟩) := by simpa using hp
 simp [results, h, hp', asAddr, run_loadVar_row w g bt ty cs (0, 0) d hg hu hd hi]
def EntP (T : TypeId) (w : World) (br c : Nat) (s : Rst) (e : Ending) (w' : World) : Prop :=
 ∃ v, e = .returned (.agg (tenC (entT s) v)) ∧ OwnI w.heap.size w' v (entT s).bs ∧ RdIs T w' br c (entS s).1 (entS s).2 ∧ w.grownBy w' (some br)
set_option maxRecDepth 100000 in
set_option maxHeartbeats 1600000 in
theorem readEntry_any (br c : Nat) (s : Rst) (w : World) (hR : RdIs 303 w br c s.1 s.2) (hB : Byts s.1) (hb : br < w.heap.size) (hc : c < w.heap.size) :
   Calls Tryz.prog 270 #[.pointer (some ⟨br, 0, none⟩)] w (EntP 303 w br c s) := by
 have hres := Blk.new w 53 zeroTC
 have ha := World.grownBy_alloc w (.cells zeroTC 53) none
 have hsz : (w.alloc (.cells zeroTC 53)).heap.size = w.heap.size + 1 := by simp
 obtain ⟨w1, hw1⟩ : ∃ x, w.alloc (.cells zeroTC 53) = x := ⟨_, rfl⟩
 rw [hw1] at hres ha hsz
 have F1 := flag_s (hR.kept ha (by simp) (by simp)) hB
 have HA := Lib.hid ha
 have HRES := Lib.hid hres
 have HBY := Lib.hid hB
 cases hq : rdB s
 · rw [hq] at F1
   have HX := Lib.hid (show entT s = noTen by unfold entT; rw [if_neg (by rw [hq]; simp)])
   have HS := Lib.hid (show entS s = rdF s by unfold entS; rw [if_neg (by rw [hq]; simp)])
   clear hq ha hB hR hres
   go_enter Tryz.func270, Tryz.ntmps270
   go_wp2_with (first
     | (go_at_call 246; refine F1.mono ?_; rintro e w2 ⟨rfl, hR2, hg2⟩; have hr2 := HRES.out.kept hg2 (by simp; omega))
     | (refine ten_store (z := noTen) (v := nilS) _ _ rfl rfl rfl hr2 rfl ⟨_, _, _, rfl⟩ rfl ?_; intro w3 hb3 hg3 hs3))
   refine bodyPost_ret (v := .agg (tenC noTen nilS)) (results_cell_one rfl rfl hb3 Tryz.underlying53 rfl Tryz.sizeTen) rfl ?_
   refine ⟨nilS, by rw [HX.out], by rw [HX.out]; exact World.ownsRow_nil _ _ _ _, by rw [HS.out]; exact hR2.kept hg3 (by simp; omega) (by simp; omega), ?_⟩
   exact grown_trans (grown_trans (gb_some HA.out br) hg2 (fun p hp _ => hp.symm)) hg3 (fun p hp hlt => by injection hp with hp; omega)
 · rw [hq] at F1
   obtain ⟨s1, hs1⟩ : ∃ z, rdF s = z := ⟨_, rfl⟩
   obtain ⟨s2, hs2⟩ : ∃ z, rdN 4 s1 = z := ⟨_, rfl⟩
   obtain ⟨s3, hs3⟩ : ∃ z, rdN 1 s2 = z := ⟨_, rfl⟩
   obtain ⟨s4, hs4⟩ : ∃ z, rdN 1 s3 = z := ⟨_, rfl⟩
   obtain ⟨s5, hs5⟩ : ∃ z, rdN 1 s4 = z := ⟨_, rfl⟩
   obtain ⟨y1, hy1⟩ : ∃ z, rdV 4 s1 = z := ⟨_, rfl⟩
   obtain ⟨y2, hy2⟩ : ∃ z, rdV 1 s2 = z := ⟨_, rfl⟩
   obtain ⟨y3, hy3⟩ : ∃ z, rdV 1 s3 = z := ⟨_, rfl⟩
   have b1 : Byts s1.1 := hs1 ▸ rdF_byts hB
   have b2 : Byts s2.1 := hs2 ▸ rdN_byts b1
   have b3 : Byts s3.1 := hs3 ▸ rdN_byts b2
   have b4 : Byts s4.1 := hs4 ▸ rdN_byts b3
   have b5 : Byts s5.1 := hs5 ▸ rdN_byts b4
   have e4 : ent4 s = s4 := by unfold ent4; rw [hs1, hs2, hs3, hs4]
   obtain ⟨m, hm⟩ : ∃ m : Nat, rdV 1 s4 = (m : Int) := ⟨(rdV 1 s4).toNat, by have := rdV_one b4; omega⟩
   have hm5 : m ≤ 255 := by have := rdV_one b4; omega
   have HX := Lib.hid (show entT s = ⟨true, y1, y2, y3, rowV s5 m⟩ by unfold entT entN; rw [if_pos hq, e4, hs1, hy1, hs2, hy2, hs3, hy3, hs5, hm, Int.toNat_natCast])
   have HS := Lib.hid (show entS s = rowS s5 m by unfold entS entN; rw [if_pos hq, e4, hs5, hm, Int.toNat_natCast])
   have N1 := fun wr (h : RdIs 303 wr br c s1.1 s1.2) => number_s (n := 4) h b1
   have N2 := fun wr (h : RdIs 303 wr br c s2.1 s2.2) => number_s (n := 1) h b2
   have N3 := fun wr (h : RdIs 303 wr br c s3.1 s3.2) => number_s (n := 1) h b3
   have N4 := fun wr (h : RdIs 303 wr br c s4.1 s4.2) => number_s (n := 1) h b4
   rw [hs1] at F1
   rw [hs2, hy1] at N1
   rw [hs3, hy2] at N2
   rw [hs4, hy3] at N3
   rw [hs5, hm] at N4
   have HBS := Lib.hid (And.intro b1 (And.intro b2 (And.intro b3 (And.intro b4 b5))))
   clear hq ha hB hR hres hs1 hs2 hs3 hs4 hs5 hy1 hy2 hy3 b1 b2 b3 b4 b5 e4 hm
   go_enter Tryz.func270, Tryz.ntmps270
   go_wp2_with (first
     | (go_at_call 244; refine (N4 _ S4.out.rd).mono ?_; rintro e n5 ⟨rfl, hR5, hg5⟩; have S5 := Lib.hid (S4.out.num hg5 hR5 HBS.out.2.2.2.2); clear hR5 hg5)
     | (go_at_call 244; refine (N3 _ S3.out.rd).mono ?_; rintro e n4 ⟨rfl, hR4, hg4⟩; have T4 := S3.out.num hg4 hR4 HBS.out.2.2.2.1; have d3 := (T4.ent.cell 3).trans (ten_sp _ _); have f3 := T4.ent.free 3; have S4 := Lib.hid (T4.put (i := 3) (y := ⟨true, y1, y2, y3, []⟩) (u := .int .i64 y3) rfl rfl); clear T4 hR4 hg4)
     | (go_at_call 244; refine (N2 _ S2.out.rd).mono ?_; rintro e n3 ⟨rfl, hR3, hg3⟩; have T3 := S2.out.num hg3 hR3 HBS.out.2.2.1; have d2 := (T3.ent.cell 2).trans (ten_sz _ _); have f2 := T3.ent.free 2; have S3 := Lib.hid (T3.put (i := 2) (y := ⟨true, y1, y2, 0, []⟩) (u := .int .i64 y2) rfl rfl); clear T3 hR3 hg3)
     | (go_at_call 244; refine (N1 _ S1.out.rd).mono ?_; rintro e n2 ⟨rfl, hR2, hg2⟩; have T2 := S1.out.num hg2 hR2 HBS.out.2.1; have d1 := (T2.ent.cell 1).trans (ten_ep _ _); have f1 := T2.ent.free 1; have S2 := Lib.hid (T2.put (i := 1) (y := ⟨true, y1, 0, 0, []⟩) (u := .int .i64 y1) rfl rfl); clear T2 hR2 hg2)
     | (go_at_call 246; refine F1.mono ?_; rintro e w2 ⟨rfl, hR2, hg2⟩; have HW2 := Lib.hid (And.intro hR2 hg2); have hBn := Blk.new w2 53 zeroTC; clear hR2 hg2)
     | (refine ten_store (z := ⟨true, 0, 0, 0, []⟩) (v := nilS) _ _ rfl rfl rfl hBn rfl ⟨_, _, _, rfl⟩ rfl ?_; intro w3 hb3 hg3 hs3; have S1 := Lib.hid (ent_start HA.out HRES.out HW2.out.2 HW2.out.1 HBS.out.1 hb3 hg3 hb hc hsz); clear hb3 hg3 hs3 hBn))
   clear F1 N1 N2 N3 N4 hb hc hsz
   go_loopw [20] (fun i wr => ∃ (k : Nat) (v : Value), k ≤ m ∧ i = .int .i64 k ∧ Ent 303 w wr br c w.heap.size w2.heap.size (rowS s5 k) ⟨true, y1, y2, y3, rowV s5 k⟩ v) (fun i _ => m - (intOf i).toNat)
   case atStart => exact ⟨0, nilS, by omega, rfl, S5.out⟩
   case round =>
     obtain ⟨k, v, hk, rfl, hS⟩ := hrel
     by_cases hlt : k < m
     · have HR := Lib.hid hS
       obtain ⟨a, ha⟩ : ∃ z, rdV 1 (rowS s5 k) = z := ⟨_, rfl⟩
       have N := fun wx (h : RdIs 303 wx br c (rowS s5 k).1 (rowS s5 k).2) => number_s (n := 1) h hS.byt
       rw [ha] at N
       have HAA := Lib.hid ha
       have hlen : (rowV s5 k).length ≤ 255 := by rw [rowV_len]; omega
       have HLEN := Lib.hid hlen
       clear ha hS hlen
       go_wp2
       refine region_tree (.read 0 (.read 2 (.two 1 3 (.one 3 (.one 4 (.one 5 (.read 6 (.one 7 .done))))) (.two 1 4 (.one 4 (.one 5 (.read 6 (.one 7 .done)))) (.one 1 (.one 5 (.read 6 (.one 7 .done)))))))) (fun _ => True) (by kernel_rfl) (by kernel_rfl) (fun _ _ _ d _ h => by cases d <;> exact h) trivial ?_
       have HW := Lib.hid (HR.out.next (Ext.drew wr))
       generalize wr.drew = wd at HW ⊢
       have hT : True := trivial
       repeat (refine tree_read (a' := ?_) rfl (by kernel_rfl) (by kernel_rfl) hT (fun x hx K hK => ?_) ?_; rotate_left; · go_wp2; exact hK)
       refine tree_two ?_ ?_
       · have HX1 := HW
         have c4 := (HX1.out.ent.cell 4).trans (ten_bs _ _)
         refine tree_one (by rfl) (fun K hK => ?_)
         go_wp2
         refine hK _ _ (fun _ => True) hT (fun x hx => hx) ?_
         clear hK K
         clear c4
         refine tree_one (by rfl) (fun K hK => ?_)
         have hRd := HW.out.rd
         go_wp2_with (go_at_call 244; refine (N _ hRd).mono ?_; rintro e wn ⟨rfl, hRn, hgn⟩)
         have HN := Lib.hid (HW.out.num (s' := rowS s5 (k + 1)) hgn hRn (rdN_byts HW.out.byt))
         refine hK _ _ (fun _ => True) hT (fun x hx => hx) ?_
         clear hK K
         clear hRn hgn hRd
         refine tree_one (by rfl) (fun K hK => ?_)
         go_wp2
         refine hK _ _ (fun _ => True) hT (fun x hx => hx) ?_
         clear hK K
         refine tree_one (by rfl) (fun K hK => ?_)
         refine append_ints rfl _ _ rfl (w2.heap.size + 1) v (rowV s5 k) rfl (own_kept HN.out.row (World.grownBy_alloc wn (.cells #[.int .i64 a] 3) none) (by simp)) (.slice (some ⟨wn.heap.size, 0, none⟩) 1 1) [a] rfl (ints_one wn a 3) ?_ ?_ ?_
         · have hq := HLEN.out
           simp only [List.length_cons, List.length_nil]
           omega
         · have hq := HN.out.ent.lt
           simp
           omega
         intro v9 w9 ho9 hg9 hw9
         obtain ⟨av9, nv9, cv9, rfl⟩ : SliceV v9 := (owns_ints rfl ho9).slice
         go_wp2
         refine hK _ _ (fun _ => True) hT (fun x hx => hx) ?_
         clear hK K
         repeat (refine tree_read (a' := ?_) rfl (by kernel_rfl) (by kernel_rfl) hT (fun x hx K hK => ?_) ?_; rotate_left; · go_wp2; exact hK)
         have hE9 := (HN.out.ent.ext (World.grownBy_alloc wn (.cells #[.int .i64 a] 3) none)).kept hg9 (fun e => by have := (own_lt HN.out.row _ e.symm).1; omega)
         have c9 := (hE9.cell 4).trans (ten_bs _ _)
         have f9 := hE9.free 4
         have HM := Lib.hid (HN.out.more ho9 hg9)
         clear hE9
         refine tree_one (by rfl) (fun K hK => ?_)
         go_wp2
         refine hK _ _ (fun _ => True) hT (fun x hx => hx) ?_
         clear hK K
         refine tree_end ?_
         go_wp2
         go_roundw
         case rel => exact ⟨k + 1, _, by omega, by go_num, by rw [rowV, HAA.out]; exact HM.out⟩
         case measure => simp [intOf]; omega
       · refine tree_one (by rfl) (fun K hK => ?_)
         have hRd := HW.out.rd
         go_wp2_with (go_at_call 244; refine (N _ hRd).mono ?_; rintro e wn ⟨rfl, hRn, hgn⟩)
         have HN := Lib.hid (HW.out.num (s' := rowS s5 (k + 1)) hgn hRn (rdN_byts HW.out.byt))
         refine hK _ _ (fun _ => True) hT (fun x hx => hx) ?_
         clear hK K
         clear hRn hgn hRd
         refine tree_two ?_ ?_
         · have HX1 := HN
           have c4 := (HX1.out.ent.cell 4).trans (ten_bs _ _)
           refine tree_one (by rfl) (fun K hK => ?_)
           go_wp2
           refine hK _ _ (fun _ => True) hT (fun x hx => hx) ?_
           clear hK K
           clear c4
           refine tree_one (by rfl) (fun K hK => ?_)
           go_wp2
           refine hK _ _ (fun _ => True) hT (fun x hx => hx) ?_
           clear hK K
           refine tree_one (by rfl) (fun K hK => ?_)
           refine append_ints rfl _ _ rfl (w2.heap.size + 1) v (rowV s5 k) rfl (own_kept HN.out.row (World.grownBy_alloc wn (.cells #[.int .i64 a] 3) none) (by simp)) (.slice (some ⟨wn.heap.size, 0, none⟩) 1 1) [a] rfl (ints_one wn a 3) ?_ ?_ ?_
           · have hq := HLEN.out
             simp only [List.length_cons, List.length_nil]
             omega
           · have hq := HN.out.ent.lt
             simp
             omega
           intro v9 w9 ho9 hg9 hw9
           obtain ⟨av9, nv9, cv9, rfl⟩ : SliceV v9 := (owns_ints rfl ho9).slice
           go_wp2
           refine hK _ _ (fun _ => True) hT (fun x hx => hx) ?_
           clear hK K
           repeat (refine tree_read (a' := ?_) rfl (by kernel_rfl) (by kernel_rfl) hT (fun x hx K hK => ?_) ?_; rotate_left; · go_wp2; exact hK)
           have hE9 := (HN.out.ent.ext (World.grownBy_alloc wn (.cells #[.int .i64 a] 3) none)).kept hg9 (fun e => by have := (own_lt HN.out.row _ e.symm).1; omega)
           have c9 := (hE9.cell 4).trans (ten_bs _ _)
           have f9 := hE9.free 4
           have HM := Lib.hid (HN.out.more ho9 hg9)
           clear hE9
           refine tree_one (by rfl) (fun K hK => ?_)
           go_wp2
           refine hK _ _ (fun _ => True) hT (fun x hx => hx) ?_
           clear hK K
           refine tree_end ?_
           go_wp2
           go_roundw
           case rel => exact ⟨k + 1, _, by omega, by go_num, by rw [rowV, HAA.out]; exact HM.out⟩
           case measure => simp [intOf]; omega
         · refine tree_one (by rfl) (fun K hK => ?_)
           go_wp2
           refine hK _ _ (fun _ => True) hT (fun x hx => hx) ?_
           clear hK K
           have HX1 := Lib.hid (HN.out.next (World.grownBy_alloc wn (.cells #[.int .i64 a] 3) none))
           have c4 := (HX1.out.ent.cell 4).trans (ten_bs _ _)
           refine tree_one (by rfl) (fun K hK => ?_)
           go_wp2
           refine hK _ _ (fun _ => True) hT (fun x hx => hx) ?_
           clear hK K
           clear c4
           refine tree_one (by rfl) (fun K hK => ?_)
           refine append_ints rfl _ _ rfl (w2.heap.size + 1) v (rowV s5 k) rfl (own_kept HN.out.row (World.grownBy_alloc wn (.cells #[.int .i64 a] 3) none) (by simp)) (.slice (some ⟨wn.heap.size, 0, none⟩) 1 1) [a] rfl (ints_one wn a 3) ?_ ?_ ?_
           · have hq := HLEN.out
             simp only [List.length_cons, List.length_nil]
             omega
           · have hq := HN.out.ent.lt
             simp
             omega
           intro v9 w9 ho9 hg9 hw9
           obtain ⟨av9, nv9, cv9, rfl⟩ : SliceV v9 := (owns_ints rfl ho9).slice
           go_wp2
           refine hK _ _ (fun _ => True) hT (fun x hx => hx) ?_
           clear hK K
           repeat (refine tree_read (a' := ?_) rfl (by kernel_rfl) (by kernel_rfl) hT (fun x hx K hK => ?_) ?_; rotate_left; · go_wp2; exact hK)
           have hE9 := (HN.out.ent.ext (World.grownBy_alloc wn (.cells #[.int .i64 a] 3) none)).kept hg9 (fun e => by have := (own_lt HN.out.row _ e.symm).1; omega)
           have c9 := (hE9.cell 4).trans (ten_bs _ _)
           have f9 := hE9.free 4
           have HM := Lib.hid (HN.out.more ho9 hg9)
           clear hE9
           refine tree_one (by rfl) (fun K hK => ?_)
           go_wp2
           refine hK _ _ (fun _ => True) hT (fun x hx => hx) ?_
           clear hK K
           refine tree_end ?_
           go_wp2
           go_roundw
           case rel => exact ⟨k + 1, _, by omega, by go_num, by rw [rowV, HAA.out]; exact HM.out⟩
           case measure => simp [intOf]; omega
     · obtain rfl : k = m := by omega
       have HR := Lib.hid hS
       have hr := hS.res
       have he := hS.ent
       have hsv : SliceV v := (owns_ints rfl hS.row).slice
       clear hS
       go_wp2_with (first
         | (refine ten_load _ rfl rfl he rfl ?_)
         | (refine ten_store _ _ rfl rfl rfl hr rfl hsv rfl ?_; intro w3 hb3 hg3 hs3))
       refine bodyPost_ret (results_cell_one rfl rfl hb3 Tryz.underlying53 rfl Tryz.sizeTen) rfl ?_
       have q1 := HR.out.oE
       have q2 := HR.out.ob
       have q3 := HR.out.oc
       refine ⟨v, by rw [HX.out], ?_, by rw [HS.out]; exact HR.out.rd.kept hg3 (by simp; omega) (by simp; omega), grown_trans HR.out.ext hg3 (fun p hp hlt => by injection hp with hp; omega)⟩
       rw [HX.out]
       exact ownsRow_le (own_kept HR.out.row hg3 (fun p hp e => by injection e with e; have := (own_lt HR.out.row p hp).1; omega)) (by omega)
end Go.Proofs.YtfgifgglcafadaaGreatDoor
