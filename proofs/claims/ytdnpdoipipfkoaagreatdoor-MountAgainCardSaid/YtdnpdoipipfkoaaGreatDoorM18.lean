/-
  Texts put together: BG BH BI BJ BK.
-/
import Derived.Test.YtdnpdoipipfkoaaGreatDoorM17
namespace Go.Proofs.YtdnpdoipipfkoaaGreatDoor
set_option linter.unusedVariables false
set_option linter.unusedSimpArgs false
set_option linter.unusedVariables false
set_option linter.unusedSimpArgs false
set_option maxRecDepth 100000
open Go.RowKit
theorem nb_live {c : SC} {m : SM} (J : sprN c m < (freeL c m).length) (sm : (badN c m : Int) + sprN c m = c.sp) : (NBn c m.n : Int) ≤ c.bl.length - c.sp - 1 := by
 have h3 := three_len (p := badB c m) (q := fun b => !m.n.mr (c.ph b).toNat && decide (nextN (m.n.L (c.ph b).toNat) c.S.pg = 0)) (r := nbB c m.n) (n := c.bl.length) (fun x hx => by
   unfold nbB badB
   cases m.n.mr (c.ph x).toNat <;> by_cases hz : nextN (m.n.L (c.ph x).toNat) c.S.pg = 0 <;> simp [hz])
 have hf := filter_less (t := c.bl.length) (p := freeB c m) (q := fun b => !m.n.mr (c.ph b).toNat && decide (nextN (m.n.L (c.ph b).toNat) c.S.pg = 0)) (n := c.bl.length) (fun x hx _ hp => by
   obtain ⟨_, a2, a3⟩ := freeB_iff.1 hp
   have a3' : m.n.mr (c.ph x).toNat = false := a3
   have a2' : nextN (m.n.L (c.ph x).toNat) c.S.pg = 0 := a2
   rw [a3', a2']; rfl)
 rw [if_neg (by omega), ← freeL_len] at hf
 have hb : badN c m = ((List.range c.bl.length).filter (badB c m)).length := rfl
 have hn : NBn c m.n = ((List.range c.bl.length).filter (nbB c m.n)).length := rfl
 rw [← hb, ← hn] at h3
 omega
theorem Kp.mono {c : SC} {n : NS} {rs : List R14} {N N' : Int} (h : Kp c n rs N) (hn : N ≤ N') : Kp c n rs N' := by
 rcases h with h | ⟨h, h2⟩
 · exact .inl (by omega)
 · exact .inr ⟨by omega, h2⟩
structure RoG (c : SC) (m : SM) (e : Int) (m' : SM) : Prop where
 W : Wr c m'.n m'.rs m.sq
 hold : ∀ q k d, Hold c m.n m.rs q k d → Hold c m'.n m'.rs q k d
 back : ∀ r ∈ m'.rs, ∃ r0 ∈ m.rs, r0.pl = r.pl
 q : m'.q = m.q
 sq : m'.sq = m.sq
 res : ∃ d : Nat, badN c m' = badN c m + d ∧ sprN c m' + d = sprN c m ∧
   ((e = 0 ∧ m'.n.off = false ∧ m'.ro = m.ro ∧ m'.n.M c.who.toNat = m.n.M c.who.toNat + d ∧ sprN c m' < (freeL c m').length ∧ ∃ t : Nat, m'.fr = t ∧ t < c.bl.length ∧ badB c m' t = false ∧ nextB c m' t < c.S.pg)
     ∨ (Kp c m'.n m'.rs (c.bl.length - c.sp - 1) ∧ ((e = 13 ∧ m'.n.off = false ∧ m'.ro = true ∧ m'.n.M c.who.toNat = m.n.M c.who.toNat + d + 1 ∧ c.sp ≤ badN c m') ∨ (e = 12 ∧ m'.n.off = true ∧ m'.ro = m.ro ∧ m.n.M c.who.toNat + d ≤ m'.n.M c.who.toNat))))
theorem room_on {c : SC} (st : Stt c) {m : SM} (h : m.n.off = false) (W : Wr c m.n m.rs m.sq) (L : Live c m) (sm : (badN c m : Int) + sprN c m = c.sp) {k : Nat} (hk : 64 ≤ k) :
   ∃ e m', roomR c m k = some (e, m') ∧ RoG c m e m' := by
 have hpg := st.pg
 have R := W.R
 have hlen : (freeL c m).length ≤ c.bl.length := by
   rw [freeL_len]
   exact Nat.le_trans (List.length_filter_le _ _) (by simp)
 have hbl := st.bl
 unfold roomR
 by_cases hc : (hasS c m.fr && decide (nextB c m m.fr.toNat < c.S.pg)) = true
 · rw [if_pos hc]
   simp only [Bool.and_eq_true, decide_eq_true_eq] at hc
   obtain ⟨h1, h2⟩ := hc
   unfold hasS at h1
   simp only [decide_eq_true_eq] at h1
   refine ⟨_, _, rfl, ⟨W, fun _ _ _ hd => hd, fun r hr => ⟨r, hr, rfl⟩, rfl, rfl, 0, rfl, Int.add_zero _, .inl ⟨rfl, h, rfl, by simp, L.J, ?_⟩⟩⟩
   rcases L.fr with e | ⟨t, e1, e2, e3⟩
   · omega
   · exact ⟨t, e1, e2, e3, by rw [e1] at h2; simpa using h2⟩
 · rw [if_neg hc]
   by_cases hf : ((freeL c m).length : Int) - 1 > sprN c m
   · rw [if_pos hf]
     cases hl : freeL c m with
     | nil => rw [hl] at hf; have := spr_nn c m; simp at hf; omega
     | cons x l =>
       have hmem : x ∈ freeL c m := by rw [hl]; simp
       obtain ⟨t, rfl, ht, hfb⟩ := free_in hmem
       obtain ⟨f1, f2, f3⟩ := freeB_iff.1 hfb
       refine ⟨_, _, rfl, ⟨W, fun _ _ _ hd => hd, fun r hr => ⟨r, hr, rfl⟩, rfl, rfl, 0, rfl, Int.add_zero _, .inl ⟨rfl, h, rfl, by simp, ?_, t, rfl, ht, f3, ?_⟩⟩⟩
       · have hs : sprN c { m with fr := (t : Int) } = sprN c m := spr_same rfl
         have := filter_less (t := t) (p := freeB c m) (q := freeB c { m with fr := (t : Int) }) (n := c.bl.length) (fun x hxl hne hp => by
           obtain ⟨a1, a2, a3⟩ := freeB_iff.1 hp
           exact freeB_iff.2 ⟨by simp only; omega, a2, a3⟩)
         rw [if_pos ht, ← freeL_len, ← freeL_len] at this
         show sprN c { m with fr := (t : Int) } < ((freeL c { m with fr := (t : Int) }).length : Int)
         omega
       · show nextB c m t < c.S.pg
         omega
   · rw [if_neg hf]
     obtain ⟨b, hb, hbl2, hmay⟩ := pick_is (victim_some st R sm (by omega) (fun t e1 e2 e3 => by
       exfalso
       apply hc
       rw [e1, Int.toNat_natCast]
       simp only [Bool.and_eq_true, decide_eq_true_eq]
       refine ⟨?_, by omega⟩
       unfold hasS
       simp only [decide_eq_true_eq]
       omega))
     rw [hb, if_neg (by omega)]
     unfold mayS at hmay
     simp only [Bool.and_eq_true, Bool.not_eq_true', decide_eq_false_iff_not, decide_eq_true_eq] at hmay
     obtain ⟨v1, v2, v3⟩ := hmay
     obtain ⟨e, m', hm', V⟩ := coll_on (k := k) st.hw st.sz.2 (by omega) st.hB st.hN h W hbl2 v2 v1 L.J (by omega)
     have hw : (needR c m b c.S.pg).1.length ≤ worthN m.rs b := need_worth R (need_on h st.hB R b c.S.pg (Nat.le_refl _)).2
     have hnb := nb_live L.J sm
     refine ⟨e, m', hm', ⟨V.W, V.hold, V.back, V.q, V.sq, ?_⟩⟩
     obtain ⟨d, d1, d2, d5⟩ := V.res
     refine ⟨d, d1, d2, ?_⟩
     rcases d5 with ⟨g0, go, g1, g2, gn, g3, t, g4, g5, g6, g7⟩ | ⟨gk, g⟩
     · have := L.J
       exact .inl ⟨g0, go, g1, g2, by omega, t, g4, g5, g6, by omega⟩
     · exact .inr ⟨gk.mono hnb, g⟩
section
variable {c : SC} {n n' : NS} {rs : List R14} {sq : Int}
theorem Wr.put (W : Wr c n rs sq) (hB : BlOk c) (hN : c.bl.Nodup) (hsz : c.sz ≤ 64) {t pg : Nat} (ht : t < c.bl.length) (hpg : pg < c.S.pg) (hm : n.mr (c.ph t).toNat = false) (h0 : (n.L (c.ph t).toNat pg).st = 0) {pl kd : Int} {dt : ByteArray} (hok : okB c.who c.ep pl sq kd = true) (hd : dt.size ≤ 160) (hpl : 0 ≤ pl ∧ pl < c.sz)
   (hmr : n'.mr = n.mr) (hO : ∀ i, i ≠ (c.ph t).toNat → n'.L i = n.L i) (hbe : ∀ j, j ≠ pg → n'.L (c.ph t).toNat j = n.L (c.ph t).toNat j) (hp : n'.L (c.ph t).toNat pg = ⟨1, tagBL c.who c.ep pl sq kd false, dt⟩) :
   setE c.bl.length c.S.pg rs pl t pg = 0 ∧ Wr c n' (setR c.bl.length c.S.pg rs pl t pg) (sq + 1) ∧ (∀ q k d, q ≠ pl → Hold c n rs q k d → Hold c n' (setR c.bl.length c.S.pg rs pl t pg) q k d) ∧ Hold c n' (setR c.bl.length c.S.pg rs pl t pg) pl kd dt ∧ (∀ r ∈ setR c.bl.length c.S.pg rs pl t pg, r.pl = pl ∨ r ∈ rs) := by
 have R := W.R
 have hti : (0 : Int) ≤ t ∧ (t : Int) < c.bl.length := by omega
 have hno : ∀ r ∈ rs, ¬ (r.bk = t ∧ r.pg = (pg : Nat)) := fun r hr a => by
   obtain ⟨f, hf, _⟩ := R.pg r hr
   have h1 := hf.is
   rw [a.1, a.2, Int.toNat_natCast] at h1
   rw [h1] at h0
   cases h0
 obtain ⟨s0, s1, s2⟩ := set_is hsz R.b hpl hti hpg hno
 have hpage : ∀ r ∈ rs, n'.L (c.ph r.bk).toNat r.pg.toNat = n.L (c.ph r.bk).toNat r.pg.toNat := fun r hr => by
   have hk := R.ok r hr
   by_cases e : r.bk = t
   · rw [e]
     exact hbe _ (fun a => hno r hr ⟨e, by omega⟩)
   · rw [other_L R hB hN hti hO r hr e]
 have hnew : PgIs c n' (t : Int) ((pg : Nat) : Int) ⟨t, (pg : Nat), false, c.who, c.ep, pl, sq, kd, false, dt⟩ := ⟨rfl, rfl, rfl, ⟨hok, hd⟩, by rw [Int.toNat_natCast]; exact hp⟩
 have hOwn : Own c n' t pg ⟨t, (pg : Nat), false, c.who, c.ep, pl, sq, kd, false, dt⟩ := ⟨ht, by rw [hmr]; exact hm, hpg, hnew, rfl, rfl, hpl⟩
 have hkeep : ∀ b j f, Own c n' b j f → ¬ (b = t ∧ j = pg) → Own c n b j f := fun b j f h hne => by
   refine ⟨h.bl, by rw [← hmr]; exact h.mr, h.pg, ⟨h.is.bk, h.is.at', h.is.torn, h.is.ok, ?_⟩, h.te, h.ep, h.pl⟩
   have hi := h.is.is
   rw [Int.toNat_natCast] at hi ⊢
   by_cases e : b = t
   · subst e
     rw [← hbe j (fun a => hne ⟨rfl, a⟩)]; exact hi
   · rw [← hO _ (ph_ne hB hN ht h.bl e)]; exact hi
 have hkeep2 : ∀ b j f, Own c n b j f → Own c n' b j f := fun b j f h => by
   refine ⟨h.bl, by rw [hmr]; exact h.mr, h.pg, ⟨h.is.bk, h.is.at', h.is.torn, h.is.ok, ?_⟩, h.te, h.ep, h.pl⟩
   have hi := h.is.is
   rw [Int.toNat_natCast] at hi ⊢
   by_cases e : b = t
   · subst e
     have hj : j ≠ pg := fun a => by
       subst a
       rw [hi] at h0; cases h0
     rw [hbe j hj]; exact hi
   · rw [hO _ (ph_ne hB hN ht h.bl e)]; exact hi
 have heq : ∀ b j f, Own c n' b j f → (b = t ∧ j = pg) → f.sq = sq ∧ f.pl = pl ∧ f.kd = kd ∧ f.dt = dt := fun b j f h e => by
   obtain ⟨rfl, rfl⟩ := e
   have := pgis_eq h.is hnew
   rw [this]
   exact ⟨rfl, rfl, rfl, rfl⟩
 rw [s0, s1]
 refine ⟨rfl, ⟨⟨s2.ok, s2.pls, s2.pgs, fun r hr => ?_, fun r hr => ?_⟩, fun b j hb hmb hj => ?_, fun b j f h => ?_, fun b j f b' j' f' h h' e => ?_⟩, fun q k d hq hh => ?_, ?_, fun r hr => ?_⟩
 · rw [hmr]
   rcases List.mem_append.1 hr with hr | hr
   · exact R.mr r (mem_clear.1 hr).1
   · obtain rfl := List.mem_singleton.1 hr
     exact hm
 · rcases List.mem_append.1 hr with hr | hr
   · obtain ⟨f, h1, h2⟩ := R.pg r (mem_clear.1 hr).1
     exact ⟨f, h1.keep1 (hpage r (mem_clear.1 hr).1), h2⟩
   · obtain rfl := List.mem_singleton.1 hr
     exact ⟨_, hnew, rfl⟩
 · by_cases e : b = t ∧ j = pg
   · obtain ⟨rfl, rfl⟩ := e
     exact .inr (.inr ⟨_, hOwn⟩)
   · have hL : n'.L (c.ph b).toNat j = n.L (c.ph b).toNat j := by
       by_cases e2 : b = t
       · subst e2
         exact hbe j (fun a => e ⟨rfl, a⟩)
       · rw [hO _ (ph_ne hB hN ht hb e2)]
     rcases W.pg b j hb (by rw [← hmr]; exact hmb) hj with a | a | ⟨f, a⟩
     · exact .inl (by rw [hL]; exact a)
     · exact .inr (.inl (by rw [hL]; exact a))
     · exact .inr (.inr ⟨f, hkeep2 _ _ _ a⟩)
 · by_cases e : b = t ∧ j = pg
   · obtain ⟨e1, e2, _⟩ := heq b j f h e
     exact ⟨by omega, ⟨pl, t, (pg : Nat)⟩, List.mem_append.2 (.inr (List.mem_singleton.2 rfl)), e2.symm, _, hnew, by show f.sq ≤ sq; omega⟩
   · obtain ⟨h1, r, h2, h3, g, h4, h5⟩ := W.top b j f (hkeep b j f h e)
     refine ⟨by omega, ?_⟩
     by_cases ep : r.pl = pl
     · exact ⟨⟨pl, t, (pg : Nat)⟩, List.mem_append.2 (.inr (List.mem_singleton.2 rfl)), by show pl = f.pl; omega, _, hnew, by show f.sq ≤ sq; omega⟩
     · exact ⟨r, List.mem_append.2 (.inl (mem_clear.2 ⟨h2, ep⟩)), h3, g, h4.keep1 (hpage r h2), h5⟩
 · by_cases e1 : b = t ∧ j = pg
   · obtain ⟨a1, a2, a3, a4⟩ := heq b j f h e1
     by_cases e2 : b' = t ∧ j' = pg
     · obtain ⟨b1, b2, b3, b4⟩ := heq b' j' f' h' e2
       exact ⟨by omega, by omega, by rw [a4, b4]⟩
     · have := (W.top _ _ _ (hkeep b' j' f' h' e2)).1
       omega
   · by_cases e2 : b' = t ∧ j' = pg
     · obtain ⟨b1, b2, b3, b4⟩ := heq b' j' f' h' e2
       have := (W.top _ _ _ (hkeep b j f h e1)).1
       omega
     · exact W.tw _ _ _ _ _ _ (hkeep b j f h e1) (hkeep b' j' f' h' e2) e
 · obtain ⟨r, hr, h1, f, h2, h3⟩ := hh
   exact ⟨r, List.mem_append.2 (.inl (mem_clear.2 ⟨hr, by rw [h1]; exact hq⟩)), h1, f, h2.keep1 (hpage r hr), h3⟩
 · exact ⟨⟨pl, t, (pg : Nat)⟩, List.mem_append.2 (.inr (List.mem_singleton.2 rfl)), rfl, _, hnew, rfl, rfl, rfl⟩
 · rcases List.mem_append.1 hr with hr | hr
   · exact .inr (mem_clear.1 hr).1
   · obtain rfl := List.mem_singleton.1 hr
     exact .inl rfl
theorem Wr.tear (W : Wr c n rs sq) (hB : BlOk c) (hN : c.bl.Nodup) {t pg : Nat} (ht : t < c.bl.length) (h0 : (n.L (c.ph t).toNat pg).st = 0)
   (hmr : n'.mr = n.mr) (hO : ∀ i, i ≠ (c.ph t).toNat → n'.L i = n.L i) (hbe : ∀ j, j ≠ pg → n'.L (c.ph t).toNat j = n.L (c.ph t).toNat j) (hp : (n'.L (c.ph t).toNat pg).st = 2) :
   Wr c n' rs sq ∧ ∀ q k d, Hold c n rs q k d → Hold c n' rs q k d := by
 have R := W.R
 have hti : (0 : Int) ≤ t ∧ (t : Int) < c.bl.length := by omega
 have hpage : ∀ r ∈ rs, n'.L (c.ph r.bk).toNat r.pg.toNat = n.L (c.ph r.bk).toNat r.pg.toNat := fun r hr => by
   have hk := R.ok r hr
   by_cases e : r.bk = t
   · rw [e]
     refine hbe _ (fun a => ?_)
     obtain ⟨f, hf, _⟩ := R.pg r hr
     have h1 := hf.is
     rw [e, a] at h1
     rw [h1] at h0
     cases h0
   · rw [other_L R hB hN hti hO r hr e]
 refine ⟨W.less (fun b j hb hm hj => ⟨by rw [← hmr]; exact hm, ?_⟩) (fun r hr => ⟨by rw [hmr], hpage r hr⟩), fun q k d hh => ?_⟩
 · by_cases e : b = t
   · subst e
     by_cases e2 : j = pg
     · subst e2; exact .inr (.inr hp)
     · exact .inl (hbe j e2)
   · exact .inl (by rw [hO _ (ph_ne hB hN ht hb e)])
 · obtain ⟨r, hr, h1, f, h2, h3⟩ := hh
   exact ⟨r, hr, h1, f, h2.keep1 (hpage r hr), h3⟩
end
end Go.Proofs.YtdnpdoipipfkoaaGreatDoor

namespace Go.Proofs.YtdnpdoipipfkoaaGreatDoor
set_option linter.unusedVariables false
set_option linter.unusedSimpArgs false
set_option linter.unusedVariables false
set_option linter.unusedSimpArgs false
set_option maxRecDepth 100000
open Go.RowKit
structure PuG (c : SC) (x : Chg) (t : Nat) (m : SM) (e : Int) (m' : SM) : Prop where
 mr : m'.n.mr = m.n.mr
 q : m'.q = m.q
 ro : m'.ro = m.ro
 fr : m'.fr = m.fr
 free : (freeL c m').length = (freeL c m).length
 nx : nextB c m' t = nextB c m t + 1
 res : (e = 0 ∧ m'.n.off = false ∧ m'.sq = m.sq + 1 ∧ Wr c m'.n m'.rs (m.sq + 1) ∧ m'.n.M c.who.toNat = m.n.M c.who.toNat ∧ (∀ q k d, q ≠ x.pl → Hold c m.n m.rs q k d → Hold c m'.n m'.rs q k d) ∧ Hold c m'.n m'.rs x.pl x.kd x.dt ∧ ∀ r ∈ m'.rs, r.pl = x.pl ∨ r ∈ m.rs)
   ∨ (m'.sq = m.sq ∧ m'.rs = m.rs ∧ Wr c m'.n m'.rs m.sq ∧ (∀ q k d, Hold c m.n m.rs q k d → Hold c m'.n m'.rs q k d) ∧ ((e = 10 ∧ m'.n.off = false ∧ m'.n.M c.who.toNat = m.n.M c.who.toNat + 1) ∨ (e = 12 ∧ m'.n.off = true ∧ m'.n.M c.who.toNat = m.n.M c.who.toNat)))
theorem put_on {c : SC} (hw : 0 ≤ c.who ∧ c.who < 4) (hsz : c.sz ≤ 64) (hB : BlOk c) (hN : c.bl.Nodup) {t : Nat} {m : SM} {x : Chg} (h : m.n.off = false) (W : Wr c m.n m.rs m.sq) (hfr : m.fr = t) (ht : t < c.bl.length) (hb0 : badB c m t = false) (hnx : nextB c m t < c.S.pg) (hok : okB c.who c.ep x.pl m.sq x.kd = true) (hd : x.dt.size ≤ 160) (hpl : 0 ≤ x.pl ∧ x.pl < c.sz) :
   PuG c x t m (putE18 c m x) (putM c m x) := by
 have hti : (0 : Int) ≤ t ∧ (t : Int) < c.bl.length := by omega
 have hph := hB.ph hti
 have hx : c.ph t = ((c.ph t).toNat : Int) := by omega
 have P := prg_on (b := (t : Int)) h hw hx (by omega) hnx hb0 (show nextN (m.n.L (c.ph t).toNat) c.S.pg = nextB c m t from rfl) hok false x.dt hd
 have hN1 := P.next (by show (1 : Int) ≠ 0; decide) rfl hnx
 have h0 : (m.n.L (c.ph t).toNat (nextB c m t)).st = 0 := nextN_above (f := m.n.L (c.ph t).toNat) (n := c.S.pg) (Nat.le_refl _) hnx
 unfold putE18 putM
 rw [hfr, Int.toNat_natCast]
 generalize prgE c m.n (t : Int) (nextB c m t : Nat) x.pl m.sq x.kd c.who c.ep false x.dt = e1 at *
 generalize prgS c m.n (t : Int) (nextB c m t : Nat) x.pl m.sq x.kd c.who c.ep false x.dt = n1 at *
 have hfree : ∀ m' : SM, m'.n = n1 → m'.fr = m.fr → (freeL c m').length = (freeL c m).length := fun m' a1 a2 => by
   rw [freeL_len, freeL_len]
   refine filter_same (fun y hy => ?_)
   by_cases e : y = t
   · subst e
     unfold freeB
     rw [a2, hfr]
     simp
   · have O : OneB c t m m' := ⟨fun z hz => by rw [a1]; exact P.other z hz, fun z _ => by rw [a1, P.mr]⟩
     unfold freeB
     rw [a2, O.next hB hN ht hy e, O.bad hB hN ht hy e]
 rcases P.res with ⟨q0, qo, q1, q2⟩ | ⟨q1, q0⟩
 · obtain ⟨s0, W2, s2, s3, s4⟩ := W.put hB hN hsz ht hnx hb0 h0 hok hd hpl P.mr P.other P.below q1
   rw [if_pos q0, if_pos q0, s0]
   exact ⟨P.mr, rfl, rfl, hfr.symm, hfree _ rfl hfr.symm, hN1, .inl ⟨rfl, qo, rfl, W2, q2, s2, s3, s4⟩⟩
 · have hne : e1 ≠ 0 := by rcases q0 with ⟨a, _⟩ | ⟨a, _⟩ <;> rw [a] <;> decide
   obtain ⟨W2, hh⟩ := W.tear hB hN ht h0 P.mr P.other P.below (by rw [q1])
   rw [if_neg hne, if_neg hne]
   exact ⟨P.mr, rfl, rfl, hfr.symm, hfree _ rfl hfr.symm, hN1, .inr ⟨rfl, rfl, W2, hh, q0⟩⟩
structure LvG (c : SC) (row : List Fnd) (m : SM) (e : Int) (m' : SM) : Prop where
 W : Wr c m'.n m'.rs m.sq
 hold : ∀ q k d, Hold c m.n m.rs q k d → Hold c m'.n m'.rs q k d
 back : ∀ r ∈ m'.rs, ∃ r0 ∈ m.rs, r0.pl = r.pl
 q : m'.q = m.q
 sq : m'.sq = m.sq
 res : ∃ d : Nat,
   ((e = 0 ∧ m'.n.off = false ∧ badN c m' = badN c m + d + 1 ∧ sprN c m' + d + 1 = sprN c m ∧ m'.ro = m.ro ∧ m'.n.M c.who.toNat = m.n.M c.who.toNat + d ∧ (freeL c m).length ≤ (freeL c m').length + 1 + d ∧ ∃ t : Nat, m'.fr = t ∧ t < c.bl.length ∧ badB c m' t = false ∧ nextB c m' t = row.length)
     ∨ (badN c m' = badN c m + d ∧ sprN c m' + d = sprN c m ∧ Kp c m'.n m'.rs (NBn c m.n) ∧
       ((e = 13 ∧ m'.n.off = false ∧ m'.ro = true ∧ ((m'.n.M c.who.toNat = m.n.M c.who.toNat + d + 1 ∧ c.sp ≤ badN c m' + 1) ∨ (d = 0 ∧ m'.n.M c.who.toNat = m.n.M c.who.toNat ∧ c.sp ≤ badN c m')))
         ∨ (e = 12 ∧ m'.n.off = true ∧ m'.ro = m.ro ∧ m.n.M c.who.toNat + d ≤ m'.n.M c.who.toNat))))
theorem leav_on {c : SC} (hw : 0 ≤ c.who ∧ c.who < 4) (hsz : c.sz ≤ 64) (hB : BlOk c) (hN : c.bl.Nodup) {b k : Nat} {m : SM} (h : m.n.off = false) (W : Wr c m.n m.rs m.sq) (hfr : m.fr = b) (hbl : b < c.bl.length) (hb0 : badB c m b = false) (hb1 : nextB c m b ≠ 0) (hJ : sprN c m < (freeL c m).length) (hk : (freeL c m).length ≤ k) :
   ∃ e m', leavR c m k = some (e, m') ∧ LvG c (needR c m b c.S.pg).1 m e m' := by
 obtain ⟨n0, N⟩ := need_on h hB W.R b c.S.pg (Nat.le_refl _)
 have hlen := needR_len (c := c) (m := m) (b := b) c.S.pg
 have hbf : (b : Int) ∉ freeL c m := fun a => (freeB_iff.1 (freeL_iff.1 a).2).1 hfr.symm
 unfold leavR moveR
 rw [hfr]
 by_cases hsp : sprN c m > 0
 · rw [if_pos hsp, if_neg (by rw [n0]; decide)]
   generalize (needR c m b c.S.pg).1 = row at *
   obtain ⟨e1, m1, hm1, V⟩ := move_on hw hsz hB hN hlen (show (0 : Int) ≤ 1 by decide) k m h W N hbf hJ hk
   rw [hm1]
   simp only
   have hlow := V.low (by omega)
   have hVn := V.nb
   obtain ⟨d, d1, ds, d4⟩ := V.res
   rcases d4 with ⟨g0, go, g1, g2, ⟨t, g3, g4, g5, g6, g7⟩, g8, g9⟩ | ⟨gk, g2, g3, g4⟩
   · rw [if_neg (by rw [g0]; decide)]
     obtain ⟨v1, v2⟩ := V.stay b hbl hbf
     have hph := hB.ph (b := (b : Int)) (by omega)
     have hx : c.ph b = ((c.ph b).toNat : Int) := by omega
     have hm1b : m1.n.mr (c.ph b).toNat = false := v2.trans hb0
     have hbt : b ≠ t := fun e => hbf (by rw [e]; exact g5)
     have hnb1 : nbB c m1.n b = true := nbB_iff.2 ⟨hm1b, by rw [v1]; exact hb1⟩
     obtain ⟨k2, k3, k4⟩ := mark_on (S := c.S) go (x := (c.ph b).toNat) (by omega) (by omega)
     rw [← hx] at k2 k3 k4
     rcases k4 with ⟨k0, ko, k6⟩ | ⟨k0, ko, k6⟩
     · generalize markE c.S m1.n (c.ph b) = e3 at *
       generalize markS c.S m1.n (c.ph b) = n3 at *
       have O3 : OneB c b m1 { m1 with n := n3 } := ⟨fun x hx => by show n3.L x = _; rw [k2], fun x hx => by show n3.mr x = _; rw [k6]; simp only; rw [if_neg hx]⟩
       have hb3 : badB c { m1 with n := n3 } b = true := by show n3.mr _ = true; rw [k6]; simp
       have hbad3 := bad_one O3 hB hN hbl hm1b hb3
       have hspr3 := spr_one hbad3 (by omega)
       have hfb : freeB c m1 b = false := by
         rw [Bool.eq_false_iff]
         intro a
         refine hb1 ?_
         have := (freeB_iff.1 a).2.1
         unfold nextB at this ⊢
         rw [← v1]; exact this
       have hfl : (freeL c m1).length ≤ (freeL c { m1 with n := n3 }).length := by
         rw [freeL_len, freeL_len]
         have := filter_less (t := c.bl.length) (p := freeB c m1) (q := freeB c { m1 with n := n3 }) (n := c.bl.length) (fun x hx _ hp => by
           have hne : x ≠ b := fun e => by rw [e, hfb] at hp; cases hp
           unfold freeB
           rw [O3.next hB hN hbl hx hne, O3.bad hB hN hbl hx hne]
           exact hp)
         rw [if_neg (by omega)] at this
         exact this
       have W3 : Wr c n3 m1.rs m.sq := V.W.lose hB hN hbl g2 O3.L O3.mr (fun e => by
         have hb3' : n3.mr (c.ph b).toNat = true := hb3
         rw [hb3'] at e; cases e)
       refine ⟨_, _, rfl, ⟨W3, fun q k d hd => (V.hold q k d hd).keep (fun r _ => by rw [k2]), V.back, V.q, V.sq, d, .inl ⟨k0, ko, by omega, by omega, g1, by simp only; rw [k3]; exact g8, by omega, t, g3, g4, (O3.bad hB hN hbl g4 (fun e => hbt e.symm)).trans g6, (O3.next hB hN hbl g4 (fun e => hbt e.symm)).trans g7⟩⟩⟩
     · generalize markE c.S m1.n (c.ph b) = e3 at *
       generalize markS c.S m1.n (c.ph b) = n3 at *
       have e3' : nbB c n3 = nbB c m1.n := by funext x; unfold nbB; rw [k2, k6]
       have hbad3 : badN c { m1 with n := n3 } = badN c m1 := by
         unfold badN badB
         rw [show ({ m1 with n := n3 } : SM).n = n3 from rfl, k6]
       have hs3 := spr_same hbad3
       have W3 : Wr c n3 m1.rs m.sq := V.W.less (fun b j hb hm hj => ⟨by rw [← k6]; exact hm, .inl (by rw [k2])⟩) (fun r _ => ⟨by rw [k6], by rw [k2]⟩)
       refine ⟨_, _, rfl, ⟨W3, fun q k d hd => (V.hold q k d hd).keep (fun r _ => by rw [k2]), V.back, V.q, V.sq, d, .inr ⟨by omega, by omega, .inr ⟨?_, b, hbl, by rw [show ({ m1 with n := n3 } : SM).n = n3 from rfl, e3']; exact hnb1, g2⟩, .inr ⟨k0, ko, g1, ?_⟩⟩⟩⟩
       · have : NBn c n3 = NBn c m1.n := by unfold NBn; rw [e3']
         show (NBn c n3 : Int) ≤ _
         omega
       · show _ ≤ n3.M c.who.toNat
         rw [k3]; omega
   · have hne : e1 ≠ 0 := by rcases g4 with ⟨a, _⟩ | ⟨a, _⟩ <;> rw [a] <;> decide
     rw [if_pos hne]
     refine ⟨_, _, rfl, ⟨V.W, V.hold, V.back, V.q, V.sq, d, .inr ⟨d1, ds, gk, ?_⟩⟩⟩
     rcases g4 with ⟨a0, a1, a2, a3, a4⟩ | a
     · exact .inl ⟨a0, a1, a2, .inl ⟨a3, a4⟩⟩
     · exact .inr a
 · rw [if_neg hsp]
   have := spr_low (Int.le_refl 0) hsp
   rw [Int.add_zero] at this
   exact ⟨_, _, rfl, ⟨W, fun _ _ _ hd => hd, fun r hr => ⟨r, hr, rfl⟩, rfl, rfl, 0, .inr ⟨rfl, Int.add_zero _, .inl (Int.le_refl _), .inl ⟨rfl, h, rfl, .inr ⟨rfl, rfl, this⟩⟩⟩⟩⟩
end Go.Proofs.YtdnpdoipipfkoaaGreatDoor

namespace Go.Proofs.YtdnpdoipipfkoaaGreatDoor
set_option linter.unusedVariables false
set_option linter.unusedSimpArgs false
set_option linter.unusedVariables false
set_option linter.unusedSimpArgs false
set_option maxRecDepth 100000
open Go.RowKit
structure ChG (c : SC) (x : Chg) (m : SM) (e : Int) (m' : SM) : Prop where
 q : m'.q = m.q
 sm : (badN c m' : Int) + sprN c m' = c.sp
 res : ∃ f : Nat, badN c m' ≤ badN c m + f ∧
   ((e = 0 ∧ m'.n.off = false ∧ m'.ro = m.ro ∧ m'.sq = m.sq + 1 ∧ Wr c m'.n m'.rs (m.sq + 1) ∧ m'.n.M c.who.toNat = m.n.M c.who.toNat + f ∧ (∀ q k d, q ≠ x.pl → Hold c m.n m.rs q k d → Hold c m'.n m'.rs q k d) ∧ Hold c m'.n m'.rs x.pl x.kd x.dt ∧ (∀ r ∈ m'.rs, r.pl = x.pl ∨ ∃ r0 ∈ m.rs, r0.pl = r.pl) ∧ Live c m')
     ∨ (m'.sq = m.sq ∧ Wr c m'.n m'.rs m.sq ∧ (∀ q k d, Hold c m.n m.rs q k d → Hold c m'.n m'.rs q k d) ∧ (∀ r ∈ m'.rs, ∃ r0 ∈ m.rs, r0.pl = r.pl) ∧ Kp c m'.n m'.rs (c.bl.length - c.sp - 1) ∧
       ((e = 13 ∧ m'.n.off = false ∧ m'.ro = true ∧ m'.n.M c.who.toNat = m.n.M c.who.toNat + f ∧ c.sp < badN c m + f) ∨ (e = 12 ∧ m'.n.off = true ∧ m'.ro = m.ro ∧ m.n.M c.who.toNat + f ≤ m'.n.M c.who.toNat))))
theorem chg_on {c : SC} (st : Stt c) {x : Chg} (hx : 0 ≤ x.pl ∧ x.pl < c.sz) (hkd : x.kd = 1 ∨ x.kd = 2) (hd : x.dt.size ≤ 160) {k : Nat} (hk : 64 ≤ k) : ∀ (j : Nat) (m : SM), m.n.off = false → Wr c m.n m.rs m.sq → Live c m → (badN c m : Int) + sprN c m = c.sp → 0 ≤ m.sq ∧ m.sq ≤ 2147483647 → sprN c m < j →
   ∃ e m', chgR c x k j m = some (e, m') ∧ ChG c x m e m'
 | 0, m, _, _, _, _, _, h => by have := spr_nn c m; omega
 | j + 1, m, h, W, L, sm, hsq, hj => by
   obtain ⟨e1, m1, h1, V⟩ := room_on st h W L sm hk
   have hbl := st.bl
   have hpg := st.pg
   obtain ⟨d, d1, d2, d5⟩ := V.res
   unfold chgR
   rw [h1]
   simp only
   rcases d5 with ⟨g0, go, g1, g2, g3, t, g4, g5, g6, g7⟩ | ⟨gk, g⟩
   · rw [if_neg (by rw [g0]; decide)]
     have hW1 : Wr c m1.n m1.rs m1.sq := by rw [V.sq]; exact V.W
     have P := put_on st.hw st.sz.2 st.hB st.hN go hW1 g4 g5 g6 g7 (st.ok hx (by rw [V.sq]; exact hsq) hkd) hd hx
     generalize putE18 c m1 x = e2 at *
     generalize putM c m1 x = m2 at *
     have hbad2 : badN c m2 = badN c m1 := by unfold badN badB; rw [P.mr]
     have hspr2 : sprN c m2 = sprN c m1 := spr_same hbad2
     have hfree := P.free
     rcases P.res with ⟨q0, qo, q1, qw, q2, q3, q4, q5⟩ | ⟨q1, q3, qw, q4, q0⟩
     · rw [if_pos (by rw [q0]; decide)]
       refine ⟨_, _, rfl, ⟨P.q.trans V.q, by omega, d, by omega, .inl ⟨q0, qo, P.ro.trans g1, by rw [q1, V.sq], by rw [← V.sq]; exact qw, by omega, fun q k d hq hh => q3 q k d hq (V.hold q k d hh), q4, fun r hr => ?_, ?_⟩⟩⟩
       · rcases q5 r hr with a | a
         · exact .inl a
         · exact .inr (V.back r a)
       · refine ⟨.inr ⟨t, P.fr.trans g4, g5, ?_⟩, by omega⟩
         show m2.n.mr _ = false
         rw [P.mr]
         exact g6
     · have hH2 : ∀ q k d, Hold c m.n m.rs q k d → Hold c m2.n m2.rs q k d := fun q k d hh => q4 q k d (V.hold q k d hh)
       have hB2 : ∀ r ∈ m2.rs, ∃ r0 ∈ m.rs, r0.pl = r.pl := fun r hr => by rw [q3] at hr; exact V.back r hr
       have hW2 : Wr c m2.n m2.rs m.sq := by rw [← V.sq]; exact qw
       have hnb2 := nb_live (c := c) (m := m2) (by omega) (by omega)
       rcases q0 with ⟨q0, qo, q2⟩ | ⟨q0, qo, q2⟩
       · rw [if_neg (by rw [q0]; decide)]
         have hlen2 : (freeL c m2).length ≤ c.bl.length := by
           rw [freeL_len]
           exact Nat.le_trans (List.length_filter_le _ _) (by simp)
         have hb2 : badB c m2 t = false := by show m2.n.mr _ = false; rw [P.mr]; exact g6
         have hs2 : m2.sq = m.sq := q1.trans V.sq
         obtain ⟨e3, m3, h3, X⟩ := leav_on st.hw st.sz.2 st.hB st.hN (k := k) qo (by rw [hs2]; exact hW2) (P.fr.trans g4) g5 hb2 (by rw [P.nx]; omega) (by omega) (by omega)
         have hrow : (needR c m2 t c.S.pg).1.length ≤ c.S.pg := needR_len _
         generalize (needR c m2 t c.S.pg).1 = row at *
         rw [h3]
         simp only
         have hH : ∀ q k d, Hold c m.n m.rs q k d → Hold c m3.n m3.rs q k d := fun q k d hh => X.hold q k d (hH2 q k d hh)
         have hBk : ∀ r ∈ m3.rs, ∃ r0 ∈ m.rs, r0.pl = r.pl := fun r hr => by
           obtain ⟨r1, a1, a2⟩ := X.back r hr
           obtain ⟨r2, b1, b2⟩ := hB2 r1 a1
           exact ⟨r2, b1, b2.trans a2⟩
         have hW3 : Wr c m3.n m3.rs m.sq := by rw [← hs2]; exact X.W
         have hs3 : m3.sq = m.sq := X.sq.trans hs2
         have hq3 : m3.q = m.q := X.q.trans (P.q.trans V.q)
         obtain ⟨d', w3⟩ := X.res
         rcases w3 with ⟨z0, zo, z1, z2, z3, z4, z5, t3, z6, z7, z8, z9⟩ | ⟨z1, z2, zk, z3⟩
         · rw [if_neg (by rw [z0]; decide)]
           obtain ⟨e4, m4, h4, U⟩ := chg_on st hx hkd hd hk j m3 zo (by rw [hs3]; exact hW3) ⟨.inr ⟨t3, z6, z7, z8⟩, by omega⟩ (by omega) (by rw [hs3]; exact hsq) (by omega)
           obtain ⟨f, u3, u4⟩ := U.res
           refine ⟨e4, m4, h4, ⟨U.q.trans hq3, U.sm, d + d' + 1 + f, by omega, ?_⟩⟩
           rcases u4 with ⟨y0, yo, y1, y2, yw, ym, y3, y4, y5, y6⟩ | ⟨y2, yw, y3, y4, yk, y5⟩
           · refine .inl ⟨y0, yo, y1.trans (z3.trans (P.ro.trans g1)), by rw [y2, hs3], by rw [← hs3]; exact yw, by omega, fun q k d hq hh => y3 q k d hq (hH q k d hh), y4, fun r hr => ?_, y6⟩
             rcases y5 r hr with a | ⟨r1, a1, a2⟩
             · exact .inl a
             · obtain ⟨r2, b1, b2⟩ := hBk r1 a1
               exact .inr ⟨r2, b1, b2.trans a2⟩
           · refine .inr ⟨y2.trans hs3, by rw [← hs3]; exact yw, fun q k d hh => y3 q k d (hH q k d hh), fun r hr => ?_, yk, ?_⟩
             · obtain ⟨r1, a1, a2⟩ := y4 r hr
               obtain ⟨r2, b1, b2⟩ := hBk r1 a1
               exact ⟨r2, b1, b2.trans a2⟩
             · rcases y5 with ⟨a0, a1, a2, a3, a4⟩ | ⟨a0, a1, a2, a3⟩
               · exact .inl ⟨a0, a1, a2, by omega, by omega⟩
               · exact .inr ⟨a0, a1, a2.trans (z3.trans (P.ro.trans g1)), by omega⟩
         · have hne : e3 ≠ 0 := by rcases z3 with ⟨a, _⟩ | ⟨a, _⟩ <;> rw [a] <;> decide
           rw [if_pos hne]
           have zk' := zk.mono hnb2
           rcases z3 with ⟨z0, zo, zr, z4⟩ | ⟨z0, zo, zr, z4⟩
           · rcases z4 with ⟨y1, y2⟩ | ⟨y0, y1, y2⟩
             · exact ⟨_, _, rfl, ⟨hq3, by omega, d + d' + 2, by omega, .inr ⟨hs3, hW3, hH, hBk, zk', .inl ⟨z0, zo, zr, by omega, by omega⟩⟩⟩⟩
             · subst y0
               exact ⟨_, _, rfl, ⟨hq3, by omega, d + 1, by omega, .inr ⟨hs3, hW3, hH, hBk, zk', .inl ⟨z0, zo, zr, by omega, by omega⟩⟩⟩⟩
           · exact ⟨_, _, rfl, ⟨hq3, by omega, d + d', by omega, .inr ⟨hs3, hW3, hH, hBk, zk', .inr ⟨z0, zo, zr.trans (P.ro.trans g1), by omega⟩⟩⟩⟩
       · rw [if_pos (by rw [q0]; decide)]
         exact ⟨_, _, rfl, ⟨P.q.trans V.q, by omega, d, by omega, .inr ⟨q1.trans V.sq, hW2, hH2, hB2, .inl hnb2, .inr ⟨q0, qo, P.ro.trans g1, by omega⟩⟩⟩⟩
   · have hne : e1 ≠ 0 := by rcases g with ⟨a, _⟩ | ⟨a, _⟩ <;> rw [a] <;> decide
     rw [if_pos hne]
     rcases g with ⟨g0, go, g1, g2, g3⟩ | ⟨g0, go, g1, g2⟩
     · exact ⟨_, _, rfl, ⟨V.q, by omega, d + 1, by omega, .inr ⟨V.sq, V.W, V.hold, V.back, gk, .inl ⟨g0, go, g1, by omega, by omega⟩⟩⟩⟩
     · exact ⟨_, _, rfl, ⟨V.q, by omega, d, by omega, .inr ⟨V.sq, V.W, V.hold, V.back, gk, .inr ⟨g0, go, g1, g2⟩⟩⟩⟩
structure SG (c : SC) (m : SM) : Prop where
 off : m.n.off = false
 W : Wr c m.n m.rs m.sq
 sm : (badN c m : Int) + sprN c m = c.sp
 mf : (badN c m : Int) ≤ m.n.M c.who.toNat
 sq : 0 ≤ m.sq
 live : m.ro = false → Live c m
 dead : m.ro = true → c.sp < m.n.M c.who.toNat
 kp : Kp c m.n m.rs (c.bl.length - c.sp - 1)
 ql : m.q.length ≤ 4
 qok : ∀ x ∈ m.q, ChgOk c x
structure CG (c : SC) (m : SM) : Prop where
 off : m.n.off = true
 W : Wr c m.n m.rs m.sq
 sm : (badN c m : Int) + sprN c m = c.sp
 mf : (badN c m : Int) ≤ m.n.M c.who.toNat
 sq : 0 ≤ m.sq
 kp : Kp c m.n m.rs (c.bl.length - c.sp - 1)
def PlcS (c : SC) (m m' : SM) : Prop := ∀ q d, Plc c m.n m.rs q d → Plc c m'.n m'.rs q d
theorem fir_on {c : SC} (st : Stt c) {m : SM} (I : SG c m) (hro : m.ro = false) (hsq : m.sq ≤ 2147483647) {x : Chg} {l : List Chg} (hq : m.q = x :: l) :
   ∃ e m', firR c 100 m = some (e, m') ∧ ((e = 0 ∧ SG c m' ∧ m'.ro = false ∧ m'.q = l ∧ m'.sq = m.sq + 1 ∧ (∀ q d, (if q = x.pl then d = x.dt else Plc c m.n m.rs q d) → Plc c m'.n m'.rs q d))
     ∨ (e = 13 ∧ SG c m' ∧ m'.ro = true ∧ m'.q = m.q ∧ m'.sq = m.sq ∧ PlcS c m m') ∨ (e = 12 ∧ CG c m' ∧ m'.q = m.q ∧ m'.sq = m.sq ∧ PlcS c m m')) := by
 unfold firR
 rw [hq, if_neg (by simp)]
 obtain ⟨hx, hk, hd⟩ := I.qok x (by rw [hq]; simp)
 have L := I.live hro
 have hspr : sprN c m < 100 := by have := I.sm; have := st.sp; omega
 obtain ⟨e, m', h', V⟩ := chg_on st hx (by rcases hk with a | ⟨a, _⟩; exact .inl a; exact .inr a) (by omega) (k := 100) (by omega) 100 m I.off I.W L I.sm ⟨I.sq, hsq⟩ (by exact_mod_cast hspr)
 rw [show firstC (x :: l) = x from rfl, h']
 simp only
 have hq' : m'.q = x :: l := V.q.trans hq
 have hql := I.ql
 rw [hq, List.length_cons] at hql
 have hqok : ∀ y ∈ l, ChgOk c y := fun y hy => I.qok y (by rw [hq]; simp [hy])
 have hmf := I.mf
 have hsq0 := I.sq
 obtain ⟨f, f3, f4⟩ := V.res
 rcases f4 with ⟨g0, go, g1, g2, gw, gm, g3, g4, g5, g6⟩ | ⟨g2, gw, g3, g4, gk, g⟩
 · rw [if_neg (by rw [g0]; decide), hq', List.drop_succ_cons, List.drop_zero]
   refine ⟨_, _, rfl, .inl ⟨rfl, ⟨go, by show Wr c m'.n m'.rs m'.sq; rw [g2]; exact gw, V.sm, by show (badN c m' : Int) ≤ m'.n.M c.who.toNat; omega, by show 0 ≤ m'.sq; omega, fun _ => ⟨g6.fr, g6.J⟩, (fun e => by have : m'.ro = true := e; rw [g1, hro] at this; cases this), .inl (nb_live g6.J V.sm), by simp only; omega, hqok⟩, g1.trans hro, rfl, g2, fun q d hv => ?_⟩⟩
   by_cases h2 : q = x.pl
   · rw [if_pos h2] at hv
     subst h2
     refine .inl ⟨_, _, g4, ?_⟩
     rw [hv]
     rcases hk with a | ⟨a, b⟩
     · rw [if_neg (by omega)]
     · rw [b]; simp
   · rw [if_neg h2] at hv
     rcases hv with ⟨k, d0, h3, h4⟩ | ⟨h3, h4⟩
     · exact .inl ⟨k, d0, g3 q k d0 h2 h3, h4⟩
     · refine .inr ⟨fun r hr e => ?_, h4⟩
       rcases g5 r hr with a | ⟨r0, a1, a2⟩
       · exact h2 (e.symm.trans a)
       · exact h3 r0 a1 (a2.trans e)
 · have hP : PlcS c m m' := fun q d h => h.move g3 g4
   have hne : e ≠ 0 := by rcases g with ⟨a, _⟩ | ⟨a, _⟩ <;> rw [a] <;> decide
   rw [if_pos hne]
   rcases g with ⟨g0, go, g1, gm, gb⟩ | ⟨g0, go, g1, gm⟩
   · exact ⟨_, _, rfl, .inr (.inl ⟨g0, ⟨go, by rw [g2]; exact gw, V.sm, by omega, by omega, (fun e => by rw [g1] at e; cases e), fun _ => by omega, gk, by rw [hq']; simpa using hql, by rw [hq', ← hq]; exact I.qok⟩, g1, hq', g2, hP⟩)⟩
   · exact ⟨_, _, rfl, .inr (.inr ⟨g0, ⟨go, by rw [g2]; exact gw, V.sm, by omega, by omega, gk⟩, hq', g2, hP⟩)⟩
end Go.Proofs.YtdnpdoipipfkoaaGreatDoor

namespace Go.Proofs.YtdnpdoipipfkoaaGreatDoor
set_option linter.unusedVariables false
set_option linter.unusedSimpArgs false
set_option linter.unusedVariables false
set_option linter.unusedSimpArgs false
set_option maxRecDepth 100000
open Go.RowKit
def aftN (P : Int → ByteArray) (B : List Chg) : Int → ByteArray := B.foldl (fun F x q => if q = x.pl then x.dt else F q) P
theorem aft_snoc (P : Int → ByteArray) (B : List Chg) (x : Chg) : aftN P (B ++ [x]) = fun q => if q = x.pl then x.dt else aftN P B q := by
 unfold aftN
 rw [List.foldl_append]
 rfl
def PlcK (c : SC) (m : SM) (P : Int → ByteArray) (B : List Chg) (k : Nat) : Prop := k ≤ B.length ∧ ∀ q, 0 ≤ q → q < c.sz → Plc c m.n m.rs q (aftN P (B.take k) q)
def StK (c : SC) (m : SM) (P : Int → ByteArray) (B : List Chg) : Prop := ∃ k, PlcK c m P B k ∧ m.q = B.drop k
def CtK (c : SC) (m : SM) (P : Int → ByteArray) (B : List Chg) : Prop := ∃ k, PlcK c m P B k
section
variable {c : SC} {m m' : SM} {P : Int → ByteArray} {B : List Chg}
theorem PlcK.move {k : Nat} (h : PlcK c m P B k) (hp : PlcS c m m') : PlcK c m' P B k := ⟨h.1, fun q h0 h1 => hp q _ (h.2 q h0 h1)⟩
theorem StK.move (h : StK c m P B) (hp : PlcS c m m') (hq : m'.q = m.q) : StK c m' P B := by
 obtain ⟨k, h1, h2⟩ := h
 exact ⟨k, h1.move hp, hq.trans h2⟩
theorem StK.cut (h : StK c m P B) (hp : PlcS c m m') : CtK c m' P B := by
 obtain ⟨k, h1, _⟩ := h
 exact ⟨k, h1.move hp⟩
theorem StK.step (h : StK c m P B) {x : Chg} {l : List Chg} (hq : m.q = x :: l) (hq' : m'.q = l) (hp : ∀ q d, (if q = x.pl then d = x.dt else Plc c m.n m.rs q d) → Plc c m'.n m'.rs q d) : StK c m' P B := by
 obtain ⟨k, ⟨h1, h2⟩, h3⟩ := h
 rw [hq] at h3
 have hk : k < B.length := by
   rcases Nat.lt_or_ge k B.length with a | a
   · exact a
   · rw [List.drop_eq_nil_of_le a] at h3; cases h3
 rw [List.drop_eq_getElem_cons hk] at h3
 injection h3 with e1 e2
 refine ⟨k + 1, ⟨by omega, fun q h0 h4 => ?_⟩, hq'.trans e2⟩
 rw [List.take_add_one, List.getElem?_eq_getElem hk]
 show Plc c m'.n m'.rs q (aftN P (B.take k ++ [B[k]]) q)
 rw [aft_snoc, ← e1]
 refine hp q _ ?_
 by_cases e : q = x.pl
 · rw [if_pos e]
   show (if q = x.pl then x.dt else aftN P (B.take k) q) = x.dt
   rw [if_pos e]
 · rw [if_neg e]
   show Plc c m.n m.rs q (if q = x.pl then x.dt else aftN P (B.take k) q)
   rw [if_neg e]
   exact h2 q h0 h4
theorem StK.more (h : StK c m P B) {x : Chg} (hn : m'.n = m.n) (hr : m'.rs = m.rs) (hq : m'.q = m.q ++ [x]) : StK c m' P (B ++ [x]) := by
 obtain ⟨k, ⟨h1, h2⟩, h3⟩ := h
 refine ⟨k, ⟨by simp; omega, fun q h0 h4 => ?_⟩, ?_⟩
 · rw [hn, hr, List.take_append_of_le_length h1]
   exact h2 q h0 h4
 · rw [hq, h3, List.drop_append_of_le_length h1]
end
theorem SG.more {c : SC} {m : SM} (I : SG c m) {x : Chg} (h : ChgOk c x) (hl : m.q.length ≤ 3) : SG c { m with q := m.q ++ [x] } :=
 ⟨I.off, I.W, I.sm, I.mf, I.sq, fun e => ⟨(I.live e).fr, (I.live e).J⟩, I.dead, I.kp, by simp; omega, fun y hy => by
   rcases List.mem_append.1 hy with hy | hy
   · exact I.qok y hy
   · simp at hy; rw [hy]; exact h⟩
theorem wai_on {c : SC} (st : Stt c) {m : SM} (I : SG c m) (hsq : m.sq ≤ 2147483647) {x : Chg} (hk : x.kd = 1 ∨ (x.kd = 2 ∧ x.dt = ⟨#[]⟩)) :
   ∃ e m', waiR c 100 m x = some (e, m') ∧ m'.sq + m'.q.length ≤ m.sq + m.q.length + 1 ∧ m.sq ≤ m'.sq ∧
     ((e = 0 ∧ SG c m' ∧ ChgOk c x ∧ m.ro = false ∧ m'.ro = false ∧ ∀ P B, StK c m P B → StK c m' P (B ++ [x]))
     ∨ ((e = 5 ∨ e = 3 ∨ e = 13) ∧ SG c m' ∧ (e = 13 → m'.ro = true) ∧ ∀ P B, StK c m P B → StK c m' P B)
     ∨ (e = 12 ∧ CG c m' ∧ ∀ P B, StK c m P B → CtK c m' P B)) := by
 unfold waiR
 by_cases hx : 0 ≤ x.pl ∧ x.pl < c.sz
 · rw [lac_in hx, if_neg (by decide)]
   by_cases hd : 16 < x.dt.size
   · rw [if_pos hd]
     exact ⟨_, _, rfl, by omega, Int.le_refl _, .inr (.inl ⟨.inr (.inl rfl), I, (fun e => by cases e), fun _ _ h => h⟩)⟩
   · rw [if_neg hd]
     have hok : ChgOk c x := ⟨hx, hk, by omega⟩
     by_cases hro : m.ro = true
     · rw [if_pos hro]
       exact ⟨_, _, rfl, by omega, Int.le_refl _, .inr (.inl ⟨.inr (.inr rfl), I, fun _ => hro, fun _ _ h => h⟩)⟩
     · rw [if_neg hro]
       have hrf : m.ro = false := by cases h : m.ro; rfl; exact absurd h hro
       by_cases h4 : m.q.length = 4
       · rw [if_pos h4]
         obtain ⟨y, l, hq⟩ : ∃ y l, m.q = y :: l := by
           cases hq : m.q with
           | nil => rw [hq] at h4; cases h4
           | cons y l => exact ⟨y, l, rfl⟩
         obtain ⟨e1, m1, h1, h⟩ := fir_on st I hrf hsq hq
         rw [h1]
         simp only
         rcases h with ⟨h0, I1, r1, q1, s1, p1⟩ | ⟨h0, I1, r1, q1, s1, p1⟩ | ⟨h0, I1, q1, s1, p1⟩
         · rw [if_neg (by rw [h0]; decide)]
           have hl : m1.q.length ≤ 3 := by rw [q1]; rw [hq] at h4; simp at h4; omega
           obtain ⟨p1', p2⟩ := put_ok18 st hok hl
           rw [p1', p2]
           refine ⟨_, _, rfl, ?_, by simp only; omega, .inl ⟨rfl, I1.more hok hl, hok, hrf, r1, fun P B hS => (hS.step hq q1 p1).more rfl rfl rfl⟩⟩
           simp only [List.length_append, List.length_singleton]
           rw [q1, s1, hq]
           simp only [List.length_cons]
           omega
         · rw [if_pos (by rw [h0]; decide)]
           exact ⟨_, _, rfl, by rw [q1]; omega, by omega, .inr (.inl ⟨.inr (.inr h0), I1, fun _ => r1, fun P B hS => hS.move p1 q1⟩)⟩
         · rw [if_pos (by rw [h0]; decide)]
           exact ⟨_, _, rfl, by rw [q1]; omega, by omega, .inr (.inr ⟨h0, I1, fun P B hS => hS.cut p1⟩)⟩
       · rw [if_neg h4]
         have hl : m.q.length ≤ 3 := by have := I.ql; omega
         obtain ⟨p1, p2⟩ := put_ok18 st hok hl
         rw [p1, p2]
         exact ⟨_, _, rfl, by simp only [List.length_append, List.length_singleton]; omega, Int.le_refl _, .inl ⟨rfl, I.more hok hl, hok, hrf, hrf, fun P B hS => hS.more rfl rfl rfl⟩⟩
 · rw [lac_out hx, if_pos (by decide)]
   exact ⟨_, _, rfl, by omega, Int.le_refl _, .inr (.inl ⟨.inl rfl, I, (fun e => by cases e), fun _ _ h => h⟩)⟩
theorem fluF_on {c : SC} (st : Stt c) : ∀ (j : Nat) (m : SM), SG c m → m.ro = false → m.sq + m.q.length ≤ 2147483647 → m.q.length = j →
   ∃ e m', fluF c 100 j m = some (e, m') ∧ m'.sq + m'.q.length = m.sq + m.q.length ∧ m.sq ≤ m'.sq ∧
     ((e = 0 ∧ SG c m' ∧ m'.ro = false ∧ m'.q = [] ∧ ∀ P B, StK c m P B → StK c m' P B) ∨ (e = 13 ∧ SG c m' ∧ m'.ro = true ∧ ∀ P B, StK c m P B → StK c m' P B) ∨ (e = 12 ∧ CG c m' ∧ ∀ P B, StK c m P B → CtK c m' P B))
 | 0, m, I, hro, hsq, hl => ⟨_, _, rfl, rfl, Int.le_refl _, .inl ⟨rfl, I, hro, List.length_eq_zero_iff.1 hl, fun _ _ h => h⟩⟩
 | j + 1, m, I, hro, hsq, hl => by
   obtain ⟨y, l, hq⟩ : ∃ y l, m.q = y :: l := by
     cases hq : m.q with
     | nil => rw [hq] at hl; cases hl
     | cons y l => exact ⟨y, l, rfl⟩
   obtain ⟨e1, m1, h1, h⟩ := fir_on st I hro (by omega) hq
   unfold fluF
   rw [h1]
   simp only
   rcases h with ⟨h0, I1, r1, q1, s1, p1⟩ | ⟨h0, I1, r1, q1, s1, p1⟩ | ⟨h0, I1, q1, s1, p1⟩
   · rw [if_neg (by rw [h0]; decide)]
     have hll : m.q.length = l.length + 1 := by rw [hq]; rfl
     obtain ⟨e2, m2, h2, t1, t2, F⟩ := fluF_on st j m1 I1 r1 (by rw [q1]; omega) (by rw [q1]; omega)
     refine ⟨e2, m2, h2, by rw [t1, q1]; omega, by omega, ?_⟩
     rcases F with ⟨a0, a1, a2, a3, a4⟩ | ⟨a0, a1, a2, a4⟩ | ⟨a0, a1, a4⟩
     · exact .inl ⟨a0, a1, a2, a3, fun P B hS => a4 P B (hS.step hq q1 p1)⟩
     · exact .inr (.inl ⟨a0, a1, a2, fun P B hS => a4 P B (hS.step hq q1 p1)⟩)
     · exact .inr (.inr ⟨a0, a1, fun P B hS => a4 P B (hS.step hq q1 p1)⟩)
   · rw [if_pos (by rw [h0]; decide)]
     exact ⟨_, _, rfl, by rw [q1]; omega, by omega, .inr (.inl ⟨h0, I1, r1, fun P B hS => hS.move p1 q1⟩)⟩
   · rw [if_pos (by rw [h0]; decide)]
     exact ⟨_, _, rfl, by rw [q1]; omega, by omega, .inr (.inr ⟨h0, I1, fun P B hS => hS.cut p1⟩)⟩
theorem flu_on {c : SC} (st : Stt c) {m : SM} (I : SG c m) (hsq : m.sq + m.q.length ≤ 2147483647) :
   ∃ e m', fluR c 100 m = some (e, m') ∧ m'.sq + m'.q.length = m.sq + m.q.length ∧ m.sq ≤ m'.sq ∧
     ((e = 0 ∧ SG c m' ∧ m'.ro = false ∧ m'.q = [] ∧ ∀ P B, StK c m P B → StK c m' P B) ∨ (e = 13 ∧ SG c m' ∧ m'.ro = true ∧ ∀ P B, StK c m P B → StK c m' P B) ∨ (e = 12 ∧ CG c m' ∧ ∀ P B, StK c m P B → CtK c m' P B)) := by
 unfold fluR
 by_cases hro : m.ro = true
 · rw [if_pos hro]
   exact ⟨_, _, rfl, rfl, Int.le_refl _, .inr (.inl ⟨rfl, I, hro, fun _ _ h => h⟩)⟩
 · rw [if_neg hro]
   exact fluF_on st _ m I (by cases h : m.ro; rfl; exact absurd h hro) hsq rfl
theorem StK.done {c : SC} {m : SM} {P : Int → ByteArray} {B : List Chg} (h : StK c m P B) (hq : m.q = []) : StK c m (aftN P B) [] := by
 obtain ⟨k, ⟨h1, h2⟩, h3⟩ := h
 rw [hq] at h3
 have hk : k = B.length := by
   rcases Nat.lt_or_ge k B.length with a | a
   · rw [List.drop_eq_getElem_cons a] at h3; cases h3
   · omega
 refine ⟨0, ⟨Nat.le_refl _, fun q h0 h4 => ?_⟩, by rw [hq]; rfl⟩
 have := h2 q h0 h4
 rw [hk, List.take_length] at this
 exact this
theorem col_on {c : SC} (st : Stt c) {m : SM} (I : SG c m) (b : Int) : ∃ e m', colR c m b 100 = some (e, m') ∧ m'.sq = m.sq ∧ m'.q = m.q ∧
     ((SG c m' ∧ ∀ P B, StK c m P B → StK c m' P B) ∨ (e = 12 ∧ CG c m' ∧ ∀ P B, StK c m P B → CtK c m' P B)) := by
 unfold colR
 have same : (SG c m ∧ ∀ P B, StK c m P B → StK c m P B) := ⟨I, fun _ _ h => h⟩
 by_cases hro : m.ro = true
 · rw [if_pos hro]
   exact ⟨_, _, rfl, rfl, rfl, .inl same⟩
 rw [if_neg hro]
 have hrf : m.ro = false := by cases h : m.ro; rfl; exact absurd h hro
 by_cases hh : hasS c b = false
 · rw [if_pos hh]
   exact ⟨_, _, rfl, rfl, rfl, .inl same⟩
 rw [if_neg hh]
 by_cases hm : mayS c m b.toNat = false
 · rw [if_pos hm]
   exact ⟨_, _, rfl, rfl, rfl, .inl same⟩
 rw [if_neg hm]
 unfold hasS at hh
 simp only [decide_eq_false_iff_not, Classical.not_not] at hh
 have hmay : mayS c m b.toNat = true := by cases h : mayS c m b.toNat; exact absurd h hm; rfl
 unfold mayS at hmay
 simp only [Bool.and_eq_true, Bool.not_eq_true', decide_eq_false_iff_not, decide_eq_true_eq] at hmay
 obtain ⟨v1, v2, v3⟩ := hmay
 have L := I.live hrf
 have hlen : (freeL c m).length ≤ c.bl.length := by
   rw [freeL_len]
   exact Nat.le_trans (List.length_filter_le _ _) (by simp)
 have hbl := st.bl
 have hpg := st.pg
 obtain ⟨e, m', h', V⟩ := coll_on st.hw st.sz.2 (by omega) st.hB st.hN (k := 100) I.off I.W (show b.toNat < c.bl.length by omega) v2 v1 L.J (by omega)
 rw [show ((b.toNat : Nat) : Int) = b by omega] at h' V
 have hP : PlcS c m m' := fun q d h => h.move V.hold V.back
 have hnb := nb_live L.J I.sm
 have hsm := I.sm
 have hmf := I.mf
 have hJ := L.J
 have hsq0 := I.sq
 have hW : Wr c m'.n m'.rs m'.sq := by rw [V.sq]; exact V.W
 obtain ⟨d, d1, d2, d5⟩ := V.res
 refine ⟨e, m', h', V.sq, V.q, ?_⟩
 rcases d5 with ⟨g0, go, g1, g2, gn, g3, t, g4, g5, g6, g7⟩ | ⟨gk, g⟩
 · exact .inl ⟨⟨go, hW, by omega, by omega, by rw [V.sq]; exact hsq0, fun _ => ⟨.inr ⟨t, g4, g5, g6⟩, by omega⟩, (fun e => by rw [g1, hrf] at e; cases e), .inl (by omega), by rw [V.q]; exact I.ql, by rw [V.q]; exact I.qok⟩, fun P B hS => hS.move hP V.q⟩
 · rcases g with ⟨g0, go, g1, g2, g3⟩ | ⟨g0, go, g1, g2⟩
   · exact .inl ⟨⟨go, hW, by omega, by omega, by rw [V.sq]; exact hsq0, (fun e => by rw [g1] at e; cases e), fun _ => by omega, gk.mono hnb, by rw [V.q]; exact I.ql, by rw [V.q]; exact I.qok⟩, fun P B hS => hS.move hP V.q⟩
   · exact .inr ⟨g0, ⟨go, hW, by omega, by omega, by rw [V.sq]; exact hsq0, gk.mono hnb⟩, fun P B hS => hS.cut hP⟩
end Go.Proofs.YtdnpdoipipfkoaaGreatDoor

namespace Go.Proofs.YtdnpdoipipfkoaaGreatDoor
set_option linter.unusedVariables false
set_option linter.unusedSimpArgs false
set_option linter.unusedVariables false
set_option linter.unusedSimpArgs false
set_option maxRecDepth 100000
open Go.RowKit
structure Stb (c : SC) (D : NS → Prop) : Prop where
 prg : ∀ n who i j bs dt, D n → D (progS c.S c.zs n who i j bs dt)
 ers : ∀ n who i, D n → D (ersS c.S c.zs n who i)
 mrk : ∀ n i, D n → D (markS c.S n i)
section
variable {c : SC} {D : NS → Prop} (T : Stb c D)
include T
theorem Stb.tag {n : NS} (h : D n) (b pg pl sq kd te ep : Int) (cp : Bool) (dt : ByteArray) : D (prgS c n b pg pl sq kd te ep cp dt) := by
 unfold prgS
 split
 · exact T.prg _ _ _ _ _ _ h
 · exact h
theorem Stb.copy {tg : Int} : ∀ (L : List Fnd) (i : Nat) (n : NS), D n → D (copyR c tg L i n).2
 | [], i, n, h => by simpa [copyR] using h
 | f :: l, i, n, h => by
   have h1 := T.tag h tg i f.pl f.sq f.kd f.te f.ep true f.dt
   unfold copyR
   split
   · exact Stb.copy l (i + 1) _ h1
   · exact h1
theorem Stb.give {m : SM} (h : D m.n) (b spoken : Int) : D (giveM c m b spoken).n := by
 unfold giveM
 split
 · exact T.mrk _ _ h
 · exact h
theorem Stb.move {row : List Fnd} {spoken : Int} : ∀ (j : Nat) (m : SM) (e : Int) (m' : SM), D m.n → moveF c row spoken j m = some (e, m') → D m'.n
 | 0, m, e, m', h, hm => by simp [moveF] at hm
 | j + 1, m, e, m', h, hm => by
   unfold moveF at hm
   cases hf : freeL c m with
   | nil =>
     rw [hf] at hm
     simp only [Option.some.injEq, Prod.mk.injEq] at hm
     rw [← hm.2]; exact h
   | cons tg l =>
     rw [hf] at hm
     simp only at hm
     have h1 := T.copy (tg := tg) row 0 m.n h
     have h2 := T.give (m := { m with n := (copyR c tg row 0 m.n).2 }) h1 tg spoken
     split at hm
     · simp only [Option.some.injEq, Prod.mk.injEq] at hm
       rw [← hm.2]; exact h1
     · split at hm
       · simp only [Option.some.injEq, Prod.mk.injEq] at hm
         rw [← hm.2]; exact h1
       · split at hm
         · simp only [Option.some.injEq, Prod.mk.injEq] at hm
           rw [← hm.2]; exact h2
         · exact Stb.move j _ e m' h2 hm
theorem Stb.moveR {m : SM} {b spoken : Int} {j : Nat} {e : Int} {m' : SM} (h : D m.n) (hm : moveR c m b spoken j = some (e, m')) : D m'.n := by
 unfold Go.Proofs.YtdnpdoipipfkoaaGreatDoor.moveR at hm
 split at hm
 · simp only [Option.some.injEq, Prod.mk.injEq] at hm
   rw [← hm.2]; exact h
 · exact T.move j m e m' h hm
theorem Stb.era {m : SM} (h : D m.n) (b : Int) : D (eraM c m b).n := by
 unfold eraM
 have h1 := T.ers m.n c.who (c.ph b) h
 split
 · exact h1
 · exact T.give (m := { m with n := ersS c.S c.zs m.n c.who (c.ph b) }) h1 b 0
theorem Stb.coll {m : SM} {b : Int} {j : Nat} {e : Int} {m' : SM} (h : D m.n) (hm : collR c m b j = some (e, m')) : D m'.n := by
 unfold collR at hm
 split at hm
 · cases hm
 · rename_i e1 m1 h1
   have hw := T.moveR h h1
   split at hm
   · simp only [Option.some.injEq, Prod.mk.injEq] at hm
     rw [← hm.2]; exact hw
   · simp only [Option.some.injEq, Prod.mk.injEq] at hm
     rw [← hm.2]; exact T.era hw b
theorem Stb.room {m : SM} {j : Nat} {e : Int} {m' : SM} (h : D m.n) (hm : roomR c m j = some (e, m')) : D m'.n := by
 unfold roomR at hm
 split at hm
 · simp only [Option.some.injEq, Prod.mk.injEq] at hm
   rw [← hm.2]; exact h
 · split at hm
   · simp only [Option.some.injEq, Prod.mk.injEq] at hm
     rw [← hm.2]; exact h
   · split at hm
     · simp only [Option.some.injEq, Prod.mk.injEq] at hm
       rw [← hm.2]; exact h
     · exact T.coll h hm
theorem Stb.put {m : SM} (h : D m.n) (x : Chg) : D (putM c m x).n := by
 unfold putM
 split
 · exact T.tag h _ _ _ _ _ _ _ _ _
 · exact T.tag h _ _ _ _ _ _ _ _ _
theorem Stb.leav {m : SM} {j : Nat} {e : Int} {m' : SM} (h : D m.n) (hm : leavR c m j = some (e, m')) : D m'.n := by
 unfold leavR at hm
 split at hm
 · split at hm
   · cases hm
   · rename_i e1 m1 h1
     have hw := T.moveR h h1
     split at hm
     · simp only [Option.some.injEq, Prod.mk.injEq] at hm
       rw [← hm.2]; exact hw
     · simp only [Option.some.injEq, Prod.mk.injEq] at hm
       rw [← hm.2]; exact T.mrk _ _ hw
 · simp only [Option.some.injEq, Prod.mk.injEq] at hm
   rw [← hm.2]; exact h
theorem Stb.chg {x : Chg} {k : Nat} : ∀ (j : Nat) (m : SM) (e : Int) (m' : SM), D m.n → chgR c x k j m = some (e, m') → D m'.n
 | 0, m, e, m', h, hm => by simp [chgR] at hm
 | j + 1, m, e, m', h, hm => by
   unfold chgR at hm
   split at hm
   · cases hm
   · rename_i e1 m1 h1
     have hw := T.room h h1
     have hw2 := T.put hw x
     split at hm
     · simp only [Option.some.injEq, Prod.mk.injEq] at hm
       rw [← hm.2]; exact hw
     · split at hm
       · simp only [Option.some.injEq, Prod.mk.injEq] at hm
         rw [← hm.2]; exact hw2
       · split at hm
         · cases hm
         · rename_i e2 m2 h2
           have hw3 := T.leav hw2 h2
           split at hm
           · simp only [Option.some.injEq, Prod.mk.injEq] at hm
             rw [← hm.2]; exact hw3
           · exact Stb.chg j m2 e m' hw3 hm
theorem Stb.fir {k : Nat} {m : SM} {e : Int} {m' : SM} (h : D m.n) (hm : firR c k m = some (e, m')) : D m'.n := by
 unfold firR at hm
 split at hm
 · simp only [Option.some.injEq, Prod.mk.injEq] at hm
   rw [← hm.2]; exact h
 · split at hm
   · cases hm
   · rename_i e1 m1 h1
     have hw := T.chg k m e1 m1 h h1
     split at hm
     · simp only [Option.some.injEq, Prod.mk.injEq] at hm
       rw [← hm.2]; exact hw
     · simp only [Option.some.injEq, Prod.mk.injEq] at hm
       rw [← hm.2]; exact hw
theorem Stb.fluF {k : Nat} : ∀ (j : Nat) (m : SM) (e : Int) (m' : SM), D m.n → fluF c k j m = some (e, m') → D m'.n
 | 0, m, e, m', h, hm => by
   simp only [Go.Proofs.YtdnpdoipipfkoaaGreatDoor.fluF, Option.some.injEq, Prod.mk.injEq] at hm
   rw [← hm.2]; exact h
 | j + 1, m, e, m', h, hm => by
   unfold Go.Proofs.YtdnpdoipipfkoaaGreatDoor.fluF at hm
   split at hm
   · cases hm
   · rename_i e1 m1 h1
     have hw := T.fir h h1
     split at hm
     · simp only [Option.some.injEq, Prod.mk.injEq] at hm
       rw [← hm.2]; exact hw
     · exact Stb.fluF j m1 e m' hw hm
theorem Stb.flu {k : Nat} {m : SM} {e : Int} {m' : SM} (h : D m.n) (hm : fluR c k m = some (e, m')) : D m'.n := by
 unfold fluR at hm
 split at hm
 · simp only [Option.some.injEq, Prod.mk.injEq] at hm
   rw [← hm.2]; exact h
 · exact T.fluF _ m e m' h hm
theorem Stb.wai {k : Nat} {m : SM} {x : Chg} {e : Int} {m' : SM} (h : D m.n) (hm : waiR c k m x = some (e, m')) : D m'.n := by
 unfold waiR at hm
 split at hm
 · simp only [Option.some.injEq, Prod.mk.injEq] at hm
   rw [← hm.2]; exact h
 · split at hm
   · simp only [Option.some.injEq, Prod.mk.injEq] at hm
     rw [← hm.2]; exact h
   · split at hm
     · simp only [Option.some.injEq, Prod.mk.injEq] at hm
       rw [← hm.2]; exact h
     · split at hm
       · split at hm
         · cases hm
         · rename_i e1 m1 h1
           have hw := T.fir h h1
           split at hm
           · simp only [Option.some.injEq, Prod.mk.injEq] at hm
             rw [← hm.2]; exact hw
           · simp only [Option.some.injEq, Prod.mk.injEq] at hm
             rw [← hm.2]; exact hw
       · simp only [Option.some.injEq, Prod.mk.injEq] at hm
         rw [← hm.2]; exact h
theorem Stb.col {k : Nat} {m : SM} {b : Int} {e : Int} {m' : SM} (h : D m.n) (hm : colR c m b k = some (e, m')) : D m'.n := by
 unfold colR at hm
 split at hm
 · simp only [Option.some.injEq, Prod.mk.injEq] at hm
   rw [← hm.2]; exact h
 · split at hm
   · simp only [Option.some.injEq, Prod.mk.injEq] at hm
     rw [← hm.2]; exact h
   · split at hm
     · simp only [Option.some.injEq, Prod.mk.injEq] at hm
       rw [← hm.2]; exact h
     · exact T.coll h hm
end
def Dns (S : NShape) (s : NS) : Prop := ∀ i j, j < nextN (s.L i) S.pg → (s.L i j).st ≠ 0
theorem dns_L {S : NShape} {s s' : NS} (h : Dns S s) (e : s'.L = s.L) : Dns S s' := fun i j hj => by rw [e] at hj ⊢; exact h i j hj
theorem dns_turn {S : NShape} {s : NS} (h : Dns S s) {i j : Nat} {x : Pg} (hj : j = nextN (s.L i) S.pg) (hp : j < S.pg) (hx : x.st ≠ 0) : Dns S (turnPg i j x s) := by
 intro i' j' h'
 show ((if i' = i then (fun j' => if j' = j then x else s.L i j') else s.L i') j').st ≠ 0
 have h1 : j' < nextN (if i' = i then (fun j' => if j' = j then x else s.L i j') else s.L i') S.pg := h'
 by_cases e : i' = i
 · rw [if_pos e] at h1 ⊢
   have h2 : nextN (fun j' => if j' = j then x else s.L i j') S.pg = j + 1 := nextN_eq hp (by rw [if_pos rfl]; exact hx) (fun k hk hk2 => by rw [if_neg (by omega)]; exact nextN_above (by omega) hk2)
   rw [h2] at h1
   show (if j' = j then x else s.L i j').st ≠ 0
   by_cases e2 : j' = j
   · rw [if_pos e2]; exact hx
   · rw [if_neg e2]; exact h i j' (by omega)
 · rw [if_neg e] at h1 ⊢
   exact h i' j' h1
theorem dns_fill {S : NShape} {s : NS} (h : Dns S s) (i : Nat) {x : Int} (hx : x = 0 ∨ x = 2) : Dns S (fillPg i S.pg x s) := by
 intro i' j' h'
 have h1 : j' < nextN (if i' = i then (fun j => if j < S.pg then Pg.none x else s.L i j) else s.L i') S.pg := h'
 show ((if i' = i then (fun j => if j < S.pg then Pg.none x else s.L i j) else s.L i') j').st ≠ 0
 by_cases e : i' = i
 · rw [if_pos e] at h1 ⊢
   have h2 := nextN_le (fun j => if j < S.pg then Pg.none x else s.L i j) S.pg
   show (if j' < S.pg then Pg.none x else s.L i j').st ≠ 0
   rw [if_pos (by omega)]
   rcases hx with hx | hx
   · subst hx
     rw [nextN_zero18 (fun j hj => by rw [if_pos hj]; rfl)] at h1
     omega
   · subst hx
     show (2 : Int) ≠ 0
     decide
 · rw [if_neg e] at h1 ⊢
   exact h i' j' h1
theorem dns_stb (c : SC) : Stb c (Dns c.S) where
 prg n who i j bs dt h := by
   unfold progS
   split
   · rename_i hc
     obtain ⟨hl, _, _, hn⟩ := hc
     have hp : j.toNat < c.S.pg := by
       unfold lackE at hl
       split at hl
       · split at hl
         · omega
         · omega
       · omega
     have ht : ∀ s : NS, s.L = n.L → Dns c.S (tornPg i.toNat j.toNat s) := fun s e => dns_turn (dns_L h e) (by rw [e]; omega) hp (by show (2 : Int) ≠ 0; decide)
     have hw : ∀ s : NS, s.L = n.L → Dns c.S (turnPg i.toNat j.toNat ⟨1, bs, dt⟩ s) := fun s e => dns_turn (dns_L h e) (by rw [e]; omega) hp (by show (1 : Int) ≠ 0; decide)
     unfold operS
     split
     · exact dns_L h rfl
     · split
       · exact ht _ rfl
       · split
         · exact ht _ (draw_L _ _ _)
         · exact hw _ (draw_L _ _ _)
   · exact h
 ers n who i h := by
   unfold ersS
   split
   · have ht : ∀ s : NS, s.L = n.L → Dns c.S (fillPg i.toNat c.S.pg 2 s) := fun s e => dns_fill (dns_L h e) _ (.inr rfl)
     have hw : ∀ s : NS, s.L = n.L → Dns c.S (eraseS i.toNat c.S.pg s) := fun s e => dns_L (dns_fill (dns_L h e) i.toNat (x := 0) (.inl rfl)) rfl
     unfold operS
     split
     · exact dns_L h rfl
     · split
       · exact ht _ rfl
       · split
         · exact ht _ (draw_L _ _ _)
         · exact hw _ (draw_L _ _ _)
   · exact h
 mrk n i h := by
   unfold markS
   split
   · split
     · exact dns_L h rfl
     · exact dns_L h rfl
   · exact h
end Go.Proofs.YtdnpdoipipfkoaaGreatDoor
