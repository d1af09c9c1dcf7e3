/-
  Texts put together: ZG ZH ZI ZJ ZK ZL ZM JA.
-/
import Derived.Test.YtdnpdoipipfkoaaGreatDoorM11
import Derived.Test.YtdnpdoipipfkoaaGreatDoorM10
namespace Go.Proofs.YtdnpdoipipfkoaaGreatDoor
set_option linter.unusedVariables false
set_option linter.unusedSimpArgs false
set_option linter.unusedVariables false
set_option linter.unusedSimpArgs false
set_option maxRecDepth 100000
open Go.RowKit
theorem filter_less {t : Nat} {p q : Nat → Bool} : ∀ {n : Nat}, (∀ x, x < n → x ≠ t → p x = true → q x = true) → ((List.range n).filter p).length ≤ ((List.range n).filter q).length + (if t < n then 1 else 0)
 | 0, _ => by simp
 | n + 1, h => by
   rw [List.range_succ, List.filter_append, List.filter_append, List.length_append, List.length_append]
   have h1 := filter_less (t := t) (p := p) (q := q) (n := n) (fun x hx => h x (by omega))
   have h2 : ([n].filter p).length ≤ 1 := by rw [List.filter_cons]; split <;> simp
   by_cases e : n = t
   · subst e
     rw [if_neg (by omega)] at h1
     rw [if_pos (by omega)]
     omega
   · have h3 : ([n].filter p).length ≤ ([n].filter q).length := by
       rw [List.filter_cons, List.filter_cons]
       by_cases a : p n = true
       · rw [if_pos a, if_pos (h n (by omega) e a)]; exact Nat.le_refl _
       · rw [if_neg a]; simp
     have h4 : (if t < n then 1 else 0) ≤ (if t < n + 1 then 1 else 0) := by split <;> split <;> omega
     omega
structure MvP (c : SC) (b : Nat) (row : List Fnd) (spoken : Int) (m : SM) (e : Int) (m' : SM) : Prop where
 lit : LitS m'.n
 R : RsOk c m'.n m'.rs
 hold : ∀ q k d, Hold c m.n m.rs q k d → Hold c m'.n m'.rs q k d
 back : ∀ r ∈ m'.rs, ∃ r0 ∈ m.rs, r0.pl = r.pl
 q : m'.q = m.q
 sq : m'.sq = m.sq
 stay : ∀ x, x < c.bl.length → (x : Int) ∉ freeL c m → m'.n.L (c.ph x).toNat = m.n.L (c.ph x).toNat ∧ m'.n.mr (c.ph x).toNat = m.n.mr (c.ph x).toNat
 low : spoken ≤ sprN c m → spoken ≤ sprN c m'
 res : ∃ d : Nat, badN c m' = badN c m + d ∧ sprN c m' + d = sprN c m ∧ m.n.po ≤ m'.n.po ∧ m'.n.po ≤ m.n.po + ((c.S.pg : Int) + 1) * d + row.length ∧
   ((e = 0 ∧ m'.ro = m.ro ∧ (∀ r ∈ m'.rs, r.bk ≠ b) ∧ (∃ t : Nat, m'.fr = t ∧ t < c.bl.length ∧ (t : Int) ∈ freeL c m ∧ badB c m' t = false ∧ nextB c m' t = row.length) ∧ m'.n.M c.who.toNat = m.n.M c.who.toNat + d ∧ (freeL c m).length ≤ (freeL c m').length + 1 + d)
     ∨ (e = 13 ∧ m'.ro = true ∧ m'.fr = m.fr ∧ m'.rs = m.rs ∧ m'.n.M c.who.toNat = m.n.M c.who.toNat + d + 1 ∧ c.sp ≤ badN c m' + spoken))
theorem move_is {c : SC} (hw : 0 ≤ c.who ∧ c.who < 4) (hsz : c.sz ≤ 64) (hB : BlOk c) (hN : c.bl.Nodup) {b : Nat} {row : List Fnd} (hl : row.length ≤ c.S.pg) {spoken : Int} (hs : 0 ≤ spoken) : ∀ (j : Nat) (m : SM), LitS m.n → RsOk c m.n m.rs → NeedP c m.n m.rs b c.S.pg row → (b : Int) ∉ freeL c m → sprN c m < (freeL c m).length → (freeL c m).length ≤ j →
   ∃ e m', moveF c row spoken j m = some (e, m') ∧ MvP c b row spoken m e m'
 | 0, m, _, _, _, _, h1, h2 => by have := spr_nn c m; omega
 | j + 1, m, h, R, N, hb, h1, h2 => by
   have hs0 := spr_nn c m
   cases hf : freeL c m with
   | nil => rw [hf] at h1; simp at h1; omega
   | cons tg rest =>
     have hmem : tg ∈ freeL c m := by rw [hf]; simp
     obtain ⟨t, rfl, ht, hfb⟩ := free_in hmem
     obtain ⟨f1, f2, f3⟩ := freeB_iff.1 hfb
     have hti : (0 : Int) ≤ t ∧ (t : Int) < c.bl.length := by omega
     have hbt : (b : Int) ≠ t := fun e => hb (by rw [e]; exact hmem)
     have hph := hB.ph hti
     have hx : c.ph t = ((c.ph t).toNat : Int) := by omega
     have Q := copy_lit hw hx (by omega) row 0 m.n h f3 (by omega) f2 (fun f hf => by obtain ⟨_, _, _, _, _, _, h6⟩ := N.is f hf; exact h6.ok)
     have hno := blank_no R f2
     have hstay : ∀ x, x < c.bl.length → (x : Int) ∉ freeL c m → x ≠ t := fun x _ hx e => hx (by rw [e]; exact hmem)
     unfold moveF
     rw [hf]
     simp only
     generalize copyR c (t : Int) row 0 m.n = pr at *
     obtain ⟨e1, n1⟩ := pr
     simp only at Q ⊢
     have hO := other_L R hB hN hti Q.other
     have O1 : OneB c t m { m with n := n1 } := ⟨Q.other, fun x _ => by rw [show ({ m with n := n1 } : SM).n = n1 from rfl, Q.mr]⟩
     have hbad1 : badN c { m with n := n1 } = badN c m := bad_same O1 hB hN ht (by unfold badB; rw [show ({ m with n := n1 } : SM).n = n1 from rfl, Q.mr])
     rcases Q.res with ⟨q0, q1, q2, q3⟩ | ⟨q0, q2, q3⟩
     · rw [if_pos q0]
       obtain ⟨z, C⟩ := copied hsz hB hN h R N hti hbt f2 f3 hl Q q0
       refine ⟨_, _, rfl, ⟨Q.lit, C.ok, C.hold, C.back, rfl, rfl, fun x hxl hxn => ⟨O1.L _ (ph_ne hB hN ht hxl (hstay x hxl hxn)), O1.mr _ (ph_ne hB hN ht hxl (hstay x hxl hxn))⟩, fun hq => Int.le_trans hq (Int.le_of_eq (spr_same hbad1).symm), 0, hbad1, by rw [← spr_same hbad1]; exact Int.add_zero _, Q.po.1, ?_, .inl ⟨z, rfl, C.no, ⟨t, rfl, ht, hmem, ?_, ?_⟩, ?_, ?_⟩⟩⟩
       · have := Q.po.2
         have e0 : ((c.S.pg : Int) + 1) * ((0 : Nat) : Int) = 0 := Int.mul_zero _
         show n1.po ≤ _
         rw [e0]
         omega
       · show n1.mr _ = false
         rw [Q.mr]; exact f3
       · show nextN (n1.L _) _ = _
         rw [q3]; omega
       · simp only; rw [q2]; simp
       · rw [freeL_len, freeL_len]
         have := filter_less (t := t) (p := freeB c m) (q := freeB c { m with n := n1, fr := (t : Int), rs := (setlR c (t : Int) row 0 m.rs).2 }) (n := c.bl.length) (fun x hxl hne hp => by
           obtain ⟨a1, a2, a3⟩ := freeB_iff.1 hp
           exact freeB_iff.2 ⟨by simp only; omega, (O1.next hB hN ht hxl hne).trans a2, (O1.bad hB hN ht hxl hne).trans a3⟩)
         rw [if_pos ht] at this
         omega
     · rw [if_neg (by rw [q0]; decide), if_neg (by rw [q0]; decide)]
       have hspr : sprN c { m with n := n1 } = sprN c m := spr_same hbad1
       have hRk : RsOk c n1 m.rs := R.keep (fun r hr => hO r hr (hno r hr)) (fun r _ => by rw [Q.mr])
       unfold giveE giveM
       by_cases hsp : sprN c { m with n := n1 } > spoken
       · rw [if_pos hsp, if_pos hsp]
         obtain ⟨k0, k1, k2, k3, k4, k5, k6⟩ := mark_lit (S := c.S) Q.lit (x := (c.ph t).toNat) (by omega) (by omega)
         rw [← hx] at k0 k1 k2 k3 k4 k5 k6
         simp only
         rw [if_neg (by rw [k0]; decide)]
         generalize markS c.S n1 (c.ph t) = n2 at *
         have O2 : OneB c t m { m with n := n2 } := ⟨fun x hx => by show n2.L x = _; rw [k2]; exact Q.other x hx, fun x hx => by show n2.mr x = _; rw [k6]; simp only; rw [if_neg hx, Q.mr]⟩
         have hb2 : badB c { m with n := n2 } t = true := by show n2.mr _ = true; rw [k6]; simp
         have hbad2 := bad_one O2 hB hN ht f3 hb2
         have hfr2 : freeB c { m with n := n2 } t = false := by
           rw [Bool.eq_false_iff]
           intro a
           have := (freeB_iff.1 a).2.2
           rw [hb2] at this; cases this
         have hfl := free_one O2 hB hN rfl ht hfb hfr2
         have hspr2 := spr_one hbad2 (by omega)
         have hO2 : ∀ r ∈ m.rs, n2.L (c.ph r.bk).toNat = m.n.L (c.ph r.bk).toNat := fun r hr => by rw [k2]; exact hO r hr (hno r hr)
         have hR2 : RsOk c n2 m.rs := R.keep hO2 (fun r hr => by
           have hk := R.ok r hr
           have := ph_ne hB hN ht (b := r.bk.toNat) (by omega) (fun e => hno r hr (by omega))
           rw [show ((r.bk.toNat : Nat) : Int) = r.bk by omega] at this
           exact O2.mr _ this)
         have hsub : ∀ x : Nat, (x : Int) ∈ freeL c { m with n := n2 } → (x : Int) ∈ freeL c m := fun x hx2 => by
           obtain ⟨a1, a2⟩ := freeL_iff.1 hx2
           obtain ⟨a3, a4, a5⟩ := freeB_iff.1 a2
           have hne : x ≠ t := fun e => by subst e; rw [hfr2] at a2; cases a2
           exact freeL_iff.2 ⟨a1, freeB_iff.2 ⟨a3, (O2.next hB hN ht a1 hne).symm.trans a4, (O2.bad hB hN ht a1 hne).symm.trans a5⟩⟩
         obtain ⟨e, m', hm', V⟩ := move_is hw hsz hB hN hl hs j { m with n := n2 } k1 hR2 (N.keep hO2) (fun a => hb (hsub b a)) (by omega) (by omega)
         refine ⟨e, m', hm', ⟨V.lit, V.R, fun q k d hd => V.hold q k d (hd.keep hO2), V.back, V.q, V.sq, fun x hxl hxn => ?_, fun _ => V.low (by omega), ?_⟩⟩
         · obtain ⟨a1, a2⟩ := V.stay x hxl (fun a => hxn (hsub x a))
           exact ⟨a1.trans (O2.L _ (ph_ne hB hN ht hxl (hstay x hxl hxn))), a2.trans (O2.mr _ (ph_ne hB hN ht hxl (hstay x hxl hxn)))⟩
         · obtain ⟨d, d1, ds, d2, d3, d4⟩ := V.res
           have hpo := Q.po
           have hmul : ((c.S.pg : Int) + 1) * ((d + 1 : Nat) : Int) = ((c.S.pg : Int) + 1) * d + (c.S.pg + 1) := by rw [Int.natCast_add, Int.mul_add]; simp
           simp only at d2 d3
           rw [k5] at d2 d3
           refine ⟨d + 1, by omega, by omega, by omega, by rw [hmul]; omega, ?_⟩
           rcases d4 with ⟨g0, g1, g2, ⟨t2, g3, g4, g5, g6, g7⟩, g8, g9⟩ | ⟨g0, g1, g2, g3, g4, g5⟩
           · refine .inl ⟨g0, g1, g2, ⟨t2, g3, g4, hsub t2 g5, g6, g7⟩, ?_, by omega⟩
             simp only at g8
             rw [k3] at g8
             omega
           · refine .inr ⟨g0, g1, g2, g3, ?_, g5⟩
             simp only at g4
             rw [k3] at g4
             omega
       · rw [if_neg hsp, if_neg hsp, if_pos (by decide)]
         refine ⟨_, _, rfl, ⟨Q.lit, hRk, fun q k d hd => hd.keep (fun r hr => hO r hr (hno r hr)), fun r hr => ⟨r, hr, rfl⟩, rfl, rfl, fun x hxl hxn => ⟨O1.L _ (ph_ne hB hN ht hxl (hstay x hxl hxn)), O1.mr _ (ph_ne hB hN ht hxl (hstay x hxl hxn))⟩, fun hq => Int.le_trans hq (Int.le_of_eq (spr_same hbad1).symm), 0, hbad1, by rw [← spr_same hbad1]; exact Int.add_zero _, Q.po.1, ?_, .inr ⟨rfl, rfl, rfl, rfl, ?_, ?_⟩⟩⟩
         · have := Q.po.2
           have e0 : ((c.S.pg : Int) + 1) * ((0 : Nat) : Int) = 0 := Int.mul_zero _
           show n1.po ≤ _
           rw [e0]
           omega
         · simp only; rw [q2]; simp
         · have := spr_low hs hsp
           exact this
end Go.Proofs.YtdnpdoipipfkoaaGreatDoor

namespace Go.Proofs.YtdnpdoipipfkoaaGreatDoor
set_option linter.unusedVariables false
set_option linter.unusedSimpArgs false
set_option linter.unusedVariables false
set_option linter.unusedSimpArgs false
set_option maxRecDepth 100000
open Go.RowKit
theorem nextN_zero18 {f : Nat → Pg} : ∀ {n : Nat}, (∀ j, j < n → (f j).st = 0) → nextN f n = 0
 | 0, _ => rfl
 | n + 1, h => by unfold nextN; rw [if_pos (h n (by omega))]; exact nextN_zero18 (fun j hj => h j (by omega))
structure ClP (c : SC) (row : List Fnd) (m : SM) (e : Int) (m' : SM) : Prop where
 lit : LitS m'.n
 R : RsOk c m'.n m'.rs
 hold : ∀ q k d, Hold c m.n m.rs q k d → Hold c m'.n m'.rs q k d
 back : ∀ r ∈ m'.rs, ∃ r0 ∈ m.rs, r0.pl = r.pl
 q : m'.q = m.q
 sq : m'.sq = m.sq
 res : ∃ d : Nat, badN c m' = badN c m + d ∧ sprN c m' + d = sprN c m ∧ m.n.po ≤ m'.n.po ∧ m'.n.po ≤ m.n.po + ((c.S.pg : Int) + 1) * d + row.length + 1 ∧
   ((e = 0 ∧ m'.ro = m.ro ∧ m'.n.M c.who.toNat = m.n.M c.who.toNat + d ∧ (freeL c m).length ≤ (freeL c m').length + d ∧ ∃ t : Nat, m'.fr = t ∧ t < c.bl.length ∧ badB c m' t = false ∧ nextB c m' t = row.length)
     ∨ (e = 13 ∧ m'.ro = true ∧ m'.n.M c.who.toNat = m.n.M c.who.toNat + d + 1 ∧ c.sp ≤ badN c m'))
theorem coll_is {c : SC} (hw : 0 ≤ c.who ∧ c.who < 4) (hsz : c.sz ≤ 64) (hB : BlOk c) (hN : c.bl.Nodup) {b k : Nat} {m : SM} (h : LitS m.n) (R : RsOk c m.n m.rs) (hbl : b < c.bl.length) (hb0 : badB c m b = false) (hb1 : nextB c m b ≠ 0) (hJ : sprN c m < (freeL c m).length) (hk : (freeL c m).length ≤ k) :
   ∃ e m', collR c m b k = some (e, m') ∧ ClP c (needR c m b c.S.pg).1 m e m' := by
 obtain ⟨n0, N⟩ := need_is h hB R b c.S.pg (Nat.le_refl _)
 have hlen := needR_len (c := c) (m := m) (b := b) c.S.pg
 have hbf : (b : Int) ∉ freeL c m := fun a => hb1 (freeB_iff.1 (freeL_iff.1 a).2).2.1
 unfold collR moveR
 rw [if_neg (by rw [n0]; decide)]
 generalize (needR c m b c.S.pg).1 = row at *
 obtain ⟨e1, m1, hm1, V⟩ := move_is hw hsz hB hN hlen (Int.le_refl 0) k m h R N hbf hJ hk
 rw [hm1]
 simp only
 obtain ⟨d, d1, ds, d2, d3, d4⟩ := V.res
 rcases d4 with ⟨g0, g1, g2, ⟨t, g3, g4, g5, g6, g7⟩, g8, g9⟩ | ⟨g0, g1, g2, g3, g4, g5⟩
 · rw [if_neg (by rw [g0]; decide)]
   obtain ⟨v1, v2⟩ := V.stay b hbl hbf
   have hph := hB.ph (b := (b : Int)) (by omega)
   have hx : c.ph b = ((c.ph b).toNat : Int) := by omega
   have hm1b : m1.n.mr (c.ph b).toNat = false := v2.trans hb0
   have E := ers_lit (c := c) V.lit hw (x := (c.ph b).toNat) (by omega) hm1b
   rw [← hx] at E
   have hbt : b ≠ t := fun e => hbf (by rw [e]; exact g5)
   have hO := other_L V.R hB hN (tg := (b : Int)) (by omega) E.other
   unfold eraE eraM
   generalize ersE c.S c.zs m1.n c.who (c.ph b) = e2 at *
   generalize ersS c.S c.zs m1.n c.who (c.ph b) = n2 at *
   have O2 : OneB c b m1 { m1 with n := n2 } := ⟨E.other, fun x _ => by show n2.mr x = _; rw [E.mr]⟩
   have hbad2 : badN c { m1 with n := n2 } = badN c m1 := bad_same O2 hB hN hbl (by show n2.mr _ = _; rw [E.mr]; rfl)
   have hspr2 : sprN c { m1 with n := n2 } = sprN c m1 := spr_same hbad2
   have hR2 : RsOk c n2 m1.rs := V.R.keep (fun r hr => hO r hr (g2 r hr)) (fun r _ => by rw [E.mr])
   have hh2 : ∀ q k d, Hold c m.n m.rs q k d → Hold c n2 m1.rs q k d := fun q k d hd => (V.hold q k d hd).keep (fun r hr => hO r hr (g2 r hr))
   have hfb : freeB c m1 b = false := by
     rw [Bool.eq_false_iff]
     intro a
     refine hb1 ?_
     have := (freeB_iff.1 a).2.1
     unfold nextB at this ⊢
     rw [← v1]; exact this
   have hpo := E.po
   have ht2 : badB c { m1 with n := n2 } t = false := (O2.bad hB hN hbl g4 (fun e => hbt e.symm)).trans g6
   have htn2 : nextB c { m1 with n := n2 } t = row.length := (O2.next hB hN hbl g4 (fun e => hbt e.symm)).trans g7
   rcases E.res with ⟨q0, q1, q2⟩ | ⟨q0, q1, q2⟩
   · rw [if_pos (by rw [q0]; decide), if_pos (by rw [q0]; decide)]
     have hfb2 : freeB c { m1 with n := n2 } b = true := freeB_iff.2 ⟨by simp only; rw [g3]; omega, nextN_zero18 (fun j hj => by show (n2.L _ j).st = 0; rw [q1 j hj]; rfl), by show n2.mr _ = false; rw [E.mr]; exact hm1b⟩
     have hfl : (freeL c m1).length + 1 = (freeL c { m1 with n := n2 }).length := by
       rw [freeL_len, freeL_len]
       refine filter_one hfb2 hfb hbl (fun x hx hne => ?_)
       unfold freeB
       rw [O2.next hB hN hbl hx hne, O2.bad hB hN hbl hx hne]
     refine ⟨_, _, rfl, ⟨E.lit, hR2, hh2, V.back, V.q, V.sq, d, by omega, by omega, by simp only; omega, by simp only; omega, .inl ⟨q0, g1, by simp only; omega, by omega, t, g3, g4, ht2, htn2⟩⟩⟩
   · rw [if_neg (by rw [q0]; decide), if_neg (by rw [q0]; decide)]
     unfold giveE giveM
     by_cases hsp : sprN c { m1 with n := n2 } > 0
     · rw [if_pos hsp, if_pos hsp]
       obtain ⟨k0, k1, k2, k3, k4, k5, k6⟩ := mark_lit (S := c.S) E.lit (x := (c.ph b).toNat) (by omega) (by omega)
       rw [← hx] at k0 k1 k2 k3 k4 k5 k6
       simp only
       generalize markS c.S n2 (c.ph b) = n3 at *
       have O3 : OneB c b m1 { m1 with n := n3 } := ⟨fun x hx => by show n3.L x = _; rw [k2]; exact E.other x hx, fun x hx => by show n3.mr x = _; rw [k6]; simp only; rw [if_neg hx, E.mr]⟩
       have hb3 : badB c { m1 with n := n3 } b = true := by show n3.mr _ = true; rw [k6]; simp
       have hbad3 := bad_one O3 hB hN hbl hm1b hb3
       have hspr3 := spr_one hbad3 (by omega)
       have hfl : (freeL c m1).length ≤ (freeL c { m1 with n := n3 }).length := by
         rw [freeL_len, freeL_len]
         have := filter_less (t := c.bl.length) (p := freeB c m1) (q := freeB c { m1 with n := n3 }) (n := c.bl.length) (fun x hx _ hp => by
           have hne : x ≠ b := fun e => by rw [e, hfb] at hp; cases hp
           unfold freeB
           rw [O3.next hB hN hbl hx hne, O3.bad hB hN hbl hx hne]
           exact hp)
         rw [if_neg (by omega)] at this
         exact this
       have hO3 : ∀ r ∈ m1.rs, n3.L (c.ph r.bk).toNat = m1.n.L (c.ph r.bk).toNat := fun r hr => by rw [k2]; exact hO r hr (g2 r hr)
       have hmul : ((c.S.pg : Int) + 1) * ((d + 1 : Nat) : Int) = ((c.S.pg : Int) + 1) * d + (c.S.pg + 1) := by rw [Int.natCast_add, Int.mul_add]; simp
       refine ⟨_, _, rfl, ⟨k1, V.R.keep hO3 (fun r hr => ?_), fun q k d hd => (V.hold q k d hd).keep hO3, V.back, V.q, V.sq, d + 1, by omega, by omega, by simp only; omega, by rw [hmul]; simp only; omega, .inl ⟨k0, g1, by simp only; rw [k3]; omega, by omega, t, g3, g4, (O3.bad hB hN hbl g4 (fun e => hbt e.symm)).trans g6, (O3.next hB hN hbl g4 (fun e => hbt e.symm)).trans g7⟩⟩⟩
       have hk := V.R.ok r hr
       have := ph_ne hB hN hbl (b := r.bk.toNat) (by omega) (fun e => g2 r hr (by omega))
       rw [show ((r.bk.toNat : Nat) : Int) = r.bk by omega] at this
       exact O3.mr _ this
     · rw [if_neg hsp, if_neg hsp]
       have := spr_low (Int.le_refl 0) hsp
       rw [Int.add_zero] at this
       exact ⟨_, _, rfl, ⟨E.lit, hR2, hh2, V.back, V.q, V.sq, d, by exact hbad2.trans d1, by refine Eq.trans ?_ ds; exact congrArg (fun x : Int => x + (d : Int)) hspr2, by simp only; omega, by simp only; omega, .inr ⟨rfl, rfl, by simp only; omega, this⟩⟩⟩
 · rw [if_pos (by rw [g0]; decide)]
   exact ⟨_, _, rfl, ⟨V.lit, V.R, V.hold, V.back, V.q, V.sq, d, d1, ds, d2, by omega, .inr ⟨g0, g1, g4, by omega⟩⟩⟩
end Go.Proofs.YtdnpdoipipfkoaaGreatDoor

namespace Go.Proofs.YtdnpdoipipfkoaaGreatDoor
set_option linter.unusedVariables false
set_option linter.unusedSimpArgs false
set_option linter.unusedVariables false
set_option linter.unusedSimpArgs false
set_option maxRecDepth 100000
open Go.RowKit
structure LvP (c : SC) (row : List Fnd) (m : SM) (e : Int) (m' : SM) : Prop where
 lit : LitS m'.n
 R : RsOk c m'.n m'.rs
 hold : ∀ q k d, Hold c m.n m.rs q k d → Hold c m'.n m'.rs q k d
 back : ∀ r ∈ m'.rs, ∃ r0 ∈ m.rs, r0.pl = r.pl
 q : m'.q = m.q
 sq : m'.sq = m.sq
 res : ∃ d : Nat, m.n.po ≤ m'.n.po ∧ m'.n.po ≤ m.n.po + ((c.S.pg : Int) + 1) * d + row.length + 1 ∧
   ((e = 0 ∧ badN c m' = badN c m + d + 1 ∧ sprN c m' + d + 1 = sprN c m ∧ m'.ro = m.ro ∧ m'.n.M c.who.toNat = m.n.M c.who.toNat + d ∧ (freeL c m).length ≤ (freeL c m').length + 1 + d ∧ ∃ t : Nat, m'.fr = t ∧ t < c.bl.length ∧ badB c m' t = false ∧ nextB c m' t = row.length)
     ∨ (e = 13 ∧ badN c m' = badN c m + d ∧ sprN c m' + d = sprN c m ∧ m'.ro = true ∧ ((m'.n.M c.who.toNat = m.n.M c.who.toNat + d + 1 ∧ c.sp ≤ badN c m' + 1) ∨ (d = 0 ∧ m'.n.M c.who.toNat = m.n.M c.who.toNat ∧ c.sp ≤ badN c m'))))
theorem leav_is {c : SC} (hw : 0 ≤ c.who ∧ c.who < 4) (hsz : c.sz ≤ 64) (hB : BlOk c) (hN : c.bl.Nodup) {b k : Nat} {m : SM} (h : LitS m.n) (R : RsOk c m.n m.rs) (hfr : m.fr = b) (hbl : b < c.bl.length) (hb0 : badB c m b = false) (hb1 : nextB c m b ≠ 0) (hJ : sprN c m < (freeL c m).length) (hk : (freeL c m).length ≤ k) :
   ∃ e m', leavR c m k = some (e, m') ∧ LvP c (needR c m b c.S.pg).1 m e m' := by
 obtain ⟨n0, N⟩ := need_is h hB R b c.S.pg (Nat.le_refl _)
 have hlen := needR_len (c := c) (m := m) (b := b) c.S.pg
 have hbf : (b : Int) ∉ freeL c m := fun a => (freeB_iff.1 (freeL_iff.1 a).2).1 hfr.symm
 unfold leavR moveR
 rw [hfr]
 by_cases hsp : sprN c m > 0
 · rw [if_pos hsp, if_neg (by rw [n0]; decide)]
   generalize (needR c m b c.S.pg).1 = row at *
   obtain ⟨e1, m1, hm1, V⟩ := move_is hw hsz hB hN hlen (show (0 : Int) ≤ 1 by decide) k m h R N hbf hJ hk
   rw [hm1]
   simp only
   have hlow := V.low (by omega)
   obtain ⟨d, d1, ds, d2, d3, d4⟩ := V.res
   rcases d4 with ⟨g0, g1, g2, ⟨t, g3, g4, g5, g6, g7⟩, g8, g9⟩ | ⟨g0, g1, g2, g3, g4, g5⟩
   · rw [if_neg (by rw [g0]; decide)]
     obtain ⟨v1, v2⟩ := V.stay b hbl hbf
     have hph := hB.ph (b := (b : Int)) (by omega)
     have hx : c.ph b = ((c.ph b).toNat : Int) := by omega
     have hm1b : m1.n.mr (c.ph b).toNat = false := v2.trans hb0
     have hbt : b ≠ t := fun e => hbf (by rw [e]; exact g5)
     obtain ⟨k0, k1, k2, k3, k4, k5, k6⟩ := mark_lit (S := c.S) V.lit (x := (c.ph b).toNat) (by omega) (by omega)
     rw [← hx] at k0 k1 k2 k3 k4 k5 k6
     generalize markE c.S m1.n (c.ph b) = e3 at *
     generalize markS c.S m1.n (c.ph b) = n3 at *
     have O3 : OneB c b m1 { m1 with n := n3 } := ⟨fun x hx => by show n3.L x = _; rw [k2], fun x hx => by show n3.mr x = _; rw [k6]; simp only; rw [if_neg hx]⟩
     have hb3 : badB c { m1 with n := n3 } b = true := by show n3.mr _ = true; rw [k6]; simp
     have hbad3 := bad_one O3 hB hN hbl hm1b hb3
     have hspr3 := spr_one hbad3 (by omega)
     have hfb : freeB c m1 b = false := by
       rw [Bool.eq_false_iff]
       intro a
       refine hb1 ?_
       have := (freeB_iff.1 a).2.1
       unfold nextB at this ⊢
       rw [← v1]; exact this
     have hfl : (freeL c m1).length ≤ (freeL c { m1 with n := n3 }).length := by
       rw [freeL_len, freeL_len]
       have := filter_less (t := c.bl.length) (p := freeB c m1) (q := freeB c { m1 with n := n3 }) (n := c.bl.length) (fun x hx _ hp => by
         have hne : x ≠ b := fun e => by rw [e, hfb] at hp; cases hp
         unfold freeB
         rw [O3.next hB hN hbl hx hne, O3.bad hB hN hbl hx hne]
         exact hp)
       rw [if_neg (by omega)] at this
       exact this
     have hO3 : ∀ r ∈ m1.rs, n3.L (c.ph r.bk).toNat = m1.n.L (c.ph r.bk).toNat := fun r hr => by rw [k2]
     refine ⟨_, _, rfl, ⟨k1, V.R.keep hO3 (fun r hr => ?_), fun q k d hd => (V.hold q k d hd).keep hO3, V.back, V.q, V.sq, d, by simp only; omega, by simp only; omega, .inl ⟨k0, by omega, by omega, g1, by simp only; rw [k3]; exact g8, by omega, t, g3, g4, (O3.bad hB hN hbl g4 (fun e => hbt e.symm)).trans g6, (O3.next hB hN hbl g4 (fun e => hbt e.symm)).trans g7⟩⟩⟩
     have hk := V.R.ok r hr
     have := ph_ne hB hN hbl (b := r.bk.toNat) (by omega) (fun e => g2 r hr (by omega))
     rw [show ((r.bk.toNat : Nat) : Int) = r.bk by omega] at this
     exact O3.mr _ this
   · rw [if_pos (by rw [g0]; decide)]
     exact ⟨_, _, rfl, ⟨V.lit, V.R, V.hold, V.back, V.q, V.sq, d, d2, by omega, .inr ⟨g0, d1, ds, g1, .inl ⟨g4, g5⟩⟩⟩⟩
 · rw [if_neg hsp]
   have := spr_low (Int.le_refl 0) hsp
   rw [Int.add_zero] at this
   have e0 : ((c.S.pg : Int) + 1) * ((0 : Nat) : Int) = 0 := Int.mul_zero _
   refine ⟨_, _, rfl, ⟨h, R, fun _ _ _ hd => hd, fun r hr => ⟨r, hr, rfl⟩, rfl, rfl, 0, Int.le_refl _, by rw [e0]; simp only; omega, .inr ⟨rfl, rfl, Int.add_zero _, rfl, .inr ⟨rfl, rfl, this⟩⟩⟩⟩
end Go.Proofs.YtdnpdoipipfkoaaGreatDoor

namespace Go.Proofs.YtdnpdoipipfkoaaGreatDoor
set_option linter.unusedVariables false
set_option linter.unusedSimpArgs false
set_option linter.unusedVariables false
set_option linter.unusedSimpArgs false
set_option maxRecDepth 100000
open Go.RowKit
theorem PgIs.keep1 {c : SC} {s s' : NS} {b pg : Int} {f : Fnd} (h : PgIs c s b pg f) (he : s'.L (c.ph b).toNat pg.toNat = s.L (c.ph b).toNat pg.toNat) : PgIs c s' b pg f := ⟨h.bk, h.at', h.torn, h.ok, by rw [he]; exact h.is⟩
structure PuP (c : SC) (x : Chg) (t : Nat) (m : SM) (e : Int) (m' : SM) : Prop where
 lit : LitS m'.n
 R : RsOk c m'.n m'.rs
 mr : m'.n.mr = m.n.mr
 po : m'.n.po = m.n.po + 1
 q : m'.q = m.q
 ro : m'.ro = m.ro
 fr : m'.fr = m.fr
 free : (freeL c m').length = (freeL c m).length
 nx : nextB c m' t = nextB c m t + 1
 hold : ∀ q k d, q ≠ x.pl → Hold c m.n m.rs q k d → Hold c m'.n m'.rs q k d
 res : (e = 0 ∧ m'.sq = m.sq + 1 ∧ m'.n.M c.who.toNat = m.n.M c.who.toNat ∧ Hold c m'.n m'.rs x.pl x.kd x.dt ∧ ∀ r ∈ m'.rs, r.pl = x.pl ∨ r ∈ m.rs)
   ∨ (e = 10 ∧ m'.sq = m.sq ∧ m'.n.M c.who.toNat = m.n.M c.who.toNat + 1 ∧ m'.rs = m.rs ∧ ∀ q k d, Hold c m.n m.rs q k d → Hold c m'.n m'.rs q k d)
theorem put18_is {c : SC} (hw : 0 ≤ c.who ∧ c.who < 4) (hsz : c.sz ≤ 64) (hB : BlOk c) (hN : c.bl.Nodup) {t : Nat} {m : SM} {x : Chg} (h : LitS m.n) (R : RsOk c m.n m.rs) (hfr : m.fr = t) (ht : t < c.bl.length) (hb0 : badB c m t = false) (hnx : nextB c m t < c.S.pg) (hok : okB c.who c.ep x.pl m.sq x.kd = true) (hd : x.dt.size ≤ 160) (hpl : 0 ≤ x.pl ∧ x.pl < c.sz) :
   PuP c x t m (putE18 c m x) (putM c m x) := by
 have hti : (0 : Int) ≤ t ∧ (t : Int) < c.bl.length := by omega
 have hph := hB.ph hti
 have hx : c.ph t = ((c.ph t).toNat : Int) := by omega
 have P := prg_lit (b := (t : Int)) h hw hx (by omega) hnx hb0 (show nextN (m.n.L (c.ph t).toNat) c.S.pg = nextB c m t from rfl) hok false x.dt hd
 have hN1 := P.next (by show (1 : Int) ≠ 0; decide) rfl hnx
 have hno : ∀ r ∈ m.rs, ¬ (r.bk = t ∧ r.pg = (nextB c m t : Nat)) := fun r hr a => by
   obtain ⟨f, hf, _⟩ := R.pg r hr
   have h1 := hf.is
   have h2 := nextN_above (f := m.n.L (c.ph t).toNat) (n := c.S.pg) (j := nextB c m t) (Nat.le_refl _) hnx
   rw [a.1, a.2, Int.toNat_natCast] at h1
   rw [h1] at h2
   cases h2
 unfold putE18 putM
 rw [hfr, Int.toNat_natCast]
 generalize prgE c m.n (t : Int) (nextB c m t : Nat) x.pl m.sq x.kd c.who c.ep false x.dt = e1 at *
 generalize prgS c m.n (t : Int) (nextB c m t : Nat) x.pl m.sq x.kd c.who c.ep false x.dt = n1 at *
 have hpage : ∀ r ∈ m.rs, n1.L (c.ph r.bk).toNat r.pg.toNat = m.n.L (c.ph r.bk).toNat r.pg.toNat := fun r hr => by
   have hk := R.ok r hr
   by_cases e : r.bk = t
   · rw [e]
     exact P.below _ (fun a => hno r hr ⟨e, by omega⟩)
   · rw [other_L R hB hN hti P.other r hr e]
 have hR1 : RsOk c n1 m.rs := ⟨R.ok, R.pls, R.pgs, fun r hr => by rw [P.mr]; exact R.mr r hr, fun r hr => by
   obtain ⟨f, h1, h2⟩ := R.pg r hr
   exact ⟨f, h1.keep1 (hpage r hr), h2⟩⟩
 have hfree : ∀ m' : SM, m'.n = n1 → m'.fr = m.fr → (freeL c m').length = (freeL c m).length := fun m' a1 a2 => by
   rw [freeL_len, freeL_len]
   refine filter_same (fun y hy => ?_)
   by_cases e : y = t
   · subst e
     unfold freeB
     rw [a2, hfr]
     simp
   · have O : OneB c t m m' := ⟨fun z hz => by rw [a1]; exact P.other z hz, fun z _ => by rw [a1, P.mr]⟩
     unfold freeB
     rw [a2, O.next hB hN ht hy e, O.bad hB hN ht hy e]
 rcases P.res with ⟨q0, q1, q2⟩ | ⟨q0, q1, q2⟩
 · obtain ⟨s0, s1, s2⟩ := set_is hsz R.b hpl hti hnx hno
   rw [if_pos q0, if_pos q0, s0, s1]
   have hnew : PgIs c n1 (t : Int) ((nextB c m t : Nat) : Int) ⟨t, (nextB c m t : Nat), false, c.who, c.ep, x.pl, m.sq, x.kd, false, x.dt⟩ := ⟨rfl, rfl, rfl, ⟨hok, hd⟩, by rw [Int.toNat_natCast]; exact q1⟩
   refine ⟨P.lit, ⟨s2.ok, s2.pls, s2.pgs, fun r hr => ?_, fun r hr => ?_⟩, P.mr, P.po, rfl, rfl, hfr.symm, hfree _ rfl hfr.symm, hN1, fun q k d hq hh => ?_, .inl ⟨rfl, rfl, q2, ?_, fun r hr => ?_⟩⟩
   · rcases List.mem_append.1 hr with hr | hr
     · exact hR1.mr r (mem_clear.1 hr).1
     · obtain rfl := List.mem_singleton.1 hr
       show n1.mr _ = false
       rw [P.mr]; exact hb0
   · rcases List.mem_append.1 hr with hr | hr
     · exact hR1.pg r (mem_clear.1 hr).1
     · obtain rfl := List.mem_singleton.1 hr
       exact ⟨_, hnew, rfl⟩
   · obtain ⟨r, hr, h1, f, h2, h3⟩ := hh
     exact ⟨r, List.mem_append.2 (.inl (mem_clear.2 ⟨hr, by rw [h1]; exact hq⟩)), h1, f, h2.keep1 (hpage r hr), h3⟩
   · exact ⟨⟨x.pl, t, (nextB c m t : Nat)⟩, List.mem_append.2 (.inr (List.mem_singleton.2 rfl)), rfl, _, hnew, rfl, rfl, rfl⟩
   · rcases List.mem_append.1 hr with hr | hr
     · exact .inr (mem_clear.1 hr).1
     · obtain rfl := List.mem_singleton.1 hr
       exact .inl rfl
 · rw [if_neg (by rw [q0]; decide), if_neg (by rw [q0]; decide)]
   have hh : ∀ q k d, Hold c m.n m.rs q k d → Hold c n1 m.rs q k d := fun q k d hh => by
     obtain ⟨r, hr, h1, f, h2, h3⟩ := hh
     exact ⟨r, hr, h1, f, h2.keep1 (hpage r hr), h3⟩
   exact ⟨P.lit, hR1, P.mr, P.po, rfl, rfl, hfr.symm, hfree _ rfl hfr.symm, hN1, fun q k d _ => hh q k d, .inr ⟨q0, rfl, q2, rfl, hh⟩⟩
end Go.Proofs.YtdnpdoipipfkoaaGreatDoor

namespace Go.Proofs.YtdnpdoipipfkoaaGreatDoor
set_option linter.unusedVariables false
set_option linter.unusedSimpArgs false
set_option linter.unusedVariables false
set_option linter.unusedSimpArgs false
set_option maxRecDepth 100000
open Go.RowKit
theorem nodup_sub : ∀ (l r : List Int), l.Nodup → (∀ x ∈ l, x ∈ r) → l.length ≤ r.length
 | [], _, _, _ => Nat.zero_le _
 | x :: l, r, hn, h => by
   rw [List.nodup_cons] at hn
   have hx := h x (by simp)
   have h1 := nodup_sub l (r.erase x) hn.2 (fun y hy => (List.mem_erase_of_ne (fun e => hn.1 (by rw [← e]; exact hy))).2 (h y (by simp [hy])))
   have h2 := List.length_erase_of_mem hx
   have h3 := List.length_pos_of_mem hx
   simp only [List.length_cons]
   omega
theorem need_worth {c : SC} {s : NS} {rs : List R14} (R : RsOk c s rs) {b : Int} {k : Nat} {L : List Fnd} (N : NeedP c s rs b k L) : L.length ≤ worthN rs b := by
 have := nodup_sub (L.map (·.pl)) ((rs.filter fun r => r.bk == b).map (·.pl)) (need_pls R N) (fun x hx => by
   obtain ⟨f, hf, rfl⟩ := List.mem_map.1 hx
   obtain ⟨r, h1, h2, _, h4, _⟩ := N.is f hf
   exact List.mem_map.2 ⟨r, List.mem_filter.2 ⟨h1, by simpa using h2⟩, h4⟩)
 simpa [worthN] using this
end Go.Proofs.YtdnpdoipipfkoaaGreatDoor

namespace Go.Proofs.YtdnpdoipipfkoaaGreatDoor
set_option linter.unusedVariables false
set_option linter.unusedSimpArgs false
set_option linter.unusedVariables false
set_option linter.unusedSimpArgs false
set_option maxRecDepth 100000
open Go.RowKit
structure Stt (c : SC) : Prop where
 hw : 0 ≤ c.who ∧ c.who < 4
 sz : 1 ≤ c.sz ∧ c.sz ≤ 64
 sp : 0 ≤ c.sp ∧ c.sp ≤ 8
 hB : BlOk c
 hN : c.bl.Nodup
 bl : c.bl.length ≤ 64
 tot : c.sz / c.S.pg + 2 + c.sp ≤ c.bl.length
 pg : 2 ≤ c.S.pg ∧ c.S.pg ≤ 16
 ep : 0 ≤ c.ep ∧ c.ep ≤ 2147483647
theorem Stt.ok {c : SC} (st : Stt c) {pl sq kd : Int} (h1 : 0 ≤ pl ∧ pl < c.sz) (h2 : 0 ≤ sq ∧ sq ≤ 2147483647) (h3 : kd = 1 ∨ kd = 2) : okB c.who c.ep pl sq kd = true := by
 have := st.hw; have := st.sz; have := st.ep
 refine okB_true fun j hj => ?_
 rcases (by omega : j = 0 ∨ j = 1 ∨ j = 2 ∨ j = 3 ∨ j = 4) with rfl | rfl | rfl | rfl | rfl
 · show (0 : Int) ≤ c.who ∧ c.who ≤ 3; omega
 · show (0 : Int) ≤ c.ep ∧ c.ep ≤ 2147483647; omega
 · show (0 : Int) ≤ pl ∧ pl ≤ 63; omega
 · show (0 : Int) ≤ sq ∧ sq ≤ 2147483647; omega
 · show (1 : Int) ≤ kd ∧ kd ≤ 2; omega
theorem three_len {p q r : Nat → Bool} : ∀ {n : Nat}, (∀ x, x < n → (p x).toNat + (q x).toNat + (r x).toNat = 1) → ((List.range n).filter p).length + ((List.range n).filter q).length + ((List.range n).filter r).length = n
 | 0, _ => rfl
 | n + 1, h => by
   have h1 := three_len (n := n) (fun x hx => h x (by omega))
   have h2 := h n (by omega)
   rw [List.range_succ, List.filter_append, List.filter_append, List.filter_append, List.length_append, List.length_append, List.length_append]
   have e : ∀ f : Nat → Bool, ([n].filter f).length = (f n).toNat := fun f => by
     rw [List.filter_cons]
     cases f n <;> rfl
   rw [e p, e q, e r]
   omega
theorem sum_low {f : Nat → Nat} {p : Nat → Bool} {k : Nat} : ∀ {n : Nat}, (∀ x, x < n → p x = true → k ≤ f x) → k * ((List.range n).filter p).length ≤ sumN f n
 | 0, _ => by simp [sumN]
 | n + 1, h => by
   have h1 := sum_low (n := n) (f := f) (p := p) (k := k) (fun x hx => h x (by omega))
   rw [List.range_succ, List.filter_append, List.length_append, sumN, Nat.mul_add]
   have e : k * ([n].filter p).length ≤ f n := by
     rw [List.filter_cons]
     by_cases hp : p n = true
     · rw [if_pos hp]; simpa using h n (by omega) hp
     · rw [if_neg hp]; simp
   omega
theorem rows_few {c : SC} {s : NS} {rs : List R14} (hz : 0 ≤ c.sz) (R : RsOk c s rs) : (rs.length : Int) ≤ c.sz := by
 have := nodup_len c.sz.toNat (rs.map (·.pl)) R.pls (fun x hx => by
   obtain ⟨r, hr, rfl⟩ := List.mem_map.1 hx
   have := R.ok r hr
   omega)
 simp only [List.length_map] at this
 omega
theorem victim_some {c : SC} (st : Stt c) {m : SM} (R : RsOk c m.n m.rs) (sm : (badN c m : Int) + sprN c m = c.sp) (hf : ((freeL c m).length : Int) ≤ sprN c m + 1) (hfr : ∀ t : Nat, m.fr = t → t < c.bl.length → nextB c m t = 0 → badB c m t = true) :
   ∃ b, b < c.bl.length ∧ mayS c m b = true := by
 apply Classical.byContradiction
 intro hn
 have hno : ∀ b, b < c.bl.length → mayS c m b = false := fun b hb => by
   cases h : mayS c m b
   · rfl
   · exact absurd ⟨b, hb, h⟩ hn
 have h3 := three_len (p := badB c m) (q := freeB c m) (r := fun b => !decide (nextB c m b = 0) && !badB c m b) (n := c.bl.length) (fun x hx => by
   unfold freeB
   by_cases hz : nextB c m x = 0
   · rw [decide_eq_true hz]
     cases hb : badB c m x
     · have hne : (x : Int) ≠ m.fr := fun e => by
         have := hfr x e.symm hx hz
         rw [hb] at this; cases this
       rw [decide_eq_true hne]
       rfl
     · cases decide ((x : Int) ≠ m.fr) <;> rfl
   · rw [decide_eq_false hz]
     cases hb : badB c m x <;> cases decide ((x : Int) ≠ m.fr) <;> rfl)
 have hlow := sum_low (f := fun i => worthN m.rs i) (p := fun b => !decide (nextB c m b = 0) && !badB c m b) (k := c.S.pg) (n := c.bl.length) (fun x hx hp => by
   have h1 := hno x hx
   unfold mayS at h1
   simp only [Bool.and_eq_true] at hp
   rw [hp.1, hp.2] at h1
   simpa using h1)
 rw [sumN_worth m.rs c.bl.length (fun r hr => by have := R.ok r hr; omega)] at hlow
 have hrs := rows_few (by have := st.sz; omega) R
 have hb : badN c m = ((List.range c.bl.length).filter (badB c m)).length := rfl
 rw [freeL_len] at hf
 rw [← hb] at h3
 have htot := st.tot
 have hX : c.sz / c.S.pg + 1 ≤ (((List.range c.bl.length).filter (fun b => !decide (nextB c m b = 0) && !badB c m b)).length : Int) := by omega
 have hpg := st.pg
 have h1 : (c.S.pg : Int) * (c.sz / c.S.pg + 1) ≤ (c.S.pg : Int) * (((List.range c.bl.length).filter (fun b => !decide (nextB c m b = 0) && !badB c m b)).length : Int) := Int.mul_le_mul_of_nonneg_left hX (by omega)
 have h2 : ((c.S.pg * ((List.range c.bl.length).filter (fun b => !decide (nextB c m b = 0) && !badB c m b)).length : Nat) : Int) ≤ (m.rs.length : Int) := by omega
 rw [Int.natCast_mul] at h2
 have h4 := Int.mul_ediv_add_emod c.sz c.S.pg
 have h5 := Int.emod_lt_of_pos c.sz (show (0 : Int) < c.S.pg by omega)
 rw [Int.mul_add] at h1
 omega
theorem worthL_at {c : SC} {m : SM} {b : Nat} (hb : b < c.bl.length) : (worthL c m).getD b 0 = if mayS c m b then (worthN m.rs b : Int) else -1 := by
 unfold worthL
 rw [List.getD_eq_getElem?_getD, List.getElem?_map, List.getElem?_range hb]
 rfl
theorem worthL_len (c : SC) (m : SM) : (worthL c m).length = c.bl.length := by unfold worthL; simp
theorem pick_is {c : SC} {m : SM} (h : ∃ b, b < c.bl.length ∧ mayS c m b = true) : ∃ b : Nat, grdN (worthL c m) = b ∧ b < c.bl.length ∧ mayS c m b = true := by
 obtain ⟨b, hb, hm⟩ := h
 rcases grdN_is (worthL c m) with ⟨_, h2⟩ | ⟨i, h1, h2, h3, _⟩
 · have := h2 b (by rw [worthL_len]; exact hb)
   rw [worthL_at hb, if_pos hm] at this
   omega
 · rw [worthL_len] at h2
   refine ⟨i, h1, h2, ?_⟩
   rw [worthL_at h2] at h3
   cases hi : mayS c m i
   · rw [hi] at h3
     simp at h3
   · rfl
structure Live (c : SC) (m : SM) : Prop where
 fr : m.fr = -1 ∨ ∃ t : Nat, m.fr = t ∧ t < c.bl.length ∧ badB c m t = false
 J : sprN c m < (freeL c m).length
structure RoP (c : SC) (m : SM) (e : Int) (m' : SM) : Prop where
 lit : LitS m'.n
 R : RsOk c m'.n m'.rs
 hold : ∀ q k d, Hold c m.n m.rs q k d → Hold c m'.n m'.rs q k d
 back : ∀ r ∈ m'.rs, ∃ r0 ∈ m.rs, r0.pl = r.pl
 q : m'.q = m.q
 sq : m'.sq = m.sq
 res : ∃ d : Nat, badN c m' = badN c m + d ∧ sprN c m' + d = sprN c m ∧ m.n.po ≤ m'.n.po ∧ m'.n.po ≤ m.n.po + ((c.S.pg : Int) + 1) * d + c.S.pg ∧
   ((e = 0 ∧ m'.ro = m.ro ∧ m'.n.M c.who.toNat = m.n.M c.who.toNat + d ∧ sprN c m' < (freeL c m').length ∧ ∃ t : Nat, m'.fr = t ∧ t < c.bl.length ∧ badB c m' t = false ∧ nextB c m' t < c.S.pg)
     ∨ (e = 13 ∧ m'.ro = true ∧ m'.n.M c.who.toNat = m.n.M c.who.toNat + d + 1 ∧ c.sp ≤ badN c m'))
theorem room_is {c : SC} (st : Stt c) {m : SM} (h : LitS m.n) (R : RsOk c m.n m.rs) (L : Live c m) (sm : (badN c m : Int) + sprN c m = c.sp) {k : Nat} (hk : 64 ≤ k) :
   ∃ e m', roomR c m k = some (e, m') ∧ RoP c m e m' := by
 have hpg := st.pg
 have hlen : (freeL c m).length ≤ c.bl.length := by
   rw [freeL_len]
   exact Nat.le_trans (List.length_filter_le _ _) (by simp)
 have hbl := st.bl
 unfold roomR
 by_cases hc : (hasS c m.fr && decide (nextB c m m.fr.toNat < c.S.pg)) = true
 · rw [if_pos hc]
   simp only [Bool.and_eq_true, decide_eq_true_eq] at hc
   obtain ⟨h1, h2⟩ := hc
   unfold hasS at h1
   simp only [decide_eq_true_eq] at h1
   refine ⟨_, _, rfl, ⟨h, R, fun _ _ _ hd => hd, fun r hr => ⟨r, hr, rfl⟩, rfl, rfl, 0, rfl, Int.add_zero _, Int.le_refl _, by simp; omega, .inl ⟨rfl, rfl, by simp, L.J, ?_⟩⟩⟩
   rcases L.fr with e | ⟨t, e1, e2, e3⟩
   · omega
   · exact ⟨t, e1, e2, e3, by rw [e1] at h2; simpa using h2⟩
 · rw [if_neg hc]
   by_cases hf : ((freeL c m).length : Int) - 1 > sprN c m
   · rw [if_pos hf]
     cases hl : freeL c m with
     | nil => rw [hl] at hf; have := spr_nn c m; simp at hf; omega
     | cons x l =>
       have hmem : x ∈ freeL c m := by rw [hl]; simp
       obtain ⟨t, rfl, ht, hfb⟩ := free_in hmem
       obtain ⟨f1, f2, f3⟩ := freeB_iff.1 hfb
       refine ⟨_, _, rfl, ⟨h, R, fun _ _ _ hd => hd, fun r hr => ⟨r, hr, rfl⟩, rfl, rfl, 0, rfl, Int.add_zero _, Int.le_refl _, by simp; omega, .inl ⟨rfl, rfl, by simp, ?_, t, rfl, ht, f3, ?_⟩⟩⟩
       · have hs : sprN c { m with fr := (t : Int) } = sprN c m := spr_same rfl
         have := filter_less (t := t) (p := freeB c m) (q := freeB c { m with fr := (t : Int) }) (n := c.bl.length) (fun x hxl hne hp => by
           obtain ⟨a1, a2, a3⟩ := freeB_iff.1 hp
           exact freeB_iff.2 ⟨by simp only; omega, a2, a3⟩)
         rw [if_pos ht, ← freeL_len, ← freeL_len] at this
         show sprN c { m with fr := (t : Int) } < ((freeL c { m with fr := (t : Int) }).length : Int)
         omega
       · show nextB c m t < c.S.pg
         omega
   · rw [if_neg hf]
     obtain ⟨b, hb, hbl2, hmay⟩ := pick_is (victim_some st R sm (by omega) (fun t e1 e2 e3 => by
       exfalso
       apply hc
       rw [e1, Int.toNat_natCast]
       simp only [Bool.and_eq_true, decide_eq_true_eq]
       refine ⟨?_, by omega⟩
       unfold hasS
       simp only [decide_eq_true_eq]
       omega))
     rw [hb, if_neg (by omega)]
     unfold mayS at hmay
     simp only [Bool.and_eq_true, Bool.not_eq_true', decide_eq_false_iff_not, decide_eq_true_eq] at hmay
     obtain ⟨v1, v2, v3⟩ := hmay
     obtain ⟨e, m', hm', V⟩ := coll_is (k := k) st.hw st.sz.2 st.hB st.hN h R hbl2 v2 v1 L.J (by omega)
     have hw : (needR c m b c.S.pg).1.length ≤ worthN m.rs b := need_worth R (need_is h st.hB R b c.S.pg (Nat.le_refl _)).2
     refine ⟨e, m', hm', ⟨V.lit, V.R, V.hold, V.back, V.q, V.sq, ?_⟩⟩
     obtain ⟨d, d1, d2, d3, d4, d5⟩ := V.res
     refine ⟨d, d1, d2, d3, by omega, ?_⟩
     rcases d5 with ⟨g0, g1, g2, g3, t, g4, g5, g6, g7⟩ | g
     · have := L.J
       exact .inl ⟨g0, g1, g2, by omega, t, g4, g5, g6, by omega⟩
     · exact .inr g
end Go.Proofs.YtdnpdoipipfkoaaGreatDoor

namespace Go.Proofs.YtdnpdoipipfkoaaGreatDoor
set_option linter.unusedVariables false
set_option linter.unusedSimpArgs false
set_option linter.unusedVariables false
set_option linter.unusedSimpArgs false
set_option maxRecDepth 100000
open Go.RowKit
structure ChP (c : SC) (x : Chg) (m : SM) (e : Int) (m' : SM) : Prop where
 lit : LitS m'.n
 R : RsOk c m'.n m'.rs
 q : m'.q = m.q
 sm : (badN c m' : Int) + sprN c m' = c.sp
 po : m.n.po ≤ m'.n.po
 res : ∃ f : Nat, m'.n.M c.who.toNat = m.n.M c.who.toNat + f ∧ m'.n.po ≤ m.n.po + (2 * (c.S.pg : Int) + 3) * f + c.S.pg + 1 ∧ badN c m' ≤ badN c m + f ∧ badN c m + f ≤ badN c m' + 2 ∧
   ((e = 0 ∧ m'.ro = m.ro ∧ m'.sq = m.sq + 1 ∧ (∀ q k d, q ≠ x.pl → Hold c m.n m.rs q k d → Hold c m'.n m'.rs q k d) ∧ Hold c m'.n m'.rs x.pl x.kd x.dt ∧ (∀ r ∈ m'.rs, r.pl = x.pl ∨ ∃ r0 ∈ m.rs, r0.pl = r.pl) ∧ Live c m')
     ∨ (e = 13 ∧ m'.ro = true ∧ m'.sq = m.sq ∧ (∀ q k d, Hold c m.n m.rs q k d → Hold c m'.n m'.rs q k d) ∧ (∀ r ∈ m'.rs, ∃ r0 ∈ m.rs, r0.pl = r.pl) ∧ c.sp < badN c m + f))
theorem chg_is {c : SC} (st : Stt c) {x : Chg} (hx : 0 ≤ x.pl ∧ x.pl < c.sz) (hkd : x.kd = 1 ∨ x.kd = 2) (hd : x.dt.size ≤ 160) {k : Nat} (hk : 64 ≤ k) : ∀ (j : Nat) (m : SM), LitS m.n → RsOk c m.n m.rs → Live c m → (badN c m : Int) + sprN c m = c.sp → 0 ≤ m.sq ∧ m.sq ≤ 2147483647 → sprN c m < j →
   ∃ e m', chgR c x k j m = some (e, m') ∧ ChP c x m e m'
 | 0, m, _, _, _, _, _, h => by have := spr_nn c m; omega
 | j + 1, m, h, R, L, sm, hsq, hj => by
   obtain ⟨e1, m1, h1, V⟩ := room_is st h R L sm hk
   have hbl := st.bl
   have hpg := st.pg
   obtain ⟨d, d1, d2, d3, d4, d5⟩ := V.res
   have hK : ((c.S.pg : Int) + 1) * d ≤ (2 * (c.S.pg : Int) + 3) * d := Int.mul_le_mul_of_nonneg_right (by omega) (by omega)
   unfold chgR
   rw [h1]
   simp only
   rcases d5 with ⟨g0, g1, g2, g3, t, g4, g5, g6, g7⟩ | ⟨g0, g1, g2, g3⟩
   · rw [if_neg (by rw [g0]; decide)]
     have P := put18_is st.hw st.sz.2 st.hB st.hN V.lit V.R g4 g5 g6 g7 (st.ok hx (by rw [V.sq]; exact hsq) hkd) hd hx
     generalize putE18 c m1 x = e2 at *
     generalize putM c m1 x = m2 at *
     have hbad2 : badN c m2 = badN c m1 := by unfold badN badB; rw [P.mr]
     have hspr2 : sprN c m2 = sprN c m1 := spr_same hbad2
     have hfree := P.free
     rcases P.res with ⟨q0, q1, q2, q3, q4⟩ | ⟨q0, q1, q2, q3, q4⟩
     · rw [if_pos (by rw [q0]; decide)]
       have hpo := P.po
       refine ⟨_, _, rfl, ⟨P.lit, P.R, P.q.trans V.q, by omega, by omega, d, by omega, by omega, by omega, by omega, .inl ⟨q0, P.ro.trans g1, by rw [q1, V.sq], fun q k d hq hh => P.hold q k d hq (V.hold q k d hh), q3, fun r hr => ?_, ?_⟩⟩⟩
       · rcases q4 r hr with a | a
         · exact .inl a
         · exact .inr (V.back r a)
       · refine ⟨.inr ⟨t, P.fr.trans g4, g5, ?_⟩, by omega⟩
         show m2.n.mr _ = false
         rw [P.mr]
         exact g6
     · rw [if_neg (by rw [q0]; decide)]
       have hlen2 : (freeL c m2).length ≤ c.bl.length := by
         rw [freeL_len]
         exact Nat.le_trans (List.length_filter_le _ _) (by simp)
       have hb2 : badB c m2 t = false := by show m2.n.mr _ = false; rw [P.mr]; exact g6
       obtain ⟨e3, m3, h3, W⟩ := leav_is st.hw st.sz.2 st.hB st.hN (k := k) P.lit P.R (P.fr.trans g4) g5 hb2 (by rw [P.nx]; omega) (by omega) (by omega)
       have hrow : (needR c m2 t c.S.pg).1.length ≤ c.S.pg := needR_len _
       generalize (needR c m2 t c.S.pg).1 = row at *
       rw [h3]
       simp only
       have hpo := P.po
       have hH : ∀ q k d, Hold c m.n m.rs q k d → Hold c m3.n m3.rs q k d := fun q k d hh => W.hold q k d (q4 q k d (V.hold q k d hh))
       have hBk : ∀ r ∈ m3.rs, ∃ r0 ∈ m.rs, r0.pl = r.pl := fun r hr => by
         obtain ⟨r1, a1, a2⟩ := W.back r hr
         rw [q3] at a1
         obtain ⟨r2, b1, b2⟩ := V.back r1 a1
         exact ⟨r2, b1, b2.trans a2⟩
       obtain ⟨d', w1, w2, w3⟩ := W.res
       have hK' : ((c.S.pg : Int) + 1) * d' ≤ (2 * (c.S.pg : Int) + 3) * d' := Int.mul_le_mul_of_nonneg_right (by omega) (by omega)
       rcases w3 with ⟨z0, z1, z2, z3, z4, z5, t3, z6, z7, z8, z9⟩ | ⟨z0, z1, z2, z3, z4⟩
       · rw [if_neg (by rw [z0]; decide)]
         obtain ⟨e4, m4, h4, U⟩ := chg_is st hx hkd hd hk j m3 W.lit W.R ⟨.inr ⟨t3, z6, z7, z8⟩, by omega⟩ (by omega) (by rw [W.sq, q1, V.sq]; exact hsq) (by omega)
         obtain ⟨f, u1, u2, u3, u3b, u4⟩ := U.res
         have hpo4 := U.po
         have hmul : (2 * (c.S.pg : Int) + 3) * ((d + d' + 1 + f : Nat) : Int) = (2 * (c.S.pg : Int) + 3) * d + (2 * (c.S.pg : Int) + 3) * d' + (2 * (c.S.pg : Int) + 3) + (2 * (c.S.pg : Int) + 3) * f := by
           rw [Int.natCast_add, Int.natCast_add, Int.natCast_add, Int.mul_add, Int.mul_add, Int.mul_add]
           simp
         refine ⟨e4, m4, h4, ⟨U.lit, U.R, U.q.trans (W.q.trans (P.q.trans V.q)), U.sm, by omega, d + d' + 1 + f, by omega, by omega, by omega, by omega, ?_⟩⟩
         rcases u4 with ⟨y0, y1, y2, y3, y4, y5, y6⟩ | ⟨y0, y1, y2, y3, y4, y5⟩
         · refine .inl ⟨y0, y1.trans (z3.trans (P.ro.trans g1)), by rw [y2, W.sq, q1, V.sq], fun q k d hq hh => y3 q k d hq (hH q k d hh), y4, fun r hr => ?_, y6⟩
           rcases y5 r hr with a | ⟨r1, a1, a2⟩
           · exact .inl a
           · obtain ⟨r2, b1, b2⟩ := hBk r1 a1
             exact .inr ⟨r2, b1, b2.trans a2⟩
         · refine .inr ⟨y0, y1, by rw [y2, W.sq, q1, V.sq], fun q k d hh => y3 q k d (hH q k d hh), fun r hr => ?_, by omega⟩
           obtain ⟨r1, a1, a2⟩ := y4 r hr
           obtain ⟨r2, b1, b2⟩ := hBk r1 a1
           exact ⟨r2, b1, b2.trans a2⟩
       · rw [if_pos (by rw [z0]; decide)]
         have hq3 : m3.q = m.q := W.q.trans (P.q.trans V.q)
         have hs3 : m3.sq = m.sq := by rw [W.sq, q1, V.sq]
         rcases z4 with ⟨y1, y2⟩ | ⟨y0, y1, y2⟩
         · have hmul : (2 * (c.S.pg : Int) + 3) * ((d + d' + 2 : Nat) : Int) = (2 * (c.S.pg : Int) + 3) * d + (2 * (c.S.pg : Int) + 3) * d' + (2 * (c.S.pg : Int) + 3) * 2 := by
             rw [Int.natCast_add, Int.natCast_add, Int.mul_add, Int.mul_add]
             simp
           exact ⟨_, _, rfl, ⟨W.lit, W.R, hq3, by omega, by omega, d + d' + 2, by omega, by omega, by omega, by omega, .inr ⟨z0, z3, hs3, hH, hBk, by omega⟩⟩⟩
         · subst y0
           have hmul : (2 * (c.S.pg : Int) + 3) * ((d + 1 : Nat) : Int) = (2 * (c.S.pg : Int) + 3) * d + (2 * (c.S.pg : Int) + 3) := by
             rw [Int.natCast_add, Int.mul_add]
             simp
           simp at w2
           exact ⟨_, _, rfl, ⟨W.lit, W.R, hq3, by omega, by omega, d + 1, by omega, by omega, by omega, by omega, .inr ⟨z0, z3, hs3, hH, hBk, by omega⟩⟩⟩
   · rw [if_pos (by rw [g0]; decide)]
     have hmul : (2 * (c.S.pg : Int) + 3) * ((d + 1 : Nat) : Int) = (2 * (c.S.pg : Int) + 3) * d + (2 * (c.S.pg : Int) + 3) := by
       rw [Int.natCast_add, Int.mul_add]
       simp
     exact ⟨_, _, rfl, ⟨V.lit, V.R, V.q, by omega, d3, d + 1, by omega, by omega, by omega, by omega, .inr ⟨g0, g1, V.sq, V.hold, V.back, by omega⟩⟩⟩
end Go.Proofs.YtdnpdoipipfkoaaGreatDoor

namespace Go.Proofs.YtdnpdoipipfkoaaGreatDoor
set_option linter.unusedVariables false
set_option linter.unusedSimpArgs false
set_option linter.unusedVariables false
set_option linter.unusedSimpArgs false
set_option maxRecDepth 100000
open Go.RowKit
theorem Tryz.sizeGeo18 : (Tryz.prog.info? 72).map (·.size) = some 4 := by kernel_rfl
theorem geo_load18 {ops : Array Oper} {rest : List Oper} {o : Oper} {a : Act} {w : World} {Q : Exit → Act → World → Prop} (hgd : o.guard = none) (x : Operand) (ho : o.op = .load 72 x) {g : Nat} (hx : a.eval x = .pointer (some ⟨g, 0, none⟩)) {c d b p : Int}
   (hr : w.rangeAt g 0 [.int .i64 c, .int .i64 d, .int .i64 b, .int .i64 p]) (h : wpList Tryz.prog ops Q rest (a.put o.dst (.agg #[.int .i64 c, .int .i64 d, .int .i64 b, .int .i64 p])) w) : wpList Tryz.prog ops Q (o :: rest) a w := by
 refine wpList_plain hgd fun K hK => wp_load_mid 72 x ho g 0 hx _ _ hr Tryz.underlying72 rfl (by rw [Tryz.sizeGeo18]; rfl) (hK _ _ h)
theorem geometry18_is {w : World} {S : NShape} (h : FixAt w S) :
   Calls Tryz.prog 54 #[.pointer (some ⟨S.nb, 0, none⟩)] w fun e w' => e = .returned (.agg #[.int .i64 S.c, .int .i64 S.d, .int .i64 S.b, .int .i64 S.p]) ∧ w.grownBy w' none := by
 have hr : (w.alloc (.cells #[.int .i64 0, .int .i64 0, .int .i64 0, .int .i64 0] 72)).rangeAt S.nb 0 [.int .i64 S.c, .int .i64 S.d, .int .i64 S.b, .int .i64 S.p] := fun j v hj => by
   have hg := World.grownBy_alloc w (.cells #[.int .i64 0, .int .i64 0, .int .i64 0, .int .i64 0] 72) none
   match j, hj with
   | 0, hj => simp at hj; subst hj; exact hg.cell h.g0 (by simp)
   | 1, hj => simp at hj; subst hj; exact hg.cell h.g1 (by simp)
   | 2, hj => simp at hj; subst hj; exact hg.cell h.g2 (by simp)
   | 3, hj => simp at hj; subst hj; exact hg.cell h.g3 (by simp)
   | j + 4, hj => simp at hj
 clear h
 generalize S.c = c at *
 generalize S.d = d at *
 generalize S.b = b at *
 generalize S.p = p at *
 go_enter Tryz.func54, Tryz.ntmps54
 go_wp2_with (refine geo_load18 rfl _ rfl rfl hr ?_)
 refine bodyPost_ret (v := .agg #[.int .i64 c, .int .i64 d, .int .i64 b, .int .i64 p]) (by simp [results, Tryz.results54, go_sem]) rfl ⟨rfl, ?_⟩
 exact World.grownBy_alloc w _ none
theorem geo_pages18 (c d b p : Int) (w : World) : (Instr.field 72 (.agg #[.int .i64 c, .int .i64 d, .int .i64 b, .int .i64 p]) 3).run Tryz.prog w = .ok (.int .i64 p) w := by kernel_rfl
def SeeB (w : World) (bs : List Nat) (x : World) : Prop := ∀ k ∈ bs, x.heap[k]? = w.heap[k]?
theorem SeeB.cell {w x : World} {bs : List Nat} (h : SeeB w bs x) {g : Nat} (hg : g ∈ bs) {o : Nat} {v : Value} (hc : w.cell? ⟨g, o, none⟩ = some v) : x.cell? ⟨g, o, none⟩ = some v := (World.cell?_of_block (h g hg)).trans hc
theorem SeeB.of_ext {w x : World} {bs : List Nat} (hg : w.grownBy x none) (hb : ∀ k ∈ bs, k < w.heap.size) : SeeB w bs x := fun k hk => hg.block k (hb k hk) (by simp)
theorem SeeB.trans {w x y : World} {bs : List Nat} (h : SeeB w bs x) (h2 : SeeB x bs y) : SeeB w bs y := fun k hk => (h2 k hk).trans (h k hk)
theorem drewE {w x : World} (h : w.grownBy x none) : w.grownBy x.drew none := ⟨h.os, h.tape, h.output, h.size, h.block⟩
section
variable {w w' : World} {p : SP} {c : SC} {m : SM}
theorem StOk.phys (ok : StOk p c) {b : Nat} (hb : b < c.bl.length) : ∃ x : Nat, c.ph b = x ∧ 2 ≤ x ∧ x < c.S.all ∧ c.bl.getD b 0 = x ∧ (c.ph b).toNat = x := by
 have h := ok.blr b hb
 refine ⟨(c.bl.getD b 0).toNat, ?_, by omega, by omega, by omega, ?_⟩
 · show c.bl.getD (b : Int).toNat 0 = _
   rw [Int.toNat_natCast]; omega
 · show (c.bl.getD (b : Int).toNat 0).toNat = _
   rw [Int.toNat_natCast]
theorem StAt.at (h : StAt w p c m) {b : Nat} (hb : b < c.bl.length) : ∃ g off cap, p.bv = .slice (some ⟨g, off, none⟩) c.bl.length cap ∧ w.cell? ⟨g, off + b, none⟩ = some (.int .i64 (c.bl.getD b 0)) := by
 obtain ⟨ao, cap, g, off, hv, hc⟩ := h.iv.form
 obtain ⟨rfl, h2⟩ := hc b hb
 exact ⟨g, off, cap, hv, h2⟩
theorem pages18 (h : StAt w p c m) (ok : StOk p c) : Calls Tryz.prog 68 #[.pointer (some ⟨p.sb, 0, none⟩)] w fun e w' => e = .returned (.int .i64 (c.S.pg : Int)) ∧ w.grownBy w' none := by
 have G := geometry18_is h.nd.fix
 rw [ok.R.pgs]
 obtain ⟨c0, _⟩ := h.cells
 have hfld := geo_pages18 c.S.c c.S.d c.S.b c.S.p
 clear h
 go_enter Tryz.func68, Tryz.ntmps68
 go_wp2_with (go_at_call 54; refine G.mono ?_; rintro e w' ⟨rfl, hg⟩)
 go_ret
 exact ⟨rfl, hg⟩
theorem has18 (h : StAt w p c m) (b : Int) : Calls Tryz.prog 34 #[.pointer (some ⟨p.sb, 0, none⟩), .int .i64 b] w fun e w' => e = .returned (.bool (hasS c b)) ∧ w = w' := by
 obtain ⟨_, _, _, _, _, c6, _⟩ := h.cells
 obtain ⟨ao, cap, g, off, hv, _⟩ := h.iv.form
 rw [hv] at c6
 unfold hasS
 clear h hv
 generalize c.bl.length = n at *
 by_cases h0 : 0 ≤ b
 · by_cases h1 : b < n
   · rw [decide_eq_true (show 0 ≤ b ∧ b < (n : Int) from ⟨h0, h1⟩)]
     have h0' : b ≥ 0 := h0
     go_enter Tryz.func34, Tryz.ntmps34
     go_wp2
     go_ret
     exact ⟨rfl, rfl⟩
   · rw [decide_eq_false (show ¬ (0 ≤ b ∧ b < (n : Int)) by omega)]
     have h0' : b ≥ 0 := h0
     go_enter Tryz.func34, Tryz.ntmps34
     go_wp2
     go_ret
     exact ⟨rfl, rfl⟩
 · rw [decide_eq_false (show ¬ (0 ≤ b ∧ b < (n : Int)) by omega)]
   have h0' : ¬ b ≥ 0 := h0
   go_enter Tryz.func34, Tryz.ntmps34
   go_wp2
   go_ret
   exact ⟨rfl, rfl⟩
set_option maxHeartbeats 800000 in
theorem isBad18 (h : StAt w p c m) (ok : StOk p c) {b : Nat} (hb : b < c.bl.length) : Calls Tryz.prog 66 #[.pointer (some ⟨p.sb, 0, none⟩), .int .i64 (b : Int)] w fun e w' => e = .returned (.bool (badB c m b)) ∧ w.grownBy w' none := by
 obtain ⟨x, hx, _, hxa, hx2, hx3⟩ := ok.phys hb
 have B := fun (wx : World) (hE : w.grownBy wx none) => bad7_is (h.nd.ext hE ok.R) hxa
 obtain ⟨c0, _, _, _, _, c6, _⟩ := h.cells
 obtain ⟨g, off, cap, hv, hc⟩ := h.at hb
 rw [hv] at c6
 rw [hx2] at hc
 have HC := Lib.hid (show ∀ y, SeeB w [p.sb, g] y → y.cell? ⟨p.sb, 0, none⟩ = some (.pointer (some ⟨c.S.nb, 0, none⟩)) ∧ y.cell? ⟨p.sb, 6, none⟩ = some (.slice (some ⟨g, off, none⟩) c.bl.length cap) ∧ y.cell? ⟨g, off + b, none⟩ = some (.int .i64 (x : Int)) from fun y hy => ⟨hy.cell (by simp) c0, hy.cell (by simp) c6, hy.cell (by simp) hc⟩)
 have hS : SeeB w [p.sb, g] w.drew := fun k _ => rfl
 unfold badB
 rw [hx3]
 generalize m.n.mr x = y at *
 generalize c.bl.length = n at *
 clear h hv hx hx2 hx3 ok c0 c6 hc
 go_enter Tryz.func66, Tryz.ntmps66
 go_wp2
 refine region_line [(0, true), (1, true), (2, true), (3, true), (4, true), (5, true), (6, true), (7, true), (8, true), (9, true), (10, true), (11, true), (12, false), (13, true)] (SeeB w [p.sb, g]) (by kernel_rfl) (by kernel_rfl) (fun _ _ _ d _ h => by cases d <;> exact h) hS ?_
 repeat (refine line_read (a' := ?_) rfl (by kernel_rfl) (by kernel_rfl) hS (fun y hy K hK => ?_) ?_; rotate_left; · obtain ⟨c0, c6, ci⟩ := HC.out y hy; go_wp2; exact hK)
 refine line_act (by rfl) (fun K hK => ?_)
 go_wp2_with (go_at_call 73; refine (B _ (Ext.drew w)).mono ?_; rintro e w1 ⟨rfl, rfl⟩)
 refine hK _ _ (SeeB w [p.sb, g]) hS (fun _ h => h) ?_
 clear hK K
 repeat (refine line_read (a' := ?_) rfl (by kernel_rfl) (by kernel_rfl) hS (fun y hy K hK => ?_) ?_; rotate_left; · go_wp2; exact hK)
 refine line_end ?_
 go_wp2
 go_ret
 exact ⟨rfl, Ext.drew w⟩
set_option maxHeartbeats 800000 in
theorem isBlank18 (h : StAt w p c m) (ok : StOk p c) {b : Nat} (hb : b < c.bl.length) : Calls Tryz.prog 65 #[.pointer (some ⟨p.sb, 0, none⟩), .int .i64 (b : Int)] w fun e w' => e = .returned (.bool (decide (nextB c m b = 0))) ∧ w.grownBy w' none := by
 obtain ⟨x, hx, _, hxa, hx2, hx3⟩ := ok.phys hb
 have B := fun (wx : World) (hE : w.grownBy wx none) => blank7_is (h.nd.ext hE ok.R) ok.R hxa
 obtain ⟨c0, _, _, _, _, c6, _⟩ := h.cells
 obtain ⟨g, off, cap, hv, hc⟩ := h.at hb
 rw [hv] at c6
 rw [hx2] at hc
 have HC := Lib.hid (show ∀ y, SeeB w [p.sb, g] y → y.cell? ⟨p.sb, 0, none⟩ = some (.pointer (some ⟨c.S.nb, 0, none⟩)) ∧ y.cell? ⟨p.sb, 6, none⟩ = some (.slice (some ⟨g, off, none⟩) c.bl.length cap) ∧ y.cell? ⟨g, off + b, none⟩ = some (.int .i64 (x : Int)) from fun y hy => ⟨hy.cell (by simp) c0, hy.cell (by simp) c6, hy.cell (by simp) hc⟩)
 have hS : SeeB w [p.sb, g] w.drew := fun k _ => rfl
 unfold nextB
 rw [hx3]
 generalize decide (nextN (m.n.L x) c.S.pg = 0) = y at *
 generalize c.bl.length = n at *
 clear h hv hx hx2 hx3 ok c0 c6 hc
 go_enter Tryz.func65, Tryz.ntmps65
 go_wp2
 refine region_line [(0, true), (1, true), (2, true), (3, true), (4, true), (5, true), (6, true), (7, true), (8, true), (9, true), (10, true), (11, true), (12, false), (13, true)] (SeeB w [p.sb, g]) (by kernel_rfl) (by kernel_rfl) (fun _ _ _ d _ h => by cases d <;> exact h) hS ?_
 repeat (refine line_read (a' := ?_) rfl (by kernel_rfl) (by kernel_rfl) hS (fun y hy K hK => ?_) ?_; rotate_left; · obtain ⟨c0, c6, ci⟩ := HC.out y hy; go_wp2; exact hK)
 refine line_act (by rfl) (fun K hK => ?_)
 go_wp2_with (go_at_call 99; refine (B _ (Ext.drew w)).mono ?_; rintro e w1 ⟨rfl, rfl⟩)
 refine hK _ _ (SeeB w [p.sb, g]) hS (fun _ h => h) ?_
 clear hK K
 repeat (refine line_read (a' := ?_) rfl (by kernel_rfl) (by kernel_rfl) hS (fun y hy K hK => ?_) ?_; rotate_left; · go_wp2; exact hK)
 refine line_end ?_
 go_wp2
 go_ret
 exact ⟨rfl, Ext.drew w⟩
set_option maxHeartbeats 800000 in
theorem next18 (h : StAt w p c m) (ok : StOk p c) {b : Nat} (hb : b < c.bl.length) : Calls Tryz.prog 113 #[.pointer (some ⟨p.sb, 0, none⟩), .int .i64 (b : Int)] w fun e w' => e = .returned (.int .i64 (nextB c m b : Nat)) ∧ w.grownBy w' none := by
 obtain ⟨x, hx, _, hxa, hx2, hx3⟩ := ok.phys hb
 have B := fun (wx : World) (hE : w.grownBy wx none) => next7_is (h.nd.ext hE ok.R).fix hxa ((h.nd.ext hE ok.R).row x hxa) ok.R
 obtain ⟨c0, _, _, _, _, c6, _⟩ := h.cells
 obtain ⟨g, off, cap, hv, hc⟩ := h.at hb
 rw [hv] at c6
 rw [hx2] at hc
 have HC := Lib.hid (show ∀ y, SeeB w [p.sb, g] y → y.cell? ⟨p.sb, 0, none⟩ = some (.pointer (some ⟨c.S.nb, 0, none⟩)) ∧ y.cell? ⟨p.sb, 6, none⟩ = some (.slice (some ⟨g, off, none⟩) c.bl.length cap) ∧ y.cell? ⟨g, off + b, none⟩ = some (.int .i64 (x : Int)) from fun y hy => ⟨hy.cell (by simp) c0, hy.cell (by simp) c6, hy.cell (by simp) hc⟩)
 have hS : SeeB w [p.sb, g] w.drew := fun k _ => rfl
 unfold nextB
 rw [hx3]
 generalize nextN (m.n.L x) c.S.pg = y at *
 generalize c.bl.length = n at *
 clear h hv hx hx2 hx3 ok c0 c6 hc
 go_enter Tryz.func113, Tryz.ntmps113
 go_wp2
 refine region_line [(0, true), (1, true), (2, true), (3, true), (4, true), (5, true), (6, true), (7, true), (8, true), (9, true), (10, true), (11, true), (12, false), (13, true)] (SeeB w [p.sb, g]) (by kernel_rfl) (by kernel_rfl) (fun _ _ _ d _ h => by cases d <;> exact h) hS ?_
 repeat (refine line_read (a' := ?_) rfl (by kernel_rfl) (by kernel_rfl) hS (fun y hy K hK => ?_) ?_; rotate_left; · obtain ⟨c0, c6, ci⟩ := HC.out y hy; go_wp2; exact hK)
 refine line_act (by rfl) (fun K hK => ?_)
 go_wp2_with (go_at_call 74; refine (B _ (Ext.drew w)).mono ?_; rintro e w1 ⟨rfl, rfl⟩)
 refine hK _ _ (SeeB w [p.sb, g]) hS (fun _ h => h) ?_
 clear hK K
 repeat (refine line_read (a' := ?_) rfl (by kernel_rfl) (by kernel_rfl) hS (fun y hy K hK => ?_) ?_; rotate_left; · go_wp2; exact hK)
 refine line_end ?_
 go_wp2
 go_ret
 exact ⟨rfl, Ext.drew w⟩
theorem lacks18 (h : StAt w p c m) (q : Int) : Calls Tryz.prog 40 #[.pointer (some ⟨p.sb, 0, none⟩), .int .i64 q] w fun e w' => e = .returned (.int .i64 (lacE c q)) ∧ w = w' := by
 obtain ⟨_, _, _, c4, _⟩ := h.cells
 unfold lacE
 clear h
 generalize c.sz = n at *
 by_cases h0 : q < 0
 · rw [if_pos (.inl h0)]
   go_enter Tryz.func40, Tryz.ntmps40
   go_wp2
   go_ret
   exact ⟨rfl, rfl⟩
 · by_cases h1 : n ≤ q
   · rw [if_pos (.inr h1)]
     go_enter Tryz.func40, Tryz.ntmps40
     go_wp2
     go_ret
     exact ⟨rfl, rfl⟩
   · rw [if_neg (by omega)]
     go_enter Tryz.func40, Tryz.ntmps40
     go_wp2
     go_ret
     exact ⟨rfl, rfl⟩
theorem waiting18 (h : StAt w p c m) (hq : m.q.length ≤ 4) : Calls Tryz.prog 20 #[.pointer (some ⟨p.sb, 0, none⟩)] w fun e w' => e = .returned (.int .i64 m.q.length) ∧ w.grownBy w' none := by
 obtain ⟨_, _, _, _, _, _, _, c8, _⟩ := h.cells
 have L := buf_len18 w p.bb m.q h.bf hq
 clear h
 go_enter Tryz.func20, Tryz.ntmps20
 go_wp2_with (go_at_call 32; refine L.mono ?_; rintro e w1 ⟨rfl, hg⟩)
 go_ret
 exact ⟨rfl, hg⟩
end
end Go.Proofs.YtdnpdoipipfkoaaGreatDoor
