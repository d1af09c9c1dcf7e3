/-
  Texts put together: ID IA IE EB EC.
-/
import Derived.Test.YtdnpdoipipfkoaaGreatDoorM19
import Derived.Test.YtdnpdoipipfkoaaGreatDoorM21
import Derived.Laws.EntriesVeiled
import Derived.Shelf.Abstract
import Derived.Test.YtdnpdoipipfkoaaGreatDoorShelf
import Derived.Test.YtdnpdoipipfkoaaGreatDoorM02
import Derived.Lib.OwnBridge
import Derived.Sort.OwnSortedInts
import Derived.Laws.MakeOwn
import Derived.Test.YtdnpdoipipfkoaaGreatDoorM01
import Derived.Test.YtdnpdoipipfkoaaGreatDoorM10
import Derived.Maps.AppendAt
import Derived.Deep.AppendLies
namespace Go.Proofs.YtdnpdoipipfkoaaGreatDoor
set_option linter.unusedVariables false
set_option linter.unusedSimpArgs false
set_option linter.unusedVariables false
set_option linter.unusedSimpArgs false
set_option maxRecDepth 100000
open Go.RowKit
abbrev TopT := Int × Int × Bool
def noT : TopT := (0, 0, false)
def betT (t : TopT) (f : Fnd) : Bool := decide (t.1 < f.sq) || ((f.sq == t.1) && decide (t.2.1 < f.bk))
def topStep (m : Int → Option TopT) (f : Fnd) : Int → Option TopT := if !(m f.pl).isSome || betT ((m f.pl).getD noT) f then updX m f.pl (f.sq, f.bk, false) else m
def topsF (A : List Fnd) : Int → Option TopT := A.foldl topStep (fun _ => none)
theorem topsF_snoc (A : List Fnd) (f : Fnd) : topsF (A ++ [f]) = topStep (topsF A) f := by unfold topsF; rw [List.foldl_append]; rfl
def tokA (A : List Fnd) (m : Int → Option TopT) : Prop :=
 (∀ p, m p = none → ∀ g ∈ A, g.pl ≠ p) ∧ ∀ p t, m p = some t → t.2.2 = false ∧ (∃ f ∈ A, f.pl = p ∧ f.sq = t.1 ∧ f.bk = t.2.1) ∧ ∀ g ∈ A, g.pl = p → g.sq ≤ t.1 ∧ (g.sq = t.1 → g.bk ≤ t.2.1)
theorem tokA_upd {A : List Fnd} {m : Int → Option TopT} {f : Fnd} (h : tokA A m) (hf : ∀ g ∈ A, g.pl = f.pl → g.sq ≤ f.sq ∧ (g.sq = f.sq → g.bk ≤ f.bk)) : tokA (A ++ [f]) (updX m f.pl (f.sq, f.bk, false)) := by
 refine ⟨fun p hp g hg => ?_, fun p t hp => ?_⟩
 · unfold updX at hp
   split at hp
   · cases hp
   · rename_i hne
     rcases List.mem_append.1 hg with h1 | h1
     · exact h.1 p hp g h1
     · obtain rfl := List.mem_singleton.1 h1
       exact fun e => hne e.symm
 · unfold updX at hp
   split at hp
   · rename_i he
     injection hp with hp
     subst hp
     subst he
     refine ⟨rfl, ⟨f, by simp, rfl, rfl, rfl⟩, fun g hg hgp => ?_⟩
     rcases List.mem_append.1 hg with h1 | h1
     · exact hf g h1 hgp
     · obtain rfl := List.mem_singleton.1 h1
       exact ⟨Int.le_refl _, fun _ => Int.le_refl _⟩
   · rename_i hne
     obtain ⟨h1, ⟨f1, h2, h3⟩, h4⟩ := h.2 p t hp
     refine ⟨h1, ⟨f1, by simp [h2], h3⟩, fun g hg hgp => ?_⟩
     rcases List.mem_append.1 hg with h5 | h5
     · exact h4 g h5 hgp
     · obtain rfl := List.mem_singleton.1 h5
       exact absurd hgp.symm hne
theorem tokA_step {A : List Fnd} {m : Int → Option TopT} (f : Fnd) (h : tokA A m) : tokA (A ++ [f]) (topStep m f) := by
 unfold topStep
 cases hm : m f.pl with
 | none =>
   rw [if_pos (by simp)]
   exact tokA_upd h fun g hg hp => absurd hp (h.1 _ hm g hg)
 | some t =>
   obtain ⟨h1, h2, h3⟩ := h.2 _ t hm
   have e1 : ((some t : Option TopT).getD noT) = t := rfl
   rw [e1]
   by_cases hb : betT t f = true
   · rw [if_pos (by simp [hb])]
     refine tokA_upd h fun g hg hp => ?_
     obtain ⟨h4, h5⟩ := h3 g hg hp
     unfold betT at hb
     simp only [Bool.or_eq_true, Bool.and_eq_true, decide_eq_true_eq, beq_iff_eq] at hb
     rcases hb with hb | ⟨hb, hb2⟩
     · exact ⟨by omega, fun e => by omega⟩
     · exact ⟨by omega, fun e => by have := h5 (by omega); omega⟩
   · rw [if_neg (by simp [hb])]
     unfold betT at hb
     simp only [Bool.or_eq_true, Bool.and_eq_true, decide_eq_true_eq, beq_iff_eq, not_or, not_and] at hb
     refine ⟨fun p hp g hg => ?_, fun p u hp => ?_⟩
     · rcases List.mem_append.1 hg with h5 | h5
       · exact h.1 p hp g h5
       · obtain rfl := List.mem_singleton.1 h5
         intro e
         rw [e, hp] at hm
         cases hm
     · obtain ⟨q1, ⟨f1, q2, q3⟩, q4⟩ := h.2 p u hp
       refine ⟨q1, ⟨f1, by simp [q2], q3⟩, fun g hg hgp => ?_⟩
       rcases List.mem_append.1 hg with h5 | h5
       · exact q4 g h5 hgp
       · obtain rfl := List.mem_singleton.1 h5
         rw [hgp, hp] at hm
         injection hm with hm
         subst hm
         exact ⟨by omega, fun e => by have := hb.2 e; omega⟩
theorem tokA_fold : ∀ (A A1 : List Fnd) (m : Int → Option TopT), tokA A1 m → tokA (A1 ++ A) (A.foldl topStep m)
 | [], A1, m, h => by simpa using h
 | f :: A, A1, m, h => by
   have := tokA_fold A (A1 ++ [f]) (topStep m f) (tokA_step f h)
   simpa using this
theorem topsF_ok (A : List Fnd) : tokA A (topsF A) := by
 have := tokA_fold A [] (fun _ => none) ⟨fun p _ g hg => (by cases hg), fun p t h => (by cases h)⟩
 exact this
def heldP (m : Int → Option TopT) (b : Int) (f : Fnd) : Bool := (f.bk == b) && (f.sq == ((m f.pl).getD noT).1)
def heldF (A : List Fnd) (m : Int → Option TopT) (b : Int) : List Int := (A.filter (heldP m b)).map (·.pl)
theorem heldF_mem {A : List Fnd} {m : Int → Option TopT} {b p : Int} : p ∈ heldF A m b ↔ ∃ f ∈ A, f.bk = b ∧ f.sq = ((m f.pl).getD noT).1 ∧ f.pl = p := by
 unfold heldF heldP
 simp only [List.mem_map, List.mem_filter, Bool.and_eq_true, beq_iff_eq]
 constructor
 · rintro ⟨f, ⟨h1, h2, h3⟩, h4⟩
   exact ⟨f, h1, h2, h3, h4⟩
 · rintro ⟨f, h1, h2, h3, h4⟩
   exact ⟨f, ⟨h1, h2, h3⟩, h4⟩
def keepsP (m : Int → Option TopT) (b p : Int) : Bool := (((m p).getD noT).2.1 == b) && !((m p).getD noT).2.2
def markOne (m : Int → Option TopT) (p : Int) : Int → Option TopT := updX m p (((m p).getD noT).1, ((m p).getD noT).2.1, true)
def markAll (m : Int → Option TopT) (ps : List Int) : Int → Option TopT := ps.foldl markOne m
theorem markAll_snoc (m : Int → Option TopT) (ps : List Int) (p : Int) : markAll m (ps ++ [p]) = markOne (markAll m ps) p := by unfold markAll; rw [List.foldl_append]; rfl
def lvStep (A : List Fnd) (m0 : Int → Option TopT) (st : List Int × (Int → Option TopT)) (b : Int) : List Int × (Int → Option TopT) :=
 if (heldF A m0 b).any (keepsP st.2 b) then (st.1, markAll st.2 (heldF A m0 b)) else (st.1 ++ [b], st.2)
def lvN (A : List Fnd) (row : List Int) : List Int × (Int → Option TopT) := row.foldl (lvStep A (topsF A)) ([], topsF A)
theorem lvN_snoc (A : List Fnd) (row : List Int) (b : Int) : lvN A (row ++ [b]) = lvStep A (topsF A) (lvN A row) b := by unfold lvN; rw [List.foldl_append]; rfl
theorem markAll_at : ∀ (ps : List Int) (m : Int → Option TopT) (p : Int), (∀ q ∈ ps, (m q).isSome = true) →
   markAll m ps p = if p ∈ ps then some (((m p).getD noT).1, ((m p).getD noT).2.1, true) else m p
 | [], m, p, _ => by simp [markAll]
 | q :: ps, m, p, h => by
   have h1 : markAll m (q :: ps) p = markAll (markOne m q) ps p := rfl
   have hs : ∀ x ∈ ps, (markOne m q x).isSome = true := fun x hx => by
     unfold markOne updX
     split
     · rfl
     · exact h x (by simp [hx])
   rw [h1, markAll_at ps _ p hs]
   have hq : ((markOne m q p).getD noT).1 = ((m p).getD noT).1 ∧ ((markOne m q p).getD noT).2.1 = ((m p).getD noT).2.1 := by
     unfold markOne updX
     split
     · rename_i e; subst e; exact ⟨rfl, rfl⟩
     · exact ⟨rfl, rfl⟩
   by_cases hp : p ∈ ps
   · rw [if_pos hp, if_pos (by simp [hp]), hq.1, hq.2]
   · rw [if_neg hp]
     by_cases e : p = q
     · subst e
       rw [if_pos (by simp)]
       unfold markOne updX
       rw [if_pos rfl]
     · rw [if_neg (by simp [e, hp])]
       unfold markOne updX
       rw [if_neg e]
def goStepA (A : List Fnd) (out : List Int) (b : Int) : List Int := if mayG A A out b then out ++ [b] else out
structure LvI (A : List Fnd) (done : List Int) (st : List Int × (Int → Option TopT)) : Prop where
 out : st.1 = done.foldl (goStepA A) []
 sub : ∀ x ∈ st.1, x ∈ done
 nil_ : ∀ p, topsF A p = none → st.2 p = none
 one_ : ∀ p t, topsF A p = some t → ∃ k : Bool, st.2 p = some (t.1, t.2.1, k) ∧ (k = true ↔ ∃ g ∈ A, g.pl = p ∧ g.sq = t.1 ∧ g.bk ∈ done ∧ g.bk ∉ st.1)
 stays : ∀ p t, topsF A p = some t → ∃ g ∈ A, g.pl = p ∧ g.sq = t.1 ∧ g.bk ∉ st.1
theorem LvI.start (A : List Fnd) : LvI A [] ([], topsF A) := by
 refine ⟨rfl, fun x h => h, fun p h => h, fun p t h => ⟨false, ?_, by simp⟩, fun p t h => ?_⟩
 · obtain ⟨h1, _⟩ := (topsF_ok A).2 p t h
   show topsF A p = _
   rw [h, ← h1]
 · obtain ⟨_, ⟨f, h2, h3, h4, _⟩, _⟩ := (topsF_ok A).2 p t h
   exact ⟨f, h2, h3, h4, by simp⟩
theorem held_iff {A : List Fnd} {b p : Int} {t : TopT} (ht : topsF A p = some t) : p ∈ heldF A (topsF A) b ↔ ∃ g ∈ A, g.pl = p ∧ g.sq = t.1 ∧ g.bk = b := by
 rw [heldF_mem]
 constructor
 · rintro ⟨f, h1, h2, h3, h4⟩
   rw [h4, ht] at h3
   exact ⟨f, h1, h4, h3, h2⟩
 · rintro ⟨f, h1, h2, h3, h4⟩
   exact ⟨f, h1, h4, by rw [h2, ht]; exact h3, h2⟩
theorem LvI.asks {A : List Fnd} {done : List Int} {st : List Int × (Int → Option TopT)} (h : LvI A done st) {b : Int} (hlt : ∀ x ∈ done, x < b) (hall : ∀ g ∈ A, g.bk < b → g.bk ∈ done) :
   (heldF A (topsF A) b).any (keepsP st.2 b) = !mayG A A st.1 b := by
 have hT := topsF_ok A
 rw [Bool.eq_iff_iff]
 constructor
 · intro hk
   obtain ⟨p, hp, hkp⟩ := List.any_eq_true.1 hk
   rw [Bool.not_eq_true', Bool.eq_false_iff]
   intro hmay
   obtain ⟨f, f1, f2, f3, f4⟩ := heldF_mem.1 hp
   cases ht : topsF A p with
   | none => exact absurd f4 (hT.1 p ht f f1)
   | some t =>
     rw [f4, ht] at f3
     obtain ⟨k, hk1, hk2⟩ := h.one_ p t ht
     unfold keepsP at hkp
     rw [hk1] at hkp
     simp at hkp
     have hm := List.all_eq_true.1 hmay f f1
     unfold mayP at hm
     rw [f2] at hm
     simp only [bne_self_eq_false, Bool.false_or] at hm
     obtain ⟨g, g1, g2⟩ := List.any_eq_true.1 hm
     unfold othP at g2
     simp only [Bool.and_eq_true, bne_iff_ne, Bool.not_eq_true', beq_iff_eq, decide_eq_true_eq] at g2
     obtain ⟨g3, g4, g5, g6⟩ := g2
     obtain ⟨_, _, hT2⟩ := hT.2 p t ht
     have f3' : f.sq = t.1 := f3
     obtain ⟨q1, q2⟩ := hT2 g g1 (g5.trans f4)
     have q3 : g.sq = t.1 := by omega
     have q4 := q2 q3
     have hin : g.bk ∈ done := hall g g1 (by omega)
     have : k = true := hk2.2 ⟨g, g1, g5.trans f4, q3, hin, fun hc => by rw [Bool.eq_false_iff] at g4; exact g4 (List.contains_iff_mem.2 hc)⟩
     rw [this] at hkp
     simp at hkp
 · intro hm
   rw [Bool.not_eq_true', Bool.eq_false_iff] at hm
   have : ∃ f ∈ A, mayP A st.1 b f = false := by
     apply Classical.byContradiction
     intro hn
     refine hm (List.all_eq_true.2 fun f hf => ?_)
     cases hx : mayP A st.1 b f
     · exact absurd ⟨f, hf, hx⟩ hn
     · rfl
   obtain ⟨f, f1, f2⟩ := this
   unfold mayP at f2
   rw [Bool.or_eq_false_iff] at f2
   obtain ⟨f3, f4⟩ := f2
   have hfb : f.bk = b := by simpa using f3
   have hno : ∀ g ∈ A, g.bk ≠ b → g.bk ∉ st.1 → g.pl = f.pl → ¬ f.sq ≤ g.sq := fun g hg h1 h2 h3 h4 => by
     have h5 : othP st.1 b f g = false := by
       cases hx : othP st.1 b f g
       · rfl
       · exact absurd (List.any_eq_true.2 ⟨g, hg, hx⟩) (by unfold othB at f4; rw [f4]; decide)
     have h6 : othP st.1 b f g = true := by
       unfold othP
       simp only [Bool.and_eq_true, bne_iff_ne, Bool.not_eq_true', beq_iff_eq, decide_eq_true_eq]
       refine ⟨h1, ?_, h3, h4⟩
       rw [Bool.eq_false_iff]
       exact fun hc => h2 (List.contains_iff_mem.1 hc)
     rw [h5] at h6
     cases h6
   cases ht : topsF A f.pl with
   | none => exact absurd rfl (hT.1 _ ht f f1)
   | some t =>
     obtain ⟨_, ⟨l, l1, l2, l3, l4⟩, hT2⟩ := hT.2 _ t ht
     have hft := (hT2 f f1 rfl).1
     obtain ⟨g0, g1, g2, g3, g4⟩ := h.stays _ t ht
     have hg0 : g0.bk = b := by
       apply Classical.byContradiction
       intro hne
       exact hno g0 g1 hne g4 g2 (by omega)
     have hheld : f.pl ∈ heldF A (topsF A) b := (held_iff ht).2 ⟨g0, g1, g2, g3, hg0⟩
     obtain ⟨k, hk1, hk2⟩ := h.one_ _ t ht
     have hlast : t.2.1 = b := by
       apply Classical.byContradiction
       intro hne
       have q1 := (hT2 g0 g1 g2).2 g3
       refine hno l l1 (by omega) (fun hc => ?_) l2 (by omega)
       have := hlt _ (h.sub _ hc)
       omega
     have hkf : k = false := by
       cases k
       · rfl
       · exfalso
         obtain ⟨g, q1, q2, q3, q4, q5⟩ := hk2.1 rfl
         have := hlt _ q4
         exact hno g q1 (by omega) q5 q2 (by omega)
     refine List.any_eq_true.2 ⟨_, hheld, ?_⟩
     unfold keepsP
     rw [hk1, hkf]
     simp [hlast]
theorem LvI.next {A : List Fnd} {done : List Int} {st : List Int × (Int → Option TopT)} (h : LvI A done st) {b : Int} (hlt : ∀ x ∈ done, x < b) (hall : ∀ g ∈ A, g.bk < b → g.bk ∈ done) :
   LvI A (done ++ [b]) (lvStep A (topsF A) st b) := by
 have hk := h.asks hlt hall
 have hT := topsF_ok A
 have hfold : (done ++ [b]).foldl (goStepA A) [] = goStepA A st.1 b := by rw [List.foldl_append, h.out]; rfl
 unfold lvStep
 rw [hk]
 cases hm : mayG A A st.1 b
 · rw [if_pos (by decide)]
   have hbo : b ∉ st.1 := fun hc => by have := hlt _ (h.sub _ hc); omega
   have hsm : ∀ q ∈ heldF A (topsF A) b, (st.2 q).isSome = true := fun q hq => by
     obtain ⟨f, f1, _, _, f4⟩ := heldF_mem.1 hq
     cases ht : topsF A q with
     | none => exact absurd f4 (hT.1 q ht f f1)
     | some t => obtain ⟨k, hk1, _⟩ := h.one_ q t ht; rw [hk1]; rfl
   refine ⟨?_, fun x hx => ?_, fun p hp => ?_, fun p t hp => ?_, h.stays⟩
   · show st.1 = _
     rw [hfold]
     unfold goStepA
     rw [hm]
     rfl
   · exact List.mem_append.2 (.inl (h.sub x hx))
   · show markAll st.2 _ p = none
     rw [markAll_at _ _ _ hsm, if_neg]
     · exact h.nil_ p hp
     · intro hc
       have := hsm p hc
       rw [h.nil_ p hp] at this
       cases this
   · obtain ⟨k, hk1, hk2⟩ := h.one_ p t hp
     show ∃ k, markAll st.2 _ p = _ ∧ _
     rw [markAll_at _ _ _ hsm, hk1]
     by_cases hh : p ∈ heldF A (topsF A) b
     · rw [if_pos hh]
       refine ⟨true, rfl, fun _ => ?_, fun _ => rfl⟩
       obtain ⟨g, q1, q2, q3, q4⟩ := (held_iff hp).1 hh
       exact ⟨g, q1, q2, q3, by rw [q4]; simp, by rw [q4]; exact hbo⟩
     · rw [if_neg hh]
       refine ⟨k, rfl, ?_⟩
       rw [hk2]
       constructor
       · rintro ⟨g, q1, q2, q3, q4, q5⟩
         exact ⟨g, q1, q2, q3, List.mem_append.2 (.inl q4), q5⟩
       · rintro ⟨g, q1, q2, q3, q4, q5⟩
         rcases List.mem_append.1 q4 with q6 | q6
         · exact ⟨g, q1, q2, q3, q6, q5⟩
         · exact absurd ((held_iff hp).2 ⟨g, q1, q2, q3, List.mem_singleton.1 q6⟩) hh
 · rw [if_neg (by decide)]
   refine ⟨?_, fun x hx => ?_, h.nil_, fun p t hp => ?_, fun p t hp => ?_⟩
   · show st.1 ++ [b] = _
     rw [hfold]
     unfold goStepA
     rw [hm]
     rfl
   · rcases List.mem_append.1 hx with h1 | h1
     · exact List.mem_append.2 (.inl (h.sub x h1))
     · exact List.mem_append.2 (.inr h1)
   · obtain ⟨k, hk1, hk2⟩ := h.one_ p t hp
     refine ⟨k, hk1, ?_⟩
     rw [hk2]
     constructor
     · rintro ⟨g, q1, q2, q3, q4, q5⟩
       refine ⟨g, q1, q2, q3, List.mem_append.2 (.inl q4), fun hc => ?_⟩
       rcases List.mem_append.1 hc with h1 | h1
       · exact q5 h1
       · have := hlt _ q4
         have := List.mem_singleton.1 h1
         omega
     · rintro ⟨g, q1, q2, q3, q4, q5⟩
       rcases List.mem_append.1 q4 with q6 | q6
       · exact ⟨g, q1, q2, q3, q6, fun hc => q5 (List.mem_append.2 (.inl hc))⟩
       · exact absurd (List.mem_append.2 (.inr q6)) q5
   · obtain ⟨g0, g1, g2, g3, g4⟩ := h.stays p t hp
     by_cases hb : g0.bk = b
     · have hm2 := List.all_eq_true.1 hm g0 g1
       unfold mayP at hm2
       rw [hb] at hm2
       simp only [bne_self_eq_false, Bool.false_or] at hm2
       obtain ⟨g, q1, q2⟩ := List.any_eq_true.1 hm2
       unfold othP at q2
       simp only [Bool.and_eq_true, bne_iff_ne, Bool.not_eq_true', beq_iff_eq, decide_eq_true_eq] at q2
       obtain ⟨q3, q4, q5, q6⟩ := q2
       obtain ⟨_, _, hT2⟩ := hT.2 p t hp
       have q7 := (hT2 g q1 (q5.trans g2)).1
       refine ⟨g, q1, q5.trans g2, by omega, fun hc => ?_⟩
       rcases List.mem_append.1 hc with h1 | h1
       · rw [Bool.eq_false_iff] at q4
         exact q4 (List.contains_iff_mem.2 h1)
       · exact q3 (List.mem_singleton.1 h1)
     · refine ⟨g0, g1, g2, g3, fun hc => ?_⟩
       rcases List.mem_append.1 hc with h1 | h1
       · exact g4 h1
       · exact hb (List.mem_singleton.1 h1)
theorem List.reverseRecOn' {α : Type} {motive : List α → Prop} (l : List α) (nil : motive []) (snoc : ∀ d b, motive d → motive (d ++ [b])) : motive l := by
 have h : ∀ n (l : List α), l.length = n → motive l := by
   intro n
   induction n with
   | zero => intro l hl; rw [List.eq_nil_of_length_eq_zero hl]; exact nil
   | succ n ih =>
     intro l hl
     have hne : l ≠ [] := fun e => by rw [e] at hl; simp at hl
     rw [← List.dropLast_concat_getLast hne]
     exact snoc _ _ (ih _ (by simp [hl]))
 exact h _ l rfl
theorem lvN_is (A : List Fnd) (row : List Int) (hs : row.Pairwise (· < ·)) (hA : ∀ g ∈ A, g.bk ∈ row) : ∀ (done rest : List Int), row = done ++ rest → LvI A done (lvN A done) := by
 intro done
 refine List.reverseRecOn' (motive := fun done => ∀ rest, row = done ++ rest → LvI A done (lvN A done)) done ?_ ?_
 · exact fun _ _ => LvI.start A
 · intro d b ih rest h
   rw [lvN_snoc]
   have h1 : row = d ++ (b :: rest) := by rw [h]; simp
   rw [h1] at hs
   have h2 := List.pairwise_append.1 hs
   refine (ih _ h1).next (fun x hx => h2.2.2 x hx b (by simp)) (fun g hg hlt => ?_)
   have h3 := hA g hg
   rw [h1] at h3
   rcases List.mem_append.1 h3 with h4 | h4
   · exact h4
   · exfalso
     rcases List.mem_cons.1 h4 with h5 | h5
     · omega
     · have := (List.pairwise_cons.1 h2.2.1).1 _ h5
       omega
theorem rise_filter : ∀ (row : List Int), row.Pairwise (· < ·) → ∀ k : Int, row.filter (fun x => decide (x < k + 1)) = row.filter (fun x => decide (x < k)) ++ (if k ∈ row then [k] else [])
 | [], _, k => by simp
 | x :: r, h, k => by
   obtain ⟨h1, h2⟩ := List.pairwise_cons.1 h
   have ih := rise_filter r h2 k
   by_cases hx : x < k
   · have e1 : decide (x < k + 1) = true := decide_eq_true (by omega)
     have e2 : decide (x < k) = true := decide_eq_true hx
     have e3 : (k ∈ x :: r) ↔ k ∈ r := by rw [List.mem_cons]; exact ⟨fun h => h.resolve_left (by omega), .inr⟩
     rw [List.filter_cons, List.filter_cons, e1, e2, if_pos rfl, if_pos rfl, ih]
     simp only [e3, List.cons_append]
   · have hf : r.filter (fun x => decide (x < k)) = [] := by
       rw [List.filter_eq_nil_iff]
       intro y hy
       have := h1 y hy
       simp; omega
     have e2 : decide (x < k) = false := decide_eq_false hx
     by_cases hxk : x = k
     · subst hxk
       have hf2 : r.filter (fun y => decide (y < x + 1)) = [] := by
         rw [List.filter_eq_nil_iff]
         intro y hy
         have := h1 y hy
         simp; omega
       rw [List.filter_cons, List.filter_cons, e2, if_pos (decide_eq_true (by omega)), hf2, hf]
       simp
     · have hf2 : r.filter (fun y => decide (y < k + 1)) = [] := by
         rw [List.filter_eq_nil_iff]
         intro y hy
         have := h1 y hy
         simp; omega
       have e1 : decide (x < k + 1) = false := decide_eq_false (by omega)
       have e4 : k ∉ x :: r := by
         rw [List.mem_cons]
         rintro (h3 | h3)
         · exact hxk h3.symm
         · have := h1 _ h3; omega
       rw [List.filter_cons, List.filter_cons, e1, e2, hf, hf2, if_neg e4]
       simp
theorem goN_row (L A : List Fnd) (row : List Int) (hs : row.Pairwise (· < ·)) (h0 : ∀ x ∈ row, 0 ≤ x) : ∀ k : Nat, (∀ j : Nat, j < k → ((j : Int) ∈ row ↔ someB L j = true)) → goN L A k = (row.filter (fun x => decide (x < (k : Int)))).foldl (goStepA A) []
 | 0, _ => by
   have : row.filter (fun x => decide (x < ((0 : Nat) : Int))) = [] := by
     rw [List.filter_eq_nil_iff]
     intro y hy
     have := h0 y hy
     simp; omega
   rw [this]
   rfl
 | k + 1, hj => by
   have ih := goN_row L A row hs h0 k (fun j h => hj j (by omega))
   show goStep L A (goN L A k) k = _
   rw [show ((k + 1 : Nat) : Int) = (k : Int) + 1 by omega, rise_filter row hs k, List.foldl_append, ← ih]
   unfold goStep
   have h1 := hj k (by omega)
   by_cases hk : (k : Int) ∈ row
   · rw [if_pos hk, h1.1 hk, Bool.true_and]
     rfl
   · have h2 : someB L k = false := by
       rw [Bool.eq_false_iff]
       exact fun h => hk (h1.2 h)
     rw [if_neg hk, h2]
     rfl
theorem leaves_is (L A : List Fnd) (B : Int) (row : List Int) (hs : row.Pairwise (· < ·)) (hrow : ∀ x, x ∈ row ↔ 0 ≤ x ∧ x < B ∧ someB L x = true) (hA : ∀ g ∈ A, g.bk ∈ row) : (lvN A row).1 = goN L A B.toNat := by
 rw [(lvN_is A row hs hA row [] (List.append_nil row).symm).out, goN_row L A row hs (fun x hx => ((hrow x).1 hx).1) B.toNat (fun j hj => by rw [hrow]; exact ⟨fun h => h.2.2, fun h => ⟨by omega, by omega, h⟩⟩)]
 congr 1
 symm
 rw [List.filter_eq_self]
 intro x hx
 have := (hrow x).1 hx
 simp; omega
end Go.Proofs.YtdnpdoipipfkoaaGreatDoor

namespace Go.Proofs.YtdnpdoipipfkoaaGreatDoor
set_option linter.unusedVariables false
set_option linter.unusedSimpArgs false
set_option linter.unusedVariables false
set_option linter.unusedSimpArgs false
set_option maxRecDepth 100000
open Go.RowKit
abbrev OwnF (B : Nat) (w : World) (v : Value) (L : List Fnd) : Prop := w.ownsRow B 108 10 v L.length (fndsL L)
theorem filter_snoc17 (p : Fnd → Bool) (L : List Fnd) (f : Fnd) : (L ++ [f]).filter p = if p f then L.filter p ++ [f] else L.filter p := by
 rw [List.filter_append, List.filter_cons]
 split <;> simp
structure ThoS (w0 wr : World) (lv : Value) (L : List Fnd) (p : Fnd → Bool) (k : Nat) (v : Value) : Prop where
 l : RowF wr lv L
 own : wr.ownsRow w0.heap.size 108 10 v ((L.take k).filter p).length (fndsL ((L.take k).filter p))
 ext : w0.grownBy wr none
set_option maxHeartbeats 1600000 in
theorem those17_any (g : Nat) (eg : ∀ args w, (callFunc g args).run Tryz.prog w = .ok (.enter g args) w) (caps : Array Value) (p : Fnd → Bool) (lv : Value) (L : List Fnd) (w : World) (h : RowF w lv L) (hlb : ∀ k, lv.ownBlock = some k → k < w.heap.size) (hl : L.length ≤ 1000)
   (HP : ∀ f ∈ L, ∀ wx, w.grownBy wx none → Calls Tryz.prog g (#[.agg (fndC f)] ++ caps) wx fun e w' => e = .returned (.bool (p f)) ∧ wx.grownBy w' none) :
   Calls Tryz.prog 81 #[lv, .func (.func g) #[] caps] w fun e w' => (∃ v, e = .returned v ∧ OwnF w.heap.size w' v (L.filter p)) ∧ w.grownBy w' none := by
 have HS := Lib.hid (show ThoS w w lv L p 0 (.slice none 0 0) from ⟨h, ⟨by simp [fndsL], .inl ⟨rfl, rfl⟩⟩, Ext.refl w⟩)
 obtain ⟨ao, cap, hv, _⟩ := h
 obtain ⟨n, hn⟩ : ∃ n, L.length = n := ⟨_, rfl⟩
 rw [hn] at hv hl
 subst hv
 have HN := Lib.hid (And.intro hn hlb)
 have HPH := Lib.hid HP
 clear hn hlb HP
 go_enter Tryz.func81, Tryz.ntmps81
 go_wp2
 go_loopw [5, 10] (fun s i wr => ∃ (k : Nat) (v : Value), k ≤ n ∧ i = .int .i64 k ∧ s = v ∧ ThoS w wr (.slice ao n cap) L p k v) (fun _ i _ => n - (intOf i).toNat)
 case atStart => exact ⟨0, _, by omega, rfl, rfl, HS.out⟩
 case round =>
   clear HS
   obtain ⟨k, v, hk, rfl, rfl, hS⟩ := hrel
   obtain ⟨wo, rfl⟩ : ∃ wo : World, wo = wr := ⟨_, rfl⟩
   have HS := Lib.hid hS
   obtain ⟨ro, rc, hro⟩ := owns_slice17 hS.own
   obtain ⟨rn, hrn⟩ : ∃ z, ((L.take k).filter p).length = z := ⟨_, rfl⟩
   rw [hrn] at hro
   subst hro
   have hrn2 : rn ≤ 1000000 := by
     have h1 : ((L.take k).filter p).length ≤ (L.take k).length := List.length_filter_le _ _
     rw [List.length_take] at h1
     omega
   clear hS
   by_cases hlt : k < n
   · obtain ⟨f, hf⟩ : ∃ f, L.getD k noF = f := ⟨_, rfl⟩
     obtain ⟨ao2, cap2, hv2, hc2⟩ := HS.out.l
     obtain ⟨b, off, hao, hr⟩ := hc2 k (by rw [HN.out.1]; exact hlt)
     simp only [Value.slice.injEq] at hv2
     obtain ⟨rfl, -, -⟩ := hv2
     subst hao
     rw [hf] at hr
     have HF := Lib.hid (take17 (by rw [HN.out.1]; exact hlt) hf)
     have HPf := HPH.out f (getD_mem17 (by rw [HN.out.1]; exact hlt) hf)
     have hBn := Blk.new wo 108 (fndC noF)
     clear hf hc2
     go_upto_region 5 with (first
       | (refine fnd_load rfl _ rfl rfl hr ?_)
       | (refine fnd_store _ _ rfl rfl rfl hBn rfl rfl ?_; intro w2 hb2 hg2 hs2; have hE2 := g17_new (World.grownBy_alloc wo _ none) hg2 (Nat.le_refl _); have HE2 := Lib.hid hE2; have HC2 := Lib.hid hb2; clear hBn hg2 hs2 hE2 hb2))
     clear hr
     have hE2w : w.grownBy w2 none := ext_trans HS.out.ext HE2.out
     have HPw := HPf w2 hE2w
     clear hE2w HPf
     have hb2 := HC2.out
     obtain ⟨z, hz⟩ : ∃ z, p f = z := ⟨_, rfl⟩
     rw [hz] at HPw
     have HZ := Lib.hid hz
     clear hz
     cases z
     · go_wp2_with (first
         | (refine fnd_load rfl _ rfl rfl hb2.range17 ?_)
         | (go_at_fn g; refine HPw.mono ?_; rintro e w3 ⟨rfl, hE3⟩; have HE3 := Lib.hid (ext_trans HE2.out hE3); clear hE3))
       go_roundw
       case rel =>
         refine ⟨k + 1, _, by omega, by go_num, rfl, ⟨HS.out.l.ext HE3.out, ?_, ext_trans HS.out.ext HE3.out⟩⟩
         rw [HF.out, filter_snoc17, HZ.out]
         exact HS.out.own.kept HE3.out (Classical.em _)
       case measure => simp [intOf]; omega
     · go_upto_region 6 with (first
         | (refine fnd_load rfl _ rfl rfl hb2.range17 ?_)
         | (go_at_fn g; refine HPw.mono ?_; rintro e w3 ⟨rfl, hE3⟩; have HC3 := Lib.hid (HC2.out.ext hE3); have HE3 := Lib.hid (ext_trans HE2.out hE3); clear hE3))
       clear hb2
       have hown := (HS.out.own.kept HE3.out (Classical.em _)).alloc (.cells #[.int .i64 f.bk, .int .i64 f.pg, .bool f.torn, .int .i64 f.te, .int .i64 f.ep, .int .i64 f.pl, .int .i64 f.sq, .int .i64 f.kd, .bool f.cp, .string f.dt] 108)
       rw [hrn] at hown
       have hb3 := HC3.out
       go_wp2_with (first
         | (refine fnd_load_lit rfl _ rfl rfl hb3.range17 ?_)
         | (at_builtin; go_loud (refine append_fnd rfl _ _ rfl w.heap.size (.slice ro rn rc) ((L.take k).filter p) rn hrn rfl hown ⟨w3.heap.size, 0, none⟩ 1 f rfl (fnd_new w3 f _) hrn2 (by have := HS.out.ext.size; have := HE3.out.size; simp; omega) ?_; intro v' w4 hrow' hg'; have hE4 := Lib.hid (own_alloc17 HE3.out hg'); obtain ⟨ao4, cap4, hv4⟩ := owns_slice17 hrow'; subst hv4)))
       go_roundw
       case rel =>
         refine ⟨k + 1, _, by omega, by go_num, rfl, ⟨?_, ?_, ?_⟩⟩
         · exact HS.out.l.kept hE4.out (fun q hq e => by have := (HS.out.own.lt q e.symm).1; have := HN.out.2 q hq; omega)
         · rw [HF.out, filter_snoc17, HZ.out, if_pos rfl, List.length_append, hrn]
           exact hrow'
         · exact own_ext17 HS.out.own HS.out.ext hE4.out (Nat.le_refl _)
       case measure => simp [intOf]; omega
   · obtain rfl : k = n := by omega
     go_wp2
     go_ret
     refine ⟨⟨_, rfl, ?_⟩, HS.out.ext⟩
     have := HS.out.own
     rw [List.take_of_length_le (by rw [HN.out.1]; exact Nat.le_refl _)] at this
     exact this
def witB (B : Int) (f : Fnd) : Bool := decide (0 ≤ f.bk) && decide (f.bk < B)
theorem within1_any (B : Int) (g : Nat) (f : Fnd) (w : World) (hg : w.cell? ⟨g, 0, none⟩ = some (.int .i64 B)) :
   Calls Tryz.prog 114 #[.agg (fndC f), .pointer (some ⟨g, 0, none⟩)] w fun e w' => e = .returned (.bool (witB B f)) ∧ w.grownBy w' none := by
 have HE := Lib.hid (World.grownBy_alloc w (.cells (fndC f) 108) none)
 have c0 := (FCells.of (Blk.new w 108 (fndC f))).bk
 have hg := HE.out.cell hg (by simp)
 obtain ⟨x, hx⟩ : ∃ x, f.bk = x := ⟨_, rfl⟩
 rw [hx] at c0
 obtain ⟨z1, h1⟩ : ∃ z, decide (0 ≤ x) = z := ⟨_, rfl⟩
 obtain ⟨z2, h2⟩ : ∃ z, decide (x < B) = z := ⟨_, rfl⟩
 have HW := Lib.hid (show witB B f = (z1 && z2) by unfold witB; rw [hx, h1, h2])
 obtain ⟨y, hy⟩ : ∃ y, witB B f = y := ⟨_, rfl⟩
 rw [hy] at HW ⊢
 clear hx hy
 cases z1
 · clear h2
   go_enter Tryz.func114, Tryz.ntmps114
   go_wp2
   go_ret
   exact ⟨by rw [HW.out]; rfl, HE.out⟩
 · cases z2
   · go_enter Tryz.func114, Tryz.ntmps114
     go_wp2
     go_ret
     exact ⟨by rw [HW.out]; rfl, HE.out⟩
   · go_enter Tryz.func114, Tryz.ntmps114
     go_wp2
     go_ret
     exact ⟨by rw [HW.out]; rfl, HE.out⟩
theorem scanMine17_any (f : Fnd) (tn ep : Int) (w : World) : Calls Tryz.prog 116 #[.agg (fndC f), .int .i64 tn, .int .i64 ep] w fun e w' => e = .returned (.bool (mineF tn ep f)) ∧ w.grownBy w' none := by
 have HE := Lib.hid (World.grownBy_alloc w (.cells (fndC f) 108) none)
 have hc := FCells.of (Blk.new w 108 (fndC f))
 have c2 := hc.torn
 have c3 := hc.te
 have c4 := hc.ep
 clear hc
 obtain ⟨b, hb⟩ : ∃ z, f.torn = z := ⟨_, rfl⟩
 obtain ⟨x, hx⟩ : ∃ z, f.te = z := ⟨_, rfl⟩
 obtain ⟨y, hy⟩ : ∃ z, f.ep = z := ⟨_, rfl⟩
 rw [hb] at c2
 rw [hx] at c3
 rw [hy] at c4
 obtain ⟨z1, h1⟩ : ∃ z, (x == tn) = z := ⟨_, rfl⟩
 obtain ⟨z2, h2⟩ : ∃ z, (y == ep) = z := ⟨_, rfl⟩
 have HW := Lib.hid (show mineF tn ep f = (!b && (z1 && z2)) by unfold mineF; rw [hb, hx, hy, h1, h2])
 obtain ⟨m, hm⟩ : ∃ m, mineF tn ep f = m := ⟨_, rfl⟩
 rw [hm] at HW ⊢
 clear hb hx hy hm
 cases b
 · cases z1
   · clear h2
     go_enter Tryz.func116, Tryz.ntmps116
     go_wp2
     go_ret
     exact ⟨by rw [HW.out]; rfl, HE.out⟩
   · cases z2
     · go_enter Tryz.func116, Tryz.ntmps116
       go_wp2
       go_ret
       exact ⟨by rw [HW.out]; rfl, HE.out⟩
     · go_enter Tryz.func116, Tryz.ntmps116
       go_wp2
       go_ret
       exact ⟨by rw [HW.out]; rfl, HE.out⟩
 · clear h1 h2
   go_enter Tryz.func116, Tryz.ntmps116
   go_wp2
   go_ret
   exact ⟨by rw [HW.out]; rfl, HE.out⟩
theorem owned1_any (tn ep : Int) (g h : Nat) (f : Fnd) (w : World) (hg : w.cell? ⟨g, 0, none⟩ = some (.int .i64 tn)) (hh : w.cell? ⟨h, 0, none⟩ = some (.int .i64 ep)) :
   Calls Tryz.prog 115 #[.agg (fndC f), .pointer (some ⟨g, 0, none⟩), .pointer (some ⟨h, 0, none⟩)] w fun e w' => e = .returned (.bool (mineF tn ep f)) ∧ w.grownBy w' none := by
 have hE := World.grownBy_alloc w (.cells (fndC f) 108) none
 have hb := Blk.new w 108 (fndC f)
 have hg := hE.cell hg (by simp)
 have hh := hE.cell hh (by simp)
 have MINE := fun wx => scanMine17_any f tn ep wx
 obtain ⟨m, hm⟩ : ∃ m, mineF tn ep f = m := ⟨_, rfl⟩
 rw [hm] at MINE ⊢
 have HE := Lib.hid hE
 clear hm hE
 go_enter Tryz.func115, Tryz.ntmps115
 go_wp2_with (first
   | (refine fnd_load rfl _ rfl rfl hb.range17 ?_)
   | (go_at_call 116; refine (MINE _).mono ?_; rintro e w3 ⟨rfl, hE3⟩; have HE3 := Lib.hid (ext_trans HE.out hE3); clear hE3))
 go_ret
 exact ⟨rfl, HE3.out⟩
def belB (sz : Int) (f : Fnd) : Bool := decide (f.pl < sz)
theorem heal1_any (sz : Int) (g : Nat) (f : Fnd) (w : World) (hg : w.cell? ⟨g, 0, none⟩ = some (.int .i64 sz)) :
   Calls Tryz.prog 82 #[.agg (fndC f), .pointer (some ⟨g, 0, none⟩)] w fun e w' => e = .returned (.bool (belB sz f)) ∧ w.grownBy w' none := by
 have HE := Lib.hid (World.grownBy_alloc w (.cells (fndC f) 108) none)
 have c0 := (FCells.of (Blk.new w 108 (fndC f))).pl
 have hg := HE.out.cell hg (by simp)
 unfold belB
 obtain ⟨x, hx⟩ : ∃ x, f.pl = x := ⟨_, rfl⟩
 rw [hx] at c0 ⊢
 obtain ⟨z, hz⟩ : ∃ z, decide (x < sz) = z := ⟨_, rfl⟩
 rw [hz]
 clear hx
 go_enter Tryz.func82, Tryz.ntmps82
 go_wp2
 go_ret
 exact ⟨rfl, HE.out⟩
theorem Tryz.eg1 : ∀ args w, (callFunc 114 args).run Tryz.prog w = .ok (.enter 114 args) w := enters_of Tryz.func114 (by kernel_rfl) rfl
theorem Tryz.eg2 : ∀ args w, (callFunc 115 args).run Tryz.prog w = .ok (.enter 115 args) w := enters_of Tryz.func115 (by kernel_rfl) rfl
theorem Tryz.eg3 : ∀ args w, (callFunc 82 args).run Tryz.prog w = .ok (.enter 82 args) w := enters_of Tryz.func82 (by kernel_rfl) rfl
theorem Tryz.eg5 : ∀ args w, (callFunc 85 args).run Tryz.prog w = .ok (.enter 85 args) w := enters_of Tryz.func85 (by kernel_rfl) rfl
theorem box_int (w : World) (x : Int) : (w.alloc (.cells #[.int .i64 x] 3)).cell? ⟨w.heap.size, 0, none⟩ = some (.int .i64 x) := (Blk.new w 3 #[.int .i64 x]).cell 0
theorem within17_any (B : Int) (lv : Value) (L : List Fnd) (w : World) (h : RowF w lv L) (hlb : ∀ k, lv.ownBlock = some k → k < w.heap.size) (hl : L.length ≤ 1000) :
   Calls Tryz.prog 79 #[lv, .int .i64 B] w fun e w' => (∃ v, e = .returned v ∧ OwnF w.heap.size w' v (L.filter (witB B))) ∧ w.grownBy w' none := by
 have HE := Lib.hid (World.grownBy_alloc w (.cells #[.int .i64 B] 3) none)
 have hb := box_int w B
 have hs : (w.alloc (.cells #[.int .i64 B] 3)).heap.size = w.heap.size + 1 := by simp
 obtain ⟨w1, hw1⟩ : ∃ v, w.alloc (.cells #[.int .i64 B] 3) = v := ⟨_, rfl⟩
 rw [hw1] at HE hb hs
 have T := those17_any 114 Tryz.eg1 #[.pointer (some ⟨w.heap.size, 0, none⟩)] (witB B) lv L w1 (h.ext HE.out) (fun k hk => by have := hlb k hk; omega) hl (fun f _ wx hE => within1_any B _ f wx (hE.cell hb (by simp)))
 have HS := Lib.hid hs
 clear h hlb hb hs
 go_enter Tryz.func79, Tryz.ntmps79
 go_wp2_with (go_at_call 81; refine T.mono ?_; rintro e w3 ⟨⟨v, rfl, hv⟩, hE3⟩; have HV := Lib.hid hv; have HE3 := Lib.hid hE3; clear hv hE3)
 go_ret
 exact ⟨⟨_, rfl, owns_le17 HV.out (by have := HS.out; omega)⟩, ext_trans HE.out HE3.out⟩
theorem owned17_any (tn ep : Int) (lv : Value) (L : List Fnd) (w : World) (h : RowF w lv L) (hlb : ∀ k, lv.ownBlock = some k → k < w.heap.size) (hl : L.length ≤ 1000) :
   Calls Tryz.prog 80 #[lv, .int .i64 tn, .int .i64 ep] w fun e w' => (∃ v, e = .returned v ∧ OwnF w.heap.size w' v (L.filter (mineF tn ep))) ∧ w.grownBy w' none := by
 have hE := World.grownBy_alloc w (.cells #[.int .i64 tn] 3) none
 have hE2 := World.grownBy_alloc (w.alloc (.cells #[.int .i64 tn] 3)) (.cells #[.int .i64 ep] 3) none
 have hb := hE2.cell (box_int w tn) (by simp)
 have hb2 := box_int (w.alloc (.cells #[.int .i64 tn] 3)) ep
 rw [show (w.alloc (.cells #[.int .i64 tn] 3)).heap.size = w.heap.size + 1 by simp] at hb2
 have hs : ((w.alloc (.cells #[.int .i64 tn] 3)).alloc (.cells #[.int .i64 ep] 3)).heap.size = w.heap.size + 2 := by simp
 have HE := Lib.hid (ext_trans hE hE2)
 obtain ⟨w1, hw1⟩ : ∃ v, (w.alloc (.cells #[.int .i64 tn] 3)).alloc (.cells #[.int .i64 ep] 3) = v := ⟨_, rfl⟩
 rw [hw1] at HE hb hb2 hs
 have T := those17_any 115 Tryz.eg2 #[.pointer (some ⟨w.heap.size, 0, none⟩), .pointer (some ⟨w.heap.size + 1, 0, none⟩)] (mineF tn ep) lv L w1 (h.ext HE.out) (fun k hk => by have := hlb k hk; omega) hl (fun f _ wx hE => owned1_any tn ep _ _ f wx (hE.cell hb (by simp)) (hE.cell hb2 (by simp)))
 have HS := Lib.hid hs
 clear h hlb hb hb2 hs hE hE2
 go_enter Tryz.func80, Tryz.ntmps80
 go_wp2_with (go_at_call 81; refine T.mono ?_; rintro e w3 ⟨⟨v, rfl, hv⟩, hE3⟩; have HV := Lib.hid hv; have HE3 := Lib.hid hE3; clear hv hE3)
 go_ret
 exact ⟨⟨_, rfl, owns_le17 HV.out (by have := HS.out; omega)⟩, ext_trans HE.out HE3.out⟩
end Go.Proofs.YtdnpdoipipfkoaaGreatDoor

namespace Go.Proofs.YtdnpdoipipfkoaaGreatDoor
set_option linter.unusedVariables false
set_option linter.unusedSimpArgs false
set_option linter.unusedVariables false
set_option linter.unusedSimpArgs false
set_option maxRecDepth 100000
open Go.RowKit Go.Sort
theorem sort17_any (base : Nat) (v : Value) (xs : List Int) (w : World) (h : OwnI17 base w v xs) (hl : xs.length ≤ 1000) :
   Calls Tryz.prog 109 #[v] w fun e w' => e = .returned (.tuple #[]) ∧ OwnI17 base w' v (xs.mergeSort fun x y => decide (x ≤ y)) ∧ w.grownBy w' v.ownBlock := by
 rcases h.2 with ⟨rfl, h0⟩ | ⟨g, cap, cur, rfl, hb, hg, hn, hm, hs, ht⟩
 · obtain rfl := List.eq_nil_of_length_eq_zero h0
   refine (Tryz.slices_Sort_int_none none 0 w).mono ?_
   rintro e w' ⟨rfl, rfl⟩
   exact ⟨rfl, by simpa using h, gb_refl w' _⟩
 · have hH := holds_of_blockI hg (by simpa using ht)
   have hlen : (xs.mergeSort fun x y => decide (x ≤ y)).length = xs.length := List.length_mergeSort _
   refine (Tryz.slices_Sort_int g 0 cap xs w hH (Array.getElem?_eq_some_iff.1 hg).1 (by omega)).mono ?_
   rintro e w' ⟨rfl, n, os, rfl⟩
   refine ⟨rfl, ?_, grownBy_sortedI _⟩
   have h1 := ownsRow_sortedI (n := n) (os := os) (base := base) (cap := cap) hlen hb hg hn hm hs
   unfold OwnI17
   rw [hlen]
   exact h1
theorem compact17_any (base : Nat) (v : Value) (xs : List Int) (w : World) (h : OwnI17 base w v xs) (hl : xs.length ≤ 1000) :
   Calls Tryz.prog 110 #[v] w fun e w' => ∃ v', e = .returned v' ∧ OwnI17 base w' v' (Lib.compact xs) ∧ v'.ownBlock = v.ownBlock ∧ w.grownBy w' v.ownBlock := by
 rcases h.2 with ⟨rfl, h0⟩ | ⟨g, cap, cur, rfl, hb, hg, hn, hm, hs, ht⟩
 · obtain rfl := List.eq_nil_of_length_eq_zero h0
   refine (Tryz.slices_Compact_int_empty none 0 w).mono ?_
   rintro e w' ⟨rfl, rfl⟩
   exact ⟨_, rfl, by simpa [Lib.compact, Lib.compactUpTo] using h, rfl, gb_refl w' _⟩
 · have hH := holds_of_blockI hg (by simpa using ht)
   have hle : (Lib.compact xs).length ≤ xs.length := Lib.compact_length_le xs
   refine (Tryz.slices_Compact_int g 0 cap xs w hH (by omega) hn).mono ?_
   rintro e w' ⟨rfl, q, rfl⟩
   refine ⟨_, rfl, ?_, rfl, ?_⟩
   · have h1 := Lib.ownsRow_putRow (q := q) (ys := Lib.compact xs ++ List.replicate (xs.length - (Lib.compact xs).length) 0) h (by simp; omega) hle
     rw [List.take_left] at h1
     exact h1
   · exact grownBy_sortedI (os := #[]) _
theorem compactUpTo_ok (d : Array Int) (hs : ∀ i j, i ≤ j → j < d.size → d[i]! ≤ d[j]!) : ∀ m, m ≤ d.size → (Lib.compactUpTo d m).Pairwise (· < ·) ∧ (∀ x ∈ Lib.compactUpTo d m, 0 < m ∧ x ≤ d[m - 1]!) ∧ ∀ x, x ∈ Lib.compactUpTo d m ↔ ∃ j, j < m ∧ d[j]! = x
 | 0, _ => by simp [Lib.compactUpTo]
 | m + 1, h => by
   obtain ⟨h1, h2, h3⟩ := compactUpTo_ok d hs m (by omega)
   rw [Lib.compactUpTo_succ]
   by_cases hk : Lib.keeps d m = true
   · rw [if_pos hk]
     have hlt : ∀ x ∈ Lib.compactUpTo d m, x < d[m]! := fun x hx => by
       obtain ⟨q1, q2⟩ := h2 x hx
       have q3 := hs (m - 1) m (by omega) (by omega)
       have q4 : d[m - 1]! ≠ d[m]! := by
         unfold Lib.keeps at hk
         simp at hk
         rcases hk with hk | hk
         · omega
         · exact fun e => hk (by first | exact e | exact e.symm)
       omega
     refine ⟨List.pairwise_append.2 ⟨h1, by simp, fun a ha b hb => by obtain rfl := List.mem_singleton.1 hb; exact hlt a ha⟩, fun x hx => ⟨by omega, ?_⟩, fun x => ?_⟩
     · rcases List.mem_append.1 hx with q | q
       · have := hlt x q; simp; omega
       · obtain rfl := List.mem_singleton.1 q; exact Int.le_refl _
     · rw [List.mem_append, List.mem_singleton, h3]
       constructor
       · rintro (⟨j, q1, q2⟩ | q)
         · exact ⟨j, by omega, q2⟩
         · exact ⟨m, by omega, q.symm⟩
       · rintro ⟨j, q1, q2⟩
         by_cases e : j = m
         · subst e; exact .inr q2.symm
         · exact .inl ⟨j, by omega, q2⟩
   · rw [if_neg hk, List.append_nil]
     have q4 : 0 < m ∧ d[m]! = d[m - 1]! := by
       unfold Lib.keeps at hk
       simp at hk
       exact ⟨by omega, by first | exact hk.2 | exact hk.2.symm⟩
     refine ⟨h1, fun x hx => ⟨by omega, ?_⟩, fun x => ?_⟩
     · have := (h2 x hx).2; simp; omega
     · rw [h3]
       constructor
       · rintro ⟨j, q1, q2⟩
         exact ⟨j, by omega, q2⟩
       · rintro ⟨j, q1, q2⟩
         by_cases e : j = m
         · subst e; exact ⟨j - 1, by omega, by rw [← q4.2]; exact q2⟩
         · exact ⟨j, by omega, q2⟩
def blkL (L : List Fnd) : List Int := Lib.compact ((L.map (·.bk)).mergeSort fun x y => decide (x ≤ y))
theorem blkL_ok (L : List Fnd) : (blkL L).Pairwise (· < ·) ∧ (∀ x, x ∈ blkL L ↔ ∃ f ∈ L, f.bk = x) ∧ (blkL L).length ≤ L.length := by
 unfold blkL Lib.compact
 have hp : ((L.map (·.bk)).mergeSort fun x y => decide (x ≤ y)).Pairwise (fun a b => decide (a ≤ b) = true) := List.pairwise_mergeSort (fun a b c h1 h2 => by simp at *; omega) (fun a b => by simp; omega) _
 have hm : ∀ x, x ∈ ((L.map (·.bk)).mergeSort fun x y => decide (x ≤ y)) ↔ ∃ f ∈ L, f.bk = x := fun x => by rw [List.mem_mergeSort, List.mem_map]
 have hlen : ((L.map (·.bk)).mergeSort fun x y => decide (x ≤ y)).length = L.length := by rw [List.length_mergeSort, List.length_map]
 obtain ⟨zs, hz⟩ : ∃ z, ((L.map (·.bk)).mergeSort fun x y => decide (x ≤ y)) = z := ⟨_, rfl⟩
 rw [hz] at hp hm hlen ⊢
 have hs : ∀ i j, i ≤ j → j < zs.toArray.size → zs.toArray[i]! ≤ zs.toArray[j]! := fun i j hij hj => by
   have hj' : j < zs.length := by simpa using hj
   rw [getElem!_pos _ i (by simp; omega), getElem!_pos _ j hj]
   simp only [List.getElem_toArray]
   by_cases e : i = j
   · subst e; exact Int.le_refl _
   · have := List.pairwise_iff_getElem.1 hp i j (by omega) hj' (by omega)
     simpa using this
 obtain ⟨h1, _, h3⟩ := compactUpTo_ok zs.toArray hs zs.length (by simp)
 refine ⟨h1, fun x => ?_, by have := Lib.compact_length_le zs; unfold Lib.compact at this; omega⟩
 rw [h3, ← hm, List.mem_iff_getElem]
 constructor
 · rintro ⟨j, hj, e⟩
   exact ⟨j, hj, by rw [getElem!_pos _ j (by simpa using hj)] at e; simpa using e⟩
 · rintro ⟨j, hj, e⟩
   exact ⟨j, hj, by rw [getElem!_pos _ j (by simpa using hj)]; simpa using e⟩
structure BksS (w0 wr : World) (lv : Value) (L : List Fnd) (k : Nat) (v : Value) : Prop where
 l : RowF wr lv L
 own : wr.ownsRow w0.heap.size 3 1 v k (((L.take k).map (·.bk)).map (Value.int .i64))
 ext : w0.grownBy wr none
set_option maxHeartbeats 1600000 in
theorem blocksOf_any (lv : Value) (L : List Fnd) (w : World) (h : RowF w lv L) (hlb : ∀ k, lv.ownBlock = some k → k < w.heap.size) (hl : L.length ≤ 1000) :
   Calls Tryz.prog 84 #[lv] w fun e w' => (∃ v, e = .returned v ∧ OwnI17 w.heap.size w' v (blkL L)) ∧ w.grownBy w' none := by
 obtain ⟨i0, hi, hz0, hz1, hz2⟩ := info_parts Tryz.infoInt
 obtain ⟨ao, cap, hv, hc0⟩ := h
 obtain ⟨n, hn⟩ : ∃ n, L.length = n := ⟨_, rfl⟩
 rw [hn] at hv hl
 obtain ⟨w1, hmk, hown1, hE1⟩ := run_make_own (P := Tryz.prog) w w.heap.size 22 3 i0 (.int .i64 0) 1 Tryz.underlying22 hi hz0 hz1 .i64 .i64 n (by rw [hz2]; omega) (by unfold maxLen; omega) (Nat.le_refl _)
 have hrow : RowF w lv L := ⟨ao, cap, by rw [hn]; exact hv, hc0⟩
 have HS := Lib.hid (show BksS w w1 lv L 0 (.slice (some ⟨w.heap.size, 0, none⟩) 0 n) from ⟨hrow.ext hE1, hown1, hE1⟩)
 subst hv
 have HN := Lib.hid (And.intro hn hlb)
 clear hn hlb hc0 hrow hown1 hE1 hi hz0 hz1 hz2
 go_enter Tryz.func84, Tryz.ntmps84
 go_wp2
 clear hmk
 go_loopw [3, 11] (fun s i wr => ∃ (k : Nat) (v : Value), k ≤ n ∧ i = .int .i64 k ∧ s = v ∧ BksS w wr (.slice ao n cap) L k v) (fun _ i _ => n - (intOf i).toNat)
 case atStart => exact ⟨0, _, by omega, rfl, rfl, HS.out⟩
 case round =>
   clear HS
   obtain ⟨k, v, hk, rfl, rfl, hS⟩ := hrel
   obtain ⟨wo, rfl⟩ : ∃ wo : World, wo = wr := ⟨_, rfl⟩
   have HS := Lib.hid hS
   obtain ⟨ro, rc, hro⟩ := owns_slice17 hS.own
   subst hro
   clear hS
   by_cases hlt : k < n
   · obtain ⟨f, hf⟩ : ∃ f, L.getD k noF = f := ⟨_, rfl⟩
     obtain ⟨ao2, cap2, hv2, hc2⟩ := HS.out.l
     obtain ⟨b, off, hao, hr⟩ := hc2 k (by rw [HN.out.1]; exact hlt)
     simp only [Value.slice.injEq] at hv2
     obtain ⟨rfl, -, -⟩ := hv2
     subst hao
     rw [hf] at hr
     have HF := Lib.hid (take17 (by rw [HN.out.1]; exact hlt) hf)
     have hBn := Blk.new wo 108 (fndC noF)
     clear hf hc2
     go_upto_region 5 with (first
       | (refine fnd_load rfl _ rfl rfl hr ?_)
       | (refine fnd_store _ _ rfl rfl rfl hBn rfl rfl ?_; intro w2 hb2 hg2 hs2; have hE2 := g17_new (World.grownBy_alloc wo _ none) hg2 (Nat.le_refl _); have HE2 := Lib.hid hE2; have d0 := (FCells.of hb2).bk; clear hBn hg2 hs2 hE2 hb2))
     clear hr
     obtain ⟨x0, hx0⟩ : ∃ z, f.bk = z := ⟨_, rfl⟩
     rw [hx0] at d0
     have HX := Lib.hid hx0
     have hown := (HS.out.own.kept HE2.out (Classical.em _)).alloc (.cells #[.int .i64 x0] 3)
     clear hx0
     go_wp2_with (at_builtin; go_loud (refine append_int17 rfl _ _ rfl w.heap.size (.slice ro k rc) ((L.take k).map (·.bk)) k (by rw [List.length_map, List.length_take, HN.out.1]; omega) rfl hown ⟨w2.heap.size, 0, none⟩ 1 x0 rfl (by simp) (by omega) (by have := HS.out.ext.size; have := HE2.out.size; simp; omega) ?_; intro v' w4 hrow' hg'; have hE4 := Lib.hid (own_alloc17 HE2.out hg'); obtain ⟨ao4, cap4, hv4⟩ := owns_slice17 hrow'; subst hv4))
     go_roundw
     case rel =>
       refine ⟨k + 1, _, by omega, by go_num, rfl, ⟨?_, ?_, ?_⟩⟩
       · exact HS.out.l.kept hE4.out (fun q hq e => by have := (HS.out.own.lt q e.symm).1; have := HN.out.2 q hq; omega)
       · rw [HF.out, List.map_append, List.map_singleton, HX.out]
         exact hrow'
       · exact own_ext17 HS.out.own HS.out.ext hE4.out (Nat.le_refl _)
     case measure => simp [intOf]; omega
   · obtain rfl : k = n := by omega
     have hown := HS.out.own
     rw [List.take_of_length_le (by rw [HN.out.1]; exact Nat.le_refl _)] at hown
     have hown : OwnI17 w.heap.size wo (.slice ro k rc) (L.map (·.bk)) := by
       unfold OwnI17
       rw [List.length_map, HN.out.1]
       exact hown
     have SRT := sort17_any w.heap.size _ _ wo hown (by rw [List.length_map, HN.out.1]; exact hl)
     have HLT := Lib.hid hown.lt
     have HLEN := Lib.hid (show ((L.map (·.bk)).mergeSort fun x y => decide (x ≤ y)).length ≤ 1000 by rw [List.length_mergeSort, List.length_map, HN.out.1]; exact hl)
     obtain ⟨zs, hzs⟩ : ∃ z, ((L.map (·.bk)).mergeSort fun x y => decide (x ≤ y)) = z := ⟨_, rfl⟩
     rw [hzs] at SRT HLEN
     have HZ := Lib.hid (show blkL L = Lib.compact zs by unfold blkL; rw [hzs])
     clear hown hzs
     go_wp2_with (first
       | (go_at_call 109; refine SRT.mono ?_; rintro e w4 ⟨rfl, ho4, hg4⟩; have CMP := compact17_any w.heap.size _ _ w4 ho4 HLEN.out; have HG4 := Lib.hid hg4; have HL4 := Lib.hid ho4.lt; clear ho4 hg4)
       | (go_at_call 110; refine CMP.mono ?_; rintro e w5 ⟨v5, rfl, ho5, _, hg5⟩; have HO5 := Lib.hid ho5; have HG5 := Lib.hid hg5; clear ho5 hg5))
     go_ret
     refine ⟨⟨_, rfl, by rw [HZ.out]; exact HO5.out⟩, ?_⟩
     have e1 := HS.out.ext
     exact ⟨(HG5.out.os.trans HG4.out.os).trans e1.os, (HG5.out.tape.trans HG4.out.tape).trans e1.tape, (HG5.out.output.trans HG4.out.output).trans e1.output, Nat.le_trans e1.size (Nat.le_trans HG4.out.size HG5.out.size), fun q hq _ =>
       ((HG5.out.block q (Nat.lt_of_lt_of_le hq (Nat.le_trans e1.size HG4.out.size)) (fun e => by have := (HL4.out q e.symm).1; omega)).trans (HG4.out.block q (Nat.lt_of_lt_of_le hq e1.size) (fun e => by have := (HLT.out q e.symm).1; omega))).trans (e1.block q hq (by simp))⟩
end Go.Proofs.YtdnpdoipipfkoaaGreatDoor

namespace Go.Proofs.YtdnpdoipipfkoaaGreatDoor
set_option linter.unusedVariables false
set_option linter.unusedSimpArgs false
set_option linter.unusedVariables false
set_option linter.unusedSimpArgs false
set_option maxRecDepth 100000
open Go.RowKit
end Go.Proofs.YtdnpdoipipfkoaaGreatDoor

namespace Go.Proofs.YtdnpdoipipfkoaaGreatDoor
set_option linter.unusedVariables false
set_option linter.unusedSimpArgs false
set_option linter.unusedVariables false
set_option linter.unusedSimpArgs false
set_option maxRecDepth 100000
open Go.RowKit
attribute [local go_sem] Tryz.eqNilInts
abbrev OwnI (B : Nat) (w : World) (v : Value) (xs : List Int) : Prop := w.ownsRow B 3 1 v xs.length (xs.map (Value.int .i64))
def ClonedO (w : World) (xs : List Int) (e : Ending) (w' : World) : Prop := ∃ v', e = .returned v' ∧ OwnI w.heap.size w' v' xs ∧ w.grownBy w' none
theorem cloneO_any (v : Value) (xs : List Int) (w : World) (hb : Ints w v xs) (hm : xs.length ≤ 1048576) :
   Calls Tryz.prog 49 #[v] w (ClonedO w xs) := by
 obtain ⟨i0, hi, hz0, hz1, hz2⟩ := info_parts Tryz.infoInt
 rcases hb.two with ⟨rfl, rfl⟩ | ⟨sa, cap, rfl, _, hc⟩
 · go_enter Tryz.func49, Tryz.ntmps49
   go_wp2
   go_ret
   exact ⟨_, rfl, ⟨rfl, .inl ⟨rfl, rfl⟩⟩, ⟨rfl, rfl, rfl, Nat.le_refl _, fun _ _ _ => rfl⟩⟩
 · have hown := World.ownsRow_made (base := w.heap.size) (e := 3) (size := 1) w #[] 0 (Nat.le_refl _) (Nat.zero_le _) rfl
   have HC := Lib.hid hc
   clear hc
   go_enter Tryz.func49, Tryz.ntmps49
   go_wp2_with (at_builtin; go_loud (refine wpList_append_own _ rfl _ _ 22 rfl w.heap.size 3 i0 (.int .i64 0) 1 8 Tryz.underlying22 hi hz0 hz1 hz2 rfl (by decide) _ _ _ rfl hown sa xs.length cap (xs.map (Value.int .i64)) rfl (by simp) ?c1 ?c2 ?c3 ?c4 ?c5 ?_))
   case c1 =>
     intro j u hj
     rw [List.getElem?_map] at hj
     by_cases h : j < xs.length
     · rw [List.getElem?_eq_getElem h] at hj
       have h2 := HC.out j h
       rw [World.cell?_alloc_old _ _ _ (Nat.ne_of_lt (World.block_lt_of_cell? w _ h2)), h2, ← hj]
       simp [List.getElem?_eq_getElem h, List.getD_eq_getElem?_getD]
     · rw [List.getElem?_eq_none (by omega)] at hj
       cases hj
   case c2 => exact ints_oneCell _ _
   case c3 => unfold maxLen; omega
   case c4 => omega
   case c5 => simp
   intro v' w1 hown' hgrow _
   have hown2 : w1.ownsRow w.heap.size 3 1 v' xs.length (xs.map (Value.int .i64)) := by simpa using hown'
   go_wp2
   go_ret
   exact ⟨v', rfl, hown2, grown_trans (World.grownBy_alloc w _ none) hgrow (fun k hk h => by simp [Value.ownBlock] at hk; omega)⟩
end Go.Proofs.YtdnpdoipipfkoaaGreatDoor
