/-
  Package heal: tops of places, which blocks leave; that these are the document's.
-/
import Derived.Test.YtigfohofbpjldaaHD
import Derived.Test.YtigfohofbpjldaaIB
namespace Go.Proofs.Ytigfohofbpjldaa
set_option linter.unusedVariables false
set_option linter.unusedSimpArgs false
set_option maxRecDepth 100000
open Go.RowKit

abbrev TopT := Int × Int × Bool
def noT : TopT := (0, 0, false)
/-- Is a page more than the top? -/
def betT (t : TopT) (f : Fnd) : Bool := decide (t.1 < f.sq) || ((f.sq == t.1) && decide (t.2.1 < f.bk))
def topStep (m : Int → Option TopT) (f : Fnd) : Int → Option TopT := if !(m f.pl).isSome || betT ((m f.pl).getD noT) f then updX m f.pl (f.sq, f.bk, false) else m
def topsF (A : List Fnd) : Int → Option TopT := A.foldl topStep (fun _ => none)
theorem topsF_snoc (A : List Fnd) (f : Fnd) : topsF (A ++ [f]) = topStep (topsF A) f := by unfold topsF; rw [List.foldl_append]; rfl

/-- These are the tops of these pages. -/
def tokA (A : List Fnd) (m : Int → Option TopT) : Prop :=
  (∀ p, m p = none → ∀ g ∈ A, g.pl ≠ p) ∧ ∀ p t, m p = some t → t.2.2 = false ∧ (∃ f ∈ A, f.pl = p ∧ f.sq = t.1 ∧ f.bk = t.2.1) ∧ ∀ g ∈ A, g.pl = p → g.sq ≤ t.1 ∧ (g.sq = t.1 → g.bk ≤ t.2.1)
theorem tokA_upd {A : List Fnd} {m : Int → Option TopT} {f : Fnd} (h : tokA A m) (hf : ∀ g ∈ A, g.pl = f.pl → g.sq ≤ f.sq ∧ (g.sq = f.sq → g.bk ≤ f.bk)) : tokA (A ++ [f]) (updX m f.pl (f.sq, f.bk, false)) := by
  refine ⟨fun p hp g hg => ?_, fun p t hp => ?_⟩
  · unfold updX at hp
    split at hp
    · cases hp
    · rename_i hne
      rcases List.mem_append.1 hg with h1 | h1
      · exact h.1 p hp g h1
      · obtain rfl := List.mem_singleton.1 h1
        exact fun e => hne e.symm
  · unfold updX at hp
    split at hp
    · rename_i he
      injection hp with hp
      subst hp
      subst he
      refine ⟨rfl, ⟨f, by simp, rfl, rfl, rfl⟩, fun g hg hgp => ?_⟩
      rcases List.mem_append.1 hg with h1 | h1
      · exact hf g h1 hgp
      · obtain rfl := List.mem_singleton.1 h1
        exact ⟨Int.le_refl _, fun _ => Int.le_refl _⟩
    · rename_i hne
      obtain ⟨h1, ⟨f1, h2, h3⟩, h4⟩ := h.2 p t hp
      refine ⟨h1, ⟨f1, by simp [h2], h3⟩, fun g hg hgp => ?_⟩
      rcases List.mem_append.1 hg with h5 | h5
      · exact h4 g h5 hgp
      · obtain rfl := List.mem_singleton.1 h5
        exact absurd hgp.symm hne
theorem tokA_step {A : List Fnd} {m : Int → Option TopT} (f : Fnd) (h : tokA A m) : tokA (A ++ [f]) (topStep m f) := by
  unfold topStep
  cases hm : m f.pl with
  | none =>
    rw [if_pos (by simp)]
    exact tokA_upd h fun g hg hp => absurd hp (h.1 _ hm g hg)
  | some t =>
    obtain ⟨h1, h2, h3⟩ := h.2 _ t hm
    have e1 : ((some t : Option TopT).getD noT) = t := rfl
    rw [e1]
    by_cases hb : betT t f = true
    · rw [if_pos (by simp [hb])]
      refine tokA_upd h fun g hg hp => ?_
      obtain ⟨h4, h5⟩ := h3 g hg hp
      unfold betT at hb
      simp only [Bool.or_eq_true, Bool.and_eq_true, decide_eq_true_eq, beq_iff_eq] at hb
      rcases hb with hb | ⟨hb, hb2⟩
      · exact ⟨by omega, fun e => by omega⟩
      · exact ⟨by omega, fun e => by have := h5 (by omega); omega⟩
    · rw [if_neg (by simp [hb])]
      unfold betT at hb
      simp only [Bool.or_eq_true, Bool.and_eq_true, decide_eq_true_eq, beq_iff_eq, not_or, not_and] at hb
      refine ⟨fun p hp g hg => ?_, fun p u hp => ?_⟩
      · rcases List.mem_append.1 hg with h5 | h5
        · exact h.1 p hp g h5
        · obtain rfl := List.mem_singleton.1 h5
          intro e
          rw [e, hp] at hm
          cases hm
      · obtain ⟨q1, ⟨f1, q2, q3⟩, q4⟩ := h.2 p u hp
        refine ⟨q1, ⟨f1, by simp [q2], q3⟩, fun g hg hgp => ?_⟩
        rcases List.mem_append.1 hg with h5 | h5
        · exact q4 g h5 hgp
        · obtain rfl := List.mem_singleton.1 h5
          rw [hgp, hp] at hm
          injection hm with hm
          subst hm
          exact ⟨by omega, fun e => by have := hb.2 e; omega⟩
theorem tokA_fold : ∀ (A A1 : List Fnd) (m : Int → Option TopT), tokA A1 m → tokA (A1 ++ A) (A.foldl topStep m)
  | [], A1, m, h => by simpa using h
  | f :: A, A1, m, h => by
    have := tokA_fold A (A1 ++ [f]) (topStep m f) (tokA_step f h)
    simpa using this
theorem topsF_ok (A : List Fnd) : tokA A (topsF A) := by
  have := tokA_fold A [] (fun _ => none) ⟨fun p _ g hg => (by cases hg), fun p t h => (by cases h)⟩
  exact this

/-- The places whose greatest Seq a block has. -/
def heldP (m : Int → Option TopT) (b : Int) (f : Fnd) : Bool := (f.bk == b) && (f.sq == ((m f.pl).getD noT).1)
def heldF (A : List Fnd) (m : Int → Option TopT) (b : Int) : List Int := (A.filter (heldP m b)).map (·.pl)
theorem heldF_mem {A : List Fnd} {m : Int → Option TopT} {b p : Int} : p ∈ heldF A m b ↔ ∃ f ∈ A, f.bk = b ∧ f.sq = ((m f.pl).getD noT).1 ∧ f.pl = p := by
  unfold heldF heldP
  simp only [List.mem_map, List.mem_filter, Bool.and_eq_true, beq_iff_eq]
  constructor
  · rintro ⟨f, ⟨h1, h2, h3⟩, h4⟩
    exact ⟨f, h1, h2, h3, h4⟩
  · rintro ⟨f, h1, h2, h3, h4⟩
    exact ⟨f, ⟨h1, h2, h3⟩, h4⟩
def keepsP (m : Int → Option TopT) (b p : Int) : Bool := (((m p).getD noT).2.1 == b) && !((m p).getD noT).2.2
def markOne (m : Int → Option TopT) (p : Int) : Int → Option TopT := updX m p (((m p).getD noT).1, ((m p).getD noT).2.1, true)
def markAll (m : Int → Option TopT) (ps : List Int) : Int → Option TopT := ps.foldl markOne m
theorem markAll_snoc (m : Int → Option TopT) (ps : List Int) (p : Int) : markAll m (ps ++ [p]) = markOne (markAll m ps) p := by unfold markAll; rw [List.foldl_append]; rfl
def lvStep (A : List Fnd) (m0 : Int → Option TopT) (st : List Int × (Int → Option TopT)) (b : Int) : List Int × (Int → Option TopT) :=
  if (heldF A m0 b).any (keepsP st.2 b) then (st.1, markAll st.2 (heldF A m0 b)) else (st.1 ++ [b], st.2)
def lvN (A : List Fnd) (row : List Int) : List Int × (Int → Option TopT) := row.foldl (lvStep A (topsF A)) ([], topsF A)
theorem lvN_snoc (A : List Fnd) (row : List Int) (b : Int) : lvN A (row ++ [b]) = lvStep A (topsF A) (lvN A row) b := by unfold lvN; rw [List.foldl_append]; rfl
theorem markAll_at : ∀ (ps : List Int) (m : Int → Option TopT) (p : Int), (∀ q ∈ ps, (m q).isSome = true) →
    markAll m ps p = if p ∈ ps then some (((m p).getD noT).1, ((m p).getD noT).2.1, true) else m p
  | [], m, p, _ => by simp [markAll]
  | q :: ps, m, p, h => by
    have h1 : markAll m (q :: ps) p = markAll (markOne m q) ps p := rfl
    have hs : ∀ x ∈ ps, (markOne m q x).isSome = true := fun x hx => by
      unfold markOne updX
      split
      · rfl
      · exact h x (by simp [hx])
    rw [h1, markAll_at ps _ p hs]
    have hq : ((markOne m q p).getD noT).1 = ((m p).getD noT).1 ∧ ((markOne m q p).getD noT).2.1 = ((m p).getD noT).2.1 := by
      unfold markOne updX
      split
      · rename_i e; subst e; exact ⟨rfl, rfl⟩
      · exact ⟨rfl, rfl⟩
    by_cases hp : p ∈ ps
    · rw [if_pos hp, if_pos (by simp [hp]), hq.1, hq.2]
    · rw [if_neg hp]
      by_cases e : p = q
      · subst e
        rw [if_pos (by simp)]
        unfold markOne updX
        rw [if_pos rfl]
      · rw [if_neg (by simp [e, hp])]
        unfold markOne updX
        rw [if_neg e]

/-- One block asked, among those that are found. -/
def goStepA (A : List Fnd) (out : List Int) (b : Int) : List Int := if mayG A A out b then out ++ [b] else out
/-- What stands while blocks leave. -/
structure LvI (A : List Fnd) (done : List Int) (st : List Int × (Int → Option TopT)) : Prop where
  out : st.1 = done.foldl (goStepA A) []
  sub : ∀ x ∈ st.1, x ∈ done
  nil_ : ∀ p, topsF A p = none → st.2 p = none
  one_ : ∀ p t, topsF A p = some t → ∃ k : Bool, st.2 p = some (t.1, t.2.1, k) ∧ (k = true ↔ ∃ g ∈ A, g.pl = p ∧ g.sq = t.1 ∧ g.bk ∈ done ∧ g.bk ∉ st.1)
  stays : ∀ p t, topsF A p = some t → ∃ g ∈ A, g.pl = p ∧ g.sq = t.1 ∧ g.bk ∉ st.1
theorem LvI.start (A : List Fnd) : LvI A [] ([], topsF A) := by
  refine ⟨rfl, fun x h => h, fun p h => h, fun p t h => ⟨false, ?_, by simp⟩, fun p t h => ?_⟩
  · obtain ⟨h1, _⟩ := (topsF_ok A).2 p t h
    show topsF A p = _
    rw [h, ← h1]
  · obtain ⟨_, ⟨f, h2, h3, h4, _⟩, _⟩ := (topsF_ok A).2 p t h
    exact ⟨f, h2, h3, h4, by simp⟩
theorem held_iff {A : List Fnd} {b p : Int} {t : TopT} (ht : topsF A p = some t) : p ∈ heldF A (topsF A) b ↔ ∃ g ∈ A, g.pl = p ∧ g.sq = t.1 ∧ g.bk = b := by
  rw [heldF_mem]
  constructor
  · rintro ⟨f, h1, h2, h3, h4⟩
    rw [h4, ht] at h3
    exact ⟨f, h1, h4, h3, h2⟩
  · rintro ⟨f, h1, h2, h3, h4⟩
    exact ⟨f, h1, h4, by rw [h2, ht]; exact h3, h2⟩
/-- Whether a block stays is what the document says. -/
theorem LvI.asks {A : List Fnd} {done : List Int} {st : List Int × (Int → Option TopT)} (h : LvI A done st) {b : Int} (hlt : ∀ x ∈ done, x < b) (hall : ∀ g ∈ A, g.bk < b → g.bk ∈ done) :
    (heldF A (topsF A) b).any (keepsP st.2 b) = !mayG A A st.1 b := by
  have hT := topsF_ok A
  rw [Bool.eq_iff_iff]
  constructor
  · intro hk
    obtain ⟨p, hp, hkp⟩ := List.any_eq_true.1 hk
    rw [Bool.not_eq_true', Bool.eq_false_iff]
    intro hmay
    obtain ⟨f, f1, f2, f3, f4⟩ := heldF_mem.1 hp
    cases ht : topsF A p with
    | none => exact absurd f4 (hT.1 p ht f f1)
    | some t =>
      rw [f4, ht] at f3
      obtain ⟨k, hk1, hk2⟩ := h.one_ p t ht
      unfold keepsP at hkp
      rw [hk1] at hkp
      simp at hkp
      have hm := List.all_eq_true.1 hmay f f1
      unfold mayP at hm
      rw [f2] at hm
      simp only [bne_self_eq_false, Bool.false_or] at hm
      obtain ⟨g, g1, g2⟩ := List.any_eq_true.1 hm
      unfold othP at g2
      simp only [Bool.and_eq_true, bne_iff_ne, Bool.not_eq_true', beq_iff_eq, decide_eq_true_eq] at g2
      obtain ⟨g3, g4, g5, g6⟩ := g2
      obtain ⟨_, _, hT2⟩ := hT.2 p t ht
      have f3' : f.sq = t.1 := f3
      obtain ⟨q1, q2⟩ := hT2 g g1 (g5.trans f4)
      have q3 : g.sq = t.1 := by omega
      have q4 := q2 q3
      have hin : g.bk ∈ done := hall g g1 (by omega)
      have : k = true := hk2.2 ⟨g, g1, g5.trans f4, q3, hin, fun hc => by rw [Bool.eq_false_iff] at g4; exact g4 (List.contains_iff_mem.2 hc)⟩
      rw [this] at hkp
      simp at hkp
  · intro hm
    rw [Bool.not_eq_true', Bool.eq_false_iff] at hm
    have : ∃ f ∈ A, mayP A st.1 b f = false := by
      apply Classical.byContradiction
      intro hn
      refine hm (List.all_eq_true.2 fun f hf => ?_)
      cases hx : mayP A st.1 b f
      · exact absurd ⟨f, hf, hx⟩ hn
      · rfl
    obtain ⟨f, f1, f2⟩ := this
    unfold mayP at f2
    rw [Bool.or_eq_false_iff] at f2
    obtain ⟨f3, f4⟩ := f2
    have hfb : f.bk = b := by simpa using f3
    have hno : ∀ g ∈ A, g.bk ≠ b → g.bk ∉ st.1 → g.pl = f.pl → ¬ f.sq ≤ g.sq := fun g hg h1 h2 h3 h4 => by
      have h5 : othP st.1 b f g = false := by
        cases hx : othP st.1 b f g
        · rfl
        · exact absurd (List.any_eq_true.2 ⟨g, hg, hx⟩) (by unfold othB at f4; rw [f4]; decide)
      have h6 : othP st.1 b f g = true := by
        unfold othP
        simp only [Bool.and_eq_true, bne_iff_ne, Bool.not_eq_true', beq_iff_eq, decide_eq_true_eq]
        refine ⟨h1, ?_, h3, h4⟩
        rw [Bool.eq_false_iff]
        exact fun hc => h2 (List.contains_iff_mem.1 hc)
      rw [h5] at h6
      cases h6
    cases ht : topsF A f.pl with
    | none => exact absurd rfl (hT.1 _ ht f f1)
    | some t =>
      obtain ⟨_, ⟨l, l1, l2, l3, l4⟩, hT2⟩ := hT.2 _ t ht
      have hft := (hT2 f f1 rfl).1
      obtain ⟨g0, g1, g2, g3, g4⟩ := h.stays _ t ht
      have hg0 : g0.bk = b := by
        apply Classical.byContradiction
        intro hne
        exact hno g0 g1 hne g4 g2 (by omega)
      have hheld : f.pl ∈ heldF A (topsF A) b := (held_iff ht).2 ⟨g0, g1, g2, g3, hg0⟩
      obtain ⟨k, hk1, hk2⟩ := h.one_ _ t ht
      have hlast : t.2.1 = b := by
        apply Classical.byContradiction
        intro hne
        have q1 := (hT2 g0 g1 g2).2 g3
        refine hno l l1 (by omega) (fun hc => ?_) l2 (by omega)
        have := hlt _ (h.sub _ hc)
        omega
      have hkf : k = false := by
        cases k
        · rfl
        · exfalso
          obtain ⟨g, q1, q2, q3, q4, q5⟩ := hk2.1 rfl
          have := hlt _ q4
          exact hno g q1 (by omega) q5 q2 (by omega)
      refine List.any_eq_true.2 ⟨_, hheld, ?_⟩
      unfold keepsP
      rw [hk1, hkf]
      simp [hlast]
theorem LvI.next {A : List Fnd} {done : List Int} {st : List Int × (Int → Option TopT)} (h : LvI A done st) {b : Int} (hlt : ∀ x ∈ done, x < b) (hall : ∀ g ∈ A, g.bk < b → g.bk ∈ done) :
    LvI A (done ++ [b]) (lvStep A (topsF A) st b) := by
  have hk := h.asks hlt hall
  have hT := topsF_ok A
  have hfold : (done ++ [b]).foldl (goStepA A) [] = goStepA A st.1 b := by rw [List.foldl_append, h.out]; rfl
  unfold lvStep
  rw [hk]
  cases hm : mayG A A st.1 b
  · rw [if_pos (by decide)]
    have hbo : b ∉ st.1 := fun hc => by have := hlt _ (h.sub _ hc); omega
    have hsm : ∀ q ∈ heldF A (topsF A) b, (st.2 q).isSome = true := fun q hq => by
      obtain ⟨f, f1, _, _, f4⟩ := heldF_mem.1 hq
      cases ht : topsF A q with
      | none => exact absurd f4 (hT.1 q ht f f1)
      | some t => obtain ⟨k, hk1, _⟩ := h.one_ q t ht; rw [hk1]; rfl
    refine ⟨?_, fun x hx => ?_, fun p hp => ?_, fun p t hp => ?_, h.stays⟩
    · show st.1 = _
      rw [hfold]
      unfold goStepA
      rw [hm]
      rfl
    · exact List.mem_append.2 (.inl (h.sub x hx))
    · show markAll st.2 _ p = none
      rw [markAll_at _ _ _ hsm, if_neg]
      · exact h.nil_ p hp
      · intro hc
        have := hsm p hc
        rw [h.nil_ p hp] at this
        cases this
    · obtain ⟨k, hk1, hk2⟩ := h.one_ p t hp
      show ∃ k, markAll st.2 _ p = _ ∧ _
      rw [markAll_at _ _ _ hsm, hk1]
      by_cases hh : p ∈ heldF A (topsF A) b
      · rw [if_pos hh]
        refine ⟨true, rfl, fun _ => ?_, fun _ => rfl⟩
        obtain ⟨g, q1, q2, q3, q4⟩ := (held_iff hp).1 hh
        exact ⟨g, q1, q2, q3, by rw [q4]; simp, by rw [q4]; exact hbo⟩
      · rw [if_neg hh]
        refine ⟨k, rfl, ?_⟩
        rw [hk2]
        constructor
        · rintro ⟨g, q1, q2, q3, q4, q5⟩
          exact ⟨g, q1, q2, q3, List.mem_append.2 (.inl q4), q5⟩
        · rintro ⟨g, q1, q2, q3, q4, q5⟩
          rcases List.mem_append.1 q4 with q6 | q6
          · exact ⟨g, q1, q2, q3, q6, q5⟩
          · exact absurd ((held_iff hp).2 ⟨g, q1, q2, q3, List.mem_singleton.1 q6⟩) hh
  · rw [if_neg (by decide)]
    refine ⟨?_, fun x hx => ?_, h.nil_, fun p t hp => ?_, fun p t hp => ?_⟩
    · show st.1 ++ [b] = _
      rw [hfold]
      unfold goStepA
      rw [hm]
      rfl
    · rcases List.mem_append.1 hx with h1 | h1
      · exact List.mem_append.2 (.inl (h.sub x h1))
      · exact List.mem_append.2 (.inr h1)
    · obtain ⟨k, hk1, hk2⟩ := h.one_ p t hp
      refine ⟨k, hk1, ?_⟩
      rw [hk2]
      constructor
      · rintro ⟨g, q1, q2, q3, q4, q5⟩
        refine ⟨g, q1, q2, q3, List.mem_append.2 (.inl q4), fun hc => ?_⟩
        rcases List.mem_append.1 hc with h1 | h1
        · exact q5 h1
        · have := hlt _ q4
          have := List.mem_singleton.1 h1
          omega
      · rintro ⟨g, q1, q2, q3, q4, q5⟩
        rcases List.mem_append.1 q4 with q6 | q6
        · exact ⟨g, q1, q2, q3, q6, fun hc => q5 (List.mem_append.2 (.inl hc))⟩
        · exact absurd (List.mem_append.2 (.inr q6)) q5
    · obtain ⟨g0, g1, g2, g3, g4⟩ := h.stays p t hp
      by_cases hb : g0.bk = b
      · have hm2 := List.all_eq_true.1 hm g0 g1
        unfold mayP at hm2
        rw [hb] at hm2
        simp only [bne_self_eq_false, Bool.false_or] at hm2
        obtain ⟨g, q1, q2⟩ := List.any_eq_true.1 hm2
        unfold othP at q2
        simp only [Bool.and_eq_true, bne_iff_ne, Bool.not_eq_true', beq_iff_eq, decide_eq_true_eq] at q2
        obtain ⟨q3, q4, q5, q6⟩ := q2
        obtain ⟨_, _, hT2⟩ := hT.2 p t hp
        have q7 := (hT2 g q1 (q5.trans g2)).1
        refine ⟨g, q1, q5.trans g2, by omega, fun hc => ?_⟩
        rcases List.mem_append.1 hc with h1 | h1
        · rw [Bool.eq_false_iff] at q4
          exact q4 (List.contains_iff_mem.2 h1)
        · exact q3 (List.mem_singleton.1 h1)
      · refine ⟨g0, g1, g2, g3, fun hc => ?_⟩
        rcases List.mem_append.1 hc with h1 | h1
        · exact g4 h1
        · exact hb (List.mem_singleton.1 h1)

theorem List.reverseRecOn' {α : Type} {motive : List α → Prop} (l : List α) (nil : motive []) (snoc : ∀ d b, motive d → motive (d ++ [b])) : motive l := by
  have h : ∀ n (l : List α), l.length = n → motive l := by
    intro n
    induction n with
    | zero => intro l hl; rw [List.eq_nil_of_length_eq_zero hl]; exact nil
    | succ n ih =>
      intro l hl
      have hne : l ≠ [] := fun e => by rw [e] at hl; simp at hl
      rw [← List.dropLast_concat_getLast hne]
      exact snoc _ _ (ih _ (by simp [hl]))
  exact h _ l rfl
/-- A rising row that has all blocks of some pages: what leaves is what the document says, block by block. -/
theorem lvN_is (A : List Fnd) (row : List Int) (hs : row.Pairwise (· < ·)) (hA : ∀ g ∈ A, g.bk ∈ row) : ∀ (done rest : List Int), row = done ++ rest → LvI A done (lvN A done) := by
  intro done
  refine List.reverseRecOn' (motive := fun done => ∀ rest, row = done ++ rest → LvI A done (lvN A done)) done ?_ ?_
  · exact fun _ _ => LvI.start A
  · intro d b ih rest h
    rw [lvN_snoc]
    have h1 : row = d ++ (b :: rest) := by rw [h]; simp
    rw [h1] at hs
    have h2 := List.pairwise_append.1 hs
    refine (ih _ h1).next (fun x hx => h2.2.2 x hx b (by simp)) (fun g hg hlt => ?_)
    have h3 := hA g hg
    rw [h1] at h3
    rcases List.mem_append.1 h3 with h4 | h4
    · exact h4
    · exfalso
      rcases List.mem_cons.1 h4 with h5 | h5
      · omega
      · have := (List.pairwise_cons.1 h2.2.1).1 _ h5
        omega

/-- Of a rising row, those below k + 1. -/
theorem rise_filter : ∀ (row : List Int), row.Pairwise (· < ·) → ∀ k : Int, row.filter (fun x => decide (x < k + 1)) = row.filter (fun x => decide (x < k)) ++ (if k ∈ row then [k] else [])
  | [], _, k => by simp
  | x :: r, h, k => by
    obtain ⟨h1, h2⟩ := List.pairwise_cons.1 h
    have ih := rise_filter r h2 k
    by_cases hx : x < k
    · have e1 : decide (x < k + 1) = true := decide_eq_true (by omega)
      have e2 : decide (x < k) = true := decide_eq_true hx
      have e3 : (k ∈ x :: r) ↔ k ∈ r := by rw [List.mem_cons]; exact ⟨fun h => h.resolve_left (by omega), .inr⟩
      rw [List.filter_cons, List.filter_cons, e1, e2, if_pos rfl, if_pos rfl, ih]
      simp only [e3, List.cons_append]
    · have hf : r.filter (fun x => decide (x < k)) = [] := by
        rw [List.filter_eq_nil_iff]
        intro y hy
        have := h1 y hy
        simp; omega
      have e2 : decide (x < k) = false := decide_eq_false hx
      by_cases hxk : x = k
      · subst hxk
        have hf2 : r.filter (fun y => decide (y < x + 1)) = [] := by
          rw [List.filter_eq_nil_iff]
          intro y hy
          have := h1 y hy
          simp; omega
        rw [List.filter_cons, List.filter_cons, e2, if_pos (decide_eq_true (by omega)), hf2, hf]
        simp
      · have hf2 : r.filter (fun y => decide (y < k + 1)) = [] := by
          rw [List.filter_eq_nil_iff]
          intro y hy
          have := h1 y hy
          simp; omega
        have e1 : decide (x < k + 1) = false := decide_eq_false (by omega)
        have e4 : k ∉ x :: r := by
          rw [List.mem_cons]
          rintro (h3 | h3)
          · exact hxk h3.symm
          · have := h1 _ h3; omega
        rw [List.filter_cons, List.filter_cons, e1, e2, hf, hf2, if_neg e4]
        simp
theorem goN_row (L A : List Fnd) (row : List Int) (hs : row.Pairwise (· < ·)) (h0 : ∀ x ∈ row, 0 ≤ x) : ∀ k : Nat, (∀ j : Nat, j < k → ((j : Int) ∈ row ↔ someB L j = true)) → goN L A k = (row.filter (fun x => decide (x < (k : Int)))).foldl (goStepA A) []
  | 0, _ => by
    have : row.filter (fun x => decide (x < ((0 : Nat) : Int))) = [] := by
      rw [List.filter_eq_nil_iff]
      intro y hy
      have := h0 y hy
      simp; omega
    rw [this]
    rfl
  | k + 1, hj => by
    have ih := goN_row L A row hs h0 k (fun j h => hj j (by omega))
    show goStep L A (goN L A k) k = _
    rw [show ((k + 1 : Nat) : Int) = (k : Int) + 1 by omega, rise_filter row hs k, List.foldl_append, ← ih]
    unfold goStep
    have h1 := hj k (by omega)
    by_cases hk : (k : Int) ∈ row
    · rw [if_pos hk, h1.1 hk, Bool.true_and]
      rfl
    · have h2 : someB L k = false := by
        rw [Bool.eq_false_iff]
        exact fun h => hk (h1.2 h)
      rw [if_neg hk, h2]
      rfl
/-- The blocks that leave are the document's. -/
theorem leaves_is (L A : List Fnd) (B : Int) (row : List Int) (hs : row.Pairwise (· < ·)) (hrow : ∀ x, x ∈ row ↔ 0 ≤ x ∧ x < B ∧ someB L x = true) (hA : ∀ g ∈ A, g.bk ∈ row) : (lvN A row).1 = goN L A B.toNat := by
  rw [(lvN_is A row hs hA row [] (List.append_nil row).symm).out, goN_row L A row hs (fun x hx => ((hrow x).1 hx).1) B.toNat (fun j hj => by rw [hrow]; exact ⟨fun h => h.2.2, fun h => ⟨by omega, by omega, h⟩⟩)]
  congr 1
  symm
  rw [List.filter_eq_self]
  intro x hx
  have := (hrow x).1 hx
  simp; omega

end Go.Proofs.Ytigfohofbpjldaa
