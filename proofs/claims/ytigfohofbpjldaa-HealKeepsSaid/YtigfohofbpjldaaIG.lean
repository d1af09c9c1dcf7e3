/-
  Package heal: the best pages of places, as a map; that they are the document's; the row of spots in its order.
-/
import Derived.Test.YtigfohofbpjldaaID
import Derived.Test.YtigfohofbpjldaaHI
namespace Go.Proofs.Ytigfohofbpjldaa
set_option linter.unusedVariables false
set_option linter.unusedSimpArgs false
set_option maxRecDepth 100000
open Go.RowKit

/-- Is a page a place's rather than another one? -/
def betF (f g : Fnd) : Bool := newF f g || (!newF g f && lowF f g)
def bsM (m : Int → Option Fnd) (f : Fnd) : Int → Option Fnd := if !(m f.pl).isSome || betF f ((m f.pl).getD noF) then updX m f.pl f else m
def bestsF (S : List Fnd) : Int → Option Fnd := S.foldl bsM (fun _ => none)
theorem bestsF_snoc (S : List Fnd) (f : Fnd) : bestsF (S ++ [f]) = bsM (bestsF S) f := by unfold bestsF; rw [List.foldl_append]; rfl
def stayF (gone : List Int) (f : Fnd) : Bool := !gone.contains f.bk
def optB (st : Fnd × Bool) : Option Fnd := if st.2 then some st.1 else none
theorem best_step (gone : List Int) (p : Int) (m : Int → Option Fnd) (st : Fnd × Bool) (f : Fnd) (h : m p = optB st) : (if stayF gone f then bsM m f else m) p = optB (bestStep gone p st f) := by
  unfold bestStep stayF
  cases hc : gone.contains f.bk
  · by_cases hp : f.pl = p
    · have e1 : (f.pl != p) = false := by simp [hp]
      rw [e1]
      obtain ⟨b, s⟩ := st
      cases s
      · have hm : m p = none := h
        unfold bsM
        rw [hp, hm]
        simp [optB, updX]
      · have hm : m p = some b := h
        unfold bsM betF sameF
        rw [hp, hm]
        simp only [Option.isSome_some, Bool.not_true, Bool.false_or, Option.getD_some, Bool.true_and, Bool.not_false, if_true]
        cases h1 : newF f b <;> cases h2 : newF b f <;> cases h3 : lowF f b <;> simp [optB, updX, hm]
    · have e1 : (f.pl != p) = true := by simp [hp]
      rw [e1]
      simp only [Bool.not_false, if_true, Bool.or_true]
      unfold bsM
      split
      · unfold updX
        rw [if_neg (fun e => hp e.symm)]
        exact h
      · exact h
  · simp [h]
theorem best_is (gone : List Int) (p : Int) : ∀ (A : List Fnd) (m : Int → Option Fnd) (st : Fnd × Bool), m p = optB st → (A.filter (stayF gone)).foldl bsM m p = optB (A.foldl (bestStep gone p) st)
  | [], m, st, h => h
  | f :: A, m, st, h => by
    have h1 := best_step gone p m st f h
    rw [List.filter_cons, List.foldl_cons]
    split
    · rename_i hs
      rw [if_pos hs] at h1
      exact best_is gone p A _ _ h1
    · rename_i hs
      rw [if_neg hs] at h1
      exact best_is gone p A _ _ h1
theorem bestsF_is (A : List Fnd) (gone : List Int) (p : Int) : bestsF (A.filter (stayF gone)) p = optB (bestN A gone p) := best_is gone p A _ _ rfl

abbrev Sp3 := Int × Int × Int
theorem strict_ext : ∀ (l1 l2 : List Sp3), l1.Pairwise (fun a b => a.1 < b.1) → l2.Pairwise (fun a b => a.1 < b.1) → (∀ x, x ∈ l1 ↔ x ∈ l2) → l1 = l2
  | [], [], _, _, _ => rfl
  | [], b :: t2, _, _, h => by have := (h b).2 (by simp); cases this
  | a :: t1, [], _, _, h => by have := (h a).1 (by simp); cases this
  | a :: t1, b :: t2, h1, h2, h => by
    obtain ⟨p1, p2⟩ := List.pairwise_cons.1 h1
    obtain ⟨q1, q2⟩ := List.pairwise_cons.1 h2
    have hab : a = b := by
      rcases List.mem_cons.1 ((h a).1 (by simp)) with e | e
      · exact e
      · rcases List.mem_cons.1 ((h b).2 (by simp)) with e2 | e2
        · exact e2.symm
        · have := q1 a e
          have := p1 b e2
          omega
    subst hab
    rw [strict_ext t1 t2 p2 q2 (fun x => ?_)]
    constructor
    · intro hx
      rcases List.mem_cons.1 ((h x).1 (by simp [hx])) with e | e
      · subst e; have := p1 _ hx; omega
      · exact e
    · intro hx
      rcases List.mem_cons.1 ((h x).2 (by simp [hx])) with e | e
      · subst e; have := q1 _ hx; omega
      · exact e
theorem spotsN_mem (A : List Fnd) (gone : List Int) : ∀ (m : Nat) (s : Sp3), s ∈ spotsN A gone m ↔ ∃ p : Nat, p < m ∧ (bestN A gone p).2 = true ∧ s = ((p : Int), (bestN A gone p).1.bk, (bestN A gone p).1.pg)
  | 0, s => by simp [spotsN]
  | m + 1, s => by
    have h1 : spotsN A gone (m + 1) = if (bestN A gone m).2 then spotsN A gone m ++ [((m : Int), (bestN A gone m).1.bk, (bestN A gone m).1.pg)] else spotsN A gone m := rfl
    rw [h1]
    have ih := spotsN_mem A gone m s
    split
    · rename_i hb
      rw [List.mem_append, List.mem_singleton, ih]
      constructor
      · rintro (⟨p, q1, q2⟩ | q)
        · exact ⟨p, by omega, q2⟩
        · exact ⟨m, by omega, hb, q⟩
      · rintro ⟨p, q1, q2, q3⟩
        by_cases e : p = m
        · subst e; exact .inr q3
        · exact .inl ⟨p, by omega, q2, q3⟩
    · rename_i hb
      rw [ih]
      constructor
      · rintro ⟨p, q1, q2⟩
        exact ⟨p, by omega, q2⟩
      · rintro ⟨p, q1, q2, q3⟩
        by_cases e : p = m
        · subst e; exact absurd q2 hb
        · exact ⟨p, by omega, q2, q3⟩
theorem spotsN_rise (A : List Fnd) (gone : List Int) : ∀ (m : Nat), (spotsN A gone m).Pairwise (fun a b => a.1 < b.1)
  | 0 => by simp [spotsN]
  | m + 1 => by
    have h1 : spotsN A gone (m + 1) = if (bestN A gone m).2 then spotsN A gone m ++ [((m : Int), (bestN A gone m).1.bk, (bestN A gone m).1.pg)] else spotsN A gone m := rfl
    rw [h1]
    have ih := spotsN_rise A gone m
    split
    · refine List.pairwise_append.2 ⟨ih, by simp, fun a ha b hb => ?_⟩
      obtain rfl := List.mem_singleton.1 hb
      obtain ⟨p, q1, q2, rfl⟩ := (spotsN_mem A gone m a).1 ha
      show (p : Int) < m
      omega
    · exact ih
/-- A rising row of all places' best pages is the document's. -/
theorem spots_is (A : List Fnd) (gone : List Int) (hA : ∀ f ∈ A, 0 ≤ f.pl ∧ f.pl ≤ 63) (l : List Sp3) (hs : l.Pairwise (fun a b => a.1 < b.1)) (hm : ∀ s, s ∈ l ↔ ∃ p f, bestsF (A.filter (stayF gone)) p = some f ∧ s = (p, f.bk, f.pg)) : l = spotsN A gone 64 := by
  refine strict_ext _ _ hs (spotsN_rise A gone 64) fun s => ?_
  rw [hm, spotsN_mem]
  constructor
  · rintro ⟨p, f, h1, rfl⟩
    rw [bestsF_is] at h1
    unfold optB at h1
    split at h1
    · rename_i h2
      injection h1 with h1
      have hk := (bestN_keeps gone p A A.length (Nat.le_refl _)).1
      rw [List.take_length] at hk
      obtain ⟨h3, h4⟩ := hk h2
      have h5 := hA _ h3
      rw [h4.2] at h5
      obtain ⟨q, rfl⟩ := Int.eq_ofNat_of_zero_le h5.1
      exact ⟨q, by omega, h2, by rw [h1]⟩
    · cases h1
  · rintro ⟨p, h1, h2, rfl⟩
    exact ⟨p, (bestN A gone p).1, by rw [bestsF_is]; unfold optB; rw [if_pos h2], rfl⟩

end Go.Proofs.Ytigfohofbpjldaa
