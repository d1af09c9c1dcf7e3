/-
  Layer 17: nothing is lost: each page that counts has one that is as new, in a block that stays; HealKeeps' reasons.
-/
import Derived.Test.YtigfohofbpjldaaHH
namespace Go.Proofs.Ytigfohofbpjldaa
set_option linter.unusedVariables false
set_option linter.unusedSimpArgs false
set_option maxRecDepth 100000
open Go.RowKit

theorem goN_keeps (L A : List Fnd) : ∀ k : Nat, ∀ f ∈ A, ∃ g ∈ A, g.pl = f.pl ∧ f.sq ≤ g.sq ∧ (goN L A k).contains g.bk = false
  | 0, f, hf => ⟨f, hf, rfl, Int.le_refl _, by simp [goN]⟩
  | k + 1, f, hf => by
    obtain ⟨g, hg, h1, h2, h3⟩ := goN_keeps L A k f hf
    show ∃ g ∈ A, g.pl = f.pl ∧ f.sq ≤ g.sq ∧ (goStep L A (goN L A k) k).contains g.bk = false
    unfold goStep
    split
    · rename_i hc
      simp only [Bool.and_eq_true] at hc
      by_cases hb : g.bk = (k : Int)
      · have hm := List.all_eq_true.1 hc.2 g hg
        unfold mayP at hm
        rw [hb] at hm
        simp only [bne_self_eq_false, Bool.false_or] at hm
        obtain ⟨g2, hg2, hp⟩ := List.any_eq_true.1 hm
        unfold othP at hp
        simp only [Bool.and_eq_true, bne_iff_ne, Bool.not_eq_true', beq_iff_eq, decide_eq_true_eq] at hp
        refine ⟨g2, hg2, hp.2.2.1.trans h1, Int.le_trans h2 hp.2.2.2, ?_⟩
        rw [Bool.eq_false_iff]
        intro h4
        rw [List.contains_iff_mem, List.mem_append, List.mem_singleton] at h4
        rcases h4 with h4 | h4
        · have := hp.2.1
          rw [Bool.eq_false_iff] at this
          exact this (List.contains_iff_mem.2 h4)
        · exact hp.1 h4
      · refine ⟨g, hg, h1, h2, ?_⟩
        rw [Bool.eq_false_iff]
        intro h4
        rw [List.contains_iff_mem, List.mem_append, List.mem_singleton] at h4
        rcases h4 with h4 | h4
        · rw [Bool.eq_false_iff] at h3
          exact h3 (List.contains_iff_mem.2 h4)
        · exact hb h4
    · exact ⟨g, hg, h1, h2, h3⟩

/-- A page that may be a place's. -/
def candF (gone : List Int) (p : Int) (f : Fnd) : Prop := gone.contains f.bk = false ∧ f.pl = p
theorem bestN_keeps (gone : List Int) (p : Int) (A : List Fnd) : ∀ n, n ≤ A.length →
    ((bestN (A.take n) gone p).2 = true → (bestN (A.take n) gone p).1 ∈ A ∧ candF gone p (bestN (A.take n) gone p).1) ∧
    ∀ f ∈ A.take n, candF gone p f → (bestN (A.take n) gone p).2 = true ∧ f.sq ≤ (bestN (A.take n) gone p).1.sq
  | 0, _ => ⟨fun h => by simp [bestN] at h, fun f hf => by simp at hf⟩
  | n + 1, hn => by
    obtain ⟨ih1, ih2⟩ := bestN_keeps gone p A n (by omega)
    obtain ⟨f, hf⟩ : ∃ f, A.getD n noF = f := ⟨_, rfl⟩
    have hmem := getD_mem17 (by omega) hf
    rw [take17 (by omega) hf, bestN_snoc]
    obtain ⟨⟨b, s⟩, hb⟩ : ∃ z, bestN (A.take n) gone p = z := ⟨_, rfl⟩
    rw [hb] at ih1 ih2 ⊢
    simp only at ih1 ih2
    unfold bestStep
    simp only
    split
    · rename_i hc
      refine ⟨ih1, fun g hg hcand => ?_⟩
      rcases List.mem_append.1 hg with h1 | h1
      · exact ih2 g h1 hcand
      · obtain rfl := List.mem_singleton.1 h1
        unfold candF at hcand
        rw [hcand.1, hcand.2] at hc
        simp at hc
    · rename_i hc
      have hcf : candF gone p f := by
        simp only [Bool.or_eq_true, not_or, Bool.not_eq_true, bne_iff_ne, ne_eq, Decidable.not_not] at hc
        exact ⟨hc.1, by simpa using hc.2⟩
      split
      · rename_i ht
        refine ⟨fun _ => ⟨hmem, hcf⟩, fun g hg hcand => ⟨rfl, ?_⟩⟩
        rcases List.mem_append.1 hg with h1 | h1
        · obtain ⟨h2, h3⟩ := ih2 g h1 hcand
          subst h2
          refine Int.le_trans h3 ?_
          by_cases hlt : f.sq < b.sq
          · exfalso
            unfold sameF newF newerB at ht
            rw [if_neg (by omega), if_neg (by omega)] at ht
            have e1 : decide (b.sq < f.sq) = false := decide_eq_false (by omega)
            have e2 : decide (f.sq < b.sq) = true := decide_eq_true hlt
            rw [e1, e2] at ht
            simp at ht
          · show b.sq ≤ f.sq
            omega
        · obtain rfl := List.mem_singleton.1 h1
          exact Int.le_refl _
      · rename_i ht
        refine ⟨ih1, fun g hg hcand => ?_⟩
        rcases List.mem_append.1 hg with h1 | h1
        · exact ih2 g h1 hcand
        · obtain rfl := List.mem_singleton.1 h1
          cases s
          · simp at ht
          · refine ⟨rfl, ?_⟩
            by_cases hlt : b.sq < g.sq
            · exfalso
              unfold newF newerB at ht
              rw [if_neg (by omega)] at ht
              rw [decide_eq_true hlt] at ht
              simp at ht
            · show g.sq ≤ b.sq
              omega

theorem seqN_keeps (B tn ep : Int) : ∀ (L : List Fnd) (x : Int), x ≤ L.foldl (seqStep B tn ep) x ∧ ∀ f ∈ L, inB B tn ep f = true → f.sq < L.foldl (seqStep B tn ep) x
  | [], x => ⟨Int.le_refl _, fun f hf => by cases hf⟩
  | g :: L, x => by
    obtain ⟨h1, h2⟩ := seqN_keeps B tn ep L (seqStep B tn ep x g)
    have h3 : x ≤ seqStep B tn ep x g := by
      unfold seqStep
      split
      · rename_i hc
        simp only [Bool.and_eq_true, decide_eq_true_eq] at hc
        omega
      · exact Int.le_refl _
    refine ⟨Int.le_trans h3 h1, fun f hf hin => ?_⟩
    rcases List.mem_cons.1 hf with rfl | hf2
    · have h4 : f.sq < seqStep B tn ep x f := by
        unfold seqStep
        rw [hin]
        split
        · rename_i hc
          show f.sq < f.sq + 1
          omega
        · rename_i hc
          simp only [Bool.true_and, decide_eq_true_eq] at hc
          omega
      exact Int.lt_of_lt_of_le h4 h1
    · exact h2 f hf2 hin

/-- Nothing is lost. -/
theorem keeps17 (L : List Fnd) (B tn ep sz : Int) (f : Fnd) (hf : f ∈ cntL B tn ep sz L) :
    (bestN (cntL B tn ep sz L) (goN L (cntL B tn ep sz L) B.toNat) f.pl).2 = true ∧
    (bestN (cntL B tn ep sz L) (goN L (cntL B tn ep sz L) B.toNat) f.pl).1 ∈ cntL B tn ep sz L ∧
    (goN L (cntL B tn ep sz L) B.toNat).contains (bestN (cntL B tn ep sz L) (goN L (cntL B tn ep sz L) B.toNat) f.pl).1.bk = false ∧
    (bestN (cntL B tn ep sz L) (goN L (cntL B tn ep sz L) B.toNat) f.pl).1.pl = f.pl ∧
    f.sq ≤ (bestN (cntL B tn ep sz L) (goN L (cntL B tn ep sz L) B.toNat) f.pl).1.sq ∧ f.sq < seqN B tn ep L := by
  obtain ⟨A, hA⟩ : ∃ A, cntL B tn ep sz L = A := ⟨_, rfl⟩
  have hf0 := hf
  rw [hA] at hf ⊢
  obtain ⟨g, hg, h1, h2, h3⟩ := goN_keeps L A B.toNat f hf
  have hk := bestN_keeps (goN L A B.toNat) f.pl A A.length (Nat.le_refl _)
  rw [List.take_length] at hk
  obtain ⟨h4, h5⟩ := hk.2 g hg ⟨h3, h1⟩
  obtain ⟨h6, h7⟩ := hk.1 h4
  refine ⟨h4, h6, h7.1, h7.2, Int.le_trans h2 h5, ?_⟩
  have hin : f ∈ L ∧ inB B tn ep f = true := by
    unfold cntL at hf0
    obtain ⟨q1, q2⟩ := List.mem_filter.1 hf0
    unfold cntB at q2
    unfold inB
    simp only [Bool.and_eq_true] at q2 ⊢
    exact ⟨q1, q2.1, q2.2.1, q2.2.2.1⟩
  exact (seqN_keeps B tn ep L 0).2 f hin.1 hin.2

end Go.Proofs.Ytigfohofbpjldaa
