/-
  The law GeomPlaces: facts on numbers and cells.
-/
import Derived.Test.YtlbgakhoillpcaaGG
import Derived.Test.YtlbgakhoillpcaaGD
namespace Go.Proofs.Ytlbgakhoillpcaa
open Go.RowKit

theorem at4_top (c d p b : Nat) : at4 c d p b 0 0 0 = b * d * c * p := by unfold at4; simp
theorem at4_topI (c d p b : Nat) : (c : Int) * d * b * p = ((at4 c d p b 0 0 0 : Nat) : Int) := by
  rw [at4_top]
  push_cast
  rw [show (c : Int) * d * b = b * d * c by rw [Int.mul_comm (c * d : Int) b, Int.mul_comm (c : Int) d, Int.mul_assoc]]

theorem sp_nat (c d p k : Nat) : spC c d p k = ((k / p % c : Nat) : Int) ∧ spD c d p k = ((k / p / c % d : Nat) : Int) ∧ spB c d p k = ((k / p / c / d : Nat) : Int) ∧ spP c d p k = ((k % p : Nat) : Int) := by
  unfold spC spD spB spP
  refine ⟨?_, ?_, ?_, ?_⟩ <;> simp [Int.natCast_ediv, Int.natCast_emod]

/-- The place of number k is this one. -/
def IsPlc (c d p k : Nat) (x y z u : Int) : Prop := x = ((k / p % c : Nat) : Int) ∧ y = ((k / p / c % d : Nat) : Int) ∧ z = ((k / p / c / d : Nat) : Int) ∧ u = ((k % p : Nat) : Int)

theorem div_lt {k p c d b : Nat} (h : k < b * d * c * p) : k / p / c / d < b := by
  rw [Nat.div_div_eq_div_mul, Nat.div_div_eq_div_mul]
  refine Nat.div_lt_of_lt_mul ?_
  rw [show p * (c * d) * b = b * d * c * p by ac_rfl]
  exact h

theorem within_nat {x c : Nat} (h : x < c) : withinB (x : Int) (c : Int) = true := by
  simp only [withinB, decide_eq_true_eq]
  omega
theorem inG_nat {x y z c d b : Nat} (h1 : x < c) (h2 : y < d) (h3 : z < b) : inG (c : Int) (d : Int) (b : Int) (x : Int) (y : Int) (z : Int) = true := by
  simp only [inG, within_nat h1, within_nat h2, within_nat h3, Bool.and_true]

theorem plc_back (k p c d : Nat) : at4 c d p (k / p / c / d) (k / p / c % d) (k / p % c) (k % p) = k := by
  unfold at4
  rw [Nat.div_add_mod' (k / p / c) d, Nat.div_add_mod' (k / p) c, Nat.div_add_mod' k p]

/-- What Join and Block tell of the place of number k. -/
theorem jon_plc {c d b p k : Nat} {x y z u : Int} (hg : geoE c d b p = 0) (hk : k < at4 c d p b 0 0 0) (h : IsPlc c d p k x y z u) :
    jonE c d b p x y z u = 0 ∧ jonV c d b p x y z u = k ∧ blkE c d b p x y z = 0 ∧ blkV c d b p x y z = ((k / p : Nat) : Int) := by
  obtain ⟨g1, g2, g3, g4, _, _⟩ := geo_ok hg
  rw [at4_top] at hk
  obtain ⟨rfl, rfl, rfl, rfl⟩ := h
  have a1 : k / p % c < c := Nat.mod_lt _ (by omega)
  have a2 : k / p / c % d < d := Nat.mod_lt _ (by omega)
  have a3 := div_lt hk
  have a4 : k % p < p := Nat.mod_lt _ (by omega)
  have e1 : blkE c d b p ((k / p % c : Nat) : Int) ((k / p / c % d : Nat) : Int) ((k / p / c / d : Nat) : Int) = 0 := by
    unfold blkE
    rw [if_pos hg, if_pos]
    exact inG_nat a1 a2 a3
  have e2 : jonE c d b p ((k / p % c : Nat) : Int) ((k / p / c % d : Nat) : Int) ((k / p / c / d : Nat) : Int) ((k % p : Nat) : Int) = 0 := by
    unfold jonE
    rw [if_pos e1, if_pos]
    exact within_nat a4
  have e3 : blkV c d b p ((k / p % c : Nat) : Int) ((k / p / c % d : Nat) : Int) ((k / p / c / d : Nat) : Int) = ((k / p : Nat) : Int) := by
    unfold blkV
    rw [if_pos e1]
    have h1 := Nat.mod_add_div (k / p / c) d
    have h2 := Nat.mod_add_div (k / p) c
    have h3 : ((k / p / c % d : Nat) : Int) + (d : Int) * ((k / p / c / d : Nat) : Int) = ((k / p / c : Nat) : Int) := by exact_mod_cast h1
    rw [h3]
    exact_mod_cast h2
  refine ⟨e2, ?_, e1, e3⟩
  unfold jonV
  rw [if_pos e2, e3]
  have h4 := Nat.div_add_mod' k p
  exact_mod_cast h4

/-- Of a place that is none. -/
theorem jon_none {c d b p : Nat} {x y z u : Int} (hg : geoE c d b p = 0) (h : ∀ k, k < at4 c d p b 0 0 0 → ¬ IsPlc c d p k x y z u) :
    jonE c d b p x y z u = 5 ∧ jonV c d b p x y z u = 0 := by
  have e : jonE c d b p x y z u = 5 := by
    unfold jonE
    split
    · rename_i hb
      obtain ⟨_, i1, i2, i3⟩ := blkE_zero hb
      split
      · rename_i hu
        exfalso
        simp only [withinB, decide_eq_true_eq] at hu
        obtain ⟨x', rfl⟩ := Int.eq_ofNat_of_zero_le i1.1
        obtain ⟨y', rfl⟩ := Int.eq_ofNat_of_zero_le i2.1
        obtain ⟨z', rfl⟩ := Int.eq_ofNat_of_zero_le i3.1
        obtain ⟨u', rfl⟩ := Int.eq_ofNat_of_zero_le hu.1
        have hx : x' < c := by omega
        have hy : y' < d := by omega
        have hz : z' < b := by omega
        have hp : u' < p := by omega
        have hpl := plc_at (i := z') hp hx hy
        unfold plc at hpl
        simp only [List.cons.injEq, Value.int.injEq, true_and, and_true] at hpl
        refine h (at4 c d p z' y' x' u') ?_ ⟨hpl.1.symm, hpl.2.1.symm, hpl.2.2.1.symm, hpl.2.2.2.symm⟩
        rw [at4_top]
        have h1 : z' * d + y' + 1 ≤ b * d := by
          have : (z' + 1) * d ≤ b * d := Nat.mul_le_mul_right d hz
          rw [Nat.add_mul] at this; omega
        have h2 : (z' * d + y') * c + x' + 1 ≤ b * d * c := by
          have : (z' * d + y' + 1) * c ≤ b * d * c := Nat.mul_le_mul_right c h1
          rw [Nat.add_mul] at this; omega
        have h3 : ((z' * d + y') * c + x' + 1) * p ≤ b * d * c * p := Nat.mul_le_mul_right p h2
        rw [Nat.add_mul] at h3
        unfold at4; omega
      · rfl
    · rename_i hb
      unfold blkE at hb ⊢
      rw [if_pos hg] at hb ⊢
      split at hb
      · exact absurd rfl hb
      · rename_i hi
        rw [if_neg hi]
  refine ⟨e, ?_⟩
  unfold jonV
  rw [if_neg (by rw [e]; decide)]

end Go.Proofs.Ytlbgakhoillpcaa
