/-
  Package rule: within, isPages, Check, Data, Total, Bound, Most (layer 9), for sizes that may be; fixed; the law RuleRoom walked.
-/
import Derived.Test.YtkcdddpbmbhelaaWA
import Derived.Lib.Hide
namespace Go.Proofs.Ytkcdddpbmbhelaa
open Go.RowKit

def inB (v l m : Int) : Bool := decide (l ≤ v ∧ v ≤ m)

set_option maxHeartbeats 400000 in
theorem ruleWithin_any (v l m : Int) (w : World) :
    Calls Try.prog 40 #[.int .i64 v, .int .i64 l, .int .i64 m] w fun e w' => e = .returned (.bool (inB v l m)) ∧ w = w' := by
  by_cases h0 : l ≤ v
  · have e0 : decide (l ≤ v) = true := by simpa using h0
    go_enter Try.func40, Try.ntmps40
    go_wp2
    go_ret
    exact ⟨ret_bool (by simp [inB, h0]), rfl⟩
  · have e0 : decide (l ≤ v) = false := by simpa using h0
    go_enter Try.func40, Try.ntmps40
    go_wp2
    go_ret
    exact ⟨ret_bool (by simp [inB]; omega), rfl⟩

theorem rulePages_any (p : Int) (w : World) :
    Calls Try.prog 48 #[.int .i64 p] w fun e w' => e = .returned (.bool (inB p 2 16)) ∧ w = w' := by
  go_enter Try.func48, Try.ntmps48
  go_wp2_with (go_at_call 40; refine (ruleWithin_any _ _ _ _).mono ?_; rintro e w' ⟨rfl, rfl⟩)
  go_ret
  exact ⟨rfl, rfl⟩

def roomE (s r : Int) : Int := if inB s 1 64 = true ∧ inB r 0 8 = true then 0 else 5

set_option maxHeartbeats 400000 in
theorem ruleCheck_any (s r : Int) (w : World) :
    Calls Try.prog 20 #[.int .i64 s, .int .i64 r] w fun e w' => e = .returned (.int .i64 (roomE s r)) ∧ w = w' := by
  unfold roomE
  generalize h1 : inB s 1 64 = b1
  generalize h2 : inB r 0 8 = b2
  have W1 := Lib.hid h1
  have W2 := Lib.hid h2
  clear h1 h2
  cases b1 <;> cases b2
  all_goals
    go_enter Try.func20, Try.ntmps20
    go_wp2_with (go_at_call 40; refine (ruleWithin_any _ _ _ _).mono ?_; rintro e w' ⟨rfl, rfl⟩; first | rw [W1.out] | rw [W2.out])
    go_ret
    exact ⟨rfl, rfl⟩

set_option maxHeartbeats 400000 in
theorem ruleData_any (s p : Int) (w : World) (hs : 1 ≤ s ∧ s ≤ 64) (hp : 2 ≤ p ∧ p ≤ 16) :
    Calls Try.prog 49 #[.int .i64 s, .int .i64 p] w fun e w' => e = .returned (.int .i64 (s / p + 2)) ∧ w = w' := by
  have C := ruleCheck_any s 0
  have P := rulePages_any p
  rw [show roomE s 0 = 0 by simp [roomE, inB]; omega] at C
  rw [show inB p 2 16 = true by simp [inB]; omega] at P
  obtain ⟨s0, s1⟩ := hs
  obtain ⟨p0, p1⟩ := hp
  have q0 : 0 ≤ s / p := Int.ediv_nonneg (by omega) (by omega)
  have q1 : s / p ≤ 64 := Int.le_trans (Int.ediv_le_self _ (by omega)) s1
  go_enter Try.func49, Try.ntmps49
  go_wp2_with (first
    | (go_at_call 20; refine (C _).mono ?_; rintro e w' ⟨rfl, rfl⟩)
    | (go_at_call 48; refine (P _).mono ?_; rintro e w' ⟨rfl, rfl⟩))
  go_ret
  exact ⟨rfl, rfl⟩

set_option maxHeartbeats 400000 in
theorem ruleTotal_any (s r p : Int) (w : World) (hs : 1 ≤ s ∧ s ≤ 64) (hr : 0 ≤ r ∧ r ≤ 8) (hp : 2 ≤ p ∧ p ≤ 16) :
    Calls Try.prog 44 #[.int .i64 s, .int .i64 r, .int .i64 p] w fun e w' => e = .returned (.int .i64 (s / p + 2 + r)) ∧ w = w' := by
  have C := ruleCheck_any s r
  have P := rulePages_any p
  have D := fun w => ruleData_any s p w hs hp
  rw [show roomE s r = 0 by simp [roomE, inB]; omega] at C
  rw [show inB p 2 16 = true by simp [inB]; omega] at P
  obtain ⟨s0, s1⟩ := hs
  obtain ⟨p0, p1⟩ := hp
  obtain ⟨r0, r1⟩ := hr
  have q0 : 0 ≤ s / p := Int.ediv_nonneg (by omega) (by omega)
  have q1 : s / p ≤ 64 := Int.le_trans (Int.ediv_le_self _ (by omega)) s1
  go_enter Try.func44, Try.ntmps44
  go_wp2_with (first
    | (go_at_call 20; refine (C _).mono ?_; rintro e w' ⟨rfl, rfl⟩)
    | (go_at_call 48; refine (P _).mono ?_; rintro e w' ⟨rfl, rfl⟩)
    | (go_at_call 49; refine (D _).mono ?_; rintro e w' ⟨rfl, rfl⟩))
  go_ret
  exact ⟨rfl, rfl⟩

/-- The greatest size that so many blocks serve. -/
def MostIs (b r p : Int) (k : Nat) : Prop := k ≤ 64 ∧ (∀ j : Nat, k < j → j ≤ 64 → b < (j : Int) / p + 2 + r) ∧ (k = 0 ∨ (k : Int) / p + 2 + r ≤ b)

theorem room_facts {s p : Int} (s0 : 1 ≤ s) (s1 : s ≤ 64) (p0 : 2 ≤ p) (p1 : p ≤ 16) :
    0 ≤ s / p ∧ s / p ≤ 32 ∧ s < (s / p + 2 - 1) * p ∧ (s / p + 2 - 1) * p ≤ 528 := by
  have q0 : 0 ≤ s / p := Int.ediv_nonneg (by omega) (by omega)
  have q2 : s / p ≤ s / 2 := by
    rw [Int.le_ediv_iff_mul_le (by decide)]
    have h1 : s / p * 2 ≤ s / p * p := Int.mul_le_mul_of_nonneg_left p0 q0
    have h2 := Int.ediv_mul_le s (show p ≠ 0 by omega)
    omega
  have q3 : s < (s / p + 1) * p := Int.lt_ediv_add_one_mul_self s (by omega)
  have q4 : (s / p + 1) * p ≤ 33 * 16 := Int.mul_le_mul (by omega) p1 (by omega) (by omega)
  rw [show s / p + 2 - 1 = s / p + 1 by omega]
  omega

theorem most_le {s p : Int} {k : Nat} (s0 : 1 ≤ s) (s1 : s ≤ 64) (h : MostIs (s / p + 2) 0 p k) : s ≤ (k : Int) := by
  rcases Int.lt_or_le (k : Int) s with h1 | h1
  · have := h.2.1 s.toNat (by omega) (by omega)
    rw [Int.toNat_of_nonneg (by omega)] at this
    omega
  · exact h1

end Go.Proofs.Ytkcdddpbmbhelaa
