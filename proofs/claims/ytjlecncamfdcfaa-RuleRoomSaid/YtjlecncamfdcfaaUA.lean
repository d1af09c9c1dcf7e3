/-
  Package rule: within, isPages, Check, Data, Total, Bound, Most (layer 9), for sizes that may be; fixed; the law RuleRoom walked.
-/
import Derived.Test.YtjlecncamfdcfaaWA
import Derived.Lib.Hide
namespace Go.Proofs.Ytjlecncamfdcfaa
open Go.RowKit

def inB (v l m : Int) : Bool := decide (l ≤ v ∧ v ≤ m)

set_option maxHeartbeats 400000 in
theorem ruleWithin_any (v l m : Int) (w : World) :
    Calls Try.prog 11 #[.int .i64 v, .int .i64 l, .int .i64 m] w fun e w' => e = .returned (.bool (inB v l m)) ∧ w = w' := by
  by_cases h0 : l ≤ v
  · have e0 : decide (l ≤ v) = true := by simpa using h0
    go_enter Try.func11, Try.ntmps11
    go_wp2
    go_ret
    exact ⟨ret_bool (by simp [inB, h0]), rfl⟩
  · have e0 : decide (l ≤ v) = false := by simpa using h0
    go_enter Try.func11, Try.ntmps11
    go_wp2
    go_ret
    exact ⟨ret_bool (by simp [inB]; omega), rfl⟩

theorem rulePages_any (p : Int) (w : World) :
    Calls Try.prog 10 #[.int .i64 p] w fun e w' => e = .returned (.bool (inB p 2 16)) ∧ w = w' := by
  go_enter Try.func10, Try.ntmps10
  go_wp2_with (go_at_call 11; refine (ruleWithin_any _ _ _ _).mono ?_; rintro e w' ⟨rfl, rfl⟩)
  go_ret
  exact ⟨rfl, rfl⟩

def roomE (s r : Int) : Int := if inB s 1 64 = true ∧ inB r 0 8 = true then 0 else 5

set_option maxHeartbeats 400000 in
theorem ruleCheck_any (s r : Int) (w : World) :
    Calls Try.prog 8 #[.int .i64 s, .int .i64 r] w fun e w' => e = .returned (.int .i64 (roomE s r)) ∧ w = w' := by
  unfold roomE
  generalize h1 : inB s 1 64 = b1
  generalize h2 : inB r 0 8 = b2
  have W1 := Lib.hid h1
  have W2 := Lib.hid h2
  clear h1 h2
  cases b1 <;> cases b2
  all_goals
    go_enter Try.func8, Try.ntmps8
    go_wp2_with (go_at_call 11; refine (ruleWithin_any _ _ _ _).mono ?_; rintro e w' ⟨rfl, rfl⟩; first | rw [W1.out] | rw [W2.out])
    go_ret
    exact ⟨rfl, rfl⟩

set_option maxHeartbeats 400000 in
theorem ruleData_any (s p : Int) (w : World) (hs : 1 ≤ s ∧ s ≤ 64) (hp : 2 ≤ p ∧ p ≤ 16) :
    Calls Try.prog 5 #[.int .i64 s, .int .i64 p] w fun e w' => e = .returned (.int .i64 (s / p + 2)) ∧ w = w' := by
  have C := ruleCheck_any s 0
  have P := rulePages_any p
  rw [show roomE s 0 = 0 by simp [roomE, inB]; omega] at C
  rw [show inB p 2 16 = true by simp [inB]; omega] at P
  obtain ⟨s0, s1⟩ := hs
  obtain ⟨p0, p1⟩ := hp
  have q0 : 0 ≤ s / p := Int.ediv_nonneg (by omega) (by omega)
  have q1 : s / p ≤ 64 := Int.le_trans (Int.ediv_le_self _ (by omega)) s1
  go_enter Try.func5, Try.ntmps5
  go_wp2_with (first
    | (go_at_call 8; refine (C _).mono ?_; rintro e w' ⟨rfl, rfl⟩)
    | (go_at_call 10; refine (P _).mono ?_; rintro e w' ⟨rfl, rfl⟩))
  go_ret
  exact ⟨rfl, rfl⟩

set_option maxHeartbeats 400000 in
theorem ruleTotal_any (s r p : Int) (w : World) (hs : 1 ≤ s ∧ s ≤ 64) (hr : 0 ≤ r ∧ r ≤ 8) (hp : 2 ≤ p ∧ p ≤ 16) :
    Calls Try.prog 7 #[.int .i64 s, .int .i64 r, .int .i64 p] w fun e w' => e = .returned (.int .i64 (s / p + 2 + r)) ∧ w = w' := by
  have C := ruleCheck_any s r
  have P := rulePages_any p
  have D := fun w => ruleData_any s p w hs hp
  rw [show roomE s r = 0 by simp [roomE, inB]; omega] at C
  rw [show inB p 2 16 = true by simp [inB]; omega] at P
  obtain ⟨s0, s1⟩ := hs
  obtain ⟨p0, p1⟩ := hp
  obtain ⟨r0, r1⟩ := hr
  have q0 : 0 ≤ s / p := Int.ediv_nonneg (by omega) (by omega)
  have q1 : s / p ≤ 64 := Int.le_trans (Int.ediv_le_self _ (by omega)) s1
  go_enter Try.func7, Try.ntmps7
  go_wp2_with (first
    | (go_at_call 8; refine (C _).mono ?_; rintro e w' ⟨rfl, rfl⟩)
    | (go_at_call 10; refine (P _).mono ?_; rintro e w' ⟨rfl, rfl⟩)
    | (go_at_call 5; refine (D _).mono ?_; rintro e w' ⟨rfl, rfl⟩))
  go_ret
  exact ⟨rfl, rfl⟩

/-- The greatest size that so many blocks serve. -/
def MostIs (b r p : Int) (k : Nat) : Prop := k ≤ 64 ∧ (∀ j : Nat, k < j → j ≤ 64 → b < (j : Int) / p + 2 + r) ∧ (k = 0 ∨ (k : Int) / p + 2 + r ≤ b)

set_option maxHeartbeats 400000 in
theorem ruleMost_any (b r p : Int) (w : World) (hb : b ≤ 64) (hr : 0 ≤ r ∧ r ≤ 8) (hp : 2 ≤ p ∧ p ≤ 16) :
    Calls Try.prog 6 #[.int .i64 b, .int .i64 r, .int .i64 p] w fun e w' => ∃ k : Nat, e = .returned (.int .i64 k) ∧ w = w' ∧ MostIs b r p k := by
  have W := ruleWithin_any r 0 8
  have P := rulePages_any p
  have T := fun (k : Nat) w (h0 : 0 < k) (h : k ≤ 64) => ruleTotal_any k r p w ⟨by omega, by omega⟩ hr hp
  rw [show inB r 0 8 = true by simp [inB]; omega] at W
  rw [show inB p 2 16 = true by simp [inB]; omega] at P
  have hb' : ¬ 64 < b := by omega
  clear hr hp
  go_enter Try.func6, Try.ntmps6
  go_wp2_with (first
    | (go_at_call 11; refine (W _).mono ?_; rintro e w' ⟨rfl, rfl⟩)
    | (go_at_call 10; refine (P _).mono ?_; rintro e w' ⟨rfl, rfl⟩))
  go_loopw [7] (fun i wr => w = wr ∧ ∃ k : Nat, i = .int .i64 k ∧ k ≤ 64 ∧ ∀ j : Nat, k < j → j ≤ 64 → b < (j : Int) / p + 2 + r) (fun i _ => (intOf i).toNat)
  case atStart => exact ⟨rfl, 64, rfl, Nat.le_refl _, fun j h1 h2 => by omega⟩
  case round =>
    obtain ⟨rfl, k, rfl, hk, hall⟩ := hrel
    by_cases h0 : 0 < k
    · obtain ⟨t, ht⟩ : ∃ t, (k : Int) / p + 2 + r = t := ⟨_, rfl⟩
      have Tk := fun w => T k w h0 hk
      rw [ht] at Tk
      have HT := Lib.hid ht
      have HA := Lib.hid hall
      have h0' : (0 : Int) < k := by omega
      clear ht hall T
      by_cases hbt : b < t
      · go_wp2_with (go_at_call 7; refine (Tk _).mono ?_; rintro e w' ⟨rfl, rfl⟩)
        go_roundw
        case rel =>
          refine ⟨trivial, k - 1, by go_num, by omega, fun j h1 h2 => ?_⟩
          by_cases hj : j = k
          · subst hj; rw [HT.out]; exact hbt
          · exact HA.out j (by omega) h2
        case measure => simp [intOf]; omega
      · go_wp2_with (go_at_call 7; refine (Tk _).mono ?_; rintro e w' ⟨rfl, rfl⟩)
        go_ret
        exact ⟨k, rfl, rfl, hk, HA.out, .inr (by rw [HT.out]; omega)⟩
    · obtain rfl : k = 0 := by omega
      have HA := Lib.hid hall
      clear hall T h0
      go_wp2
      go_ret
      exact ⟨0, rfl, rfl, hk, HA.out, .inl rfl⟩

theorem ruleBound_four (w : World) :
    Calls Try.prog 9 #[.int .i64 4, .int .i64 0] w fun e w' => e = .returned (.int .i64 11) ∧ w = w' := by
  have W := ruleWithin_any 0 0 1048576
  have P := rulePages_any 4
  rw [show inB 0 0 1048576 = true by decide] at W
  rw [show inB 4 2 16 = true by decide] at P
  go_enter Try.func9, Try.ntmps9
  go_wp2_with (first
    | (go_at_call 11; refine (W _).mono ?_; rintro e w' ⟨rfl, rfl⟩)
    | (go_at_call 10; refine (P _).mono ?_; rintro e w' ⟨rfl, rfl⟩))
  go_ret
  exact ⟨rfl, rfl⟩

set_option maxHeartbeats 400000 in
theorem fixed9_any (w : World) : Calls Try.prog 4 #[] w fun e w' => e = .returned (.bool true) ∧ w = w' := by
  have D := fun w => ruleData_any 8 4 w (by decide) (by decide)
  have T := fun w => ruleTotal_any 8 1 4 w (by decide) (by decide) (by decide)
  have C0 := Lib.hid (show roomE 0 0 = 5 by decide)
  have C1 := Lib.hid (show roomE 1 8 = 0 by decide)
  have M := fun w => ruleMost_any 4 0 4 w (by decide) (by decide) (by decide)
  rw [show (8 : Int) / 4 + 2 = 4 by decide] at D
  rw [show (8 : Int) / 4 + 2 + 1 = 5 by decide] at T
  go_enter Try.func4, Try.ntmps4
  go_wp2_with (first
    | (go_at_call 5; refine (D _).mono ?_; rintro e w' ⟨rfl, rfl⟩)
    | (go_at_call 7; refine (T _).mono ?_; rintro e w' ⟨rfl, rfl⟩)
    | (go_at_call 8; refine (ruleCheck_any _ _ _).mono ?_; rintro e w' ⟨rfl, rfl⟩; first | rw [C0.out] | rw [C1.out])
    | (go_at_call 9; refine (ruleBound_four _).mono ?_; rintro e w' ⟨rfl, rfl⟩)
    | (go_at_call 6; refine (M _).mono ?_; rintro e w' ⟨k, rfl, rfl, h1, h2, h3⟩; obtain rfl : k = 11 := by have := h2 11; omega))
  go_ret
  exact ⟨rfl, rfl⟩

theorem room_facts {s p : Int} (s0 : 1 ≤ s) (s1 : s ≤ 64) (p0 : 2 ≤ p) (p1 : p ≤ 16) :
    0 ≤ s / p ∧ s / p ≤ 32 ∧ s < (s / p + 2 - 1) * p ∧ (s / p + 2 - 1) * p ≤ 528 := by
  have q0 : 0 ≤ s / p := Int.ediv_nonneg (by omega) (by omega)
  have q2 : s / p ≤ s / 2 := by
    rw [Int.le_ediv_iff_mul_le (by decide)]
    have h1 : s / p * 2 ≤ s / p * p := Int.mul_le_mul_of_nonneg_left p0 q0
    have h2 := Int.ediv_mul_le s (show p ≠ 0 by omega)
    omega
  have q3 : s < (s / p + 1) * p := Int.lt_ediv_add_one_mul_self s (by omega)
  have q4 : (s / p + 1) * p ≤ 33 * 16 := Int.mul_le_mul (by omega) p1 (by omega) (by omega)
  rw [show s / p + 2 - 1 = s / p + 1 by omega]
  omega

theorem most_le {s p : Int} {k : Nat} (s0 : 1 ≤ s) (s1 : s ≤ 64) (h : MostIs (s / p + 2) 0 p k) : s ≤ (k : Int) := by
  rcases Int.lt_or_le (k : Int) s with h1 | h1
  · have := h.2.1 s.toNat (by omega) (by omega)
    rw [Int.toNat_of_nonneg (by omega)] at this
    omega
  · exact h1

set_option maxHeartbeats 400000 in
theorem ruleRoom_any (a b : Int) (w : World) (ha : 0 ≤ a ∧ a ≤ 255) (hb : 0 ≤ b ∧ b ≤ 255) :
    Calls Try.prog 3 #[.int .u8 a, .int .u8 b] w fun e w' => e = .returned (.bool true) ∧ w = w' := by
  obtain ⟨a0, a1⟩ := ha
  obtain ⟨b0, b1⟩ := hb
  obtain ⟨x, hx⟩ : ∃ x, a % 64 = x := ⟨_, rfl⟩
  obtain ⟨y, hy⟩ : ∃ y, b % 15 = y := ⟨_, rfl⟩
  have x0 : 0 ≤ x ∧ x ≤ 63 := by omega
  have y0 : 0 ≤ y ∧ y ≤ 14 := by omega
  obtain ⟨x0, x1⟩ := x0
  obtain ⟨y0, y1⟩ := y0
  obtain ⟨q0, q1, q2, q3⟩ := room_facts (s := 1 + x) (p := 2 + y) (by omega) (by omega) (by omega) (by omega)
  have D := fun w => ruleData_any (1 + x) (2 + y) w ⟨by omega, by omega⟩ ⟨by omega, by omega⟩
  have M := fun w => ruleMost_any ((1 + x) / (2 + y) + 2) 0 (2 + y) w (by omega) (by decide) ⟨by omega, by omega⟩
  have F := fun k => most_le (s := 1 + x) (p := 2 + y) (k := k) (by omega) (by omega)
  obtain ⟨d, hd⟩ : ∃ d, (1 + x) / (2 + y) = d := ⟨_, rfl⟩
  rw [hd] at D M F q0 q1 q2 q3
  clear hd
  go_enter Try.func3, Try.ntmps3
  go_wp2_with (first
    | (go_at_call 4; refine (fixed9_any _).mono ?_; rintro e w' ⟨rfl, rfl⟩)
    | (go_at_call 5; refine (D _).mono ?_; rintro e w' ⟨rfl, rfl⟩)
    | (go_at_call 6; refine (M _).mono ?_; rintro e w' ⟨k, rfl, rfl, hm⟩; have hk := F k hm; clear hm))
  go_ret
  exact ⟨rfl, rfl⟩

end Go.Proofs.Ytjlecncamfdcfaa
