/-
  Package ledger: within, isTenant, isPlace, missing; the document's there and room.
-/
import Derived.Test.YtkcdddpbmbhelaaEA
import Derived.Test.YtkcdddpbmbhelaaUA
namespace Go.Proofs.Ytkcdddpbmbhelaa
open Go.RowKit

set_option maxHeartbeats 400000 in
theorem within10_any (v l m : Int) (w : World) :
    Calls Try.prog 31 #[.int .i64 v, .int .i64 l, .int .i64 m] w fun e w' => e = .returned (.bool (inB v l m)) ∧ w = w' := by
  by_cases h0 : l ≤ v
  · have e0 : decide (l ≤ v) = true := by simpa using h0
    go_enter Try.func31, Try.ntmps31
    go_wp2
    go_ret
    exact ⟨ret_bool (by simp [inB, h0]), rfl⟩
  · have e0 : decide (l ≤ v) = false := by simpa using h0
    go_enter Try.func31, Try.ntmps31
    go_wp2
    go_ret
    exact ⟨ret_bool (by simp [inB]; omega), rfl⟩

theorem isTenant_any (t : Int) (w : World) :
    Calls Try.prog 19 #[.int .i64 t] w fun e w' => e = .returned (.bool (inB t 0 3)) ∧ w = w' := by
  go_enter Try.func19, Try.ntmps19
  go_wp2_with (go_at_call 31; refine (within10_any _ _ _ _).mono ?_; rintro e w' ⟨rfl, rfl⟩)
  go_ret
  exact ⟨rfl, rfl⟩

theorem isPlace_any (a : Option Addr) (n c : Nat) (i : Int) (w : World) (hn : n ≤ maxLen) :
    Calls Try.prog 26 #[.slice a n c, .int .i64 i] w fun e w' => e = .returned (.bool (inB i 0 (n - 1))) ∧ w = w' := by
  unfold maxLen at hn
  go_enter Try.func26, Try.ntmps26
  go_wp2_with (go_at_call 31; refine (within10_any _ _ _ _).mono ?_; rintro e w' ⟨rfl, rfl⟩)
  go_ret
  exact ⟨rfl, rfl⟩

/-- What is wrong with asking for a tenant. -/
def missT (L : Led) (t : Int) : Int := if inB t 0 3 = true then (if (L.t t.toNat).th = true then 0 else 6) else 5

set_option maxHeartbeats 400000 in
theorem missing10_any (L : Led) (V : Nat → Value) (t : Int) (w : World) :
    Calls Try.prog 24 #[.agg (ledC L V), .int .i64 t] w fun e w' => e = .returned (.int .i64 (missT L t)) ∧ Ext w w' := by
  have hE := World.grownBy_alloc w (.cells (ledC L V) 27) none
  have hB := Blk.new w 27 (ledC L V)
  by_cases ht : inB t 0 3 = true
  · obtain ⟨k, rfl⟩ : ∃ k : Nat, t = k := ⟨t.toNat, by simp [inB] at ht; omega⟩
    have hk : k < 4 := by simp [inB] at ht; omega
    have T := fun w => isTenant_any k w
    rw [ht] at T
    have c := (hB.cell _).trans (led_th L V hk)
    unfold missT
    rw [if_pos ht]
    simp only [Int.toNat_natCast]
    obtain ⟨b, hb⟩ : ∃ b, (L.t k).th = b := ⟨_, rfl⟩
    rw [hb] at c
    simp only [hb]
    have HE := Lib.hid hE
    clear hE hB ht hb
    cases b
    all_goals
      simp only [if_true, Bool.false_eq_true, if_false]
      go_enter Try.func24, Try.ntmps24
      go_wp2_with (go_at_call 19; refine (T _).mono ?_; rintro e w' ⟨rfl, rfl⟩)
      go_ret
      exact ⟨rfl, HE.out⟩
  · have ht : inB t 0 3 = false := by simpa using ht
    have T := fun w => isTenant_any t w
    rw [ht] at T
    unfold missT
    rw [ht]
    have HE := Lib.hid hE
    clear hE hB ht
    go_enter Try.func24, Try.ntmps24
    go_wp2_with (go_at_call 19; refine (T _).mono ?_; rintro e w' ⟨rfl, rfl⟩)
    go_ret
    exact ⟨rfl, HE.out⟩

def rightB (s r p : Int) : Bool := inB s 1 64 && inB r 0 8 && inB p 2 16

theorem rightB_no {s r p : Int} (h : ¬ (1 ≤ s ∧ s ≤ 64 ∧ 0 ≤ r ∧ r ≤ 8 ∧ 2 ≤ p ∧ p ≤ 16)) : rightB s r p = false := by
  cases hr : rightB s r p
  · rfl
  · exact (h (by simp [rightB, inB] at hr; omega)).elim
theorem rightB_yes {s r p : Int} (h : 1 ≤ s ∧ s ≤ 64 ∧ 0 ≤ r ∧ r ≤ 8 ∧ 2 ≤ p ∧ p ≤ 16) : rightB s r p = true := by
  simp [rightB, inB]
  omega
set_option maxHeartbeats 800000 in
theorem ref9Right_any (s r p : Int) (w : World) :
    Calls Try.prog 37 #[.int .i64 s, .int .i64 r, .int .i64 p] w fun e w' => e = .returned (.bool (rightB s r p)) ∧ w = w' := by
  obtain ⟨b, hb⟩ : ∃ b, rightB s r p = b := ⟨_, rfl⟩
  rw [hb]
  have HB := Lib.hid hb
  clear hb
  have ways : s < 1 ∨ (1 ≤ s ∧ 64 < s) ∨ (1 ≤ s ∧ s ≤ 64 ∧ r < 0) ∨ (1 ≤ s ∧ s ≤ 64 ∧ 0 ≤ r ∧ 8 < r) ∨ (1 ≤ s ∧ s ≤ 64 ∧ 0 ≤ r ∧ r ≤ 8 ∧ p < 2) ∨ (1 ≤ s ∧ s ≤ 64 ∧ 0 ≤ r ∧ r ≤ 8 ∧ 2 ≤ p ∧ 16 < p) ∨ (1 ≤ s ∧ s ≤ 64 ∧ 0 ≤ r ∧ r ≤ 8 ∧ 2 ≤ p ∧ p ≤ 16) := by omega
  rcases ways with h | ⟨h1, h⟩ | ⟨h1, h2, h⟩ | ⟨h1, h2, h3, h⟩ | ⟨h1, h2, h3, h4, h⟩ | ⟨h1, h2, h3, h4, h5, h⟩ | ⟨h1, h2, h3, h4, h5, h⟩
  · have e1 : decide (1 ≤ s) = false := by simpa using h
    obtain rfl : b = false := HB.out.symm.trans (rightB_no (by omega))
    go_enter Try.func37, Try.ntmps37
    go_wp2
    go_ret
    exact ⟨rfl, rfl⟩
  · have e1 : decide (1 ≤ s) = true := by simpa using h1
    have e2 : decide (s ≤ 64) = false := by simpa using h
    obtain rfl : b = false := HB.out.symm.trans (rightB_no (by omega))
    go_enter Try.func37, Try.ntmps37
    go_wp2
    go_ret
    exact ⟨rfl, rfl⟩
  · have e1 : decide (1 ≤ s) = true := by simpa using h1
    have e2 : decide (s ≤ 64) = true := by simpa using h2
    have e3 : decide (0 ≤ r) = false := by simpa using h
    obtain rfl : b = false := HB.out.symm.trans (rightB_no (by omega))
    go_enter Try.func37, Try.ntmps37
    go_wp2
    go_ret
    exact ⟨rfl, rfl⟩
  · have e1 : decide (1 ≤ s) = true := by simpa using h1
    have e2 : decide (s ≤ 64) = true := by simpa using h2
    have e3 : decide (0 ≤ r) = true := by simpa using h3
    have e4 : decide (r ≤ 8) = false := by simpa using h
    obtain rfl : b = false := HB.out.symm.trans (rightB_no (by omega))
    go_enter Try.func37, Try.ntmps37
    go_wp2
    go_ret
    exact ⟨rfl, rfl⟩
  · have e1 : decide (1 ≤ s) = true := by simpa using h1
    have e2 : decide (s ≤ 64) = true := by simpa using h2
    have e3 : decide (0 ≤ r) = true := by simpa using h3
    have e4 : decide (r ≤ 8) = true := by simpa using h4
    have e5 : decide (2 ≤ p) = false := by simpa using h
    obtain rfl : b = false := HB.out.symm.trans (rightB_no (by omega))
    go_enter Try.func37, Try.ntmps37
    go_wp2
    go_ret
    exact ⟨rfl, rfl⟩
  · have e1 : decide (1 ≤ s) = true := by simpa using h1
    have e2 : decide (s ≤ 64) = true := by simpa using h2
    have e3 : decide (0 ≤ r) = true := by simpa using h3
    have e4 : decide (r ≤ 8) = true := by simpa using h4
    have e5 : decide (2 ≤ p) = true := by simpa using h5
    have e6 : decide (p ≤ 16) = false := by simpa using h
    obtain rfl : b = false := HB.out.symm.trans (rightB_no (by omega))
    go_enter Try.func37, Try.ntmps37
    go_wp2
    go_ret
    exact ⟨rfl, rfl⟩
  · have e1 : decide (1 ≤ s) = true := by simpa using h1
    have e2 : decide (s ≤ 64) = true := by simpa using h2
    have e3 : decide (0 ≤ r) = true := by simpa using h3
    have e4 : decide (r ≤ 8) = true := by simpa using h4
    have e5 : decide (2 ≤ p) = true := by simpa using h5
    have e6 : decide (p ≤ 16) = true := by simpa using h
    obtain rfl : b = true := HB.out.symm.trans (rightB_yes (by omega))
    go_enter Try.func37, Try.ntmps37
    go_wp2
    go_ret
    exact ⟨rfl, rfl⟩

theorem roomE_right (s r : Int) : roomE s r = if rightB s r 2 = true then 0 else 5 := by
  have e : (inB s 1 64 = true ∧ inB r 0 8 = true) ↔ rightB s r 2 = true := by simp [rightB, inB]
  unfold roomE
  by_cases h : rightB s r 2 = true
  · rw [if_pos h, if_pos (e.2 h)]
  · rw [if_neg h, if_neg (fun x => h (e.1 x))]

theorem needed_any (s r p : Int) (w : World) (hs : 1 ≤ s ∧ s ≤ 64) (hr : 0 ≤ r ∧ r ≤ 8) (hp : 2 ≤ p ∧ p ≤ 16) :
    Calls Try.prog 9 #[.int .i64 s, .int .i64 r, .int .i64 p] w fun e w' => e = .returned (.int .i64 (s / p + 2 + r)) ∧ w = w' := by
  obtain ⟨s0, s1⟩ := hs
  obtain ⟨p0, p1⟩ := hp
  obtain ⟨r0, r1⟩ := hr
  have q0 : 0 ≤ s / p := Int.ediv_nonneg (by omega) (by omega)
  have q1 : s / p ≤ 64 := Int.le_trans (Int.ediv_le_self _ (by omega)) s1
  go_enter Try.func9, Try.ntmps9
  go_wp2
  go_ret
  exact ⟨rfl, rfl⟩

end Go.Proofs.Ytkcdddpbmbhelaa
