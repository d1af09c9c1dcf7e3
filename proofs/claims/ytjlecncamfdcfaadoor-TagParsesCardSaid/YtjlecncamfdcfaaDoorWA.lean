/-
  The walks of the small functions of package word that make no memory: isSize, Fits (and the document's), stopped.
-/
import Derived.Test.YtjlecncamfdcfaaDoorRows
import Derived.WalkKit
import Derived.WalkSpells
import Derived.WalkLawsBesides
import Derived.BigQuiet
import Derived.Deep.QuietTactic
import Derived.Lib.Hide
namespace Go.Proofs.YtjlecncamfdcfaaDoor
open Go.RowKit

theorem ret_bool {a b : Bool} (h : a = b) : Ending.returned (.bool a) = .returned (.bool b) := by rw [h]
theorem ret_int {k : IntKind} {a b : Int} (h : a = b) : Ending.returned (.int k a) = .returned (.int k b) := by rw [h]

def sizeB (n : Int) : Bool := decide (n = 1 ∨ n = 2 ∨ n = 4)

set_option maxHeartbeats 400000 in
theorem isSize_any (n : Int) (w : World) :
    Calls Tryd.prog 38 #[.int .i64 n] w fun e w' => e = .returned (.bool (sizeB n)) ∧ w = w' := by
  by_cases h1 : n = 1
  · subst h1
    go_enter Tryd.func38, Tryd.ntmps38
    go_wp2
    go_ret
    exact ⟨ret_bool (by simp [sizeB]), rfl⟩
  · by_cases h2 : n = 2
    · subst h2
      go_enter Tryd.func38, Tryd.ntmps38
      go_wp2
      go_ret
      exact ⟨ret_bool (by simp [sizeB]), rfl⟩
    · have e1 : (n == 1) = false := by simpa using h1
      have e2 : (n == 2) = false := by simpa using h2
      go_enter Tryd.func38, Tryd.ntmps38
      go_wp2
      go_ret
      refine ⟨ret_bool ?_, rfl⟩
      rw [Bool.eq_iff_iff]
      simp [sizeB]
      omega

/-- Whether a number can be written by so many bytes. -/
def fitsB (v n : Int) : Bool := decide (0 ≤ v ∧ ((n = 1 ∧ v ≤ 255) ∨ (n = 2 ∧ v ≤ 65535) ∨ (n = 4 ∧ v ≤ 4294967295)))

theorem fits_u64 (v : Int) (h0 : 0 ≤ v) (h1 : v ≤ 9223372036854775807) : IntKind.u64.wrap v = v := by
  simp [IntKind.wrap, IntKind.bits, IntKind.signed]
  omega

set_option maxHeartbeats 400000 in
theorem fits_any (v n : Int) (w : World) (hv9 : v ≤ 9223372036854775807) :
    Calls Tryd.prog 31 #[.int .i64 v, .int .i64 n] w fun e w' => e = .returned (.bool (fitsB v n)) ∧ w = w' := by
  by_cases hs : sizeB n = true
  · have hn : n = 1 ∨ n = 2 ∨ n = 4 := by simpa [sizeB] using hs
    by_cases hv : 0 ≤ v
    · have hu := fits_u64 v hv hv9
      rcases hn with rfl | rfl | rfl
      all_goals
        go_enter Tryd.func31, Tryd.ntmps31
        go_wp2_with (go_at_call 38; refine (isSize_any _ _).mono ?_; rintro e w' ⟨rfl, rfl⟩)
        go_ret
        refine ⟨ret_bool ?_, rfl⟩
        rw [Bool.eq_iff_iff]
        simp [fitsB]
        omega
    · have hv0 : decide (0 ≤ v) = false := by simpa using hv
      go_enter Tryd.func31, Tryd.ntmps31
      go_wp2_with (go_at_call 38; refine (isSize_any _ _).mono ?_; rintro e w' ⟨rfl, rfl⟩)
      go_ret
      refine ⟨ret_bool ?_, rfl⟩
      simp [fitsB]
      omega
  · have hs' : sizeB n = false := by simpa using hs
    go_enter Tryd.func31, Tryd.ntmps31
    go_wp2_with (go_at_call 38; refine (isSize_any _ _).mono ?_; rintro e w' ⟨rfl, rfl⟩)
    go_ret
    refine ⟨ret_bool ?_, rfl⟩
    have hn : ¬ (n = 1 ∨ n = 2 ∨ n = 4) := by simpa [sizeB] using hs'
    rw [Bool.eq_iff_iff]
    simp [fitsB]
    omega

set_option maxHeartbeats 400000 in
theorem refFits_any (v n : Int) (w : World) :
    Calls Tryd.prog 35 #[.int .i64 v, .int .i64 n] w fun e w' => e = .returned (.bool (fitsB v n)) ∧ w = w' := by
  have cases : n = 1 ∨ n = 2 ∨ n = 4 ∨ (¬ n = 1 ∧ ¬ n = 2 ∧ ¬ n = 4) := by omega
  rcases cases with rfl | rfl | rfl | ⟨h1, h2, h4⟩
  all_goals
    by_cases hv : 0 ≤ v
    all_goals
      go_enter Tryd.func35, Tryd.ntmps35
      go_wp2
      all_goals
        go_ret
        refine ⟨ret_bool ?_, rfl⟩
        rw [Bool.eq_iff_iff]
        simp [fitsB]
        omega

end Go.Proofs.YtjlecncamfdcfaaDoor
