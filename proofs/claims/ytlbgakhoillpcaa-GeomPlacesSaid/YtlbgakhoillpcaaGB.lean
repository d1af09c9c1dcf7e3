/-
  Package geom: Blocks; the document's Check.
-/
import Derived.Test.YtlbgakhoillpcaaGA
namespace Go.Proofs.Ytlbgakhoillpcaa
open Go.RowKit

theorem geo_ok {c d b p : Int} (h : geoE c d b p = 0) : (1 ≤ c ∧ c ≤ 64) ∧ (1 ≤ d ∧ d ≤ 64) ∧ (1 ≤ b ∧ b ≤ 64) ∧ (2 ≤ p ∧ p ≤ 16) ∧ 3 ≤ c * d * b ∧ c * d * b ≤ 64 := by
  unfold geoE at h
  repeat (split at h; · omega)
  omega

def blocksN (c d b p : Int) : Int := if geoE c d b p = 0 then c * d * b else 0

set_option maxHeartbeats 400000 in
theorem blocks_any (c d b p : Int) (w : World) :
    Calls Try.prog 34 #[four c d b p] w fun e w' => e = .returned (.int .i64 (blocksN c d b p)) ∧ (w.alloc (fourObj c d b p 45)).alloc (fourObj c d b p 45) = w' := by
  by_cases h : geoE c d b p = 0
  · obtain ⟨g1, g2, g3, g4, g5, g6⟩ := geo_ok h
    obtain ⟨m1, m2, m3, m4⟩ := mul3_bd g1.1 g1.2 g2.1 g2.2 g3.1 g3.2
    have G : Hid (blocksN c d b p = c * d * b) := Lib.hid (by unfold blocksN; rw [if_pos h])
    have H := Lib.hid h
    clear h
    have C := check_any c d b p
    unfold four fourObj at *
    go_enter Try.func34, Try.ntmps34
    go_wp2_with (go_at_call 35; refine (C _).mono ?_; rintro e w' ⟨rfl, rfl⟩; rw [H.out])
    go_ret
    exact ⟨ret_int G.out.symm, rfl⟩
  · have G : Hid (blocksN c d b p = 0) := Lib.hid (by unfold blocksN; rw [if_neg h])
    have h' : (geoE c d b p == 0) = false := by simpa using h
    have C := check_any c d b p
    unfold four fourObj at *
    go_enter Try.func34, Try.ntmps34
    go_wp2_with (go_at_call 35; refine (C _).mono ?_; rintro e w' ⟨rfl, rfl⟩)
    go_ret
    exact ⟨ret_int G.out.symm, rfl⟩

set_option maxHeartbeats 1000000 in
theorem refCheck_any (c d b p : Int) (w : World) :
    Calls Try.prog 25 #[four c d b p] w fun e w' => e = .returned (.int .i64 (geoE c d b p)) ∧ w.alloc (fourObj c d b p 45) = w' := by
  unfold four fourObj
  by_cases h1 : c < 1 ∨ d < 1 ∨ b < 1 ∨ p < 2
  · have G : Hid (geoE c d b p = 1) := Lib.hid (by unfold geoE; rw [if_pos h1])
    go_enter Try.func25, Try.ntmps25
    go_wp2
    all_goals
      go_ret
      exact ⟨ret_int G.out.symm, rfl⟩
  · by_cases h2 : c > 64 ∨ d > 64 ∨ b > 64 ∨ p > 16
    · have G : Hid (geoE c d b p = 4) := Lib.hid (by unfold geoE; rw [if_neg h1, if_pos h2])
      have g1 : 1 ≤ c := by omega
      have g2 : 1 ≤ d := by omega
      have g3 : 1 ≤ b := by omega
      have g4 : 2 ≤ p := by omega
      clear h1
      go_enter Try.func25, Try.ntmps25
      go_wp2
      all_goals
        go_ret
        exact ⟨ret_int G.out.symm, rfl⟩
    · have g1 : 1 ≤ c := by omega
      have g2 : 1 ≤ d := by omega
      have g3 : 1 ≤ b := by omega
      have g4 : 2 ≤ p := by omega
      have k1 : c ≤ 64 := by omega
      have k2 : d ≤ 64 := by omega
      have k3 : b ≤ 64 := by omega
      have k4 : p ≤ 16 := by omega
      obtain ⟨m1, m2, m3, m4⟩ := mul3_bd g1 k1 g2 k2 g3 k3
      have G : Hid (geoE c d b p = if c * d * b < 3 then 1 else if c * d * b > 64 then 4 else 0) := Lib.hid (by unfold geoE; rw [if_neg h1, if_neg h2])
      clear h1 h2
      have part : (c * d * b < 3 ∧ geoE c d b p = 1) ∨ (64 < c * d * b ∧ 3 ≤ c * d * b ∧ geoE c d b p = 4) ∨ (c * d * b ≤ 64 ∧ 3 ≤ c * d * b ∧ geoE c d b p = 0) := by
        rw [G.out]
        repeat (first | (rw [if_pos (by assumption)]; omega) | split)
        all_goals omega
      clear G
      rcases part with ⟨h3, h4⟩ | ⟨h3, h5, h4⟩ | ⟨h3, h5, h4⟩
      all_goals
        have G := Lib.hid h4
        clear h4
        go_enter Try.func25, Try.ntmps25
        go_wp2
        all_goals
          go_ret
          exact ⟨ret_int G.out.symm, rfl⟩

end Go.Proofs.Ytlbgakhoillpcaa
