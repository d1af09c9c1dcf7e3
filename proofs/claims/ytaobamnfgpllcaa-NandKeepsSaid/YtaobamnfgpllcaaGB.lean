/-
  Package geom: Blocks; the document's Check.
-/
import Derived.Test.YtaobamnfgpllcaaGA
namespace Go.Proofs.Ytaobamnfgpllcaa
open Go.RowKit

theorem geo_ok {c d b p : Int} (h : geoE c d b p = 0) : (1 ≤ c ∧ c ≤ 64) ∧ (1 ≤ d ∧ d ≤ 64) ∧ (1 ≤ b ∧ b ≤ 64) ∧ (2 ≤ p ∧ p ≤ 16) ∧ 3 ≤ c * d * b ∧ c * d * b ≤ 64 := by
  unfold geoE at h
  repeat (split at h; · omega)
  omega

def blocksN (c d b p : Int) : Int := if geoE c d b p = 0 then c * d * b else 0

set_option maxHeartbeats 400000 in
theorem blocks_any (c d b p : Int) (w : World) :
    Calls Try.prog 36 #[four c d b p] w fun e w' => e = .returned (.int .i64 (blocksN c d b p)) ∧ (w.alloc (fourObj c d b p 23)).alloc (fourObj c d b p 23) = w' := by
  by_cases h : geoE c d b p = 0
  · obtain ⟨g1, g2, g3, g4, g5, g6⟩ := geo_ok h
    obtain ⟨m1, m2, m3, m4⟩ := mul3_bd g1.1 g1.2 g2.1 g2.2 g3.1 g3.2
    have G : Hid (blocksN c d b p = c * d * b) := Lib.hid (by unfold blocksN; rw [if_pos h])
    have H := Lib.hid h
    clear h
    have C := check_any c d b p
    unfold four fourObj at *
    go_enter Try.func36, Try.ntmps36
    go_wp2_with (go_at_call 35; refine (C _).mono ?_; rintro e w' ⟨rfl, rfl⟩; rw [H.out])
    go_ret
    exact ⟨ret_int G.out.symm, rfl⟩
  · have G : Hid (blocksN c d b p = 0) := Lib.hid (by unfold blocksN; rw [if_neg h])
    have h' : (geoE c d b p == 0) = false := by simpa using h
    have C := check_any c d b p
    unfold four fourObj at *
    go_enter Try.func36, Try.ntmps36
    go_wp2_with (go_at_call 35; refine (C _).mono ?_; rintro e w' ⟨rfl, rfl⟩)
    go_ret
    exact ⟨ret_int G.out.symm, rfl⟩


end Go.Proofs.Ytaobamnfgpllcaa
