/-
  Package geom: within, Check, Blocks; the document's Check. What each answers; the world behind it.
-/
import Derived.Test.YtaobamnfgpllcaaWA
import Derived.Test.YtaobamnfgpllcaaLine
namespace Go.Proofs.Ytaobamnfgpllcaa
open Go.RowKit

/-- A struct of four integers, by value. -/
def four (a b c d : Int) : Value := .agg #[.int .i64 a, .int .i64 b, .int .i64 c, .int .i64 d]
/-- Its block, boxed. -/
def fourObj (a b c d : Int) (t : TypeId) : Obj := .cells #[.int .i64 a, .int .i64 b, .int .i64 c, .int .i64 d] t

def withinB (n m : Int) : Bool := decide (0 ≤ n ∧ n < m)

/-- Which geometries may be. -/
def geoE (c d b p : Int) : Int :=
  if c < 1 ∨ d < 1 ∨ b < 1 ∨ p < 2 then 1 else if c > 64 ∨ d > 64 ∨ b > 64 ∨ p > 16 then 4 else if c * d * b < 3 then 1 else if c * d * b > 64 then 4 else 0

theorem mul3_bd {c d b : Int} (hc : 1 ≤ c) (hc' : c ≤ 64) (hd : 1 ≤ d) (hd' : d ≤ 64) (hb : 1 ≤ b) (hb' : b ≤ 64) : 1 ≤ c * d ∧ c * d ≤ 4096 ∧ 1 ≤ c * d * b ∧ c * d * b ≤ 262144 := by
  have h1 : 1 * 1 ≤ c * d := Int.mul_le_mul hc hd (by decide) (by omega)
  have h2 : c * d ≤ 64 * 64 := Int.mul_le_mul hc' hd' (by omega) (by decide)
  have h3 : 1 * 1 ≤ c * d * b := Int.mul_le_mul (by omega) hb (by decide) (by omega)
  have h4 : c * d * b ≤ 4096 * 64 := Int.mul_le_mul (by omega) hb' (by omega) (by decide)
  omega


set_option maxHeartbeats 1000000 in
theorem check_any (c d b p : Int) (w : World) :
    Calls Try.prog 35 #[four c d b p] w fun e w' => e = .returned (.int .i64 (geoE c d b p)) ∧ w.alloc (fourObj c d b p 23) = w' := by
  unfold four fourObj
  by_cases h1 : c < 1 ∨ d < 1 ∨ b < 1 ∨ p < 2
  · have G : Hid (geoE c d b p = 1) := Lib.hid (by unfold geoE; rw [if_pos h1])
    go_enter Try.func35, Try.ntmps35
    go_wp2
    all_goals
      go_ret
      exact ⟨ret_int G.out.symm, rfl⟩
  · by_cases h2 : c > 64 ∨ d > 64 ∨ b > 64 ∨ p > 16
    · have G : Hid (geoE c d b p = 4) := Lib.hid (by unfold geoE; rw [if_neg h1, if_pos h2])
      have g1 : 1 ≤ c := by omega
      have g2 : 1 ≤ d := by omega
      have g3 : 1 ≤ b := by omega
      have g4 : 2 ≤ p := by omega
      clear h1
      go_enter Try.func35, Try.ntmps35
      go_wp2
      all_goals
        go_ret
        exact ⟨ret_int G.out.symm, rfl⟩
    · have g1 : 1 ≤ c := by omega
      have g2 : 1 ≤ d := by omega
      have g3 : 1 ≤ b := by omega
      have g4 : 2 ≤ p := by omega
      have k1 : c ≤ 64 := by omega
      have k2 : d ≤ 64 := by omega
      have k3 : b ≤ 64 := by omega
      have k4 : p ≤ 16 := by omega
      obtain ⟨m1, m2, m3, m4⟩ := mul3_bd g1 k1 g2 k2 g3 k3
      have G : Hid (geoE c d b p = if c * d * b < 3 then 1 else if c * d * b > 64 then 4 else 0) := Lib.hid (by unfold geoE; rw [if_neg h1, if_neg h2])
      clear h1 h2
      by_cases h3 : c * d * b < 3
      · have G2 : Hid (geoE c d b p = 1) := Lib.hid (by rw [G.out, if_pos h3])
        clear G
        go_enter Try.func35, Try.ntmps35
        go_wp2
        all_goals
          go_ret
          exact ⟨ret_int G2.out.symm, rfl⟩
      · by_cases h5 : c * d * b > 64
        · have G2 : Hid (geoE c d b p = 4) := Lib.hid (by rw [G.out, if_neg h3, if_pos h5])
          have h3' : 3 ≤ c * d * b := by omega
          clear h3 G
          go_enter Try.func35, Try.ntmps35
          go_wp2
          all_goals
            go_ret
            exact ⟨ret_int G2.out.symm, rfl⟩
        · have G2 : Hid (geoE c d b p = 0) := Lib.hid (by rw [G.out, if_neg h3, if_neg h5])
          have h3' : 3 ≤ c * d * b := by omega
          have h5' : c * d * b ≤ 64 := by omega
          clear h3 h5 G
          go_enter Try.func35, Try.ntmps35
          go_wp2
          all_goals
            go_ret
            exact ⟨ret_int G2.out.symm, rfl⟩

end Go.Proofs.Ytaobamnfgpllcaa
