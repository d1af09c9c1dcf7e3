/-
  The laws of layer 4: the fixed facts.
-/
import Derived.Test.YtlbgakhoillpcaaGF
namespace Go.Proofs.Ytlbgakhoillpcaa
open Go.RowKit

theorem split_is {c d b p n : Int} {w : World} (h : geoE c d b p = 0) (hn : 0 ≤ n ∧ n < c * d * b * p) {x y z u : Int} (hx : spC c d p n = x) (hy : spD c d p n = y) (hz : spB c d p n = z) (hu : spP c d p n = u) :
    Calls Try.prog 27 #[four c d b p, .int .i64 n] w (Four2 w x y z u 0) := by subst hx hy hz hu; exact split_good c d b p n w h hn
theorem join_is {c d b p x y z u : Int} {w : World} {v err : Int} (hv : jonV c d b p x y z u = v) (he : jonE c d b p x y z u = err) :
    Calls Try.prog 28 #[four c d b p, four x y z u] w (Two w v err) := by subst hv he; exact join_any c d b p x y z u w
theorem block_is {c d b p x y z u : Int} {w : World} {v err : Int} (hv : blkV c d b p x y z = v) (he : blkE c d b p x y z = err) :
    Calls Try.prog 29 #[four c d b p, four x y z u] w (Two w v err) := by subst hv he; exact block_any c d b p x y z u w
theorem blocks_is {c d b p : Int} {w : World} {v : Int} (hv : blocksN c d b p = v) :
    Calls Try.prog 34 #[four c d b p] w fun e w' => e = .returned (.int .i64 v) ∧ (w.alloc (fourObj c d b p 45)).alloc (fourObj c d b p 45) = w' := by subst hv; exact blocks_any c d b p w
theorem check_is {c d b p : Int} {w : World} {v : Int} (hv : geoE c d b p = v) :
    Calls Try.prog 35 #[four c d b p] w fun e w' => e = .returned (.int .i64 v) ∧ w.alloc (fourObj c d b p 45) = w' := by subst hv; exact check_any c d b p w

/-- A call answers true; what was there stands, and there is more. -/
def True4 (w : World) (e : Ending) (w' : World) : Prop := e = .returned (.bool true) ∧ Below w.heap.size w w'

set_option maxHeartbeats 1000000 in
theorem fixed4_any (w : World) : Calls Try.prog 24 #[] w (True4 w) := by
  have S := fun v => @split_is 2 1 3 4 5 v (by decide) (by decide) 1 0 0 1 (by decide) (by decide) (by decide) (by decide)
  have J := fun v => @join_is 2 1 3 4 1 0 2 3 v 23 0 (by decide) (by decide)
  have B := fun v => @blocks_is 2 1 3 4 v 6 (by decide)
  have K := fun v => @check_is 0 0 0 0 v 1 (by decide)
  unfold four fourObj at *
  go_enter Try.func24, Try.ntmps24
  go_wp2_with (first
    | (go_at_call 27; refine (S _).mono ?_; rintro e w1 ⟨he, hb1, hz1⟩; unfold four at he; subst he; have Q := (box4_new w 2 1 3 4 45).below hb1 (by simp); have hz : w.heap.size < w1.heap.size := (by simp at hz1; omega); obtain ⟨q0, q1, q2, q3⟩ := Q.below ((Below.refl _ w1).alloc (Nat.le_refl _) (.cells #[.int .i64 1, .int .i64 0, .int .i64 0, .int .i64 1] 47)) hz)
    | (go_at_call 28; refine (J _).mono ?_; rintro e w2 ⟨rfl, hb2, hz2⟩; obtain ⟨u0, u1, u2, u3⟩ := Box4.below ⟨q0, q1, q2, q3⟩ hb2 (by simp; omega); obtain ⟨t0, t1, t2, t3⟩ := (box4_new w1 1 0 0 1 47).below hb2 (by simp))
    | (go_at_call 34; refine (B _).mono ?_; rintro e w' ⟨rfl, rfl⟩)
    | (go_at_call 35; refine (K _).mono ?_; rintro e w' ⟨rfl, rfl⟩))
  go_ret
  have hz3 : w1.heap.size < w2.heap.size := by simp at hz2; omega
  have A := ((Below.refl w.heap.size w).alloc (Nat.le_refl _) (.cells #[.int .i64 2, .int .i64 1, .int .i64 3, .int .i64 4] 45)).trans (hb1.mono (by simp))
  have A2 := (A.alloc (by omega) (.cells #[.int .i64 1, .int .i64 0, .int .i64 0, .int .i64 1] 47)).trans (hb2.mono (by simp; omega))
  exact ⟨rfl, ((A2.alloc (by omega) _).alloc (by simp; omega) _).alloc (by simp; omega) _⟩

end Go.Proofs.Ytlbgakhoillpcaa
