/-
  Package geom: Block, Join.
-/
import Derived.Test.YtlbgakhoillpcaaGE
namespace Go.Proofs.Ytlbgakhoillpcaa
open Go.RowKit

def Two (w : World) (v err : Int) (e : Ending) (w' : World) : Prop :=
  e = .returned (.tuple #[.int .i64 v, .int .i64 err]) ∧ Below w.heap.size w w' ∧ w.heap.size < w'.heap.size

def inG (c d b x y z : Int) : Bool := withinB x c && withinB y d && withinB z b
def blkE (c d b p x y z : Int) : Int := if geoE c d b p = 0 then (if inG c d b x y z = true then 0 else 5) else geoE c d b p
def blkV (c d b p x y z : Int) : Int := if blkE c d b p x y z = 0 then x + c * (y + d * z) else 0
def jonE (c d b p x y z u : Int) : Int := if blkE c d b p x y z = 0 then (if withinB u p = true then 0 else 5) else blkE c d b p x y z
def jonV (c d b p x y z u : Int) : Int := if jonE c d b p x y z u = 0 then blkV c d b p x y z * p + u else 0

theorem below3 {w : World} (o1 o2 o3 : Obj) : Below w.heap.size w (((w.alloc o1).alloc o2).alloc o3) :=
  (((Below.refl _ w).alloc (Nat.le_refl _) _).alloc (by simp) _).alloc (by simp; omega) _

theorem mul_bd {d z : Int} (h0 : 0 ≤ d) (h1 : d ≤ 64) (z0 : 0 ≤ z) (z1 : z ≤ 10000) : 0 ≤ d * z ∧ d * z ≤ 640000 :=
  ⟨Int.mul_nonneg h0 z0, Int.mul_le_mul h1 z1 z0 (by decide)⟩

set_option maxHeartbeats 1000000 in
theorem block_any (c d b p x y z u : Int) (w : World) :
    Calls Try.prog 29 #[four c d b p, four x y z u] w (Two w (blkV c d b p x y z) (blkE c d b p x y z)) := by
  have C := check_any c d b p
  by_cases h : geoE c d b p = 0
  · obtain ⟨g1, g2, g3, g4, g5, g6⟩ := geo_ok h
    rw [h] at C
    by_cases hin : inG c d b x y z = true
    · have E : blkE c d b p x y z = 0 := by unfold blkE; rw [if_pos h, if_pos hin]
      have V : blkV c d b p x y z = x + c * (y + d * z) := by unfold blkV; rw [if_pos E]
      rw [E, V]
      simp only [inG, Bool.and_eq_true] at hin
      obtain ⟨⟨i1, i2⟩, i3⟩ := hin
      have x1 : 0 ≤ x ∧ x < c := by simpa [withinB] using i1
      have y1 : 0 ≤ y ∧ y < d := by simpa [withinB] using i2
      have z1 : 0 ≤ z ∧ z < b := by simpa [withinB] using i3
      have m1 := mul_bd (d := d) (z := z) (by omega) (by omega) (by omega) (by omega)
      have m2 : 0 ≤ y + d * z ∧ y + d * z ≤ 10000 := by
        have := Int.mul_le_mul g2.2 (show z ≤ 64 by omega) z1.1 (by decide)
        omega
      have m3 := mul_bd (d := c) (z := y + d * z) (by omega) (by omega) m2.1 m2.2
      have W1 := Lib.hid i1
      have W2 := Lib.hid i2
      have W3 := Lib.hid i3
      clear i1 i2 i3 h E V g5 g6
      unfold four fourObj at *
      go_enter Try.func29, Try.ntmps29
      go_wp2_with (first
        | (go_at_call 35; refine (C _).mono ?_; rintro e w' ⟨rfl, rfl⟩)
        | (go_at_call 36; refine (within_any _ _ _).mono ?_; rintro e w' ⟨rfl, rfl⟩; (first | rw [W1.out] | rw [W2.out] | rw [W3.out])))
      go_ret2
      exact ⟨rfl, below3 _ _ _, by simp; omega⟩
    · have E : blkE c d b p x y z = 5 := by unfold blkE; rw [if_pos h, if_neg hin]
      have V : blkV c d b p x y z = 0 := by unfold blkV; rw [if_neg (by rw [E]; decide)]
      rw [E, V]
      have part : withinB x c = false ∨ (withinB x c = true ∧ withinB y d = false) ∨ (withinB x c = true ∧ withinB y d = true ∧ withinB z b = false) := by
        simp only [inG] at hin
        cases h1 : withinB x c <;> cases h2 : withinB y d <;> cases h3 : withinB z b <;> simp_all
      clear hin E V h g1 g2 g3 g4 g5 g6
      unfold four fourObj at *
      rcases part with W1 | ⟨W1, W2⟩ | ⟨W1, W2, W3⟩
      · have H1 := Lib.hid W1
        clear W1
        go_enter Try.func29, Try.ntmps29
        go_wp2_with (first
          | (go_at_call 35; refine (C _).mono ?_; rintro e w' ⟨rfl, rfl⟩)
          | (go_at_call 36; refine (within_any _ _ _).mono ?_; rintro e w' ⟨rfl, rfl⟩; rw [H1.out]))
        go_ret2
        exact ⟨rfl, below3 _ _ _, by simp; omega⟩
      · have H1 := Lib.hid W1
        have H2 := Lib.hid W2
        clear W1 W2
        go_enter Try.func29, Try.ntmps29
        go_wp2_with (first
          | (go_at_call 35; refine (C _).mono ?_; rintro e w' ⟨rfl, rfl⟩)
          | (go_at_call 36; refine (within_any _ _ _).mono ?_; rintro e w' ⟨rfl, rfl⟩; (first | rw [H1.out] | rw [H2.out])))
        go_ret2
        exact ⟨rfl, below3 _ _ _, by simp; omega⟩
      · have H1 := Lib.hid W1
        have H2 := Lib.hid W2
        have H3 := Lib.hid W3
        clear W1 W2 W3
        go_enter Try.func29, Try.ntmps29
        go_wp2_with (first
          | (go_at_call 35; refine (C _).mono ?_; rintro e w' ⟨rfl, rfl⟩)
          | (go_at_call 36; refine (within_any _ _ _).mono ?_; rintro e w' ⟨rfl, rfl⟩; (first | rw [H1.out] | rw [H2.out] | rw [H3.out])))
        go_ret2
        exact ⟨rfl, below3 _ _ _, by simp; omega⟩
  · have E : blkE c d b p x y z = geoE c d b p := by unfold blkE; rw [if_neg h]
    have V : blkV c d b p x y z = 0 := by unfold blkV; rw [if_neg (by rw [E]; exact h)]
    rw [E, V]
    have h' : (geoE c d b p == 0) = false := by simpa using h
    obtain ⟨g, hg⟩ : ∃ g, geoE c d b p = g := ⟨_, rfl⟩
    rw [hg] at h' C ⊢
    clear hg h E V
    unfold four fourObj at *
    go_enter Try.func29, Try.ntmps29
    go_wp2_with (go_at_call 35; refine (C _).mono ?_; rintro e w' ⟨rfl, rfl⟩)
    go_ret2
    exact ⟨rfl, below3 _ _ _, by simp; omega⟩

theorem below_box2 {w w' : World} {o1 o2 : Obj} (h : Below ((w.alloc o1).alloc o2).heap.size ((w.alloc o1).alloc o2) w') : Below w.heap.size w w' :=
  (((Below.refl _ w).alloc (Nat.le_refl _) _).alloc (by simp) _).trans (h.mono (by simp; omega))

theorem box4_in2 {w w' : World} {c d b p x y z u : Int} {t t2 : TypeId} (h : Below ((w.alloc (.cells #[.int .i64 c, .int .i64 d, .int .i64 b, .int .i64 p] t)).alloc (.cells #[.int .i64 x, .int .i64 y, .int .i64 z, .int .i64 u] t2)).heap.size ((w.alloc (.cells #[.int .i64 c, .int .i64 d, .int .i64 b, .int .i64 p] t)).alloc (.cells #[.int .i64 x, .int .i64 y, .int .i64 z, .int .i64 u] t2)) w') :
    Box4 w' w.heap.size c d b p ∧ Box4 w' (w.heap.size + 1) x y z u := by
  have h1 := box4_new w c d b p t
  have h2 := h1.below ((Below.refl _ _).alloc (Nat.le_refl _) (.cells #[.int .i64 x, .int .i64 y, .int .i64 z, .int .i64 u] t2)) (by simp)
  have h3 := box4_new (w.alloc (.cells #[.int .i64 c, .int .i64 d, .int .i64 b, .int .i64 p] t)) x y z u t2
  have e : (w.alloc (.cells #[.int .i64 c, .int .i64 d, .int .i64 b, .int .i64 p] t)).heap.size = w.heap.size + 1 := by simp
  rw [e] at h3
  exact ⟨h2.below h (by simp; omega), h3.below h (by simp)⟩

theorem blkE_zero {c d b p x y z : Int} (h : blkE c d b p x y z = 0) : geoE c d b p = 0 ∧ (0 ≤ x ∧ x < c) ∧ (0 ≤ y ∧ y < d) ∧ (0 ≤ z ∧ z < b) := by
  unfold blkE at h
  split at h
  · rename_i hg
    split at h
    · rename_i hi
      refine ⟨hg, ?_⟩
      simpa [inG, withinB, and_assoc] using hi
    · cases h
  · rename_i hg
    exact absurd h hg

set_option maxHeartbeats 1000000 in
theorem join_any (c d b p x y z u : Int) (w : World) :
    Calls Try.prog 28 #[four c d b p, four x y z u] w (Two w (jonV c d b p x y z u) (jonE c d b p x y z u)) := by
  have C := block_any c d b p x y z u
  by_cases h : blkE c d b p x y z = 0
  · obtain ⟨g0, i1, i2, i3⟩ := blkE_zero h
    obtain ⟨g1, g2, g3, g4, g5, g6⟩ := geo_ok g0
    have V : blkV c d b p x y z = x + c * (y + d * z) := by unfold blkV; rw [if_pos h]
    have m1 := mul_bd (d := d) (z := z) (by omega) (by omega) (by omega) (by omega)
    have m2 : 0 ≤ y + d * z ∧ y + d * z ≤ 10000 := by
      have := Int.mul_le_mul g2.2 (show z ≤ 64 by omega) i3.1 (by decide)
      omega
    have m3 := mul_bd (d := c) (z := y + d * z) (by omega) (by omega) m2.1 m2.2
    have m4 : 0 ≤ blkV c d b p x y z ∧ blkV c d b p x y z ≤ 1000000 := by rw [V]; omega
    rw [h] at C
    by_cases hu : withinB u p = true
    · have E : jonE c d b p x y z u = 0 := by unfold jonE; rw [if_pos h, if_pos hu]
      have V2 : jonV c d b p x y z u = blkV c d b p x y z * p + u := by unfold jonV; rw [if_pos E]
      rw [E, V2]
      obtain ⟨v, hv⟩ : ∃ v, blkV c d b p x y z = v := ⟨_, rfl⟩
      rw [hv] at C m4 ⊢
      have u1 : 0 ≤ u ∧ u < p := by simpa [withinB] using hu
      have m5 : 0 ≤ v * p ∧ v * p ≤ 1000000 * 16 := ⟨Int.mul_nonneg m4.1 (by omega), Int.mul_le_mul m4.2 g4.2 (by omega) (by decide)⟩
      have W := Lib.hid hu
      clear hu hv E V V2 h g0 g5 g6 m1 m2 m3
      unfold four at *
      go_enter Try.func28, Try.ntmps28
      go_wp2_with (first
        | (go_at_call 29; refine (C _).mono ?_; rintro e w1 ⟨rfl, hb, hz⟩; obtain ⟨q0, q1, q2, q3⟩ := (box4_in2 hb).1; obtain ⟨t0, t1, t2, t3⟩ := (box4_in2 hb).2)
        | (go_at_call 36; refine (within_any _ _ _).mono ?_; rintro e w' ⟨rfl, rfl⟩; rw [W.out]))
      go_ret2
      exact ⟨rfl, below_box2 hb, by simp at hz; omega⟩
    · have E : jonE c d b p x y z u = 5 := by unfold jonE; rw [if_pos h, if_neg hu]
      have V2 : jonV c d b p x y z u = 0 := by unfold jonV; rw [if_neg (by rw [E]; decide)]
      rw [E, V2]
      obtain ⟨v, hv⟩ : ∃ v, blkV c d b p x y z = v := ⟨_, rfl⟩
      rw [hv] at C m4
      have W : Hid (withinB u p = false) := Lib.hid (by simpa using hu)
      clear hu hv E V V2 h g0 g5 g6 m1 m2 m3
      unfold four at *
      go_enter Try.func28, Try.ntmps28
      go_wp2_with (first
        | (go_at_call 29; refine (C _).mono ?_; rintro e w1 ⟨rfl, hb, hz⟩; obtain ⟨q0, q1, q2, q3⟩ := (box4_in2 hb).1; obtain ⟨t0, t1, t2, t3⟩ := (box4_in2 hb).2)
        | (go_at_call 36; refine (within_any _ _ _).mono ?_; rintro e w' ⟨rfl, rfl⟩; rw [W.out]))
      go_ret2
      exact ⟨rfl, below_box2 hb, by simp at hz; omega⟩
  · have E : jonE c d b p x y z u = blkE c d b p x y z := by unfold jonE; rw [if_neg h]
    have V : jonV c d b p x y z u = 0 := by unfold jonV; rw [if_neg (by rw [E]; exact h)]
    have V2 : blkV c d b p x y z = 0 := by unfold blkV; rw [if_neg h]
    rw [E, V]
    rw [V2] at C
    have h' : (blkE c d b p x y z == 0) = false := by simpa using h
    obtain ⟨g, hg⟩ : ∃ g, blkE c d b p x y z = g := ⟨_, rfl⟩
    rw [hg] at h' C ⊢
    clear hg h E V V2
    unfold four at *
    go_enter Try.func28, Try.ntmps28
    go_wp2_with (go_at_call 29; refine (C _).mono ?_; rintro e w1 ⟨rfl, hb, hz⟩)
    go_ret2
    exact ⟨rfl, below_box2 hb, by simp at hz; omega⟩

end Go.Proofs.Ytlbgakhoillpcaa
