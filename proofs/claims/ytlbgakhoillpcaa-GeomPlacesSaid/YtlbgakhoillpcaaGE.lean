/-
  Package geom: Split.
-/
import Derived.Test.YtlbgakhoillpcaaGC
namespace Go.Proofs.Ytlbgakhoillpcaa
open Go.RowKit

/-- Where the page is: channel, die, block, page. -/
def spC (c d p n : Int) : Int := n / p % c
def spD (c d p n : Int) : Int := n / p / c % d
def spB (c d p n : Int) : Int := n / p / c / d
def spP (c d p n : Int) : Int := n % p

def Four2 (w : World) (x y z u err : Int) (e : Ending) (w' : World) : Prop :=
  e = .returned (.tuple #[four x y z u, .int .i64 err]) ∧ Below w.heap.size w w' ∧ w.heap.size < w'.heap.size

def HasBox (b : Nat) (x y z u : Int) : World → Prop := fun w => Box4 w b x y z u

theorem Below.toGrown {w w' : World} (h : Below w.heap.size w w') : w.grownBy w' none := ⟨h.os, h.tape, h.output, h.size, fun k hk _ => h.block k hk⟩
theorem Box4.below {w w' : World} {b : Nat} {x y z u : Int} {B : Nat} (h : Box4 w b x y z u) (hg : Below B w w') (hb : b < B) : Box4 w' b x y z u := by
  have e : ∀ o, w'.cell? ⟨b, o, none⟩ = w.cell? ⟨b, o, none⟩ := fun o => hg.cell hb
  exact ⟨(e 0).trans h.c0, (e 1).trans h.c1, (e 2).trans h.c2, (e 3).trans h.c3⟩

set_option maxHeartbeats 1000000 in
theorem split_bad (c d b p n : Int) (w : World) (h : geoE c d b p ≠ 0) :
    Calls Try.prog 27 #[four c d b p, .int .i64 n] w (Four2 w 0 0 0 0 (geoE c d b p)) := by
  have h' : (geoE c d b p == 0) = false := by simpa using h
  have C := check_any c d b p
  obtain ⟨g, hg⟩ : ∃ g, geoE c d b p = g := ⟨_, rfl⟩
  rw [hg] at h' C ⊢
  clear hg h
  unfold four fourObj at *
  go_enter Try.func27, Try.ntmps27
  go_wp2_with (go_at_call 35; refine (C _).mono ?_; rintro e w' ⟨rfl, rfl⟩)
  refine bodyPost_ret (v := .tuple #[.agg #[.int .i64 0, .int .i64 0, .int .i64 0, .int .i64 0], .int .i64 g]) (by simp [results, Try.results27, go_sem]) rfl ⟨rfl, ?_, by simp; omega⟩
  exact (((Below.refl _ w).alloc (Nat.le_refl _) _).alloc (by simp) _).alloc (by simp; omega) _

theorem box4_new2 (w : World) (x y z u : Int) (T : TypeId) (o o2 : Obj) : Box4 (((w.alloc (.cells #[.int .i64 x, .int .i64 y, .int .i64 z, .int .i64 u] T)).alloc o).alloc o2) w.heap.size x y z u :=
  ((box4_new w x y z u T).below ((Below.refl _ _).alloc (Nat.le_refl _) o) (by simp)).below ((Below.refl _ _).alloc (Nat.le_refl _) o2) (by simp; omega)

theorem HasBox.drew {b : Nat} {x y z u : Int} {w : World} (h : HasBox b x y z u w) : HasBox b x y z u w.drew := ⟨h.c0, h.c1, h.c2, h.c3⟩
theorem HasBox.alloc2 {b : Nat} {x y z u : Int} {w : World} (h : HasBox b x y z u w) (hb : b < w.heap.size) (o o2 : Obj) : HasBox b x y z u ((w.alloc o).alloc o2) :=
  (Box4.below h ((Below.refl _ _).alloc (Nat.le_refl _) o) hb).below ((Below.refl _ _).alloc (Nat.le_refl _) o2) (by simp; omega)

set_option maxHeartbeats 1000000 in
theorem split_out (c d b p n : Int) (w : World) (h : geoE c d b p = 0) (hn : ¬ (0 ≤ n ∧ n < c * d * b * p)) :
    Calls Try.prog 27 #[four c d b p, .int .i64 n] w (Four2 w 0 0 0 0 5) := by
  obtain ⟨g1, g2, g3, g4, g5, g6⟩ := geo_ok h
  have g7 : c * d * b * p ≤ 64 * 16 := Int.mul_le_mul g6 g4.2 (by omega) (by omega)
  have g8 : 3 * 2 ≤ c * d * b * p := Int.mul_le_mul g5 g4.1 (by omega) (by omega)
  have C := check_any c d b p
  have B := blocks_any c d b p
  have bn : blocksN c d b p = c * d * b := by unfold blocksN; rw [if_pos h]
  have wn : withinB n (c * d * b * p) = false := by simpa [withinB] using hn
  rw [h] at C
  rw [bn] at B
  obtain ⟨m, hm⟩ : ∃ m, c * d * b = m := ⟨_, rfl⟩
  rw [hm] at g5 g6 g7 g8 B wn
  have W := Lib.hid wn
  clear h hn bn wn hm g1 g2 g3
  have hS : HasBox w.heap.size c d b p (((w.alloc (.cells #[.int .i64 c, .int .i64 d, .int .i64 b, .int .i64 p] 45)).alloc (.cells #[.int .i64 0, .int .i64 0, .int .i64 0, .int .i64 0] 47)).alloc (.cells #[.int .i64 c, .int .i64 d, .int .i64 b, .int .i64 p] 45)).drew := HasBox.drew (box4_new2 w c d b p _ _ _)
  unfold four fourObj at *
  go_enter Try.func27, Try.ntmps27
  go_wp2_with (go_at_call 35; refine (C _).mono ?_; rintro e w' ⟨rfl, rfl⟩)
  refine region_line [(0, true), (1, true), (3, true), (4, true), (2, false), (5, true), (6, false), (7, true)] (HasBox w.heap.size c d b p) (by kernel_rfl) (by kernel_rfl) (fun _ _ _ d _ h => by cases d <;> exact h) hS ?_
  repeat (refine line_read (a' := ?_) rfl (by kernel_rfl) (by kernel_rfl) hS (fun x hx K hK => ?_) ?_; rotate_left; · obtain ⟨x0, x1, x2, x3⟩ := hx; go_wp2; exact hK)
  refine line_act (by rfl) (fun K hK => ?_)
  go_wp2_with (go_at_call 34; refine (B _).mono ?_; rintro e w' ⟨rfl, rfl⟩)
  have hS2 := hS.alloc2 (by simp; omega) (.cells #[.int .i64 c, .int .i64 d, .int .i64 b, .int .i64 p] 45) (.cells #[.int .i64 c, .int .i64 d, .int .i64 b, .int .i64 p] 45)
  refine hK _ _ (HasBox w.heap.size c d b p) hS2 (fun x hx => hx) ?_
  clear hK K
  repeat (refine line_read (a' := ?_) rfl (by kernel_rfl) (by kernel_rfl) hS2 (fun x hx K hK => ?_) ?_; rotate_left; · obtain ⟨x0, x1, x2, x3⟩ := hx; go_wp2; exact hK)
  refine line_act (by rfl) (fun K hK => ?_)
  go_wp2_with (go_at_call 36; refine (within_any _ _ _).mono ?_; rintro e w' ⟨rfl, rfl⟩; rw [W.out])
  refine hK _ _ (HasBox w.heap.size c d b p) hS2 (fun x hx => hx) ?_
  clear hK K
  repeat (refine line_read (a' := ?_) rfl (by kernel_rfl) (by kernel_rfl) hS2 (fun x hx K hK => ?_) ?_; rotate_left; · obtain ⟨x0, x1, x2, x3⟩ := hx; go_wp2; exact hK)
  refine line_end ?_
  clear hS hS2
  go_wp2
  refine bodyPost_ret (v := .tuple #[.agg #[.int .i64 0, .int .i64 0, .int .i64 0, .int .i64 0], .int .i64 5]) (by simp [results, Try.results27, go_sem]) rfl ⟨rfl, ?_, by simp; omega⟩
  exact ((((((Below.refl _ w).alloc (Nat.le_refl _) _).alloc (by simp) _).alloc (by simp; omega) _).alloc (by simp; omega) _).alloc (by simp; omega) _).drew

set_option maxHeartbeats 1000000 in
theorem split_good (c d b p n : Int) (w : World) (h : geoE c d b p = 0) (hn : 0 ≤ n ∧ n < c * d * b * p) :
    Calls Try.prog 27 #[four c d b p, .int .i64 n] w (Four2 w (spC c d p n) (spD c d p n) (spB c d p n) (spP c d p n) 0) := by
  obtain ⟨g1, g2, g3, g4, g5, g6⟩ := geo_ok h
  have g7 : c * d * b * p ≤ 64 * 16 := Int.mul_le_mul g6 g4.2 (by omega) (by omega)
  have g8 : 3 * 2 ≤ c * d * b * p := Int.mul_le_mul g5 g4.1 (by omega) (by omega)
  have C := check_any c d b p
  have B := blocks_any c d b p
  have bn : blocksN c d b p = c * d * b := by unfold blocksN; rw [if_pos h]
  have wn : withinB n (c * d * b * p) = true := by simpa [withinB] using hn
  obtain ⟨n0, n1⟩ := hn
  have n2 : n ≤ 1024 := by omega
  have q0 : 0 ≤ n / p := Int.ediv_nonneg n0 (by omega)
  have q1 : n / p ≤ 1024 := Int.le_trans (Int.ediv_le_self _ n0) n2
  have r0 : 0 ≤ n / p / c := Int.ediv_nonneg q0 (by omega)
  have r1 : n / p / c ≤ 1024 := Int.le_trans (Int.ediv_le_self _ q0) q1
  rw [h] at C
  rw [bn] at B
  obtain ⟨m, hm⟩ : ∃ m, c * d * b = m := ⟨_, rfl⟩
  rw [hm] at g5 g6 g7 g8 B wn
  have W := Lib.hid wn
  clear h bn wn hm g3
  unfold spC spD spB spP
  have hS : HasBox w.heap.size c d b p (((w.alloc (.cells #[.int .i64 c, .int .i64 d, .int .i64 b, .int .i64 p] 45)).alloc (.cells #[.int .i64 0, .int .i64 0, .int .i64 0, .int .i64 0] 47)).alloc (.cells #[.int .i64 c, .int .i64 d, .int .i64 b, .int .i64 p] 45)).drew := HasBox.drew (box4_new2 w c d b p _ _ _)
  unfold four fourObj at *
  go_enter Try.func27, Try.ntmps27
  go_wp2_with (go_at_call 35; refine (C _).mono ?_; rintro e w' ⟨rfl, rfl⟩)
  refine region_line [(0, true), (1, true), (3, true), (4, true), (2, false), (5, true), (6, false), (7, true)] (HasBox w.heap.size c d b p) (by kernel_rfl) (by kernel_rfl) (fun _ _ _ d _ h => by cases d <;> exact h) hS ?_
  repeat (refine line_read (a' := ?_) rfl (by kernel_rfl) (by kernel_rfl) hS (fun x hx K hK => ?_) ?_; rotate_left; · obtain ⟨x0, x1, x2, x3⟩ := hx; go_wp2; exact hK)
  refine line_act (by rfl) (fun K hK => ?_)
  go_wp2_with (go_at_call 34; refine (B _).mono ?_; rintro e w' ⟨rfl, rfl⟩)
  have hS2 := hS.alloc2 (by simp; omega) (.cells #[.int .i64 c, .int .i64 d, .int .i64 b, .int .i64 p] 45) (.cells #[.int .i64 c, .int .i64 d, .int .i64 b, .int .i64 p] 45)
  refine hK _ _ (HasBox w.heap.size c d b p) hS2 (fun x hx => hx) ?_
  clear hK K
  repeat (refine line_read (a' := ?_) rfl (by kernel_rfl) (by kernel_rfl) hS2 (fun x hx K hK => ?_) ?_; rotate_left; · obtain ⟨x0, x1, x2, x3⟩ := hx; go_wp2; exact hK)
  refine line_act (by rfl) (fun K hK => ?_)
  go_wp2_with (go_at_call 36; refine (within_any _ _ _).mono ?_; rintro e w' ⟨rfl, rfl⟩; rw [W.out])
  refine hK _ _ (HasBox w.heap.size c d b p) hS2 (fun x hx => hx) ?_
  clear hK K
  repeat (refine line_read (a' := ?_) rfl (by kernel_rfl) (by kernel_rfl) hS2 (fun x hx K hK => ?_) ?_; rotate_left; · obtain ⟨x0, x1, x2, x3⟩ := hx; go_wp2; exact hK)
  refine line_end ?_
  go_wp2
  have hS3 := HasBox.drew hS2
  refine region_line [(0, true), (1, true), (2, true), (3, true), (4, true), (5, true), (6, true), (7, true), (8, true), (9, true), (10, true), (11, true), (12, true), (13, true), (14, true), (15, true), (16, false), (17, false), (18, true)] (HasBox w.heap.size c d b p) (by kernel_rfl) (by kernel_rfl) (fun _ _ _ d _ h => by cases d <;> exact h) hS3 ?_
  repeat (refine line_read (a' := ?_) rfl (by kernel_rfl) (by kernel_rfl) hS3 (fun x hx K hK => ?_) ?_; rotate_left; · obtain ⟨x0, x1, x2, x3⟩ := hx; go_wp2; exact hK)
  refine line_act (by rfl) (fun K hK => ?_)
  go_wp2
  refine hK _ _ (HasBox w.heap.size c d b p) hS3 (fun x hx => hx) ?_
  clear hK K
  refine line_act (by rfl) (fun K hK => ?_)
  go_wp2
  refine hK _ _ (HasBox w.heap.size c d b p) (Box4.below (B := w.heap.size + 1) (box4_new w c d b p _) (((((Below.refl _ _).alloc (by simp) _).alloc (by simp) _).alloc (by simp) _).alloc (by simp) _).drew.drew (by omega)) (fun x hx => hx) ?_
  clear hK K
  refine line_read (a' := ?_) rfl (by kernel_rfl) (by kernel_rfl) (Box4.below (B := w.heap.size + 1) (box4_new w c d b p _) (((((Below.refl _ _).alloc (by simp) _).alloc (by simp) _).alloc (by simp) _).alloc (by simp) _).drew.drew (by omega)) (fun x hx K hK => ?_) ?_
  rotate_left
  · go_wp2
    exact hK
  refine line_end ?_
  clear hS hS2 hS3
  go_wp2
  refine bodyPost_ret (v := .tuple #[.agg #[.int .i64 (n / p % c), .int .i64 (n / p / c % d), .int .i64 (n / p / c / d), .int .i64 (n % p)], .int .i64 0]) (by simp [results, Try.results27, go_sem]) rfl ⟨rfl, ?_, by simp; omega⟩
  exact ((((((Below.refl _ w).alloc (Nat.le_refl _) _).alloc (by simp) _).alloc (by simp; omega) _).alloc (by simp; omega) _).alloc (by simp; omega) _).drew.drew

end Go.Proofs.Ytlbgakhoillpcaa
