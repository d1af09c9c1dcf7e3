/-
  The document's row of all places (layer 4).
-/
import Derived.Test.YtlbgakhoillpcaaGB
import Derived.Test.YtlbgakhoillpcaaWB
namespace Go.Proofs.Ytlbgakhoillpcaa
open Go.RowKit

/-- The cells of the place of number k. -/
def plc (c d p : Nat) (k : Nat) : List Value := [.int .i64 ((k / p % c : Nat) : Int), .int .i64 ((k / p / c % d : Nat) : Int), .int .i64 ((k / p / c / d : Nat) : Int), .int .i64 ((k % p : Nat) : Int)]
def plcs (c d p n : Nat) : List Value := (List.range n).flatMap (plc c d p)
theorem plcs_succ (c d p n : Nat) : plcs c d p (n + 1) = plcs c d p n ++ plc c d p n := by
  unfold plcs; rw [List.range_succ, List.flatMap_append]; simp
theorem plcs_zero (c d p : Nat) : plcs c d p 0 = [] := rfl

def at4 (c d p i j k l : Nat) : Nat := ((i * d + j) * c + k) * p + l
theorem at4_div {c d p i j k l : Nat} (hl : l < p) : at4 c d p i j k l / p = (i * d + j) * c + k := by
  unfold at4; rw [Nat.mul_comm, Nat.mul_add_div (by omega), Nat.div_eq_of_lt hl, Nat.add_zero]
theorem plc_at {c d p i j k l : Nat} (hl : l < p) (hk : k < c) (hj : j < d) : plc c d p (at4 c d p i j k l) = [.int .i64 k, .int .i64 j, .int .i64 i, .int .i64 l] := by
  unfold plc
  rw [at4_div hl]
  have h1 : ((i * d + j) * c + k) % c = k := by rw [Nat.mul_comm, Nat.mul_add_mod, Nat.mod_eq_of_lt hk]
  have h2 : ((i * d + j) * c + k) / c = i * d + j := by rw [Nat.mul_comm, Nat.mul_add_div (by omega), Nat.div_eq_of_lt hk, Nat.add_zero]
  have h3 : (i * d + j) % d = j := by rw [Nat.mul_comm, Nat.mul_add_mod, Nat.mod_eq_of_lt hj]
  have h4 : (i * d + j) / d = i := by rw [Nat.mul_comm, Nat.mul_add_div (by omega), Nat.div_eq_of_lt hj, Nat.add_zero]
  have h5 : at4 c d p i j k l % p = l := by unfold at4; rw [Nat.mul_comm, Nat.mul_add_mod, Nat.mod_eq_of_lt hl]
  rw [h1, h2, h3, h4, h5]
theorem at4_l (c d p i j k l : Nat) : at4 c d p i j k (l + 1) = at4 c d p i j k l + 1 := by unfold at4; omega
theorem at4_k (c d p i j k : Nat) : at4 c d p i j k p = at4 c d p i j (k + 1) 0 := by unfold at4; rw [← Nat.add_assoc, Nat.add_mul _ 1 p]; simp
theorem at4_j (c d p i j : Nat) : at4 c d p i j c 0 = at4 c d p i (j + 1) 0 0 := by unfold at4; simp [Nat.add_mul, Nat.add_assoc]
theorem at4_i (c d p i : Nat) : at4 c d p i d 0 0 = at4 c d p (i + 1) 0 0 0 := by unfold at4; simp [Nat.add_mul]
theorem at4_lt {c d p b i j k l : Nat} (hl : l < p) (hk : k < c) (hj : j < d) (hi : i < b) (hp : p ≤ 16) (hn : c * d * b ≤ 64) : at4 c d p i j k l < 1024 := by
  have h1 : i * d + j + 1 ≤ b * d := by
    have : (i + 1) * d ≤ b * d := Nat.mul_le_mul_right d hi
    rw [Nat.add_mul] at this; omega
  have h2 : (i * d + j) * c + k + 1 ≤ b * d * c := by
    have : (i * d + j + 1) * c ≤ b * d * c := Nat.mul_le_mul_right c h1
    rw [Nat.add_mul] at this; omega
  have h3 : b * d * c ≤ 64 := by rw [Nat.mul_comm b d, Nat.mul_comm, ← Nat.mul_assoc]; exact hn
  have h4 : ((i * d + j) * c + k + 1) * p ≤ 64 * 16 := Nat.mul_le_mul (by omega) hp
  rw [Nat.add_mul] at h4
  unfold at4; omega

theorem Try.infoPlace : (Try.prog.info? 47).map (fun i => (i.zero, i.size, i.bytes)) = some (some (.agg #[.int .i64 0, .int .i64 0, .int .i64 0, .int .i64 0]), 4, 32) := by kernel_rfl

/-- The row of places, as a call made it. -/
def MadeAll (c d p n : Nat) (w : World) (e : Ending) (w' : World) : Prop :=
  ∃ v', e = .returned v' ∧ w'.ownsRow w.heap.size 47 4 v' n (plcs c d p n) ∧ w.grownBy w' none

theorem four_new (w : World) (a b c d : Int) (T : TypeId) : ∀ j v, [Value.int .i64 a, .int .i64 b, .int .i64 c, .int .i64 d][j]? = some v → (w.alloc (.cells #[.int .i64 a, .int .i64 b, .int .i64 c, .int .i64 d] T)).cell? ((⟨w.heap.size, 0, none⟩ : Addr).add j) = some v := by
  intro j v hj
  match j, hj with
  | 0, hj => simp at hj; subst hj; simp [Addr.add]
  | 1, hj => simp at hj; subst hj; simp [Addr.add]
  | 2, hj => simp at hj; subst hj; simp [Addr.add]
  | 3, hj => simp at hj; subst hj; simp [Addr.add]
theorem four_oneCell (a b c d : Int) : ∀ u ∈ [Value.int .i64 a, .int .i64 b, .int .i64 c, .int .i64 d], u.oneCell' = true := by
  intro u hu
  simp at hu
  rcases hu with rfl | rfl | rfl | rfl <;> rfl

/-- A boxed struct of four still stands. -/
structure Box4 (w : World) (b : Nat) (x y z u : Int) : Prop where
  c0 : w.cell? ⟨b, 0, none⟩ = some (.int .i64 x)
  c1 : w.cell? ⟨b, 1, none⟩ = some (.int .i64 y)
  c2 : w.cell? ⟨b, 2, none⟩ = some (.int .i64 z)
  c3 : w.cell? ⟨b, 3, none⟩ = some (.int .i64 u)
theorem box4_new (w : World) (x y z u : Int) (T : TypeId) : Box4 (w.alloc (.cells #[.int .i64 x, .int .i64 y, .int .i64 z, .int .i64 u] T)) w.heap.size x y z u := by
  constructor <;> simp
theorem Box4.grown {w w' : World} {b : Nat} {x y z u : Int} {r : Option Nat} (h : Box4 w b x y z u) (hg : w.grownBy w' r) (hb : b < w.heap.size) (hr : some b ≠ r) : Box4 w' b x y z u := by
  have e : ∀ o, w'.cell? ⟨b, o, none⟩ = w.cell? ⟨b, o, none⟩ := fun o => World.cell?_of_block (hg.block b hb hr)
  exact ⟨(e 0).trans h.c0, (e 1).trans h.c1, (e 2).trans h.c2, (e 3).trans h.c3⟩

end Go.Proofs.Ytlbgakhoillpcaa
