/-
  Texts put together: PB GA GB WB NA.
-/
import Derived.Test.YtdadgcfpcneaiaaGreatDoorM03
import Derived.Test.YtdadgcfpcneaiaaGreatDoorM02
import Derived.Test.YtdadgcfpcneaiaaGreatDoorM01
/-
  Package power: the methods of Power, and the document's.
-/
namespace Go.Proofs.YtdadgcfpcneaiaaGreatDoor
set_option linter.unusedVariables false
set_option linter.unusedSimpArgs false
set_option linter.unusedVariables false
set_option linter.unusedSimpArgs false
set_option maxRecDepth 100000
open Go.RowKit

/-- The power that stands in block b: budget, whether it is gone, count. -/
structure PowAt (w : World) (b : Nat) (x : Int) (g : Bool) (o : Int) : Prop where
  c0 : w.cell? ⟨b, 0, none⟩ = some (.int .i64 x)
  c1 : w.cell? ⟨b, 1, none⟩ = some (.int .u32 (if g then 1 else 0))
  c2 : w.cell? ⟨b, 2, none⟩ = some (.int .i64 o)
  f0 : w.frozen? ⟨b, 0, none⟩ = false
  f1 : w.frozen? ⟨b, 1, none⟩ = false
  f2 : w.frozen? ⟨b, 2, none⟩ = false
/-- The document's. -/
structure RefAt (w : World) (b : Nat) (x : Int) (g : Bool) (o : Int) : Prop where
  c0 : w.cell? ⟨b, 0, none⟩ = some (.int .i64 x)
  c1 : w.cell? ⟨b, 1, none⟩ = some (.bool g)
  c2 : w.cell? ⟨b, 2, none⟩ = some (.int .i64 o)
  f0 : w.frozen? ⟨b, 0, none⟩ = false
  f1 : w.frozen? ⟨b, 1, none⟩ = false
  f2 : w.frozen? ⟨b, 2, none⟩ = false

theorem gb_cell {w w' : World} {r : Option Nat} (h : w.grownBy w' r) {b o : Nat} (hb : b < w.heap.size) (hr : some b ≠ r) : w'.cell? ⟨b, o, none⟩ = w.cell? ⟨b, o, none⟩ := World.cell?_of_block (h.block b hb hr)
theorem gb_frozen {w w' : World} {r : Option Nat} (h : w.grownBy w' r) {b o : Nat} (hb : b < w.heap.size) (hr : some b ≠ r) : w'.frozen? ⟨b, o, none⟩ = w.frozen? ⟨b, o, none⟩ := World.frozen?_of_block (h.block b hb hr)
theorem PowAt.other {w w' : World} {b : Nat} {x : Int} {g : Bool} {o : Int} {r : Option Nat} (h : PowAt w b x g o) (hg : w.grownBy w' r) (hb : b < w.heap.size) (hr : some b ≠ r) : PowAt w' b x g o :=
  ⟨(gb_cell hg hb hr).trans h.c0, (gb_cell hg hb hr).trans h.c1, (gb_cell hg hb hr).trans h.c2, (gb_frozen hg hb hr).trans h.f0, (gb_frozen hg hb hr).trans h.f1, (gb_frozen hg hb hr).trans h.f2⟩
theorem RefAt.other {w w' : World} {b : Nat} {x : Int} {g : Bool} {o : Int} {r : Option Nat} (h : RefAt w b x g o) (hg : w.grownBy w' r) (hb : b < w.heap.size) (hr : some b ≠ r) : RefAt w' b x g o :=
  ⟨(gb_cell hg hb hr).trans h.c0, (gb_cell hg hb hr).trans h.c1, (gb_cell hg hb hr).trans h.c2, (gb_frozen hg hb hr).trans h.f0, (gb_frozen hg hb hr).trans h.f1, (gb_frozen hg hb hr).trans h.f2⟩
theorem PowAt.lt {w : World} {b : Nat} {x : Int} {g : Bool} {o : Int} (h : PowAt w b x g o) : b < w.heap.size := World.block_lt_of_cell? w _ h.c0
theorem RefAt.lt {w : World} {b : Nat} {x : Int} {g : Bool} {o : Int} (h : RefAt w b x g o) : b < w.heap.size := World.block_lt_of_cell? w _ h.c0

theorem PowAt.set0 {w : World} {b : Nat} {x : Int} {g : Bool} {o : Int} (h : PowAt w b x g o) (y : Int) : PowAt (w.setCell ⟨b, 0, none⟩ (.int .i64 y)) b y g o :=
  ⟨World.cell?_setCell_same _ _ _ h.c0, (World.cell?_setCell_other _ _ _ _ (ne_off (by decide))).trans h.c1, (World.cell?_setCell_other _ _ _ _ (ne_off (by decide))).trans h.c2, by simpa using h.f0, by simpa using h.f1, by simpa using h.f2⟩
theorem PowAt.set1 {w : World} {b : Nat} {x : Int} {g : Bool} {o : Int} (h : PowAt w b x g o) (y : Bool) : PowAt (w.setCell ⟨b, 1, none⟩ (.int .u32 (if y then 1 else 0))) b x y o :=
  ⟨(World.cell?_setCell_other _ _ _ _ (ne_off (by decide))).trans h.c0, World.cell?_setCell_same _ _ _ h.c1, (World.cell?_setCell_other _ _ _ _ (ne_off (by decide))).trans h.c2, by simpa using h.f0, by simpa using h.f1, by simpa using h.f2⟩
theorem PowAt.set2 {w : World} {b : Nat} {x : Int} {g : Bool} {o : Int} (h : PowAt w b x g o) (y : Int) : PowAt (w.setCell ⟨b, 2, none⟩ (.int .i64 y)) b x g y :=
  ⟨(World.cell?_setCell_other _ _ _ _ (ne_off (by decide))).trans h.c0, (World.cell?_setCell_other _ _ _ _ (ne_off (by decide))).trans h.c1, World.cell?_setCell_same _ _ _ h.c2, by simpa using h.f0, by simpa using h.f1, by simpa using h.f2⟩
theorem PowAt.drew {w : World} {b : Nat} {x : Int} {g : Bool} {o : Int} (h : PowAt w b x g o) : PowAt w.drew b x g o := ⟨h.c0, h.c1, h.c2, h.f0, h.f1, h.f2⟩
theorem RefAt.set0 {w : World} {b : Nat} {x : Int} {g : Bool} {o : Int} (h : RefAt w b x g o) (y : Int) : RefAt (w.setCell ⟨b, 0, none⟩ (.int .i64 y)) b y g o :=
  ⟨World.cell?_setCell_same _ _ _ h.c0, (World.cell?_setCell_other _ _ _ _ (ne_off (by decide))).trans h.c1, (World.cell?_setCell_other _ _ _ _ (ne_off (by decide))).trans h.c2, by simpa using h.f0, by simpa using h.f1, by simpa using h.f2⟩
theorem RefAt.set1 {w : World} {b : Nat} {x : Int} {g : Bool} {o : Int} (h : RefAt w b x g o) (y : Bool) : RefAt (w.setCell ⟨b, 1, none⟩ (.bool y)) b x y o :=
  ⟨(World.cell?_setCell_other _ _ _ _ (ne_off (by decide))).trans h.c0, World.cell?_setCell_same _ _ _ h.c1, (World.cell?_setCell_other _ _ _ _ (ne_off (by decide))).trans h.c2, by simpa using h.f0, by simpa using h.f1, by simpa using h.f2⟩
theorem RefAt.set2 {w : World} {b : Nat} {x : Int} {g : Bool} {o : Int} (h : RefAt w b x g o) (y : Int) : RefAt (w.setCell ⟨b, 2, none⟩ (.int .i64 y)) b x g y :=
  ⟨(World.cell?_setCell_other _ _ _ _ (ne_off (by decide))).trans h.c0, (World.cell?_setCell_other _ _ _ _ (ne_off (by decide))).trans h.c1, World.cell?_setCell_same _ _ _ h.c2, by simpa using h.f0, by simpa using h.f1, by simpa using h.f2⟩
theorem RefAt.drew {w : World} {b : Nat} {x : Int} {g : Bool} {o : Int} (h : RefAt w b x g o) : RefAt w.drew b x g o := ⟨h.c0, h.c1, h.c2, h.f0, h.f1, h.f2⟩

theorem gone_is (b : Nat) (x : Int) (g : Bool) (o : Int) (w : World) (h : PowAt w b x g o) :
    Calls Tryz.prog 134 #[.pointer (some ⟨b, 0, none⟩)] w fun e w' => e = .returned (.bool g) ∧ w = w' := by
  obtain ⟨c0, c1, c2, f0, f1, f2⟩ := h
  have L := loadB b 1 g w c1
  clear c0 c1 c2 f0 f1 f2
  go_enter Tryz.func134, Tryz.ntmps134
  go_wp2_with (go_at_call 158; refine L.mono ?_; rintro e w' ⟨rfl, rfl⟩)
  go_ret
  exact ⟨rfl, rfl⟩

theorem gone_nil (w : World) : Calls Tryz.prog 134 #[.pointer none] w fun e w' => e = .returned (.bool true) ∧ w = w' := by
  go_enter Tryz.func134, Tryz.ntmps134
  go_wp2
  go_ret
  exact ⟨rfl, rfl⟩

theorem ops_is (b : Nat) (x : Int) (g : Bool) (o : Int) (w : World) (h : PowAt w b x g o) :
    Calls Tryz.prog 20 #[.pointer (some ⟨b, 0, none⟩)] w fun e w' => e = .returned (.int .i64 o) ∧ w = w' := by
  have L := load64 b 2 o w h.c2
  clear h
  go_enter Tryz.func20, Tryz.ntmps20
  go_wp2_with (go_at_call 48; refine L.mono ?_; rintro e w' ⟨rfl, rfl⟩)
  go_ret
  exact ⟨rfl, rfl⟩

theorem ops_nil (w : World) : Calls Tryz.prog 20 #[.pointer none] w fun e w' => e = .returned (.int .i64 0) ∧ w = w' := by
  go_enter Tryz.func20, Tryz.ntmps20
  go_wp2
  go_ret
  exact ⟨rfl, rfl⟩

/-- A call that turns the power alone. -/
def Turns (b : Nat) (x : Int) (g : Bool) (o : Int) (v : Value) (w : World) (e : Ending) (w' : World) : Prop := e = .returned v ∧ PowAt w' b x g o ∧ w.grownBy w' (some b)
def TurnsR (b : Nat) (x : Int) (g : Bool) (o : Int) (v : Value) (w : World) (e : Ending) (w' : World) : Prop := e = .returned v ∧ RefAt w' b x g o ∧ w.grownBy w' (some b)

theorem cut_is (b : Nat) (x : Int) (g : Bool) (o : Int) (w : World) (h : PowAt w b x g o) :
    Calls Tryz.prog 175 #[.pointer (some ⟨b, 0, none⟩)] w (Turns b x true o (.tuple #[]) w) := by
  have L := storeB b 1 true _ w h.c1 h.f1
  have H := Lib.hid h
  clear h
  go_enter Tryz.func175, Tryz.ntmps175
  go_wp2_with (go_at_call 101; refine L.mono ?_; rintro e w' ⟨rfl, rfl⟩)
  go_end0
  exact ⟨rfl, (H.out.set1 true).drew, gb_drew (gb_set (gb_refl w _) _ _)⟩

theorem cut_nil (w : World) : Calls Tryz.prog 175 #[.pointer none] w fun e w' => e = .returned (.tuple #[]) ∧ w = w' := by
  go_enter Tryz.func175, Tryz.ntmps175
  go_wp2
  go_end0
  exact ⟨rfl, rfl⟩

theorem back_is (b : Nat) (x : Int) (g : Bool) (o : Int) (n : Int) (w : World) (h : PowAt w b x g o) :
    Calls Tryz.prog 66 #[.pointer (some ⟨b, 0, none⟩), .int .i64 n] w (Turns b n false o (.tuple #[]) w) := by
  have L := store64 b 0 n _ w h.c0 h.f0
  have h1 := h.set0 n
  have M := storeB b 1 false _ (w.setCell ⟨b, 0, none⟩ (.int .i64 n)) h1.c1 h1.f1
  have H := Lib.hid h1
  clear h h1
  go_enter Tryz.func66, Tryz.ntmps66
  go_wp2_with (first
    | (go_at_call 100; refine L.mono ?_; rintro e w' ⟨rfl, rfl⟩)
    | (go_at_call 101; refine M.mono ?_; rintro e w' ⟨rfl, rfl⟩))
  go_end0
  exact ⟨rfl, (H.out.set1 false).drew, gb_drew (gb_set (gb_set (gb_refl w _) _ _) _ _)⟩

theorem back_nil (n : Int) (w : World) : Calls Tryz.prog 66 #[.pointer none, .int .i64 n] w fun e w' => e = .returned (.tuple #[]) ∧ w = w' := by
  go_enter Tryz.func66, Tryz.ntmps66
  go_wp2
  refine bodyPost_ret (results_none rfl _ _ _) rfl ?_
  exact ⟨rfl, rfl⟩

theorem new_is (n : Int) (w : World) :
    Calls Tryz.prog 33 #[.int .i64 n] w fun e w' => e = .returned (.pointer (some ⟨w.heap.size, 0, none⟩)) ∧ PowAt w' w.heap.size n false 0 ∧ w.grownBy w' none := by
  have h : PowAt (w.alloc (.cells #[.int .i64 0, .int .u32 0, .int .i64 0] 108)) w.heap.size 0 false 0 := by constructor <;> simp
  have B := back_is w.heap.size 0 false 0 n (w.alloc (.cells #[.int .i64 0, .int .u32 0, .int .i64 0] 108)) h
  clear h
  go_enter Tryz.func33, Tryz.ntmps33
  go_wp2_with (go_at_call 66; refine B.mono ?_; rintro e w' ⟨rfl, hp, hg⟩)
  go_ret
  exact ⟨rfl, hp, ⟨hg.os, hg.tape, hg.output, by have := hg.size; simp at this; omega, fun k hk _ => (hg.block k (by simp; omega) (by simp; omega)).trans (Below.heap_alloc _ _ _ hk)⟩⟩

theorem spend_nil (w : World) : Calls Tryz.prog 156 #[.pointer none] w fun e w' => e = .returned (.int .i64 12) ∧ w = w' := by
  go_enter Tryz.func156, Tryz.ntmps156
  go_wp2_with (go_at_call 134; refine (gone_nil _).mono ?_; rintro e w' ⟨rfl, rfl⟩)
  go_ret
  exact ⟨rfl, rfl⟩

theorem spend_gone (b : Nat) (x o : Int) (w : World) (h : PowAt w b x true o) :
    Calls Tryz.prog 156 #[.pointer (some ⟨b, 0, none⟩)] w (Turns b x true o (.int .i64 12) w) := by
  have G := gone_is b x true o w h
  have H := Lib.hid h
  clear h
  go_enter Tryz.func156, Tryz.ntmps156
  go_wp2_with (go_at_call 134; refine G.mono ?_; rintro e w' ⟨rfl, rfl⟩)
  go_ret
  exact ⟨rfl, H.out, gb_refl w _⟩

theorem spend_there (b : Nat) (x o : Int) (w : World) (h : PowAt w b x false o) (hx : -9223372036854775808 ≤ x) (hx' : x ≤ 9223372036854775807) (h0 : 0 ≤ o) (h1 : o < 4611686018427387904) :
    Calls Tryz.prog 156 #[.pointer (some ⟨b, 0, none⟩)] w (Turns b (if 0 < x then x - 1 else x) (x == 0) (o + 1) (.int .i64 (if x = 0 then 11 else 0)) w) := by
  have G := gone_is b x false o w h
  have A := add64 b 2 o w h.c2 h.f2 h0 h1
  have h2 := h.set2 (o + 1)
  have L := load64 b 0 x _ h2.c0
  have H := Lib.hid h2
  have g1 := gb_set (gb_refl w (some b)) 2 (.int .i64 (o + 1))
  obtain ⟨w1, hw1⟩ : ∃ w1, w.setCell ⟨b, 2, none⟩ (.int .i64 (o + 1)) = w1 := ⟨_, rfl⟩
  rw [hw1] at A L h2 H g1
  by_cases hz : x = 0
  · subst hz
    have C := cut_is b 0 false (o + 1) w1 h2
    clear h h2 h0 h1 hw1
    go_enter Tryz.func156, Tryz.ntmps156
    go_wp2_with (first
      | (go_at_call 134; refine G.mono ?_; rintro e w' ⟨rfl, rfl⟩)
      | (go_at_call 174; refine A.mono ?_; rintro e w' ⟨rfl, rfl⟩)
      | (go_at_call 48; refine L.mono ?_; rintro e w' ⟨rfl, rfl⟩)
      | (go_at_call 175; refine C.mono ?_; rintro e w' ⟨rfl, hp, hg⟩))
    go_ret
    exact ⟨rfl, hp, gb_trans g1 hg⟩
  · by_cases hp : 0 < x
    · have S := store64 b 0 (x - 1) _ w1 h2.c0 h2.f0
      have e1 : (x == 0) = false := by simpa using hz
      rw [if_pos hp, if_neg hz, e1]
      clear h h2 h0 h1 hw1 e1
      go_enter Tryz.func156, Tryz.ntmps156
      go_wp2_with (first
        | (go_at_call 134; refine G.mono ?_; rintro e w' ⟨rfl, rfl⟩)
        | (go_at_call 174; refine A.mono ?_; rintro e w' ⟨rfl, rfl⟩)
        | (go_at_call 48; refine L.mono ?_; rintro e w' ⟨rfl, rfl⟩)
        | (go_at_call 100; refine S.mono ?_; rintro e w' ⟨rfl, rfl⟩))
      go_ret
      exact ⟨rfl, H.out.set0 _, gb_set g1 _ _⟩
    · have e1 : (x == 0) = false := by simpa using hz
      rw [if_neg hp, if_neg hz, e1]
      clear h h2 h0 h1 hw1 e1
      go_enter Tryz.func156, Tryz.ntmps156
      go_wp2_with (first
        | (go_at_call 134; refine G.mono ?_; rintro e w' ⟨rfl, rfl⟩)
        | (go_at_call 174; refine A.mono ?_; rintro e w' ⟨rfl, rfl⟩)
        | (go_at_call 48; refine L.mono ?_; rintro e w' ⟨rfl, rfl⟩))
      go_ret
      exact ⟨rfl, H.out, g1⟩



end Go.Proofs.YtdadgcfpcneaiaaGreatDoor

/-
  Package geom: within, Check, Blocks; the document's Check. What each answers; the world behind it.
-/
namespace Go.Proofs.YtdadgcfpcneaiaaGreatDoor
set_option linter.unusedVariables false
set_option linter.unusedSimpArgs false
set_option linter.unusedVariables false
set_option linter.unusedSimpArgs false
set_option maxRecDepth 100000
open Go.RowKit

/-- A struct of four integers, by value. -/
def four (a b c d : Int) : Value := .agg #[.int .i64 a, .int .i64 b, .int .i64 c, .int .i64 d]
/-- Its block, boxed. -/
def fourObj (a b c d : Int) (t : TypeId) : Obj := .cells #[.int .i64 a, .int .i64 b, .int .i64 c, .int .i64 d] t

def withinB (n m : Int) : Bool := decide (0 ≤ n ∧ n < m)

/-- Which geometries may be. -/
def geoE (c d b p : Int) : Int :=
  if c < 1 ∨ d < 1 ∨ b < 1 ∨ p < 2 then 1 else if c > 64 ∨ d > 64 ∨ b > 64 ∨ p > 16 then 4 else if c * d * b < 3 then 1 else if c * d * b > 64 then 4 else 0

theorem mul3_bd {c d b : Int} (hc : 1 ≤ c) (hc' : c ≤ 64) (hd : 1 ≤ d) (hd' : d ≤ 64) (hb : 1 ≤ b) (hb' : b ≤ 64) : 1 ≤ c * d ∧ c * d ≤ 4096 ∧ 1 ≤ c * d * b ∧ c * d * b ≤ 262144 := by
  have h1 : 1 * 1 ≤ c * d := Int.mul_le_mul hc hd (by decide) (by omega)
  have h2 : c * d ≤ 64 * 64 := Int.mul_le_mul hc' hd' (by omega) (by decide)
  have h3 : 1 * 1 ≤ c * d * b := Int.mul_le_mul (by omega) hb (by decide) (by omega)
  have h4 : c * d * b ≤ 4096 * 64 := Int.mul_le_mul (by omega) hb' (by omega) (by decide)
  omega


set_option maxHeartbeats 1000000 in
theorem check_any (c d b p : Int) (w : World) :
    Calls Tryz.prog 69 #[four c d b p] w fun e w' => e = .returned (.int .i64 (geoE c d b p)) ∧ w.alloc (fourObj c d b p 49) = w' := by
  unfold four fourObj
  by_cases h1 : c < 1 ∨ d < 1 ∨ b < 1 ∨ p < 2
  · have G : Hid (geoE c d b p = 1) := Lib.hid (by unfold geoE; rw [if_pos h1])
    go_enter Tryz.func69, Tryz.ntmps69
    go_wp2
    all_goals
      go_ret
      exact ⟨ret_int G.out.symm, rfl⟩
  · by_cases h2 : c > 64 ∨ d > 64 ∨ b > 64 ∨ p > 16
    · have G : Hid (geoE c d b p = 4) := Lib.hid (by unfold geoE; rw [if_neg h1, if_pos h2])
      have g1 : 1 ≤ c := by omega
      have g2 : 1 ≤ d := by omega
      have g3 : 1 ≤ b := by omega
      have g4 : 2 ≤ p := by omega
      clear h1
      go_enter Tryz.func69, Tryz.ntmps69
      go_wp2
      all_goals
        go_ret
        exact ⟨ret_int G.out.symm, rfl⟩
    · have g1 : 1 ≤ c := by omega
      have g2 : 1 ≤ d := by omega
      have g3 : 1 ≤ b := by omega
      have g4 : 2 ≤ p := by omega
      have k1 : c ≤ 64 := by omega
      have k2 : d ≤ 64 := by omega
      have k3 : b ≤ 64 := by omega
      have k4 : p ≤ 16 := by omega
      obtain ⟨m1, m2, m3, m4⟩ := mul3_bd g1 k1 g2 k2 g3 k3
      have G : Hid (geoE c d b p = if c * d * b < 3 then 1 else if c * d * b > 64 then 4 else 0) := Lib.hid (by unfold geoE; rw [if_neg h1, if_neg h2])
      clear h1 h2
      by_cases h3 : c * d * b < 3
      · have G2 : Hid (geoE c d b p = 1) := Lib.hid (by rw [G.out, if_pos h3])
        clear G
        go_enter Tryz.func69, Tryz.ntmps69
        go_wp2
        all_goals
          go_ret
          exact ⟨ret_int G2.out.symm, rfl⟩
      · by_cases h5 : c * d * b > 64
        · have G2 : Hid (geoE c d b p = 4) := Lib.hid (by rw [G.out, if_neg h3, if_pos h5])
          have h3' : 3 ≤ c * d * b := by omega
          clear h3 G
          go_enter Tryz.func69, Tryz.ntmps69
          go_wp2
          all_goals
            go_ret
            exact ⟨ret_int G2.out.symm, rfl⟩
        · have G2 : Hid (geoE c d b p = 0) := Lib.hid (by rw [G.out, if_neg h3, if_neg h5])
          have h3' : 3 ≤ c * d * b := by omega
          have h5' : c * d * b ≤ 64 := by omega
          clear h3 h5 G
          go_enter Tryz.func69, Tryz.ntmps69
          go_wp2
          all_goals
            go_ret
            exact ⟨ret_int G2.out.symm, rfl⟩

end Go.Proofs.YtdadgcfpcneaiaaGreatDoor

/-
  Package geom: Blocks; the document's Check.
-/
namespace Go.Proofs.YtdadgcfpcneaiaaGreatDoor
set_option linter.unusedVariables false
set_option linter.unusedSimpArgs false
set_option linter.unusedVariables false
set_option linter.unusedSimpArgs false
set_option maxRecDepth 100000
open Go.RowKit

theorem geo_ok {c d b p : Int} (h : geoE c d b p = 0) : (1 ≤ c ∧ c ≤ 64) ∧ (1 ≤ d ∧ d ≤ 64) ∧ (1 ≤ b ∧ b ≤ 64) ∧ (2 ≤ p ∧ p ≤ 16) ∧ 3 ≤ c * d * b ∧ c * d * b ≤ 64 := by
  unfold geoE at h
  repeat (split at h; · omega)
  omega

def blocksN (c d b p : Int) : Int := if geoE c d b p = 0 then c * d * b else 0

set_option maxHeartbeats 400000 in
theorem blocks_any (c d b p : Int) (w : World) :
    Calls Tryz.prog 70 #[four c d b p] w fun e w' => e = .returned (.int .i64 (blocksN c d b p)) ∧ (w.alloc (fourObj c d b p 49)).alloc (fourObj c d b p 49) = w' := by
  by_cases h : geoE c d b p = 0
  · obtain ⟨g1, g2, g3, g4, g5, g6⟩ := geo_ok h
    obtain ⟨m1, m2, m3, m4⟩ := mul3_bd g1.1 g1.2 g2.1 g2.2 g3.1 g3.2
    have G : Hid (blocksN c d b p = c * d * b) := Lib.hid (by unfold blocksN; rw [if_pos h])
    have H := Lib.hid h
    clear h
    have C := check_any c d b p
    unfold four fourObj at *
    go_enter Tryz.func70, Tryz.ntmps70
    go_wp2_with (go_at_call 69; refine (C _).mono ?_; rintro e w' ⟨rfl, rfl⟩; rw [H.out])
    go_ret
    exact ⟨ret_int G.out.symm, rfl⟩
  · have G : Hid (blocksN c d b p = 0) := Lib.hid (by unfold blocksN; rw [if_neg h])
    have h' : (geoE c d b p == 0) = false := by simpa using h
    have C := check_any c d b p
    unfold four fourObj at *
    go_enter Tryz.func70, Tryz.ntmps70
    go_wp2_with (go_at_call 69; refine (C _).mono ?_; rintro e w' ⟨rfl, rfl⟩)
    go_ret
    exact ⟨ret_int G.out.symm, rfl⟩


end Go.Proofs.YtdadgcfpcneaiaaGreatDoor

/-
  bytes.Clone.
-/
namespace Go.Proofs.YtdadgcfpcneaiaaGreatDoor
set_option linter.unusedVariables false
set_option linter.unusedSimpArgs false
set_option linter.unusedVariables false
set_option linter.unusedSimpArgs false
set_option maxRecDepth 100000
open Go.RowKit
attribute [local go_sem] Tryz.eqNil22

theorem clone_nil (w : World) : Calls Tryz.prog 135 #[.slice none 0 0] w (fun e w' => e = .returned (.slice none 0 0) ∧ w = w') := by
  go_enter Tryz.func135, Tryz.ntmps135
  go_wp2
  go_ret
  exact ⟨rfl, rfl⟩

set_option maxHeartbeats 400000 in
theorem clone_some (b off cap : Nat) (xs : List Int) (w : World) (hc : ∀ i, i < xs.length → w.cell? ⟨b, off + i, none⟩ = some (.int .u8 (xs.getD i 0))) (hm : xs.length ≤ 140737488351232) :
    Calls Tryz.prog 135 #[.slice (some ⟨b, off, none⟩) xs.length cap] w (Made w.heap.size w xs) := by
  obtain ⟨i0, hi, hz0, hz1, hz2⟩ := info_parts Tryz.infoU8
  have hown := World.ownsRow_made (base := w.heap.size) (e := 5) (size := 1) w #[] 0 (Nat.le_refl _) (Nat.zero_le _) rfl
  have hcs := cells_of hc
  go_enter Tryz.func135, Tryz.ntmps135
  go_wp2_with (at_builtin; go_loud (refine wpList_append_own _ rfl _ _ 54 rfl w.heap.size 5 i0 (.int .u8 0) 1 1 Tryz.underlying54 hi hz0 hz1 hz2 rfl (by decide) _ _ _ rfl hown ⟨b, off, none⟩ xs.length cap (xs.map (Value.int .u8)) rfl (by simp) ?c1 ?c2 ?c3 ?c4 ?c5 ?_))
  case c1 =>
    intro j u hj
    have := hcs j u hj
    rw [addr_add] at this ⊢
    rw [World.cell?_alloc_old _ _ _ (Nat.ne_of_lt (World.block_lt_of_cell? w _ this))]
    exact this
  case c2 => exact ints_oneCell _ _
  case c3 => unfold maxLen; omega
  case c4 => omega
  case c5 => simp
  · intro v' w1 hown' hgrow _
    go_wp2
    go_ret
    refine ⟨v', rfl, ?_, ?_⟩
    · simpa using hown'
    · exact grown_trans (World.grownBy_alloc w _ none) hgrow (fun k hk h => by simp [Value.ownBlock] at hk; omega)

end Go.Proofs.YtdadgcfpcneaiaaGreatDoor

/-
  Package nand: the array in memory. Each of its blocks has a role; blocks without a role are nobody's, or data that is never turned.
-/
namespace Go.Proofs.YtdadgcfpcneaiaaGreatDoor
set_option linter.unusedVariables false
set_option linter.unusedSimpArgs false
set_option linter.unusedVariables false
set_option linter.unusedSimpArgs false
set_option maxRecDepth 100000
open Go.RowKit

/-- A page: its state (0 blank, 1 written, 2 torn), what stands beside it, its data. -/
structure Pg where
  st : Int
  bs : List Int
  dt : ByteArray
def Pg.none (x : Int) : Pg := ⟨x, [], ⟨#[]⟩⟩

/-- Where an array stands; roles: 1 the struct, 2 its rows' row, 3 marks, 4 counts, 5 the power, 6 the draws, 8 + i the row of block i; 0 no role. -/
structure NShape where
  nb : Nat
  bl : Nat
  bm : Nat
  be : Nat
  pb : Nat
  db : Nat
  row : Nat → Nat
  T : Nat → Nat
  c : Int
  d : Int
  b : Int
  p : Int
  all : Nat
  pg : Nat

/-- What an array is: pages, marks, counts; the power's budget, whether it is gone, its count; the draws' counts. -/
structure NS where
  L : Nat → Nat → Pg
  mr : Nat → Bool
  er : Nat → Int
  px : Int
  off : Bool
  po : Int
  N : Nat → Int
  M : Nat → Int

structure RowAt (w : World) (T : Nat → Nat) (k pg : Nat) (f : Nat → Pg) : Prop where
  st : ∀ j, j < pg → w.cell? ⟨k, j * 3, none⟩ = some (.int .i64 (f j).st)
  bs : ∀ j, j < pg → ∃ v, w.cell? ⟨k, j * 3 + 1, none⟩ = some v ∧ Bts w v (f j).bs ∧ ∀ q, v.ownBlock = some q → T q = 0
  dt : ∀ j, j < pg → w.cell? ⟨k, j * 3 + 2, none⟩ = some (.string (f j).dt)
  free : ∀ o, w.frozen? ⟨k, o, none⟩ = false

structure FixAt (w : World) (S : NShape) : Prop where
  g0 : w.cell? ⟨S.nb, 0, none⟩ = some (.int .i64 S.c)
  g1 : w.cell? ⟨S.nb, 1, none⟩ = some (.int .i64 S.d)
  g2 : w.cell? ⟨S.nb, 2, none⟩ = some (.int .i64 S.b)
  g3 : w.cell? ⟨S.nb, 3, none⟩ = some (.int .i64 S.p)
  cp : w.cell? ⟨S.nb, 4, none⟩ = some (.pointer (some ⟨S.pb, 0, none⟩))
  cd : w.cell? ⟨S.nb, 5, none⟩ = some (.pointer (some ⟨S.db, 0, none⟩))
  cl : w.cell? ⟨S.nb, 6, none⟩ = some (.slice (some ⟨S.bl, 0, none⟩) S.all S.all)
  cm : w.cell? ⟨S.nb, 7, none⟩ = some (.slice (some ⟨S.bm, 0, none⟩) S.all S.all)
  ce : w.cell? ⟨S.nb, 8, none⟩ = some (.slice (some ⟨S.be, 0, none⟩) S.all S.all)
  rows : ∀ i, i < S.all → w.cell? ⟨S.bl, i, none⟩ = some (.slice (some ⟨S.row i, 0, none⟩) S.pg S.pg)

/-- The roles; the sizes. -/
structure Roles (S : NShape) : Prop where
  tn : S.T S.nb = 1
  tl : S.T S.bl = 2
  tm : S.T S.bm = 3
  te : S.T S.be = 4
  tp : S.T S.pb = 5
  td : S.T S.db = 6
  tr : ∀ i, i < S.all → S.T (S.row i) = 8 + i
  geo : geoE S.c S.d S.b S.p = 0
  alls : (S.all : Int) = S.c * S.d * S.b
  pgs : (S.pg : Int) = S.p

structure NandAt (w : World) (S : NShape) (V : Nat → Value) (zs : Nat → List Int) (s : NS) : Prop where
  fix : FixAt w S
  row : ∀ i, i < S.all → RowAt w S.T (S.row i) S.pg (s.L i)
  mks : ∀ i, i < S.all → w.cell? ⟨S.bm, i, none⟩ = some (.bool (s.mr i))
  mkf : ∀ o, w.frozen? ⟨S.bm, o, none⟩ = false
  ers : ∀ i, i < S.all → w.cell? ⟨S.be, i, none⟩ = some (.int .i64 (s.er i))
  erf : ∀ o, w.frozen? ⟨S.be, o, none⟩ = false
  pow : PowAt w S.pb s.px s.off s.po
  drs : DrAt w S.db V zs s.N s.M
  tv : ∀ j, j < 4 → ∀ k, (V j).ownBlock = some k → S.T k = 0
  hi : ∀ k, S.T k ≠ 0 → k < w.heap.size

theorem Roles.bds {S : NShape} (h : Roles S) : 3 ≤ S.all ∧ S.all ≤ 64 ∧ 2 ≤ S.pg ∧ S.pg ≤ 16 := by
  obtain ⟨_, _, _, h4, h5, h6⟩ := geo_ok h.geo
  have := h.alls
  have := h.pgs
  omega

/-- What has no role stands; there may be more. -/
structure Keeps (T : Nat → Nat) (w w' : World) : Prop where
  os : w'.os = w.os
  tape : w'.tape = w.tape
  output : w'.output = w.output
  size : w.heap.size ≤ w'.heap.size
  block : ∀ k, k < w.heap.size → T k = 0 → w'.heap[k]? = w.heap[k]?
theorem Keeps.refl (T : Nat → Nat) (w : World) : Keeps T w w := ⟨rfl, rfl, rfl, Nat.le_refl _, fun _ _ _ => rfl⟩
theorem Keeps.trans {T : Nat → Nat} {w w1 w2 : World} (h : Keeps T w w1) (h2 : Keeps T w1 w2) : Keeps T w w2 :=
  ⟨h2.os.trans h.os, h2.tape.trans h.tape, h2.output.trans h.output, Nat.le_trans h.size h2.size, fun k hk ht => (h2.block k (Nat.lt_of_lt_of_le hk h.size) ht).trans (h.block k hk ht)⟩
theorem Keeps.ext {T : Nat → Nat} {w w1 : World} (h : w.grownBy w1 none) : Keeps T w w1 := ⟨h.os, h.tape, h.output, h.size, fun k hk _ => h.block k hk (by simp)⟩
theorem Keeps.own {T : Nat → Nat} {w w1 : World} {r : Nat} (h : w.grownBy w1 (some r)) (hr : T r ≠ 0) : Keeps T w w1 :=
  ⟨h.os, h.tape, h.output, h.size, fun k hk ht => h.block k hk (fun e => by cases e; exact hr ht)⟩
theorem Keeps.bts {T : Nat → Nat} {w w1 : World} (h : Keeps T w w1) {v : Value} {xs : List Int} (hb : Bts w v xs) (hv : ∀ q, v.ownBlock = some q → T q = 0) : Bts w1 v xs := by
  rcases hb with hb | ⟨b, off, cap, rfl, h2, h3⟩
  · exact .inl hb
  · exact .inr ⟨b, off, cap, rfl, h2, fun i hi => (World.cell?_of_block (h.block b (World.block_lt_of_cell? w _ (h3 i hi)) (hv b rfl))).trans (h3 i hi)⟩
theorem Keeps.ints {T : Nat → Nat} {w w1 : World} (h : Keeps T w w1) {v : Value} {xs : List Int} (hb : Ints w v xs) (hv : ∀ q, v.ownBlock = some q → T q = 0) : Ints w1 v xs := by
  rcases hb with hb | ⟨b, off, cap, rfl, h2, h3⟩ | hb
  · exact .inl hb
  · exact .inr (.inl ⟨b, off, cap, rfl, h2, fun i hi => (World.cell?_of_block (h.block b (World.block_lt_of_cell? w _ (h3 i hi)) (hv b rfl))).trans (h3 i hi)⟩)
  · exact .inr (.inr hb)
/-- The same, where what is empty may lie anywhere. -/
theorem Keeps.ints0 {T : Nat → Nat} {w w1 : World} (h : Keeps T w w1) {v : Value} {xs : List Int} (hb : Ints w v xs) (hv : 0 < xs.length → ∀ q, v.ownBlock = some q → T q = 0) : Ints w1 v xs := by
  rcases hb with hb | ⟨b, off, cap, rfl, h2, h3⟩ | hb
  · exact .inl hb
  · exact .inr (.inl ⟨b, off, cap, rfl, h2, fun i hi => (World.cell?_of_block (h.block b (World.block_lt_of_cell? w _ (h3 i hi)) (hv (by omega) b rfl))).trans (h3 i hi)⟩)
  · exact .inr (.inr hb)

/-- One block k of a role stands, and so does what has none. -/
theorem RowAt.stays {w w' : World} {T : Nat → Nat} {k pg : Nat} {f : Nat → Pg} (h : RowAt w T k pg f) (hk : Keeps T w w') (hb : w'.heap[k]? = w.heap[k]?) : RowAt w' T k pg f :=
  ⟨fun j hj => (World.cell?_of_block hb).trans (h.st j hj), fun j hj => by
    obtain ⟨v, h1, h2, h3⟩ := h.bs j hj
    exact ⟨v, (World.cell?_of_block hb).trans h1, hk.bts h2 h3, h3⟩, fun j hj => (World.cell?_of_block hb).trans (h.dt j hj), fun o => (World.frozen?_of_block hb).trans (h.free o)⟩
theorem FixAt.stays {w w' : World} {S : NShape} (h : FixAt w S) (h1 : w'.heap[S.nb]? = w.heap[S.nb]?) (h2 : w'.heap[S.bl]? = w.heap[S.bl]?) : FixAt w' S :=
  ⟨(World.cell?_of_block h1).trans h.g0, (World.cell?_of_block h1).trans h.g1, (World.cell?_of_block h1).trans h.g2, (World.cell?_of_block h1).trans h.g3, (World.cell?_of_block h1).trans h.cp, (World.cell?_of_block h1).trans h.cd,
    (World.cell?_of_block h1).trans h.cl, (World.cell?_of_block h1).trans h.cm, (World.cell?_of_block h1).trans h.ce, fun i hi => (World.cell?_of_block h2).trans (h.rows i hi)⟩
theorem PowAt.stays {w w' : World} {b : Nat} {x : Int} {g : Bool} {o : Int} (h : PowAt w b x g o) (e : w'.heap[b]? = w.heap[b]?) : PowAt w' b x g o :=
  ⟨(World.cell?_of_block e).trans h.c0, (World.cell?_of_block e).trans h.c1, (World.cell?_of_block e).trans h.c2, (World.frozen?_of_block e).trans h.f0, (World.frozen?_of_block e).trans h.f1, (World.frozen?_of_block e).trans h.f2⟩
theorem DrAt.stays {w w' : World} {T : Nat → Nat} {b : Nat} {V : Nat → Value} {zs : Nat → List Int} {N M : Nat → Int} (h : DrAt w b V zs N M) (hk : Keeps T w w') (e : w'.heap[b]? = w.heap[b]?) (hv : ∀ j, j < 4 → ∀ k, (V j).ownBlock = some k → T k = 0) : DrAt w' b V zs N M :=
  ⟨fun j hj => (World.cell?_of_block e).trans (h.row j hj), fun j hj => (World.cell?_of_block e).trans (h.ops j hj), fun j hj => (World.cell?_of_block e).trans (h.bad j hj), fun o => (World.frozen?_of_block e).trans (h.free o), fun j hj => hk.ints (h.ints j hj) (hv j hj), h.apart⟩

section
variable {w w' : World} {S : NShape} {V : Nat → Value} {zs : Nat → List Int} {s : NS}

/-- Only new memory. -/
theorem NandAt.ext (h : NandAt w S V zs s) (hg : w.grownBy w' none) (hR : Roles S) : NandAt w' S V zs s := by
  have kp : Keeps S.T w w' := .ext hg
  have e : ∀ k, S.T k ≠ 0 → w'.heap[k]? = w.heap[k]? := fun k hk => hg.block k (h.hi k hk) (by simp)
  have e3 := e S.bm (by rw [hR.tm]; decide)
  have e4 := e S.be (by rw [hR.te]; decide)
  exact ⟨h.fix.stays (e _ (by rw [hR.tn]; decide)) (e _ (by rw [hR.tl]; decide)), fun i hi => (h.row i hi).stays kp (e _ (by rw [hR.tr i hi]; omega)), fun i hi => (World.cell?_of_block e3).trans (h.mks i hi), fun o => (World.frozen?_of_block e3).trans (h.mkf o),
    fun i hi => (World.cell?_of_block e4).trans (h.ers i hi), fun o => (World.frozen?_of_block e4).trans (h.erf o), h.pow.stays (e _ (by rw [hR.tp]; decide)), h.drs.stays kp (e _ (by rw [hR.td]; decide)) h.tv, h.tv, fun k hk => Nat.lt_of_lt_of_le (h.hi k hk) hg.size⟩

/-- One block of a role is turned: all others stand. -/
theorem NandAt.others (h : NandAt w S V zs s) {r : Nat} (hg : w.grownBy w' (some r)) {k : Nat} (hk : S.T k ≠ 0) (hr : S.T k ≠ S.T r) : w'.heap[k]? = w.heap[k]? :=
  hg.block k (h.hi k hk) (fun e => hr (by cases e; rfl))

theorem NandAt.power (h : NandAt w S V zs s) (hR : Roles S) (hg : w.grownBy w' (some S.pb)) {x : Int} {g : Bool} {o : Int} (hp : PowAt w' S.pb x g o) : NandAt w' S V zs { s with px := x, off := g, po := o } := by
  have kp : Keeps S.T w w' := .own hg (by rw [hR.tp]; decide)
  have e : ∀ k, S.T k ≠ 0 → S.T k ≠ 5 → w'.heap[k]? = w.heap[k]? := fun k hk h5 => h.others hg hk (by rw [hR.tp]; exact h5)
  have e3 := e S.bm (by rw [hR.tm]; decide) (by rw [hR.tm]; decide)
  have e4 := e S.be (by rw [hR.te]; decide) (by rw [hR.te]; decide)
  exact ⟨h.fix.stays (e _ (by rw [hR.tn]; decide) (by rw [hR.tn]; decide)) (e _ (by rw [hR.tl]; decide) (by rw [hR.tl]; decide)), fun i hi => (h.row i hi).stays kp (e _ (by rw [hR.tr i hi]; omega) (by rw [hR.tr i hi]; omega)), fun i hi => (World.cell?_of_block e3).trans (h.mks i hi), fun o => (World.frozen?_of_block e3).trans (h.mkf o),
    fun i hi => (World.cell?_of_block e4).trans (h.ers i hi), fun o => (World.frozen?_of_block e4).trans (h.erf o), hp, h.drs.stays kp (e _ (by rw [hR.td]; decide) (by rw [hR.td]; decide)) h.tv, h.tv, fun k hk => Nat.lt_of_lt_of_le (h.hi k hk) hg.size⟩

theorem NandAt.draws (h : NandAt w S V zs s) (hR : Roles S) (hg : w.grownBy w' (some S.db)) {N M : Nat → Int} (hd : DrAt w' S.db V zs N M) : NandAt w' S V zs { s with N := N, M := M } := by
  have kp : Keeps S.T w w' := .own hg (by rw [hR.td]; decide)
  have e : ∀ k, S.T k ≠ 0 → S.T k ≠ 6 → w'.heap[k]? = w.heap[k]? := fun k hk h5 => h.others hg hk (by rw [hR.td]; exact h5)
  have e3 := e S.bm (by rw [hR.tm]; decide) (by rw [hR.tm]; decide)
  have e4 := e S.be (by rw [hR.te]; decide) (by rw [hR.te]; decide)
  exact ⟨h.fix.stays (e _ (by rw [hR.tn]; decide) (by rw [hR.tn]; decide)) (e _ (by rw [hR.tl]; decide) (by rw [hR.tl]; decide)), fun i hi => (h.row i hi).stays kp (e _ (by rw [hR.tr i hi]; omega) (by rw [hR.tr i hi]; omega)), fun i hi => (World.cell?_of_block e3).trans (h.mks i hi), fun o => (World.frozen?_of_block e3).trans (h.mkf o),
    fun i hi => (World.cell?_of_block e4).trans (h.ers i hi), fun o => (World.frozen?_of_block e4).trans (h.erf o), h.pow.stays (e _ (by rw [hR.tp]; decide) (by rw [hR.tp]; decide)), hd, h.tv, fun k hk => Nat.lt_of_lt_of_le (h.hi k hk) hg.size⟩

/-- The row of a block is another one. -/
theorem NandAt.turnRow (h : NandAt w S V zs s) (hR : Roles S) {i : Nat} (hi : i < S.all) (hg : w.grownBy w' (some (S.row i))) {f : Nat → Pg} (hf : RowAt w' S.T (S.row i) S.pg f) :
    NandAt w' S V zs { s with L := fun i' => if i' = i then f else s.L i' } := by
  have kp : Keeps S.T w w' := .own hg (by rw [hR.tr i hi]; omega)
  have e : ∀ k, S.T k ≠ 0 → S.T k ≠ 8 + i → w'.heap[k]? = w.heap[k]? := fun k hk h5 => h.others hg hk (by rw [hR.tr i hi]; exact h5)
  have e3 := e S.bm (by rw [hR.tm]; decide) (by rw [hR.tm]; omega)
  have e4 := e S.be (by rw [hR.te]; decide) (by rw [hR.te]; omega)
  refine ⟨h.fix.stays (e _ (by rw [hR.tn]; decide) (by rw [hR.tn]; omega)) (e _ (by rw [hR.tl]; decide) (by rw [hR.tl]; omega)), fun i' hi' => ?_, fun i hi => (World.cell?_of_block e3).trans (h.mks i hi), fun o => (World.frozen?_of_block e3).trans (h.mkf o),
    fun i hi => (World.cell?_of_block e4).trans (h.ers i hi), fun o => (World.frozen?_of_block e4).trans (h.erf o), h.pow.stays (e _ (by rw [hR.tp]; decide) (by rw [hR.tp]; omega)), h.drs.stays kp (e _ (by rw [hR.td]; decide) (by rw [hR.td]; omega)) h.tv, h.tv, fun k hk => Nat.lt_of_lt_of_le (h.hi k hk) hg.size⟩
  by_cases e1 : i' = i
  · subst e1; simpa using hf
  · simp only [if_neg e1]
    exact (h.row i' hi').stays kp (e _ (by rw [hR.tr i' hi']; omega) (by rw [hR.tr i' hi']; omega))

theorem NandAt.mark (h : NandAt w S V zs s) (hR : Roles S) {i : Nat} (hi : i < S.all) (x : Bool) : NandAt (w.setCell ⟨S.bm, i, none⟩ (.bool x)) S V zs { s with mr := fun i' => if i' = i then x else s.mr i' } := by
  have hg := gb_set (gb_refl w (some S.bm)) i (.bool x)
  have kp : Keeps S.T w _ := .own hg (by rw [hR.tm]; decide)
  have e : ∀ k, S.T k ≠ 0 → S.T k ≠ 3 → (w.setCell ⟨S.bm, i, none⟩ (.bool x)).heap[k]? = w.heap[k]? := fun k hk h5 => h.others hg hk (by rw [hR.tm]; exact h5)
  have e4 := e S.be (by rw [hR.te]; decide) (by rw [hR.te]; decide)
  refine ⟨h.fix.stays (e _ (by rw [hR.tn]; decide) (by rw [hR.tn]; decide)) (e _ (by rw [hR.tl]; decide) (by rw [hR.tl]; decide)), fun i hi => (h.row i hi).stays kp (e _ (by rw [hR.tr i hi]; omega) (by rw [hR.tr i hi]; omega)), fun i' hi' => ?_, fun o => by simpa using h.mkf o,
    fun i hi => (World.cell?_of_block e4).trans (h.ers i hi), fun o => (World.frozen?_of_block e4).trans (h.erf o), h.pow.stays (e _ (by rw [hR.tp]; decide) (by rw [hR.tp]; decide)), h.drs.stays kp (e _ (by rw [hR.td]; decide) (by rw [hR.td]; decide)) h.tv, h.tv, fun k hk => Nat.lt_of_lt_of_le (h.hi k hk) hg.size⟩
  by_cases e1 : i' = i
  · subst e1; simp only [if_true]; exact World.cell?_setCell_same _ _ _ (h.mks i' hi')
  · simp only [if_neg e1]; exact (World.cell?_setCell_other _ _ _ _ (ne_off (by omega))).trans (h.mks i' hi')

theorem NandAt.count (h : NandAt w S V zs s) (hR : Roles S) {i : Nat} (hi : i < S.all) (x : Int) : NandAt (w.setCell ⟨S.be, i, none⟩ (.int .i64 x)) S V zs { s with er := fun i' => if i' = i then x else s.er i' } := by
  have hg := gb_set (gb_refl w (some S.be)) i (.int .i64 x)
  have kp : Keeps S.T w _ := .own hg (by rw [hR.te]; decide)
  have e : ∀ k, S.T k ≠ 0 → S.T k ≠ 4 → (w.setCell ⟨S.be, i, none⟩ (.int .i64 x)).heap[k]? = w.heap[k]? := fun k hk h5 => h.others hg hk (by rw [hR.te]; exact h5)
  have e3 := e S.bm (by rw [hR.tm]; decide) (by rw [hR.tm]; decide)
  refine ⟨h.fix.stays (e _ (by rw [hR.tn]; decide) (by rw [hR.tn]; decide)) (e _ (by rw [hR.tl]; decide) (by rw [hR.tl]; decide)), fun i hi => (h.row i hi).stays kp (e _ (by rw [hR.tr i hi]; omega) (by rw [hR.tr i hi]; omega)), fun i hi => (World.cell?_of_block e3).trans (h.mks i hi), fun o => (World.frozen?_of_block e3).trans (h.mkf o),
    fun i' hi' => ?_, fun o => by simpa using h.erf o, h.pow.stays (e _ (by rw [hR.tp]; decide) (by rw [hR.tp]; decide)), h.drs.stays kp (e _ (by rw [hR.td]; decide) (by rw [hR.td]; decide)) h.tv, h.tv, fun k hk => Nat.lt_of_lt_of_le (h.hi k hk) hg.size⟩
  by_cases e1 : i' = i
  · subst e1; simp only [if_true]; exact World.cell?_setCell_same _ _ _ (h.ers i' hi')
  · simp only [if_neg e1]; exact (World.cell?_setCell_other _ _ _ _ (ne_off (by omega))).trans (h.ers i' hi')
end

/-- One page's state is another one. -/
theorem RowAt.setSt {w : World} {T : Nat → Nat} {k pg : Nat} {f : Nat → Pg} (h : RowAt w T k pg f) (hT : T k ≠ 0) {j : Nat} (hj : j < pg) (x : Int) :
    RowAt (w.setCell ⟨k, j * 3, none⟩ (.int .i64 x)) T k pg (fun j' => if j' = j then { f j with st := x } else f j') := by
  have kp : Keeps T w (w.setCell ⟨k, j * 3, none⟩ (.int .i64 x)) := .own (gb_set (gb_refl w (some k)) _ _) hT
  refine ⟨fun j' hj' => ?_, fun j' hj' => ?_, fun j' hj' => ?_, fun o => by simpa using h.free o⟩
  · by_cases e : j' = j
    · subst e; simp only [if_true]; exact World.cell?_setCell_same _ _ _ (h.st j' hj')
    · simp only [if_neg e]; exact (World.cell?_setCell_other _ _ _ _ (ne_off (by omega))).trans (h.st j' hj')
  · obtain ⟨v, h1, h2, h3⟩ := h.bs j' hj'
    refine ⟨v, (World.cell?_setCell_other _ _ _ _ (ne_off (by omega))).trans h1, ?_, h3⟩
    by_cases e : j' = j
    · subst e; simpa using kp.bts h2 h3
    · simpa only [if_neg e] using kp.bts h2 h3
  · rw [World.cell?_setCell_other _ _ _ _ (ne_off (by omega)), h.dt j' hj']
    by_cases e : j' = j
    · subst e; simp
    · simp only [if_neg e]

/-- A whole page is another one. -/
theorem RowAt.setPg {w : World} {T : Nat → Nat} {k pg : Nat} {f : Nat → Pg} (h : RowAt w T k pg f) (hT : T k ≠ 0) {j : Nat} (hj : j < pg) (x : Pg) (v : Value) (hv : Bts w v x.bs) (hq : ∀ q, v.ownBlock = some q → T q = 0) :
    RowAt (((w.setCell ⟨k, j * 3, none⟩ (.int .i64 x.st)).setCell ⟨k, j * 3 + 1, none⟩ v).setCell ⟨k, j * 3 + 2, none⟩ (.string x.dt)) T k pg (fun j' => if j' = j then x else f j') := by
  have kp : Keeps T w (((w.setCell ⟨k, j * 3, none⟩ (.int .i64 x.st)).setCell ⟨k, j * 3 + 1, none⟩ v).setCell ⟨k, j * 3 + 2, none⟩ (.string x.dt)) := .own (gb_set (gb_set (gb_set (gb_refl w (some k)) _ _) _ _) _ _) hT
  refine ⟨fun j' hj' => ?_, fun j' hj' => ?_, fun j' hj' => ?_, fun o => by simpa using h.free o⟩
  · rw [World.cell?_setCell_other _ _ _ _ (ne_off (by omega)), World.cell?_setCell_other _ _ _ _ (ne_off (by omega))]
    by_cases e : j' = j
    · subst e; simp only [if_true]; exact World.cell?_setCell_same _ _ _ (h.st j' hj')
    · simp only [if_neg e]; exact (World.cell?_setCell_other _ _ _ _ (ne_off (by omega))).trans (h.st j' hj')
  · obtain ⟨u, h1, h2, h3⟩ := h.bs j' hj'
    rw [World.cell?_setCell_other _ _ _ _ (ne_off (by omega))]
    by_cases e : j' = j
    · subst e
      simp only [if_true]
      exact ⟨v, World.cell?_setCell_same _ _ _ ((World.cell?_setCell_other _ _ _ _ (ne_off (by omega))).trans h1), kp.bts hv hq, hq⟩
    · simp only [if_neg e]
      exact ⟨u, (World.cell?_setCell_other _ _ _ _ (ne_off (by omega))).trans ((World.cell?_setCell_other _ _ _ _ (ne_off (by omega))).trans h1), kp.bts h2 h3, h3⟩
  · by_cases e : j' = j
    · subst e
      simp only [if_true]
      exact World.cell?_setCell_same _ _ _ ((World.cell?_setCell_other _ _ _ _ (ne_off (by omega))).trans ((World.cell?_setCell_other _ _ _ _ (ne_off (by omega))).trans (h.dt j' hj')))
    · simp only [if_neg e]
      rw [World.cell?_setCell_other _ _ _ _ (ne_off (by omega)), World.cell?_setCell_other _ _ _ _ (ne_off (by omega)), World.cell?_setCell_other _ _ _ _ (ne_off (by omega))]
      exact h.dt j' hj'

end Go.Proofs.YtdadgcfpcneaiaaGreatDoor
