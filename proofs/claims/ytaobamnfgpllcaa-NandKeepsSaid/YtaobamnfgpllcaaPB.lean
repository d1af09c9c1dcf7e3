/-
  Package power: the methods of Power, and the document's.
-/
import Derived.Test.YtaobamnfgpllcaaAT
namespace Go.Proofs.Ytaobamnfgpllcaa
open Go.RowKit

/-- The power that stands in block b: budget, whether it is gone, count. -/
structure PowAt (w : World) (b : Nat) (x : Int) (g : Bool) (o : Int) : Prop where
  c0 : w.cell? ⟨b, 0, none⟩ = some (.int .i64 x)
  c1 : w.cell? ⟨b, 1, none⟩ = some (.int .u32 (if g then 1 else 0))
  c2 : w.cell? ⟨b, 2, none⟩ = some (.int .i64 o)
  f0 : w.frozen? ⟨b, 0, none⟩ = false
  f1 : w.frozen? ⟨b, 1, none⟩ = false
  f2 : w.frozen? ⟨b, 2, none⟩ = false
/-- The document's. -/
structure RefAt (w : World) (b : Nat) (x : Int) (g : Bool) (o : Int) : Prop where
  c0 : w.cell? ⟨b, 0, none⟩ = some (.int .i64 x)
  c1 : w.cell? ⟨b, 1, none⟩ = some (.bool g)
  c2 : w.cell? ⟨b, 2, none⟩ = some (.int .i64 o)
  f0 : w.frozen? ⟨b, 0, none⟩ = false
  f1 : w.frozen? ⟨b, 1, none⟩ = false
  f2 : w.frozen? ⟨b, 2, none⟩ = false

theorem gb_cell {w w' : World} {r : Option Nat} (h : w.grownBy w' r) {b o : Nat} (hb : b < w.heap.size) (hr : some b ≠ r) : w'.cell? ⟨b, o, none⟩ = w.cell? ⟨b, o, none⟩ := World.cell?_of_block (h.block b hb hr)
theorem gb_frozen {w w' : World} {r : Option Nat} (h : w.grownBy w' r) {b o : Nat} (hb : b < w.heap.size) (hr : some b ≠ r) : w'.frozen? ⟨b, o, none⟩ = w.frozen? ⟨b, o, none⟩ := World.frozen?_of_block (h.block b hb hr)
theorem PowAt.other {w w' : World} {b : Nat} {x : Int} {g : Bool} {o : Int} {r : Option Nat} (h : PowAt w b x g o) (hg : w.grownBy w' r) (hb : b < w.heap.size) (hr : some b ≠ r) : PowAt w' b x g o :=
  ⟨(gb_cell hg hb hr).trans h.c0, (gb_cell hg hb hr).trans h.c1, (gb_cell hg hb hr).trans h.c2, (gb_frozen hg hb hr).trans h.f0, (gb_frozen hg hb hr).trans h.f1, (gb_frozen hg hb hr).trans h.f2⟩
theorem RefAt.other {w w' : World} {b : Nat} {x : Int} {g : Bool} {o : Int} {r : Option Nat} (h : RefAt w b x g o) (hg : w.grownBy w' r) (hb : b < w.heap.size) (hr : some b ≠ r) : RefAt w' b x g o :=
  ⟨(gb_cell hg hb hr).trans h.c0, (gb_cell hg hb hr).trans h.c1, (gb_cell hg hb hr).trans h.c2, (gb_frozen hg hb hr).trans h.f0, (gb_frozen hg hb hr).trans h.f1, (gb_frozen hg hb hr).trans h.f2⟩
theorem PowAt.lt {w : World} {b : Nat} {x : Int} {g : Bool} {o : Int} (h : PowAt w b x g o) : b < w.heap.size := World.block_lt_of_cell? w _ h.c0
theorem RefAt.lt {w : World} {b : Nat} {x : Int} {g : Bool} {o : Int} (h : RefAt w b x g o) : b < w.heap.size := World.block_lt_of_cell? w _ h.c0

theorem PowAt.set0 {w : World} {b : Nat} {x : Int} {g : Bool} {o : Int} (h : PowAt w b x g o) (y : Int) : PowAt (w.setCell ⟨b, 0, none⟩ (.int .i64 y)) b y g o :=
  ⟨World.cell?_setCell_same _ _ _ h.c0, (World.cell?_setCell_other _ _ _ _ (ne_off (by decide))).trans h.c1, (World.cell?_setCell_other _ _ _ _ (ne_off (by decide))).trans h.c2, by simpa using h.f0, by simpa using h.f1, by simpa using h.f2⟩
theorem PowAt.set1 {w : World} {b : Nat} {x : Int} {g : Bool} {o : Int} (h : PowAt w b x g o) (y : Bool) : PowAt (w.setCell ⟨b, 1, none⟩ (.int .u32 (if y then 1 else 0))) b x y o :=
  ⟨(World.cell?_setCell_other _ _ _ _ (ne_off (by decide))).trans h.c0, World.cell?_setCell_same _ _ _ h.c1, (World.cell?_setCell_other _ _ _ _ (ne_off (by decide))).trans h.c2, by simpa using h.f0, by simpa using h.f1, by simpa using h.f2⟩
theorem PowAt.set2 {w : World} {b : Nat} {x : Int} {g : Bool} {o : Int} (h : PowAt w b x g o) (y : Int) : PowAt (w.setCell ⟨b, 2, none⟩ (.int .i64 y)) b x g y :=
  ⟨(World.cell?_setCell_other _ _ _ _ (ne_off (by decide))).trans h.c0, (World.cell?_setCell_other _ _ _ _ (ne_off (by decide))).trans h.c1, World.cell?_setCell_same _ _ _ h.c2, by simpa using h.f0, by simpa using h.f1, by simpa using h.f2⟩
theorem PowAt.drew {w : World} {b : Nat} {x : Int} {g : Bool} {o : Int} (h : PowAt w b x g o) : PowAt w.drew b x g o := ⟨h.c0, h.c1, h.c2, h.f0, h.f1, h.f2⟩
theorem RefAt.set0 {w : World} {b : Nat} {x : Int} {g : Bool} {o : Int} (h : RefAt w b x g o) (y : Int) : RefAt (w.setCell ⟨b, 0, none⟩ (.int .i64 y)) b y g o :=
  ⟨World.cell?_setCell_same _ _ _ h.c0, (World.cell?_setCell_other _ _ _ _ (ne_off (by decide))).trans h.c1, (World.cell?_setCell_other _ _ _ _ (ne_off (by decide))).trans h.c2, by simpa using h.f0, by simpa using h.f1, by simpa using h.f2⟩
theorem RefAt.set1 {w : World} {b : Nat} {x : Int} {g : Bool} {o : Int} (h : RefAt w b x g o) (y : Bool) : RefAt (w.setCell ⟨b, 1, none⟩ (.bool y)) b x y o :=
  ⟨(World.cell?_setCell_other _ _ _ _ (ne_off (by decide))).trans h.c0, World.cell?_setCell_same _ _ _ h.c1, (World.cell?_setCell_other _ _ _ _ (ne_off (by decide))).trans h.c2, by simpa using h.f0, by simpa using h.f1, by simpa using h.f2⟩
theorem RefAt.set2 {w : World} {b : Nat} {x : Int} {g : Bool} {o : Int} (h : RefAt w b x g o) (y : Int) : RefAt (w.setCell ⟨b, 2, none⟩ (.int .i64 y)) b x g y :=
  ⟨(World.cell?_setCell_other _ _ _ _ (ne_off (by decide))).trans h.c0, (World.cell?_setCell_other _ _ _ _ (ne_off (by decide))).trans h.c1, World.cell?_setCell_same _ _ _ h.c2, by simpa using h.f0, by simpa using h.f1, by simpa using h.f2⟩
theorem RefAt.drew {w : World} {b : Nat} {x : Int} {g : Bool} {o : Int} (h : RefAt w b x g o) : RefAt w.drew b x g o := ⟨h.c0, h.c1, h.c2, h.f0, h.f1, h.f2⟩

theorem gone_is (b : Nat) (x : Int) (g : Bool) (o : Int) (w : World) (h : PowAt w b x g o) :
    Calls Try.prog 25 #[.pointer (some ⟨b, 0, none⟩)] w fun e w' => e = .returned (.bool g) ∧ w = w' := by
  obtain ⟨c0, c1, c2, f0, f1, f2⟩ := h
  have L := loadB b 1 g w c1
  clear c0 c1 c2 f0 f1 f2
  go_enter Try.func25, Try.ntmps25
  go_wp2_with (go_at_call 38; refine L.mono ?_; rintro e w' ⟨rfl, rfl⟩)
  go_ret
  exact ⟨rfl, rfl⟩

theorem gone_nil (w : World) : Calls Try.prog 25 #[.pointer none] w fun e w' => e = .returned (.bool true) ∧ w = w' := by
  go_enter Try.func25, Try.ntmps25
  go_wp2
  go_ret
  exact ⟨rfl, rfl⟩

/-- A call that turns the power alone. -/
def Turns (b : Nat) (x : Int) (g : Bool) (o : Int) (v : Value) (w : World) (e : Ending) (w' : World) : Prop := e = .returned v ∧ PowAt w' b x g o ∧ w.grownBy w' (some b)
def TurnsR (b : Nat) (x : Int) (g : Bool) (o : Int) (v : Value) (w : World) (e : Ending) (w' : World) : Prop := e = .returned v ∧ RefAt w' b x g o ∧ w.grownBy w' (some b)

theorem cut_is (b : Nat) (x : Int) (g : Bool) (o : Int) (w : World) (h : PowAt w b x g o) :
    Calls Try.prog 41 #[.pointer (some ⟨b, 0, none⟩)] w (Turns b x true o (.tuple #[]) w) := by
  have L := storeB b 1 true _ w h.c1 h.f1
  have H := Lib.hid h
  clear h
  go_enter Try.func41, Try.ntmps41
  go_wp2_with (go_at_call 43; refine L.mono ?_; rintro e w' ⟨rfl, rfl⟩)
  go_end0
  exact ⟨rfl, (H.out.set1 true).drew, gb_drew (gb_set (gb_refl w _) _ _)⟩

theorem cut_nil (w : World) : Calls Try.prog 41 #[.pointer none] w fun e w' => e = .returned (.tuple #[]) ∧ w = w' := by
  go_enter Try.func41, Try.ntmps41
  go_wp2
  go_end0
  exact ⟨rfl, rfl⟩

theorem back_is (b : Nat) (x : Int) (g : Bool) (o : Int) (n : Int) (w : World) (h : PowAt w b x g o) :
    Calls Try.prog 31 #[.pointer (some ⟨b, 0, none⟩), .int .i64 n] w (Turns b n false o (.tuple #[]) w) := by
  have L := store64 b 0 n _ w h.c0 h.f0
  have h1 := h.set0 n
  have M := storeB b 1 false _ (w.setCell ⟨b, 0, none⟩ (.int .i64 n)) h1.c1 h1.f1
  have H := Lib.hid h1
  clear h h1
  go_enter Try.func31, Try.ntmps31
  go_wp2_with (first
    | (go_at_call 42; refine L.mono ?_; rintro e w' ⟨rfl, rfl⟩)
    | (go_at_call 43; refine M.mono ?_; rintro e w' ⟨rfl, rfl⟩))
  go_end0
  exact ⟨rfl, (H.out.set1 false).drew, gb_drew (gb_set (gb_set (gb_refl w _) _ _) _ _)⟩

theorem back_nil (n : Int) (w : World) : Calls Try.prog 31 #[.pointer none, .int .i64 n] w fun e w' => e = .returned (.tuple #[]) ∧ w = w' := by
  go_enter Try.func31, Try.ntmps31
  go_wp2
  refine bodyPost_ret (results_none rfl _ _ _) rfl ?_
  exact ⟨rfl, rfl⟩

theorem new_is (n : Int) (w : World) :
    Calls Try.prog 16 #[.int .i64 n] w fun e w' => e = .returned (.pointer (some ⟨w.heap.size, 0, none⟩)) ∧ PowAt w' w.heap.size n false 0 ∧ w.grownBy w' none := by
  have h : PowAt (w.alloc (.cells #[.int .i64 0, .int .u32 0, .int .i64 0] 75)) w.heap.size 0 false 0 := by constructor <;> simp
  have B := back_is w.heap.size 0 false 0 n (w.alloc (.cells #[.int .i64 0, .int .u32 0, .int .i64 0] 75)) h
  clear h
  go_enter Try.func16, Try.ntmps16
  go_wp2_with (go_at_call 31; refine B.mono ?_; rintro e w' ⟨rfl, hp, hg⟩)
  go_ret
  exact ⟨rfl, hp, ⟨hg.os, hg.tape, hg.output, by have := hg.size; simp at this; omega, fun k hk _ => (hg.block k (by simp; omega) (by simp; omega)).trans (Below.heap_alloc _ _ _ hk)⟩⟩

theorem spend_nil (w : World) : Calls Try.prog 30 #[.pointer none] w fun e w' => e = .returned (.int .i64 12) ∧ w = w' := by
  go_enter Try.func30, Try.ntmps30
  go_wp2_with (go_at_call 25; refine (gone_nil _).mono ?_; rintro e w' ⟨rfl, rfl⟩)
  go_ret
  exact ⟨rfl, rfl⟩

theorem spend_gone (b : Nat) (x o : Int) (w : World) (h : PowAt w b x true o) :
    Calls Try.prog 30 #[.pointer (some ⟨b, 0, none⟩)] w (Turns b x true o (.int .i64 12) w) := by
  have G := gone_is b x true o w h
  have H := Lib.hid h
  clear h
  go_enter Try.func30, Try.ntmps30
  go_wp2_with (go_at_call 25; refine G.mono ?_; rintro e w' ⟨rfl, rfl⟩)
  go_ret
  exact ⟨rfl, H.out, gb_refl w _⟩

theorem spend_there (b : Nat) (x o : Int) (w : World) (h : PowAt w b x false o) (hx : -9223372036854775808 ≤ x) (hx' : x ≤ 9223372036854775807) (h0 : 0 ≤ o) (h1 : o < 1000000) :
    Calls Try.prog 30 #[.pointer (some ⟨b, 0, none⟩)] w (Turns b (if 0 < x then x - 1 else x) (x == 0) (o + 1) (.int .i64 (if x = 0 then 11 else 0)) w) := by
  have G := gone_is b x false o w h
  have A := add64 b 2 o w h.c2 h.f2 h0 h1
  have h2 := h.set2 (o + 1)
  have L := load64 b 0 x _ h2.c0
  have H := Lib.hid h2
  have g1 := gb_set (gb_refl w (some b)) 2 (.int .i64 (o + 1))
  obtain ⟨w1, hw1⟩ : ∃ w1, w.setCell ⟨b, 2, none⟩ (.int .i64 (o + 1)) = w1 := ⟨_, rfl⟩
  rw [hw1] at A L h2 H g1
  by_cases hz : x = 0
  · subst hz
    have C := cut_is b 0 false (o + 1) w1 h2
    clear h h2 h0 h1 hw1
    go_enter Try.func30, Try.ntmps30
    go_wp2_with (first
      | (go_at_call 25; refine G.mono ?_; rintro e w' ⟨rfl, rfl⟩)
      | (go_at_call 39; refine A.mono ?_; rintro e w' ⟨rfl, rfl⟩)
      | (go_at_call 40; refine L.mono ?_; rintro e w' ⟨rfl, rfl⟩)
      | (go_at_call 41; refine C.mono ?_; rintro e w' ⟨rfl, hp, hg⟩))
    go_ret
    exact ⟨rfl, hp, gb_trans g1 hg⟩
  · by_cases hp : 0 < x
    · have S := store64 b 0 (x - 1) _ w1 h2.c0 h2.f0
      have e1 : (x == 0) = false := by simpa using hz
      rw [if_pos hp, if_neg hz, e1]
      clear h h2 h0 h1 hw1 e1
      go_enter Try.func30, Try.ntmps30
      go_wp2_with (first
        | (go_at_call 25; refine G.mono ?_; rintro e w' ⟨rfl, rfl⟩)
        | (go_at_call 39; refine A.mono ?_; rintro e w' ⟨rfl, rfl⟩)
        | (go_at_call 40; refine L.mono ?_; rintro e w' ⟨rfl, rfl⟩)
        | (go_at_call 42; refine S.mono ?_; rintro e w' ⟨rfl, rfl⟩))
      go_ret
      exact ⟨rfl, H.out.set0 _, gb_set g1 _ _⟩
    · have e1 : (x == 0) = false := by simpa using hz
      rw [if_neg hp, if_neg hz, e1]
      clear h h2 h0 h1 hw1 e1
      go_enter Try.func30, Try.ntmps30
      go_wp2_with (first
        | (go_at_call 25; refine G.mono ?_; rintro e w' ⟨rfl, rfl⟩)
        | (go_at_call 39; refine A.mono ?_; rintro e w' ⟨rfl, rfl⟩)
        | (go_at_call 40; refine L.mono ?_; rintro e w' ⟨rfl, rfl⟩))
      go_ret
      exact ⟨rfl, H.out, g1⟩



end Go.Proofs.Ytaobamnfgpllcaa
