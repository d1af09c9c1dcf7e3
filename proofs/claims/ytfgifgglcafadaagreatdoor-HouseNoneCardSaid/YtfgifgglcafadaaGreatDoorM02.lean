/-
  Texts put together: WA TA HA AT DB DC PB GA.
-/
import Derived.Test.YtfgifgglcafadaaGreatDoorRows
import Derived.WalkKit
import Derived.WalkSpells
import Derived.WalkLawsBesides
import Derived.BigQuiet
import Derived.Deep.QuietTactic
import Derived.Lib.Hide
import Derived.Test.YtfgifgglcafadaaGreatDoorM01
import Derived.Handy
import Derived.Outline
import Derived.Deep.DeepCutAuto
import Derived.Deep.Cut
import Derived.Deep.CutBlock
import Derived.Deep.LoopGhost
import Derived.Laws.LoneSync
import Derived.RegionCalls
import Derived.Below
namespace Go.Proofs.YtfgifgglcafadaaGreatDoor
set_option linter.unusedVariables false
set_option linter.unusedSimpArgs false
set_option linter.unusedVariables false
set_option linter.unusedSimpArgs false
set_option maxRecDepth 100000
open Go.RowKit
theorem ret_bool {a b : Bool} (h : a = b) : Ending.returned (.bool a) = .returned (.bool b) := by rw [h]
theorem ret_int {k : IntKind} {a b : Int} (h : a = b) : Ending.returned (.int k a) = .returned (.int k b) := by rw [h]
def sizeB (n : Int) : Bool := decide (n = 1 ∨ n = 2 ∨ n = 4)
set_option maxHeartbeats 400000 in
theorem isSize_any (n : Int) (w : World) :
   Calls Tryz.prog 279 #[.int .i64 n] w fun e w' => e = .returned (.bool (sizeB n)) ∧ w = w' := by
 by_cases h1 : n = 1
 · subst h1
   go_enter Tryz.func279, Tryz.ntmps279
   go_wp2
   go_ret
   exact ⟨ret_bool (by simp [sizeB]), rfl⟩
 · by_cases h2 : n = 2
   · subst h2
     go_enter Tryz.func279, Tryz.ntmps279
     go_wp2
     go_ret
     exact ⟨ret_bool (by simp [sizeB]), rfl⟩
   · have e1 : (n == 1) = false := by simpa using h1
     have e2 : (n == 2) = false := by simpa using h2
     go_enter Tryz.func279, Tryz.ntmps279
     go_wp2
     go_ret
     refine ⟨ret_bool ?_, rfl⟩
     rw [Bool.eq_iff_iff]
     simp [sizeB]
     omega
def fitsB (v n : Int) : Bool := decide (0 ≤ v ∧ ((n = 1 ∧ v ≤ 255) ∨ (n = 2 ∧ v ≤ 65535) ∨ (n = 4 ∧ v ≤ 4294967295)))
theorem fits_u64 (v : Int) (h0 : 0 ≤ v) (h1 : v ≤ 9223372036854775807) : IntKind.u64.wrap v = v := by
 simp [IntKind.wrap, IntKind.bits, IntKind.signed]
 omega
set_option maxHeartbeats 400000 in
theorem fits_any (v n : Int) (w : World) (hv9 : v ≤ 9223372036854775807) :
   Calls Tryz.prog 256 #[.int .i64 v, .int .i64 n] w fun e w' => e = .returned (.bool (fitsB v n)) ∧ w = w' := by
 by_cases hs : sizeB n = true
 · have hn : n = 1 ∨ n = 2 ∨ n = 4 := by simpa [sizeB] using hs
   by_cases hv : 0 ≤ v
   · have hu := fits_u64 v hv hv9
     rcases hn with rfl | rfl | rfl
     all_goals
       go_enter Tryz.func256, Tryz.ntmps256
       go_wp2_with (go_at_call 279; refine (isSize_any _ _).mono ?_; rintro e w' ⟨rfl, rfl⟩)
       go_ret
       refine ⟨ret_bool ?_, rfl⟩
       rw [Bool.eq_iff_iff]
       simp [fitsB]
       omega
   · have hv0 : decide (0 ≤ v) = false := by simpa using hv
     go_enter Tryz.func256, Tryz.ntmps256
     go_wp2_with (go_at_call 279; refine (isSize_any _ _).mono ?_; rintro e w' ⟨rfl, rfl⟩)
     go_ret
     refine ⟨ret_bool ?_, rfl⟩
     simp [fitsB]
     omega
 · have hs' : sizeB n = false := by simpa using hs
   go_enter Tryz.func256, Tryz.ntmps256
   go_wp2_with (go_at_call 279; refine (isSize_any _ _).mono ?_; rintro e w' ⟨rfl, rfl⟩)
   go_ret
   refine ⟨ret_bool ?_, rfl⟩
   have hn : ¬ (n = 1 ∨ n = 2 ∨ n = 4) := by simpa [sizeB] using hs'
   rw [Bool.eq_iff_iff]
   simp [fitsB]
   omega
end Go.Proofs.YtfgifgglcafadaaGreatDoor

namespace Go.Proofs.YtfgifgglcafadaaGreatDoor
set_option linter.unusedVariables false
set_option linter.unusedSimpArgs false
set_option linter.unusedVariables false
set_option linter.unusedSimpArgs false
set_option maxRecDepth 100000
open Go.RowKit
def fsz (j : Nat) : Int := [1, 4, 1, 4, 1].getD j 0
def ffr (j : Nat) : Int := [0, 0, 0, 0, 1].getD j 0
def fto (j : Nat) : Int := [3, 2147483647, 63, 2147483647, 2].getD j 0
def Flds (w : World) : Prop := ∀ j, j < 5 → w.cell? ⟨0, j * 3, none⟩ = some (.int .i64 (fsz j)) ∧ w.cell? ⟨0, j * 3 + 1, none⟩ = some (.int .i64 (ffr j)) ∧ w.cell? ⟨0, j * 3 + 2, none⟩ = some (.int .i64 (fto j))
theorem Flds.kept {w w' : World} {r : Option Nat} (h : Flds w) (hg : w.grownBy w' r) (hr : some 0 ≠ r) : Flds w' := fun j hj =>
 ⟨hg.cell (h j hj).1 hr, hg.cell (h j hj).2.1 hr, hg.cell (h j hj).2.2 hr⟩
theorem Flds.lt {w : World} (h : Flds w) : 0 < w.heap.size := World.block_lt_of_cell? w _ (h 0 (by decide)).1
theorem Flds.ext {w w' : World} (h : Flds w) (hg : Ext w w') : Flds w' := h.kept hg (by simp)
end Go.Proofs.YtfgifgglcafadaaGreatDoor

namespace Go.Proofs.YtfgifgglcafadaaGreatDoor
set_option linter.unusedVariables false
set_option linter.unusedSimpArgs false
set_option linter.unusedVariables false
set_option linter.unusedSimpArgs false
set_option maxRecDepth 100000
open Go.RowKit
section
variable {ops : Array Oper} {rest : List Oper} {o : Oper} {a : Act} {w : World} {Q : Exit → Act → World → Prop}
end
theorem g17_new {w w1 w2 : World} {g : Nat} (h : w.grownBy w1 none) (h2 : w1.grownBy w2 (some g)) (hg : w.heap.size ≤ g) : w.grownBy w2 none :=
 ⟨h2.os.trans h.os, h2.tape.trans h.tape, h2.output.trans h.output, Nat.le_trans h.size h2.size, fun k hk hne => (h2.block k (Nat.lt_of_lt_of_le hk h.size) (fun e => by injection e with e; omega)).trans (h.block k hk hne)⟩
end Go.Proofs.YtfgifgglcafadaaGreatDoor

namespace Go.Proofs.YtfgifgglcafadaaGreatDoor
set_option linter.unusedVariables false
set_option linter.unusedSimpArgs false
set_option linter.unusedVariables false
set_option linter.unusedSimpArgs false
set_option maxRecDepth 100000
open Go.RowKit
theorem gb_refl (w : World) (r : Option Nat) : w.grownBy w r := ⟨rfl, rfl, rfl, Nat.le_refl _, fun _ _ _ => rfl⟩
theorem gb_set {w w' : World} {b : Nat} (h : w.grownBy w' (some b)) (o : Nat) (v : Value) : w.grownBy (w'.setCell ⟨b, o, none⟩ v) (some b) :=
 ⟨h.os, h.tape, h.output, by have := h.size; simpa [World.setCell] using this, fun k hk hne => (Below.heap_setCell w' ⟨b, o, none⟩ v k (fun e => hne (by simp [e]))).trans (h.block k hk hne)⟩
theorem gb_drew {w w' : World} {r : Option Nat} (h : w.grownBy w' r) : w.grownBy w'.drew r := ⟨h.os, h.tape, h.output, h.size, h.block⟩
theorem gb_trans {w w1 w2 : World} {r : Option Nat} (h : w.grownBy w1 r) (h2 : w1.grownBy w2 r) : w.grownBy w2 r :=
 ⟨h2.os.trans h.os, h2.tape.trans h.tape, h2.output.trans h.output, Nat.le_trans h.size h2.size, fun k hk hne => (h2.block k (Nat.lt_of_lt_of_le hk h.size) hne).trans (h.block k hk hne)⟩
theorem ne_off {b o p : Nat} (h : o ≠ p) : (⟨b, o, none⟩ : Addr) ≠ ⟨b, p, none⟩ := fun e => h (by simpa using congrArg Addr.off e)
theorem load64 (b o : Nat) (x : Int) (w : World) (h : w.cell? ⟨b, o, none⟩ = some (.int .i64 x)) :
   Calls Tryz.prog 93 #[.pointer (some ⟨b, o, none⟩)] w fun e w' => e = .returned (.int .i64 x) ∧ w = w' := by
 have hl := run_call_load (P := Tryz.prog) Tryz.func131 (by kernel_rfl) (by kernel_rfl) (by kernel_rfl) .i64 (by kernel_rfl) h
 go_enter Tryz.func93, Tryz.ntmps93
 go_wp2
 go_ret
 exact ⟨rfl, rfl⟩
theorem store64 (b o : Nat) (x : Int) (u : Value) (w : World) (h : w.cell? ⟨b, o, none⟩ = some u) (f : w.frozen? ⟨b, o, none⟩ = false) :
   Calls Tryz.prog 124 #[.pointer (some ⟨b, o, none⟩), .int .i64 x] w fun e w' => e = .returned (.tuple #[]) ∧ w.setCell ⟨b, o, none⟩ (.int .i64 x) = w' := by
 have hl := run_call_store (P := Tryz.prog) (k := .i64) (y := x) Tryz.func157 (by kernel_rfl) (by kernel_rfl) (by kernel_rfl) (by kernel_rfl) h f
 go_enter Tryz.func124, Tryz.ntmps124
 go_wp2
 go_end0
 exact ⟨rfl, rfl⟩
theorem add64 (b o : Nat) (x : Int) (w : World) (h : w.cell? ⟨b, o, none⟩ = some (.int .i64 x)) (f : w.frozen? ⟨b, o, none⟩ = false) (h0 : 0 ≤ x) (h1 : x < 4611686018427387904) :
   Calls Tryz.prog 249 #[.pointer (some ⟨b, o, none⟩), .int .i64 1] w fun e w' => e = .returned (.int .i64 (x + 1)) ∧ w.setCell ⟨b, o, none⟩ (.int .i64 (x + 1)) = w' := by
 have hl := run_call_add (P := Tryz.prog) (x := x) (y := 1) (s := x + 1) Tryz.func282 (by kernel_rfl) (by kernel_rfl) (by kernel_rfl) .i64 (by kernel_rfl) h f (by simp [go_sem, IntWalk.i64_in (x + 1) (by omega)])
 go_enter Tryz.func249, Tryz.ntmps249
 go_wp2
 go_ret
 exact ⟨rfl, rfl⟩
theorem loadB (b o : Nat) (x : Bool) (w : World) (h : w.cell? ⟨b, o, none⟩ = some (.int .u32 (if x then 1 else 0))) :
   Calls Tryz.prog 90 #[.pointer (some ⟨b, o, none⟩)] w fun e w' => e = .returned (.bool x) ∧ w = w' := by
 have hl := run_call_load (P := Tryz.prog) Tryz.func130 (by kernel_rfl) (by kernel_rfl) (by kernel_rfl) .u32 (by kernel_rfl) h
 cases x
 all_goals
   go_enter Tryz.func90, Tryz.ntmps90
   go_wp2
   go_ret
   exact ⟨rfl, rfl⟩
theorem storeB (b o : Nat) (x : Bool) (u : Value) (w : World) (h : w.cell? ⟨b, o, none⟩ = some u) (f : w.frozen? ⟨b, o, none⟩ = false) :
   Calls Tryz.prog 125 #[.pointer (some ⟨b, o, none⟩), .bool x] w fun e w' => e = .returned (.tuple #[]) ∧ (w.setCell ⟨b, o, none⟩ (.int .u32 (if x then 1 else 0))).drew = w' := by
 have hl := run_call_store (P := Tryz.prog) (w := w.drew) (k := .u32) (y := if x then 1 else 0) Tryz.func158 (by kernel_rfl) (by kernel_rfl) (by kernel_rfl) (by kernel_rfl) h f
 cases x
 all_goals
   simp only [if_true, if_false, Bool.false_eq_true] at hl
   go_enter Tryz.func125, Tryz.ntmps125
   go_region_calls
   all_goals
     go_wp2
     go_end0
     exact ⟨rfl, rfl⟩
end Go.Proofs.YtfgifgglcafadaaGreatDoor

namespace Go.Proofs.YtfgifgglcafadaaGreatDoor
set_option linter.unusedVariables false
set_option linter.unusedSimpArgs false
set_option linter.unusedVariables false
set_option linter.unusedSimpArgs false
set_option maxRecDepth 100000
open Go.RowKit
structure DrAt (w : World) (b : Nat) (V : Nat → Value) (zs : Nat → List Int) (N M : Nat → Int) : Prop where
 row : ∀ j, j < 4 → w.cell? ⟨b, j, none⟩ = some (V j)
 ops : ∀ j, j < 4 → w.cell? ⟨b, 4 + j, none⟩ = some (.int .i64 (N j))
 bad : ∀ j, j < 4 → w.cell? ⟨b, 8 + j, none⟩ = some (.int .i64 (M j))
 free : ∀ o, w.frozen? ⟨b, o, none⟩ = false
 ints : ∀ j, j < 4 → Ints w (V j) (zs j)
 apart : ∀ j, j < 4 → ∀ k, (V j).ownBlock = some k → k ≠ b
theorem DrAt.lt {w : World} {b : Nat} {V : Nat → Value} {zs : Nat → List Int} {N M : Nat → Int} (h : DrAt w b V zs N M) : b < w.heap.size := World.block_lt_of_cell? w _ (h.row 0 (by omega))
theorem DrAt.other {w w' : World} {b : Nat} {V : Nat → Value} {zs : Nat → List Int} {N M : Nat → Int} {r : Option Nat} (h : DrAt w b V zs N M) (hg : w.grownBy w' r) (hr : some b ≠ r) (hv : ∀ j, j < 4 → ∀ k, (V j).ownBlock = some k → some k ≠ r) : DrAt w' b V zs N M := by
 have e : ∀ o, w'.cell? ⟨b, o, none⟩ = w.cell? ⟨b, o, none⟩ := fun o => World.cell?_of_block (hg.block b h.lt hr)
 exact ⟨fun j hj => (e j).trans (h.row j hj), fun j hj => (e _).trans (h.ops j hj), fun j hj => (e _).trans (h.bad j hj), fun o => (World.frozen?_of_block (hg.block b h.lt hr)).trans (h.free o), fun j hj => (h.ints j hj).kept hg (hv j hj), h.apart⟩
theorem Ints.setOther {w : World} {v : Value} {xs : List Int} {b o : Nat} {u : Value} (h : Ints w v xs) (hv : ∀ k, v.ownBlock = some k → k ≠ b) : Ints (w.setCell ⟨b, o, none⟩ u) v xs :=
 h.kept (gb_set (gb_refl w (some b)) o u) (fun k hk e => hv k hk (by simpa using e))
def upd (N : Nat → Int) (j : Nat) (x : Int) : Nat → Int := fun i => if i = j then x else N i
theorem DrAt.setOps {w : World} {b : Nat} {V : Nat → Value} {zs : Nat → List Int} {N M : Nat → Int} (h : DrAt w b V zs N M) {j : Nat} (hj : j < 4) (x : Int) : DrAt (w.setCell ⟨b, 4 + j, none⟩ (.int .i64 x)) b V zs (upd N j x) M := by
 refine ⟨fun i hi => (World.cell?_setCell_other _ _ _ _ (ne_off (by omega))).trans (h.row i hi), fun i hi => ?_, fun i hi => (World.cell?_setCell_other _ _ _ _ (ne_off (by omega))).trans (h.bad i hi), fun o => by simpa using h.free o, fun i hi => (h.ints i hi).setOther (h.apart i hi), h.apart⟩
 unfold upd
 by_cases e : i = j
 · subst e; rw [if_pos rfl]; exact World.cell?_setCell_same _ _ _ (h.ops i hi)
 · rw [if_neg e]; exact (World.cell?_setCell_other _ _ _ _ (ne_off (by omega))).trans (h.ops i hi)
theorem DrAt.setBad {w : World} {b : Nat} {V : Nat → Value} {zs : Nat → List Int} {N M : Nat → Int} (h : DrAt w b V zs N M) {j : Nat} (hj : j < 4) (x : Int) : DrAt (w.setCell ⟨b, 8 + j, none⟩ (.int .i64 x)) b V zs N (upd M j x) := by
 refine ⟨fun i hi => (World.cell?_setCell_other _ _ _ _ (ne_off (by omega))).trans (h.row i hi), fun i hi => (World.cell?_setCell_other _ _ _ _ (ne_off (by omega))).trans (h.ops i hi), fun i hi => ?_, fun o => by simpa using h.free o, fun i hi => (h.ints i hi).setOther (h.apart i hi), h.apart⟩
 unfold upd
 by_cases e : i = j
 · subst e; rw [if_pos rfl]; exact World.cell?_setCell_same _ _ _ (h.bad i hi)
 · rw [if_neg e]; exact (World.cell?_setCell_other _ _ _ _ (ne_off (by omega))).trans (h.bad i hi)
theorem upd_same (N : Nat → Int) (j : Nat) : upd N j (N j) = N := by funext i; unfold upd; split <;> simp_all
theorem counts_is (b : Nat) (n : Int) (w : World) :
   Calls Tryz.prog 92 #[.pointer (some ⟨b, 0, none⟩), .int .i64 n] w fun e w' => e = .returned (.bool (decide (0 ≤ n ∧ n < 4))) ∧ w = w' := by
 have part : n < 0 ∨ (0 ≤ n ∧ n < 4) ∨ (0 ≤ n ∧ 4 ≤ n) := by omega
 rcases part with h | ⟨h, h2⟩ | ⟨h, h2⟩
 all_goals
   go_enter Tryz.func92, Tryz.ntmps92
   go_wp2
   go_ret
   exact ⟨by simp; omega, rfl⟩
theorem counts_nil (n : Int) (w : World) :
   Calls Tryz.prog 92 #[.pointer none, .int .i64 n] w fun e w' => e = .returned (.bool false) ∧ w = w' := by
 go_enter Tryz.func92, Tryz.ntmps92
 go_wp2
 go_ret
 exact ⟨rfl, rfl⟩
theorem next_none (p : Option Addr) (n : Int) (w : World) (h : p = none ∨ (∃ b, p = some ⟨b, 0, none⟩) ∧ ¬ (0 ≤ n ∧ n < 4)) :
   Calls Tryz.prog 207 #[.pointer p, .int .i64 n] w fun e w' => e = .returned (.bool false) ∧ w = w' := by
 rcases h with rfl | ⟨⟨b, rfl⟩, h⟩
 · go_enter Tryz.func207, Tryz.ntmps207
   go_wp2_with (go_at_call 92; refine (counts_nil _ _).mono ?_; rintro e w' ⟨rfl, rfl⟩)
   go_ret
   exact ⟨rfl, rfl⟩
 · have C := counts_is b n w
   rw [decide_eq_false h] at C
   clear h
   go_enter Tryz.func207, Tryz.ntmps207
   go_wp2_with (go_at_call 92; refine C.mono ?_; rintro e w' ⟨rfl, rfl⟩)
   go_ret
   exact ⟨rfl, rfl⟩
theorem drOps_is (b j : Nat) (V : Nat → Value) (zs : Nat → List Int) (N M : Nat → Int) (w : World) (h : DrAt w b V zs N M) (hj : j < 4) :
   Calls Tryz.prog 51 #[.pointer (some ⟨b, 0, none⟩), .int .i64 (j : Int)] w fun e w' => e = .returned (.int .i64 (N j)) ∧ w = w' := by
 have C := counts_is b j w
 rw [decide_eq_true (show 0 ≤ (j : Int) ∧ (j : Int) < 4 by omega)] at C
 have L := load64 b (4 + j) (N j) w (h.ops j hj)
 generalize N j = x at *
 clear h
 have h4 : j = 0 ∨ j = 1 ∨ j = 2 ∨ j = 3 := by omega
 rcases h4 with rfl | rfl | rfl | rfl
 all_goals
   go_enter Tryz.func51, Tryz.ntmps51
   go_wp2_with (first
     | (go_at_call 92; refine C.mono ?_; rintro e w' ⟨rfl, rfl⟩)
     | (go_at_call 93; refine L.mono ?_; rintro e w' ⟨rfl, rfl⟩))
   go_ret
   exact ⟨rfl, rfl⟩
theorem faults_is (b j : Nat) (V : Nat → Value) (zs : Nat → List Int) (N M : Nat → Int) (w : World) (h : DrAt w b V zs N M) (hj : j < 4) :
   Calls Tryz.prog 50 #[.pointer (some ⟨b, 0, none⟩), .int .i64 (j : Int)] w fun e w' => e = .returned (.int .i64 (M j)) ∧ w = w' := by
 have C := counts_is b j w
 rw [decide_eq_true (show 0 ≤ (j : Int) ∧ (j : Int) < 4 by omega)] at C
 have L := load64 b (8 + j) (M j) w (h.bad j hj)
 generalize M j = x at *
 clear h
 have h4 : j = 0 ∨ j = 1 ∨ j = 2 ∨ j = 3 := by omega
 rcases h4 with rfl | rfl | rfl | rfl
 all_goals
   go_enter Tryz.func50, Tryz.ntmps50
   go_wp2_with (first
     | (go_at_call 92; refine C.mono ?_; rintro e w' ⟨rfl, rfl⟩)
     | (go_at_call 93; refine L.mono ?_; rintro e w' ⟨rfl, rfl⟩))
   go_ret
   exact ⟨rfl, rfl⟩
def hitB (zs : Nat → List Int) (N : Nat → Int) (j : Nat) : Bool := decide (N j + 1 ∈ zs j)
def nextM (zs : Nat → List Int) (N M : Nat → Int) (j : Nat) : Nat → Int := upd M j (if hitB zs N j then M j + 1 else M j)
def Nexts (b : Nat) (V : Nat → Value) (zs : Nat → List Int) (N M : Nat → Int) (j : Nat) (w : World) (e : Ending) (w' : World) : Prop :=
 e = .returned (.bool (hitB zs N j)) ∧ DrAt w' b V zs (upd N j (N j + 1)) (nextM zs N M j) ∧ w.grownBy w' (some b)
set_option maxRecDepth 100000 in
set_option maxHeartbeats 800000 in
theorem next_is (b j : Nat) (V : Nat → Value) (zs : Nat → List Int) (N M : Nat → Int) (w : World) (h : DrAt w b V zs N M) (hj : j < 4) (h0 : 0 ≤ N j) (h1 : N j < 4611686018427387904) (h2 : 0 ≤ M j) (h3 : M j < 4611686018427387904) (hm : (zs j).length ≤ 9223372036854775807) :
   Calls Tryz.prog 207 #[.pointer (some ⟨b, 0, none⟩), .int .i64 (j : Int)] w (Nexts b V zs N M j w) := by
 have C := counts_is b j w
 rw [decide_eq_true (show 0 ≤ (j : Int) ∧ (j : Int) < 4 by omega)] at C
 have A := add64 b (4 + j) (N j) w (h.ops j hj) (h.free _) h0 (by omega)
 have D1 := h.setOps hj (N j + 1)
 have g1 := gb_set (gb_refl w (some b)) (4 + j) (.int .i64 (N j + 1))
 obtain ⟨w1, hw1⟩ : ∃ w1, w.setCell ⟨b, 4 + j, none⟩ (.int .i64 (N j + 1)) = w1 := ⟨_, rfl⟩
 rw [hw1] at A D1 g1
 have K := contains_any (V j) (zs j) (N j + 1) w1 (D1.ints j hj) hm
 have hw : IntKind.i64.wrap (N j + 1) = N j + 1 := IntWalk.i64_in _ ⟨by omega, by omega⟩
 have r1 := D1.row j hj
 have B := add64 b (8 + j) (M j) w1 (D1.bad j hj) (D1.free _) h2 (by omega)
 have D2 := D1.setBad hj (M j + 1)
 have g2 := gb_set g1 (8 + j) (.int .i64 (M j + 1))
 obtain ⟨ao, cp, bb, oo, hv, _⟩ := (D1.ints j hj).form
 rw [hv] at K r1
 unfold Nexts nextM
 rw [show (decide (N j + 1 ∈ zs j)) = hitB zs N j from rfl] at K
 have H1 := Lib.hid (And.intro D1 (And.intro D2 (And.intro g1 g2)))
 generalize hx : N j + 1 = x at *
 generalize hy : M j + 1 = y at *
 generalize hh : hitB zs N j = hit at *
 have h4 : j = 0 ∨ j = 1 ∨ j = 2 ∨ j = 3 := by omega
 clear h D1 D2 g1 g2 h0 h1 h2 h3 hw1 hv hh hx hy hm
 cases hit
 · rcases h4 with rfl | rfl | rfl | rfl
   all_goals
     go_enter Tryz.func207, Tryz.ntmps207
     go_wp2_with (first
       | (go_at_call 92; refine C.mono ?_; rintro e w' ⟨rfl, rfl⟩)
       | (go_at_call 249; refine A.mono ?_; rintro e w' ⟨rfl, rfl⟩)
       | (go_at_call 250; refine K.mono ?_; rintro e w' ⟨rfl, rfl⟩))
     go_ret
     exact ⟨rfl, by simpa [upd_same] using H1.out.1, H1.out.2.2.1⟩
 · rcases h4 with rfl | rfl | rfl | rfl
   all_goals
     have hfl := Lib.hid True.intro
     go_enter Tryz.func207, Tryz.ntmps207
     go_wp2_with (first
       | (go_at_call 92; refine C.mono ?_; rintro e w' ⟨rfl, rfl⟩)
       | (go_at_call 249; clear hfl; refine A.mono ?_; rintro e w' ⟨rfl, rfl⟩)
       | (go_at_call 250; refine K.mono ?_; rintro e w' ⟨rfl, rfl⟩)
       | (go_at_call 249; refine B.mono ?_; rintro e w' ⟨rfl, rfl⟩))
     go_ret
     exact ⟨rfl, H1.out.2.1, H1.out.2.2.2⟩
end Go.Proofs.YtfgifgglcafadaaGreatDoor

namespace Go.Proofs.YtfgifgglcafadaaGreatDoor
set_option linter.unusedVariables false
set_option linter.unusedSimpArgs false
set_option linter.unusedVariables false
set_option linter.unusedSimpArgs false
set_option maxRecDepth 100000
open Go.RowKit
def newE (zs : Nat → List Int) : Int :=
 if 64 < (zs 0).length ∨ 64 < (zs 1).length ∨ 64 < (zs 2).length ∨ 64 < (zs 3).length then 4
 else if lowB (zs 0) = true ∨ lowB (zs 1) = true ∨ lowB (zs 2) = true ∨ lowB (zs 3) = true then 5 else 0
theorem newE_many {zs : Nat → List Int} {j : Nat} (hj : j < 4) (h : 64 < (zs j).length) : newE zs = 4 := by
 unfold newE
 have : j = 0 ∨ j = 1 ∨ j = 2 ∨ j = 3 := by omega
 rcases this with rfl | rfl | rfl | rfl <;> rw [if_pos (by omega)]
theorem newE_low {zs : Nat → List Int} (h : ∀ j, j < 4 → ¬ 64 < (zs j).length) {j : Nat} (hj : j < 4) (hl : lowB (zs j) = true) : newE zs = 5 := by
 unfold newE
 have h0 := h 0 (by omega)
 have h1 := h 1 (by omega)
 have h2 := h 2 (by omega)
 have h3 := h 3 (by omega)
 rw [if_neg (by omega), if_pos]
 have : j = 0 ∨ j = 1 ∨ j = 2 ∨ j = 3 := by omega
 rcases this with rfl | rfl | rfl | rfl <;> simp [hl]
theorem newE_ok {zs : Nat → List Int} (h : ∀ j, j < 4 → ¬ 64 < (zs j).length) (hl : ∀ j, j < 4 → lowB (zs j) = false) : newE zs = 0 := by
 unfold newE
 have h0 := h 0 (by omega)
 have h1 := h 1 (by omega)
 have h2 := h 2 (by omega)
 have h3 := h 3 (by omega)
 rw [if_neg (by omega), if_neg]
 simp [hl 0 (by omega), hl 1 (by omega), hl 2 (by omega), hl 3 (by omega)]
structure Four (w : World) (U : Nat → Value) (zs : Nat → List Int) : Prop where
 ints : ∀ j, j < 4 → Ints w (U j) (zs j)
 len : ∀ j, j < 4 → (zs j).length ≤ 9223372036854775807
 low : ∀ j, j < 4 → ∀ k, (U j).ownBlock = some k → k < w.heap.size
theorem Four.kept {w w' : World} {U : Nat → Value} {zs : Nat → List Int} (h : Four w U zs) (hg : w.grownBy w' none) : Four w' U zs :=
 ⟨fun j hj => (h.ints j hj).kept hg (by simp), h.len, fun j hj k hk => Nat.lt_of_lt_of_le (h.low j hj k hk) hg.size⟩
def NewP (w : World) (zs : Nat → List Int) (e : Ending) (w' : World) : Prop :=
 (newE zs ≠ 0 ∧ e = .returned (.tuple #[.pointer none, .int .i64 (newE zs)]) ∧ w.grownBy w' none) ∨
 (newE zs = 0 ∧ ∃ b V, e = .returned (.tuple #[.pointer (some ⟨b, 0, none⟩), .int .i64 0]) ∧ DrAt w' b V zs (fun _ => 0) (fun _ => 0) ∧ w.grownBy w' none ∧ w.heap.size ≤ b ∧ ∀ j, j < 4 → ∀ k, (V j).ownBlock = some k → w.heap.size ≤ k ∧ k < w'.heap.size)
structure Part (w : World) (b k : Nat) (V : Nat → Value) (zs : Nat → List Int) : Prop where
 row : ∀ j, j < 4 → w.cell? ⟨b, j, none⟩ = some (V j)
 ops : ∀ j, j < 4 → w.cell? ⟨b, 4 + j, none⟩ = some (.int .i64 0)
 bad : ∀ j, j < 4 → w.cell? ⟨b, 8 + j, none⟩ = some (.int .i64 0)
 free : ∀ o, w.frozen? ⟨b, o, none⟩ = false
 ints : ∀ j, j < k → Ints w (V j) (zs j)
 own : ∀ j, j < k → ∀ i, (V j).ownBlock = some i → b < i ∧ i < w.heap.size
theorem Part.next {w w1 : World} {b k : Nat} {V : Nat → Value} {zs : Nat → List Int} {v : Value} (h : Part w b k V zs) (hb : b < w.heap.size) (hg : w.grownBy w1 none) (hv : Ints w1 v (zs k)) (ho : ∀ i, v.ownBlock = some i → w.heap.size ≤ i ∧ i < w1.heap.size) (hk : k < 4) :
   Part (w1.setCell ⟨b, k, none⟩ v) b (k + 1) (fun j => if j = k then v else V j) zs := by
 have e : ∀ o, w1.cell? ⟨b, o, none⟩ = w.cell? ⟨b, o, none⟩ := fun o => World.cell?_of_block (hg.block b hb (by simp))
 have hs : ∀ W : World, ∀ p u, (W.setCell p u).heap.size = W.heap.size := fun W p u => by simp [World.setCell]
 refine ⟨fun j hj => ?_, fun j hj => ?_, fun j hj => ?_, fun o => ?_, fun j hj => ?_, fun j hj i hi => ?_⟩
 · by_cases hjk : j = k
   · subst hjk; rw [if_pos rfl]; exact World.cell?_setCell_same _ _ _ ((e j).trans (h.row j hj))
   · rw [if_neg hjk, World.cell?_setCell_other _ _ _ _ (ne_off (by omega)), e]; exact h.row j hj
 · rw [World.cell?_setCell_other _ _ _ _ (ne_off (by omega)), e]; exact h.ops j hj
 · rw [World.cell?_setCell_other _ _ _ _ (ne_off (by omega)), e]; exact h.bad j hj
 · rw [World.frozen?_setCell]; exact (World.frozen?_of_block (hg.block b hb (by simp))).trans (h.free o)
 · by_cases hjk : j = k
   · subst hjk
     simp only [if_true]
     exact hv.setOther (fun i hi => by have := ho i hi; omega)
   · simp only [if_neg hjk]
     exact ((h.ints j (by omega)).kept hg (by simp)).setOther (fun i hi => by have := h.own j (by omega) i hi; omega)
 · rw [hs]
   by_cases hjk : j = k
   · subst hjk
     simp only [if_true] at hi
     have := ho i hi
     omega
   · simp only [if_neg hjk] at hi
     have := h.own j (by omega) i hi
     have := hg.size
     omega
set_option maxRecDepth 100000 in
set_option maxHeartbeats 1600000 in
theorem new_any (U : Nat → Value) (zs : Nat → List Int) (w : World) (hF : Four w U zs) :
   Calls Tryz.prog 43 #[.agg #[U 0, U 1, U 2, U 3]] w (NewP w zs) := by
 have HF := Lib.hid hF
 have shape : ∀ j, j < 4 → ∃ ao cap, U j = .slice ao (zs j).length cap := fun j hj => by
   obtain ⟨ao, cap, _, _, h, _⟩ := (hF.ints j hj).form
   exact ⟨ao, cap, h⟩
 obtain ⟨a0, c0, h0⟩ := shape 0 (by omega)
 obtain ⟨a1, c1, h1⟩ := shape 1 (by omega)
 obtain ⟨a2, c2, h2⟩ := shape 2 (by omega)
 obtain ⟨a3, c3, h3⟩ := shape 3 (by omega)
 have HU := Lib.hid (And.intro h0 (And.intro h1 (And.intro h2 h3)))
 rw [h0, h1, h2, h3]
 clear shape h0 h1 h2 h3 hF
 have hg1 := World.grownBy_alloc w (.cells #[.slice a0 (zs 0).length c0, .slice a1 (zs 1).length c1, .slice a2 (zs 2).length c2, .slice a3 (zs 3).length c3] 25) none
 have hsz1 : (w.alloc (.cells #[.slice a0 (zs 0).length c0, .slice a1 (zs 1).length c1, .slice a2 (zs 2).length c2, .slice a3 (zs 3).length c3] 25)).heap.size = w.heap.size + 1 := by simp
 have b0 : (w.alloc (.cells #[.slice a0 (zs 0).length c0, .slice a1 (zs 1).length c1, .slice a2 (zs 2).length c2, .slice a3 (zs 3).length c3] 25)).cell? ⟨w.heap.size, 0, none⟩ = some (.slice a0 (zs 0).length c0) := by simp
 have b1 : (w.alloc (.cells #[.slice a0 (zs 0).length c0, .slice a1 (zs 1).length c1, .slice a2 (zs 2).length c2, .slice a3 (zs 3).length c3] 25)).cell? ⟨w.heap.size, 1, none⟩ = some (.slice a1 (zs 1).length c1) := by simp
 have b2 : (w.alloc (.cells #[.slice a0 (zs 0).length c0, .slice a1 (zs 1).length c1, .slice a2 (zs 2).length c2, .slice a3 (zs 3).length c3] 25)).cell? ⟨w.heap.size, 2, none⟩ = some (.slice a2 (zs 2).length c2) := by simp
 have b3 : (w.alloc (.cells #[.slice a0 (zs 0).length c0, .slice a1 (zs 1).length c1, .slice a2 (zs 2).length c2, .slice a3 (zs 3).length c3] 25)).cell? ⟨w.heap.size, 3, none⟩ = some (.slice a3 (zs 3).length c3) := by simp
 have i0 : ∀ w, (Instr.index 25 (.agg #[.slice a0 (zs 0).length c0, .slice a1 (zs 1).length c1, .slice a2 (zs 2).length c2, .slice a3 (zs 3).length c3]) (.int .i64 0)).run Tryz.prog w = .ok (.slice a0 (zs 0).length c0) w := fun _ => by kernel_rfl
 have i1 : ∀ w, (Instr.index 25 (.agg #[.slice a0 (zs 0).length c0, .slice a1 (zs 1).length c1, .slice a2 (zs 2).length c2, .slice a3 (zs 3).length c3]) (.int .i64 1)).run Tryz.prog w = .ok (.slice a1 (zs 1).length c1) w := fun _ => by kernel_rfl
 have i2 : ∀ w, (Instr.index 25 (.agg #[.slice a0 (zs 0).length c0, .slice a1 (zs 1).length c1, .slice a2 (zs 2).length c2, .slice a3 (zs 3).length c3]) (.int .i64 2)).run Tryz.prog w = .ok (.slice a2 (zs 2).length c2) w := fun _ => by kernel_rfl
 have i3 : ∀ w, (Instr.index 25 (.agg #[.slice a0 (zs 0).length c0, .slice a1 (zs 1).length c1, .slice a2 (zs 2).length c2, .slice a3 (zs 3).length c3]) (.int .i64 3)).run Tryz.prog w = .ok (.slice a3 (zs 3).length c3) w := fun _ => by kernel_rfl
 go_enter Tryz.func43, Tryz.ntmps43
 go_wp2
 obtain ⟨w1, hw1⟩ : ∃ v, w.alloc (.cells #[.slice a0 (zs 0).length c0, .slice a1 (zs 1).length c1, .slice a2 (zs 2).length c2, .slice a3 (zs 3).length c3] 25) = v := ⟨_, rfl⟩
 rw [hw1] at hg1 hsz1 b0 b1 b2 b3 ⊢
 have HSZ1 := Lib.hid hsz1
 clear hsz1
 have HB := Lib.hid (And.intro b0 (And.intro b1 (And.intro b2 b3)))
 clear hw1 b0 b1 b2 b3
 go_loopw [10] (fun i wr => ∃ k : Nat, k ≤ 4 ∧ i = .int .i64 k ∧ (∀ j, j < k → ¬ 64 < (zs j).length) ∧ w1 = wr) (fun i _ => 4 - (intOf i).toNat)
 case atStart => exact ⟨0, by omega, rfl, fun j hj => by omega, rfl⟩
 case round =>
   obtain ⟨k, hk, rfl, hsmall, rfl⟩ := hrel
   have HS := Lib.hid hsmall
   clear hsmall
   by_cases hlt : k < 4
   · have h4 : k = 0 ∨ k = 1 ∨ k = 2 ∨ k = 3 := by omega
     rcases h4 with rfl | rfl | rfl | rfl
     · by_cases hbig : (64 : Int) < ((zs 0).length : Int)
       · have hE := newE_many (zs := zs) (j := 0) (by omega) (by omega)
         unfold NewP
         rw [hE]
         clear hE
         go_wp2
         refine bodyPost_ret (v := .tuple #[.pointer none, .int .i64 4]) (by simp [results, Tryz.results43, go_sem]) rfl (.inl ⟨by decide, rfl, hg1⟩)
       · have HN := Lib.hid (show ¬ 64 < (zs 0).length by omega)
         go_wp2
         go_roundw
         case rel =>
           refine ⟨1, by omega, by go_num, fun j hj => ?_, trivial⟩
           by_cases e : j = 0
           · subst e; exact HN.out
           · exact HS.out j (by omega)
         case measure => simp [intOf]
     · by_cases hbig : (64 : Int) < ((zs 1).length : Int)
       · have hE := newE_many (zs := zs) (j := 1) (by omega) (by omega)
         unfold NewP
         rw [hE]
         clear hE
         go_wp2
         refine bodyPost_ret (v := .tuple #[.pointer none, .int .i64 4]) (by simp [results, Tryz.results43, go_sem]) rfl (.inl ⟨by decide, rfl, hg1⟩)
       · have HN := Lib.hid (show ¬ 64 < (zs 1).length by omega)
         go_wp2
         go_roundw
         case rel =>
           refine ⟨2, by omega, by go_num, fun j hj => ?_, trivial⟩
           by_cases e : j = 1
           · subst e; exact HN.out
           · exact HS.out j (by omega)
         case measure => simp [intOf]
     · by_cases hbig : (64 : Int) < ((zs 2).length : Int)
       · have hE := newE_many (zs := zs) (j := 2) (by omega) (by omega)
         unfold NewP
         rw [hE]
         clear hE
         go_wp2
         refine bodyPost_ret (v := .tuple #[.pointer none, .int .i64 4]) (by simp [results, Tryz.results43, go_sem]) rfl (.inl ⟨by decide, rfl, hg1⟩)
       · have HN := Lib.hid (show ¬ 64 < (zs 2).length by omega)
         go_wp2
         go_roundw
         case rel =>
           refine ⟨3, by omega, by go_num, fun j hj => ?_, trivial⟩
           by_cases e : j = 2
           · subst e; exact HN.out
           · exact HS.out j (by omega)
         case measure => simp [intOf]
     · by_cases hbig : (64 : Int) < ((zs 3).length : Int)
       · have hE := newE_many (zs := zs) (j := 3) (by omega) (by omega)
         unfold NewP
         rw [hE]
         clear hE
         go_wp2
         refine bodyPost_ret (v := .tuple #[.pointer none, .int .i64 4]) (by simp [results, Tryz.results43, go_sem]) rfl (.inl ⟨by decide, rfl, hg1⟩)
       · have HN := Lib.hid (show ¬ 64 < (zs 3).length by omega)
         go_wp2
         go_roundw
         case rel =>
           refine ⟨4, by omega, by go_num, fun j hj => ?_, trivial⟩
           by_cases e : j = 3
           · subst e; exact HN.out
           · exact HS.out j (by omega)
         case measure => simp [intOf]
   · have HS := Lib.hid (fun j hj => HS.out j (by omega) : ∀ j, j < 4 → ¬ 64 < (zs j).length)
     have hkn : ¬ ((k : Int) < 4) := by omega
     clear hlt hk
     obtain ⟨pb, hpb⟩ : ∃ pb, w1.heap.size = pb := ⟨_, rfl⟩
     have hg2 := World.grownBy_alloc w1 (.cells #[.slice none 0 0, .slice none 0 0, .slice none 0 0, .slice none 0 0, .int .i64 0, .int .i64 0, .int .i64 0, .int .i64 0, .int .i64 0, .int .i64 0, .int .i64 0, .int .i64 0] 125) none
     have hP0 : Part (w1.alloc (.cells #[.slice none 0 0, .slice none 0 0, .slice none 0 0, .slice none 0 0, .int .i64 0, .int .i64 0, .int .i64 0, .int .i64 0, .int .i64 0, .int .i64 0, .int .i64 0, .int .i64 0] 125)) w1.heap.size 0 (fun _ => .slice none 0 0) zs := by
       refine ⟨fun j hj => ?_, fun j hj => ?_, fun j hj => ?_, fun o => by simp, fun j hj => by omega, fun j hj => by omega⟩
       all_goals
         have e : j = 0 ∨ j = 1 ∨ j = 2 ∨ j = 3 := by omega
         rcases e with rfl | rfl | rfl | rfl <;> simp
     have q0 := hg2.cell HB.out.1 (by simp)
     have q1 := hg2.cell HB.out.2.1 (by simp)
     have q2 := hg2.cell HB.out.2.2.1 (by simp)
     have q3 := hg2.cell HB.out.2.2.2 (by simp)
     have hE0 : Ext w (w1.alloc (.cells #[.slice none 0 0, .slice none 0 0, .slice none 0 0, .slice none 0 0, .int .i64 0, .int .i64 0, .int .i64 0, .int .i64 0, .int .i64 0, .int .i64 0, .int .i64 0, .int .i64 0] 125)) := Ext.next hg1 _ hg2
     have hsz2 : (w1.alloc (.cells #[.slice none 0 0, .slice none 0 0, .slice none 0 0, .slice none 0 0, .int .i64 0, .int .i64 0, .int .i64 0, .int .i64 0, .int .i64 0, .int .i64 0, .int .i64 0, .int .i64 0] 125)).heap.size = w1.heap.size + 1 := by simp
     have HP0 := Lib.hid hP0
     have HSZ2 := Lib.hid hsz2
     clear hP0 hg2 hsz2
     go_wp2
     obtain ⟨w2, hw2⟩ : ∃ v, w1.alloc (.cells #[.slice none 0 0, .slice none 0 0, .slice none 0 0, .slice none 0 0, .int .i64 0, .int .i64 0, .int .i64 0, .int .i64 0, .int .i64 0, .int .i64 0, .int .i64 0, .int .i64 0] 125) = v := ⟨_, rfl⟩
     have hP0 := HP0.out
     have hsz1 := HSZ1.out
     have hsz2 := HSZ2.out
     rw [hw2] at hP0 hE0 hsz2 ⊢
     rw [hpb] at hP0 hsz2 hsz1
     have hlo : w.heap.size ≤ pb := by omega
     clear hw2 q0 q1 q2 q3 HP0 HSZ1 HSZ2 hsz1 hsz2 hpb HB
     go_loopw [19] (fun i wr => ∃ k : Nat, k ≤ 4 ∧ i = .int .i64 k ∧ ∃ V, Part wr pb k V zs ∧ Ext w wr ∧ (∀ j, j < k → lowB (zs j) = false)) (fun i _ => 4 - (intOf i).toNat)
     case atStart => exact ⟨0, by omega, rfl, _, hP0, hE0, fun j hj => by omega⟩
     case round =>
       clear hP0 hE0
       obtain ⟨k, hk, rfl, V, hP, hE, hL⟩ := hrel
       have HL := Lib.hid hL
       have hPb : pb < wr.heap.size := World.block_lt_of_cell? wr _ (hP.row 0 (by omega))
       clear hL
       by_cases hlt : k < 4
       · have h4 : k = 0 ∨ k = 1 ∨ k = 2 ∨ k = 3 := by omega
         rcases h4 with rfl | rfl | rfl | rfl
         · have hUq := HU.out.1
           have hI := (HF.out.kept hE).ints 0 (by omega)
           rw [hUq] at hI
           have CF := containsFunc_any _ (zs 0) wr hI (HF.out.len 0 (by omega))
           have hI2 := Lib.hid hI
           clear hI hUq
           by_cases hlow : lowB (zs 0) = true
           · have hE5 := newE_low (zs := zs) HS.out (j := 0) (by omega) hlow
             rw [hlow] at CF
             unfold NewP
             rw [hE5]
             clear hE5 hlow hI2
             go_wp2_with (go_at_call 85; refine CF.mono ?_; rintro e w' ⟨rfl, rfl⟩)
             refine bodyPost_ret (v := .tuple #[.pointer none, .int .i64 5]) (by simp [results, Tryz.results43, go_sem]) rfl (.inl ⟨by decide, rfl, hE⟩)
           · have hlow : lowB (zs 0) = false := by simpa using hlow
             rw [hlow] at CF
             have HLW := Lib.hid hlow
             have hEd : Ext w wr.drew := Ext.next hE _ (Ext.drew wr)
             have hIc := fun x (hx : Ext wr x) => hI2.out.kept hx (by simp)
             have CL := clonei_any _ (zs 0) wr.drew (hIc _ (Ext.drew wr)) (by have := HS.out 0 (by omega); omega)
             clear hlow hIc
             go_wp2_with (go_at_call 85; refine CF.mono ?_; rintro e w' ⟨rfl, rfl⟩)
             refine region_line [(0, true), (1, true), (2, true), (4, true), (5, true), (3, false), (6, true), (7, false)] (Ext w) (by kernel_rfl) (by kernel_rfl) (fun _ _ _ d _ h => by cases d <;> exact h) hEd ?_
             repeat (refine line_read (a' := ?_) rfl (by kernel_rfl) (by kernel_rfl) hEd (fun x hx K hK => ?_) ?_; rotate_left; · go_wp2; exact hK)
             refine line_act (by rfl) (fun K hK => ?_)
             go_wp2_with (go_at_call 87; refine CL.mono ?_; rintro e w4 ⟨v4, rfl, hi4, hg4, ho4⟩)
             have hg5 : wr.grownBy w4 none := Ext.of_drew hg4
             have hE4 : Ext w w4 := Ext.next hE _ hg5
             have hP2 := hP.next hPb hg5 hi4 (fun i hi => by have := ho4 i hi; simpa using this) (by omega)
             have hE6 : Ext w (w4.setCell ⟨pb, 0, none⟩ v4) := grown_trans hE4 (gb_set (gb_refl w4 (some pb)) 0 v4) (fun k hk h => by cases hk; omega)
             have hcell := (World.cell?_of_block (hg5.block pb hPb (by simp))).trans (hP.row 0 (by omega))
             have hfree := (World.frozen?_of_block (w' := w4) (a := ⟨pb, 0, none⟩) (hg5.block pb hPb (by simp))).trans (hP.free 0)
             have HP2 := Lib.hid hP2
             obtain ⟨ao4, cp4, _, _, hv4, _⟩ := hi4.form
             clear hP2 ho4 hi4
             subst hv4
             refine hK _ _ (Ext w) hE4 (fun x hx => hx) ?_
             clear hK K
             repeat (refine line_read (a' := ?_) rfl (by kernel_rfl) (by kernel_rfl) hE4 (fun x hx K hK => ?_) ?_; rotate_left; · go_wp2; exact hK)
             refine line_act (by rfl) (fun K hK => ?_)
             go_wp2
             refine hK _ _ (Ext w) hE6 (fun x hx => hx) ?_
             clear hK K
             refine line_end ?_
             go_wp2
             go_roundw
             case rel =>
               refine ⟨1, by omega, by go_num, _, HP2.out, hE6, fun j hj => ?_⟩
               by_cases e : j = 0
               · subst e; exact HLW.out
               · exact HL.out j (by omega)
             case measure => simp [intOf]
         · have hUq := HU.out.2.1
           have hI := (HF.out.kept hE).ints 1 (by omega)
           rw [hUq] at hI
           have CF := containsFunc_any _ (zs 1) wr hI (HF.out.len 1 (by omega))
           have hI2 := Lib.hid hI
           clear hI hUq
           by_cases hlow : lowB (zs 1) = true
           · have hE5 := newE_low (zs := zs) HS.out (j := 1) (by omega) hlow
             rw [hlow] at CF
             unfold NewP
             rw [hE5]
             clear hE5 hlow hI2
             go_wp2_with (go_at_call 85; refine CF.mono ?_; rintro e w' ⟨rfl, rfl⟩)
             refine bodyPost_ret (v := .tuple #[.pointer none, .int .i64 5]) (by simp [results, Tryz.results43, go_sem]) rfl (.inl ⟨by decide, rfl, hE⟩)
           · have hlow : lowB (zs 1) = false := by simpa using hlow
             rw [hlow] at CF
             have HLW := Lib.hid hlow
             have hEd : Ext w wr.drew := Ext.next hE _ (Ext.drew wr)
             have hIc := fun x (hx : Ext wr x) => hI2.out.kept hx (by simp)
             have CL := clonei_any _ (zs 1) wr.drew (hIc _ (Ext.drew wr)) (by have := HS.out 1 (by omega); omega)
             clear hlow hIc
             go_wp2_with (go_at_call 85; refine CF.mono ?_; rintro e w' ⟨rfl, rfl⟩)
             refine region_line [(0, true), (1, true), (2, true), (4, true), (5, true), (3, false), (6, true), (7, false)] (Ext w) (by kernel_rfl) (by kernel_rfl) (fun _ _ _ d _ h => by cases d <;> exact h) hEd ?_
             repeat (refine line_read (a' := ?_) rfl (by kernel_rfl) (by kernel_rfl) hEd (fun x hx K hK => ?_) ?_; rotate_left; · go_wp2; exact hK)
             refine line_act (by rfl) (fun K hK => ?_)
             go_wp2_with (go_at_call 87; refine CL.mono ?_; rintro e w4 ⟨v4, rfl, hi4, hg4, ho4⟩)
             have hg5 : wr.grownBy w4 none := Ext.of_drew hg4
             have hE4 : Ext w w4 := Ext.next hE _ hg5
             have hP2 := hP.next hPb hg5 hi4 (fun i hi => by have := ho4 i hi; simpa using this) (by omega)
             have hE6 : Ext w (w4.setCell ⟨pb, 1, none⟩ v4) := grown_trans hE4 (gb_set (gb_refl w4 (some pb)) 1 v4) (fun k hk h => by cases hk; omega)
             have hcell := (World.cell?_of_block (hg5.block pb hPb (by simp))).trans (hP.row 1 (by omega))
             have hfree := (World.frozen?_of_block (w' := w4) (a := ⟨pb, 1, none⟩) (hg5.block pb hPb (by simp))).trans (hP.free 1)
             have HP2 := Lib.hid hP2
             obtain ⟨ao4, cp4, _, _, hv4, _⟩ := hi4.form
             clear hP2 ho4 hi4
             subst hv4
             refine hK _ _ (Ext w) hE4 (fun x hx => hx) ?_
             clear hK K
             repeat (refine line_read (a' := ?_) rfl (by kernel_rfl) (by kernel_rfl) hE4 (fun x hx K hK => ?_) ?_; rotate_left; · go_wp2; exact hK)
             refine line_act (by rfl) (fun K hK => ?_)
             go_wp2
             refine hK _ _ (Ext w) hE6 (fun x hx => hx) ?_
             clear hK K
             refine line_end ?_
             go_wp2
             go_roundw
             case rel =>
               refine ⟨2, by omega, by go_num, _, HP2.out, hE6, fun j hj => ?_⟩
               by_cases e : j = 1
               · subst e; exact HLW.out
               · exact HL.out j (by omega)
             case measure => simp [intOf]
         · have hUq := HU.out.2.2.1
           have hI := (HF.out.kept hE).ints 2 (by omega)
           rw [hUq] at hI
           have CF := containsFunc_any _ (zs 2) wr hI (HF.out.len 2 (by omega))
           have hI2 := Lib.hid hI
           clear hI hUq
           by_cases hlow : lowB (zs 2) = true
           · have hE5 := newE_low (zs := zs) HS.out (j := 2) (by omega) hlow
             rw [hlow] at CF
             unfold NewP
             rw [hE5]
             clear hE5 hlow hI2
             go_wp2_with (go_at_call 85; refine CF.mono ?_; rintro e w' ⟨rfl, rfl⟩)
             refine bodyPost_ret (v := .tuple #[.pointer none, .int .i64 5]) (by simp [results, Tryz.results43, go_sem]) rfl (.inl ⟨by decide, rfl, hE⟩)
           · have hlow : lowB (zs 2) = false := by simpa using hlow
             rw [hlow] at CF
             have HLW := Lib.hid hlow
             have hEd : Ext w wr.drew := Ext.next hE _ (Ext.drew wr)
             have hIc := fun x (hx : Ext wr x) => hI2.out.kept hx (by simp)
             have CL := clonei_any _ (zs 2) wr.drew (hIc _ (Ext.drew wr)) (by have := HS.out 2 (by omega); omega)
             clear hlow hIc
             go_wp2_with (go_at_call 85; refine CF.mono ?_; rintro e w' ⟨rfl, rfl⟩)
             refine region_line [(0, true), (1, true), (2, true), (4, true), (5, true), (3, false), (6, true), (7, false)] (Ext w) (by kernel_rfl) (by kernel_rfl) (fun _ _ _ d _ h => by cases d <;> exact h) hEd ?_
             repeat (refine line_read (a' := ?_) rfl (by kernel_rfl) (by kernel_rfl) hEd (fun x hx K hK => ?_) ?_; rotate_left; · go_wp2; exact hK)
             refine line_act (by rfl) (fun K hK => ?_)
             go_wp2_with (go_at_call 87; refine CL.mono ?_; rintro e w4 ⟨v4, rfl, hi4, hg4, ho4⟩)
             have hg5 : wr.grownBy w4 none := Ext.of_drew hg4
             have hE4 : Ext w w4 := Ext.next hE _ hg5
             have hP2 := hP.next hPb hg5 hi4 (fun i hi => by have := ho4 i hi; simpa using this) (by omega)
             have hE6 : Ext w (w4.setCell ⟨pb, 2, none⟩ v4) := grown_trans hE4 (gb_set (gb_refl w4 (some pb)) 2 v4) (fun k hk h => by cases hk; omega)
             have hcell := (World.cell?_of_block (hg5.block pb hPb (by simp))).trans (hP.row 2 (by omega))
             have hfree := (World.frozen?_of_block (w' := w4) (a := ⟨pb, 2, none⟩) (hg5.block pb hPb (by simp))).trans (hP.free 2)
             have HP2 := Lib.hid hP2
             obtain ⟨ao4, cp4, _, _, hv4, _⟩ := hi4.form
             clear hP2 ho4 hi4
             subst hv4
             refine hK _ _ (Ext w) hE4 (fun x hx => hx) ?_
             clear hK K
             repeat (refine line_read (a' := ?_) rfl (by kernel_rfl) (by kernel_rfl) hE4 (fun x hx K hK => ?_) ?_; rotate_left; · go_wp2; exact hK)
             refine line_act (by rfl) (fun K hK => ?_)
             go_wp2
             refine hK _ _ (Ext w) hE6 (fun x hx => hx) ?_
             clear hK K
             refine line_end ?_
             go_wp2
             go_roundw
             case rel =>
               refine ⟨3, by omega, by go_num, _, HP2.out, hE6, fun j hj => ?_⟩
               by_cases e : j = 2
               · subst e; exact HLW.out
               · exact HL.out j (by omega)
             case measure => simp [intOf]
         · have hUq := HU.out.2.2.2
           have hI := (HF.out.kept hE).ints 3 (by omega)
           rw [hUq] at hI
           have CF := containsFunc_any _ (zs 3) wr hI (HF.out.len 3 (by omega))
           have hI2 := Lib.hid hI
           clear hI hUq
           by_cases hlow : lowB (zs 3) = true
           · have hE5 := newE_low (zs := zs) HS.out (j := 3) (by omega) hlow
             rw [hlow] at CF
             unfold NewP
             rw [hE5]
             clear hE5 hlow hI2
             go_wp2_with (go_at_call 85; refine CF.mono ?_; rintro e w' ⟨rfl, rfl⟩)
             refine bodyPost_ret (v := .tuple #[.pointer none, .int .i64 5]) (by simp [results, Tryz.results43, go_sem]) rfl (.inl ⟨by decide, rfl, hE⟩)
           · have hlow : lowB (zs 3) = false := by simpa using hlow
             rw [hlow] at CF
             have HLW := Lib.hid hlow
             have hEd : Ext w wr.drew := Ext.next hE _ (Ext.drew wr)
             have hIc := fun x (hx : Ext wr x) => hI2.out.kept hx (by simp)
             have CL := clonei_any _ (zs 3) wr.drew (hIc _ (Ext.drew wr)) (by have := HS.out 3 (by omega); omega)
             clear hlow hIc
             go_wp2_with (go_at_call 85; refine CF.mono ?_; rintro e w' ⟨rfl, rfl⟩)
             refine region_line [(0, true), (1, true), (2, true), (4, true), (5, true), (3, false), (6, true), (7, false)] (Ext w) (by kernel_rfl) (by kernel_rfl) (fun _ _ _ d _ h => by cases d <;> exact h) hEd ?_
             repeat (refine line_read (a' := ?_) rfl (by kernel_rfl) (by kernel_rfl) hEd (fun x hx K hK => ?_) ?_; rotate_left; · go_wp2; exact hK)
             refine line_act (by rfl) (fun K hK => ?_)
             go_wp2_with (go_at_call 87; refine CL.mono ?_; rintro e w4 ⟨v4, rfl, hi4, hg4, ho4⟩)
             have hg5 : wr.grownBy w4 none := Ext.of_drew hg4
             have hE4 : Ext w w4 := Ext.next hE _ hg5
             have hP2 := hP.next hPb hg5 hi4 (fun i hi => by have := ho4 i hi; simpa using this) (by omega)
             have hE6 : Ext w (w4.setCell ⟨pb, 3, none⟩ v4) := grown_trans hE4 (gb_set (gb_refl w4 (some pb)) 3 v4) (fun k hk h => by cases hk; omega)
             have hcell := (World.cell?_of_block (hg5.block pb hPb (by simp))).trans (hP.row 3 (by omega))
             have hfree := (World.frozen?_of_block (w' := w4) (a := ⟨pb, 3, none⟩) (hg5.block pb hPb (by simp))).trans (hP.free 3)
             have HP2 := Lib.hid hP2
             obtain ⟨ao4, cp4, _, _, hv4, _⟩ := hi4.form
             clear hP2 ho4 hi4
             subst hv4
             refine hK _ _ (Ext w) hE4 (fun x hx => hx) ?_
             clear hK K
             repeat (refine line_read (a' := ?_) rfl (by kernel_rfl) (by kernel_rfl) hE4 (fun x hx K hK => ?_) ?_; rotate_left; · go_wp2; exact hK)
             refine line_act (by rfl) (fun K hK => ?_)
             go_wp2
             refine hK _ _ (Ext w) hE6 (fun x hx => hx) ?_
             clear hK K
             refine line_end ?_
             go_wp2
             go_roundw
             case rel =>
               refine ⟨4, by omega, by go_num, _, HP2.out, hE6, fun j hj => ?_⟩
               by_cases e : j = 3
               · subst e; exact HLW.out
               · exact HL.out j (by omega)
             case measure => simp [intOf]
       · obtain rfl : k = 4 := by omega
         have e0 := newE_ok (zs := zs) HS.out HL.out
         have HP := Lib.hid hP
         have HE0 := Lib.hid e0
         clear e0 hP
         go_wp2
         refine bodyPost_ret (v := .tuple #[.pointer (some ⟨pb, 0, none⟩), .int .i64 0]) (by simp [results, Tryz.results43, go_sem]) rfl (.inr ⟨HE0.out, pb, V, rfl, ?_, hE, hlo, fun j hj i hi => ?_⟩)
         · exact ⟨HP.out.row, HP.out.ops, HP.out.bad, HP.out.free, HP.out.ints, fun j hj i hi => by have := HP.out.own j hj i hi; omega⟩
         · have := HP.out.own j hj i hi
           omega
end Go.Proofs.YtfgifgglcafadaaGreatDoor

namespace Go.Proofs.YtfgifgglcafadaaGreatDoor
set_option linter.unusedVariables false
set_option linter.unusedSimpArgs false
set_option linter.unusedVariables false
set_option linter.unusedSimpArgs false
set_option maxRecDepth 100000
open Go.RowKit
structure PowAt (w : World) (b : Nat) (x : Int) (g : Bool) (o : Int) : Prop where
 c0 : w.cell? ⟨b, 0, none⟩ = some (.int .i64 x)
 c1 : w.cell? ⟨b, 1, none⟩ = some (.int .u32 (if g then 1 else 0))
 c2 : w.cell? ⟨b, 2, none⟩ = some (.int .i64 o)
 f0 : w.frozen? ⟨b, 0, none⟩ = false
 f1 : w.frozen? ⟨b, 1, none⟩ = false
 f2 : w.frozen? ⟨b, 2, none⟩ = false
theorem gb_cell {w w' : World} {r : Option Nat} (h : w.grownBy w' r) {b o : Nat} (hb : b < w.heap.size) (hr : some b ≠ r) : w'.cell? ⟨b, o, none⟩ = w.cell? ⟨b, o, none⟩ := World.cell?_of_block (h.block b hb hr)
theorem gb_frozen {w w' : World} {r : Option Nat} (h : w.grownBy w' r) {b o : Nat} (hb : b < w.heap.size) (hr : some b ≠ r) : w'.frozen? ⟨b, o, none⟩ = w.frozen? ⟨b, o, none⟩ := World.frozen?_of_block (h.block b hb hr)
theorem PowAt.other {w w' : World} {b : Nat} {x : Int} {g : Bool} {o : Int} {r : Option Nat} (h : PowAt w b x g o) (hg : w.grownBy w' r) (hb : b < w.heap.size) (hr : some b ≠ r) : PowAt w' b x g o :=
 ⟨(gb_cell hg hb hr).trans h.c0, (gb_cell hg hb hr).trans h.c1, (gb_cell hg hb hr).trans h.c2, (gb_frozen hg hb hr).trans h.f0, (gb_frozen hg hb hr).trans h.f1, (gb_frozen hg hb hr).trans h.f2⟩
theorem PowAt.lt {w : World} {b : Nat} {x : Int} {g : Bool} {o : Int} (h : PowAt w b x g o) : b < w.heap.size := World.block_lt_of_cell? w _ h.c0
theorem PowAt.set0 {w : World} {b : Nat} {x : Int} {g : Bool} {o : Int} (h : PowAt w b x g o) (y : Int) : PowAt (w.setCell ⟨b, 0, none⟩ (.int .i64 y)) b y g o :=
 ⟨World.cell?_setCell_same _ _ _ h.c0, (World.cell?_setCell_other _ _ _ _ (ne_off (by decide))).trans h.c1, (World.cell?_setCell_other _ _ _ _ (ne_off (by decide))).trans h.c2, by simpa using h.f0, by simpa using h.f1, by simpa using h.f2⟩
theorem PowAt.set1 {w : World} {b : Nat} {x : Int} {g : Bool} {o : Int} (h : PowAt w b x g o) (y : Bool) : PowAt (w.setCell ⟨b, 1, none⟩ (.int .u32 (if y then 1 else 0))) b x y o :=
 ⟨(World.cell?_setCell_other _ _ _ _ (ne_off (by decide))).trans h.c0, World.cell?_setCell_same _ _ _ h.c1, (World.cell?_setCell_other _ _ _ _ (ne_off (by decide))).trans h.c2, by simpa using h.f0, by simpa using h.f1, by simpa using h.f2⟩
theorem PowAt.set2 {w : World} {b : Nat} {x : Int} {g : Bool} {o : Int} (h : PowAt w b x g o) (y : Int) : PowAt (w.setCell ⟨b, 2, none⟩ (.int .i64 y)) b x g y :=
 ⟨(World.cell?_setCell_other _ _ _ _ (ne_off (by decide))).trans h.c0, (World.cell?_setCell_other _ _ _ _ (ne_off (by decide))).trans h.c1, World.cell?_setCell_same _ _ _ h.c2, by simpa using h.f0, by simpa using h.f1, by simpa using h.f2⟩
theorem PowAt.drew {w : World} {b : Nat} {x : Int} {g : Bool} {o : Int} (h : PowAt w b x g o) : PowAt w.drew b x g o := ⟨h.c0, h.c1, h.c2, h.f0, h.f1, h.f2⟩
theorem gone_is (b : Nat) (x : Int) (g : Bool) (o : Int) (w : World) (h : PowAt w b x g o) :
   Calls Tryz.prog 47 #[.pointer (some ⟨b, 0, none⟩)] w fun e w' => e = .returned (.bool g) ∧ w = w' := by
 obtain ⟨c0, c1, c2, f0, f1, f2⟩ := h
 have L := loadB b 1 g w c1
 clear c0 c1 c2 f0 f1 f2
 go_enter Tryz.func47, Tryz.ntmps47
 go_wp2_with (go_at_call 90; refine L.mono ?_; rintro e w' ⟨rfl, rfl⟩)
 go_ret
 exact ⟨rfl, rfl⟩
def Turns (b : Nat) (x : Int) (g : Bool) (o : Int) (v : Value) (w : World) (e : Ending) (w' : World) : Prop := e = .returned v ∧ PowAt w' b x g o ∧ w.grownBy w' (some b)
theorem cut_is (b : Nat) (x : Int) (g : Bool) (o : Int) (w : World) (h : PowAt w b x g o) :
   Calls Tryz.prog 82 #[.pointer (some ⟨b, 0, none⟩)] w (Turns b x true o (.tuple #[]) w) := by
 have L := storeB b 1 true _ w h.c1 h.f1
 have H := Lib.hid h
 clear h
 go_enter Tryz.func82, Tryz.ntmps82
 go_wp2_with (go_at_call 125; refine L.mono ?_; rintro e w' ⟨rfl, rfl⟩)
 go_end0
 exact ⟨rfl, (H.out.set1 true).drew, gb_drew (gb_set (gb_refl w _) _ _)⟩
theorem back_is (b : Nat) (x : Int) (g : Bool) (o : Int) (n : Int) (w : World) (h : PowAt w b x g o) :
   Calls Tryz.prog 79 #[.pointer (some ⟨b, 0, none⟩), .int .i64 n] w (Turns b n false o (.tuple #[]) w) := by
 have L := store64 b 0 n _ w h.c0 h.f0
 have h1 := h.set0 n
 have M := storeB b 1 false _ (w.setCell ⟨b, 0, none⟩ (.int .i64 n)) h1.c1 h1.f1
 have H := Lib.hid h1
 clear h h1
 go_enter Tryz.func79, Tryz.ntmps79
 go_wp2_with (first
   | (go_at_call 124; refine L.mono ?_; rintro e w' ⟨rfl, rfl⟩)
   | (go_at_call 125; refine M.mono ?_; rintro e w' ⟨rfl, rfl⟩))
 go_end0
 exact ⟨rfl, (H.out.set1 false).drew, gb_drew (gb_set (gb_set (gb_refl w _) _ _) _ _)⟩
theorem new_is (n : Int) (w : World) :
   Calls Tryz.prog 44 #[.int .i64 n] w fun e w' => e = .returned (.pointer (some ⟨w.heap.size, 0, none⟩)) ∧ PowAt w' w.heap.size n false 0 ∧ w.grownBy w' none := by
 have h : PowAt (w.alloc (.cells #[.int .i64 0, .int .u32 0, .int .i64 0] 132)) w.heap.size 0 false 0 := by constructor <;> simp
 have B := back_is w.heap.size 0 false 0 n (w.alloc (.cells #[.int .i64 0, .int .u32 0, .int .i64 0] 132)) h
 clear h
 go_enter Tryz.func44, Tryz.ntmps44
 go_wp2_with (go_at_call 79; refine B.mono ?_; rintro e w' ⟨rfl, hp, hg⟩)
 go_ret
 exact ⟨rfl, hp, ⟨hg.os, hg.tape, hg.output, by have := hg.size; simp at this; omega, fun k hk _ => (hg.block k (by simp; omega) (by simp; omega)).trans (Below.heap_alloc _ _ _ hk)⟩⟩
theorem spend_gone (b : Nat) (x o : Int) (w : World) (h : PowAt w b x true o) :
   Calls Tryz.prog 206 #[.pointer (some ⟨b, 0, none⟩)] w (Turns b x true o (.int .i64 12) w) := by
 have G := gone_is b x true o w h
 have H := Lib.hid h
 clear h
 go_enter Tryz.func206, Tryz.ntmps206
 go_wp2_with (go_at_call 47; refine G.mono ?_; rintro e w' ⟨rfl, rfl⟩)
 go_ret
 exact ⟨rfl, H.out, gb_refl w _⟩
theorem spend_there (b : Nat) (x o : Int) (w : World) (h : PowAt w b x false o) (hx : -9223372036854775808 ≤ x) (hx' : x ≤ 9223372036854775807) (h0 : 0 ≤ o) (h1 : o < 4611686018427387904) :
   Calls Tryz.prog 206 #[.pointer (some ⟨b, 0, none⟩)] w (Turns b (if 0 < x then x - 1 else x) (x == 0) (o + 1) (.int .i64 (if x = 0 then 11 else 0)) w) := by
 have G := gone_is b x false o w h
 have A := add64 b 2 o w h.c2 h.f2 h0 h1
 have h2 := h.set2 (o + 1)
 have L := load64 b 0 x _ h2.c0
 have H := Lib.hid h2
 have g1 := gb_set (gb_refl w (some b)) 2 (.int .i64 (o + 1))
 obtain ⟨w1, hw1⟩ : ∃ w1, w.setCell ⟨b, 2, none⟩ (.int .i64 (o + 1)) = w1 := ⟨_, rfl⟩
 rw [hw1] at A L h2 H g1
 by_cases hz : x = 0
 · subst hz
   have C := cut_is b 0 false (o + 1) w1 h2
   clear h h2 h0 h1 hw1
   go_enter Tryz.func206, Tryz.ntmps206
   go_wp2_with (first
     | (go_at_call 47; refine G.mono ?_; rintro e w' ⟨rfl, rfl⟩)
     | (go_at_call 249; refine A.mono ?_; rintro e w' ⟨rfl, rfl⟩)
     | (go_at_call 93; refine L.mono ?_; rintro e w' ⟨rfl, rfl⟩)
     | (go_at_call 82; refine C.mono ?_; rintro e w' ⟨rfl, hp, hg⟩))
   go_ret
   exact ⟨rfl, hp, gb_trans g1 hg⟩
 · by_cases hp : 0 < x
   · have S := store64 b 0 (x - 1) _ w1 h2.c0 h2.f0
     have e1 : (x == 0) = false := by simpa using hz
     rw [if_pos hp, if_neg hz, e1]
     clear h h2 h0 h1 hw1 e1
     go_enter Tryz.func206, Tryz.ntmps206
     go_wp2_with (first
       | (go_at_call 47; refine G.mono ?_; rintro e w' ⟨rfl, rfl⟩)
       | (go_at_call 249; refine A.mono ?_; rintro e w' ⟨rfl, rfl⟩)
       | (go_at_call 93; refine L.mono ?_; rintro e w' ⟨rfl, rfl⟩)
       | (go_at_call 124; refine S.mono ?_; rintro e w' ⟨rfl, rfl⟩))
     go_ret
     exact ⟨rfl, H.out.set0 _, gb_set g1 _ _⟩
   · have e1 : (x == 0) = false := by simpa using hz
     rw [if_neg hp, if_neg hz, e1]
     clear h h2 h0 h1 hw1 e1
     go_enter Tryz.func206, Tryz.ntmps206
     go_wp2_with (first
       | (go_at_call 47; refine G.mono ?_; rintro e w' ⟨rfl, rfl⟩)
       | (go_at_call 249; refine A.mono ?_; rintro e w' ⟨rfl, rfl⟩)
       | (go_at_call 93; refine L.mono ?_; rintro e w' ⟨rfl, rfl⟩))
     go_ret
     exact ⟨rfl, H.out, g1⟩
end Go.Proofs.YtfgifgglcafadaaGreatDoor

namespace Go.Proofs.YtfgifgglcafadaaGreatDoor
set_option linter.unusedVariables false
set_option linter.unusedSimpArgs false
set_option linter.unusedVariables false
set_option linter.unusedSimpArgs false
set_option maxRecDepth 100000
open Go.RowKit
def four (a b c d : Int) : Value := .agg #[.int .i64 a, .int .i64 b, .int .i64 c, .int .i64 d]
def fourObj (a b c d : Int) (t : TypeId) : Obj := .cells #[.int .i64 a, .int .i64 b, .int .i64 c, .int .i64 d] t
def geoE (c d b p : Int) : Int :=
 if c < 1 ∨ d < 1 ∨ b < 1 ∨ p < 2 then 1 else if c > 64 ∨ d > 64 ∨ b > 64 ∨ p > 16 then 4 else if c * d * b < 3 then 1 else if c * d * b > 64 then 4 else 0
theorem mul3_bd {c d b : Int} (hc : 1 ≤ c) (hc' : c ≤ 64) (hd : 1 ≤ d) (hd' : d ≤ 64) (hb : 1 ≤ b) (hb' : b ≤ 64) : 1 ≤ c * d ∧ c * d ≤ 4096 ∧ 1 ≤ c * d * b ∧ c * d * b ≤ 262144 := by
 have h1 : 1 * 1 ≤ c * d := Int.mul_le_mul hc hd (by decide) (by omega)
 have h2 : c * d ≤ 64 * 64 := Int.mul_le_mul hc' hd' (by omega) (by decide)
 have h3 : 1 * 1 ≤ c * d * b := Int.mul_le_mul (by omega) hb (by decide) (by omega)
 have h4 : c * d * b ≤ 4096 * 64 := Int.mul_le_mul (by omega) hb' (by omega) (by decide)
 omega
set_option maxHeartbeats 1000000 in
theorem check_any (c d b p : Int) (w : World) :
   Calls Tryz.prog 88 #[four c d b p] w fun e w' => e = .returned (.int .i64 (geoE c d b p)) ∧ w.alloc (fourObj c d b p 23) = w' := by
 unfold four fourObj
 by_cases h1 : c < 1 ∨ d < 1 ∨ b < 1 ∨ p < 2
 · have G : Hid (geoE c d b p = 1) := Lib.hid (by unfold geoE; rw [if_pos h1])
   go_enter Tryz.func88, Tryz.ntmps88
   go_wp2
   all_goals
     go_ret
     exact ⟨ret_int G.out.symm, rfl⟩
 · by_cases h2 : c > 64 ∨ d > 64 ∨ b > 64 ∨ p > 16
   · have G : Hid (geoE c d b p = 4) := Lib.hid (by unfold geoE; rw [if_neg h1, if_pos h2])
     have g1 : 1 ≤ c := by omega
     have g2 : 1 ≤ d := by omega
     have g3 : 1 ≤ b := by omega
     have g4 : 2 ≤ p := by omega
     clear h1
     go_enter Tryz.func88, Tryz.ntmps88
     go_wp2
     all_goals
       go_ret
       exact ⟨ret_int G.out.symm, rfl⟩
   · have g1 : 1 ≤ c := by omega
     have g2 : 1 ≤ d := by omega
     have g3 : 1 ≤ b := by omega
     have g4 : 2 ≤ p := by omega
     have k1 : c ≤ 64 := by omega
     have k2 : d ≤ 64 := by omega
     have k3 : b ≤ 64 := by omega
     have k4 : p ≤ 16 := by omega
     obtain ⟨m1, m2, m3, m4⟩ := mul3_bd g1 k1 g2 k2 g3 k3
     have G : Hid (geoE c d b p = if c * d * b < 3 then 1 else if c * d * b > 64 then 4 else 0) := Lib.hid (by unfold geoE; rw [if_neg h1, if_neg h2])
     clear h1 h2
     by_cases h3 : c * d * b < 3
     · have G2 : Hid (geoE c d b p = 1) := Lib.hid (by rw [G.out, if_pos h3])
       clear G
       go_enter Tryz.func88, Tryz.ntmps88
       go_wp2
       all_goals
         go_ret
         exact ⟨ret_int G2.out.symm, rfl⟩
     · by_cases h5 : c * d * b > 64
       · have G2 : Hid (geoE c d b p = 4) := Lib.hid (by rw [G.out, if_neg h3, if_pos h5])
         have h3' : 3 ≤ c * d * b := by omega
         clear h3 G
         go_enter Tryz.func88, Tryz.ntmps88
         go_wp2
         all_goals
           go_ret
           exact ⟨ret_int G2.out.symm, rfl⟩
       · have G2 : Hid (geoE c d b p = 0) := Lib.hid (by rw [G.out, if_neg h3, if_neg h5])
         have h3' : 3 ≤ c * d * b := by omega
         have h5' : c * d * b ≤ 64 := by omega
         clear h3 h5 G
         go_enter Tryz.func88, Tryz.ntmps88
         go_wp2
         all_goals
           go_ret
           exact ⟨ret_int G2.out.symm, rfl⟩
end Go.Proofs.YtfgifgglcafadaaGreatDoor
