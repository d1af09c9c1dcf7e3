/-
  Package draws: what stands in memory; Next, Ops, Faults; the document's Next.
-/
import Derived.Test.YtaobamnfgpllcaaDA
import Derived.Test.YtaobamnfgpllcaaAT
namespace Go.Proofs.Ytaobamnfgpllcaa
open Go.RowKit

/-- Draws that stand in block b: whose faults (rows V, read as zs), how many counted, how many failed. -/
structure DrAt (w : World) (b : Nat) (V : Nat → Value) (zs : Nat → List Int) (N M : Nat → Int) : Prop where
  row : ∀ j, j < 4 → w.cell? ⟨b, j, none⟩ = some (V j)
  ops : ∀ j, j < 4 → w.cell? ⟨b, 4 + j, none⟩ = some (.int .i64 (N j))
  bad : ∀ j, j < 4 → w.cell? ⟨b, 8 + j, none⟩ = some (.int .i64 (M j))
  free : ∀ o, w.frozen? ⟨b, o, none⟩ = false
  ints : ∀ j, j < 4 → Ints w (V j) (zs j)
  apart : ∀ j, j < 4 → ∀ k, (V j).ownBlock = some k → k ≠ b


theorem DrAt.lt {w : World} {b : Nat} {V : Nat → Value} {zs : Nat → List Int} {N M : Nat → Int} (h : DrAt w b V zs N M) : b < w.heap.size := World.block_lt_of_cell? w _ (h.row 0 (by omega))
theorem DrAt.other {w w' : World} {b : Nat} {V : Nat → Value} {zs : Nat → List Int} {N M : Nat → Int} {r : Option Nat} (h : DrAt w b V zs N M) (hg : w.grownBy w' r) (hr : some b ≠ r) (hv : ∀ j, j < 4 → ∀ k, (V j).ownBlock = some k → some k ≠ r) : DrAt w' b V zs N M := by
  have e : ∀ o, w'.cell? ⟨b, o, none⟩ = w.cell? ⟨b, o, none⟩ := fun o => World.cell?_of_block (hg.block b h.lt hr)
  exact ⟨fun j hj => (e j).trans (h.row j hj), fun j hj => (e _).trans (h.ops j hj), fun j hj => (e _).trans (h.bad j hj), fun o => (World.frozen?_of_block (hg.block b h.lt hr)).trans (h.free o), fun j hj => (h.ints j hj).kept hg (hv j hj), h.apart⟩

theorem Ints.setOther {w : World} {v : Value} {xs : List Int} {b o : Nat} {u : Value} (h : Ints w v xs) (hv : ∀ k, v.ownBlock = some k → k ≠ b) : Ints (w.setCell ⟨b, o, none⟩ u) v xs :=
  h.kept (gb_set (gb_refl w (some b)) o u) (fun k hk e => hv k hk (by simpa using e))
def upd (N : Nat → Int) (j : Nat) (x : Int) : Nat → Int := fun i => if i = j then x else N i
theorem DrAt.setOps {w : World} {b : Nat} {V : Nat → Value} {zs : Nat → List Int} {N M : Nat → Int} (h : DrAt w b V zs N M) {j : Nat} (hj : j < 4) (x : Int) : DrAt (w.setCell ⟨b, 4 + j, none⟩ (.int .i64 x)) b V zs (upd N j x) M := by
  refine ⟨fun i hi => (World.cell?_setCell_other _ _ _ _ (ne_off (by omega))).trans (h.row i hi), fun i hi => ?_, fun i hi => (World.cell?_setCell_other _ _ _ _ (ne_off (by omega))).trans (h.bad i hi), fun o => by simpa using h.free o, fun i hi => (h.ints i hi).setOther (h.apart i hi), h.apart⟩
  unfold upd
  by_cases e : i = j
  · subst e; rw [if_pos rfl]; exact World.cell?_setCell_same _ _ _ (h.ops i hi)
  · rw [if_neg e]; exact (World.cell?_setCell_other _ _ _ _ (ne_off (by omega))).trans (h.ops i hi)
theorem DrAt.setBad {w : World} {b : Nat} {V : Nat → Value} {zs : Nat → List Int} {N M : Nat → Int} (h : DrAt w b V zs N M) {j : Nat} (hj : j < 4) (x : Int) : DrAt (w.setCell ⟨b, 8 + j, none⟩ (.int .i64 x)) b V zs N (upd M j x) := by
  refine ⟨fun i hi => (World.cell?_setCell_other _ _ _ _ (ne_off (by omega))).trans (h.row i hi), fun i hi => (World.cell?_setCell_other _ _ _ _ (ne_off (by omega))).trans (h.ops i hi), fun i hi => ?_, fun o => by simpa using h.free o, fun i hi => (h.ints i hi).setOther (h.apart i hi), h.apart⟩
  unfold upd
  by_cases e : i = j
  · subst e; rw [if_pos rfl]; exact World.cell?_setCell_same _ _ _ (h.bad i hi)
  · rw [if_neg e]; exact (World.cell?_setCell_other _ _ _ _ (ne_off (by omega))).trans (h.bad i hi)
theorem DrAt.drew {w : World} {b : Nat} {V : Nat → Value} {zs : Nat → List Int} {N M : Nat → Int} (h : DrAt w b V zs N M) : DrAt w.drew b V zs N M := h.other (gb_drew (gb_refl w none)) (by simp) (fun _ _ _ _ => by simp)
theorem upd_same (N : Nat → Int) (j : Nat) : upd N j (N j) = N := by funext i; unfold upd; split <;> simp_all

/-- Whether operations of his are counted. -/
theorem counts_is (b : Nat) (n : Int) (w : World) :
    Calls Try.prog 45 #[.pointer (some ⟨b, 0, none⟩), .int .i64 n] w fun e w' => e = .returned (.bool (decide (0 ≤ n ∧ n < 4))) ∧ w = w' := by
  have part : n < 0 ∨ (0 ≤ n ∧ n < 4) ∨ (0 ≤ n ∧ 4 ≤ n) := by omega
  rcases part with h | ⟨h, h2⟩ | ⟨h, h2⟩
  all_goals
    go_enter Try.func45, Try.ntmps45
    go_wp2
    go_ret
    exact ⟨by simp; omega, rfl⟩
theorem counts_nil (n : Int) (w : World) :
    Calls Try.prog 45 #[.pointer none, .int .i64 n] w fun e w' => e = .returned (.bool false) ∧ w = w' := by
  go_enter Try.func45, Try.ntmps45
  go_wp2
  go_ret
  exact ⟨rfl, rfl⟩

theorem next_none (p : Option Addr) (n : Int) (w : World) (h : p = none ∨ (∃ b, p = some ⟨b, 0, none⟩) ∧ ¬ (0 ≤ n ∧ n < 4)) :
    Calls Try.prog 37 #[.pointer p, .int .i64 n] w fun e w' => e = .returned (.bool false) ∧ w = w' := by
  rcases h with rfl | ⟨⟨b, rfl⟩, h⟩
  · go_enter Try.func37, Try.ntmps37
    go_wp2_with (go_at_call 45; refine (counts_nil _ _).mono ?_; rintro e w' ⟨rfl, rfl⟩)
    go_ret
    exact ⟨rfl, rfl⟩
  · have C := counts_is b n w
    rw [decide_eq_false h] at C
    clear h
    go_enter Try.func37, Try.ntmps37
    go_wp2_with (go_at_call 45; refine C.mono ?_; rintro e w' ⟨rfl, rfl⟩)
    go_ret
    exact ⟨rfl, rfl⟩

/-- A tenant's next operation. -/
def hitB (zs : Nat → List Int) (N : Nat → Int) (j : Nat) : Bool := decide (N j + 1 ∈ zs j)
def nextM (zs : Nat → List Int) (N M : Nat → Int) (j : Nat) : Nat → Int := upd M j (if hitB zs N j then M j + 1 else M j)
def Nexts (b : Nat) (V : Nat → Value) (zs : Nat → List Int) (N M : Nat → Int) (j : Nat) (w : World) (e : Ending) (w' : World) : Prop :=
  e = .returned (.bool (hitB zs N j)) ∧ DrAt w' b V zs (upd N j (N j + 1)) (nextM zs N M j) ∧ w.grownBy w' (some b)

set_option maxRecDepth 100000 in
set_option maxHeartbeats 800000 in
theorem next_is (b j : Nat) (V : Nat → Value) (zs : Nat → List Int) (N M : Nat → Int) (w : World) (h : DrAt w b V zs N M) (hj : j < 4) (h0 : 0 ≤ N j) (h1 : N j < 100000) (h2 : 0 ≤ M j) (h3 : M j < 100000) (hm : (zs j).length ≤ 9223372036854775807) :
    Calls Try.prog 37 #[.pointer (some ⟨b, 0, none⟩), .int .i64 (j : Int)] w (Nexts b V zs N M j w) := by
  have C := counts_is b j w
  rw [decide_eq_true (show 0 ≤ (j : Int) ∧ (j : Int) < 4 by omega)] at C
  have A := add64 b (4 + j) (N j) w (h.ops j hj) (h.free _) h0 (by omega)
  have D1 := h.setOps hj (N j + 1)
  have g1 := gb_set (gb_refl w (some b)) (4 + j) (.int .i64 (N j + 1))
  obtain ⟨w1, hw1⟩ : ∃ w1, w.setCell ⟨b, 4 + j, none⟩ (.int .i64 (N j + 1)) = w1 := ⟨_, rfl⟩
  rw [hw1] at A D1 g1
  have K := contains_any (V j) (zs j) (N j + 1) w1 (D1.ints j hj) hm
  have hw : IntKind.i64.wrap (N j + 1) = N j + 1 := IntWalk.i64_in _ ⟨by omega, by omega⟩
  have r1 := D1.row j hj
  have B := add64 b (8 + j) (M j) w1 (D1.bad j hj) (D1.free _) h2 (by omega)
  have D2 := D1.setBad hj (M j + 1)
  have g2 := gb_set g1 (8 + j) (.int .i64 (M j + 1))
  obtain ⟨ao, cp, bb, oo, hv, _⟩ := (D1.ints j hj).form
  rw [hv] at K r1
  unfold Nexts nextM
  rw [show (decide (N j + 1 ∈ zs j)) = hitB zs N j from rfl] at K
  have H1 := Lib.hid (And.intro D1 (And.intro D2 (And.intro g1 g2)))
  generalize hx : N j + 1 = x at *
  generalize hy : M j + 1 = y at *
  generalize hh : hitB zs N j = hit at *
  have h4 : j = 0 ∨ j = 1 ∨ j = 2 ∨ j = 3 := by omega
  clear h D1 D2 g1 g2 h0 h1 h2 h3 hw1 hv hh hx hy hm
  cases hit
  · rcases h4 with rfl | rfl | rfl | rfl
    all_goals
      go_enter Try.func37, Try.ntmps37
      go_wp2_with (first
        | (go_at_call 45; refine C.mono ?_; rintro e w' ⟨rfl, rfl⟩)
        | (go_at_call 39; refine A.mono ?_; rintro e w' ⟨rfl, rfl⟩)
        | (go_at_call 46; refine K.mono ?_; rintro e w' ⟨rfl, rfl⟩))
      go_ret
      exact ⟨rfl, by simpa [upd_same] using H1.out.1, H1.out.2.2.1⟩
  · rcases h4 with rfl | rfl | rfl | rfl
    all_goals
      have hfl := Lib.hid True.intro
      go_enter Try.func37, Try.ntmps37
      go_wp2_with (first
        | (go_at_call 45; refine C.mono ?_; rintro e w' ⟨rfl, rfl⟩)
        | (go_at_call 39; clear hfl; refine A.mono ?_; rintro e w' ⟨rfl, rfl⟩)
        | (go_at_call 46; refine K.mono ?_; rintro e w' ⟨rfl, rfl⟩)
        | (go_at_call 39; refine B.mono ?_; rintro e w' ⟨rfl, rfl⟩))
      go_ret
      exact ⟨rfl, H1.out.2.1, H1.out.2.2.2⟩

end Go.Proofs.Ytaobamnfgpllcaa
