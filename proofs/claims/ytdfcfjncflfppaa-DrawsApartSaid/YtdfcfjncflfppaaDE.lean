/-
  The document's Next (layer 5).
-/
import Derived.Test.YtdfcfjncflfppaaDB
namespace Go.Proofs.Ytdfcfjncflfppaa
open Go.RowKit

theorem refNext_none (b : Nat) (n : Int) (w : World) (h : ¬ (0 ≤ n ∧ n < 4)) :
    Calls Try.prog 48 #[.pointer (some ⟨b, 0, none⟩), .int .i64 n] w fun e w' => e = .returned (.bool false) ∧ w = w' := by
  have part : n < 0 ∨ (¬ n < 0 ∧ 4 ≤ n) := by omega
  clear h
  rcases part with h | ⟨h, h2⟩
  all_goals
    go_enter Try.func48, Try.ntmps48
    go_wp2
    go_ret
    exact ⟨rfl, rfl⟩

def NextsD (b : Nat) (V : Nat → Value) (zs : Nat → List Int) (N M : Nat → Int) (j : Nat) (w : World) (e : Ending) (w' : World) : Prop :=
  e = .returned (.bool (hitB zs N j)) ∧ DrAt w' b V zs (upd N j (N j + 1)) (nextM zs N M j) ∧ w.grownBy w' (some b)

set_option maxRecDepth 100000 in
set_option maxHeartbeats 1600000 in
theorem refNext_0 (b : Nat) (V : Nat → Value) (zs : Nat → List Int) (N M : Nat → Int) (w : World) (h : DrAt w b V zs N M) (h0 : 0 ≤ N 0) (h1 : N 0 < 100000) (h2 : 0 ≤ M 0) (h3 : M 0 < 100000) (hm : (zs 0).length ≤ 9223372036854775807) :
    Calls Try.prog 48 #[.pointer (some ⟨b, 0, none⟩), .int .i64 0] w (NextsD b V zs N M 0 w) := by
  obtain ⟨ao, cp, bb, oo, hv, _⟩ := (h.ints 0 (by omega)).form
  have c1 := h.drew.ops 0 (by omega)
  have f1 := h.drew.free (4 + 0)
  simp only [Nat.reduceAdd] at c1 f1
  obtain ⟨x, hx⟩ : ∃ x, N 0 = x := ⟨_, rfl⟩
  obtain ⟨y, hy⟩ : ∃ y, M 0 = y := ⟨_, rfl⟩
  have D1 := h.setOps (j := 0) (by omega) (x + 1)
  have g1 := gb_drew (gb_set (gb_refl w (some b)) (4 + 0) (.int .i64 (x + 1)))
  rw [hx] at c1 h0 h1
  rw [hy] at h2 h3
  simp only [Nat.reduceAdd] at D1 g1
  have hw : IntKind.i64.wrap (x + 1) = x + 1 := IntWalk.i64_in _ ⟨by omega, by omega⟩
  have hwy : IntKind.i64.wrap (y + 1) = y + 1 := IntWalk.i64_in _ ⟨by omega, by omega⟩
  have HX := Lib.hid hx
  have HY := Lib.hid hy
  have HV := Lib.hid hv
  have HD1 := Lib.hid D1
  clear h hx hy D1 hv
  go_enter Try.func48, Try.ntmps48
  go_wp2
  refine region_line [(0, true), (1, true), (2, true), (3, true), (4, true), (5, true), (6, true), (9, true), (10, true), (7, false), (8, true), (11, true), (12, false)] (fun _ => True) (by kernel_rfl) (by kernel_rfl) (fun _ _ _ d _ h => by cases d <;> exact h) trivial ?_
  repeat (refine line_read (a' := ?_) rfl (by kernel_rfl) (by kernel_rfl) trivial (fun x hx K hK => ?_) ?_; rotate_left; · go_wp2; exact hK)
  refine line_act (by rfl) (fun K hK => ?_)
  go_wp2
  refine hK _ _ (fun _ => True) trivial (fun x hx => hx) ?_
  clear hK K
  repeat (refine line_read (a' := ?_) rfl (by kernel_rfl) (by kernel_rfl) trivial (fun x hx K hK => ?_) ?_; rotate_left; · go_wp2; exact hK)
  refine line_act (by rfl) (fun K hK => ?_)
  go_wp2
  refine hK _ _ (fun _ => True) trivial (fun x hx => hx) ?_
  clear hK K
  refine line_end ?_
  obtain ⟨w1, hw1⟩ : ∃ v, (w.setCell ⟨b, 4, none⟩ (.int .i64 (x + 1))).drew = v := ⟨_, rfl⟩
  have D1 := HD1.out.drew
  rw [hw1] at D1 g1
  rw [hw1]
  have r1 := D1.row 0 (by omega)
  rw [HV.out] at r1
  have n1 := D1.ops 0 (by omega)
  simp only [upd, if_true, Nat.reduceAdd] at n1
  have m1 := D1.drew.bad 0 (by omega)
  have f2 := D1.drew.free (8 + 0)
  simp only [Nat.reduceAdd] at m1 f2
  rw [HY.out] at m1
  have D2 := D1.setBad (j := 0) (by omega) (y + 1)
  have g2 := gb_drew (gb_set g1 (8 + 0) (.int .i64 (y + 1)))
  simp only [Nat.reduceAdd] at D2 g2
  obtain ⟨ao2, cp2, bb2, oo2, hv2, hc2⟩ := (D1.ints 0 (by omega)).form
  rw [HV.out] at hv2
  obtain ⟨rfl, rfl⟩ : ao = ao2 ∧ cp = cp2 := by simpa using hv2
  have HC := Lib.hid hc2
  have H1 := Lib.hid (And.intro D1 (And.intro D2.drew (And.intro g1 g2)))
  clear hw1 D1 D2 g1 g2 HD1 c1 f1 hv2 hc2
  go_wp2
  go_loopw [32] (fun i wr => ∃ m : Nat, m ≤ (zs 0).length ∧ i = .int .i64 m ∧ (∀ j, j < m → (zs 0).getD j 0 ≠ x + 1) ∧ w1 = wr) (fun i _ => (zs 0).length - (intOf i).toNat)
  case atStart => exact ⟨0, by omega, rfl, fun j hj => by omega, rfl⟩
  case round =>
    obtain ⟨m, hmm, rfl, hnot, rfl⟩ := hrel
    have NOT := Lib.hid hnot
    clear hnot
    by_cases hmt : m < (zs 0).length
    · obtain ⟨rfl, hcell⟩ := HC.out m hmt
      obtain ⟨u, hu⟩ : ∃ u, (zs 0).getD m 0 = u := ⟨_, rfl⟩
      rw [hu] at hcell
      have HUU := Lib.hid hu
      clear hu
      by_cases he : u = x + 1
      · subst he
        go_wp2
        refine region_line [(0, true), (1, true), (2, true), (3, true), (4, true), (5, true), (6, true), (9, true), (10, true), (7, false), (8, true), (11, true), (12, false)] (fun _ => True) (by kernel_rfl) (by kernel_rfl) (fun _ _ _ d _ h => by cases d <;> exact h) trivial ?_
        repeat (refine line_read (a' := ?_) rfl (by kernel_rfl) (by kernel_rfl) trivial (fun x hx K hK => ?_) ?_; rotate_left; · go_wp2; exact hK)
        refine line_act (by rfl) (fun K hK => ?_)
        go_wp2
        refine hK _ _ (fun _ => True) trivial (fun x hx => hx) ?_
        clear hK K
        repeat (refine line_read (a' := ?_) rfl (by kernel_rfl) (by kernel_rfl) trivial (fun x hx K hK => ?_) ?_; rotate_left; · go_wp2; exact hK)
        refine line_act (by rfl) (fun K hK => ?_)
        go_wp2
        refine hK _ _ (fun _ => True) trivial (fun x hx => hx) ?_
        clear hK K
        refine line_end ?_
        go_wp2
        go_ret
        have hh : hitB zs N 0 = true := by
          unfold hitB
          rw [HX.out, decide_eq_true_eq]
          have := HUU.out
          rw [List.getD_eq_getElem?_getD, List.getElem?_eq_getElem hmt] at this
          simp only [Option.getD_some] at this
          rw [← this]
          exact List.getElem_mem hmt
        unfold NextsD nextM
        rw [hh, HX.out, HY.out]
        exact ⟨rfl, H1.out.2.1, H1.out.2.2.2⟩
      · have hne : (u == x + 1) = false := by simpa using he
        have HNE := Lib.hid he
        clear he
        go_wp2
        go_roundw
        case rel =>
          refine ⟨m + 1, by omega, by go_num, fun j hj => ?_, trivial⟩
          by_cases e : j = m
          · subst e; rw [HUU.out]; exact HNE.out
          · exact NOT.out j (by omega)
        case measure => simp [intOf]; omega
    · obtain rfl : m = (zs 0).length := by omega
      go_wp2
      go_ret
      have hh : hitB zs N 0 = false := by
        unfold hitB
        rw [HX.out, decide_eq_false_iff_not]
        intro hmem
        obtain ⟨j, hj, hjn⟩ := List.mem_iff_getElem.1 hmem
        refine NOT.out j hj ?_
        rw [List.getD_eq_getElem?_getD, List.getElem?_eq_getElem hj]
        exact hjn
      unfold NextsD nextM
      rw [hh, HX.out]
      exact ⟨rfl, by simpa [upd_same] using H1.out.1, H1.out.2.2.1⟩

set_option maxRecDepth 100000 in
set_option maxHeartbeats 1600000 in
theorem refNext_1 (b : Nat) (V : Nat → Value) (zs : Nat → List Int) (N M : Nat → Int) (w : World) (h : DrAt w b V zs N M) (h0 : 0 ≤ N 1) (h1 : N 1 < 100000) (h2 : 0 ≤ M 1) (h3 : M 1 < 100000) (hm : (zs 1).length ≤ 9223372036854775807) :
    Calls Try.prog 48 #[.pointer (some ⟨b, 0, none⟩), .int .i64 1] w (NextsD b V zs N M 1 w) := by
  obtain ⟨ao, cp, bb, oo, hv, _⟩ := (h.ints 1 (by omega)).form
  have c1 := h.drew.ops 1 (by omega)
  have f1 := h.drew.free (4 + 1)
  simp only [Nat.reduceAdd] at c1 f1
  obtain ⟨x, hx⟩ : ∃ x, N 1 = x := ⟨_, rfl⟩
  obtain ⟨y, hy⟩ : ∃ y, M 1 = y := ⟨_, rfl⟩
  have D1 := h.setOps (j := 1) (by omega) (x + 1)
  have g1 := gb_drew (gb_set (gb_refl w (some b)) (4 + 1) (.int .i64 (x + 1)))
  rw [hx] at c1 h0 h1
  rw [hy] at h2 h3
  simp only [Nat.reduceAdd] at D1 g1
  have hw : IntKind.i64.wrap (x + 1) = x + 1 := IntWalk.i64_in _ ⟨by omega, by omega⟩
  have hwy : IntKind.i64.wrap (y + 1) = y + 1 := IntWalk.i64_in _ ⟨by omega, by omega⟩
  have HX := Lib.hid hx
  have HY := Lib.hid hy
  have HV := Lib.hid hv
  have HD1 := Lib.hid D1
  clear h hx hy D1 hv
  go_enter Try.func48, Try.ntmps48
  go_wp2
  refine region_line [(0, true), (1, true), (2, true), (3, true), (4, true), (5, true), (6, true), (9, true), (10, true), (7, false), (8, true), (11, true), (12, false)] (fun _ => True) (by kernel_rfl) (by kernel_rfl) (fun _ _ _ d _ h => by cases d <;> exact h) trivial ?_
  repeat (refine line_read (a' := ?_) rfl (by kernel_rfl) (by kernel_rfl) trivial (fun x hx K hK => ?_) ?_; rotate_left; · go_wp2; exact hK)
  refine line_act (by rfl) (fun K hK => ?_)
  go_wp2
  refine hK _ _ (fun _ => True) trivial (fun x hx => hx) ?_
  clear hK K
  repeat (refine line_read (a' := ?_) rfl (by kernel_rfl) (by kernel_rfl) trivial (fun x hx K hK => ?_) ?_; rotate_left; · go_wp2; exact hK)
  refine line_act (by rfl) (fun K hK => ?_)
  go_wp2
  refine hK _ _ (fun _ => True) trivial (fun x hx => hx) ?_
  clear hK K
  refine line_end ?_
  obtain ⟨w1, hw1⟩ : ∃ v, (w.setCell ⟨b, 5, none⟩ (.int .i64 (x + 1))).drew = v := ⟨_, rfl⟩
  have D1 := HD1.out.drew
  rw [hw1] at D1 g1
  rw [hw1]
  have r1 := D1.row 1 (by omega)
  rw [HV.out] at r1
  have n1 := D1.ops 1 (by omega)
  simp only [upd, if_true, Nat.reduceAdd] at n1
  have m1 := D1.drew.bad 1 (by omega)
  have f2 := D1.drew.free (8 + 1)
  simp only [Nat.reduceAdd] at m1 f2
  rw [HY.out] at m1
  have D2 := D1.setBad (j := 1) (by omega) (y + 1)
  have g2 := gb_drew (gb_set g1 (8 + 1) (.int .i64 (y + 1)))
  simp only [Nat.reduceAdd] at D2 g2
  obtain ⟨ao2, cp2, bb2, oo2, hv2, hc2⟩ := (D1.ints 1 (by omega)).form
  rw [HV.out] at hv2
  obtain ⟨rfl, rfl⟩ : ao = ao2 ∧ cp = cp2 := by simpa using hv2
  have HC := Lib.hid hc2
  have H1 := Lib.hid (And.intro D1 (And.intro D2.drew (And.intro g1 g2)))
  clear hw1 D1 D2 g1 g2 HD1 c1 f1 hv2 hc2
  go_wp2
  go_loopw [32] (fun i wr => ∃ m : Nat, m ≤ (zs 1).length ∧ i = .int .i64 m ∧ (∀ j, j < m → (zs 1).getD j 0 ≠ x + 1) ∧ w1 = wr) (fun i _ => (zs 1).length - (intOf i).toNat)
  case atStart => exact ⟨0, by omega, rfl, fun j hj => by omega, rfl⟩
  case round =>
    obtain ⟨m, hmm, rfl, hnot, rfl⟩ := hrel
    have NOT := Lib.hid hnot
    clear hnot
    by_cases hmt : m < (zs 1).length
    · obtain ⟨rfl, hcell⟩ := HC.out m hmt
      obtain ⟨u, hu⟩ : ∃ u, (zs 1).getD m 0 = u := ⟨_, rfl⟩
      rw [hu] at hcell
      have HUU := Lib.hid hu
      clear hu
      by_cases he : u = x + 1
      · subst he
        go_wp2
        refine region_line [(0, true), (1, true), (2, true), (3, true), (4, true), (5, true), (6, true), (9, true), (10, true), (7, false), (8, true), (11, true), (12, false)] (fun _ => True) (by kernel_rfl) (by kernel_rfl) (fun _ _ _ d _ h => by cases d <;> exact h) trivial ?_
        repeat (refine line_read (a' := ?_) rfl (by kernel_rfl) (by kernel_rfl) trivial (fun x hx K hK => ?_) ?_; rotate_left; · go_wp2; exact hK)
        refine line_act (by rfl) (fun K hK => ?_)
        go_wp2
        refine hK _ _ (fun _ => True) trivial (fun x hx => hx) ?_
        clear hK K
        repeat (refine line_read (a' := ?_) rfl (by kernel_rfl) (by kernel_rfl) trivial (fun x hx K hK => ?_) ?_; rotate_left; · go_wp2; exact hK)
        refine line_act (by rfl) (fun K hK => ?_)
        go_wp2
        refine hK _ _ (fun _ => True) trivial (fun x hx => hx) ?_
        clear hK K
        refine line_end ?_
        go_wp2
        go_ret
        have hh : hitB zs N 1 = true := by
          unfold hitB
          rw [HX.out, decide_eq_true_eq]
          have := HUU.out
          rw [List.getD_eq_getElem?_getD, List.getElem?_eq_getElem hmt] at this
          simp only [Option.getD_some] at this
          rw [← this]
          exact List.getElem_mem hmt
        unfold NextsD nextM
        rw [hh, HX.out, HY.out]
        exact ⟨rfl, H1.out.2.1, H1.out.2.2.2⟩
      · have hne : (u == x + 1) = false := by simpa using he
        have HNE := Lib.hid he
        clear he
        go_wp2
        go_roundw
        case rel =>
          refine ⟨m + 1, by omega, by go_num, fun j hj => ?_, trivial⟩
          by_cases e : j = m
          · subst e; rw [HUU.out]; exact HNE.out
          · exact NOT.out j (by omega)
        case measure => simp [intOf]; omega
    · obtain rfl : m = (zs 1).length := by omega
      go_wp2
      go_ret
      have hh : hitB zs N 1 = false := by
        unfold hitB
        rw [HX.out, decide_eq_false_iff_not]
        intro hmem
        obtain ⟨j, hj, hjn⟩ := List.mem_iff_getElem.1 hmem
        refine NOT.out j hj ?_
        rw [List.getD_eq_getElem?_getD, List.getElem?_eq_getElem hj]
        exact hjn
      unfold NextsD nextM
      rw [hh, HX.out]
      exact ⟨rfl, by simpa [upd_same] using H1.out.1, H1.out.2.2.1⟩

set_option maxRecDepth 100000 in
set_option maxHeartbeats 1600000 in
theorem refNext_2 (b : Nat) (V : Nat → Value) (zs : Nat → List Int) (N M : Nat → Int) (w : World) (h : DrAt w b V zs N M) (h0 : 0 ≤ N 2) (h1 : N 2 < 100000) (h2 : 0 ≤ M 2) (h3 : M 2 < 100000) (hm : (zs 2).length ≤ 9223372036854775807) :
    Calls Try.prog 48 #[.pointer (some ⟨b, 0, none⟩), .int .i64 2] w (NextsD b V zs N M 2 w) := by
  obtain ⟨ao, cp, bb, oo, hv, _⟩ := (h.ints 2 (by omega)).form
  have c1 := h.drew.ops 2 (by omega)
  have f1 := h.drew.free (4 + 2)
  simp only [Nat.reduceAdd] at c1 f1
  obtain ⟨x, hx⟩ : ∃ x, N 2 = x := ⟨_, rfl⟩
  obtain ⟨y, hy⟩ : ∃ y, M 2 = y := ⟨_, rfl⟩
  have D1 := h.setOps (j := 2) (by omega) (x + 1)
  have g1 := gb_drew (gb_set (gb_refl w (some b)) (4 + 2) (.int .i64 (x + 1)))
  rw [hx] at c1 h0 h1
  rw [hy] at h2 h3
  simp only [Nat.reduceAdd] at D1 g1
  have hw : IntKind.i64.wrap (x + 1) = x + 1 := IntWalk.i64_in _ ⟨by omega, by omega⟩
  have hwy : IntKind.i64.wrap (y + 1) = y + 1 := IntWalk.i64_in _ ⟨by omega, by omega⟩
  have HX := Lib.hid hx
  have HY := Lib.hid hy
  have HV := Lib.hid hv
  have HD1 := Lib.hid D1
  clear h hx hy D1 hv
  go_enter Try.func48, Try.ntmps48
  go_wp2
  refine region_line [(0, true), (1, true), (2, true), (3, true), (4, true), (5, true), (6, true), (9, true), (10, true), (7, false), (8, true), (11, true), (12, false)] (fun _ => True) (by kernel_rfl) (by kernel_rfl) (fun _ _ _ d _ h => by cases d <;> exact h) trivial ?_
  repeat (refine line_read (a' := ?_) rfl (by kernel_rfl) (by kernel_rfl) trivial (fun x hx K hK => ?_) ?_; rotate_left; · go_wp2; exact hK)
  refine line_act (by rfl) (fun K hK => ?_)
  go_wp2
  refine hK _ _ (fun _ => True) trivial (fun x hx => hx) ?_
  clear hK K
  repeat (refine line_read (a' := ?_) rfl (by kernel_rfl) (by kernel_rfl) trivial (fun x hx K hK => ?_) ?_; rotate_left; · go_wp2; exact hK)
  refine line_act (by rfl) (fun K hK => ?_)
  go_wp2
  refine hK _ _ (fun _ => True) trivial (fun x hx => hx) ?_
  clear hK K
  refine line_end ?_
  obtain ⟨w1, hw1⟩ : ∃ v, (w.setCell ⟨b, 6, none⟩ (.int .i64 (x + 1))).drew = v := ⟨_, rfl⟩
  have D1 := HD1.out.drew
  rw [hw1] at D1 g1
  rw [hw1]
  have r1 := D1.row 2 (by omega)
  rw [HV.out] at r1
  have n1 := D1.ops 2 (by omega)
  simp only [upd, if_true, Nat.reduceAdd] at n1
  have m1 := D1.drew.bad 2 (by omega)
  have f2 := D1.drew.free (8 + 2)
  simp only [Nat.reduceAdd] at m1 f2
  rw [HY.out] at m1
  have D2 := D1.setBad (j := 2) (by omega) (y + 1)
  have g2 := gb_drew (gb_set g1 (8 + 2) (.int .i64 (y + 1)))
  simp only [Nat.reduceAdd] at D2 g2
  obtain ⟨ao2, cp2, bb2, oo2, hv2, hc2⟩ := (D1.ints 2 (by omega)).form
  rw [HV.out] at hv2
  obtain ⟨rfl, rfl⟩ : ao = ao2 ∧ cp = cp2 := by simpa using hv2
  have HC := Lib.hid hc2
  have H1 := Lib.hid (And.intro D1 (And.intro D2.drew (And.intro g1 g2)))
  clear hw1 D1 D2 g1 g2 HD1 c1 f1 hv2 hc2
  go_wp2
  go_loopw [32] (fun i wr => ∃ m : Nat, m ≤ (zs 2).length ∧ i = .int .i64 m ∧ (∀ j, j < m → (zs 2).getD j 0 ≠ x + 1) ∧ w1 = wr) (fun i _ => (zs 2).length - (intOf i).toNat)
  case atStart => exact ⟨0, by omega, rfl, fun j hj => by omega, rfl⟩
  case round =>
    obtain ⟨m, hmm, rfl, hnot, rfl⟩ := hrel
    have NOT := Lib.hid hnot
    clear hnot
    by_cases hmt : m < (zs 2).length
    · obtain ⟨rfl, hcell⟩ := HC.out m hmt
      obtain ⟨u, hu⟩ : ∃ u, (zs 2).getD m 0 = u := ⟨_, rfl⟩
      rw [hu] at hcell
      have HUU := Lib.hid hu
      clear hu
      by_cases he : u = x + 1
      · subst he
        go_wp2
        refine region_line [(0, true), (1, true), (2, true), (3, true), (4, true), (5, true), (6, true), (9, true), (10, true), (7, false), (8, true), (11, true), (12, false)] (fun _ => True) (by kernel_rfl) (by kernel_rfl) (fun _ _ _ d _ h => by cases d <;> exact h) trivial ?_
        repeat (refine line_read (a' := ?_) rfl (by kernel_rfl) (by kernel_rfl) trivial (fun x hx K hK => ?_) ?_; rotate_left; · go_wp2; exact hK)
        refine line_act (by rfl) (fun K hK => ?_)
        go_wp2
        refine hK _ _ (fun _ => True) trivial (fun x hx => hx) ?_
        clear hK K
        repeat (refine line_read (a' := ?_) rfl (by kernel_rfl) (by kernel_rfl) trivial (fun x hx K hK => ?_) ?_; rotate_left; · go_wp2; exact hK)
        refine line_act (by rfl) (fun K hK => ?_)
        go_wp2
        refine hK _ _ (fun _ => True) trivial (fun x hx => hx) ?_
        clear hK K
        refine line_end ?_
        go_wp2
        go_ret
        have hh : hitB zs N 2 = true := by
          unfold hitB
          rw [HX.out, decide_eq_true_eq]
          have := HUU.out
          rw [List.getD_eq_getElem?_getD, List.getElem?_eq_getElem hmt] at this
          simp only [Option.getD_some] at this
          rw [← this]
          exact List.getElem_mem hmt
        unfold NextsD nextM
        rw [hh, HX.out, HY.out]
        exact ⟨rfl, H1.out.2.1, H1.out.2.2.2⟩
      · have hne : (u == x + 1) = false := by simpa using he
        have HNE := Lib.hid he
        clear he
        go_wp2
        go_roundw
        case rel =>
          refine ⟨m + 1, by omega, by go_num, fun j hj => ?_, trivial⟩
          by_cases e : j = m
          · subst e; rw [HUU.out]; exact HNE.out
          · exact NOT.out j (by omega)
        case measure => simp [intOf]; omega
    · obtain rfl : m = (zs 2).length := by omega
      go_wp2
      go_ret
      have hh : hitB zs N 2 = false := by
        unfold hitB
        rw [HX.out, decide_eq_false_iff_not]
        intro hmem
        obtain ⟨j, hj, hjn⟩ := List.mem_iff_getElem.1 hmem
        refine NOT.out j hj ?_
        rw [List.getD_eq_getElem?_getD, List.getElem?_eq_getElem hj]
        exact hjn
      unfold NextsD nextM
      rw [hh, HX.out]
      exact ⟨rfl, by simpa [upd_same] using H1.out.1, H1.out.2.2.1⟩

set_option maxRecDepth 100000 in
set_option maxHeartbeats 1600000 in
theorem refNext_3 (b : Nat) (V : Nat → Value) (zs : Nat → List Int) (N M : Nat → Int) (w : World) (h : DrAt w b V zs N M) (h0 : 0 ≤ N 3) (h1 : N 3 < 100000) (h2 : 0 ≤ M 3) (h3 : M 3 < 100000) (hm : (zs 3).length ≤ 9223372036854775807) :
    Calls Try.prog 48 #[.pointer (some ⟨b, 0, none⟩), .int .i64 3] w (NextsD b V zs N M 3 w) := by
  obtain ⟨ao, cp, bb, oo, hv, _⟩ := (h.ints 3 (by omega)).form
  have c1 := h.drew.ops 3 (by omega)
  have f1 := h.drew.free (4 + 3)
  simp only [Nat.reduceAdd] at c1 f1
  obtain ⟨x, hx⟩ : ∃ x, N 3 = x := ⟨_, rfl⟩
  obtain ⟨y, hy⟩ : ∃ y, M 3 = y := ⟨_, rfl⟩
  have D1 := h.setOps (j := 3) (by omega) (x + 1)
  have g1 := gb_drew (gb_set (gb_refl w (some b)) (4 + 3) (.int .i64 (x + 1)))
  rw [hx] at c1 h0 h1
  rw [hy] at h2 h3
  simp only [Nat.reduceAdd] at D1 g1
  have hw : IntKind.i64.wrap (x + 1) = x + 1 := IntWalk.i64_in _ ⟨by omega, by omega⟩
  have hwy : IntKind.i64.wrap (y + 1) = y + 1 := IntWalk.i64_in _ ⟨by omega, by omega⟩
  have HX := Lib.hid hx
  have HY := Lib.hid hy
  have HV := Lib.hid hv
  have HD1 := Lib.hid D1
  clear h hx hy D1 hv
  go_enter Try.func48, Try.ntmps48
  go_wp2
  refine region_line [(0, true), (1, true), (2, true), (3, true), (4, true), (5, true), (6, true), (9, true), (10, true), (7, false), (8, true), (11, true), (12, false)] (fun _ => True) (by kernel_rfl) (by kernel_rfl) (fun _ _ _ d _ h => by cases d <;> exact h) trivial ?_
  repeat (refine line_read (a' := ?_) rfl (by kernel_rfl) (by kernel_rfl) trivial (fun x hx K hK => ?_) ?_; rotate_left; · go_wp2; exact hK)
  refine line_act (by rfl) (fun K hK => ?_)
  go_wp2
  refine hK _ _ (fun _ => True) trivial (fun x hx => hx) ?_
  clear hK K
  repeat (refine line_read (a' := ?_) rfl (by kernel_rfl) (by kernel_rfl) trivial (fun x hx K hK => ?_) ?_; rotate_left; · go_wp2; exact hK)
  refine line_act (by rfl) (fun K hK => ?_)
  go_wp2
  refine hK _ _ (fun _ => True) trivial (fun x hx => hx) ?_
  clear hK K
  refine line_end ?_
  obtain ⟨w1, hw1⟩ : ∃ v, (w.setCell ⟨b, 7, none⟩ (.int .i64 (x + 1))).drew = v := ⟨_, rfl⟩
  have D1 := HD1.out.drew
  rw [hw1] at D1 g1
  rw [hw1]
  have r1 := D1.row 3 (by omega)
  rw [HV.out] at r1
  have n1 := D1.ops 3 (by omega)
  simp only [upd, if_true, Nat.reduceAdd] at n1
  have m1 := D1.drew.bad 3 (by omega)
  have f2 := D1.drew.free (8 + 3)
  simp only [Nat.reduceAdd] at m1 f2
  rw [HY.out] at m1
  have D2 := D1.setBad (j := 3) (by omega) (y + 1)
  have g2 := gb_drew (gb_set g1 (8 + 3) (.int .i64 (y + 1)))
  simp only [Nat.reduceAdd] at D2 g2
  obtain ⟨ao2, cp2, bb2, oo2, hv2, hc2⟩ := (D1.ints 3 (by omega)).form
  rw [HV.out] at hv2
  obtain ⟨rfl, rfl⟩ : ao = ao2 ∧ cp = cp2 := by simpa using hv2
  have HC := Lib.hid hc2
  have H1 := Lib.hid (And.intro D1 (And.intro D2.drew (And.intro g1 g2)))
  clear hw1 D1 D2 g1 g2 HD1 c1 f1 hv2 hc2
  go_wp2
  go_loopw [32] (fun i wr => ∃ m : Nat, m ≤ (zs 3).length ∧ i = .int .i64 m ∧ (∀ j, j < m → (zs 3).getD j 0 ≠ x + 1) ∧ w1 = wr) (fun i _ => (zs 3).length - (intOf i).toNat)
  case atStart => exact ⟨0, by omega, rfl, fun j hj => by omega, rfl⟩
  case round =>
    obtain ⟨m, hmm, rfl, hnot, rfl⟩ := hrel
    have NOT := Lib.hid hnot
    clear hnot
    by_cases hmt : m < (zs 3).length
    · obtain ⟨rfl, hcell⟩ := HC.out m hmt
      obtain ⟨u, hu⟩ : ∃ u, (zs 3).getD m 0 = u := ⟨_, rfl⟩
      rw [hu] at hcell
      have HUU := Lib.hid hu
      clear hu
      by_cases he : u = x + 1
      · subst he
        go_wp2
        refine region_line [(0, true), (1, true), (2, true), (3, true), (4, true), (5, true), (6, true), (9, true), (10, true), (7, false), (8, true), (11, true), (12, false)] (fun _ => True) (by kernel_rfl) (by kernel_rfl) (fun _ _ _ d _ h => by cases d <;> exact h) trivial ?_
        repeat (refine line_read (a' := ?_) rfl (by kernel_rfl) (by kernel_rfl) trivial (fun x hx K hK => ?_) ?_; rotate_left; · go_wp2; exact hK)
        refine line_act (by rfl) (fun K hK => ?_)
        go_wp2
        refine hK _ _ (fun _ => True) trivial (fun x hx => hx) ?_
        clear hK K
        repeat (refine line_read (a' := ?_) rfl (by kernel_rfl) (by kernel_rfl) trivial (fun x hx K hK => ?_) ?_; rotate_left; · go_wp2; exact hK)
        refine line_act (by rfl) (fun K hK => ?_)
        go_wp2
        refine hK _ _ (fun _ => True) trivial (fun x hx => hx) ?_
        clear hK K
        refine line_end ?_
        go_wp2
        go_ret
        have hh : hitB zs N 3 = true := by
          unfold hitB
          rw [HX.out, decide_eq_true_eq]
          have := HUU.out
          rw [List.getD_eq_getElem?_getD, List.getElem?_eq_getElem hmt] at this
          simp only [Option.getD_some] at this
          rw [← this]
          exact List.getElem_mem hmt
        unfold NextsD nextM
        rw [hh, HX.out, HY.out]
        exact ⟨rfl, H1.out.2.1, H1.out.2.2.2⟩
      · have hne : (u == x + 1) = false := by simpa using he
        have HNE := Lib.hid he
        clear he
        go_wp2
        go_roundw
        case rel =>
          refine ⟨m + 1, by omega, by go_num, fun j hj => ?_, trivial⟩
          by_cases e : j = m
          · subst e; rw [HUU.out]; exact HNE.out
          · exact NOT.out j (by omega)
        case measure => simp [intOf]; omega
    · obtain rfl : m = (zs 3).length := by omega
      go_wp2
      go_ret
      have hh : hitB zs N 3 = false := by
        unfold hitB
        rw [HX.out, decide_eq_false_iff_not]
        intro hmem
        obtain ⟨j, hj, hjn⟩ := List.mem_iff_getElem.1 hmem
        refine NOT.out j hj ?_
        rw [List.getD_eq_getElem?_getD, List.getElem?_eq_getElem hj]
        exact hjn
      unfold NextsD nextM
      rw [hh, HX.out]
      exact ⟨rfl, by simpa [upd_same] using H1.out.1, H1.out.2.2.1⟩

theorem refNext_is (b j : Nat) (V : Nat → Value) (zs : Nat → List Int) (N M : Nat → Int) (w : World) (h : DrAt w b V zs N M) (hj : j < 4) (h0 : 0 ≤ N j) (h1 : N j < 100000) (h2 : 0 ≤ M j) (h3 : M j < 100000) (hm : (zs j).length ≤ 9223372036854775807) :
    Calls Try.prog 48 #[.pointer (some ⟨b, 0, none⟩), .int .i64 (j : Int)] w (NextsD b V zs N M j w) := by
  have e : j = 0 ∨ j = 1 ∨ j = 2 ∨ j = 3 := by omega
  rcases e with rfl | rfl | rfl | rfl
  · exact refNext_0 b V zs N M w h h0 h1 h2 h3 hm
  · exact refNext_1 b V zs N M w h h0 h1 h2 h3 hm
  · exact refNext_2 b V zs N M w h h0 h1 h2 h3 hm
  · exact refNext_3 b V zs N M w h h0 h1 h2 h3 hm

end Go.Proofs.Ytdfcfjncflfppaa
