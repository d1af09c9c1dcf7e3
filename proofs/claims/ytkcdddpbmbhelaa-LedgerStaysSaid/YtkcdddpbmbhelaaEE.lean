/-
  Package ledger: what Swap does to a twin.
-/
import Derived.Test.YtkcdddpbmbhelaaED
namespace Go.Proofs.Ytkcdddpbmbhelaa
open Go.RowKit

/-- Two blocks that have changed places. -/
def swapL (L : Led) (a i o j : Nat) : Led :=
  updT (updT L a { L.t a with bs := (L.t a).bs.set i ((L.t o).bs.getD j 0) }) o { L.t o with bs := (L.t o).bs.set j ((L.t a).bs.getD i 0) }
theorem led_swap (L : Led) (V : Nat → Value) {a o : Nat} (ha : a < 4) (ho : o < 4) (hne : a ≠ o) (i j : Nat) : ledC (swapL L a i o j) V = ledC L V := by
  obtain rfl | rfl | rfl | rfl : a = 0 ∨ a = 1 ∨ a = 2 ∨ a = 3 := by omega
  all_goals
    obtain rfl | rfl | rfl | rfl : o = 0 ∨ o = 1 ∨ o = 2 ∨ o = 3 := by omega
    all_goals first | exact absurd rfl hne | rfl

theorem map_set_int (xs : List Int) (i : Nat) (y : Int) : (xs.map (Value.int .i64)).set i (.int .i64 y) = (xs.set i y).map (Value.int .i64) := by
  rw [List.map_set]

/-- What stands behind both stores. -/
theorem swap_end {B b : Nat} {w : World} {L : Led} {V : Nat → Value} {a i o j ga go na ca no co : Nat} {x y : Int} (hR : Ready B w b L V) (ha : a < 4) (ho : o < 4) (hne : a ≠ o) (hi : i < (L.t a).bs.length) (hj : j < (L.t o).bs.length)
    (hVa : V a = .slice (some ⟨ga, 0, none⟩) na ca) (hVo : V o = .slice (some ⟨go, 0, none⟩) no co) (hx : (L.t a).bs.getD i 0 = x) (hy : (L.t o).bs.getD j 0 = y) (hga : B ≤ ga) (hgo : B ≤ go) (hgg : ga ≠ go) :
    DoneP B b (swapL L a i o j) w (.returned (.tuple #[])) ((w.setCell ⟨ga, i, none⟩ (.int .i64 y)).setCell ⟨go, j, none⟩ (.int .i64 x)).drew.drew := by
  have g1 : w.grownBy (w.setCell ⟨ga, i, none⟩ (.int .i64 y)) (some ga) := gb_set (gb_refl w _) _ _
  have g2 : (w.setCell ⟨ga, i, none⟩ (.int .i64 y)).grownBy ((w.setCell ⟨ga, i, none⟩ (.int .i64 y)).setCell ⟨go, j, none⟩ (.int .i64 x)) (some go) := gb_set (gb_refl _ _) _ _
  have g3 : ((w.setCell ⟨ga, i, none⟩ (.int .i64 y)).setCell ⟨go, j, none⟩ (.int .i64 x)).grownBy ((w.setCell ⟨ga, i, none⟩ (.int .i64 y)).setCell ⟨go, j, none⟩ (.int .i64 x)).drew.drew none := gb_drew (gb_drew (gb_refl _ none))
  have ra := hR.own.own a ha
  have ro := hR.own.own o ho
  have pa : (V a).ownBlock = some ga := by rw [hVa]; rfl
  have po : (V o).ownBlock = some go := by rw [hVo]; rfl
  rw [hVa] at ra
  rw [hVo] at ro
  have hna : na = (L.t a).bs.length := by
    rcases ra.2 with ⟨h, _⟩ | ⟨_, _, _, h, _⟩
    · simp at h
    · simp at h; omega
  have hno : no = (L.t o).bs.length := by
    rcases ro.2 with ⟨h, _⟩ | ⟨_, _, _, h, _⟩
    · simp at h
    · simp at h; omega
  subst hna
  subst hno
  have sa := (ra.stored i (.int .i64 y)).1
  have so := ((own_kept ro g1 (fun p hp e => hgg (by simp [Value.ownBlock] at hp; injection e with e; omega))).stored j (.int .i64 x)).1
  have sa2 := World.ownsRow.kept sa g2 (.inr (fun e => hgg (by simp [Value.ownBlock] at e; exact e)))
  rw [map_set_int] at sa2 so
  have b2 := (hR.blk.kept g1 (fun e => hR.far a ha ga pa (by injection e with e; exact e.symm))).kept g2 (fun e => hR.far o ho go po (by injection e with e; exact e.symm))
  refine ⟨rfl, V, ?_, fun k hk => ?_, fun k hk p hp => ?_, ?_⟩
  · rw [led_swap L V ha ho hne]
    exact b2.ext g3
  · by_cases eo : k = o
    · subst eo
      rw [hVo]
      simp only [swapL, updT, if_true]
      have := owns_ints (n := (L.t k).bs.length) (xs := (L.t k).bs.set j x) (by simp) so
      rw [hx]
      exact this.kept g3 (by simp)
    · by_cases ea : k = a
      · subst ea
        rw [hVa]
        simp only [swapL, updT, if_true, if_neg eo]
        have := owns_ints (n := (L.t k).bs.length) (xs := (L.t k).bs.set i y) (by simp) sa2
        rw [hy]
        exact this.kept g3 (by simp)
      · simp only [swapL, updT, if_neg eo, if_neg ea]
        have h1 := (hR.own.is k hk).kept g1 (fun p hp e => hR.own.apart k a hk ha ea p hp (by rw [pa]; exact e.symm))
        have h2 := h1.kept g2 (fun p hp e => hR.own.apart k o hk ho eo p hp (by rw [po]; exact e.symm))
        exact h2.kept g3 (by simp)
  · have h1 := own_lt (hR.own.own k hk) p hp
    have h2 : ((w.setCell ⟨ga, i, none⟩ (.int .i64 y)).setCell ⟨go, j, none⟩ (.int .i64 x)).drew.drew.heap.size = w.heap.size := by
      show ((w.setCell ⟨ga, i, none⟩ (.int .i64 y)).setCell ⟨go, j, none⟩ (.int .i64 x)).heap.size = w.heap.size
      simp [World.setCell]
    omega
  · have q1 := below_gb g1 hga hR.lows
    have q2 := below_gb g2 hgo (by have := g1.size; have := hR.lows; omega)
    exact (q1.trans q2).drew.drew

set_option maxHeartbeats 1600000 in
theorem swapDo_done {B w b} (ta to_ tj ti : Nat) {L : Led} {V : Nat → Value} (a i o j : Nat) (hR : Ready B w b L V) (h1 : w.cell? ⟨ta, 0, none⟩ = some (.int .i64 a)) (h2 : w.cell? ⟨to_, 0, none⟩ = some (.int .i64 o))
    (h3 : w.cell? ⟨tj, 0, none⟩ = some (.int .i64 j)) (h4 : w.cell? ⟨ti, 0, none⟩ = some (.int .i64 i)) (n3 : tj < B) (n4 : ti < B) (ha : a < 4) (ho : o < 4) (hne : a ≠ o)
    (hi : i < (L.t a).bs.length) (hj : j < (L.t o).bs.length) :
    Calls Try.prog 27 #[.pointer (some ⟨b, 0, none⟩), .pointer (some ⟨ta, 0, none⟩), .pointer (some ⟨to_, 0, none⟩), .pointer (some ⟨tj, 0, none⟩), .pointer (some ⟨ti, 0, none⟩)] w (DoneP B b (swapL L a i o j) w) := by
  have hlo := hR.lo
  have hlows := hR.lows
  obtain ⟨ga, ca, hVa, hga1, hga2, hga3⟩ := hR.rows ha hi
  obtain ⟨go, co, hVo, hgo1, hgo2, hgo3⟩ := hR.rows ho hj
  have hgg : ga ≠ go := fun e => hR.own.apart a o ha ho hne ga (by rw [hVa]; rfl) (by rw [hVo, e]; rfl)
  have oa := hR.own.own a ha
  have oo := hR.own.own o ho
  have va := (hR.blk.cell _).trans (led_bs L V ha)
  have vo := (hR.blk.cell _).trans (led_bs L V ho)
  have NA : (L.t a).bs.length ≤ maxLen := by
    obtain ⟨_, hh⟩ := oa
    rcases hh with ⟨_, h0⟩ | ⟨_, _, _, _, _, _, h5, h6, _⟩
    · omega
    · omega
  have NO : (L.t o).bs.length ≤ maxLen := by
    obtain ⟨_, hh⟩ := oo
    rcases hh with ⟨_, h0⟩ | ⟨_, _, _, _, _, _, h5, h6, _⟩
    · omega
    · omega
  unfold maxLen at NA NO
  rw [hVa] at oa va
  rw [hVo] at oo vo
  -- the numbers
  obtain ⟨x, hx⟩ : ∃ x, (L.t a).bs.getD i 0 = x := ⟨_, rfl⟩
  obtain ⟨y, hy⟩ : ∃ y, (L.t o).bs.getD j 0 = y := ⟨_, rfl⟩
  have cx : w.cell? ⟨ga, i, none⟩ = some (.int .i64 x) := by
    rw [oa.cellAt i (by omega), List.getElem?_map, List.getElem?_eq_getElem hi]
    rw [List.getD_eq_getElem?_getD, List.getElem?_eq_getElem hi] at hx
    simp at hx
    simp [hx]
  have cy : w.cell? ⟨go, j, none⟩ = some (.int .i64 y) := by
    rw [oo.cellAt j (by omega), List.getElem?_map, List.getElem?_eq_getElem hj]
    rw [List.getD_eq_getElem?_getD, List.getElem?_eq_getElem hj] at hy
    simp at hy
    simp [hy]
  have fx : w.frozen? ⟨ga, i, none⟩ = false := oa.frozenAt i
  have fy : w.frozen? ⟨go, j, none⟩ = false := oo.frozenAt j
  obtain ⟨na, hna⟩ : ∃ n, (L.t a).bs.length = n := ⟨_, rfl⟩
  obtain ⟨no, hno⟩ : ∃ n, (L.t o).bs.length = n := ⟨_, rfl⟩
  rw [hna] at hi va NA
  rw [hno] at hj vo NO
  have HR := Lib.hid hR
  have HX := Lib.hid (And.intro hx hy)
  have HO := Lib.hid (And.intro oa oo)
  have HV := Lib.hid (And.intro hVa hVo)
  have HC := Lib.hid (And.intro cx (And.intro cy (And.intro fx fy)))
  have HN := Lib.hid (And.intro hna hno)
  let S0 : World → Prop := fun z => z.cell? ⟨ta, 0, none⟩ = some (.int .i64 a) ∧ z.cell? ⟨to_, 0, none⟩ = some (.int .i64 o) ∧ z.cell? ⟨b, 2 + a * 5 + 4, none⟩ = some (.slice (some ⟨ga, 0, none⟩) na ca) ∧ z.cell? ⟨b, 2 + o * 5 + 4, none⟩ = some (.slice (some ⟨go, 0, none⟩) no co)
  have hS0 : S0 w.drew := ⟨h1, h2, va, vo⟩
  let S : World → Prop := fun z => z.cell? ⟨tj, 0, none⟩ = some (.int .i64 j) ∧ z.cell? ⟨ti, 0, none⟩ = some (.int .i64 i)
  have hS : S w.drew.drew := ⟨h3, h4⟩
  clear hR h1 h2 h3 h4 hVa hVo oa oo va vo hx hy cx cy fx fy hna hno
  go_enter Try.func27, Try.ntmps27
  go_wp2
  refine region_line [(0, true), (1, true), (2, true), (3, true), (4, true), (5, true), (6, true), (7, true), (8, true), (9, true), (10, true), (11, true), (12, true), (13, true), (14, true), (15, true)] S0 (by kernel_rfl) (by kernel_rfl) (fun _ _ _ d _ h => by cases d <;> exact h) hS0 ?_
  repeat (refine line_read (a' := ?_) rfl (by kernel_rfl) (by kernel_rfl) hS0 (fun x hx K hK => ?_) ?_; rotate_left; · (obtain ⟨x1, x2, x3, x4⟩ := hx; go_wp2; exact hK))
  refine line_end ?_
  clear hS0 S0
  go_wp2
  refine region_tree (.read 0 (.read 1 (.read 2 (.read 3 (.read 4 (.read 5 (.read 6 (.read 8 (.read 9 (.read 10 (.two 7 11 (.one 11 (.read 12 (.one 13 (.read 14 (.one 15 .done))))) (.one 7 (.read 12 (.one 13 (.read 14 (.one 15 .done)))))))))))))))) S (by kernel_rfl) (by kernel_rfl) (fun _ _ _ d _ h => by cases d <;> exact h) hS ?_
  repeat (refine tree_read (a' := ?_) rfl (by kernel_rfl) (by kernel_rfl) hS (fun x hx K hK => ?_) ?_; rotate_left; · (obtain ⟨x1, x2⟩ := hx; go_wp2; exact hK))
  have cx : w.drew.drew.cell? ⟨ga, i, none⟩ = some (.int .i64 x) := HC.out.1
  have cy : w.drew.drew.cell? ⟨go, j, none⟩ = some (.int .i64 y) := HC.out.2.1
  refine tree_two ?one ?two
  case' one =>
    refine tree_one (by rfl) (fun K hK => ?_)
    go_wp2
    refine hK _ _ S hS (fun x hx => hx) ?_
    clear hK K
    refine tree_one (by rfl) (fun K hK => ?_)
    go_wp2
    refine hK _ _ S hS (fun x hx => hx) ?_
    clear hK K
  case' two =>
    refine tree_one (by rfl) (fun K hK => ?_)
    go_wp2
    refine hK _ _ S hS (fun x hx => hx) ?_
    clear hK K
    refine tree_one (by rfl) (fun K hK => ?_)
    go_wp2
    refine hK _ _ S hS (fun x hx => hx) ?_
    clear hK K
  all_goals
    refine tree_read (a' := ?_) rfl (by kernel_rfl) (by kernel_rfl) hS (fun x hx K hK => ?_) ?_
    rotate_left
    · (obtain ⟨x1, x2⟩ := hx; go_wp2; exact hK)
    refine tree_one (by rfl) (fun K hK => ?_)
    have fx : w.drew.drew.frozen? ⟨ga, i, none⟩ = false := HC.out.2.2.1
    go_wp2
    have hg3 : w.drew.drew.grownBy (w.setCell ⟨ga, i, none⟩ (.int .i64 y)).drew.drew (some ga) := gb_set (gb_refl w.drew.drew (some ga)) i (.int .i64 y)
    have hS3 : S (w.setCell ⟨ga, i, none⟩ (.int .i64 y)).drew.drew := ⟨hg3.cell hS.1 (fun e => absurd (Option.some.inj e) (by show tj ≠ ga; omega)), hg3.cell hS.2 (fun e => absurd (Option.some.inj e) (by show ti ≠ ga; omega))⟩
    refine hK _ _ S hS3 (fun x hx => hx) ?_
    clear hK K fx
    refine tree_read (a' := ?_) rfl (by kernel_rfl) (by kernel_rfl) hS3 (fun x hx K hK => ?_) ?_
    rotate_left
    · (obtain ⟨x1, x2⟩ := hx; go_wp2; exact hK)
    refine tree_one (by rfl) (fun K hK => ?_)
    have cy3 : (w.setCell ⟨ga, i, none⟩ (.int .i64 y)).cell? ⟨go, j, none⟩ = some (.int .i64 y) := by
      rw [World.cell?_setCell_other _ _ _ _ (fun e => hgg (by injection e))]
      exact HC.out.2.1
    have fy3 : (w.setCell ⟨ga, i, none⟩ (.int .i64 y)).frozen? ⟨go, j, none⟩ = false := by
      rw [World.frozen?_setCell]
      exact HC.out.2.2.2
    go_wp2
    have hg4 : (w.setCell ⟨ga, i, none⟩ (.int .i64 y)).grownBy ((w.setCell ⟨ga, i, none⟩ (.int .i64 y)).setCell ⟨go, j, none⟩ (.int .i64 x)) (some go) := gb_set (gb_refl _ (some go)) j (.int .i64 x)
    have hS4 : S ((w.setCell ⟨ga, i, none⟩ (.int .i64 y)).setCell ⟨go, j, none⟩ (.int .i64 x)).drew.drew := ⟨hg4.cell (w := w.setCell ⟨ga, i, none⟩ (.int .i64 y)) hS3.1 (fun e => absurd (Option.some.inj e) (by show tj ≠ go; omega)), hg4.cell (w := w.setCell ⟨ga, i, none⟩ (.int .i64 y)) hS3.2 (fun e => absurd (Option.some.inj e) (by show ti ≠ go; omega))⟩
    refine hK _ _ S hS4 (fun x hx => hx) ?_
    clear hK K cy3 fy3 cx cy
    refine tree_end ?_
    go_wp2
    go_end0
    exact swap_end HR.out ha ho hne (by rw [HN.out.1]; exact hi) (by rw [HN.out.2]; exact hj) HV.out.1 HV.out.2 HX.out.1 HX.out.2 hga1 hgo1 hgg

end Go.Proofs.Ytkcdddpbmbhelaa
