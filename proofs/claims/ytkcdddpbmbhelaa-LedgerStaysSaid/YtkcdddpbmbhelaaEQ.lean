/-
  Package ledger: which entry may be (alike, isRight).
-/
import Derived.Test.YtkcdddpbmbhelaaEP
namespace Go.Proofs.Ytkcdddpbmbhelaa
open Go.RowKit

set_option maxHeartbeats 800000 in
theorem equalI_any (a b : Value) (xs ys : List Int) (w : World) (hA : Ints w a xs) (hB : Ints w b ys) (hm : xs.length ≤ 9223372036854775807) :
    Calls Try.prog 47 #[a, b] w fun e w' => e = .returned (.bool (xs == ys)) ∧ Ext w w' := by
  obtain ⟨aa, ca, ba, oa, rfl, hca⟩ := hA.form
  obtain ⟨ab, cb, bb, ob, rfl, hcb⟩ := hB.form
  have HA := Lib.hid hca
  have HB := Lib.hid hcb
  obtain ⟨na, hna⟩ : ∃ n, xs.length = n := ⟨_, rfl⟩
  obtain ⟨nb, hnb⟩ : ∃ n, ys.length = n := ⟨_, rfl⟩
  rw [hna] at hm
  rw [hna, hnb]
  have HNA := Lib.hid hna
  have HNB := Lib.hid hnb
  clear hA hB hca hcb hna hnb
  by_cases hl : na = nb
  · subst hl
    go_enter Try.func47, Try.ntmps47
    go_wp2
    go_loopw [13] (fun i wr => ∃ k : Nat, k ≤ na ∧ i = .int .i64 k ∧ (∀ j, j < k → xs.getD j 0 = ys.getD j 0) ∧ Ext w wr) (fun i _ => na - (intOf i).toNat)
    case atStart => exact ⟨0, by omega, rfl, fun j hj => by omega, Ext.refl w⟩
    case round =>
      obtain ⟨k, hk, rfl, hall, hE⟩ := hrel
      have ALL := Lib.hid hall
      clear hall
      by_cases hlt : k < na
      · obtain ⟨rfl, cx⟩ := HA.out k (by rw [HNA.out]; exact hlt)
        obtain ⟨rfl, cy⟩ := HB.out k (by rw [HNB.out]; exact hlt)
        have cx1 := hE.cell cx (by simp)
        have cy1 := hE.cell cy (by simp)
        obtain ⟨x, hx⟩ : ∃ x, xs.getD k 0 = x := ⟨_, rfl⟩
        obtain ⟨y, hy⟩ : ∃ y, ys.getD k 0 = y := ⟨_, rfl⟩
        rw [hx] at cx1
        rw [hy] at cy1
        have HXY := Lib.hid (And.intro hx hy)
        let S : World → Prop := fun z => z.cell? ⟨ba, oa + k, none⟩ = some (.int .i64 x) ∧ z.cell? ⟨bb, ob + k, none⟩ = some (.int .i64 y)
        have hS : S wr.drew := ⟨cx1, cy1⟩
        have HE := Lib.hid (ext_trans hE (Ext.drew wr))
        clear hx hy cx cy cx1 cy1 hE
        by_cases hxy : x = y
        · subst hxy
          go_wp2
          refine region_line [(0, true), (1, true), (2, true), (3, true), (4, true), (5, true), (6, true), (7, true), (8, true)] S (by kernel_rfl) (by kernel_rfl) (fun _ _ _ d _ h => by cases d <;> exact h) hS ?_
          repeat (refine line_read (a' := ?_) rfl (by kernel_rfl) (by kernel_rfl) hS (fun x hx K hK => ?_) ?_; rotate_left; · (obtain ⟨x1, x2⟩ := hx; go_wp2; exact hK))
          refine line_end ?_
          go_wp2
          go_roundw
          case rel =>
            refine ⟨k + 1, by omega, by go_num, fun j hj => ?_, HE.out⟩
            by_cases e : j = k
            · subst e; rw [HXY.out.1, HXY.out.2]
            · exact ALL.out j (by omega)
          case measure => simp [intOf]; omega
        · have hq : (x == y) = false := by simpa using hxy
          have hq2 : (x != y) = true := by simpa using hxy
          have HNE := Lib.hid hxy
          clear hxy
          go_wp2
          refine region_line [(0, true), (1, true), (2, true), (3, true), (4, true), (5, true), (6, true), (7, true), (8, true)] S (by kernel_rfl) (by kernel_rfl) (fun _ _ _ d _ h => by cases d <;> exact h) hS ?_
          repeat (refine line_read (a' := ?_) rfl (by kernel_rfl) (by kernel_rfl) hS (fun x hx K hK => ?_) ?_; rotate_left; · (obtain ⟨x1, x2⟩ := hx; go_wp2; exact hK))
          refine line_end ?_
          go_wp2
          go_ret
          refine ⟨ret_bool ?_, HE.out⟩
          have : xs ≠ ys := fun e => HNE.out (by rw [← HXY.out.1, ← HXY.out.2, e])
          simp [this]
      · obtain rfl : k = na := by omega
        have HE := Lib.hid hE
        clear hE
        go_wp2
        go_ret
        refine ⟨ret_bool ?_, HE.out⟩
        have : xs = ys := List.ext_getElem (HNA.out.trans HNB.out.symm) (fun m h1 h2 => by
          have := ALL.out m (by have := HNA.out; omega)
          simpa [List.getD_eq_getElem?_getD, h1, h2] using this)
        simp [this]
  · have hlne : ((na : Int) != (nb : Int)) = true := beqNe_nat' hl
    have HL := Lib.hid hl
    clear hl
    go_enter Try.func47, Try.ntmps47
    go_wp2
    go_ret
    refine ⟨ret_bool ?_, Ext.refl w⟩
    have : xs ≠ ys := fun e => HL.out (by rw [← HNA.out, ← HNB.out, e])
    simp [this]

set_option maxHeartbeats 1600000 in
theorem alike_any (x y : Ten) (u v : Value) (w : World) (hU : Ints w u x.bs) (hV : Ints w v y.bs) (hm : x.bs.length ≤ 9223372036854775807) :
    Calls Try.prog 43 #[.agg (tenC x u), .agg (tenC y v)] w fun e w' => e = .returned (.bool (tenB x y)) ∧ Ext w w' := by
  have hb0 := (Blk.new w 24 (tenC x u)).alloc (.cells (tenC y v) 24)
  have hb1 := Blk.newAt (w.alloc (.cells (tenC x u) 24)) (w.heap.size + 1) (by simp) 24 (tenC y v)
  have hE := grown_alloc (World.grownBy_alloc w (.cells (tenC x u) 24) none) (.cells (tenC y v) 24)
  have Q := equalI_any u v x.bs y.bs _ (hU.kept hE (by simp)) (hV.kept hE (by simp)) hm
  obtain ⟨au, cu, _, _, hu, _⟩ := hU.form
  obtain ⟨av, cv, _, _, hv, _⟩ := hV.form
  have HE := Lib.hid hE
  clear hE hU hV
  obtain ⟨xt, xe, xs, xp, xb⟩ := x
  obtain ⟨yt, ye, ys, yp, yb⟩ := y
  have x0 := (hb0.cell 0).trans (ten_th _ _)
  have x1 := (hb0.cell 1).trans (ten_ep _ _)
  have x2 := (hb0.cell 2).trans (ten_sz _ _)
  have x3 := (hb0.cell 3).trans (ten_sp _ _)
  have x4 := (hb0.cell 4).trans (ten_bs _ _)
  have y0 := (hb1.cell 0).trans (ten_th _ _)
  have y1 := (hb1.cell 1).trans (ten_ep _ _)
  have y2 := (hb1.cell 2).trans (ten_sz _ _)
  have y3 := (hb1.cell 3).trans (ten_sp _ _)
  have y4 := (hb1.cell 4).trans (ten_bs _ _)
  obtain ⟨w1, hw1⟩ : ∃ v', (w.alloc (.cells (tenC ⟨xt, xe, xs, xp, xb⟩ u) 24)).alloc (.cells (tenC ⟨yt, ye, ys, yp, yb⟩ v) 24) = v' := ⟨_, rfl⟩
  simp only [] at x0 x1 x2 x3 x4 y0 y1 y2 y3 y4 Q HE hu hv
  rw [hw1] at x0 x1 x2 x3 x4 y0 y1 y2 y3 y4 Q HE
  rw [hu] at x4 hw1 ⊢
  rw [hv] at y4 hw1 ⊢
  rw [hu, hv] at Q
  clear hb0 hb1 hu hv
  obtain ⟨q, hq⟩ : ∃ q, (xb == yb) = q := ⟨_, rfl⟩
  rw [hq] at Q
  have fin : tenB ⟨xt, xe, xs, xp, xb⟩ ⟨yt, ye, ys, yp, yb⟩ = (xt == yt && xe == ye && xs == ys && xp == yp && q) := by rw [← hq]; rfl
  rw [fin]
  clear hq fin
  by_cases h0 : xt = yt
  · subst h0
    by_cases h1 : xe = ye
    · subst h1
      by_cases h2 : xs = ys
      · subst h2
        by_cases h3 : xp = yp
        · subst h3
          go_enter Try.func43, Try.ntmps43
          go_wp2_with (go_at_call 47; refine Q.mono ?_; rintro e w' ⟨rfl, hE2⟩; have HE2 := Lib.hid hE2; clear hE2)
          go_ret
          exact ⟨ret_bool (by simp), ext_trans HE.out HE2.out⟩
        · have hq : (xp == yp) = false := by simpa using h3
          have H3 := Lib.hid h3
          clear h3
          go_enter Try.func43, Try.ntmps43
          go_wp2
          go_ret
          exact ⟨ret_bool (by simp [H3.out]), HE.out⟩
      · have hq : (xs == ys) = false := by simpa using h2
        have H3 := Lib.hid h2
        clear h2
        go_enter Try.func43, Try.ntmps43
        go_wp2
        go_ret
        exact ⟨ret_bool (by simp [H3.out]), HE.out⟩
    · have hq : (xe == ye) = false := by simpa using h1
      have H3 := Lib.hid h1
      clear h1
      go_enter Try.func43, Try.ntmps43
      go_wp2
      go_ret
      exact ⟨ret_bool (by simp [H3.out]), HE.out⟩
  · cases xt <;> cases yt
    · exact absurd rfl h0
    · clear h0
      go_enter Try.func43, Try.ntmps43
      go_wp2
      go_ret
      exact ⟨ret_bool (by simp), HE.out⟩
    · clear h0
      go_enter Try.func43, Try.ntmps43
      go_wp2
      go_ret
      exact ⟨ret_bool (by simp), HE.out⟩
    · exact absurd rfl h0

end Go.Proofs.Ytkcdddpbmbhelaa
