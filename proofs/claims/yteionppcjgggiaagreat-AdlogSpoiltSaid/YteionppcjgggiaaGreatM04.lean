/-
  Texts put together: EP EQ ER ES.
-/
import Derived.Test.YteionppcjgggiaaGreatM03
import Derived.Maps.OwnSet
import Derived.Maps.OwnOps
/-
  Package ledger: taken, set, Free.
-/
namespace Go.Proofs.YteionppcjgggiaaGreat
set_option linter.unusedVariables false
set_option linter.unusedSimpArgs false
set_option maxRecDepth 100000
open Go.RowKit Go.Maps

def takenTo (L : Led) : Nat → List Int
  | 0 => []
  | k + 1 => takenTo L k ++ (L.t k).bs
def takenL (L : Led) : List Int := takenTo L 4
theorem takenTo_len {L : Led} (hm : ∀ j, j < 4 → (L.t j).bs.length ≤ 1048576) : ∀ k, k ≤ 4 → (takenTo L k).length ≤ k * 1048576
  | 0, _ => by simp [takenTo]
  | k + 1, h => by
    have h1 := takenTo_len hm k (by omega)
    have h2 := hm k (by omega)
    simp only [takenTo, List.length_append]
    omega
def WfL (xs : List Int) : Prop := ∀ n ∈ xs, (Lit.int .i64 n).wf = true
theorem takenTo_wf {L : Led} (h : ∀ j, j < 4 → WfL (L.t j).bs) : ∀ k, k ≤ 4 → WfL (takenTo L k)
  | 0, _ => fun n hn => by simp [takenTo] at hn
  | k + 1, hk => fun n hn => by
    simp only [takenTo, List.mem_append] at hn
    rcases hn with hn | hn
    · exact takenTo_wf h k (by omega) n hn
    · exact h k (by omega) n hn

set_option maxHeartbeats 800000 in
theorem taken10_any (L : Led) (V : Nat → Value) (w : World) (hL : LedIs w L V) (hm : ∀ j, j < 4 → (L.t j).bs.length ≤ 1048576) :
    Calls Tryz.prog 75 #[.agg (ledC L V)] w fun e w' => ∃ v, e = .returned v ∧ OwnI w.heap.size w' v (takenL L) ∧ Ext w w' := by
  have hb := Blk.new w 36 (ledC L V)
  have hE0 := World.grownBy_alloc w (.cells (ledC L V) 36) none
  obtain ⟨w1, hw1⟩ : ∃ v, w.alloc (.cells (ledC L V) 36) = v := ⟨_, rfl⟩
  rw [hw1] at hb hE0
  have HL := Lib.hid (hL.ext hE0)
  have HE0 := Lib.hid hE0
  clear hL hE0
  go_enter Tryz.func75, Tryz.ntmps75
  go_wp2_with (refine tens_load _ rfl rfl hb rfl ?_)
  clear hw1 hb
  go_loopw [3, 8] (fun x i wr => ∃ (k : Nat) (v : Value), k ≤ 4 ∧ v = x ∧ i = .int .i64 k ∧ OwnI w1.heap.size wr v (takenTo L k) ∧ Ext w1 wr) (fun _ i _ => 4 - (intOf i).toNat)
  case atStart => exact ⟨0, _, by omega, rfl, rfl, World.ownsRow_nil w1 _ _ _, Ext.refl w1⟩
  case round =>
    obtain ⟨k, v, hk, hvx, rfl, hO, hE1⟩ := hrel
    subst hvx
    have HO := Lib.hid hO
    have HE1 := Lib.hid hE1
    by_cases hlt : k < 4
    · have hix := tens_at L V hlt
      have hI := (HL.out k hlt).kept hE1 (by simp)
      have hS := hI.slice
      obtain ⟨ao, cp, _, _, hv, _⟩ := hI.form
      have HV := Lib.hid hv
      have HI := Lib.hid hI
      have hBn := Blk.new wr 33 zeroTC
      have HT := Lib.hid (And.intro (takenTo_len hm k hk) (hm k hlt))
      clear hI hv hE1 hO hm
      go_wp2_with (first
        | (refine ten_store _ _ rfl rfl rfl hBn rfl hS rfl ?_; intro w6 hb6 hg6 hs6; clear hBn hs6; have c4 := (hb6.cell 4).trans (ten_bs _ _); rw [HV.out] at c4; have HG6 := Lib.hid (grown_trans (World.grownBy_alloc wr (.cells zeroTC 33) none) hg6 (fun p hp hlt => by injection hp with hp; omega)); clear hg6 hb6)
        | (at_builtin; go_loud (refine append_ints rfl _ _ rfl w1.heap.size v (takenTo L k) rfl (own_kept HO.out HG6.out (by simp)) _ (L.t k).bs rfl ?_ ?_ ?_ ?_); (have hq := HI.out.kept HG6.out (by simp); rw [HV.out] at hq; exact hq); (have hq := HT.out; omega); (have hq := HE1.out.size; have hq2 := HG6.out.size; omega); intro v7 w7 ho7 hg7 _; have HO7 := Lib.hid ho7; have HE7 := Lib.hid (ext_own (ext_trans HE1.out HG6.out) (own_kept HO.out HG6.out (by simp)) (Nat.le_refl _) hg7); clear ho7 hg7 c4))
      go_roundw
      case rel => exact ⟨k + 1, _, by omega, rfl, by go_num, HO7.out, HE7.out⟩
      case measure => simp [intOf]; omega
    · obtain rfl : k = 4 := by omega
      clear hE1 hO
      go_wp2
      go_ret
      exact ⟨_, rfl, ownsRow_le HO.out HE0.out.size, ext_trans HE0.out HE1.out⟩

theorem Tryz.keyedInt : Keyed Tryz.prog 3 := int_keyed Tryz.underlying3
theorem Tryz.zeroUnit (w : World) : (zeroValue 84).run Tryz.prog w = .ok (.agg #[]) w := by kernel_rfl
def setD (xs : List Int) : DataW Unit := setOf (.agg []) (xs.map (Lit.int .i64))
theorem setD_snoc (xs : List Int) (x : Int) : setD (xs ++ [x]) = (setD xs).put (.int .i64 x) (.agg []) := by
  unfold setD
  rw [List.map_append]
  exact setOf_snoc _ _ _
abbrev SetAt (w : World) (b n : Nat) (xs : List Int) : Prop := w.ownsMap Tryz.prog 3 (unitElem (H := Unit)) b n (setD xs)

theorem take_snocI {xs : List Int} {k : Nat} (h : k < xs.length) : xs.take (k + 1) = xs.take k ++ [xs.getD k 0] := by
  rw [List.take_succ_eq_append_getElem h, List.getD_eq_getElem?_getD, List.getElem?_eq_getElem h]
  rfl

theorem Tryz.mapHint (n : Int) (w : World) : (Instr.makeMap 146 (some (.int .i64 n))).run Tryz.prog w = .ok (.map (some w.heap.size)) (w.alloc (.map #[] 0)) := by kernel_rfl

set_option maxHeartbeats 800000 in
theorem set10_any (v : Value) (xs : List Int) (w : World) (hI : Ints w v xs) (hm : xs.length ≤ 16777216) (hwf : WfL xs) :
    Calls Tryz.prog 99 #[v] w fun e w' => ∃ b, e = .returned (.map (some b)) ∧ SetAt w' b xs.length xs ∧ w.heap.size ≤ b ∧ Ext w w' := by
  obtain ⟨ao, cp, bb, oo, rfl, hc⟩ := hI.form
  have HC := Lib.hid hc
  have HWF := Lib.hid hwf
  have hmm := Tryz.mapHint xs.length
  have hmade : SetAt (w.alloc (.map #[] 0)) w.heap.size 0 [] := World.ownsMap_made w Tryz.prog 3 unitElem
  have hE0 := World.grownBy_alloc w (.map #[] 0) none
  obtain ⟨w1, hw1⟩ : ∃ v, w.alloc (.map #[] 0) = v := ⟨_, rfl⟩
  rw [hw1] at hmade hE0
  have HM := Lib.hid hmade
  have HE0 := Lib.hid hE0
  clear hI hc hwf hmade hE0
  go_enter Tryz.func99, Tryz.ntmps99
  go_wp2
  clear hw1 hmm
  obtain ⟨mb, hmb⟩ : ∃ b, w.heap.size = b := ⟨_, rfl⟩
  rw [hmb] at HM ⊢
  have HMB := Lib.hid hmb
  clear hmb
  go_loopw [11] (fun i wr => ∃ k : Nat, k ≤ xs.length ∧ i = .int .i64 k ∧ SetAt wr mb k (xs.take k) ∧ w1.grownBy wr (some mb)) (fun i _ => xs.length - (intOf i).toNat)
  case atStart => exact ⟨0, by omega, rfl, HM.out, gb_refl w1 _⟩
  case round =>
    obtain ⟨k, hk, rfl, hown, hG⟩ := hrel
    have HG := Lib.hid hG
    by_cases hlt : k < xs.length
    · obtain ⟨rfl, cx⟩ := HC.out k hlt
      have hbbw : bb < w.heap.size := World.block_lt_of_cell? w _ cx
      have cx1 := hG.cell (HE0.out.cell cx (by simp)) (fun e => absurd (Option.some.inj e) (by show bb ≠ mb; rw [← HMB.out]; omega))
      obtain ⟨x, hx⟩ : ∃ x, xs.getD k 0 = x := ⟨_, rfl⟩
      rw [hx] at cx1
      have hwx : (Lit.int .i64 x).wf = true := by
        refine HWF.out x ?_
        rw [← hx, List.getD_eq_getElem?_getD, List.getElem?_eq_getElem hlt]
        exact List.getElem_mem hlt
      have HX := Lib.hid hx
      have HW := Lib.hid hwx
      have HOW := Lib.hid hown
      clear cx hx hwx hG hown
      go_wp2_with (at_mapUpdate; go_loud (refine wpList_mapUpdate_own _ rfl _ _ _ 146 rfl 3 84 Tryz.keyedInt Tryz.underlying146 unitElem mb k _ rfl HOW.out (by unfold maxLen; omega) _ _ _ rfl rfl (keyOf_int_mk Tryz.underlying3 HW.out) _ [] unitElem_mk ?_); intro w2 hown2 hgrow2; have HO2 := Lib.hid hown2; have HG2 := Lib.hid hgrow2; clear hown2 hgrow2)
      go_roundw
      case rel =>
        refine ⟨k + 1, by omega, by go_num, ?_, gb_trans HG.out HG2.out⟩
        have h := HO2.out
        rw [← setD_snoc, ← HX.out, ← take_snocI hlt] at h
        exact h
      case measure => simp [intOf]; omega
    · obtain rfl : k = xs.length := by omega
      rw [List.take_length] at hown
      have HOW := Lib.hid hown
      clear hown hG
      go_wp2
      go_ret
      exact ⟨mb, rfl, HOW.out, by rw [HMB.out]; exact Nat.le_refl _, grown_trans HE0.out HG.out (fun p hp hlt => by injection hp with hp; have := HMB.out; omega)⟩

theorem Tryz.funcNil (w : World) : (binOp .eql 72 .nilFunc .nilFunc).run Tryz.prog w = .ok (.bool true) w := by kernel_rfl

/-- The blocks that nobody has, of the first k behind the admin's. -/
def freeTo (T : List Int) (k : Nat) : List Int := ((List.range k).map fun i : Nat => (2 : Int) + (i : Int)).filter fun x => decide (x ∉ T)
theorem freeTo_succ (T : List Int) (k : Nat) : freeTo T (k + 1) = if (2 + (k : Int)) ∈ T then freeTo T k else freeTo T k ++ [2 + (k : Int)] := by
  unfold freeTo
  rw [List.range_succ, List.map_append, List.filter_append]
  by_cases h : (2 + (k : Int)) ∈ T
  · simp [h]
  · simp [h]
theorem freeTo_len (T : List Int) (k : Nat) : (freeTo T k).length ≤ k := by
  unfold freeTo
  exact Nat.le_trans (List.length_filter_le _ _) (by simp)
theorem freeTo_next {T : List Int} {m : Int} (h : 2 ≤ m) : freeTo T (m + 1 - 2).toNat = if m ∈ T then freeTo T (m - 2).toNat else freeTo T (m - 2).toNat ++ [m] := by
  obtain ⟨k, rfl⟩ : ∃ k : Nat, m = 2 + (k : Int) := ⟨(m - 2).toNat, by omega⟩
  rw [show ((2 + (k : Int)) + 1 - 2).toNat = k + 1 by omega, show ((2 + (k : Int)) - 2).toNat = k by omega]
  exact freeTo_succ T k
def freeL (L : Led) (blocks : Int) : List Int := freeTo (takenL L) (blocks - 2).toNat

theorem set_has {xs : List Int} {x : Int} : Maps.has (setD xs) (.int .i64 x) = decide (x ∈ xs) := by
  unfold setD
  rw [has_setOf _ _ _ (fun y hy => by obtain ⟨n, _, rfl⟩ := List.mem_map.1 hy; trivial)]
  rw [Bool.eq_iff_iff]
  simp [List.any_map, Lit.sameKey]

end Go.Proofs.YteionppcjgggiaaGreat

/-
  Package ledger: which entry may be (alike, isRight).
-/
namespace Go.Proofs.YteionppcjgggiaaGreat
set_option linter.unusedVariables false
set_option linter.unusedSimpArgs false
set_option maxRecDepth 100000
open Go.RowKit

set_option maxHeartbeats 800000 in
theorem equalI_any (a b : Value) (xs ys : List Int) (w : World) (hA : Ints w a xs) (hB : Ints w b ys) (hm : xs.length ≤ 9223372036854775807) :
    Calls Tryz.prog 107 #[a, b] w fun e w' => e = .returned (.bool (xs == ys)) ∧ Ext w w' := by
  obtain ⟨aa, ca, ba, oa, rfl, hca⟩ := hA.form
  obtain ⟨ab, cb, bb, ob, rfl, hcb⟩ := hB.form
  have HA := Lib.hid hca
  have HB := Lib.hid hcb
  obtain ⟨na, hna⟩ : ∃ n, xs.length = n := ⟨_, rfl⟩
  obtain ⟨nb, hnb⟩ : ∃ n, ys.length = n := ⟨_, rfl⟩
  rw [hna] at hm
  rw [hna, hnb]
  have HNA := Lib.hid hna
  have HNB := Lib.hid hnb
  clear hA hB hca hcb hna hnb
  by_cases hl : na = nb
  · subst hl
    go_enter Tryz.func107, Tryz.ntmps107
    go_wp2
    go_loopw [13] (fun i wr => ∃ k : Nat, k ≤ na ∧ i = .int .i64 k ∧ (∀ j, j < k → xs.getD j 0 = ys.getD j 0) ∧ Ext w wr) (fun i _ => na - (intOf i).toNat)
    case atStart => exact ⟨0, by omega, rfl, fun j hj => by omega, Ext.refl w⟩
    case round =>
      obtain ⟨k, hk, rfl, hall, hE⟩ := hrel
      have ALL := Lib.hid hall
      clear hall
      by_cases hlt : k < na
      · obtain ⟨rfl, cx⟩ := HA.out k (by rw [HNA.out]; exact hlt)
        obtain ⟨rfl, cy⟩ := HB.out k (by rw [HNB.out]; exact hlt)
        have cx1 := hE.cell cx (by simp)
        have cy1 := hE.cell cy (by simp)
        obtain ⟨x, hx⟩ : ∃ x, xs.getD k 0 = x := ⟨_, rfl⟩
        obtain ⟨y, hy⟩ : ∃ y, ys.getD k 0 = y := ⟨_, rfl⟩
        rw [hx] at cx1
        rw [hy] at cy1
        have HXY := Lib.hid (And.intro hx hy)
        let S : World → Prop := fun z => z.cell? ⟨ba, oa + k, none⟩ = some (.int .i64 x) ∧ z.cell? ⟨bb, ob + k, none⟩ = some (.int .i64 y)
        have hS : S wr.drew := ⟨cx1, cy1⟩
        have HE := Lib.hid (ext_trans hE (Ext.drew wr))
        clear hx hy cx cy cx1 cy1 hE
        by_cases hxy : x = y
        · subst hxy
          go_wp2
          refine region_line [(0, true), (1, true), (2, true), (3, true), (4, true), (5, true), (6, true), (7, true), (8, true)] S (by kernel_rfl) (by kernel_rfl) (fun _ _ _ d _ h => by cases d <;> exact h) hS ?_
          repeat (refine line_read (a' := ?_) rfl (by kernel_rfl) (by kernel_rfl) hS (fun x hx K hK => ?_) ?_; rotate_left; · (obtain ⟨x1, x2⟩ := hx; go_wp2; exact hK))
          refine line_end ?_
          go_wp2
          go_roundw
          case rel =>
            refine ⟨k + 1, by omega, by go_num, fun j hj => ?_, HE.out⟩
            by_cases e : j = k
            · subst e; rw [HXY.out.1, HXY.out.2]
            · exact ALL.out j (by omega)
          case measure => simp [intOf]; omega
        · have hq : (x == y) = false := by simpa using hxy
          have hq2 : (x != y) = true := by simpa using hxy
          have HNE := Lib.hid hxy
          clear hxy
          go_wp2
          refine region_line [(0, true), (1, true), (2, true), (3, true), (4, true), (5, true), (6, true), (7, true), (8, true)] S (by kernel_rfl) (by kernel_rfl) (fun _ _ _ d _ h => by cases d <;> exact h) hS ?_
          repeat (refine line_read (a' := ?_) rfl (by kernel_rfl) (by kernel_rfl) hS (fun x hx K hK => ?_) ?_; rotate_left; · (obtain ⟨x1, x2⟩ := hx; go_wp2; exact hK))
          refine line_end ?_
          go_wp2
          go_ret
          refine ⟨ret_bool ?_, HE.out⟩
          have : xs ≠ ys := fun e => HNE.out (by rw [← HXY.out.1, ← HXY.out.2, e])
          simp [this]
      · obtain rfl : k = na := by omega
        have HE := Lib.hid hE
        clear hE
        go_wp2
        go_ret
        refine ⟨ret_bool ?_, HE.out⟩
        have : xs = ys := List.ext_getElem (HNA.out.trans HNB.out.symm) (fun m h1 h2 => by
          have := ALL.out m (by have := HNA.out; omega)
          simpa [List.getD_eq_getElem?_getD, h1, h2] using this)
        simp [this]
  · have hlne : ((na : Int) != (nb : Int)) = true := beqNe_nat' hl
    have HL := Lib.hid hl
    clear hl
    go_enter Tryz.func107, Tryz.ntmps107
    go_wp2
    go_ret
    refine ⟨ret_bool ?_, Ext.refl w⟩
    have : xs ≠ ys := fun e => HL.out (by rw [← HNA.out, ← HNB.out, e])
    simp [this]

set_option maxHeartbeats 1600000 in
theorem alike_any (x y : Ten) (u v : Value) (w : World) (hU : Ints w u x.bs) (hV : Ints w v y.bs) (hm : x.bs.length ≤ 9223372036854775807) :
    Calls Tryz.prog 95 #[.agg (tenC x u), .agg (tenC y v)] w fun e w' => e = .returned (.bool (tenB x y)) ∧ Ext w w' := by
  have hb0 := (Blk.new w 33 (tenC x u)).alloc (.cells (tenC y v) 33)
  have hb1 := Blk.newAt (w.alloc (.cells (tenC x u) 33)) (w.heap.size + 1) (by simp) 33 (tenC y v)
  have hE := grown_alloc (World.grownBy_alloc w (.cells (tenC x u) 33) none) (.cells (tenC y v) 33)
  have Q := equalI_any u v x.bs y.bs _ (hU.kept hE (by simp)) (hV.kept hE (by simp)) hm
  obtain ⟨au, cu, _, _, hu, _⟩ := hU.form
  obtain ⟨av, cv, _, _, hv, _⟩ := hV.form
  have HE := Lib.hid hE
  clear hE hU hV
  obtain ⟨xt, xe, xs, xp, xb⟩ := x
  obtain ⟨yt, ye, ys, yp, yb⟩ := y
  have x0 := (hb0.cell 0).trans (ten_th _ _)
  have x1 := (hb0.cell 1).trans (ten_ep _ _)
  have x2 := (hb0.cell 2).trans (ten_sz _ _)
  have x3 := (hb0.cell 3).trans (ten_sp _ _)
  have x4 := (hb0.cell 4).trans (ten_bs _ _)
  have y0 := (hb1.cell 0).trans (ten_th _ _)
  have y1 := (hb1.cell 1).trans (ten_ep _ _)
  have y2 := (hb1.cell 2).trans (ten_sz _ _)
  have y3 := (hb1.cell 3).trans (ten_sp _ _)
  have y4 := (hb1.cell 4).trans (ten_bs _ _)
  obtain ⟨w1, hw1⟩ : ∃ v', (w.alloc (.cells (tenC ⟨xt, xe, xs, xp, xb⟩ u) 33)).alloc (.cells (tenC ⟨yt, ye, ys, yp, yb⟩ v) 33) = v' := ⟨_, rfl⟩
  simp only [] at x0 x1 x2 x3 x4 y0 y1 y2 y3 y4 Q HE hu hv
  rw [hw1] at x0 x1 x2 x3 x4 y0 y1 y2 y3 y4 Q HE
  rw [hu] at x4 hw1 ⊢
  rw [hv] at y4 hw1 ⊢
  rw [hu, hv] at Q
  clear hb0 hb1 hu hv
  obtain ⟨q, hq⟩ : ∃ q, (xb == yb) = q := ⟨_, rfl⟩
  rw [hq] at Q
  have fin : tenB ⟨xt, xe, xs, xp, xb⟩ ⟨yt, ye, ys, yp, yb⟩ = (xt == yt && xe == ye && xs == ys && xp == yp && q) := by rw [← hq]; rfl
  rw [fin]
  clear hq fin
  by_cases h0 : xt = yt
  · subst h0
    by_cases h1 : xe = ye
    · subst h1
      by_cases h2 : xs = ys
      · subst h2
        by_cases h3 : xp = yp
        · subst h3
          go_enter Tryz.func95, Tryz.ntmps95
          go_wp2_with (go_at_call 107; refine Q.mono ?_; rintro e w' ⟨rfl, hE2⟩; have HE2 := Lib.hid hE2; clear hE2)
          go_ret
          exact ⟨ret_bool (by simp), ext_trans HE.out HE2.out⟩
        · have hq : (xp == yp) = false := by simpa using h3
          have H3 := Lib.hid h3
          clear h3
          go_enter Tryz.func95, Tryz.ntmps95
          go_wp2
          go_ret
          exact ⟨ret_bool (by simp), HE.out⟩
      · have hq : (xs == ys) = false := by simpa using h2
        have H3 := Lib.hid h2
        clear h2
        go_enter Tryz.func95, Tryz.ntmps95
        go_wp2
        go_ret
        exact ⟨ret_bool (by simp), HE.out⟩
    · have hq : (xe == ye) = false := by simpa using h1
      have H3 := Lib.hid h1
      clear h1
      go_enter Tryz.func95, Tryz.ntmps95
      go_wp2
      go_ret
      exact ⟨ret_bool (by simp), HE.out⟩
  · cases xt <;> cases yt
    · exact absurd rfl h0
    · clear h0
      go_enter Tryz.func95, Tryz.ntmps95
      go_wp2
      go_ret
      exact ⟨ret_bool (by simp), HE.out⟩
    · clear h0
      go_enter Tryz.func95, Tryz.ntmps95
      go_wp2
      go_ret
      exact ⟨ret_bool (by simp), HE.out⟩
    · exact absurd rfl h0

end Go.Proofs.YteionppcjgggiaaGreat

/-
  Package ledger: isRight.
-/
namespace Go.Proofs.YteionppcjgggiaaGreat
set_option linter.unusedVariables false
set_option linter.unusedSimpArgs false
set_option maxRecDepth 100000
open Go.RowKit

def totS (s r p : Int) : Int := if rightB s r p = true then s / p + 2 + r else 0
theorem totS_bd (s r p : Int) : 0 ≤ totS s r p ∧ totS s r p ≤ 74 := by
  unfold totS
  split
  · rename_i h
    simp [rightB, inB] at h
    obtain ⟨⟨⟨s0, s1⟩, r0, r1⟩, p0, p1⟩ := h
    have q0 : 0 ≤ s / p := Int.ediv_nonneg (by omega) (by omega)
    have q1 : s / p ≤ 64 := Int.le_trans (Int.ediv_le_self _ (by omega)) s1
    omega
  · omega

set_option maxHeartbeats 800000 in
theorem ruleTotal_all (s r p : Int) (w : World) :
    Calls Tryz.prog 96 #[.int .i64 s, .int .i64 r, .int .i64 p] w fun e w' => e = .returned (.int .i64 (totS s r p)) ∧ w = w' := by
  unfold totS
  by_cases hv : rightB s r p = true
  · rw [if_pos hv]
    simp [rightB, inB] at hv
    obtain ⟨⟨hs, hr⟩, hp⟩ := hv
    exact ruleTotal_any s r p w hs hr hp
  · rw [if_neg hv]
    have C := ruleCheck_any s r
    have P := rulePages_any p
    by_cases h0 : roomE s r = 0
    · rw [h0] at C
      have hpg : inB p 2 16 = false := by
        cases hh : inB p 2 16
        · rfl
        · refine absurd ?_ hv
          unfold roomE at h0
          split at h0
          · rename_i h
            simp only [rightB, h.1, h.2, hh, Bool.and_self]
          · simp at h0
      rw [hpg] at P
      clear hv h0 hpg
      go_enter Tryz.func96, Tryz.ntmps96
      go_wp2_with (first
        | (go_at_call 108; refine (C _).mono ?_; rintro e w' ⟨rfl, rfl⟩)
        | (go_at_call 109; refine (P _).mono ?_; rintro e w' ⟨rfl, rfl⟩))
      go_ret
      exact ⟨rfl, rfl⟩
    · have h5 : roomE s r = 5 := by unfold roomE at h0 ⊢; split <;> simp_all
      rw [h5] at C
      clear hv h0 h5
      go_enter Tryz.func96, Tryz.ntmps96
      go_wp2_with (go_at_call 108; refine (C _).mono ?_; rintro e w' ⟨rfl, rfl⟩)
      go_ret
      exact ⟨rfl, rfl⟩

def outB (n b : Int) : Bool := decide (b < 2 ∨ n ≤ b)

theorem rightDo_any (b n : Int) (xb : Nat) (w : World) (hx : w.cell? ⟨xb, 0, none⟩ = some (.int .i64 n)) :
    Calls Tryz.prog 97 #[.int .i64 b, .pointer (some ⟨xb, 0, none⟩)] w fun e w' => e = .returned (.bool (outB n b)) ∧ w = w' := by
  by_cases h : b < 2
  · have e : decide (b < 2) = true := by simpa using h
    go_enter Tryz.func97, Tryz.ntmps97
    go_wp2
    go_ret
    exact ⟨ret_bool (by simp [outB, h]), rfl⟩
  · have e : decide (b < 2) = false := by simpa using h
    go_enter Tryz.func97, Tryz.ntmps97
    go_wp2
    go_ret
    exact ⟨ret_bool (by simp [outB]; omega), rfl⟩

set_option maxHeartbeats 800000 in
theorem indexRight_any (v : Value) (xs : List Int) (n : Int) (xb : Nat) (w : World) (hb : Ints w v xs) (hm : xs.length ≤ 9223372036854775807) (hx : w.cell? ⟨xb, 0, none⟩ = some (.int .i64 n)) :
    Calls Tryz.prog 58 #[v, .func (.func 97) #[] #[.pointer (some ⟨xb, 0, none⟩)]] w fun e w' => ∃ r : Int, e = .returned (.int .i64 r) ∧ w = w' ∧ ((0 ≤ r ∧ xs.any (outB n) = true) ∨ (r < 0 ∧ xs.any (outB n) = false)) := by
  obtain ⟨ao, cap, b, off, rfl, hc⟩ := hb.form
  have HC := Lib.hid hc
  clear hc hb
  go_enter Tryz.func58, Tryz.ntmps58
  go_wp2
  go_loopw [8] (fun i wr => ∃ k : Nat, k ≤ xs.length ∧ i = .int .i64 k ∧ (∀ j, j < k → outB n (xs.getD j 0) = false) ∧ w = wr) (fun i _ => xs.length - (intOf i).toNat)
  case atStart => exact ⟨0, by omega, rfl, fun j hj => by omega, rfl⟩
  case round =>
    obtain ⟨k, hk, rfl, hnot, rfl⟩ := hrel
    have NOT := Lib.hid hnot
    clear hnot
    by_cases hlt : k < xs.length
    · obtain ⟨rfl, hcell⟩ := HC.out k hlt
      obtain ⟨x, hx'⟩ : ∃ x, xs.getD k 0 = x := ⟨_, rfl⟩
      rw [hx'] at hcell
      have HX := Lib.hid hx'
      have D := rightDo_any x n xb w hx
      obtain ⟨p, hp⟩ : ∃ p, outB n x = p := ⟨_, rfl⟩
      rw [hp] at D
      have HP := Lib.hid hp
      clear hx' hp
      cases p
      · go_wp2_with (go_at_call 97; refine D.mono ?_; rintro e w' ⟨rfl, rfl⟩)
        go_roundw
        case rel =>
          refine ⟨k + 1, by omega, by go_num, fun j hj => ?_, trivial⟩
          by_cases e : j = k
          · subst e; rw [HX.out]; exact HP.out
          · exact NOT.out j (by omega)
        case measure => simp [intOf]; omega
      · go_wp2_with (go_at_call 97; refine D.mono ?_; rintro e w' ⟨rfl, rfl⟩)
        go_ret
        refine ⟨_, rfl, rfl, .inl ⟨by omega, ?_⟩⟩
        have h1 := HX.out
        rw [List.getD_eq_getElem?_getD, List.getElem?_eq_getElem hlt] at h1
        simp only [Option.getD_some] at h1
        exact List.any_eq_true.2 ⟨x, by rw [← h1]; exact List.getElem_mem hlt, HP.out⟩
    · obtain rfl : k = xs.length := by omega
      go_wp2
      go_ret
      refine ⟨_, rfl, rfl, .inr ⟨by omega, ?_⟩⟩
      rw [List.any_eq_false]
      intro y hmem
      obtain ⟨j, hj, hjn⟩ := List.mem_iff_getElem.1 hmem
      have h1 := NOT.out j hj
      rw [List.getD_eq_getElem?_getD, List.getElem?_eq_getElem hj] at h1
      simp only [Option.getD_some] at h1
      rw [← hjn, h1]
      simp

theorem containsRight_any (v : Value) (xs : List Int) (n : Int) (xb : Nat) (w : World) (hb : Ints w v xs) (hm : xs.length ≤ 9223372036854775807) (hx : w.cell? ⟨xb, 0, none⟩ = some (.int .i64 n)) :
    Calls Tryz.prog 36 #[v, .func (.func 97) #[] #[.pointer (some ⟨xb, 0, none⟩)]] w fun e w' => e = .returned (.bool (xs.any (outB n))) ∧ w = w' := by
  have I := indexRight_any v xs n xb w hb hm hx
  obtain ⟨ao, cap, b, off, rfl, hc⟩ := hb.form
  clear hc hb
  go_enter Tryz.func36, Tryz.ntmps36
  go_wp2_with (go_at_call 58; refine I.mono ?_; rintro e w' ⟨r, rfl, rfl, hr⟩; have HR := Lib.hid hr; clear hr)
  go_ret
  rcases HR.out with ⟨h1, h2⟩ | ⟨h1, h2⟩
  · exact ⟨ret_bool (by rw [h2]; simp; omega), rfl⟩
  · exact ⟨ret_bool (by rw [h2]; simp; omega), rfl⟩

/-- May an entry be? -/
def rightT (x : Ten) (newest blocks pages : Int) : Bool :=
  if x.th = true then decide (totS x.sz x.sp pages ≠ 0) && inB x.ep 1 newest && decide (totS x.sz x.sp pages ≤ x.bs.length) && decide ((x.bs.length : Int) + 2 ≤ blocks) && !x.bs.any (outB blocks)
  else tenB x noTen

set_option maxHeartbeats 1600000 in
theorem isRight_any (x : Ten) (v : Value) (m n p : Int) (w : World) (hI : Ints w v x.bs) (hm : x.bs.length ≤ 1048576) :
    Calls Tryz.prog 71 #[.agg (tenC x v), .int .i64 m, .int .i64 n, .int .i64 p] w fun e w' => e = .returned (.bool (rightT x m n p)) ∧ Ext w w' := by
  have hb0 := (Blk.new w 33 (tenC x v)).alloc (.cells #[.int .i64 n] 3)
  have hx := (Blk.newAt (w.alloc (.cells (tenC x v) 33)) (w.heap.size + 1) (by simp) 3 #[.int .i64 n]).cell 0
  have hE := grown_alloc (World.grownBy_alloc w (.cells (tenC x v) 33) none) (.cells #[.int .i64 n] 3)
  have hI1 := hI.kept hE (by simp)
  have A := alike_any x noTen v nilS _ hI1 (.inl ⟨rfl, rfl⟩) (by omega)
  have T := ruleTotal_all x.sz x.sp p
  have W := within10_any x.ep 1 m
  have F := containsRight_any v x.bs n (w.heap.size + 1) _ hI1 (by omega) hx
  obtain ⟨av, cv, _, _, hv, _⟩ := hI.form
  have HE := Lib.hid hE
  have htb := totS_bd x.sz x.sp p
  clear hE hI hI1
  obtain ⟨xt, xe, xs, xp, xb⟩ := x
  have x0 := (hb0.cell 0).trans (ten_th _ _)
  have x1 := (hb0.cell 1).trans (ten_ep _ _)
  have x2 := (hb0.cell 2).trans (ten_sz _ _)
  have x3 := (hb0.cell 3).trans (ten_sp _ _)
  have x4 := (hb0.cell 4).trans (ten_bs _ _)
  simp only [] at x0 x1 x2 x3 x4 A T W F hv hm htb
  obtain ⟨w1, hw1⟩ : ∃ v', (w.alloc (.cells (tenC ⟨xt, xe, xs, xp, xb⟩ v) 33)).alloc (.cells #[.int .i64 n] 3) = v' := ⟨_, rfl⟩
  rw [hw1] at x0 x1 x2 x3 x4 A F HE hx hb0
  rw [hv] at x4 hw1 A F hb0 ⊢
  clear hv
  unfold rightT
  simp only []
  obtain ⟨t, ht⟩ : ∃ t, totS xs xp p = t := ⟨_, rfl⟩
  obtain ⟨q, hq⟩ : ∃ q, inB xe 1 m = q := ⟨_, rfl⟩
  obtain ⟨f, hf⟩ : ∃ f, xb.any (outB n) = f := ⟨_, rfl⟩
  obtain ⟨a, ha⟩ : ∃ a, tenB ⟨xt, xe, xs, xp, xb⟩ noTen = a := ⟨_, rfl⟩
  obtain ⟨k, hk⟩ : ∃ k, xb.length = k := ⟨_, rfl⟩
  rw [ht] at T htb ⊢
  rw [hq] at W ⊢
  rw [hf] at F ⊢
  rw [ha] at A ⊢
  rw [hk] at hm x4 hw1 A F hb0 ⊢
  clear ht hq hf ha hk
  cases xt
  · simp only [Bool.false_eq_true, if_false]
    go_enter Tryz.func71, Tryz.ntmps71
    go_wp2_with (first
      | (refine ten_load _ rfl rfl hb0 rfl ?_)
      | (go_at_call 95; refine A.mono ?_; rintro e w' ⟨rfl, hE2⟩; have HE2 := Lib.hid hE2; clear hE2))
    go_ret
    exact ⟨rfl, ext_trans HE.out HE2.out⟩
  · simp only [if_true]
    obtain ⟨tb0, tb1⟩ := htb
    by_cases h0 : t = 0
    · subst h0
      go_enter Tryz.func71, Tryz.ntmps71
      go_wp2_with (go_at_call 96; refine (T _).mono ?_; rintro e w' ⟨rfl, rfl⟩)
      go_ret
      exact ⟨ret_bool (by simp), HE.out⟩
    · have e0 : (t == 0) = false := by simpa using h0
      have H0 := Lib.hid h0
      clear h0
      cases q
      · go_enter Tryz.func71, Tryz.ntmps71
        go_wp2_with (first
          | (go_at_call 96; refine (T _).mono ?_; rintro e w' ⟨rfl, rfl⟩)
          | (go_at_call 69; refine (W _).mono ?_; rintro e w' ⟨rfl, rfl⟩))
        go_ret
        exact ⟨ret_bool (by simp), HE.out⟩
      · by_cases h1 : (k : Int) < t
        · have e1 : decide ((k : Int) < t) = true := by simpa using h1
          go_enter Tryz.func71, Tryz.ntmps71
          go_wp2_with (first
            | (go_at_call 96; refine (T _).mono ?_; rintro e w' ⟨rfl, rfl⟩)
            | (go_at_call 69; refine (W _).mono ?_; rintro e w' ⟨rfl, rfl⟩))
          go_ret
          exact ⟨ret_bool (by simp; omega), HE.out⟩
        · have e1 : decide ((k : Int) < t) = false := by simpa using h1
          by_cases h2 : n < (k : Int) + 2
          · have e2 : decide (n < (k : Int) + 2) = true := by simpa using h2
            go_enter Tryz.func71, Tryz.ntmps71
            go_wp2_with (first
              | (go_at_call 96; refine (T _).mono ?_; rintro e w' ⟨rfl, rfl⟩)
              | (go_at_call 69; refine (W _).mono ?_; rintro e w' ⟨rfl, rfl⟩))
            go_ret
            exact ⟨ret_bool (by simp; omega), HE.out⟩
          · have e2 : decide (n < (k : Int) + 2) = false := by simpa using h2
            have h2' : ¬ n < (k : Int) + 2 := h2
            have HF := Lib.hid (And.intro h1 h2)
            go_enter Tryz.func71, Tryz.ntmps71
            go_wp2_with (first
              | (go_at_call 96; refine (T _).mono ?_; rintro e w' ⟨rfl, rfl⟩)
              | (go_at_call 69; refine (W _).mono ?_; rintro e w' ⟨rfl, rfl⟩)
              | (go_at_call 36; refine F.mono ?_; rintro e w' ⟨rfl, rfl⟩))
            go_ret
            refine ⟨ret_bool ?_, HE.out⟩
            have g1 : t ≤ (k : Int) := by have := HF.out.1; omega
            have g2 : (k : Int) + 2 ≤ n := by have := HF.out.2; omega
            simp [H0.out, g1, g2]

end Go.Proofs.YteionppcjgggiaaGreat

/-
  Package ledger: Check.
-/
namespace Go.Proofs.YteionppcjgggiaaGreat
set_option linter.unusedVariables false
set_option linter.unusedSimpArgs false
set_option maxRecDepth 100000
open Go.RowKit Go.Maps

theorem checkDo_any (x : Ten) (v : Value) (b nb pb : Nat) (L : Led) (V : Nat → Value) (n p : Int) (w : World) (hI : Ints w v x.bs) (hm : x.bs.length ≤ 1048576) (hb : Blk w b 36 (ledC L V)) (hn : w.cell? ⟨nb, 0, none⟩ = some (.int .i64 n)) (hp : w.cell? ⟨pb, 0, none⟩ = some (.int .i64 p)) :
    Calls Tryz.prog 70 #[.agg (tenC x v), .pointer (some ⟨b, 0, none⟩), .pointer (some ⟨nb, 0, none⟩), .pointer (some ⟨pb, 0, none⟩)] w fun e w' => e = .returned (.bool (!rightT x L.eps n p)) ∧ Ext w w' := by
  have hE := World.grownBy_alloc w (.cells (tenC x v) 33) none
  have hbt := Blk.new w 33 (tenC x v)
  have ce := ((hb.ext hE).cell 1).trans (led_eps L V)
  have cn := hE.cell hn (by simp)
  have cp := hE.cell hp (by simp)
  have R := isRight_any x v L.eps n p _ (hI.kept hE (by simp)) hm
  have HE := Lib.hid hE
  clear hE hb hn hp hI
  go_enter Tryz.func70, Tryz.ntmps70
  go_wp2_with (first
    | (refine ten_load _ rfl rfl hbt rfl ?_)
    | (go_at_call 71; refine R.mono ?_; rintro e w' ⟨rfl, hE2⟩; have HE2 := Lib.hid hE2; clear hE2))
  go_ret
  exact ⟨rfl, ext_trans HE.out HE2.out⟩

def wrongP (L : Led) (n p : Int) (j : Nat) : Bool := !rightT (L.t j) L.eps n p

set_option maxHeartbeats 800000 in
theorem indexCheck_any (L : Led) (V : Nat → Value) (b nb pb : Nat) (n p : Int) (w : World) (hb : Blk w b 36 (ledC L V)) (hL : LedIs w L V) (hm : ∀ j, j < 4 → (L.t j).bs.length ≤ 1048576) (hn : w.cell? ⟨nb, 0, none⟩ = some (.int .i64 n)) (hp : w.cell? ⟨pb, 0, none⟩ = some (.int .i64 p)) :
    Calls Tryz.prog 98 #[.slice (some ⟨b, 2, none⟩) 4 4, .func (.func 70) #[] #[.pointer (some ⟨b, 0, none⟩), .pointer (some ⟨nb, 0, none⟩), .pointer (some ⟨pb, 0, none⟩)]] w fun e w' => e = .returned (.int .i64 (firstB (wrongP L n p))) ∧ Ext w w' := by
  have HB := Lib.hid hb
  have HL := Lib.hid hL
  have HX := Lib.hid (And.intro hn hp)
  clear hb hL hn hp
  go_enter Tryz.func98, Tryz.ntmps98
  go_wp2
  go_loopw [8] (fun i wr => ∃ k : Nat, k ≤ 4 ∧ i = .int .i64 k ∧ (∀ j, j < k → wrongP L n p j = false) ∧ Ext w wr) (fun i _ => 4 - (intOf i).toNat)
  case atStart => exact ⟨0, by omega, rfl, fun j hj => by omega, Ext.refl w⟩
  case round =>
    obtain ⟨k, hk, rfl, hnot, hE⟩ := hrel
    have NOT := Lib.hid hnot
    clear hnot
    by_cases hlt : k < 4
    · have hb1 := HB.out.ext hE
      have D := checkDo_any (L.t k) (V k) b nb pb L V n p wr ((HL.out k hlt).kept hE (by simp)) (hm k hlt) hb1 (hE.cell HX.out.1 (by simp)) (hE.cell HX.out.2 (by simp))
      obtain ⟨q, hq⟩ : ∃ q, (!rightT (L.t k) L.eps n p) = q := ⟨_, rfl⟩
      rw [hq] at D
      have HP := Lib.hid (show wrongP L n p k = q from hq)
      have HE := Lib.hid hE
      clear hq hE hm
      cases q
      · go_wp2_with (first
          | (refine ten_load_in _ rfl hlt rfl hb1 rfl ?_)
          | (go_at_call 70; refine D.mono ?_; rintro e w2 ⟨rfl, hE2⟩; have HE2 := Lib.hid (ext_trans HE.out hE2); clear hE2))
        go_roundw
        case rel =>
          refine ⟨k + 1, by omega, by go_num, fun j hj => ?_, HE2.out⟩
          by_cases e : j = k
          · subst e; exact HP.out
          · exact NOT.out j (by omega)
        case measure => simp [intOf]; omega
      · have HO := Lib.hid (firstB_at (p := wrongP L n p) hlt HP.out NOT.out)
        go_wp2_with (first
          | (refine ten_load_in _ rfl hlt rfl hb1 rfl ?_)
          | (go_at_call 70; refine D.mono ?_; rintro e w2 ⟨rfl, hE2⟩; have HE2 := Lib.hid (ext_trans HE.out hE2); clear hE2))
        go_ret
        exact ⟨ret_int (by rw [HO.out]), HE2.out⟩
    · obtain rfl : k = 4 := by omega
      have HO := Lib.hid (firstB_no (p := wrongP L n p) NOT.out)
      go_wp2
      go_ret
      exact ⟨ret_int (by rw [HO.out]), hE⟩

def someB (p : Nat → Bool) : Bool := p 0 || p 1 || p 2 || p 3
theorem firstB_some (p : Nat → Bool) : decide (0 ≤ firstB p) = someB p := by
  unfold firstB someB
  cases p 0 <;> cases p 1 <;> cases p 2 <;> cases p 3 <;> simp

theorem containsCheck_any (L : Led) (V : Nat → Value) (b nb pb : Nat) (n p : Int) (w : World) (hb : Blk w b 36 (ledC L V)) (hL : LedIs w L V) (hm : ∀ j, j < 4 → (L.t j).bs.length ≤ 1048576) (hn : w.cell? ⟨nb, 0, none⟩ = some (.int .i64 n)) (hp : w.cell? ⟨pb, 0, none⟩ = some (.int .i64 p)) :
    Calls Tryz.prog 72 #[.slice (some ⟨b, 2, none⟩) 4 4, .func (.func 70) #[] #[.pointer (some ⟨b, 0, none⟩), .pointer (some ⟨nb, 0, none⟩), .pointer (some ⟨pb, 0, none⟩)]] w fun e w' => e = .returned (.bool (someB (wrongP L n p))) ∧ Ext w w' := by
  have I := indexCheck_any L V b nb pb n p w hb hL hm hn hp
  have HS := Lib.hid (firstB_some (wrongP L n p))
  obtain ⟨r, hr⟩ : ∃ r, firstB (wrongP L n p) = r := ⟨_, rfl⟩
  rw [hr] at I HS
  clear hb hL hm hn hp hr
  go_enter Tryz.func72, Tryz.ntmps72
  go_wp2_with (go_at_call 98; refine I.mono ?_; rintro e w' ⟨rfl, hE2⟩; have HE2 := Lib.hid hE2; clear hE2)
  go_ret
  exact ⟨ret_bool HS.out, HE2.out⟩

def epochsTo (L : Led) : Nat → List Int
  | 0 => []
  | k + 1 => if (L.t k).th = true then epochsTo L k ++ [(L.t k).ep] else epochsTo L k
def epochsL (L : Led) : List Int := epochsTo L 4
theorem epochsTo_len (L : Led) : ∀ k, (epochsTo L k).length ≤ k
  | 0 => by simp [epochsTo]
  | k + 1 => by
    have := epochsTo_len L k
    unfold epochsTo
    split
    · simp; omega
    · omega
theorem epochsTo_wf {L : Led} (h : ∀ j, j < 4 → (Lit.int .i64 (L.t j).ep).wf = true) : ∀ k, k ≤ 4 → WfL (epochsTo L k)
  | 0, _ => fun n hn => by simp [epochsTo] at hn
  | k + 1, hk => fun n hn => by
    unfold epochsTo at hn
    split at hn
    · rcases List.mem_append.1 hn with hn | hn
      · exact epochsTo_wf h k (by omega) n hn
      · simp at hn; subst hn; exact h k (by omega)
    · exact epochsTo_wf h k (by omega) n hn

set_option maxHeartbeats 1600000 in
theorem epochs10_any (L : Led) (V : Nat → Value) (w : World) (hL : LedIs w L V) :
    Calls Tryz.prog 74 #[.agg (ledC L V)] w fun e w' => ∃ v, e = .returned v ∧ OwnI w.heap.size w' v (epochsL L) ∧ Ext w w' := by
  have hb := Blk.new w 36 (ledC L V)
  have hE0 := World.grownBy_alloc w (.cells (ledC L V) 36) none
  obtain ⟨w1, hw1⟩ : ∃ v, w.alloc (.cells (ledC L V) 36) = v := ⟨_, rfl⟩
  rw [hw1] at hb hE0
  have HL := Lib.hid (hL.slices)
  have HE0 := Lib.hid hE0
  clear hL hE0
  go_enter Tryz.func74, Tryz.ntmps74
  go_wp2_with (refine tens_load _ rfl rfl hb rfl ?_)
  clear hw1 hb
  go_loopw [3, 8] (fun x i wr => ∃ (k : Nat) (v : Value), k ≤ 4 ∧ v = x ∧ i = .int .i64 k ∧ OwnI w1.heap.size wr v (epochsTo L k) ∧ Ext w1 wr) (fun _ i _ => 4 - (intOf i).toNat)
  case atStart => exact ⟨0, _, by omega, rfl, rfl, World.ownsRow_nil w1 _ _ _, Ext.refl w1⟩
  case round =>
    obtain ⟨k, v, hk, hvx, rfl, hO, hE1⟩ := hrel
    subst hvx
    have HO := Lib.hid hO
    have HE1 := Lib.hid hE1
    clear hO hE1
    by_cases hlt : k < 4
    · have hix := tens_at L V hlt
      have hS := HL.out k hlt
      have hBn := Blk.new wr 33 zeroTC
      have HLEN := Lib.hid (epochsTo_len L k)
      obtain ⟨ep, hep⟩ : ∃ n, (L.t k).ep = n := ⟨_, rfl⟩
      have HEP := Lib.hid hep
      obtain ⟨th, hth⟩ : ∃ b, (L.t k).th = b := ⟨_, rfl⟩
      have HTH := Lib.hid hth
      clear hep hth
      cases th
      · go_wp2_with (refine ten_store _ _ rfl rfl rfl hBn rfl hS rfl ?_; intro w6 hb6 hg6 hs6; clear hBn hs6; have c0 := (hb6.cell 0).trans (ten_th _ _); rw [HTH.out] at c0; have HG6 := Lib.hid (grown_trans (World.grownBy_alloc wr (.cells zeroTC 33) none) hg6 (fun p hp hlt => by injection hp with hp; omega)); clear hg6 hb6)
        go_roundw
        case rel => exact ⟨k + 1, _, by omega, rfl, by go_num, by unfold epochsTo; rw [HTH.out]; exact own_kept HO.out HG6.out (by simp), ext_trans HE1.out HG6.out⟩
        case measure => simp [intOf]; omega
      · go_wp2_with (first
          | (refine ten_store _ _ rfl rfl rfl hBn rfl hS rfl ?_; intro w6 hb6 hg6 hs6; clear hBn hs6; have c0 := (hb6.cell 0).trans (ten_th _ _); rw [HTH.out] at c0; have c1 := (hb6.cell 1).trans (ten_ep _ _); rw [HEP.out] at c1; have HG6 := Lib.hid (grown_trans (World.grownBy_alloc wr (.cells zeroTC 33) none) hg6 (fun p hp hlt => by injection hp with hp; omega)); clear hg6 hb6)
          | (at_builtin; go_loud (refine append_ints rfl _ _ rfl w1.heap.size v (epochsTo L k) rfl (own_kept HO.out (ext_trans HG6.out (World.grownBy_alloc w6 (.cells #[.int .i64 ep] 3) none)) (by simp)) (.slice (some ⟨w6.heap.size, 0, none⟩) 1 1) [ep] rfl (ints_one w6 ep 3) ?_ ?_ ?_); (have hq := HLEN.out; simp only [List.length_cons, List.length_nil]; omega); (have hq := HE1.out.size; have hq2 := HG6.out.size; simp; omega); intro v7 w7 ho7 hg7 _; have HO7 := Lib.hid ho7; have HE7 := Lib.hid (ext_own (ext_trans HE1.out (ext_trans HG6.out (World.grownBy_alloc w6 (.cells #[.int .i64 ep] 3) none))) (own_kept HO.out (ext_trans HG6.out (World.grownBy_alloc w6 (.cells #[.int .i64 ep] 3) none)) (by simp)) (Nat.le_refl _) hg7); clear ho7 hg7))
        go_roundw
        case rel => exact ⟨k + 1, _, by omega, rfl, by go_num, by unfold epochsTo; rw [HTH.out, HEP.out]; exact HO7.out, HE7.out⟩
        case measure => simp [intOf]; omega
    · obtain rfl : k = 4 := by omega
      go_wp2
      go_ret
      exact ⟨_, rfl, ownsRow_le HO.out HE0.out.size, ext_trans HE0.out HE1.out⟩

/-- Does a number stand twice? -/
def repB (xs : List Int) : Bool := decide (((xs.map (Lit.int .i64)).foldl addKey []).length < xs.length)

set_option maxHeartbeats 800000 in
theorem repeats10_any (v : Value) (xs : List Int) (w : World) (hI : Ints w v xs) (hm : xs.length ≤ 16777216) (hwf : WfL xs) :
    Calls Tryz.prog 73 #[v] w fun e w' => e = .returned (.bool (repB xs)) ∧ Ext w w' := by
  have S := set10_any v xs w hI hm hwf
  have HS := Lib.hid (size_setOf (H := Unit) (.agg []) (xs.map (Lit.int .i64)) (fun y hy => by obtain ⟨n, _, rfl⟩ := List.mem_map.1 hy; trivial))
  obtain ⟨ao, cp, _, _, rfl, _⟩ := hI.form
  obtain ⟨z, hz⟩ : ∃ z, ((xs.map (Lit.int .i64)).foldl addKey []).length = z := ⟨_, rfl⟩
  rw [hz] at HS
  have HZ := Lib.hid hz
  clear hI hwf hz
  go_enter Tryz.func73, Tryz.ntmps73
  go_wp2_with (first
    | (go_at_call 99; refine S.mono ?_; rintro e w2 ⟨mb, rfl, hM, _, hE⟩; have HE := Lib.hid hE; have hlen := hM.len (t := 146) Tryz.underlying146 3; rw [show Maps.size (setD xs) = z from HS.out] at hlen; clear hE hM))
  go_ret
  exact ⟨ret_bool (by unfold repB; rw [HZ.out]), HE.out⟩

/-- May a ledger be? -/
def rightL (L : Led) (n p : Int) : Bool := inB L.gen 0 2147483647 && inB L.eps 0 2147483647 && !someB (wrongP L n p) && !repB (epochsL L) && !repB (takenL L)

structure GoodL (L : Led) : Prop where
  len : ∀ j, j < 4 → (L.t j).bs.length ≤ 1048576
  wf : ∀ j, j < 4 → WfL (L.t j).bs
  wfe : ∀ j, j < 4 → (Lit.int .i64 (L.t j).ep).wf = true

set_option maxHeartbeats 3200000 in
theorem check10_any (L : Led) (V : Nat → Value) (n p : Int) (w : World) (hL : LedIs w L V) (hG : GoodL L) :
    Calls Tryz.prog 50 #[.agg (ledC L V), .int .i64 n, .int .i64 p] w fun e w' => e = .returned (.int .i64 (if rightL L n p = true then 0 else 2)) ∧ Ext w w' := by
  have hb := ((Blk.new w 36 (ledC L V)).alloc (.cells #[.int .i64 n] 3)).alloc (.cells #[.int .i64 p] 3)
  have hn := ((Blk.newAt (w.alloc (.cells (ledC L V) 36)) (w.heap.size + 1) (by simp) 3 #[.int .i64 n]).alloc (.cells #[.int .i64 p] 3)).cell 0
  have hp := (Blk.newAt ((w.alloc (.cells (ledC L V) 36)).alloc (.cells #[.int .i64 n] 3)) (w.heap.size + 2) (by simp) 3 #[.int .i64 p]).cell 0
  have hE := grown_alloc (grown_alloc (World.grownBy_alloc w (.cells (ledC L V) 36) none) (.cells #[.int .i64 n] 3)) (.cells #[.int .i64 p] 3)
  obtain ⟨w1, hw1⟩ : ∃ v, ((w.alloc (.cells (ledC L V) 36)).alloc (.cells #[.int .i64 n] 3)).alloc (.cells #[.int .i64 p] 3) = v := ⟨_, rfl⟩
  rw [hw1] at hb hn hp hE
  have hL1 := hL.ext hE
  have C := containsCheck_any L V w.heap.size (w.heap.size + 1) (w.heap.size + 2) n p w1 hb hL1 hG.len hn hp
  have EP := fun w2 (h : Ext w1 w2) => epochs10_any L V w2 (hL1.ext h)
  have TK := fun w2 (h : Ext w1 w2) => taken10_any L V w2 (hL1.ext h) hG.len
  have RE := fun v w2 (h : Ints w2 v (epochsL L)) => repeats10_any v (epochsL L) w2 h (by have := epochsTo_len L 4; show (epochsTo L 4).length ≤ _; omega) (epochsTo_wf hG.wfe 4 (by omega))
  have RT := fun v w2 (h : Ints w2 v (takenL L)) => repeats10_any v (takenL L) w2 h (by have := takenTo_len hG.len 4 (by omega); show (takenTo L 4).length ≤ _; omega) (takenTo_wf hG.wf 4 (by omega))
  have cg := (hb.cell 0).trans (led_gen L V)
  have ce := (hb.cell 1).trans (led_eps L V)
  have HE := Lib.hid hE
  have HB := Lib.hid hb
  clear hL hL1 hE hn hp hG
  unfold rightL
  obtain ⟨g, hg⟩ : ∃ g, inB L.gen 0 2147483647 = g := ⟨_, rfl⟩
  obtain ⟨e, he⟩ : ∃ e, inB L.eps 0 2147483647 = e := ⟨_, rfl⟩
  obtain ⟨q, hq⟩ : ∃ q, someB (wrongP L n p) = q := ⟨_, rfl⟩
  obtain ⟨r, hr⟩ : ∃ r, repB (epochsL L) = r := ⟨_, rfl⟩
  obtain ⟨s, hs⟩ : ∃ s, repB (takenL L) = s := ⟨_, rfl⟩
  have HGQ := Lib.hid hg
  have HEQ := Lib.hid he
  rw [hg, he]
  rw [hq] at C ⊢
  rw [hr] at RE ⊢
  rw [hs] at RT ⊢
  clear hg he hq hr hs
  cases g
  · go_enter Tryz.func50, Tryz.ntmps50
    go_wp2_with (go_at_call 69; refine (within10_any _ _ _ _).mono ?_; rintro e w' ⟨rfl, rfl⟩; first | rw [HGQ.out] | rw [HEQ.out])
    go_ret
    exact ⟨ret_int (by simp), HE.out⟩
  · cases e
    · go_enter Tryz.func50, Tryz.ntmps50
      go_wp2_with (first
        | (go_at_call 69; refine (within10_any _ _ _ _).mono ?_; rintro e w' ⟨rfl, rfl⟩; first | rw [HGQ.out] | rw [HEQ.out]))
      go_ret
      exact ⟨ret_int (by simp), HE.out⟩
    · cases q
      · cases r
        · cases s
          all_goals
            go_enter Tryz.func50, Tryz.ntmps50
            go_wp2_with (first
              | (go_at_call 69; refine (within10_any _ _ _ _).mono ?_; rintro e w' ⟨rfl, rfl⟩; first | rw [HGQ.out] | rw [HEQ.out])
              | (go_at_call 72; refine C.mono ?_; rintro e w2 ⟨rfl, hE2⟩; have HE2 := Lib.hid hE2; have hb2 := hb.ext hE2; clear hE2)
              | (refine led_load _ rfl rfl hb2 rfl ?_)
              | (go_at_call 74; refine (EP _ HE2.out).mono ?_; rintro e w3 ⟨v3, rfl, ho3, hE3⟩; have HE3 := Lib.hid (ext_trans HE2.out hE3); have HI3 := Lib.hid (owns_ints rfl ho3); clear ho3 hE3)
              | (go_at_call 73; have hq5 := HI5; (with_reducible refine (RT _ _ HI5.out).mono ?_); rintro e w6 ⟨rfl, hE6⟩; have HE6 := Lib.hid (ext_trans HE5.out hE6); clear hE6)
              | (go_at_call 73; (with_reducible refine (RE _ _ HI3.out).mono ?_); rintro e w4 ⟨rfl, hE4⟩; have HE4 := Lib.hid (ext_trans HE3.out hE4); have hb4 := hb.ext (ext_trans HE3.out hE4); clear hE4)
              | (refine led_load _ rfl rfl hb4 rfl ?_)
              | (go_at_call 75; refine (TK _ HE4.out).mono ?_; rintro e w5 ⟨v5, rfl, ho5, hE5⟩; have HE5 := Lib.hid (ext_trans HE4.out hE5); have HI5 := Lib.hid (owns_ints rfl ho5); clear ho5 hE5))
            go_ret
            exact ⟨ret_int (by simp), ext_trans HE.out HE6.out⟩
        · go_enter Tryz.func50, Tryz.ntmps50
          go_wp2_with (first
            | (go_at_call 69; refine (within10_any _ _ _ _).mono ?_; rintro e w' ⟨rfl, rfl⟩; first | rw [HGQ.out] | rw [HEQ.out])
            | (go_at_call 72; refine C.mono ?_; rintro e w2 ⟨rfl, hE2⟩; have HE2 := Lib.hid hE2; have hb2 := hb.ext hE2; clear hE2)
            | (refine led_load _ rfl rfl hb2 rfl ?_)
            | (go_at_call 74; refine (EP _ HE2.out).mono ?_; rintro e w3 ⟨v3, rfl, ho3, hE3⟩; have HE3 := Lib.hid (ext_trans HE2.out hE3); have HI3 := Lib.hid (owns_ints rfl ho3); clear ho3 hE3)
            | (go_at_call 73; (with_reducible refine (RE _ _ HI3.out).mono ?_); rintro e w4 ⟨rfl, hE4⟩; have HE4 := Lib.hid (ext_trans HE3.out hE4); clear hE4))
          go_ret
          exact ⟨ret_int (by simp), ext_trans HE.out HE4.out⟩
      · go_enter Tryz.func50, Tryz.ntmps50
        go_wp2_with (first
          | (go_at_call 69; refine (within10_any _ _ _ _).mono ?_; rintro e w' ⟨rfl, rfl⟩; first | rw [HGQ.out] | rw [HEQ.out])
          | (go_at_call 72; refine C.mono ?_; rintro e w2 ⟨rfl, hE2⟩; have HE2 := Lib.hid hE2; clear hE2))
        go_ret
        exact ⟨ret_int (by simp), ext_trans HE.out HE2.out⟩

end Go.Proofs.YteionppcjgggiaaGreat
