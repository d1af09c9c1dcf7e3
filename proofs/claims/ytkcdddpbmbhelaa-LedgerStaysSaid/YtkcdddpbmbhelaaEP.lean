/-
  Package ledger: taken, set, Free.
-/
import Derived.Test.YtkcdddpbmbhelaaEO
import Derived.Maps.OwnSet
import Derived.Maps.OwnOps
namespace Go.Proofs.Ytkcdddpbmbhelaa
open Go.RowKit Go.Maps

def takenTo (L : Led) : Nat → List Int
  | 0 => []
  | k + 1 => takenTo L k ++ (L.t k).bs
def takenL (L : Led) : List Int := takenTo L 4
theorem takenTo_len {L : Led} (hm : ∀ j, j < 4 → (L.t j).bs.length ≤ 1048576) : ∀ k, k ≤ 4 → (takenTo L k).length ≤ k * 1048576
  | 0, _ => by simp [takenTo]
  | k + 1, h => by
    have h1 := takenTo_len hm k (by omega)
    have h2 := hm k (by omega)
    simp only [takenTo, List.length_append]
    omega
def WfL (xs : List Int) : Prop := ∀ n ∈ xs, (Lit.int .i64 n).wf = true
theorem takenTo_wf {L : Led} (h : ∀ j, j < 4 → WfL (L.t j).bs) : ∀ k, k ≤ 4 → WfL (takenTo L k)
  | 0, _ => fun n hn => by simp [takenTo] at hn
  | k + 1, hk => fun n hn => by
    simp only [takenTo, List.mem_append] at hn
    rcases hn with hn | hn
    · exact takenTo_wf h k (by omega) n hn
    · exact h k (by omega) n hn

set_option maxHeartbeats 800000 in
theorem taken10_any (L : Led) (V : Nat → Value) (w : World) (hL : LedIs w L V) (hm : ∀ j, j < 4 → (L.t j).bs.length ≤ 1048576) :
    Calls Try.prog 17 #[.agg (ledC L V)] w fun e w' => ∃ v, e = .returned v ∧ OwnI w.heap.size w' v (takenL L) ∧ Ext w w' := by
  have hb := Blk.new w 27 (ledC L V)
  have hE0 := World.grownBy_alloc w (.cells (ledC L V) 27) none
  obtain ⟨w1, hw1⟩ : ∃ v, w.alloc (.cells (ledC L V) 27) = v := ⟨_, rfl⟩
  rw [hw1] at hb hE0
  have HL := Lib.hid (hL.ext hE0)
  have HE0 := Lib.hid hE0
  clear hL hE0
  go_enter Try.func17, Try.ntmps17
  go_wp2_with (refine tens_load _ rfl rfl hb rfl ?_)
  clear hw1 hb
  go_loopw [3, 8] (fun x i wr => ∃ (k : Nat) (v : Value), k ≤ 4 ∧ v = x ∧ i = .int .i64 k ∧ OwnI w1.heap.size wr v (takenTo L k) ∧ Ext w1 wr) (fun _ i _ => 4 - (intOf i).toNat)
  case atStart => exact ⟨0, _, by omega, rfl, rfl, World.ownsRow_nil w1 _ _ _, Ext.refl w1⟩
  case round =>
    obtain ⟨k, v, hk, hvx, rfl, hO, hE1⟩ := hrel
    subst hvx
    have HO := Lib.hid hO
    have HE1 := Lib.hid hE1
    by_cases hlt : k < 4
    · have hix := tens_at L V hlt
      have hI := (HL.out k hlt).kept hE1 (by simp)
      have hS := hI.slice
      obtain ⟨ao, cp, _, _, hv, _⟩ := hI.form
      have HV := Lib.hid hv
      have HI := Lib.hid hI
      have hBn := Blk.new wr 24 zeroTC
      have HT := Lib.hid (And.intro (takenTo_len hm k hk) (hm k hlt))
      clear hI hv hE1 hO hm
      go_wp2_with (first
        | (refine ten_store _ _ rfl rfl rfl hBn rfl hS rfl ?_; intro w6 hb6 hg6 hs6; clear hBn hs6; have c4 := (hb6.cell 4).trans (ten_bs _ _); rw [HV.out] at c4; have HG6 := Lib.hid (grown_trans (World.grownBy_alloc wr (.cells zeroTC 24) none) hg6 (fun p hp hlt => by injection hp with hp; omega)); clear hg6 hb6)
        | (at_builtin; go_loud (refine append_ints rfl _ _ rfl w1.heap.size v (takenTo L k) rfl (own_kept HO.out HG6.out (by simp)) _ (L.t k).bs rfl ?_ ?_ ?_ ?_); (have hq := HI.out.kept HG6.out (by simp); rw [HV.out] at hq; exact hq); (have hq := HT.out; omega); (have hq := HE1.out.size; have hq2 := HG6.out.size; omega); intro v7 w7 ho7 hg7 _; have HO7 := Lib.hid ho7; have HE7 := Lib.hid (ext_own (ext_trans HE1.out HG6.out) (own_kept HO.out HG6.out (by simp)) (Nat.le_refl _) hg7); clear ho7 hg7 c4))
      go_roundw
      case rel => exact ⟨k + 1, _, by omega, rfl, by go_num, HO7.out, HE7.out⟩
      case measure => simp [intOf]; omega
    · obtain rfl : k = 4 := by omega
      clear hE1 hO
      go_wp2
      go_ret
      exact ⟨_, rfl, ownsRow_le HO.out HE0.out.size, ext_trans HE0.out HE1.out⟩

theorem Try.keyedInt : Keyed Try.prog 3 := int_keyed Try.underlying3
theorem Try.zeroUnit (w : World) : (zeroValue 46).run Try.prog w = .ok (.agg #[]) w := by kernel_rfl
def setD (xs : List Int) : DataW Unit := setOf (.agg []) (xs.map (Lit.int .i64))
theorem setD_snoc (xs : List Int) (x : Int) : setD (xs ++ [x]) = (setD xs).put (.int .i64 x) (.agg []) := by
  unfold setD
  rw [List.map_append]
  exact setOf_snoc _ _ _
abbrev SetAt (w : World) (b n : Nat) (xs : List Int) : Prop := w.ownsMap Try.prog 3 (unitElem (H := Unit)) b n (setD xs)

theorem take_snocI {xs : List Int} {k : Nat} (h : k < xs.length) : xs.take (k + 1) = xs.take k ++ [xs.getD k 0] := by
  rw [List.take_succ_eq_append_getElem h, List.getD_eq_getElem?_getD, List.getElem?_eq_getElem h]
  rfl

theorem Try.mapHint (n : Int) (w : World) : (Instr.makeMap 43 (some (.int .i64 n))).run Try.prog w = .ok (.map (some w.heap.size)) (w.alloc (.map #[] 0)) := by kernel_rfl

set_option maxHeartbeats 800000 in
theorem set10_any (v : Value) (xs : List Int) (w : World) (hI : Ints w v xs) (hm : xs.length ≤ 16777216) (hwf : WfL xs) :
    Calls Try.prog 16 #[v] w fun e w' => ∃ b, e = .returned (.map (some b)) ∧ SetAt w' b xs.length xs ∧ w.heap.size ≤ b ∧ Ext w w' := by
  obtain ⟨ao, cp, bb, oo, rfl, hc⟩ := hI.form
  have HC := Lib.hid hc
  have HWF := Lib.hid hwf
  have hmm := Try.mapHint xs.length
  have hmade : SetAt (w.alloc (.map #[] 0)) w.heap.size 0 [] := World.ownsMap_made w Try.prog 3 unitElem
  have hE0 := World.grownBy_alloc w (.map #[] 0) none
  obtain ⟨w1, hw1⟩ : ∃ v, w.alloc (.map #[] 0) = v := ⟨_, rfl⟩
  rw [hw1] at hmade hE0
  have HM := Lib.hid hmade
  have HE0 := Lib.hid hE0
  clear hI hc hwf hmade hE0
  go_enter Try.func16, Try.ntmps16
  go_wp2
  clear hw1 hmm
  obtain ⟨mb, hmb⟩ : ∃ b, w.heap.size = b := ⟨_, rfl⟩
  rw [hmb] at HM ⊢
  have HMB := Lib.hid hmb
  clear hmb
  go_loopw [11] (fun i wr => ∃ k : Nat, k ≤ xs.length ∧ i = .int .i64 k ∧ SetAt wr mb k (xs.take k) ∧ w1.grownBy wr (some mb)) (fun i _ => xs.length - (intOf i).toNat)
  case atStart => exact ⟨0, by omega, rfl, HM.out, gb_refl w1 _⟩
  case round =>
    obtain ⟨k, hk, rfl, hown, hG⟩ := hrel
    have HG := Lib.hid hG
    by_cases hlt : k < xs.length
    · obtain ⟨rfl, cx⟩ := HC.out k hlt
      have hbbw : bb < w.heap.size := World.block_lt_of_cell? w _ cx
      have cx1 := hG.cell (HE0.out.cell cx (by simp)) (fun e => absurd (Option.some.inj e) (by show bb ≠ mb; rw [← HMB.out]; omega))
      obtain ⟨x, hx⟩ : ∃ x, xs.getD k 0 = x := ⟨_, rfl⟩
      rw [hx] at cx1
      have hwx : (Lit.int .i64 x).wf = true := by
        refine HWF.out x ?_
        rw [← hx, List.getD_eq_getElem?_getD, List.getElem?_eq_getElem hlt]
        exact List.getElem_mem hlt
      have HX := Lib.hid hx
      have HW := Lib.hid hwx
      have HOW := Lib.hid hown
      clear cx hx hwx hG hown
      go_wp2_with (at_mapUpdate; go_loud (refine wpList_mapUpdate_own _ rfl _ _ _ 43 rfl 3 46 Try.keyedInt Try.underlying43 unitElem mb k _ rfl HOW.out (by unfold maxLen; omega) _ _ _ rfl rfl (keyOf_int_mk Try.underlying3 HW.out) _ [] unitElem_mk ?_); intro w2 hown2 hgrow2; have HO2 := Lib.hid hown2; have HG2 := Lib.hid hgrow2; clear hown2 hgrow2)
      go_roundw
      case rel =>
        refine ⟨k + 1, by omega, by go_num, ?_, gb_trans HG.out HG2.out⟩
        have h := HO2.out
        rw [← setD_snoc, ← HX.out, ← take_snocI hlt] at h
        exact h
      case measure => simp [intOf]; omega
    · obtain rfl : k = xs.length := by omega
      rw [List.take_length] at hown
      have HOW := Lib.hid hown
      clear hown hG
      go_wp2
      go_ret
      exact ⟨mb, rfl, HOW.out, by rw [HMB.out]; exact Nat.le_refl _, grown_trans HE0.out HG.out (fun p hp hlt => by injection hp with hp; have := HMB.out; omega)⟩

theorem Try.funcNil (w : World) : (binOp .eql 42 .nilFunc .nilFunc).run Try.prog w = .ok (.bool true) w := by kernel_rfl

theorem isBad_nil (n : Int) (w : World) :
    Calls Try.prog 18 #[.nilFunc, .int .i64 n] w fun e w' => e = .returned (.bool false) ∧ Ext w w' := by
  have hE := Lib.hid (World.grownBy_alloc w (.cells #[.bool false] 4) none)
  have hq := Try.funcNil
  go_enter Try.func18, Try.ntmps18
  go_wp2
  refine bodyPost_ret (v := .bool false) (by simp [results, Try.results18, go_sem]) rfl ⟨rfl, hE.out⟩

/-- The blocks that nobody has, of the first k behind the admin's. -/
def freeTo (T : List Int) (k : Nat) : List Int := ((List.range k).map fun i : Nat => (2 : Int) + (i : Int)).filter fun x => decide (x ∉ T)
theorem freeTo_succ (T : List Int) (k : Nat) : freeTo T (k + 1) = if (2 + (k : Int)) ∈ T then freeTo T k else freeTo T k ++ [2 + (k : Int)] := by
  unfold freeTo
  rw [List.range_succ, List.map_append, List.filter_append]
  by_cases h : (2 + (k : Int)) ∈ T
  · simp [h]
  · simp [h]
theorem freeTo_len (T : List Int) (k : Nat) : (freeTo T k).length ≤ k := by
  unfold freeTo
  exact Nat.le_trans (List.length_filter_le _ _) (by simp)
theorem freeTo_next {T : List Int} {m : Int} (h : 2 ≤ m) : freeTo T (m + 1 - 2).toNat = if m ∈ T then freeTo T (m - 2).toNat else freeTo T (m - 2).toNat ++ [m] := by
  obtain ⟨k, rfl⟩ : ∃ k : Nat, m = 2 + (k : Int) := ⟨(m - 2).toNat, by omega⟩
  rw [show ((2 + (k : Int)) + 1 - 2).toNat = k + 1 by omega, show ((2 + (k : Int)) - 2).toNat = k by omega]
  exact freeTo_succ T k
def freeL (L : Led) (blocks : Int) : List Int := freeTo (takenL L) (blocks - 2).toNat

theorem set_has {xs : List Int} {x : Int} : Maps.has (setD xs) (.int .i64 x) = decide (x ∈ xs) := by
  unfold setD
  rw [has_setOf _ _ _ (fun y hy => by obtain ⟨n, _, rfl⟩ := List.mem_map.1 hy; trivial)]
  rw [Bool.eq_iff_iff]
  simp [List.any_map, Lit.sameKey]

set_option maxHeartbeats 1600000 in
theorem free10_any (L : Led) (V : Nat → Value) (n : Int) (w : World) (hL : LedIs w L V) (hm : ∀ j, j < 4 → (L.t j).bs.length ≤ 1048576) (hwf : ∀ j, j < 4 → WfL (L.t j).bs) (hn : n ≤ 1048576) (hn0 : -9223372036854775808 ≤ n) :
    Calls Try.prog 7 #[.agg (ledC L V), .int .i64 n, .nilFunc] w fun e w' => ∃ v, e = .returned v ∧ OwnI w.heap.size w' v (freeL L n) ∧ Ext w w' := by
  have hb := Blk.new w 27 (ledC L V)
  have hE0 := World.grownBy_alloc w (.cells (ledC L V) 27) none
  obtain ⟨w1, hw1⟩ : ∃ v, w.alloc (.cells (ledC L V) 27) = v := ⟨_, rfl⟩
  rw [hw1] at hb hE0
  have T := taken10_any L V w1 (hL.ext hE0) hm
  have HE0 := Lib.hid hE0
  have HTL := Lib.hid (takenTo_len hm 4 (by omega))
  have HTW := Lib.hid (takenTo_wf hwf 4 (by omega))
  clear hE0 hwf
  go_enter Try.func7, Try.ntmps7
  go_wp2_with (first
    | (refine led_load _ rfl rfl hb rfl ?_)
    | (go_at_call 17; refine T.mono ?_; rintro e w2 ⟨v2, rfl, ho2, hE2⟩; have S2 := set10_any v2 (takenL L) w2 (owns_ints rfl ho2) (by have hq := HTL.out; show (takenTo L 4).length ≤ _; omega) HTW.out; have HE2 := Lib.hid hE2; clear ho2 hE2)
    | (go_at_call 16; refine S2.mono ?_; rintro e w3 ⟨mb, rfl, hM, hmb, hE3⟩; have HM := Lib.hid hM; have HE3 := Lib.hid hE3; clear S2 hM hE3))
  have hw3 : w.heap.size ≤ w3.heap.size := by have := HE0.out.size; have := HE2.out.size; have := HE3.out.size; omega
  have HE := Lib.hid (ext_trans (ext_trans HE0.out HE2.out) HE3.out)
  obtain ⟨T', hT'⟩ : ∃ T', takenL L = T' := ⟨_, rfl⟩
  rw [hT'] at HM
  have HTT := Lib.hid hT'
  clear hw1 hb hT' T hm hL HTW
  go_loopw [8, 9] (fun f b wr => ∃ (m : Int) (v : Value), 2 ≤ m ∧ (m ≤ n ∨ m = 2) ∧ v = f ∧ b = .int .i64 m ∧ OwnI w3.heap.size wr v (freeTo T' (m - 2).toNat) ∧ Ext w3 wr) (fun _ b _ => (n - intOf b).toNat)
  case atStart => exact ⟨2, _, by omega, .inr rfl, rfl, rfl, World.ownsRow_nil w3 _ _ _, Ext.refl w3⟩
  case round =>
    obtain ⟨m, v, hm2, hmn, hvx, rfl, hO, hE1⟩ := hrel
    subst hvx
    have HO := Lib.hid hO
    have HE1 := Lib.hid hE1
    have HMN := Lib.hid hmn
    clear hO hE1 hmn
    by_cases hlt : m < n
    · have hwm : (Lit.int .i64 m).wf = true := WalkArith.wf_i64 (by omega)
      have HWM := Lib.hid hwm
      obtain ⟨p, hp⟩ : ∃ p, decide (m ∈ T') = p := ⟨_, rfl⟩
      have HP := Lib.hid hp
      have HFL := Lib.hid (freeTo_len T' (m - 2).toNat)
      have HNX := Lib.hid (freeTo_next (T := T') hm2)
      clear hwm hp
      cases p
      · go_wp2_with (first
          | (at_lookup; go_loud (refine wpList_lookup_own_unit _ rfl _ _ 43 rfl 3 46 Try.keyedInt Try.underlying43 (Try.zeroUnit _) mb _ _ rfl (HM.out.kept HE1.out (by simp)) _ _ rfl (keyOf_int_mk Try.underlying3 HWM.out) ?_; rw [set_has, HP.out]))
          | (go_at_call 18; refine (isBad_nil _ _).mono ?_; rintro e w5 ⟨rfl, hE5⟩; have HE5 := Lib.hid (ext_trans (World.grownBy_alloc wr (.cells #[] 46) none) hE5); clear hE5)
          | (at_builtin; go_loud (refine append_ints rfl _ _ rfl w3.heap.size v (freeTo T' (m - 2).toNat) rfl (own_kept HO.out (ext_trans HE5.out (World.grownBy_alloc w5 (.cells #[.int .i64 m] 3) none)) (by simp)) (.slice (some ⟨w5.heap.size, 0, none⟩) 1 1) [m] rfl (ints_one w5 m 3) ?_ ?_ ?_); (have hq := HFL.out; simp only [List.length_cons, List.length_nil]; omega); (have hq := HE1.out.size; have hq2 := HE5.out.size; simp; omega); intro v7 w7 ho7 hg7 _; have HO7 := Lib.hid ho7; have HE7 := Lib.hid (ext_own (ext_trans HE1.out (ext_trans HE5.out (World.grownBy_alloc w5 (.cells #[.int .i64 m] 3) none))) (own_kept HO.out (ext_trans HE5.out (World.grownBy_alloc w5 (.cells #[.int .i64 m] 3) none)) (by simp)) (Nat.le_refl _) hg7); clear ho7 hg7))
        go_roundw
        case rel =>
          refine ⟨m + 1, _, by omega, .inl (by omega), rfl, by go_num, ?_, HE7.out⟩
          rw [HNX.out, if_neg (by simpa using HP.out)]
          exact HO7.out
        case measure => simp [intOf]; omega
      · go_wp2_with (first
          | (at_lookup; go_loud (refine wpList_lookup_own_unit _ rfl _ _ 43 rfl 3 46 Try.keyedInt Try.underlying43 (Try.zeroUnit _) mb _ _ rfl (HM.out.kept HE1.out (by simp)) _ _ rfl (keyOf_int_mk Try.underlying3 HWM.out) ?_; rw [set_has, HP.out])))
        go_roundw
        case rel =>
          refine ⟨m + 1, _, by omega, .inl (by omega), rfl, by go_num, ?_, ext_trans HE1.out (World.grownBy_alloc wr _ none)⟩
          rw [HNX.out, if_pos (by simpa using HP.out)]
          exact own_kept HO.out (World.grownBy_alloc wr _ none) (by simp)
        case measure => simp [intOf]; omega
    · have HEND := Lib.hid (show (m - 2).toNat = (n - 2).toNat by have := HMN.out; omega)
      go_wp2
      go_ret
      refine ⟨_, rfl, ?_, ext_trans HE.out HE1.out⟩
      have h := ownsRow_le HO.out hw3
      rw [HEND.out] at h
      unfold freeL
      rw [HTT.out]
      exact h

end Go.Proofs.Ytkcdddpbmbhelaa
