/-
  Texts put together: SpH SpI SpJ.
-/
import Derived.Test.YtdaifepjmkmpjaaDoorM17
import Derived.Test.YtdaifepjmkmpjaaDoorM11
/-
  Package script: Line.
-/
namespace Go.Proofs.YtdaifepjmkmpjaaDoor
set_option linter.unusedVariables false
set_option linter.unusedSimpArgs false
set_option linter.unusedVariables false
set_option linter.unusedSimpArgs false
set_option maxRecDepth 100000
open Go.RowKit

def xvL (j : Nat) (x : Stp) : List Int :=
  match j with
  | 0 => [x.t, x.a, x.b] | 1 => [x.t, x.a] | 2 => [x.t] | 3 => [x.t, x.o] | 4 => [x.t, x.pl] | 5 => [x.t, x.pl] | 6 => [x.t, x.pl] | 7 => [x.t] | 8 => [x.a] | 9 => [x.a, x.b] | 10 => [x.a] | _ => []
theorem el11 {j : Nat} (h : j < 11) : j = 0 ∨ j = 1 ∨ j = 2 ∨ j = 3 ∨ j = 4 ∨ j = 5 ∨ j = 6 ∨ j = 7 ∨ j = 8 ∨ j = 9 ∨ j = 10 := by omega
theorem xvL_len {j : Nat} (hj : j < 11) (x : Stp) : (xvL j x).length = (offL j).length := by
  obtain rfl | rfl | rfl | rfl | rfl | rfl | rfl | rfl | rfl | rfl | rfl := el11 hj
  all_goals rfl
theorem xvL_rng {j : Nat} (hj : j < 11) {x : Stp} (h : x.rng) : ∀ n ∈ xvL j x, i64B n := by
  obtain rfl | rfl | rfl | rfl | rfl | rfl | rfl | rfl | rfl | rfl | rfl := el11 hj
  · exact i64_three h.t h.a h.b
  · exact i64_two h.t h.a
  · exact i64_one h.t
  · exact i64_two h.t h.o
  · exact i64_two h.t h.pl
  · exact i64_two h.t h.pl
  · exact i64_two h.t h.pl
  · exact i64_one h.t
  · exact i64_one h.a
  · exact i64_two h.a h.b
  · exact i64_one h.a
theorem xvL_words {j : Nat} (hj : j < 11) (x : Stp) : wordsL j x = (xvL j x).map numL ++ (if j = 5 then [txtL x.d] else []) := by
  obtain rfl | rfl | rfl | rfl | rfl | rfl | rfl | rfl | rfl | rfl | rfl := el11 hj
  all_goals rfl
theorem xvL_cell {j : Nat} (hj : j < 11) (x : Stp) : ∀ i, i < (offL j).length → (stpC x)[(offL j).getD i 0]? = some (.int .i64 ((xvL j x).getD i 0)) := by
  intro i hi
  have h3 := (offL_len j hj).2
  obtain rfl | rfl | rfl : i = 0 ∨ i = 1 ∨ i = 2 := by omega
  all_goals obtain rfl | rfl | rfl | rfl | rfl | rfl | rfl | rfl | rfl | rfl | rfl := el11 hj
  all_goals first
    | rfl
    | (simp [offL] at hi; done)
theorem xvL_want {j : Nat} (hj : j < 11) {x : Stp} (h : (x.k, x.op) = kOf j) : candV j (xvL j x) (if j = 5 then x.d else []) = wantL j x := by
  obtain ⟨k, t, o, a, b, op, pl, d⟩ := x
  obtain rfl | rfl | rfl | rfl | rfl | rfl | rfl | rfl | rfl | rfl | rfl := el11 hj
  all_goals
    simp only [kOf, Prod.mk.injEq] at h
    obtain ⟨rfl, rfl⟩ := h
    rfl
theorem kOf_kd {j : Nat} (hj : j < 11) {x : Stp} (h : (x.k, x.op) = kOf j) : kdL x = j := by
  obtain ⟨k, t, o, a, b, op, pl, d⟩ := x
  obtain rfl | rfl | rfl | rfl | rfl | rfl | rfl | rfl | rfl | rfl | rfl := el11 hj
  all_goals
    simp only [kOf, Prod.mk.injEq] at h
    obtain ⟨rfl, rfl⟩ := h
    rfl
theorem ok_kOf {x : Stp} (h : okL x = true) : ∃ j, j < 11 ∧ (x.k, x.op) = kOf j := by
  obtain ⟨n1, n2, n3, d, e, _⟩ := okL_cand h
  have hj : kdL x < 11 := by simp only [okL, Bool.and_eq_true, decide_eq_true_eq] at h; exact h.1
  refine ⟨kdL x, hj, ?_⟩
  generalize kdL x = j at e hj
  subst e
  obtain rfl | rfl | rfl | rfl | rfl | rfl | rfl | rfl | rfl | rfl | rfl := el11 hj
  all_goals rfl
theorem ok_want {j : Nat} (hj : j < 11) {x : Stp} (h : (x.k, x.op) = kOf j) : okL x = decide (wantL j x = x) := by
  have hk := kOf_kd hj h
  unfold okL
  rw [hk]
  simp [hj]
theorem spell_xv {j : Nat} (hj : j < 11) (x : Stp) : spellL j x = nmL j ++ numsL (xvL j x) ++ (if j = 5 then 32 :: txtL x.d else []) := by
  unfold spellL
  rw [xvL_words hj, List.flatMap_append, numsL_words, ← List.append_assoc]
  split <;> simp
/-- What stands while a line's numbers are told. -/
structure LinM (w0 w : World) (sb tb n1 n2 kb : Nat) (p q : Int) (j : Nat) (x : Stp) (k : Nat) : Prop where
  s : Blk w sb 25 (stpC x)
  t : Blk w tb 25 (fillC (stpC (blankS p q)) ((offL j).take k) ((xvL j x).take k))
  a : Blk w n1 56 (ptrC tb (offL j))
  c : Blk w n2 56 (ptrC sb (offL j))
  d : Blk w kb 50 #[.int .i64 p, .int .i64 q]
  g : w0.grownBy w none
theorem LinM.ext {w0 w w' : World} {sb tb n1 n2 kb : Nat} {p q : Int} {j : Nat} {x : Stp} {k : Nat} (h : LinM w0 w sb tb n1 n2 kb p q j x k) (hg : w.grownBy w' none) : LinM w0 w' sb tb n1 n2 kb p q j x k := ⟨h.s.ext hg, h.t.ext hg, h.a.ext hg, h.c.ext hg, h.d.ext hg, ext_trans h.g hg⟩
theorem LinM.set {w0 w : World} {sb tb n1 n2 kb : Nat} {p q : Int} {j : Nat} {x : Stp} {k : Nat} (hj : j < 11) (h : LinM w0 w sb tb n1 n2 kb p q j x k) (hk : k < (offL j).length) (h1 : sb ≠ tb) (h2 : n1 ≠ tb) (h3 : n2 ≠ tb) (h4 : kb ≠ tb) (h5 : w0.heap.size ≤ tb) :
    LinM w0 (w.setCell ⟨tb, (offL j).getD k 0, none⟩ (.int .i64 ((xvL j x).getD k 0))) sb tb n1 n2 kb p q j x (k + 1) := by
  refine ⟨h.s.far h1 _, ?_, h.a.far h2 _, h.c.far h3 _, h.d.far h4 _, grown_fill h.g (grown_set w ⟨tb, _, none⟩ _) h5⟩
  have hx : k < (xvL j x).length := by rw [xvL_len hj]; exact hk
  have e1 : (offL j).take (k + 1) = (offL j).take k ++ [(offL j).getD k 0] := by rw [List.take_succ_eq_append_getElem hk, List.getD_eq_getElem?_getD, List.getElem?_eq_getElem hk]; rfl
  have e2 : (xvL j x).take (k + 1) = (xvL j x).take k ++ [(xvL j x).getD k 0] := take_snocI25 _ _ hx
  rw [e1, e2, fillC_snoc _ _ _ _ _ (by rw [List.length_take, List.length_take, xvL_len hj])]
  exact h.t.set _ _
theorem lineA_fail {x : Stp} {w w' : World} (h : okL x = false) (hg : w.grownBy w' none) : LineA x w (.returned (.tuple #[.string ⟨#[]⟩, .bool false])) w' := ⟨by rw [h]; rfl, hg⟩
theorem lineA_good {x : Stp} {w w' : World} (h : okL x = true) (hg : w.grownBy w' none) : LineA x w (.returned (.tuple #[.string (bs (lineL x)), .bool true])) w' := ⟨by rw [h]; rfl, hg⟩
set_option maxHeartbeats 6400000 in
theorem line_c (w : World) (x : Stp) (hL : Lib25 w) (hx : x.rng) (hd : x.d.length ≤ 1000) : Calls Tryd.prog 8 #[.agg (stpC x)] w (LineA x w) := by
  have HL := Lib.hid hL
  have HX := Lib.hid hx
  have HD := Lib.hid hd
  have hB := Blk.new w 25 (stpC x)
  have hE := World.grownBy_alloc w (.cells (stpC x) 25) none
  obtain ⟨w0, hw0⟩ : ∃ z, w.alloc (.cells (stpC x) 25) = z := ⟨_, rfl⟩
  rw [hw0] at hB hE
  obtain ⟨sb, hsb⟩ : ∃ z, w.heap.size = z := ⟨_, rfl⟩
  rw [hsb] at hB
  have HB0 := Lib.hid hB
  have HE0 := Lib.hid hE
  have HW0 := Lib.hid hw0
  have HSB := Lib.hid (show w.heap.size ≤ sb from Nat.le_of_eq hsb)
  obtain ⟨p, hp⟩ : ∃ p, x.k = p := ⟨_, rfl⟩
  obtain ⟨q, hq⟩ : ∃ q, x.op = q := ⟨_, rfl⟩
  have c0 : w0.cell? ⟨sb, 0, none⟩ = some (.int .i64 p) := by rw [← hp]; exact hB.cell 0
  have c5 : w0.cell? ⟨sb, 5, none⟩ = some (.int .i64 q) := by rw [← hq]; exact hB.cell 5
  have HPQ := Lib.hid (And.intro hp hq)
  clear hL hx hd hB hE hw0 hp hq
  go_enter Tryd.func8, Tryd.ntmps8
  go_upto_region 1 with fail
  rw [HW0.out]
  have hBn := Blk.new w0 50 #[.int .i64 0, .int .i64 0]
  clear hsb
  go_upto_region 2 with (first
    | (refine kd_store (p := p) (q := q) rfl _ _ rfl rfl rfl hBn rfl ?_; intro w1 hb1 hg1 hs1; have hE1 := new24 (World.grownBy_alloc w0 _ none) hg1 (Nat.le_refl _); have HKB := Lib.hid hb1; have HG1 := Lib.hid (ext_trans HE0.out hE1); have HB1 := Lib.hid (HB0.out.ext hE1); clear hBn hb1 hg1 hs1 hE1))
  obtain ⟨kb, hkb⟩ : ∃ z, w0.heap.size = z := ⟨_, rfl⟩
  rw [hkb] at HKB ⊢
  clear hkb c0 c5
  have hkd := HKB.out
  go_upto_region 3 with (first
    | (refine kd_load rfl _ rfl rfl hkd ?_)
    | (go_at_call 20; refine (nameOf_c p q _).mono ?_; rintro e w2 ⟨nm, ok, rfl, hok, hg2⟩; have HOK := Lib.hid hok; have HG2 := Lib.hid (ext_trans HG1.out hg2); have HB2 := Lib.hid (HB1.out.ext hg2); have hkd2 := HKB.out.ext hg2; have HKB2 := Lib.hid hkd2; clear hok hg2))
  cases ok
  · have HF := Lib.hid (show okL x = false from by
      rcases HOK.out with ⟨h, _⟩ | ⟨_, _, h⟩
      · cases h
      · rw [← Bool.not_eq_true]
        intro ho
        obtain ⟨j, h1, h2⟩ := ok_kOf ho
        exact h j h1 (by rw [← h2, HPQ.out.1, HPQ.out.2]))
    clear hkd hkd2
    go_wp2
    go_ret2
    exact lineA_fail HF.out HG2.out
  · obtain ⟨j, hj, hnm, hkj⟩ : ∃ j, j < 11 ∧ nm = nmL j ∧ (p, q) = kOf j := by
      rcases HOK.out with ⟨_, h⟩ | ⟨h, _⟩
      · exact h
      · cases h
    have HJ := Lib.hid (And.intro hnm hkj)
    clear hnm hkj hkd
    have hkd := hkd2
    go_upto_region 6 with (first
      | (refine kd_load rfl _ rfl rfl hkd ?_)
      | (go_at_call 21; refine (blank_c p q _).mono ?_; rintro e w3 ⟨rfl, hg3⟩; have hBn := Blk.new w3 25 (stpC noStp); have HG3 := Lib.hid (ext_trans HG2.out hg3); have HB3 := Lib.hid (HB2.out.ext hg3); have HKB3 := Lib.hid (HKB2.out.ext hg3); clear hg3)
      | (refine stp_store (z := blankS p q) rfl _ _ rfl rfl rfl hBn rfl ?_; intro w4 hb4 hg4 hs4; have hE4 := new24 (World.grownBy_alloc w3 _ none) hg4 (Nat.le_refl _); have HTB := Lib.hid hb4; have HG4 := Lib.hid (ext_trans HG3.out hE4); have HB4 := Lib.hid (HB3.out.ext hE4); have HKB4 := Lib.hid (HKB3.out.ext hE4); clear hBn hb4 hg4 hs4 hE4))
    clear hkd hkd2
    have HNE := Lib.hid (show sb ≠ w3.heap.size ∧ kb ≠ w3.heap.size ∧ w.heap.size ≤ w3.heap.size from by
      have h1 := HB3.out.lt
      have h2 := HKB3.out.lt
      have h3 := HG3.out.size
      omega)
    obtain ⟨tb, htb⟩ : ∃ z, w3.heap.size = z := ⟨_, rfl⟩
    rw [htb] at HTB HNE ⊢
    clear htb
    have N1 := Lib.hid (numbersOf_c w4 tb (blankS p q) HTB.out j hj HJ.out.2)
    obtain ⟨m, hm⟩ : ∃ m, (offL j).length = m := ⟨_, rfl⟩
    have hm3 := (offL_len j hj).2
    rw [hm] at hm3
    have HM := Lib.hid hm
    clear hm
    go_upto_region 7 with (go_at_call 22; refine N1.out.mono ?_; rintro e w5 ⟨n1, rfl, hbn, hnb, hg5⟩; rw [HM.out]; have HN1 := Lib.hid hbn; have HG5 := Lib.hid (ext_trans HG4.out hg5); have HB5 := Lib.hid (HB4.out.ext hg5); have HKB5 := Lib.hid (HKB4.out.ext hg5); have HTB5 := Lib.hid (HTB.out.ext hg5); have HNE1 := Lib.hid (show n1 ≠ tb from by have := HTB.out.lt; omega); clear hbn hnb hg5)
    have N2 := Lib.hid (numbersOf_c w5 sb x HB5.out j hj (by rw [HPQ.out.1, HPQ.out.2]; exact HJ.out.2))
    go_wp2_with (go_at_call 22; refine N2.out.mono ?_; rintro e w6 ⟨n2, rfl, hbn, hnb, hg6⟩; rw [HM.out]; have HS0 := Lib.hid (show LinM w w6 sb tb n1 n2 kb p q j x 0 from ⟨HB5.out.ext hg6, by simpa [fillC] using HTB5.out.ext hg6, HN1.out.ext hg6, hbn, HKB5.out.ext hg6, ext_trans HG5.out hg6⟩); have HNE2 := Lib.hid (show n2 ≠ tb from by have := HTB5.out.lt; omega); clear hbn hnb hg6)
    go_loopw [5, 29] (fun ln i wr => ∃ (k : Nat), k ≤ m ∧ i = .int .i64 k ∧ ln = .string (bs (nmL j ++ numsL ((xvL j x).take k))) ∧ LinM w wr sb tb n1 n2 kb p q j x k) (fun _ i _ => m - (intOf i).toNat)
    case atStart => exact ⟨0, by omega, rfl, by rw [HJ.out.1]; simp [numsL], HS0.out⟩
    case round =>
      obtain ⟨k, hk, rfl, rfl, hS⟩ := hrel
      have HS := Lib.hid hS
      clear hS HS0
      by_cases hlt : k < m
      · have hko : k < (offL j).length := by rw [HM.out]; exact hlt
        have hkx : k < (xvL j x).length := by rw [xvL_len hj]; exact hko
        obtain ⟨o, ho⟩ : ∃ o, (offL j).getD k 0 = o := ⟨_, rfl⟩
        obtain ⟨v, hv⟩ : ∃ v, (xvL j x).getD k 0 = v := ⟨_, rfl⟩
        have hvr : i64B v := xvL_rng hj HX.out v (by rw [← hv, List.getD_eq_getElem?_getD, List.getElem?_eq_getElem hkx]; exact List.getElem_mem hkx)
        have hptr : ∀ b, (ptrC b (offL j))[k]? = some (.pointer (some ⟨b, o, none⟩)) := fun b => by
          have h1 : (offL j)[k]? = some o := by rw [← ho, List.getD_eq_getElem?_getD, List.getElem?_eq_getElem hko]; rfl
          simp [ptrC, h1, ptrV]
        have q2 : wr.cell? ⟨n2, k, none⟩ = some (.pointer (some ⟨sb, o, none⟩)) := (HS.out.c.cell k).trans (hptr sb)
        have q1 : wr.cell? ⟨n1, k, none⟩ = some (.pointer (some ⟨tb, o, none⟩)) := (HS.out.a.cell k).trans (hptr tb)
        have q3 : wr.cell? ⟨sb, o, none⟩ = some (.int .i64 v) := by rw [HS.out.s.cell o, ← ho, ← hv]; exact xvL_cell hj x k hko
        have ho8 : o < 8 := offL_lt j hj o (by rw [← ho, List.getD_eq_getElem?_getD, List.getElem?_eq_getElem hko]; exact List.getElem_mem hko)
        have hset := LinM.set hj HS.out hko HNE.out.1 HNE1.out HNE2.out HNE.out.2.1 HNE.out.2.2
        rw [ho, hv] at hset
        have HSET := Lib.hid hset
        obtain ⟨u, hu⟩ : ∃ u, (fillC (stpC (blankS p q)) ((offL j).take k) ((xvL j x).take k))[o]? = some u := ⟨_, Array.getElem?_eq_getElem (by rw [fillC_size]; exact ho8)⟩
        have p2 : wr.cell? ⟨tb, o, none⟩ = some u := (HS.out.t.cell o).trans hu
        have p3 : wr.frozen? ⟨tb, o, none⟩ = false := HS.out.t.free o
        have HAF := Lib.hid (show (wr.setCell ⟨tb, o, none⟩ (.int .i64 v)).drew.cell? ⟨n1, k, none⟩ = some (.pointer (some ⟨tb, o, none⟩)) ∧ (wr.setCell ⟨tb, o, none⟩ (.int .i64 v)).drew.cell? ⟨sb, o, none⟩ = some (.int .i64 v) from by
          have h1 := (hset.ext (Ext.drew _)).a.cell k
          have h2 := (hset.ext (Ext.drew _)).s.cell o
          refine ⟨h1.trans (hptr tb), h2.trans ?_⟩
          rw [← HS.out.s.cell o]; exact q3)
        have HTK := Lib.hid (show nmL j ++ numsL ((xvL j x).take (k + 1)) = nmL j ++ numsL ((xvL j x).take k) ++ numsL [v] from by
          rw [take_snocI25 _ _ hkx, hv, numsL_snoc]; simp [numsL])
        obtain ⟨ln, hln⟩ : ∃ ln, nmL j ++ numsL ((xvL j x).take k) = ln := ⟨_, rfl⟩
        have hlnl : ln.length ≤ 1000 := by
          rw [← hln, List.length_append]
          have h1 := numsL_len (l := (xvL j x).take k) (fun n hn => xvL_rng hj HX.out n (List.mem_of_mem_take hn))
          have h2 : ((xvL j x).take k).length ≤ 3 := by rw [List.length_take]; omega
          have h3 := (by decide : ∀ j, j < 11 → (nmL j).length ≤ 7) j hj
          omega
        rw [hln] at HTK ⊢
        have HLN := Lib.hid hlnl
        have HVR := Lib.hid hvr
        have HQ := Lib.hid (And.intro q1 (And.intro q3 (And.intro p2 p3)))
        clear hko hkx ho hv hvr hptr hset hu hln hlnl ho8 q1 q3 p2 p3
        go_upto_region 10 with fail
        refine region_line [(0, true), (1, true), (2, true), (3, true), (4, true), (5, true), (6, true), (7, true), (8, false)] (fun z => z.cell? ⟨n1, k, none⟩ = some (.pointer (some ⟨tb, o, none⟩)) ∧ z.cell? ⟨sb, o, none⟩ = some (.int .i64 v)) (by kernel_rfl) (by kernel_rfl) (fun _ _ _ d _ h => by cases d <;> exact h) ⟨HQ.out.1, HQ.out.2.1⟩ ?_
        iterate 8 (refine line_read (a' := ?_) rfl (by kernel_rfl) (by kernel_rfl) ⟨HQ.out.1, HQ.out.2.1⟩ (fun z hz K hK => ?_) ?_; rotate_left; · (obtain ⟨r1, r3⟩ := hz; go_wp2; exact hK))
        refine line_act rfl fun K hK => ?_
        have p2 : wr.drew.cell? ⟨tb, o, none⟩ = some u := HQ.out.2.2.1
        have p3 : wr.drew.frozen? ⟨tb, o, none⟩ = false := HQ.out.2.2.2
        clear q2
        go_wp2
        refine hK _ _ (fun z => z.cell? ⟨n1, k, none⟩ = some (.pointer (some ⟨tb, o, none⟩)) ∧ z.cell? ⟨sb, o, none⟩ = some (.int .i64 v)) HAF.out (fun _ h => h) ?_
        clear hK K p2 p3
        refine line_end ?_
        have HS3 := Lib.hid (HSET.out.ext (Ext.drew _))
        obtain ⟨w8, hw8⟩ : ∃ z, (wr.setCell ⟨tb, o, none⟩ (.int .i64 v)).drew = z := ⟨_, rfl⟩
        rw [hw8] at HS3 ⊢
        have q4 : w8.cell? ⟨sb, o, none⟩ = some (.int .i64 v) := by
          have h1 : wr.cell? ⟨sb, o, none⟩ = (stpC x)[o]? := HS.out.s.cell o
          rw [HS3.out.s.cell o, ← h1]; exact HQ.out.2.1
        have HI := Lib.hid (lit_ints1 w8 v)
        have HG9 := World.grownBy_alloc w8 (.cells #[.int .i64 v] 3) none
        have HA := Lib.hid (add_c (w8.alloc (.cells #[.int .i64 v] 3)) (HL.out.ext (ext_trans HS3.out.g HG9)) ln _ [v] HI.out (by intro n hn; simp at hn; rw [hn]; exact HVR.out) (by have := HLN.out; omega) (by simp))
        have HG10 := Lib.hid HG9
        clear hw8 HG9
        go_wp2_with (go_at_call 23; refine HA.out.mono ?_; rintro e w9 ⟨rfl, hg9⟩; have HS9 := Lib.hid (HS3.out.ext (ext_trans HG10.out hg9)); clear hg9 q4)
        go_roundw
        case rel => exact ⟨k + 1, by omega, by go_num, by rw [HTK.out], HS9.out⟩
        case measure => simp [intOf]; omega
      · obtain rfl : m = k := by omega
        have hln1 : nmL j ++ numsL ((xvL j x).take m) = nmL j ++ numsL (xvL j x) := by rw [List.take_of_length_le (by rw [xvL_len hj, HM.out]; exact Nat.le_refl _)]
        obtain ⟨ln, hln⟩ : ∃ ln, nmL j ++ numsL (xvL j x) = ln := ⟨_, rfl⟩
        rw [hln1, hln]
        have HLN := Lib.hid hln
        have hlnl : ln.length ≤ 1000 := by
          rw [← hln, List.length_append]
          have h1 := numsL_len (l := xvL j x) (fun n hn => xvL_rng hj HX.out n hn)
          have h2 : (xvL j x).length ≤ 3 := by rw [xvL_len hj, HM.out]; exact hm3
          have h3 := (by decide : ∀ j, j < 11 → (nmL j).length ≤ 7) j hj
          omega
        have HBS := HS.out.s
        have hT : Blk wr tb 25 (stpC (candV j (xvL j x) [])) := by
          have h1 := HS.out.t
          rw [List.take_of_length_le (by rw [HM.out]; exact Nat.le_refl _), List.take_of_length_le (by rw [xvL_len hj, HM.out]; exact Nat.le_refl _)] at h1
          have hpq : blankS p q = blankD j [] := by unfold blankS blankD; rw [← HJ.out.2]
          rw [hpq, fill_cand hj (xvL_len hj x) [] (fun _ => rfl)] at h1
          exact h1
        have HT := Lib.hid hT
        have k1 : wr.cell? ⟨kb, 1, none⟩ = some (.int .i64 q) := HS.out.d.cell 1
        have HW := Lib.hid (xvL_want hj (x := x) (by rw [HPQ.out.1, HPQ.out.2]; exact HJ.out.2))
        have HOW := Lib.hid (ok_want hj (x := x) (by rw [HPQ.out.1, HPQ.out.2]; exact HJ.out.2))
        have HSP := Lib.hid (spell_xv hj x)
        have HKD := Lib.hid (kOf_kd hj (x := x) (by rw [HPQ.out.1, HPQ.out.2]; exact HJ.out.2))
        have HB8 := Lib.hid HBS
        clear hT hln hln1 HBS
        by_cases h5 : j = 5
        · have hq2 : (q == 2) = true := by
            rw [beq_iff_eq]
            have h1 := (kOf_write j hj).2 h5
            rw [← HJ.out.2] at h1; exact h1
          have d7 : wr.cell? ⟨sb, 7, none⟩ = some (.string (bs x.d)) := HB8.out.cell 7
          have t7 : wr.cell? ⟨tb, 7, none⟩ = some (.string (bs (candV j (xvL j x) []).d)) := HT.out.cell 7
          have f7 : wr.frozen? ⟨tb, 7, none⟩ = false := HT.out.free 7
          go_upto_region 15 with fail
          have hb9 := HT.out.set 7 (.string (bs x.d))
          have HT9 := Lib.hid (show Blk (wr.setCell ⟨tb, 7, none⟩ (.string (bs x.d))) tb 25 (stpC (wantL j x)) from by
            rw [← HW.out, if_pos h5]
            subst h5
            exact hb9)
          have HB9 := Lib.hid (HB8.out.far (a := ⟨tb, 7, none⟩) HNE.out.1 (.string (bs x.d)))
          have HG9 := Lib.hid (grown_fill HS.out.g (grown_set wr ⟨tb, 7, none⟩ (.string (bs x.d))) HNE.out.2.2)
          obtain ⟨w9, hw9⟩ : ∃ z, wr.setCell ⟨tb, 7, none⟩ (.string (bs x.d)) = z := ⟨_, rfl⟩
          rw [hw9] at HT9 HB9 HG9 ⊢
          have d7 : w9.cell? ⟨sb, 7, none⟩ = some (.string (bs x.d)) := HB9.out.cell 7
          have WO := Lib.hid (wordOf_c w9 (bs x.d) (by rw [bs_size]; have := HD.out; omega))
          obtain ⟨tx, htx⟩ : ∃ tx, txtL x.d = tx := ⟨_, rfl⟩
          have HTX := Lib.hid htx
          have htl : tx.length ≤ 2001 := by
            rw [← htx]; unfold txtL; split
            · simp
            · rw [hexL_len]; have := HD.out; omega
          have a1 : ∀ z, (Op.stringOp .add ⟨#[32]⟩ (bs tx)).run Tryd.prog z = .ok (.string (bs (32 :: tx))) z := add_bs [32] tx (by simp; omega)
          have a2 := add_bs ln (32 :: tx) (by simp; omega)
          clear hb9 hw9 t7 f7 htx k1
          obtain ⟨z, hz⟩ : ∃ z, decide (wantL j x = x) = z := ⟨_, rfl⟩
          have HZ := Lib.hid hz
          clear hz
          go_upto_region 16 with (go_at_call 24; refine WO.out.mono ?_; rw [bs_data, HTX.out]; rintro e w10 ⟨rfl, hg10⟩; have HG10 := Lib.hid (ext_trans HG9.out hg10); have HT10 := Lib.hid (HT9.out.ext hg10); have HB10 := Lib.hid (HB9.out.ext hg10); clear hg10 d7)
          have r1 := HT10.out.range25
          have r2 := HB10.out.range25
          clear a1 a2
          cases z
          · go_wp2_with (first
              | (refine stp_neq_op (u := wantL j x) (v := x) rfl _ _ rfl HZ.out rfl rfl ?_)
              | (refine stp_load rfl _ rfl rfl r1 ?_)
              | (refine stp_load rfl _ rfl rfl r2 ?_))
            go_ret2
            exact lineA_fail (by rw [HOW.out, HZ.out]) HG10.out
          · go_wp2_with (first
              | (refine stp_neq_op (u := wantL j x) (v := x) rfl _ _ rfl HZ.out rfl rfl ?_)
              | (refine stp_load rfl _ rfl rfl r1 ?_)
              | (refine stp_load rfl _ rfl rfl r2 ?_))
            go_ret2
            have h1 := lineA_good (x := x) (w := w) (w' := w10) (by rw [HOW.out, HZ.out]) HG10.out
            unfold lineL at h1
            rw [HKD.out, HSP.out, if_pos h5, HLN.out, HTX.out] at h1
            exact h1
        · have hq2 : (q == 2) = false := by
            rw [beq_eq_false_iff_ne]
            intro e
            have h1 : (kOf j).2 = 2 := by rw [← HJ.out.2]; exact e
            exact h5 ((kOf_write j hj).1 h1)
          have HT9 := Lib.hid (show Blk wr tb 25 (stpC (wantL j x)) from by
            rw [← HW.out, if_neg h5]; exact HT.out)
          obtain ⟨z, hz⟩ : ∃ z, decide (wantL j x = x) = z := ⟨_, rfl⟩
          have HZ := Lib.hid hz
          have r1 := HT9.out.range25
          have r2 := HB8.out.range25
          clear hz
          cases z
          · go_wp2_with (first
              | (refine stp_neq_op (u := wantL j x) (v := x) rfl _ _ rfl HZ.out rfl rfl ?_)
              | (refine stp_load rfl _ rfl rfl r1 ?_)
              | (refine stp_load rfl _ rfl rfl r2 ?_))
            go_ret2
            exact lineA_fail (by rw [HOW.out, HZ.out]) HS.out.g
          · go_wp2_with (first
              | (refine stp_neq_op (u := wantL j x) (v := x) rfl _ _ rfl HZ.out rfl rfl ?_)
              | (refine stp_load rfl _ rfl rfl r1 ?_)
              | (refine stp_load rfl _ rfl rfl r2 ?_))
            go_ret2
            have h1 := lineA_good (x := x) (w := w) (w' := wr) (by rw [HOW.out, HZ.out]) HS.out.g
            unfold lineL at h1
            rw [HKD.out, HSP.out, if_neg h5, HLN.out, List.append_nil] at h1
            exact h1
end Go.Proofs.YtdaifepjmkmpjaaDoor

/-
  Package script: Setup.
-/
namespace Go.Proofs.YtdaifepjmkmpjaaDoor
set_option linter.unusedVariables false
set_option linter.unusedSimpArgs false
set_option linter.unusedVariables false
set_option linter.unusedSimpArgs false
set_option maxRecDepth 100000
open Go.RowKit

set_option maxHeartbeats 1600000 in
theorem setup_c (w : World) (hLb : Lib25 w) (s : Stu) (V : Nat → Value) (vm : Value) (hS : StuIs w s V vm) (hr : s.rng) (hl : s.few) :
    Calls Tryd.prog 18 #[.agg (stuC s V vm)] w (SetA (setupL s) w) := by
  have IX := index4 V
  have HLB := Lib.hid hLb
  have HIX := Lib.hid IX
  have HS := Lib.hid hS
  have HR := Lib.hid hr
  have HL := Lib.hid hl
  obtain ⟨am, cm, bm, om, hvm, hcm⟩ := hS.m.form
  obtain ⟨c, d, b, p, f, m⟩ := s
  simp only at hvm
  subst hvm
  unfold stuC
  simp only
  clear hS hr hl hcm IX hLb
  go_enter Tryd.func18, Tryd.ntmps18
  go_upto_region 2 with fail
  have hB2 : Blk ((w.alloc (.cells #[.int .i64 c, .int .i64 d, .int .i64 b, .int .i64 p, V 0, V 1, V 2, V 3, .slice am m.length cm] 38)).alloc (.cells #[.int .i64 c, .int .i64 d, .int .i64 b, .int .i64 p] 34)) w.heap.size 38 #[.int .i64 c, .int .i64 d, .int .i64 b, .int .i64 p, V 0, V 1, V 2, V 3, .slice am m.length cm] := (Blk.new w _ _).alloc _
  have hG2 : Blk ((w.alloc (.cells #[.int .i64 c, .int .i64 d, .int .i64 b, .int .i64 p, V 0, V 1, V 2, V 3, .slice am m.length cm] 38)).alloc (.cells #[.int .i64 c, .int .i64 d, .int .i64 b, .int .i64 p] 34)) (w.heap.size + 1) 34 #[.int .i64 c, .int .i64 d, .int .i64 b, .int .i64 p] := Blk.newAt _ _ (by simp) _ _
  have hE2 : w.grownBy ((w.alloc (.cells #[.int .i64 c, .int .i64 d, .int .i64 b, .int .i64 p, V 0, V 1, V 2, V 3, .slice am m.length cm] 38)).alloc (.cells #[.int .i64 c, .int .i64 d, .int .i64 b, .int .i64 p] 34)) none := ext_trans (World.grownBy_alloc w _ none) (World.grownBy_alloc _ _ none)
  obtain ⟨w2, hw2⟩ : ∃ z, (w.alloc (.cells #[.int .i64 c, .int .i64 d, .int .i64 b, .int .i64 p, V 0, V 1, V 2, V 3, .slice am m.length cm] 38)).alloc (.cells #[.int .i64 c, .int .i64 d, .int .i64 b, .int .i64 p] 34) = z := ⟨_, rfl⟩
  obtain ⟨n, hn⟩ : ∃ n, w.heap.size = n := ⟨_, rfl⟩
  rw [hw2, hn] at hB2 hG2
  rw [hw2] at hE2
  rw [hw2, hn]
  have HN := Lib.hid hn
  have g0 : w2.cell? ⟨n + 1, 0, none⟩ = some (.int .i64 c) := hG2.cell 0
  have g1 : w2.cell? ⟨n + 1, 1, none⟩ = some (.int .i64 d) := hG2.cell 1
  have g2 : w2.cell? ⟨n + 1, 2, none⟩ = some (.int .i64 b) := hG2.cell 2
  have g3 : w2.cell? ⟨n + 1, 3, none⟩ = some (.int .i64 p) := hG2.cell 3
  have hI : Ints (w2.alloc (.cells #[.int .i64 c, .int .i64 d, .int .i64 b, .int .i64 p] 3)) (.slice (some ⟨w2.heap.size, 0, none⟩) 4 4) [c, d, b, p] := lit_ints25 w2 [c, d, b, p]
  have hr4 : ∀ k ∈ ([c, d, b, p] : List Int), i64B k := by
    intro k hk
    simp only [List.mem_cons, List.not_mem_nil, or_false] at hk
    rcases hk with rfl | rfl | rfl | rfl
    · exact HR.out.c
    · exact HR.out.d
    · exact HR.out.b
    · exact HR.out.p
  have hl4 := numsL_len hr4
  have HR4 := Lib.hid hr4
  have HI := Lib.hid hI
  have HB2 := Lib.hid hB2
  have HLT := Lib.hid hG2.lt
  have HE2 := Lib.hid hE2
  obtain ⟨r, hr⟩ : ∃ r, numsL [c, d, b, p] = r := ⟨_, rfl⟩
  rw [hr] at hl4
  have HRR := Lib.hid hr
  obtain ⟨r2, hr2⟩ : ∃ r2, arrayS ++ r = r2 := ⟨_, rfl⟩
  have HR2 := Lib.hid hr2
  have HA := Lib.hid (add_c (w2.alloc (.cells #[.int .i64 c, .int .i64 d, .int .i64 b, .int .i64 p] 3)) (HLB.out.ext (ext_trans HE2.out (World.grownBy_alloc w2 _ none))) arrayS _ [c, d, b, p] HI.out HR4.out (by decide) (by simp))
  clear hn hw2 hB2 hG2 hE2 hI hr4 hr hr2 hl4
  go_upto_region 3 with (go_at_call 23; refine HA.out.mono ?_; rintro e w3 ⟨rfl, hg3⟩; rw [HRR.out, HR2.out]; have HE3 := Lib.hid (ext_trans (World.grownBy_alloc w2 _ none) hg3); clear hg3 g0 g1 g2 g3)
  have hB4 := (HB2.out.ext HE3.out).alloc (.cells #[.string (bs r2)] 9)
  have hO4 : OwnS (n + 2) (w3.alloc (.cells #[.string (bs r2)] 9)) (.slice (some ⟨w3.heap.size, 0, none⟩) 1 1) [r2] := ownsRow_le (lit_own1 w3 r2) (by have := HLT.out; have := HE3.out.size; omega)
  have hE4 := ext_trans (ext_trans HE2.out HE3.out) (World.grownBy_alloc w3 (.cells #[.string (bs r2)] 9) none)
  obtain ⟨w4, hw4⟩ : ∃ z, w3.alloc (.cells #[.string (bs r2)] 9) = z := ⟨_, rfl⟩
  rw [hw4] at hB4 hO4 hE4 ⊢
  have c4 : w4.cell? ⟨n, 4, none⟩ = some (V 0) := hB4.cell 4
  have c5 : w4.cell? ⟨n, 5, none⟩ = some (V 1) := hB4.cell 5
  have c6 : w4.cell? ⟨n, 6, none⟩ = some (V 2) := hB4.cell 6
  have c7 : w4.cell? ⟨n, 7, none⟩ = some (V 3) := hB4.cell 7
  have HS0 := Lib.hid (show setF ⟨c, d, b, p, f, m⟩ 0 = [r2] from by rw [← HR2.out, ← HRR.out]; rfl)
  have HB4 := Lib.hid hB4
  have HO4 := Lib.hid hO4
  have HE4 := Lib.hid hE4
  clear hB4 hO4 hE4 hw4 HI HB2 HE2 HE3 HR4 HA
  have HN2 := Lib.hid (show n + 2 ≤ w.heap.size + 2 from by have := HN.out; omega)
  go_wp2
  go_loopw [4, 22] (fun out i wr => ∃ (k : Nat) (v : Value), k ≤ 4 ∧ i = .int .i64 k ∧ v = out ∧ OwnS (n + 2) wr v (setF ⟨c, d, b, p, f, m⟩ k) ∧ v.ownBlock ≠ none ∧ w.grownBy wr none ∧ Blk wr n 38 #[.int .i64 c, .int .i64 d, .int .i64 b, .int .i64 p, V 0, V 1, V 2, V 3, .slice am m.length cm]) (fun _ i _ => 4 - (intOf i).toNat)
  case atStart => exact ⟨0, _, by omega, rfl, rfl, by rw [HS0.out]; exact HO4.out, by simp [Value.ownBlock], HE4.out, HB4.out⟩
  case round =>
    obtain ⟨k, v, hk, rfl, rfl, hO, hnv, hE, hB⟩ := hrel
    have HB := Lib.hid hB
    obtain ⟨L, hL⟩ : ∃ L, setF ⟨c, d, b, p, f, m⟩ k = L := ⟨_, rfl⟩
    have hLl : L.length ≤ 5 := by rw [← hL]; have := setF_len ⟨c, d, b, p, f, m⟩ k; omega
    rw [hL] at hO
    have HO := Lib.hid hO
    have HNV := Lib.hid hnv
    have HE := Lib.hid hE
    have HSL := Lib.hid hL
    obtain ⟨g, cap, rfl, hgB, -⟩ := hO.open hnv
    clear hO hnv hE hL hB c4 c5 c6 c7
    by_cases hlt : k < 4
    · have hix := HIX.out k hlt
      have hv := HS.out.f k hlt
      obtain ⟨ao, ac, fb, fo, hV, -⟩ := hv.form
      simp only at hV
      rw [hV] at hix hv
      have hrf := HR.out.f k hlt
      have hlf := HL.out.f k hlt
      simp only at hrf hlf
      have HSU := Lib.hid (setF_succ ⟨c, d, b, p, f, m⟩ k)
      obtain ⟨l, hl⟩ : ∃ l, f k = l := ⟨_, rfl⟩
      simp only [hl] at hix hv hrf hlf
      have HLK := Lib.hid hl
      have HVV := Lib.hid hv
      have HRF := Lib.hid hrf
      have hln := numsL_len hrf
      clear hV hv hrf hl
      by_cases h0 : l.length = 0
      · have HZ := Lib.hid (show setF ⟨c, d, b, p, f, m⟩ (k + 1) = L from by
          rw [HSU.out, HSL.out]; unfold faultL; rw [if_pos (by simp only; rw [HLK.out]; exact List.length_eq_zero_iff.1 h0), List.append_nil])
        go_wp2
        go_roundw
        case rel => exact ⟨k + 1, _, by omega, by go_num, rfl, by rw [HZ.out]; exact HO.out, HNV.out, HE.out, HB.out⟩
        case measure => simp [intOf]; omega
      · have hlp : 0 < l.length := by omega
        have HZ := Lib.hid (show setF ⟨c, d, b, p, f, m⟩ (k + 1) = L ++ [faultS ++ numsL [(k : Int)] ++ numsL l] from by
          rw [HSU.out, HSL.out]; unfold faultL; rw [if_neg (by simp only; rw [HLK.out]; rintro rfl; exact h0 rfl)]; simp only; rw [HLK.out]; simp [numsL])
        have hl1 := numsL_len (l := [(k : Int)]) (fun q hq => by simp at hq; subst hq; unfold i64B; omega)
        obtain ⟨r3, hr3⟩ : ∃ r3, numsL [(k : Int)] = r3 := ⟨_, rfl⟩
        obtain ⟨r4, hr4⟩ : ∃ r4, numsL l = r4 := ⟨_, rfl⟩
        rw [hr3] at hl1
        rw [hr4] at hln
        have HR3 := Lib.hid hr3
        have HR4 := Lib.hid hr4
        obtain ⟨r5, hr5⟩ : ∃ r5, faultS ++ r3 = r5 := ⟨_, rfl⟩
        obtain ⟨r6, hr6⟩ : ∃ r6, r5 ++ r4 = r6 := ⟨_, rfl⟩
        have h5l : r5.length ≤ 1000 := by rw [← hr5, List.length_append]; simp [faultS] at hl1 ⊢; omega
        have HR6 := Lib.hid (And.intro hr5 hr6)
        have HI := Lib.hid (lit_ints1 wr (k : Int))
        clear hr3 hr4 hr5 hr6 h0 hln hl1
        go_upto_region 8 with (first
          | (at_builtin; refine append_s25 rfl _ _ rfl (n + 2) (.slice (some ⟨g, 0, none⟩) L.length cap) L rfl HO7.out r6 rfl HT7.out (by omega) (by have := HE7.out.2.lt; have := HO7.out.lt g rfl; omega) ?_ (by simp [Value.ownBlock]); intro v' w8 ho8 hg8 hn8; have HO8 := Lib.hid ho8; have HN8 := Lib.hid hn8; have HE8 := Lib.hid (And.intro (show w.grownBy w8 none from grown_trans HE7.out.1 hg8 (fun q hq hlt => by have := HO.out.lt q hq; have := HN.out; omega)) (HE7.out.2.kept hg8 (fun e => by have := HO.out.lt n e.symm; omega))); clear ho8 hg8 hn8)
          | (go_at_call 23; refine (add_c _ (HLB.out.ext (ext_trans HE.out HA5.out)) r5 _ l (HVV.out.kept (ext_trans HE.out HA5.out) (by simp)) HRF.out (by omega) (by omega)).mono ?_; rintro e w6 ⟨rfl, hg6⟩; rw [HR4.out, HR6.out.2]; have hE6 := ext_trans HA5.out hg6; have HO7 := Lib.hid (own_kept25 (own_kept25 HO.out hE6 (by simp)) (World.grownBy_alloc w6 (.cells #[.string (bs r6)] 9) none) (by simp)); have HT7 := Lib.hid (lit_txR w6 (bs r6)); have HE7 := Lib.hid (And.intro (ext_trans (ext_trans HE.out hE6) (World.grownBy_alloc w6 (.cells #[.string (bs r6)] 9) none)) ((HB.out.ext hE6).alloc (.cells #[.string (bs r6)] 9))); clear hg6 hE6)
          | (go_at_call 23; refine (add_c _ (HLB.out.ext (ext_trans HE.out (World.grownBy_alloc wr _ none))) faultS _ [(k : Int)] HI.out (by intro q hq; simp at hq; subst hq; unfold i64B; omega) (by decide) (by simp)).mono ?_; rintro e w5 ⟨rfl, hg5⟩; rw [HR3.out, HR6.out.1]; have HA5 := Lib.hid (ext_trans (World.grownBy_alloc wr (.cells #[.int .i64 (k : Int)] 3) none) hg5); clear hg5))
        go_wp2
        go_roundw
        case rel => exact ⟨k + 1, _, by omega, by go_num, rfl, by rw [HZ.out, HR3.out, HR4.out, HR6.out.1, HR6.out.2]; exact HO8.out, HN8.out, HE8.out.1, HE8.out.2⟩
        case measure => simp [intOf]; omega
    · obtain rfl : k = 4 := by omega
      have c8 : wr.cell? ⟨n, 8, none⟩ = some (.slice am m.length cm) := HB.out.cell 8
      have hlm := HL.out.m
      simp only at hlm
      by_cases h0 : m.length = 0
      · have HZ := Lib.hid (show setupL ⟨c, d, b, p, f, m⟩ = L from by
          rw [setupL_setF, HSL.out, if_pos (List.length_eq_zero_iff.1 h0), List.append_nil])
        go_wp2
        go_ret
        exact ⟨_, rfl, by rw [HZ.out]; exact ownsRow_le HO.out (by have := HN.out; omega), HNV.out, HE.out⟩
      · have hlp : 0 < m.length := by omega
        obtain ⟨r4, hr4⟩ : ∃ r4, numsL m = r4 := ⟨_, rfl⟩
        have hln := numsL_len HR.out.m
        simp only at hln
        rw [hr4] at hln
        have HZ := Lib.hid (show setupL ⟨c, d, b, p, f, m⟩ = L ++ [markedS ++ r4] from by
          rw [setupL_setF, HSL.out, if_neg (by simp only; rintro rfl; exact h0 rfl), ← hr4])
        have HR4 := Lib.hid hr4
        obtain ⟨r6, hr6⟩ : ∃ r6, markedS ++ r4 = r6 := ⟨_, rfl⟩
        have HR6 := Lib.hid hr6
        clear hr4 hr6 h0 hln
        go_upto_region 11 with (first
          | (at_builtin; refine append_s25 rfl _ _ rfl (n + 2) (.slice (some ⟨g, 0, none⟩) L.length cap) L rfl HO7.out r6 rfl HT7.out (by omega) (by have := HE7.out.2.lt; have := HO7.out.lt g rfl; omega) ?_ (by simp [Value.ownBlock]); intro v' w8 ho8 hg8 hn8; have HO8 := Lib.hid ho8; have HN8 := Lib.hid hn8; have HE8 := Lib.hid (show w.grownBy w8 none from grown_trans HE7.out.1 hg8 (fun q hq hlt => by have := HO.out.lt q hq; have := HN.out; omega)); clear ho8 hg8 hn8)
          | (go_at_call 23; refine (add_c _ (HLB.out.ext HE.out) markedS _ m (HS.out.m.kept HE.out (by simp)) HR.out.m (by decide) (by omega)).mono ?_; rintro e w6 ⟨rfl, hg6⟩; rw [HR4.out, HR6.out]; have hE6 := hg6; have HO7 := Lib.hid (own_kept25 (own_kept25 HO.out hE6 (by simp)) (World.grownBy_alloc w6 (.cells #[.string (bs r6)] 9) none) (by simp)); have HT7 := Lib.hid (lit_txR w6 (bs r6)); have HE7 := Lib.hid (And.intro (ext_trans (ext_trans HE.out hE6) (World.grownBy_alloc w6 (.cells #[.string (bs r6)] 9) none)) ((HB.out.ext hE6).alloc (.cells #[.string (bs r6)] 9))); clear hg6 hE6))
        go_wp2
        go_ret
        exact ⟨_, rfl, by rw [HZ.out, HR6.out]; exact ownsRow_le HO8.out (by have := HN.out; omega), HN8.out, HE8.out⟩

end Go.Proofs.YtdaifepjmkmpjaaDoor

/-
  Package script: Print.
-/
namespace Go.Proofs.YtdaifepjmkmpjaaDoor
set_option linter.unusedVariables false
set_option linter.unusedSimpArgs false
set_option linter.unusedVariables false
set_option linter.unusedSimpArgs false
set_option maxRecDepth 100000
open Go.RowKit

theorem join_lib : ∀ (L : List (List UInt8)), Lib.join ((L.map bs).map (·.data.toList)) [10] = joinW 10 L
  | [] => rfl
  | w :: ws => by
    have h : ((w :: ws).map bs).map (·.data.toList) = w :: ws := by
      rw [List.map_map]
      conv => rhs; rw [← List.map_id (w :: ws)]
      rfl
    rw [h, Lib.join_cons]
    unfold Lib.joinTail
    show _ = w ++ ws.flatMap fun v => 10 :: v
    rw [List.flatMap_def]
    rfl
theorem join_text {L : List (List UInt8)} (h : L ≠ []) : joinW 10 L ++ [10] = textOf L := by
  cases L with
  | nil => exact absurd rfl h
  | cons w ws => rw [textOf_cons]; rfl
theorem join_c (L : List (List UInt8)) (B : Nat) (v : Value) (w : World) (h : OwnS B w v L) (hn : v.ownBlock ≠ none) (hl : (joinW 10 L).length ≤ 100000000) (hL : L.length ≤ 1000) :
    Calls Tryd.prog 35 #[v, .string ⟨#[10]⟩] w fun e w' => e = .returned (.string (bs (joinW 10 L))) ∧ w.grownBy w' none := by
  obtain ⟨g, cap, rfl, h1, h2, h3, h4, h5⟩ := h.open hn
  have hlt := (h.lt g rfl).2
  have J := Tryd.strings_Join g 0 cap (L.map bs) ⟨#[10]⟩ w (fun j x hj => by
    rw [List.getElem?_map] at hj
    have hjl : j < L.length := by
      rcases Nat.lt_or_ge j L.length with h | h
      · exact h
      · rw [List.getElem?_eq_none h] at hj; cases hj
    rw [List.getElem?_eq_getElem hjl] at hj
    injection hj with hj
    rw [Nat.zero_add, h5 j hjl, ← hj, List.getD_eq_getElem?_getD, List.getElem?_eq_getElem hjl]
    rfl) hlt (by rw [List.length_map]; omega) (by rw [List.length_map]; exact h2) (by
      show (Lib.join ((L.map bs).map (·.data.toList)) [10]).length ≤ _
      rw [join_lib]; omega)
  rw [List.length_map] at J
  refine J.mono ?_
  rintro e w' ⟨rfl, hb⟩
  refine ⟨?_, ext_below25 hb⟩
  show Ending.returned (.string ⟨(Lib.join ((L.map bs).map (·.data.toList)) [10]).toArray⟩) = _
  rw [join_lib]
  rfl
set_option maxHeartbeats 3200000 in
theorem print_c (w : World) (hLb : Lib25 w) (s : Stu) (V : Nat → Value) (vm : Value) (a : Option Addr) (cap : Nat) (l : List Stp) (hS : StuIs w s V vm) (hr : s.rng) (hf : s.few) (hR : StpR w a l) (hrl : ∀ x ∈ l, x.rng) (hdl : ∀ x ∈ l, x.d.length ≤ 1000) (hl : l.length ≤ 200) :
    Calls Tryd.prog 16 #[.agg (stuC s V vm), .slice a l.length cap] w (PrintA s l w) := by
  have hB := Blk.new w 38 (stuC s V vm)
  have hE := World.grownBy_alloc w (.cells (stuC s V vm) 38) none
  have H := Lib.hid (And.intro hS (And.intro hr (And.intro hf (And.intro hR (And.intro hrl hdl)))))
  have HLB := Lib.hid hLb
  clear hS hr hf hR hrl hdl hLb
  obtain ⟨w1, hw1⟩ : ∃ z, w.alloc (.cells (stuC s V vm) 38) = z := ⟨_, rfl⟩
  rw [hw1] at hB hE
  have hr0 := hB.range25
  have HE := Lib.hid hE
  have HSP := Lib.hid (setup_c w1 (HLB.out.ext hE) s V vm (H.out.1.ext hE) H.out.2.1 H.out.2.2.1)
  have HW := Lib.hid hw1
  clear hB hE hw1
  go_enter Tryd.func16, Tryd.ntmps16
  go_upto_region 1 with fail
  rw [HW.out]
  obtain ⟨L, hL⟩ : ∃ L, setupL s = L := ⟨_, rfl⟩
  have hL6 := setupL_len s
  have hLw := setupL_word H.out.2.1 H.out.2.2.1
  have hLn : L ≠ [] := by rw [← hL]; simp [setupL]
  rw [hL] at HSP hL6 hLw
  have HL := Lib.hid hL
  have HLW := Lib.hid (And.intro hLw hLn)
  clear hL hLw hLn HW
  go_wp2_with (first
    | (go_at_call 18; refine HSP.out.mono ?_; rintro e w2 ⟨v, rfl, hO, hnv, hg2⟩; have HO := Lib.hid hO; have HNV := Lib.hid hnv; have HE2 := Lib.hid (ext_trans HE.out hg2); clear hO hnv hg2 hr0)
    | (refine stu_load rfl _ rfl rfl hr0 ?_))
  clear HSP
  obtain ⟨B, hBB⟩ : ∃ B, w1.heap.size = B := ⟨_, rfl⟩
  rw [hBB] at HO
  have HBB := Lib.hid (show w.heap.size ≤ B from by rw [← hBB]; exact HE.out.size)
  clear hBB
  go_loopw [6, 15] (fun out i wr => ∃ (k : Nat) (v : Value), k ≤ l.length ∧ i = .int .i64 k ∧ v = out ∧ OwnS B wr v (L ++ (l.take k).map lineL) ∧ v.ownBlock ≠ none ∧ (∀ q, q < k → okL (l.getD q noStp) = true) ∧ w.grownBy wr none ∧ B ≤ wr.heap.size) (fun _ i _ => l.length - (intOf i).toNat)
  case atStart => exact ⟨0, _, by omega, rfl, rfl, by simpa using HO.out, HNV.out, (fun q hq => absurd hq (by omega)), HE2.out, by
    obtain ⟨g, c, e, h1, -⟩ := HO.out.open HNV.out
    have := HO.out.lt g (by rw [e]; rfl)
    omega⟩
  case round =>
    obtain ⟨k, v, hk, rfl, rfl, hO, hnv, hQ, hE, hBw⟩ := hrel
    obtain ⟨M, hM⟩ : ∃ M, L ++ (l.take k).map lineL = M := ⟨_, rfl⟩
    have hMl : M.length ≤ 206 := by rw [← hM]; simp; omega
    rw [hM] at hO
    have HO3 := Lib.hid hO
    have HNV3 := Lib.hid hnv
    have HM := Lib.hid hM
    have HQ := Lib.hid hQ
    have HBW := Lib.hid hBw
    obtain ⟨g, gc, rfl, hgB, -⟩ := hO.open hnv
    clear hO hnv hM hQ hBw hgB
    by_cases hlt : k < l.length
    · obtain ⟨b, off, rfl, hrx⟩ := (H.out.2.2.2.1.ext hE) k hlt
      have HT := Lib.hid (take_snocS l k hlt)
      obtain ⟨x, hx⟩ : ∃ x, l.getD k noStp = x := ⟨_, rfl⟩
      have hxm : x ∈ l := by rw [← hx, List.getD_eq_getElem?_getD, List.getElem?_eq_getElem hlt]; exact List.getElem_mem hlt
      rw [hx] at hrx
      have hrg := H.out.2.2.2.2.1 x hxm
      have hd := H.out.2.2.2.2.2 x hxm
      have HX := Lib.hid (And.intro hx (And.intro hrg hd))
      have hBn := Blk.new wr 25 (stpC noStp)
      have HE3 := Lib.hid hE
      clear hx hxm hrg hd hE
      cases hok : okL x
      · have HOK := Lib.hid hok
        clear hok
        go_wp2_with (first
          | (go_at_call 8; refine (line_c _ x (HLB.out.ext (ext_trans HE3.out HE4.out)) HX.out.2.1 HX.out.2.2).mono ?_; rintro e w5 hL; obtain ⟨rfl, hg5⟩ := hL; rw [HOK.out]; have HE5 := Lib.hid (ext_trans HE3.out (ext_trans HE4.out hg5)); clear hr4 hg5)
          | (refine stp_store (z := x) rfl _ _ rfl rfl rfl hBn rfl ?_; intro w4 hb4 hg4 hs4; have hr4 := hb4.range25; have HE4 := Lib.hid (new24 (World.grownBy_alloc wr _ none) hg4 (Nat.le_refl _)); clear hg4 hs4 hb4 hBn)
          | (refine stp_load rfl _ rfl rfl hr4 ?_)
          | (refine stp_load rfl _ rfl rfl hrx ?_))
        go_ret2
        exact printA_no hlt (by rw [HX.out.1, HOK.out]) HE5.out
      · have HOK := Lib.hid hok
        obtain ⟨t, ht⟩ : ∃ t, lineL x = t := ⟨_, rfl⟩
        have HTT := Lib.hid ht
        clear hok ht
        go_upto_region 8 with (first
          | (go_at_call 8; refine (line_c _ x (HLB.out.ext (ext_trans HE3.out HE4.out)) HX.out.2.1 HX.out.2.2).mono ?_; rintro e w5 hL; obtain ⟨rfl, hg5⟩ := hL; rw [HOK.out, if_pos rfl, HTT.out]; have hA5 := ext_trans HE4.out hg5; have HE5 := Lib.hid (ext_trans HE3.out hA5); have HO5 := Lib.hid (own_kept25 HO3.out hA5 (by simp)); clear hr4 hg5 hA5)
          | (refine stp_store (z := x) rfl _ _ rfl rfl rfl hBn rfl ?_; intro w4 hb4 hg4 hs4; have hr4 := hb4.range25; have HE4 := Lib.hid (new24 (World.grownBy_alloc wr _ none) hg4 (Nat.le_refl _)); clear hg4 hs4 hb4 hBn)
          | (refine stp_load rfl _ rfl rfl hr4 ?_)
          | (refine stp_load rfl _ rfl rfl hrx ?_))
        have HO6 := Lib.hid (own_kept25 HO5.out (World.grownBy_alloc w5 (.cells #[.string (bs t)] 9) none) (by simp))
        have HT6 := Lib.hid (lit_txR w5 (bs t))
        have HE6 := Lib.hid (ext_trans HE5.out (World.grownBy_alloc w5 (.cells #[.string (bs t)] 9) none))
        have HB6 := Lib.hid (show B ≤ w5.heap.size + 1 from by have := HO5.out.lt g rfl; omega)
        clear hrx
        go_wp2_with (at_builtin; refine append_s25 rfl _ _ rfl B (.slice (some ⟨g, 0, none⟩) M.length gc) M rfl HO6.out t rfl HT6.out (by omega) (by have := HB6.out; simp; omega) ?_ (by simp [Value.ownBlock]); intro v' w8 ho8 hg8 hn8; have HO8 := Lib.hid ho8; have HN8 := Lib.hid hn8; have HE8 := Lib.hid (show w.grownBy w8 none from grown_trans HE6.out hg8 (fun q hq hlt => by have := HO6.out.lt q hq; have := HBB.out; omega)); have HS8 := Lib.hid hg8.size; clear ho8 hg8 hn8)
        go_roundw
        case rel => exact ⟨k + 1, _, by omega, by go_num, rfl, by rw [HT.out, List.map_append, ← List.append_assoc, HM.out, List.map_cons, List.map_nil, HX.out.1, HTT.out]; exact HO8.out, HN8.out, (fun q hq => by
          by_cases e : q = k
          · subst e; rw [HX.out.1]; exact HOK.out
          · exact HQ.out q (by omega)), HE8.out, by have := HS8.out; have := HB6.out; simp at *; omega⟩
        case measure => simp [intOf]; omega
    · obtain rfl : l.length = k := by omega
      have hMe : M = L ++ l.map lineL := by have := HM.out; rwa [List.take_of_length_le (Nat.le_refl _), eq_comm] at this
      have hlb := textOf_len (ls := M) (m := 40000) (fun w hw => by
        rw [hMe] at hw
        rcases List.mem_append.1 hw with hw | hw
        · exact HLW.out.1 w hw
        · obtain ⟨x, hx, rfl⟩ := List.mem_map.1 hw
          have := lineL_len (H.out.2.2.2.2.1 x hx) (by have := H.out.2.2.2.2.2 x hx; omega)
          omega)
      have hMn : M ≠ [] := by rw [hMe]; simp [HLW.out.2]
      have htx := join_text hMn
      obtain ⟨r, hr⟩ : ∃ r, joinW 10 M = r := ⟨_, rfl⟩
      have hr7 : r.length ≤ 9000000 := by
        have h1 : M.length * (40000 + 1) ≤ 206 * 40001 := Nat.mul_le_mul_right _ hMl
        rw [← htx, hr] at hlb
        simp at hlb
        omega
      have JO := Lib.hid (join_c M B _ wr HO3.out HNV3.out (by rw [hr]; omega) (by omega))
      rw [hr] at JO htx
      have HTX := Lib.hid htx
      have HE3 := Lib.hid hE
      have a1 : ∀ z, (Op.stringOp .add (bs r) ⟨#[10]⟩).run Tryd.prog z = .ok (.string (bs (r ++ [10]))) z := add_bs r [10] (by simp; omega)
      have HME := Lib.hid hMe
      clear hr htx hMn hlb hE hMe
      go_wp2_with (go_at_call 35; refine JO.out.mono ?_; rintro e w5 ⟨rfl, hg5⟩; have HE5 := Lib.hid (ext_trans HE3.out hg5); clear hg5)
      go_ret2
      exact printA_ok (HQ.out) (by rw [HL.out, ← HME.out, ← HTX.out]) HE5.out
end Go.Proofs.YtdaifepjmkmpjaaDoor
