/-
  Texts put together: ScF ScQ.
-/
import Derived.Test.YtdaifepjmkmpjaaDoorM04
import Derived.Test.YtdaifepjmkmpjaaDoorM06
/-
  Layer 25's reference: Line.
-/
namespace Go.Proofs.YtdaifepjmkmpjaaDoor
set_option linter.unusedVariables false
set_option linter.unusedSimpArgs false
set_option linter.unusedVariables false
set_option linter.unusedSimpArgs false
set_option maxRecDepth 100000
open Go.RowKit

/-- A step by value. -/
def stpC (x : Stp) : Array Value := #[.int .i64 x.k, .int .i64 x.t, .int .i64 x.o, .int .i64 x.a, .int .i64 x.b, .int .i64 x.op, .int .i64 x.pl, .string (bs x.d)]
def LineA (x : Stp) (w : World) (e : Ending) (w' : World) : Prop := e = .returned (.tuple #[.string (bs (if okL x then lineL x else [])), .bool (okL x)]) ∧ w.grownBy w' none
/-- What stands when a line is made: the step, its command, what its line tells. -/
structure LnM (w : World) (n : Nat) (x y : Stp) : Prop where
  p : Blk w n 25 (stpC x)
  c : Blk w (n + 1) 23 #[.int .i64 x.op, .int .i64 x.pl, .string (bs x.d)]
  d : Blk w (n + 1 + 1) 25 (stpC y)
theorem LnM.ext {w w' : World} {n : Nat} {x y : Stp} (h : LnM w n x y) (hg : w.grownBy w' none) : LnM w' n x y := ⟨h.p.ext hg, h.c.ext hg, h.d.ext hg⟩
theorem lnM_new (w : World) (x : Stp) : LnM (((w.alloc (.cells (stpC x) 25)).alloc (.cells #[.int .i64 x.op, .int .i64 x.pl, .string (bs x.d)] 23)).alloc (.cells (stpC ⟨x.k, x.t, 0, 0, 0, 0, 0, []⟩) 25)) w.heap.size x ⟨x.k, x.t, 0, 0, 0, 0, 0, []⟩ :=
  ⟨((Blk.new w _ _).alloc _).alloc _, (Blk.newAt _ _ (by simp) _ _).alloc _, Blk.newAt _ _ (by simp) _ _⟩
theorem lnM_grown (w : World) (x y : Stp) (c : Array Value) : w.grownBy (((w.alloc (.cells (stpC x) 25)).alloc (.cells c 23)).alloc (.cells (stpC y) 25)) none :=
  ext_trans (ext_trans (World.grownBy_alloc w _ none) (World.grownBy_alloc _ _ none)) (World.grownBy_alloc _ _ none)
/-- What its line tells is turned. -/
structure LnG (w0 w : World) (n : Nat) (x y : Stp) : Prop where
  m : LnM w n x y
  g : w0.grownBy w none
  l : w0.heap.size ≤ n
theorem LnG.set {w0 w : World} {n i : Nat} {x y z : Stp} {v : Value} (h : LnG w0 w n x y) (hz : (stpC y).setIfInBounds i v = stpC z) : LnG w0 (w.setCell ⟨n + 1 + 1, i, none⟩ v) n x z :=
  ⟨⟨h.m.p.far (by show n ≠ n + 1 + 1; omega) _, h.m.c.far (by show n + 1 ≠ n + 1 + 1; omega) _, hz ▸ h.m.d.set i v⟩, grown_trans h.g (grown_set w ⟨n + 1 + 1, i, none⟩ v) (fun p hp hlt => by injection hp with hp; have := h.l; simp only at hp; omega), h.l⟩
theorem LnG.drew {w0 w : World} {n : Nat} {x y : Stp} (h : LnG w0 w n x y) : LnG w0 w.drew n x y := ⟨h.m.ext (Ext.drew w), ext_trans h.g (Ext.drew w), h.l⟩
theorem LnG.ext {w0 w w' : World} {n : Nat} {x y : Stp} (h : LnG w0 w n x y) (hg : w.grownBy w' none) : LnG w0 w' n x y := ⟨h.m.ext hg, ext_trans h.g hg, h.l⟩
theorem Tryd.sizeStp25 : (Tryd.prog.info? 25).map (·.size) = some 8 := by kernel_rfl
section
variable {ops : Array Oper} {rest : List Oper} {o : Oper} {a : Act} {w : World} {Q : Exit → Act → World → Prop}
theorem stp_load (hgd : o.guard = none) (x : Operand) (ho : o.op = .load 25 x) {b off : Nat} (hx : a.eval x = .pointer (some ⟨b, off, none⟩)) {y : Stp} (hr : w.rangeAt b off (stpC y).toList)
    (h : wpList Tryd.prog ops Q rest (a.put o.dst (.agg (stpC y))) w) : wpList Tryd.prog ops Q (o :: rest) a w :=
  wpList_load_mid hgd _ x ho b off hx _ _ hr Tryd.underlying25 rfl (by rw [Tryd.sizeStp25]; rfl) (by simpa using h)
end
theorem Blk.range25 {w : World} {g : Nat} {t : TypeId} {cs : Array Value} (h : Blk w g t cs) : w.rangeAt g 0 cs.toList := fun j u hj => by
  rw [Nat.zero_add, h.cell j, ← hj, Array.getElem?_toList]
/-- Whether two steps are two. -/
theorem stp_neq (x y : Stp) (w : World) : (binOp .neq 25 (.agg (stpC x)) (.agg (stpC y))).run Tryd.prog w = .ok (.bool (!decide (x = y))) w := by
  obtain ⟨k, t, o, a, b, op, pl, d⟩ := x
  obtain ⟨k', t', o', a', b', op', pl', d'⟩ := y
  have hE : ∀ W : World, (binOp .neq 25 (.agg (stpC ⟨k, t, o, a, b, op, pl, d⟩)) (.agg (stpC ⟨k', t', o', a', b', op', pl', d'⟩))).run Tryd.prog W = .ok (.bool (!(k == k' && t == t' && o == o' && a == a' && b == b' && op == op' && pl == pl' && d == d'))) W := fun W => by
    unfold stpC
    simp only
    cases h0 : k == k'
    · simp [go_sem, bs_toList, h0]
    cases h1 : t == t'
    · simp [go_sem, bs_toList, h0, h1]
    cases h2 : o == o'
    · simp [go_sem, bs_toList, h0, h1, h2]
    cases h3 : a == a'
    · simp [go_sem, bs_toList, h0, h1, h2, h3]
    cases h4 : b == b'
    · simp [go_sem, bs_toList, h0, h1, h2, h3, h4]
    cases h5 : op == op'
    · simp [go_sem, bs_toList, h0, h1, h2, h3, h4, h5]
    cases h6 : pl == pl'
    · simp [go_sem, bs_toList, h0, h1, h2, h3, h4, h5, h6]
    cases h7 : d == d'
    · simp [go_sem, bs_toList, h0, h1, h2, h3, h4, h5, h6, h7]
    simp [go_sem, bs_toList, h0, h1, h2, h3, h4, h5, h6, h7]
  rw [hE]
  congr 3
  rw [Bool.eq_iff_iff]
  simp [Stp.mk.injEq, and_assoc]
theorem stp_neq_op {ops : Array Oper} {rest : List Oper} {o : Oper} {a : Act} {w : World} {Q : Exit → Act → World → Prop} (hgd : o.guard = none) (x y : Operand) (ho : o.op = .binOp .neq 25 x y 25) {u v : Stp} {r : Bool} (hr : decide (u = v) = r) (hx : a.eval x = .agg (stpC u)) (hy : a.eval y = .agg (stpC v))
    (h : wpList Tryd.prog ops Q rest (a.put o.dst (.bool (!r))) w) : wpList Tryd.prog ops Q (o :: rest) a w := by
  subst hr
  refine wpList_plain hgd fun K hK => ?_
  have hm : Tryd.prog.eqGuardType Tryd.prog.depth 25 = false := by kernel_rfl
  unfold Oper.wp execOp
  simp only [ho, hx, hy, Sem.run_bind, run_eqGuard_agg w .neq 25 x y (stpC u) (stpC v) hm, stp_neq, Result.andThen_ok, Sem.run_pure]
  exact hK _ _ h
theorem lit_ints (w : World) (l : List Int) : Ints (w.alloc (.cells (l.map (Value.int .i64)).toArray 3)) (.slice (some ⟨w.heap.size, 0, none⟩) l.length l.length) l :=
  Ints.cells (Nat.le_refl _) fun i hi => by
    rw [cell_of_row _ w.heap.size (0 + i) _ 3 (0, 0) (heap_alloc_new w _), Nat.zero_add]
    simp [List.getElem?_eq_getElem hi, List.getD_eq_getElem?_getD]

/-- What a line comes to. -/
theorem line_ok {x : Stp} {j : Nat} (h : kdL x = j) (hj : j < 11) (hw : wantL j x = x) (w w' : World) (hg : w.grownBy w' none) {s : List UInt8} (hs : spellL j x = s) : LineA x w (.returned (.tuple #[.string (bs s), .bool true])) w' := by
  have ho : okL x = true := by simp [okL, h, hj, hw]
  refine ⟨?_, hg⟩
  rw [ho, if_pos rfl, ← hs]
  unfold lineL
  rw [h]
theorem line_no {x : Stp} {j : Nat} (h : kdL x = j) (hw : j < 11 → wantL j x ≠ x) (w w' : World) (hg : w.grownBy w' none) : LineA x w (.returned (.tuple #[.string ⟨#[]⟩, .bool false])) w' := by
  have ho : okL x = false := by
    by_cases hj : j < 11
    · simp [okL, h, hw hj]
    · simp [okL, h]; omega
  refine ⟨?_, hg⟩
  rw [ho]; rfl
theorem spell_nums (j : Nat) (x : Stp) (l : List Int) (h : wordsL j x = l.map numL) : spellL j x = nmL j ++ numsL l := by
  unfold spellL; rw [h, numsL_words]

end Go.Proofs.YtdaifepjmkmpjaaDoor

/-
  Layer 25's reference: Same.
-/
namespace Go.Proofs.YtdaifepjmkmpjaaDoor
set_option linter.unusedVariables false
set_option linter.unusedSimpArgs false
set_option linter.unusedVariables false
set_option linter.unusedSimpArgs false
set_option maxRecDepth 100000
open Go.RowKit

theorem Tryd.sizeStu25 : (Tryd.prog.info? 38).map (·.size) = some 9 := by kernel_rfl
section
variable {ops : Array Oper} {rest : List Oper} {o : Oper} {a : Act} {w : World} {Q : Exit → Act → World → Prop}
theorem stu_load (hgd : o.guard = none) (x : Operand) (ho : o.op = .load 38 x) {b off : Nat} (hx : a.eval x = .pointer (some ⟨b, off, none⟩)) {s : Stu} {V : Nat → Value} {vm : Value} (hr : w.rangeAt b off (stuC s V vm).toList)
    (h : wpList Tryd.prog ops Q rest (a.put o.dst (.agg (stuC s V vm))) w) : wpList Tryd.prog ops Q (o :: rest) a w :=
  wpList_load_mid hgd _ x ho b off hx _ _ hr Tryd.underlying38 rfl (by rw [Tryd.sizeStu25]; rfl) (by simpa using h)
end
theorem OwnS.cells {B : Nat} {w : World} {g n cap : Nat} {L : List (List UInt8)} (h : OwnS B w (.slice (some ⟨g, 0, none⟩) n cap) L) : n = L.length ∧ ∀ i, i < L.length → w.cell? ⟨g, i, none⟩ = some (.string (bs (L.getD i []))) := by
  obtain ⟨g', cap', he, _, _, _, _, hc⟩ := OwnS.open (v := .slice (some ⟨g, 0, none⟩) n cap) h (by simp [Value.ownBlock])
  simp only [Value.slice.injEq, Option.some.injEq, Addr.mk.injEq] at he
  obtain ⟨⟨rfl, -, -⟩, rfl, rfl⟩ := he
  exact ⟨rfl, hc⟩
theorem setupL_len (s : Stu) : (setupL s).length ≤ 6 := by
  rw [setupL_setF, List.length_append]
  have := setF_len s 4
  split <;> simp <;> omega
theorem list_ext25 {α : Type} {d : α} {L M : List α} (h : L.length = M.length) (hq : ∀ q, q < L.length → L.getD q d = M.getD q d) : L = M := by
  apply List.ext_getElem h
  intro q h1 h2
  have := hq q h1
  rw [List.getD_eq_getElem?_getD, List.getD_eq_getElem?_getD, List.getElem?_eq_getElem h1, List.getElem?_eq_getElem h2] at this
  exact this
set_option maxHeartbeats 1600000 in
theorem same25 (w : World) (s u : Stu) (V U : Nat → Value) (vm um : Value) (hS : StuIs w s V vm) (hU : StuIs w u U um) (hrs : s.rng) (hru : u.rng) (hls : s.few) (hlu : u.few) :
    Calls Tryd.prog 15 #[.agg (stuC s V vm), .agg (stuC u U um)] w fun e w' => e = .returned (.bool (decide (setupL s = setupL u))) ∧ w.grownBy w' none := by
  have hB1 : Blk ((w.alloc (.cells (stuC s V vm) 38)).alloc (.cells (stuC u U um) 38)) w.heap.size 38 (stuC s V vm) := (Blk.new w _ _).alloc _
  have hB2 : Blk ((w.alloc (.cells (stuC s V vm) 38)).alloc (.cells (stuC u U um) 38)) (w.heap.size + 1) 38 (stuC u U um) := Blk.newAt _ _ (by simp) _ _
  have hE2 : w.grownBy ((w.alloc (.cells (stuC s V vm) 38)).alloc (.cells (stuC u U um) 38)) none := ext_trans (World.grownBy_alloc w _ none) (World.grownBy_alloc _ _ none)
  have H := Lib.hid (And.intro hS (And.intro hU (And.intro hrs (And.intro hru (And.intro hls hlu)))))
  clear hS hU hrs hru hls hlu
  go_enter Tryd.func15, Tryd.ntmps15
  go_upto_region 1 with fail
  obtain ⟨w2, hw2⟩ : ∃ z, (w.alloc (.cells (stuC s V vm) 38)).alloc (.cells (stuC u U um) 38) = z := ⟨_, rfl⟩
  rw [hw2] at hB1 hB2 hE2 ⊢
  have r1 := hB1.range25
  have r2 := hB2.range25
  have HE2 := Lib.hid hE2
  have hS : (fun z : World => z.rangeAt w.heap.size 0 (stuC s V vm).toList ∧ z.rangeAt (w.heap.size + 1) 0 (stuC u U um).toList) w2.drew := ⟨r1, r2⟩
  have HBB := Lib.hid (And.intro hB1 hB2)
  clear hw2 hB1 hB2 hE2 r1 r2
  obtain ⟨n, hn⟩ : ∃ n, w.heap.size = n := ⟨_, rfl⟩
  rw [hn] at hS HBB ⊢
  have HN := Lib.hid hn
  clear hn
  refine region_line [(0, true), (2, true), (1, false), (3, false), (4, true), (5, true)] (fun z => z.rangeAt n 0 (stuC s V vm).toList ∧ z.rangeAt (n + 1) 0 (stuC u U um).toList) (by kernel_rfl) (by kernel_rfl) (fun _ _ _ d _ h => by cases d <;> exact h) hS ?_
  iterate 2 (refine line_read (a' := ?_) rfl (by kernel_rfl) (by kernel_rfl) hS (fun z hz K hK => ?_) ?_; rotate_left; · (obtain ⟨z1, z2⟩ := hz; go_wp2_with (first | (refine stu_load rfl _ rfl rfl z1 ?_) | (refine stu_load rfl _ rfl rfl z2 ?_)); exact hK))
  have SP := fun (wx : World) (hE : w2.drew.grownBy wx none) => setup25 wx s V vm (H.out.1.ext (ext_trans HE2.out (ext_trans (Ext.drew w2) hE))) H.out.2.2.1 H.out.2.2.2.2.1
  have SU := fun (wx : World) (hE : w2.drew.grownBy wx none) => setup25 wx u U um (H.out.2.1.ext (ext_trans HE2.out (ext_trans (Ext.drew w2) hE))) H.out.2.2.2.1 H.out.2.2.2.2.2
  have HSP := Lib.hid SP
  have HSU := Lib.hid SU
  clear SP SU
  refine line_act rfl fun K hK => ?_
  go_wp2_with (go_at_call 19; refine (HSP.out _ (Ext.refl _)).mono ?_; rintro e w3 ⟨v, rfl, hO, hnv, hg3⟩)
  have hS3 : (fun z : World => z.rangeAt n 0 (stuC s V vm).toList ∧ z.rangeAt (n + 1) 0 (stuC u U um).toList) w3 := ⟨(HBB.out.1.ext (ext_trans (Ext.drew w2) hg3)).range25, (HBB.out.2.ext (ext_trans (Ext.drew w2) hg3)).range25⟩
  refine hK _ _ (fun z => z.rangeAt n 0 (stuC s V vm).toList ∧ z.rangeAt (n + 1) 0 (stuC u U um).toList) hS3 (fun _ h => h) ?_
  clear hK K hS
  refine line_act rfl fun K hK => ?_
  go_wp2_with (go_at_call 19; refine (HSU.out _ hg3).mono ?_; rintro e w4 ⟨v4, rfl, hO4, hnv4, hg4⟩)
  have hS4 : (fun z : World => z.rangeAt n 0 (stuC s V vm).toList ∧ z.rangeAt (n + 1) 0 (stuC u U um).toList) w4 := ⟨(HBB.out.1.ext (ext_trans (Ext.drew w2) (ext_trans hg3 hg4))).range25, (HBB.out.2.ext (ext_trans (Ext.drew w2) (ext_trans hg3 hg4))).range25⟩
  refine hK _ _ (fun z => z.rangeAt n 0 (stuC s V vm).toList ∧ z.rangeAt (n + 1) 0 (stuC u U um).toList) hS4 (fun _ h => h) ?_
  clear hK K hS3
  iterate 2 (refine line_read (a' := ?_) rfl (by kernel_rfl) (by kernel_rfl) hS4 (fun z hz K hK => ?_) ?_; rotate_left; · (go_wp2; exact hK))
  refine line_end ?_
  have hl1 := setupL_len s
  have hl2 := setupL_len u
  obtain ⟨L, hL⟩ : ∃ L, setupL s = L := ⟨_, rfl⟩
  obtain ⟨M, hM⟩ : ∃ M, setupL u = M := ⟨_, rfl⟩
  rw [hL] at hO hl1
  rw [hM] at hO4 hl2
  obtain ⟨g, cap, rfl, -, -, -, -, hc⟩ := hO.open hnv
  obtain ⟨g4, cap4, rfl, -, -, -, -, hc4⟩ := hO4.open hnv4
  have HC := Lib.hid (show ∀ i, i < L.length → w4.cell? ⟨g, i, none⟩ = some (.string (bs (L.getD i []))) from fun i hi => hg4.cell (hc i hi) (by simp))
  have HC4 := Lib.hid hc4
  have HE4 := Lib.hid (ext_trans HE2.out (ext_trans (Ext.drew w2) (ext_trans hg3 hg4)))
  have HLM := Lib.hid (And.intro hL hM)
  clear hS4 HBB HSP HSU hO hO4 hnv hnv4 hc hc4 hg3 hg4 hL hM H HE2
  by_cases hlen : L.length = M.length
  · obtain ⟨k0, hk0⟩ : ∃ k0, L.length = k0 := ⟨_, rfl⟩
    have hk1 : M.length = k0 := by omega
    rw [hk0] at hl1 HC
    rw [hk1] at HC4
    rw [hk0, hk1]
    have HK := Lib.hid (And.intro hk0 hk1)
    clear hlen hk0 hk1 hl2
    go_wp2
    go_loopw [19] (fun i wr => ∃ j : Nat, j ≤ k0 ∧ i = .int .i64 j ∧ (∀ q, q < j → L.getD q [] = M.getD q []) ∧ w4.grownBy wr none) (fun i _ => k0 - (intOf i).toNat)
    case atStart => exact ⟨0, by omega, rfl, (fun q hq => absurd hq (by omega)), Ext.refl w4⟩
    case round =>
      obtain ⟨j, hj, rfl, hQ, hE⟩ := hrel
      by_cases hlt : j < k0
      · have hd := ext_trans hE (Ext.drew wr)
        obtain ⟨x, hx⟩ : ∃ x, L.getD j [] = x := ⟨_, rfl⟩
        obtain ⟨y, hy⟩ : ∃ y, M.getD j [] = y := ⟨_, rfl⟩
        have c1 := hd.cell (HC.out j hlt) (by simp)
        have c2 := hd.cell (HC4.out j hlt) (by simp)
        rw [hx] at c1
        rw [hy] at c2
        have hS : (fun z : World => z.cell? ⟨g, j, none⟩ = some (.string (bs x)) ∧ z.cell? ⟨g4, j, none⟩ = some (.string (bs y))) wr.drew := ⟨c1, c2⟩
        have HD := Lib.hid hd
        have HX := Lib.hid (And.intro hx (And.intro hy hQ))
        clear hE hd hx hy c1 c2 hQ
        go_upto_region 7 with fail
        refine region_line [(0, true), (1, true), (2, true), (3, true), (4, true), (5, true), (6, true), (7, true), (8, true)] (fun z => z.cell? ⟨g, j, none⟩ = some (.string (bs x)) ∧ z.cell? ⟨g4, j, none⟩ = some (.string (bs y))) (by kernel_rfl) (by kernel_rfl) (fun _ _ _ d _ h => by cases d <;> exact h) hS ?_
        iterate 8 (refine line_read (a' := ?_) rfl (by kernel_rfl) (by kernel_rfl) hS (fun z hz K hK => ?_) ?_; rotate_left; · (obtain ⟨d0, d1⟩ := hz; go_wp2; exact hK))
        by_cases e : x = y
        · have hb : ((bs x).toList == (bs y).toList) = true := by rw [bs_toList, bs_toList, beq_iff_eq]; exact e
          have HQ2 := Lib.hid (show ∀ q, q < j + 1 → L.getD q [] = M.getD q [] from fun q hq => by
            by_cases e' : q = j
            · subst e'; rw [HX.out.1, HX.out.2.1, e]
            · exact HX.out.2.2 q (by omega))
          clear e
          refine line_read (a' := ?_) rfl (by kernel_rfl) (by kernel_rfl) hS (fun z hz K hK => ?_) ?_
          rotate_left
          · clear hz; go_wp2; exact hK
          refine line_end ?_
          clear hS
          go_wp2
          go_roundw
          case rel => exact ⟨j + 1, by omega, by go_num, HQ2.out, HD.out⟩
          case measure => simp [intOf]; omega
        · have hb : ((bs x).toList == (bs y).toList) = false := by rw [bs_toList, bs_toList, beq_eq_false_iff_ne]; exact e
          have HNE := Lib.hid (show L ≠ M from fun h => e (by rw [← HX.out.1, ← HX.out.2.1, h]))
          clear e
          refine line_read (a' := ?_) rfl (by kernel_rfl) (by kernel_rfl) hS (fun z hz K hK => ?_) ?_
          rotate_left
          · clear hz; go_wp2; exact hK
          refine line_end ?_
          clear hS
          go_wp2
          go_ret
          exact ⟨by rw [HLM.out.1, HLM.out.2, decide_eq_false HNE.out]; rfl, ext_trans HE4.out HD.out⟩
      · have HEQ := Lib.hid (show L = M from list_ext25 (by rw [HK.out.1, HK.out.2]) (fun q hq => hQ q (by have := HK.out.1; omega)))
        have HE5 := Lib.hid (ext_trans HE4.out hE)
        clear hQ hE
        go_wp2
        go_ret
        exact ⟨by rw [HLM.out.1, HLM.out.2, decide_eq_true HEQ.out]; rfl, HE5.out⟩
  · have HNE := Lib.hid (show L ≠ M from fun h => hlen (by rw [h]))
    have hb : ((L.length : Int) == (M.length : Int)) = false := by rw [beq_eq_false_iff_ne]; omega
    clear hlen
    go_wp2
    go_ret
    exact ⟨by rw [HLM.out.1, HLM.out.2, decide_eq_false HNE.out]; rfl, HE4.out⟩

end Go.Proofs.YtdaifepjmkmpjaaDoor
