/-
  Texts put together: ScV ScW ScX ScY EZ.
-/
import Derived.Test.YtdaifepjmkmpjaaDoorM20
import Derived.Test.YtdaifepjmkmpjaaDoorM03
import Derived.Test.YtdaifepjmkmpjaaDoorM01
import Derived.OpenShut
import Derived.WideShapes
/-
  Layer 25's law: same; ScriptTexts over contracts.
-/
namespace Go.Proofs.YtdaifepjmkmpjaaDoor
set_option linter.unusedVariables false
set_option linter.unusedSimpArgs false
set_option linter.unusedVariables false
set_option linter.unusedSimpArgs false
set_option maxRecDepth 100000
open Go.RowKit

set_option maxHeartbeats 1600000 in
theorem lawSame25 (w : World) (a b : Option Addr) (ca cb : Nat) (l m : List Stp) (h1 : StpR w a l) (h2 : StpR w b m) (hl : l.length ≤ 9000000) (hm : m.length ≤ 9000000) :
    Calls Tryd.prog 14 #[.slice a l.length ca, .slice b m.length cb] w fun e w' => e = .returned (.bool (decide (l = m))) ∧ w.grownBy w' none := by
  by_cases hlen : l.length = m.length
  · have HL := Lib.hid hlen
    obtain ⟨n, hn⟩ : ∃ n, l.length = n := ⟨_, rfl⟩
    have hn2 : m.length = n := by omega
    have HN := Lib.hid (And.intro hn hn2)
    rw [hn] at hl
    rw [hn, hn2]
    have H1 := Lib.hid h1
    have H2 := Lib.hid h2
    clear h1 h2 hlen hn hn2 hm
    go_enter Tryd.func14, Tryd.ntmps14
    go_wp2
    go_loopw [13] (fun i wr => ∃ j : Nat, j ≤ n ∧ i = .int .i64 j ∧ (∀ q, q < j → l.getD q noStp = m.getD q noStp) ∧ w.grownBy wr none) (fun i _ => n - (intOf i).toNat)
    case atStart => exact ⟨0, by omega, rfl, (fun q hq => absurd hq (by omega)), Ext.refl w⟩
    case round =>
      obtain ⟨j, hj, rfl, hQ, hE⟩ := hrel
      by_cases hlt : j < n
      · have hd := ext_trans hE (Ext.drew wr)
        obtain ⟨g1, o1, rfl, r1⟩ := (H1.out.ext hd) j (by rw [HN.out.1]; exact hlt)
        obtain ⟨g2, o2, rfl, r2⟩ := (H2.out.ext hd) j (by rw [HN.out.2]; exact hlt)
        obtain ⟨x, hx⟩ : ∃ x, l.getD j noStp = x := ⟨_, rfl⟩
        obtain ⟨y, hy⟩ : ∃ y, m.getD j noStp = y := ⟨_, rfl⟩
        rw [hx] at r1
        rw [hy] at r2
        have hS : (fun z : World => z.rangeAt g1 (o1 + j * 8) (stpC x).toList ∧ z.rangeAt g2 (o2 + j * 8) (stpC y).toList) wr.drew := ⟨r1, r2⟩
        have HD := Lib.hid hd
        have HX := Lib.hid (And.intro hx (And.intro hy hQ))
        clear hE hd hx hy r1 r2 hQ
        go_wp2
        refine region_line [(0, true), (1, true), (2, true), (3, true), (4, true), (5, true), (6, true), (7, true), (8, true)] (fun z => z.rangeAt g1 (o1 + j * 8) (stpC x).toList ∧ z.rangeAt g2 (o2 + j * 8) (stpC y).toList) (by kernel_rfl) (by kernel_rfl) (fun _ _ _ d _ h => by cases d <;> exact h) hS ?_
        iterate 8 (refine line_read (a' := ?_) rfl (by kernel_rfl) (by kernel_rfl) hS (fun z hz K hK => ?_) ?_; rotate_left; · (obtain ⟨z1, z2⟩ := hz; go_wp2_with (first | (refine stp_load rfl _ rfl rfl z1 ?_) | (refine stp_load rfl _ rfl rfl z2 ?_)); exact hK))
        by_cases e : x = y
        · have HNN := Lib.hid (show decide (x = y) = true from by simpa using e)
          have HQ2 := Lib.hid (show ∀ q, q < j + 1 → l.getD q noStp = m.getD q noStp from fun q hq => by
            by_cases e' : q = j
            · subst e'; rw [HX.out.1, HX.out.2.1, e]
            · exact HX.out.2.2 q (by omega))
          clear e
          refine line_read (a' := ?_) rfl (by kernel_rfl) (by kernel_rfl) hS (fun z hz K hK => ?_) ?_
          rotate_left
          · go_wp2_with (refine stp_neq_op rfl _ _ rfl HNN.out rfl rfl ?_)
            exact hK
          refine line_end ?_
          clear hS
          go_wp2
          go_roundw
          case rel => exact ⟨j + 1, by omega, by go_num, HQ2.out, HD.out⟩
          case measure => simp [intOf]; omega
        · have HNN := Lib.hid (show decide (x = y) = false from by simpa using e)
          have HNE := Lib.hid (show l ≠ m from fun h => e (by rw [← HX.out.1, ← HX.out.2.1, h]))
          clear e
          refine line_read (a' := ?_) rfl (by kernel_rfl) (by kernel_rfl) hS (fun z hz K hK => ?_) ?_
          rotate_left
          · go_wp2_with (refine stp_neq_op rfl _ _ rfl HNN.out rfl rfl ?_)
            exact hK
          refine line_end ?_
          clear hS
          go_wp2
          go_ret
          exact ⟨by rw [decide_eq_false HNE.out]; rfl, HD.out⟩
      · have HEQ := Lib.hid (show l = m from list_ext25 HL.out (fun q hq => hQ q (by have := HN.out.1; omega)))
        have HE5 := Lib.hid hE
        clear hQ hE
        go_wp2
        go_ret
        exact ⟨by rw [decide_eq_true HEQ.out]; rfl, HE5.out⟩
  · have HNE := Lib.hid (show l ≠ m from fun h => hlen (by rw [h]))
    have hb : ((l.length : Int) == (m.length : Int)) = false := by rw [beq_eq_false_iff_ne]; omega
    clear hlen h1 h2
    go_enter Tryd.func14, Tryd.ntmps14
    go_wp2
    go_ret
    exact ⟨by rw [decide_eq_false HNE.out]; rfl, Ext.refl w⟩

end Go.Proofs.YtdaifepjmkmpjaaDoor

/-
  Layer 25's law: ScriptTexts over contracts.
-/
namespace Go.Proofs.YtdaifepjmkmpjaaDoor
set_option linter.unusedVariables false
set_option linter.unusedSimpArgs false
set_option linter.unusedVariables false
set_option linter.unusedSimpArgs false
set_option maxRecDepth 100000
open Go.RowKit

theorem stu_load_w {ops : Array Oper} {rest : List Oper} {o : Oper} {a : Act} {w : World} {Q : Exit → Act → World → Prop} (hwt : Region.wanted o (yielded ops a.tmps) = true) (x : Operand) (ho : o.op = .load 38 x) {b off : Nat} (hx : a.eval x = .pointer (some ⟨b, off, none⟩)) {s : Stu} {V : Nat → Value} {vm : Value} (hr : w.rangeAt b off (stuC s V vm).toList)
    (h : wpList Tryd.prog ops Q rest (a.put o.dst (.agg (stuC s V vm))) w) : wpList Tryd.prog ops Q (o :: rest) a w := by
  refine wpList_want hwt fun K hK => wp_load_mid 38 x ho b off hx _ _ hr Tryd.underlying38 rfl (by rw [Tryd.sizeStu25]; rfl) (hK _ _ (by simpa using h))
theorem StuIs.slv {w : World} {s : Stu} {V : Nat → Value} {vm : Value} (h : StuIs w s V vm) : (∀ t, t < 4 → SliceV (V t)) ∧ SliceV vm := ⟨fun t ht => (h.f t ht).slice, h.m.slice⟩
set_option maxHeartbeats 1600000 in
theorem scriptTexts_any (PC : ParC25) (FC : Fix25) (w : World) (hLb : Lib25 w) (s : ByteArray) (hs : s.size ≤ 9223372036854775807) :
    Calls Tryd.prog 5 #[.string s] w fun e w' => e = .returned (.bool true) ∧ w.grownBy w' none := by
  have HPC := Lib.hid PC
  have HLB := Lib.hid hLb
  have HFC := Lib.hid FC
  have HSZ := Lib.hid hs
  clear PC FC hs hLb
  go_enter Tryd.func5, Tryd.ntmps5
  by_cases h2 : 1500 < s.size
  · go_wp2_with (first | (go_at_call 7; refine (HFC.out _ HLB.out).mono ?_; rintro e w1 ⟨rfl, hg1⟩))
    go_ret
    exact ⟨rfl, hg1⟩
  · have hb : decide ((1500 : Int) < (s.size : Int)) = false := by rw [decide_eq_false_iff_not]; omega
    obtain ⟨⟨u, st, z⟩, hP⟩ : ∃ P, parseL s.data.toList = P := ⟨_, rfl⟩
    have HP := Lib.hid hP
    have HL := Lib.hid h2
    have HLN2 := Lib.hid (show (splitL 10 s.data.toList).length ≤ 4000 from by
      have h1 := splitL_length (b := 10) s.data.toList
      have h3 : s.data.toList.length = s.size := by simp
      omega)
    clear hP
    go_upto_region 7 with (first
      | (go_at_call 7; refine (HFC.out _ HLB.out).mono ?_; rintro e w1 ⟨rfl, hg1⟩; have HG1 := Lib.hid hg1; clear hg1)
      | (go_at_call 13; refine (parse25 _ s (by have := HL.out; omega)).mono ?_; intro e w4 hpa; unfold ParA at hpa; rw [HP.out] at hpa; obtain ⟨U, um, v4, rfl, hU, hv4, hn4, hg4⟩ := hpa; obtain ⟨a4, c4, rfl, hr4⟩ := hv4; have HU := Lib.hid hU; have HR4 := Lib.hid hr4; have HN4 := Lib.hid hn4; have hBn4 := Blk.new w4 38 (stuC noStu (fun _ => nl25) nl25); have HB4 := Lib.hid (HB3.out.ext hg4); have HG4 := Lib.hid (And.intro (ext_trans HG3.out hg4) hg4); clear hg4 hU hr4 hn4)
      | (go_at_call 12; refine (HPC.out _ (HLB.out.ext HG1.out) s (by have := HL.out; omega) HLN2.out).mono ?_; intro e w2 hpa; unfold ParP at hpa; rw [HP.out] at hpa; obtain ⟨V, vm, v2, rfl, hV, hv2, hg2⟩ := hpa; obtain ⟨a2, c2, rfl, hr2⟩ := hv2; have HV := Lib.hid hV; have HR2 := Lib.hid hr2; have hBn := Blk.new w2 38 (stuC noStu (fun _ => nl25) nl25); have HG2 := Lib.hid (ext_trans HG1.out hg2); clear hg2 hV hr2)
      | (refine stu_store (s := u) (V := U) (vm := um) rfl _ _ rfl rfl HU.out.slv.1 HU.out.slv.2 rfl hBn4 rfl ?_; intro w5 hb5 hg5 hs5; have hE5 := new24 (World.grownBy_alloc w4 _ none) hg5 (Nat.le_refl _); have r5 := hb5.range25; have r3 := (HB4.out.ext hE5).range25; have HG5 := Lib.hid (And.intro (ext_trans HG4.out.1 hE5) (And.intro (ext_trans HG4.out.2 hE5) hE5)); clear hb5 hg5 hs5 hBn4 hE5)
      | (refine stu_store (s := u) (V := V) (vm := vm) rfl _ _ rfl rfl HV.out.slv.1 HV.out.slv.2 rfl hBn rfl ?_; intro w3 hb3 hg3 hs3; have hE3 := new24 (World.grownBy_alloc w2 _ none) hg3 (Nat.le_refl _); have HB3 := Lib.hid hb3; have HG3 := Lib.hid (ext_trans HG2.out hE3); have HE3 := Lib.hid hE3; clear hb3 hg3 hs3 hBn hE3))
    have hE25 := ext_trans HE3.out HG5.out.2.1
    have V5 := Lib.hid (HV.out.ext hE25)
    have U5 := Lib.hid (HU.out.ext HG5.out.2.2)
    have R2 := Lib.hid (HR2.out.ext hE25)
    have R4 := Lib.hid (HR4.out.ext HG5.out.2.2)
    have hst1 : st.length ≤ 1600 := HN4.out.2.2.2
    have HRG := Lib.hid (And.intro r3 r5)
    clear hE25 r3 r5
    go_wp2_with (first
      | (go_at_call 15; refine (same25 _ u u V U vm um (V5.out.ext HG6.out) (U5.out.ext HG6.out) HN4.out.1 HN4.out.1 HN4.out.2.1 HN4.out.2.1).mono ?_; rintro e w7 ⟨rfl, hg7⟩; rw [show decide (setupL u = setupL u) = true by simp]; have HG7 := Lib.hid (ext_trans HG5.out.1 (ext_trans HG6.out hg7)); clear hg7)
      | (go_at_call 14; refine (lawSame25 _ _ _ _ _ st st R2.out R4.out (by omega) (by omega)).mono ?_; rintro e w6 ⟨rfl, hg6⟩; rw [show decide (st = st) = true by simp]; have q3 := fun j u hj => hg6.cell (HRG.out.1 j u hj) (by simp); have q5 := fun j u hj => hg6.cell (HRG.out.2 j u hj) (by simp); have Q3 := Lib.hid (show w6.rangeAt w2.heap.size 0 (stuC u V vm).toList from q3); have Q5 := Lib.hid (show w6.rangeAt w4.heap.size 0 (stuC u U um).toList from q5); have HG6 := Lib.hid hg6; clear hg6 q3 q5)
      | (refine stu_load_w rfl _ rfl rfl Q3.out ?_)
      | (refine stu_load_w rfl _ rfl rfl Q5.out ?_))
    go_ret
    exact ⟨by simp, HG7.out⟩

end Go.Proofs.YtdaifepjmkmpjaaDoor

/-
  Layer 25's law: ScriptPrints over contracts.
-/
namespace Go.Proofs.YtdaifepjmkmpjaaDoor
set_option linter.unusedVariables false
set_option linter.unusedSimpArgs false
set_option linter.unusedVariables false
set_option linter.unusedSimpArgs false
set_option maxRecDepth 100000
open Go.RowKit

def SetC25 : Prop := ∀ (w : World), Lib25 w → ∀ (s : Stu) (V : Nat → Value) (vm : Value), StuIs w s V vm → s.rng → s.few → Calls Tryd.prog 18 #[.agg (stuC s V vm)] w fun e w' => ∃ a cap, e = .returned (.slice a (setupL s).length cap) ∧ w.grownBy w' none
theorem lineL_len2 {x : Stp} (hr : x.rng) (hd : x.d.length ≤ 100) : (lineL x).length ≤ 400 := by
  have ht : (txtL x.d).length ≤ 201 := by unfold txtL; split; simp; rw [hexL_len]; omega
  have h1 := numL_len hr.t
  have h2 := numL_len hr.o
  have h3 := numL_len hr.a
  have h4 := numL_len hr.b
  have h5 := numL_len hr.pl
  unfold lineL spellL
  have hn : (nmL (kdL x)).length ≤ 7 := by
    rcases Nat.lt_or_ge (kdL x) 11 with h | h
    · exact (by decide : ∀ j, j < 11 → (nmL j).length ≤ 7) _ h
    · generalize kdL x = j at h
      match j, h with
      | j + 11, _ => simp [nmL]
  rw [List.length_append]
  have hw : ((wordsL (kdL x) x).flatMap fun w => 32 :: w).length ≤ 390 := by
    unfold wordsL
    split <;> simp <;> omega
  omega
theorem setupL_word2 {s : Stu} (hr : s.rng) (hf : ∀ t, t < 4 → (s.f t).length ≤ 60) (hm : s.m.length ≤ 60) : ∀ w ∈ setupL s, w.length ≤ 1400 := by
  intro w hw
  have hn : ∀ (n : List UInt8) (l : List Int), n.length ≤ 6 → l.length ≤ 61 → (∀ k ∈ l, i64B k) → (n ++ numsL l).length ≤ 1400 := by
    intro n l h1 h2 h3
    have := numsL_len h3
    rw [List.length_append]; omega
  unfold setupL at hw
  rcases List.mem_append.1 hw with hw | hw
  · rcases List.mem_append.1 hw with hw | hw
    · simp only [List.mem_singleton] at hw
      subst hw
      refine hn _ _ (by decide) (by simp) ?_
      intro k hk
      simp only [List.mem_cons, List.not_mem_nil, or_false] at hk
      rcases hk with rfl | rfl | rfl | rfl
      · exact hr.c
      · exact hr.d
      · exact hr.b
      · exact hr.p
    · simp only [List.mem_flatMap] at hw
      obtain ⟨t, ht, hw⟩ := hw
      have ht4 : t < 4 := by simpa using ht
      unfold faultL at hw
      split at hw
      · simp at hw
      · simp only [List.mem_singleton] at hw
        subst hw
        have := hf t ht4
        refine hn _ _ (by decide) (by simp; omega) ?_
        intro k hk
        rcases List.mem_cons.1 hk with rfl | hk
        · unfold i64B; omega
        · exact hr.f t ht4 k hk
  · split at hw
    · simp at hw
    · simp only [List.mem_singleton] at hw
      subst hw
      exact hn _ _ (by decide) (by omega) hr.m
theorem printL_len {s : Stu} {l : List Stp} (hr : s.rng) (hf : ∀ t, t < 4 → (s.f t).length ≤ 60) (hm : s.m.length ≤ 60) (hl : l.length ≤ 60) (hx : ∀ x ∈ l, x.rng ∧ x.d.length ≤ 100) : (printL s l).length ≤ 100000 := by
  have h1 := textOf_len (ls := setupL s ++ l.map lineL) (m := 1400) (fun w hw => by
    rcases List.mem_append.1 hw with hw | hw
    · exact setupL_word2 hr hf hm w hw
    · obtain ⟨x, hxm, rfl⟩ := List.mem_map.1 hw
      have := lineL_len2 (hx x hxm).1 (hx x hxm).2
      omega)
  have h2 : (setupL s ++ l.map lineL).length ≤ 66 := by rw [List.length_append, List.length_map]; have := setupL_len s; omega
  unfold printL
  have : (setupL s ++ l.map lineL).length * (1400 + 1) ≤ 66 * 1401 := Nat.mul_le_mul_right _ h2
  omega
/-- What is printed is parsed as it was. -/
theorem parse_back {s : Stu} {l : List Stp} (hr : s.rng) (hf : ∀ t, t < 4 → (s.f t).length ≤ 60) (hm : s.m.length ≤ 60) (hl : l.length ≤ 60) (hx : ∀ x ∈ l, x.rng ∧ x.d.length ≤ 100) (ho : l.all okL = true) : ∃ u, parseL (printL s l) = (u, l, 0) ∧ setupL u = setupL s ∧ u.rng ∧ u.few := by
  obtain ⟨u, h1, h2, h3, h4, h5, h6, h7⟩ := print_parse hr (fun x hxm => ⟨List.all_eq_true.1 ho x hxm, (hx x hxm).1⟩) (by omega : l.length ≤ 4096)
  refine ⟨u, h1, setupL_same h2 h3 h4 h5 h6 h7, ⟨h2 ▸ hr.c, h3 ▸ hr.d, h4 ▸ hr.b, h5 ▸ hr.p, fun t ht n hn => hr.f t ht n (by rw [← h7 t ht]; exact hn), fun n hn => hr.m n (by rw [← h6]; exact hn)⟩, ⟨fun t ht => by rw [h7 t ht]; have := hf t ht; omega, by rw [h6]; omega⟩⟩
theorem print_lines (s : Stu) (l : List Stp) : (splitL 10 (printL s l)).length ≤ l.length + 7 := by
  have hne : setupL s ++ l.map lineL ≠ [] := by simp [setupL]
  have hpl : ∀ w ∈ setupL s ++ l.map lineL, ∀ c ∈ w, c ≠ 10 := by
    intro w hw
    rcases List.mem_append.1 hw with hw | hw
    · exact setupL_plain s w hw
    · obtain ⟨x, _, rfl⟩ := List.mem_map.1 hw
      exact lineL_plain x
  have h6 := setupL_len s
  have hl : (setupL s ++ l.map lineL).length ≤ l.length + 6 := by simp; omega
  unfold printL
  generalize setupL s ++ l.map lineL = ls at hne hpl hl
  cases ls with
  | nil => exact absurd rfl hne
  | cons w ws =>
    rw [textOf_cons]
    have e : (w ++ ws.flatMap fun v => 10 :: v) ++ [10] = w ++ (ws ++ [[]]).flatMap fun v => 10 :: v := by simp
    rw [e, splitL_words (hpl w (by simp)) (fun v hv => by
      rcases List.mem_append.1 hv with h | h
      · exact hpl v (by simp [h])
      · simp at h; subst h; simp)]
    simp at hl ⊢; omega
set_option maxHeartbeats 3200000 in
theorem scriptPrints_any (RC : PriC25) (PC : ParC25) (SC : SetC25) (FC : Fix25) (w : World) (hLb : Lib25 w) (s : Stu) (V : Nat → Value) (vm : Value) (a : Option Addr) (cap : Nat) (l : List Stp) (hS : StuIs w s V vm) (hr : s.rng) (hR : StpR w a l) (hrl : ∀ x ∈ l, x.rng) (hl : l.length ≤ 9223372036854775807) (hfl : ∀ t, t < 4 → (s.f t).length ≤ 9223372036854775807) (hml : s.m.length ≤ 9223372036854775807) (hdl : ∀ x ∈ l, x.d.length ≤ 9223372036854775807) :
    Calls Tryd.prog 6 #[.agg (stuC s V vm), .slice a l.length cap] w fun e w' => e = .returned (.bool true) ∧ w.grownBy w' none := by
  have B0 := Blk.new w 38 (stuC s V vm)
  have E0 := World.grownBy_alloc w (.cells (stuC s V vm) 38) none
  obtain ⟨w1, hw1⟩ : ∃ z, w.alloc (.cells (stuC s V vm) 38) = z := ⟨_, rfl⟩
  rw [hw1] at B0 E0
  have C := Lib.hid (And.intro RC (And.intro PC (And.intro SC FC)))
  have HLB := Lib.hid hLb
  have H := Lib.hid (And.intro hS (And.intro hr (And.intro hR hrl)))
  have HF := Lib.hid (And.intro hfl hdl)
  have HB0 := Lib.hid B0
  have HE0 := Lib.hid E0
  have HW := Lib.hid hw1
  obtain ⟨am, cm, bm, om, hvm, -⟩ := hS.m.form
  have HVM := Lib.hid hvm
  clear RC PC SC FC hS hr hR hrl hfl hdl B0 E0 hw1 hvm hLb
  go_enter Tryd.func6, Tryd.ntmps6
  go_upto_region 1 with fail
  rw [HW.out]
  go_upto_region 3 with (go_at_call 7; refine (C.out.2.2.2 _ (HLB.out.ext HE0.out)).mono ?_; rintro e w2 ⟨rfl, hg2⟩; have HB2 := Lib.hid (HB0.out.ext hg2); have HE2 := Lib.hid (ext_trans HE0.out hg2); clear hg2)
  obtain ⟨pb, hpb⟩ : ∃ n, w.heap.size = n := ⟨_, rfl⟩
  have hB2 := HB2.out
  rw [hpb] at hB2
  rw [hpb]
  have HB := Lib.hid hB2
  have c8 : w2.cell? ⟨pb, 8, none⟩ = some (.slice am s.m.length cm) := (hB2.cell 8).trans (by rw [← HVM.out]; rfl)
  obtain ⟨nm, hnm⟩ : ∃ n, s.m.length = n := ⟨_, rfl⟩
  obtain ⟨nl, hnl⟩ : ∃ n, l.length = n := ⟨_, rfl⟩
  rw [hnm] at c8 hml
  rw [hnl] at hl ⊢
  have HN := Lib.hid (And.intro hnm hnl)
  have HPB := Lib.hid hpb
  clear hpb hB2 hnm hnl HB2 HB0 HE0 HW
  by_cases h60 : 60 < nl
  · go_wp2
    go_ret
    exact ⟨rfl, HE2.out⟩
  · by_cases hm60 : 60 < nm
    · go_wp2
      go_ret
      exact ⟨rfl, HE2.out⟩
    · go_wp2
      go_loopw [29] (fun i wr => ∃ k : Nat, k ≤ nl ∧ i = .int .i64 k ∧ (∀ q, q < k → (l.getD q noStp).d.length ≤ 100) ∧ w2.grownBy wr none) (fun i _ => nl - (intOf i).toNat)
      case atStart => exact ⟨0, by omega, rfl, (fun q hq => absurd hq (by omega)), Ext.refl w2⟩
      case round =>
        obtain ⟨k, hk, rfl, hQ, hE⟩ := hrel
        have HQ := Lib.hid hQ
        have HE := Lib.hid hE
        clear hQ hE c8
        by_cases hlt : k < nl
        · obtain ⟨gb, off, rfl, hrx⟩ := (H.out.2.2.1.ext (ext_trans HE2.out HE.out)) k (by rw [HN.out.2]; exact hlt)
          obtain ⟨x, hx⟩ : ∃ x, l.getD k noStp = x := ⟨_, rfl⟩
          rw [hx] at hrx
          have hBn := Blk.new wr 25 (stpC noStp)
          have HX := Lib.hid hx
          have hsz : (bs x.d).size = x.d.length := bs_size x.d
          have hxd := HF.out.2 x (by rw [← hx, List.getD_eq_getElem?_getD, List.getElem?_eq_getElem (by rw [HN.out.2]; exact hlt)]; exact List.getElem_mem _)
          obtain ⟨dn, hdn⟩ : ∃ n, x.d.length = n := ⟨_, rfl⟩
          rw [hdn] at hxd hsz
          have HDN := Lib.hid hdn
          clear hx hdn
          by_cases h100 : 100 < dn
          · go_wp2_with (first
              | (refine stp_store (z := x) rfl _ _ rfl rfl rfl hBn rfl ?_; intro w4 hb4 hg4 hs4; have c7 : w4.cell? ⟨wr.heap.size, 7, none⟩ = some (.string (bs x.d)) := hb4.cell 7; have HE4 := Lib.hid (ext_trans HE2.out (ext_trans HE.out (new24 (World.grownBy_alloc wr _ none) hg4 (Nat.le_refl _)))); clear hg4 hs4 hb4 hBn)
              | (refine stp_load rfl _ rfl rfl hrx ?_))
            go_ret
            exact ⟨rfl, HE4.out⟩
          · have hb : decide ((100 : Int) < (dn : Int)) = false := by rw [decide_eq_false_iff_not]; omega
            have HQ2 := Lib.hid (show ∀ q, q < k + 1 → (l.getD q noStp).d.length ≤ 100 from fun q hq => by
              by_cases e : q = k
              · subst e; rw [HX.out, HDN.out]; omega
              · exact HQ.out q (by omega))
            go_wp2_with (first
              | (refine stp_store (z := x) rfl _ _ rfl rfl rfl hBn rfl ?_; intro w4 hb4 hg4 hs4; have c7 : w4.cell? ⟨wr.heap.size, 7, none⟩ = some (.string (bs x.d)) := hb4.cell 7; have HE4 := Lib.hid (ext_trans HE.out (new24 (World.grownBy_alloc wr _ none) hg4 (Nat.le_refl _))); clear hg4 hs4 hb4 hBn)
              | (refine stp_load rfl _ rfl rfl hrx ?_))
            go_roundw
            case rel => exact ⟨k + 1, by omega, by go_num, HQ2.out, HE4.out⟩
            case measure => simp [intOf]; omega
        · have hBw := HB.out.ext HE.out
          have c4 : wr.cell? ⟨pb, 4, none⟩ = some (V 0) := hBw.cell 4
          have c5 : wr.cell? ⟨pb, 5, none⟩ = some (V 1) := hBw.cell 5
          have c6 : wr.cell? ⟨pb, 6, none⟩ = some (V 2) := hBw.cell 6
          have c7 : wr.cell? ⟨pb, 7, none⟩ = some (V 3) := hBw.cell 7
          have HXD := Lib.hid (show ∀ x ∈ l, x.rng ∧ x.d.length ≤ 100 from fun x hx => ⟨H.out.2.2.2 x hx, by
            obtain ⟨q, hq, rfl⟩ := List.getElem_of_mem hx
            have h9 := HQ.out q (by have := HN.out.2; omega)
            rw [List.getD_eq_getElem?_getD, List.getElem?_eq_getElem hq] at h9
            exact h9⟩)
          obtain ⟨w5, hw5⟩ : ∃ z, wr = z := ⟨_, rfl⟩
          rw [hw5] at hBw c4 c5 c6 c7 HE ⊢
          have HBW := Lib.hid hBw
          clear hBw hw5 HQ
          go_wp2
          go_loopw [41] (fun i wr => ∃ t : Nat, t ≤ 4 ∧ i = .int .i64 t ∧ (∀ q, q < t → (s.f q).length ≤ 60) ∧ w5.grownBy wr none) (fun i _ => 4 - (intOf i).toNat)
          case atStart => exact ⟨0, by omega, rfl, (fun q hq => absurd hq (by omega)), Ext.refl w5⟩
          case round =>
            obtain ⟨t, ht4, rfl, hQ, hE⟩ := hrel
            have HQ := Lib.hid hQ
            have HE5 := Lib.hid hE
            clear hQ hE c4 c5 c6 c7
            by_cases hlt4 : t < 4
            · have hix := index4 V t hlt4
              obtain ⟨ao, ac, fb, fo, hV, -⟩ := (H.out.1.f t hlt4).form
              rw [hV] at hix
              have hfl := HF.out.1 t hlt4
              obtain ⟨fn, hfn⟩ : ∃ n, (s.f t).length = n := ⟨_, rfl⟩
              rw [hfn] at hix hfl
              have HFN := Lib.hid hfn
              clear hV hfn
              by_cases h6 : 60 < fn
              · have hb : decide ((60 : Int) < (fn : Int)) = true := by rw [decide_eq_true_eq]; omega
                go_wp2
                go_ret
                exact ⟨rfl, ext_trans HE2.out (ext_trans HE.out HE5.out)⟩
              · have hb : decide ((60 : Int) < (fn : Int)) = false := by rw [decide_eq_false_iff_not]; omega
                have HQ2 := Lib.hid (show ∀ q, q < t + 1 → (s.f q).length ≤ 60 from fun q hq => by
                  by_cases e : q = t
                  · subst e; rw [HFN.out]; omega
                  · exact HQ.out q (by omega))
                go_wp2
                go_roundw
                case rel => exact ⟨t + 1, by omega, by go_num, HQ2.out, HE5.out⟩
                case measure => simp [intOf]; omega
            · have HQ4 := Lib.hid (show ∀ q, q < 4 → (s.f q).length ≤ 60 from fun q hq => HQ.out q (by omega))
              have HM60 := Lib.hid (show s.m.length ≤ 60 from by have := HN.out.1; omega)
              have HL60 := Lib.hid (show l.length ≤ 60 from by have := HN.out.2; omega)
              have HFW := Lib.hid (show s.few from ⟨fun q hq => by have := HQ4.out q hq; omega, by have := HM60.out; omega⟩)
              have HB6 := Lib.hid (HBW.out.ext HE5.out)
              have HE6 := Lib.hid (ext_trans HE2.out (ext_trans HE.out HE5.out))
              have r6 := HB6.out.range25
              have HN2 := Lib.hid HN.out.2
              clear HQ HE HE5 HBW HB
              obtain ⟨w6, hw6⟩ : ∃ z, wr = z := ⟨_, rfl⟩
              rw [hw6] at HB6 HE6 r6 ⊢
              clear hw6
              obtain ⟨tx, htx⟩ : ∃ t, (if l.all okL then printL s l else []) = t := ⟨_, rfl⟩
              obtain ⟨ok, hok⟩ : ∃ b, l.all okL = b := ⟨_, rfl⟩
              have HT := Lib.hid (And.intro htx hok)
              have htl : tx.length ≤ 100000 := by
                rw [← htx]
                split
                · exact printL_len H.out.2.1 HQ4.out HM60.out HL60.out HXD.out
                · simp
              have HTN := Lib.hid (show (splitL 10 (bs tx).data.toList).length ≤ 4000 from by
                rw [bs_data, ← htx]
                split
                · have := print_lines s l; have := HL60.out; omega
                · simp [splitL])
              have HPR := Lib.hid (C.out.1 w6 (HLB.out.ext HE6.out) s V vm a cap l (H.out.1.ext HE6.out) H.out.2.1 HFW.out (H.out.2.2.1.ext HE6.out) H.out.2.2.2 (fun x hx => by have := (HXD.out x hx).2; omega) (by have := HL60.out; omega))
              rw [HN2.out] at HPR
              clear htx hok
              go_upto_region 19 with (first
                | (go_at_call 17; refine HPQ.out.mono ?_; intro e w8 hpa; unfold PrintA at hpa; rw [HT.out.1, HT.out.2] at hpa; obtain ⟨rfl, hg8⟩ := hpa; have HB8 := Lib.hid (HB7.out.ext hg8); have HE8 := Lib.hid (ext_trans HE7.out hg8); clear hg8 r7)
                | (go_at_call 16; refine HPR.out.mono ?_; intro e w7 hpa; unfold PrintA at hpa; rw [HT.out.1, HT.out.2] at hpa; obtain ⟨rfl, hg7⟩ := hpa; have HB7 := Lib.hid (HB6.out.ext hg7); have HE7 := Lib.hid (ext_trans HE6.out hg7); have r7 := HB7.out.range25; have HPQ := Lib.hid (print25 w7 s V vm a cap l (H.out.1.ext HE7.out) H.out.2.1 HFW.out (H.out.2.2.1.ext HE7.out) H.out.2.2.2 (fun x hx => by have := (HXD.out x hx).2; omega) (by have := HL60.out; omega)); rw [HN2.out] at HPQ; clear hg7 r6)
                | (refine stu_load rfl _ rfl rfl r7 ?_)
                | (refine stu_load rfl _ rfl rfl r6 ?_))
              cases ok
              · go_wp2
                go_ret
                exact ⟨rfl, HE8.out⟩
              · have hto : tx = printL s l := by rw [← HT.out.1, HT.out.2]; rfl
                obtain ⟨u, hu1, hu2, hu3, hu4⟩ := parse_back H.out.2.1 HQ4.out HM60.out HL60.out HXD.out HT.out.2
                obtain ⟨z0, hz0⟩ : ∃ z : Int, (0 : Int) = z := ⟨_, rfl⟩
                rw [← hto, hz0] at hu1
                have b0 : (z0 == 0) = true := by rw [← hz0]; rfl
                have HU1 := Lib.hid hu1
                have HU := Lib.hid (And.intro hu2 (And.intro hu3 hu4))
                clear hto hu1 hu2 hu3 hu4 hz0
                go_upto_region 24 with (first
                  | (go_at_call 12; refine (C.out.2.1 _ (HLB.out.ext HE8.out) (bs tx) (by rw [bs_size]; omega) HTN.out).mono ?_; intro e w9 hpa; unfold ParP at hpa; rw [bs_data, HU1.out] at hpa; obtain ⟨U, um, v9, rfl, hU, hv9, hg9⟩ := hpa; obtain ⟨a9, c9, hv9, hr9⟩ := hv9; simp only at hv9; rw [HN2.out] at hv9; subst hv9; have HUU := Lib.hid hU; have HR9 := Lib.hid hr9; have hBn := Blk.new w9 38 (stuC noStu (fun _ => nl25) nl25); have HB9 := Lib.hid (HB8.out.ext hg9); have HE9 := Lib.hid (ext_trans HE8.out hg9); clear hg9 hU hr9)
                  | (refine stu_store (s := u) (V := U) (vm := um) rfl _ _ rfl rfl HUU.out.slv.1 HUU.out.slv.2 rfl hBn rfl ?_; intro w10 hb10 hg10 hs10; have hE10 := new24 (World.grownBy_alloc w9 _ none) hg10 (Nat.le_refl _); have HBS := Lib.hid (And.intro (HB9.out.ext hE10) hb10); have HE10 := Lib.hid (And.intro (ext_trans HE9.out hE10) hE10); clear hb10 hg10 hs10 hBn hE10))
                obtain ⟨db, hdb⟩ : ∃ n, w9.heap.size = n := ⟨_, rfl⟩
                have hBS := HBS.out
                rw [hdb] at hBS
                rw [hdb]
                have HBS := Lib.hid hBS
                clear hdb
                obtain ⟨wd, hwd⟩ : ∃ z, w10.drew = z := ⟨_, rfl⟩
                have hEd : w10.grownBy wd none := hwd ▸ Ext.drew w10
                have HD := Lib.hid hEd
                have hS : (fun z : World => z.rangeAt pb 0 (stuC s V vm).toList ∧ z.rangeAt db 0 (stuC u U um).toList) w10.drew := ⟨(hBS.1.ext (Ext.drew w10)).range25, (hBS.2.ext (Ext.drew w10)).range25⟩
                have HS0 := Lib.hid (show ∀ wx, w10.grownBy wx none → (fun z : World => z.rangeAt pb 0 (stuC s V vm).toList ∧ z.rangeAt db 0 (stuC u U um).toList) wx from fun wx hE => ⟨(HBS.out.1.ext hE).range25, (HBS.out.2.ext hE).range25⟩)
                have HSS := Lib.hid (show ∀ wx, w10.grownBy wx none → StuIs wx s V vm ∧ StuIs wx u U um ∧ StpR wx a l ∧ StpR wx a9 l from fun wx hE => ⟨H.out.1.ext (ext_trans HE10.out.1 hE), HUU.out.ext (ext_trans HE10.out.2 hE), H.out.2.2.1.ext (ext_trans HE10.out.1 hE), HR9.out.ext (ext_trans HE10.out.2 hE)⟩)
                clear hBS hwd hEd
                refine region_line [(0, true), (1, true), (2, true), (3, true), (4, true), (5, false), (6, true), (7, true), (8, true), (9, true), (10, false), (11, true), (12, true), (13, true), (16, true), (14, false), (15, true), (17, false), (18, true), (19, true), (20, true), (21, true)] (fun z : World => z.rangeAt pb 0 (stuC s V vm).toList ∧ z.rangeAt db 0 (stuC u U um).toList) (by kernel_rfl) (by kernel_rfl) (fun _ _ _ d _ h => by cases d <;> exact h) hS ?_
                iterate 5 (refine line_read (a' := ?_) rfl (by kernel_rfl) (by kernel_rfl) hS (fun z hz K hK => ?_) ?_; rotate_left; · (obtain ⟨z1, z2⟩ := hz; go_wp2_with (first | (refine stu_load_w rfl _ rfl rfl z1 ?_) | (refine stu_load_w rfl _ rfl rfl z2 ?_)); exact hK))
                refine line_act rfl fun K hK => ?_
                go_wp2_with (go_at_call 15; refine (same25 _ s u V U vm um (HSS.out _ (Ext.drew w10)).1 (HSS.out _ (Ext.drew w10)).2.1 H.out.2.1 HU.out.2.1 HFW.out HU.out.2.2).mono ?_; rintro e w11 ⟨rfl, hg11⟩; rw [show decide (setupL s = setupL u) = true by rw [HU.out.1]; simp]; have HE11 := Lib.hid (ext_trans (Ext.drew w10) hg11); clear hg11)
                refine hK _ _ (fun z : World => z.rangeAt pb 0 (stuC s V vm).toList ∧ z.rangeAt db 0 (stuC u U um).toList) (HS0.out _ HE11.out) (fun _ h => h) ?_
                have hS := HS0.out _ HE11.out
                clear hK K
                iterate 4 (refine line_read (a' := ?_) rfl (by kernel_rfl) (by kernel_rfl) hS (fun z hz K hK => ?_) ?_; rotate_left; · (obtain ⟨z1, z2⟩ := hz; go_wp2; exact hK))
                have HSM := lawSame25 w11 a a9 cap c9 l l (HSS.out _ HE11.out).2.2.1 (HSS.out _ HE11.out).2.2.2 (by have := HL60.out; omega) (by have := HL60.out; omega)
                rw [HN2.out] at HSM
                have HSM := Lib.hid HSM
                refine line_act rfl fun K hK => ?_
                go_wp2_with (go_at_call 14; refine HSM.out.mono ?_; rintro e w12 ⟨rfl, hg12⟩; rw [show decide (l = l) = true by simp]; have HE12 := Lib.hid (ext_trans HE11.out hg12); clear hg12)
                refine hK _ _ (fun z : World => z.rangeAt pb 0 (stuC s V vm).toList ∧ z.rangeAt db 0 (stuC u U um).toList) (HS0.out _ HE12.out) (fun _ h => h) ?_
                have hS := HS0.out _ HE12.out
                clear hK K
                iterate 4 (refine line_read (a' := ?_) rfl (by kernel_rfl) (by kernel_rfl) hS (fun z hz K hK => ?_) ?_; rotate_left; · (obtain ⟨z1, z2⟩ := hz; go_wp2_with (first | (refine stu_load_w rfl _ rfl rfl z1 ?_)); exact hK))
                refine line_act rfl fun K hK => ?_
                go_wp2_with (go_at_call 18; refine (C.out.2.2.1 _ (HLB.out.ext (ext_trans HE10.out.1 HE12.out)) s V vm (HSS.out _ HE12.out).1 H.out.2.1 HFW.out).mono ?_; rintro e w13 ⟨a13, c13, rfl, hg13⟩; have HE13 := Lib.hid (ext_trans HE12.out hg13); clear hg13)
                refine hK _ _ (fun z : World => z.rangeAt pb 0 (stuC s V vm).toList ∧ z.rangeAt db 0 (stuC u U um).toList) (HS0.out _ HE13.out) (fun _ h => h) ?_
                have hS := HS0.out _ HE13.out
                clear hK K
                refine line_read (a' := ?_) rfl (by kernel_rfl) (by kernel_rfl) hS (fun z hz K hK => ?_) ?_
                rotate_left
                · (go_wp2; exact hK)
                refine line_act rfl fun K hK => ?_
                go_wp2_with (go_at_call 19; refine (setup25 _ s V vm (HSS.out _ HE13.out).1 H.out.2.1 HFW.out).mono ?_; rintro e w14 ⟨v14, rfl, hO, hnv, hg14⟩; obtain ⟨g14, c14, rfl, -⟩ := hO.open hnv; have HE14 := Lib.hid (ext_trans HE13.out hg14); clear hg14 hO hnv)
                refine hK _ _ (fun z : World => z.rangeAt pb 0 (stuC s V vm).toList ∧ z.rangeAt db 0 (stuC u U um).toList) (HS0.out _ HE14.out) (fun _ h => h) ?_
                have hS := HS0.out _ HE14.out
                clear hK K
                iterate 4 (refine line_read (a' := ?_) rfl (by kernel_rfl) (by kernel_rfl) hS (fun z hz K hK => ?_) ?_; rotate_left; · (go_wp2; exact hK))
                refine line_end ?_
                go_wp2
                go_ret
                exact ⟨by simp, ext_trans HE10.out.1 HE14.out⟩

end Go.Proofs.YtdaifepjmkmpjaaDoor

/-
  Layer 25's law: fixed over contracts.
-/
namespace Go.Proofs.YtdaifepjmkmpjaaDoor
set_option linter.unusedVariables false
set_option linter.unusedSimpArgs false
set_option linter.unusedVariables false
set_option linter.unusedSimpArgs false
set_option maxRecDepth 100000
open Go.RowKit

theorem i64_of_wf {n : Int} (h : (Lit.int .i64 n).wf = true) : i64B n := by
  simp [Lit.wf, IntKind.min, IntKind.max, IntKind.bits, IntKind.signed] at h
  unfold i64B; omega
theorem numL_one (n : Nat) (h : n < 10) : numL (n : Int) = [UInt8.ofNat (48 + n)] := by
  unfold numL
  rw [if_neg (by omega), Int.toNat_natCast, digL, if_pos h]
def fxA : Stp := ⟨6, 0, 0, 4, 0, 0, 0, []⟩
def fxB : Stp := ⟨5, 1, 0, 0, 0, 2, 3, [104, 105]⟩
def fxS : Stu := ⟨1, 1, 9, 4, fun t => if t = 2 then [5, 7] else [], []⟩
theorem fxA_ok : okL fxA = true := by decide
theorem fxB_ok : okL fxB = true := by decide
theorem fxA_line : lineL fxA = [115, 108, 111, 116, 115, 32, 52] := by
  have h : lineL fxA = nmL 8 ++ [numL ((4 : Nat) : Int)].flatMap fun w => 32 :: w := rfl
  rw [h, numL_one 4 (by omega)]; rfl
theorem fxB_line : lineL fxB = [119, 114, 105, 116, 101, 32, 49, 32, 51, 32, 54, 56, 54, 57] := by
  have h : lineL fxB = nmL 5 ++ [numL ((1 : Nat) : Int), numL ((3 : Nat) : Int), txtL [104, 105]].flatMap fun w => 32 :: w := rfl
  rw [h, numL_one 1 (by omega), numL_one 3 (by omega)]; rfl
theorem fxA_rng : fxA.rng := by constructor <;> simp [fxA, i64B]
theorem fxB_rng : fxB.rng := by constructor <;> simp [fxB, i64B]
theorem fx_print : printL fxS [fxA] = [97, 114, 114, 97, 121, 32, 49, 32, 49, 32, 57, 32, 52, 10, 102, 97, 117, 108, 116, 32, 50, 32, 53, 32, 55, 10, 115, 108, 111, 116, 115, 32, 52, 10] := by
  have h1 : setupL fxS = [arrayS ++ ([numL ((1 : Nat) : Int), numL ((1 : Nat) : Int), numL ((9 : Nat) : Int), numL ((4 : Nat) : Int)].flatMap fun w => 32 :: w), faultS ++ ([numL ((2 : Nat) : Int), numL ((5 : Nat) : Int), numL ((7 : Nat) : Int)].flatMap fun w => 32 :: w)] := rfl
  unfold printL
  rw [h1, List.map_cons, List.map_nil, fxA_line, numL_one 1 (by omega), numL_one 9 (by omega), numL_one 4 (by omega), numL_one 2 (by omega), numL_one 5 (by omega), numL_one 7 (by omega)]
  rfl
theorem fxS_rng : fxS.rng := by
  constructor
  · simp [fxS, i64B]
  · simp [fxS, i64B]
  · simp [fxS, i64B]
  · simp [fxS, i64B]
  · intro t _ n hn
    simp only [fxS] at hn
    split at hn
    · simp at hn; rcases hn with rfl | rfl <;> simp [i64B]
    · simp at hn
  · intro n hn; simp [fxS] at hn
theorem fx_parse : ∃ u, parseL [97, 114, 114, 97, 121, 32, 49, 32, 49, 32, 57, 32, 52, 10, 102, 97, 117, 108, 116, 32, 50, 32, 53, 32, 55, 10, 115, 108, 111, 116, 115, 32, 52, 10] = (u, [fxA], 0) ∧ u.p = 4 ∧ u.f 2 = [5, 7] := by
  obtain ⟨u, h1, -, -, -, h5, -, h7⟩ := print_parse (s := fxS) (l := [fxA]) fxS_rng (by intro x hx; simp only [List.mem_singleton] at hx; subst hx; exact ⟨fxA_ok, fxA_rng⟩) (by simp)
  rw [fx_print] at h1
  exact ⟨u, h1, h5, h7 2 (by omega)⟩
theorem fx_none : parseL [115, 108, 111, 116, 115, 32, 52, 10] = (noStu, [], 2) := by
  have h : parseE [115, 108, 111, 116, 115, 32, 52, 10] = none := by
    have e : splitL 10 [115, 108, 111, 116, 115, 32, 52] = [[115, 108, 111, 116, 115, 32, 52]] := by decide
    unfold parseE
    rw [if_pos (by decide), show ([115, 108, 111, 116, 115, 32, 52, 10] : List UInt8).dropLast = [115, 108, 111, 116, 115, 32, 52] from rfl, e]
    simp only [linesP]
    rw [headS_word (by decide)]
  unfold parseL
  rw [h]
set_option maxHeartbeats 1600000 in
theorem fix25_of (LC : LinC25) (SC : StpC25) (PC : ParC25) : Fix25 := by
  intro w hLb
  have HLB := Lib.hid hLb
  obtain ⟨u, hu1, hu2, hu3⟩ := fx_parse
  have HU := Lib.hid (And.intro hu1 (And.intro hu2 hu3))
  have C := Lib.hid (And.intro LC (And.intro SC PC))
  clear LC SC PC hu1 hu2 hu3 hLb
  go_enter Tryd.func7, Tryd.ntmps7
  go_upto_region 2 with (go_at_call 8; refine (C.out.1 _ HLB.out fxA fxA_rng (by simp [fxA])).mono ?_; intro e w1 hL; obtain ⟨rfl, hg1⟩ := lineA_ok hL fxA_ok; rw [fxA_line]; have HE1 := Lib.hid hg1; clear hL hg1)
  go_upto_region 3 with (first
    | (go_at_call 10; refine (C.out.2.1 _ (HLB.out.ext HE1.out) (bs [119, 114, 105, 116, 101, 32, 49, 32, 51, 32, 54, 56, 54, 57]) (by rw [bs_size]; decide)).mono ?_; rintro e w2 ⟨rfl, hg2⟩; rw [bs_data, stepR_some ⟨fxB_rng, fxB_ok, fxB_line⟩]; have hBn := Blk.new w2 25 (stpC noStp); have HE2 := Lib.hid (ext_trans HE1.out hg2); clear hg2)
    | (refine stp_store (z := fxB) rfl _ _ rfl rfl rfl hBn rfl ?_; intro w3 hb3 hg3 hs3; have HB3 := Lib.hid hb3; have HE3 := Lib.hid (ext_trans HE2.out (new24 (World.grownBy_alloc w2 _ none) hg3 (Nat.le_refl _))); clear hb3 hg3 hs3 hBn))
  go_upto_region 4 with (first
    | (go_at_call 12; refine (C.out.2.2 _ (HLB.out.ext HE3.out) (bs [97, 114, 114, 97, 121, 32, 49, 32, 49, 32, 57, 32, 52, 10, 102, 97, 117, 108, 116, 32, 50, 32, 53, 32, 55, 10, 115, 108, 111, 116, 115, 32, 52, 10]) (by rw [bs_size]; decide) (by decide)).mono ?_; intro e w4 hpa; unfold ParP at hpa; rw [bs_data, HU.out.1] at hpa; obtain ⟨V, vm, v4, rfl, hV, hv4, hg4⟩ := hpa; obtain ⟨a4, c4, rfl, -⟩ := hv4; have HV := Lib.hid hV; have hBn := Blk.new w4 38 (stuC noStu (fun _ => nl25) nl25); have HE4 := Lib.hid (And.intro (ext_trans HE3.out hg4) hg4); clear hg4 hV)
    | (refine stu_store (s := u) (V := V) (vm := vm) rfl _ _ rfl rfl HV.out.slv.1 HV.out.slv.2 rfl hBn rfl ?_; intro w5 hb5 hg5 hs5; have hE5 := new24 (World.grownBy_alloc w4 _ none) hg5 (Nat.le_refl _); have HB5 := Lib.hid hb5; have HE5 := Lib.hid (And.intro (ext_trans HE4.out.1 hE5) (ext_trans HE4.out.2 hE5)); clear hb5 hg5 hs5 hBn hE5))
  go_upto_region 5 with (first
    | (go_at_call 12; refine (C.out.2.2 _ (HLB.out.ext HE5.out.1) (bs [115, 108, 111, 116, 115, 32, 52, 10]) (by rw [bs_size]; decide) (by decide)).mono ?_; intro e w6 hpa; unfold ParP at hpa; rw [bs_data, fx_none] at hpa; obtain ⟨U, um, v6, rfl, hU, hv6, hg6⟩ := hpa; obtain ⟨a6, c6, rfl, -⟩ := hv6; have HUV := Lib.hid hU; have hBn := Blk.new w6 38 (stuC noStu (fun _ => nl25) nl25); have HE6 := Lib.hid (And.intro (ext_trans HE5.out.1 hg6) hg6); clear hg6 hU)
    | (refine stu_store (s := noStu) (V := U) (vm := um) rfl _ _ rfl rfl HUV.out.slv.1 HUV.out.slv.2 rfl hBn rfl ?_; intro w7 hb7 hg7 hs7; have hE7 := new24 (World.grownBy_alloc w6 _ none) hg7 (Nat.le_refl _); have HE7 := Lib.hid (And.intro (ext_trans HE6.out.1 hE7) (ext_trans HE6.out.2 hE7)); clear hb7 hg7 hs7 hBn hE7))
  have hB7 := HB5.out.ext HE7.out.2
  have hS7 := HB3.out.ext (ext_trans HE5.out.2 HE7.out.2)
  obtain ⟨ao, ac, fb, fo, hv2, -⟩ := (HV.out.f 2 (by omega)).form
  rw [HU.out.2.2] at hv2
  have k7 : w7.cell? ⟨w2.heap.size, 7, none⟩ = some (.string (bs [104, 105])) := hS7.cell 7
  have k3 : w7.cell? ⟨w4.heap.size, 3, none⟩ = some (.int .i64 4) := (hB7.cell 3).trans (by rw [← HU.out.2.1]; rfl)
  have k6 : w7.cell? ⟨w4.heap.size, 6, none⟩ = some (.slice ao 2 ac) := (hB7.cell 6).trans (by show some (V 2) = _; rw [hv2]; rfl)
  have q1 : (bs [115, 108, 111, 116, 115, 32, 52]).toList = [115, 108, 111, 116, 115, 32, 52] := bs_toList _
  have q2 : (bs [104, 105]).toList = [104, 105] := bs_toList _
  clear hB7 hS7 hv2
  go_wp2
  go_ret
  exact ⟨rfl, HE7.out.1⟩

end Go.Proofs.YtdaifepjmkmpjaaDoor

/-
  A ledger that came in.
-/
namespace Go.Proofs.YtdaifepjmkmpjaaDoor
set_option linter.unusedVariables false
set_option linter.unusedSimpArgs false
set_option linter.unusedVariables false
set_option linter.unusedSimpArgs false
set_option maxRecDepth 100000
open Go.RowKit Go.ChangeShapes Go.WideShapes

theorem row_intsW {w : World} {a : Option Addr} {len cap : Nat} {zs : List Int} (h : IsRow .i64 w a len cap zs) (hs : ∀ x, a = some x → x.spot = none ∧ x.block < w.heap.size) :
    Ints w (.slice a len cap) (zs.take len) ∧ (∀ k, (Value.slice a len cap).ownBlock = some k → k < w.heap.size) ∧ (zs.take len).length ≤ maxLen ∧ ∀ n ∈ zs.take len, (Lit.int .i64 n).wf = true := by
  rcases h with ⟨rfl, rfl, rfl, rfl⟩ | ⟨x, rfl, hl, hm, hz, hc, hw⟩
  · exact ⟨.inl ⟨rfl, rfl⟩, by simp [Value.ownBlock], Nat.zero_le _, by simp⟩
  · obtain ⟨hsp, hb⟩ := hs x rfl
    obtain ⟨b, off, sp⟩ := x
    simp only at hsp hb
    subst hsp
    have hlen : (zs.take len).length = len := by simp; omega
    refine ⟨.inr (.inl ⟨b, off, cap, by rw [hlen], by omega, fun i hi => ?_⟩), fun k hk => ?_, by omega, fun n hn => hw n (List.mem_of_mem_take hn)⟩
    · rw [hlen] at hi
      have := hc i (by omega)
      rw [addr_add] at this
      rw [this]
      simp [hi]
    · simp [Value.ownBlock] at hk
      omega

/-- What is known of a ledger that came in. -/
structure CameL (w : World) (L : Led) (V : Nat → Value) : Prop where
  is : LedIs w L V
  low : ∀ j, j < 4 → ∀ q, (V j).ownBlock = some q → q < w.heap.size
  len : ∀ j, j < 4 → (L.t j).bs.length ≤ maxLen
  wf : ∀ j, j < 4 → ∀ n ∈ (L.t j).bs, (Lit.int .i64 n).wf = true
  ep : ∀ j, j < 4 → (Lit.int .i64 (L.t j).ep).wf = true
  sz : ∀ j, j < 4 → (Lit.int .i64 (L.t j).sz).wf = true
  sp : ∀ j, j < 4 → (Lit.int .i64 (L.t j).sp).wf = true
  gen : (Lit.int .i64 L.gen).wf = true
  eps : (Lit.int .i64 L.eps).wf = true

def of4T {α : Type} (x y z u : α) : Nat → α
  | 0 => x
  | 1 => y
  | 2 => z
  | _ => u

section
variable {H : Type} {enc : TypeId × Value → H} {w : World} {base b0 : Nat} {held : Bool}

end

end Go.Proofs.YtdaifepjmkmpjaaDoor
