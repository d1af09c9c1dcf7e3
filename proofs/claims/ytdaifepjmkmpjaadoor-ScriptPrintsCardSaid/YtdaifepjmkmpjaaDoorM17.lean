/-
  Texts put together: SpG.
-/
import Derived.Test.YtdaifepjmkmpjaaDoorM16
/-
  Package script: read, Step.
-/
namespace Go.Proofs.YtdaifepjmkmpjaaDoor
set_option linter.unusedVariables false
set_option linter.unusedSimpArgs false
set_option linter.unusedVariables false
set_option linter.unusedSimpArgs false
set_option maxRecDepth 100000
open Go.RowKit Go.Maps

/-! ### what a line tells -/
def candV (j : Nat) (vs : List Int) (d : List UInt8) : Stp := candL j (vs.getD 0 0) (vs.getD 1 0) (vs.getD 2 0) d
def blankD (j : Nat) (d : List UInt8) : Stp := ⟨(kOf j).1, 0, 0, 0, 0, (kOf j).2, 0, d⟩
theorem three {α : Type} : ∀ (n : Nat) (l : List α), l.length = n → n ≤ 3 → (n = 0 ∧ l = []) ∨ (n = 1 ∧ ∃ a, l = [a]) ∨ (n = 2 ∧ ∃ a b, l = [a, b]) ∨ (n = 3 ∧ ∃ a b c, l = [a, b, c])
  | _, [], h, _ => .inl ⟨by simpa using h.symm, rfl⟩
  | _, [a], h, _ => .inr (.inl ⟨by simpa using h.symm, a, rfl⟩)
  | _, [a, b], h, _ => .inr (.inr (.inl ⟨by simpa using h.symm, a, b, rfl⟩))
  | _, [a, b, c], h, _ => .inr (.inr (.inr ⟨by simpa using h.symm, a, b, c, rfl⟩))
  | n, a :: b :: c :: d :: l, h, h2 => by simp at h; omega
theorem offL_len : ∀ j, j < 11 → 1 ≤ (offL j).length ∧ (offL j).length ≤ 3 := by decide
theorem offL_lt : ∀ j, j < 11 → ∀ o ∈ offL j, o < 8 := by decide
theorem fill_cand {j : Nat} (hj : j < 11) {vs : List Int} (h : vs.length = (offL j).length) (d : List UInt8) (hd : j ≠ 5 → d = []) : fillC (stpC (blankD j d)) (offL j) vs = stpC (candV j vs d) := by
  rcases three _ vs h (offL_len j hj).2 with ⟨e, rfl⟩ | ⟨e, a, rfl⟩ | ⟨e, a, b, rfl⟩ | ⟨e, a, b, c, rfl⟩
  all_goals obtain rfl | rfl | rfl | rfl | rfl | rfl | rfl | rfl | rfl | rfl | rfl : j = 0 ∨ j = 1 ∨ j = 2 ∨ j = 3 ∨ j = 4 ∨ j = 5 ∨ j = 6 ∨ j = 7 ∨ j = 8 ∨ j = 9 ∨ j = 10 := by omega
  all_goals first
    | (simp [offL] at e; done)
    | rfl
    | (rw [hd (by omega)]; rfl)
theorem words_cand {j : Nat} (hj : j < 11) {vs : List Int} (h : vs.length = (offL j).length) (d : List UInt8) : wordsL j (candV j vs d) = vs.map numL ++ (if j = 5 then [txtL d] else []) := by
  rcases three _ vs h (offL_len j hj).2 with ⟨e, rfl⟩ | ⟨e, a, rfl⟩ | ⟨e, a, b, rfl⟩ | ⟨e, a, b, c, rfl⟩
  all_goals obtain rfl | rfl | rfl | rfl | rfl | rfl | rfl | rfl | rfl | rfl | rfl : j = 0 ∨ j = 1 ∨ j = 2 ∨ j = 3 ∨ j = 4 ∨ j = 5 ∨ j = 6 ∨ j = 7 ∨ j = 8 ∨ j = 9 ∨ j = 10 := by omega
  all_goals first
    | (simp [offL] at e; done)
    | rfl
theorem i64_one {a : Int} (h : i64B a) : ∀ n ∈ [a], i64B n := fun n hn => by simp at hn; rw [hn]; exact h
theorem i64_two {a b : Int} (h : i64B a) (h2 : i64B b) : ∀ n ∈ [a, b], i64B n := fun n hn => by
  simp at hn
  rcases hn with h0 | h0 <;> rw [h0] <;> assumption
theorem i64_three {a b c : Int} (h : i64B a) (h2 : i64B b) (h3 : i64B c) : ∀ n ∈ [a, b, c], i64B n := fun n hn => by
  simp at hn
  rcases hn with h0 | h0 | h0 <;> rw [h0] <;> assumption
theorem words_vals {j : Nat} (hj : j < 11) {x : Stp} (hr : x.rng) : ∃ vs : List Int, vs.length = (offL j).length ∧ (∀ n ∈ vs, i64B n) ∧ wordsL j x = vs.map numL ++ (if j = 5 then [txtL x.d] else []) := by
  have hp := hr.pl
  obtain rfl | rfl | rfl | rfl | rfl | rfl | rfl | rfl | rfl | rfl | rfl : j = 0 ∨ j = 1 ∨ j = 2 ∨ j = 3 ∨ j = 4 ∨ j = 5 ∨ j = 6 ∨ j = 7 ∨ j = 8 ∨ j = 9 ∨ j = 10 := by omega
  · exact ⟨[x.t, x.a, x.b], rfl, i64_three hr.t hr.a hr.b, rfl⟩
  · exact ⟨[x.t, x.a], rfl, i64_two hr.t hr.a, rfl⟩
  · exact ⟨[x.t], rfl, i64_one hr.t, rfl⟩
  · exact ⟨[x.t, x.o], rfl, i64_two hr.t hr.o, rfl⟩
  · exact ⟨[x.t, x.pl], rfl, i64_two hr.t hr.pl, rfl⟩
  · exact ⟨[x.t, x.pl], rfl, i64_two hr.t hr.pl, rfl⟩
  · exact ⟨[x.t, x.pl], rfl, i64_two hr.t hr.pl, rfl⟩
  · exact ⟨[x.t], rfl, i64_one hr.t, rfl⟩
  · exact ⟨[x.a], rfl, i64_one hr.a, rfl⟩
  · exact ⟨[x.a, x.b], rfl, i64_two hr.a hr.b, rfl⟩
  · exact ⟨[x.a], rfl, i64_one hr.a, rfl⟩
theorem mapM_is : ∀ {l : List (List UInt8)} {v : List Int}, l.mapM valOf = some v → l = v.map numL
  | [], v, h => by cases h; rfl
  | x :: l, v, h => by
    rw [List.mapM_cons] at h
    cases hx : valOf x with
    | none => rw [hx] at h; cases h
    | some a =>
      rw [hx] at h
      cases hl : l.mapM valOf with
      | none => rw [hl] at h; cases h
      | some u =>
        rw [hl] at h
        cases h
        rw [List.map_cons, ← mapM_is hl, ← (valOf_is hx).2]
theorem wordsL_ne {j : Nat} (hj : j < 11) (x : Stp) : wordsL j x ≠ [] := by
  obtain rfl | rfl | rfl | rfl | rfl | rfl | rfl | rfl | rfl | rfl | rfl : j = 0 ∨ j = 1 ∨ j = 2 ∨ j = 3 ∨ j = 4 ∨ j = 5 ∨ j = 6 ∨ j = 7 ∨ j = 8 ∨ j = 9 ∨ j = 10 := by omega
  all_goals simp [wordsL]
theorem line_join {j : Nat} (hj : j < 11) (x : Stp) : spellL j x = nmL j ++ 32 :: joinW 32 (wordsL j x) := by
  unfold spellL
  cases h : wordsL j x with
  | nil => exact absurd h (wordsL_ne hj x)
  | cons w ws => simp [joinW]
/-- Words of the right number and form tell a step. -/
theorem read_yes {l : List UInt8} {j : Nat} (hj : j < 11) (hn : (cutL 32 l).1 = nmL j) {vs : List Int} {d : List UInt8} (hv : vs.length = (offL j).length) (hr : ∀ n ∈ vs, i64B n) {k : Nat} (hw : splN 32 k (cutL 32 l).2.1 = vs.map numL ++ (if j = 5 then [txtL d] else [])) : StepIs l (candV j vs d) := by
  have hz : i64B 0 := by unfold i64B; omega
  have hg : ∀ i, i64B (vs.getD i 0) := fun i => by
    rw [List.getD_eq_getElem?_getD]
    cases h : vs[i]? with
    | none => exact hz
    | some n => exact hr n (List.mem_of_getElem? h)
  refine ⟨candL_rng hj ⟨hg 0, hg 1, hg 2⟩, ok_cand hj _ _ _ _, ?_⟩
  unfold lineL
  rw [show kdL (candV j vs d) = j from kdL_cand hj _ _ _ _, line_join hj, words_cand hj hv, ← hw, splN_join]
  cases hf : (cutL 32 l).2.2
  · have h1 := cutL_no hf
    rw [h1.2] at hw
    have h2 : splN 32 k [] = [[]] := by cases k <;> simp [splN, cutL]
    rw [h2] at hw
    cases vs with
    | nil => have := (offL_len j hj).1; simp at hv; omega
    | cons a vs =>
      simp at hw
      exact (numL_ne a hw.1).elim
  · rw [← hn, ← cutL_eq hf]
/-- A step's line is cut so. -/
theorem read_only {l : List UInt8} {x : Stp} (h : StepIs l x) : kdL x < 11 ∧ (cutL 32 l).1 = nmL (kdL x) ∧ ∀ k, (offL (kdL x)).length ≤ k → splN 32 k (cutL 32 l).2.1 = wordsL (kdL x) x := by
  obtain ⟨hr, ho, rfl⟩ := h
  have hj : kdL x < 11 := by simp only [okL, Bool.and_eq_true, decide_eq_true_eq] at ho; exact ho.1
  have e : cutL 32 (lineL x) = (nmL (kdL x), joinW 32 (wordsL (kdL x) x), true) := by
    unfold lineL
    rw [line_join hj]
    exact cutL_app (fun c hc => (nmL_mem _ c hc).1)
  obtain ⟨vs, h1, h2, h3⟩ := words_vals hj hr
  refine ⟨hj, by rw [e], fun k hk => ?_⟩
  rw [e]
  refine splN_words 32 _ k (wordsL_ne hj x) ?_ (fun w hw c hc => (wordsL_plain _ x w hw c hc).1)
  rw [h3, List.length_append, List.length_map, h1]
  split <;> simp <;> omega
theorem mapM_ok : ∀ {v : List Int}, (∀ n ∈ v, i64B n) → (v.map numL).mapM valOf = some v := mapM_vals
theorem stepR_fail {l : List UInt8} (h : ∀ x, ¬ StepIs l x) : stepR l = (noStp, false) := stepR_none h
theorem kOf_write : ∀ j, j < 11 → ((kOf j).2 = 2 ↔ j = 5) := by decide
section
variable {ops : Array Oper} {rest : List Oper} {o : Oper} {a : Act} {w : World} {Q : Exit → Act → World → Prop} {b n : Nat} {m : List UInt8 → Option (Int × Int)}
theorem wpList_lookK (hg : o.guard = none) (mo x : Operand) (hop : o.op = Op.lookup 61 mo x true) (h : MapK w b n m) (hm : a.eval mo = .map (some b)) (y : List UInt8) (hx : a.eval x = .string (bs y)) (hy : y.length ≤ 1000000) (p q : Int) (hv : (m y).getD (0, 0) = (p, q)) (c : Bool) (hc : (m y).isSome = c)
    (hk : wpList Tryd.prog ops Q rest (a.put o.dst (.tuple #[.agg #[.int .i64 p, .int .i64 q], .bool c])) w) : wpList Tryd.prog ops Q (o :: rest) a w := by
  refine wpList_plain hg fun K' hK' => ?_
  have hrun := h.look_ok hy
  rw [hv, hc] at hrun
  have hrun2 : (Instr.lookup 61 (.map (some b)) (.string (bs y)) true).run Tryd.prog w = .ok (.tuple #[.agg #[.int .i64 p, .int .i64 q], .bool c]) w := hrun
  unfold Oper.wp
  simp [execOp, hop, hm, hx, hrun2, Result.andThen]
  exact hK' _ _ hk
end
theorem grown_fill {w0 w w' : World} {b : Nat} (h : w0.grownBy w none) (hg : w.grownBy w' (some b)) (hb : w0.heap.size ≤ b) : w0.grownBy w' none := grown_trans h hg (fun k hk hlt => by injection hk with hk; omega)
set_option maxHeartbeats 6400000 in
theorem read_c (mb : Nat) (l : List UInt8) (w : World) (hL : Lib25 w) (hM : Kds w mb) (hl : l.length ≤ 200000) :
    Calls Tryd.prog 27 #[.map (some mb), .string (bs l)] w (StepA l w) := by
  have hCL := cutL_len 32 l
  have C := fun wx h => cut_c l 32 ⟨#[32]⟩ rfl wx h (by omega)
  obtain ⟨name, hname⟩ : ∃ q, (cutL 32 l).1 = q := ⟨_, rfl⟩
  obtain ⟨rest, hrest⟩ : ∃ q, (cutL 32 l).2.1 = q := ⟨_, rfl⟩
  obtain ⟨fnd, hfnd⟩ : ∃ q, (cutL 32 l).2.2 = q := ⟨_, rfl⟩
  rw [hname, hrest, hfnd] at C
  rw [hname, hrest] at hCL
  have HC := Lib.hid C
  have HQ := Lib.hid (And.intro hname hrest)
  have HCL := Lib.hid (And.intro hCL.1 hCL.2.1)
  obtain ⟨⟨p, q⟩, hpq⟩ : ∃ pq : Int × Int, (kdsM name).getD (0, 0) = pq := ⟨_, rfl⟩
  obtain ⟨c, hc⟩ : ∃ c, (kdsM name).isSome = c := ⟨_, rfl⟩
  have HK := Lib.hid (And.intro hpq hc)
  have HR := Lib.hid (show (stepR l).1 = (stepR l).1 from rfl)
  have HL := Lib.hid hL
  have HM := Lib.hid hM
  -- the answer's cell
  have hBr := Blk.new w 25 (stpC noStp)
  have hEr := World.grownBy_alloc w (.cells (stpC noStp) 25) none
  obtain ⟨w0, hw0⟩ : ∃ z, w.alloc (.cells (stpC noStp) 25) = z := ⟨_, rfl⟩
  rw [hw0] at hBr hEr
  obtain ⟨rb, hrb⟩ : ∃ z, w.heap.size = z := ⟨_, rfl⟩
  rw [hrb] at hBr
  have HB0 := Lib.hid hBr
  have HE0 := Lib.hid hEr
  have HW0 := Lib.hid (show w.alloc (.cells #[.int .i64 0, .int .i64 0, .int .i64 0, .int .i64 0, .int .i64 0, .int .i64 0, .int .i64 0, .string ⟨#[]⟩] 25) = w0 from hw0)
  have HRB := Lib.hid (show w.heap.size ≤ rb from Nat.le_of_eq hrb)
  clear hL hM hCL C hname hrest hfnd hpq hc hBr hEr hw0
  go_enter Tryd.func27, Tryd.ntmps27
  go_upto_region 1 with fail
  rw [HW0.out]
  go_upto_region 2 with (go_at_call 32; refine (HC.out _ (HL.out.ext HE0.out)).mono ?_; rintro e w1 ⟨rfl, hg1⟩; have HG1 := Lib.hid (ext_trans HE0.out hg1); have HB1 := Lib.hid (HB0.out.ext hg1); clear hg1)
  have hm1 := HM.out.ext HG1.out
  have hBn := Blk.new w1 50 #[.int .i64 0, .int .i64 0]
  go_upto_region 3 with (first
    | (refine wpList_lookK rfl _ _ rfl hm1 rfl name rfl (by have := HCL.out.1; omega) p q HK.out.1 c HK.out.2 ?_)
    | (refine kd_store (p := p) (q := q) rfl _ _ rfl rfl rfl hBn rfl ?_; intro w2 hb2 hg2 hs2; have hE2 := new24 (World.grownBy_alloc w1 _ none) hg2 (Nat.le_refl _); have HKB := Lib.hid hb2; have HG2 := Lib.hid (ext_trans HG1.out hE2); have HB2 := Lib.hid (HB1.out.ext hE2); clear hBn hb2 hg2 hs2 hE2))
  clear hm1
  obtain ⟨kb, hkb⟩ : ∃ z, w1.heap.size = z := ⟨_, rfl⟩
  rw [hkb] at HKB ⊢
  clear hkb hrb
  cases c
  · have HN := Lib.hid (show stepR l = (noStp, false) from stepR_none fun x hx => by
      have h1 := read_only hx
      have h2 := kdsM_at _ h1.1
      rw [← h1.2.1, HQ.out.1] at h2
      have h3 := HK.out.2
      rw [h2] at h3; cases h3)
    go_wp2_with (first
      | (refine stp_store (z := noStp) rfl _ _ rfl rfl rfl HB2.out rfl ?_; intro w5 hb5 hg5 hs5; have HB5 := Lib.hid hb5; have HE5 := Lib.hid (grown_fill HG2.out hg5 HRB.out); clear hb5 hg5 hs5))
    refine bodyPost_ret (v := .tuple #[.agg (stpC noStp), .bool false]) (results_cell25 (fn := Tryd.f27) rfl rfl rfl HB5.out Tryd.underlying25 rfl Tryd.sizeStp25) rfl ?_
    exact ⟨by rw [HN.out], HE5.out⟩
  · obtain ⟨j, hj, hnm, hkj⟩ : ∃ j, j < 11 ∧ name = nmL j ∧ (p, q) = kOf j := by
      have h2 := HK.out.2
      obtain ⟨pq, h3⟩ := Option.isSome_iff_exists.1 h2
      obtain ⟨j, h4, h5, h6⟩ := kdsM_some h3
      refine ⟨j, h4, h5, ?_⟩
      have h7 := HK.out.1
      rw [h3] at h7
      rw [← h6]; exact h7.symm
    have HJ := Lib.hid (And.intro hnm hkj)
    obtain ⟨m, hm⟩ : ∃ m, (offL j).length = m := ⟨_, rfl⟩
    have hm3 := offL_len j hj
    rw [hm] at hm3
    have hm1 := hm3.1
    have hm2 := hm3.2
    have HMJ := Lib.hid hm
    have hkb := HKB.out
    clear hnm hkj hm hm3
    have hlt2 : kb < w2.heap.size := hkb.lt
    have HLT2 := Lib.hid hlt2
    clear hlt2
    go_upto_region 6 with (first
      | (refine kd_load rfl _ rfl rfl hkb ?_)
      | (go_at_call 21; refine (blank_c p q _).mono ?_; rintro e w3 ⟨rfl, hg3⟩; have hBn := Blk.new w3 25 (stpC noStp); have HG3 := Lib.hid (ext_trans HG2.out hg3); have HB3 := Lib.hid (HB2.out.ext hg3); have HKB3 := Lib.hid (HKB.out.ext hg3); clear hg3)
      | (refine stp_store (z := blankS p q) rfl _ _ rfl rfl rfl hBn rfl ?_; intro w4 hb4 hg4 hs4; have hE4 := new24 (World.grownBy_alloc w3 _ none) hg4 (Nat.le_refl _); have HSB := Lib.hid hb4; have HG4 := Lib.hid (ext_trans HG3.out hE4); have HB4 := Lib.hid (HB3.out.ext hE4); have HKB4 := Lib.hid (HKB3.out.ext hE4); clear hBn hb4 hg4 hs4 hE4))
    clear hkb
    have HSL := Lib.hid (show w.heap.size ≤ w3.heap.size ∧ rb ≠ w3.heap.size ∧ kb ≠ w3.heap.size from by
      have h1 := HG3.out.size
      have h2 := HB3.out.lt
      have h3 := HKB3.out.lt
      omega)
    obtain ⟨sb, hsb⟩ : ∃ z, w3.heap.size = z := ⟨_, rfl⟩
    rw [hsb] at HSB HSL ⊢
    clear hsb
    have NUM := Lib.hid (numbersOf_c w4 sb (blankS p q) HSB.out j hj HJ.out.2)
    go_upto_region 7 with (go_at_call 22; refine NUM.out.mono ?_; rintro e w5 ⟨nb, rfl, hbn, hnb, hg5⟩; rw [HMJ.out]; have HNB := Lib.hid hbn; have HG5 := Lib.hid (ext_trans HG4.out hg5); have HB5 := Lib.hid (HB4.out.ext hg5); have HKB5 := Lib.hid (HKB4.out.ext hg5); have HSB5 := Lib.hid (HSB.out.ext hg5); have HNE := Lib.hid (show nb ≠ sb from by have := HSB.out.lt; omega); clear hbn hnb hg5)
    have SPN := Lib.hid (show ∀ wx, Lib25 wx → Calls Tryd.prog 38 #[.string (bs rest), .string ⟨#[32]⟩, .int .i64 ((m : Int) + 2)] wx fun e w' => ∃ cap, e = .returned (.slice (some ⟨wx.heap.size, 0, none⟩) (splN 32 (m + 1) rest).length cap) ∧ (splN 32 (m + 1) rest).length ≤ cap ∧ cap ≤ 100 ∧ TxR w' (some ⟨wx.heap.size, 0, none⟩) ((splN 32 (m + 1) rest).map bs) ∧ wx.grownBy w' none ∧ wx.heap.size < w'.heap.size from fun wx hx => by
      have h1 := splitN_c rest 32 ⟨#[32]⟩ rfl (m + 2) (by omega) (by omega) wx hx (by have := HCL.out.2; omega)
      exact h1)
    have hln := splN_len 32 (m + 1) rest
    have HWD := Lib.hid (splN_word 32 (m + 1) rest)
    obtain ⟨ws, hws⟩ : ∃ ws, splN 32 (m + 1) rest = ws := ⟨_, rfl⟩
    rw [hws] at SPN hln HWD
    have HWS := Lib.hid hws
    have hln1 := hln.1
    have hln2 := hln.2
    clear hws hln NUM
    go_upto_region 8 with (go_at_call 38; refine (SPN.out _ (HL.out.ext HG5.out)).mono ?_; rintro e w6 ⟨cap, rfl, hcap, hcap2, htx, hg6, hlt6⟩; have HTX := Lib.hid htx; have HG6 := Lib.hid (ext_trans HG5.out hg6); have HB6 := Lib.hid (HB5.out.ext hg6); have HKB6 := Lib.hid (HKB5.out.ext hg6); have HSB6 := Lib.hid (HSB5.out.ext hg6); have HNB6 := Lib.hid (HNB.out.ext hg6); have HAN := Lib.hid (show w5.heap.size ≠ sb from by have := HSB5.out.lt; omega); clear htx hg6 hlt6)
    obtain ⟨ab, hab⟩ : ∃ z, w5.heap.size = z := ⟨_, rfl⟩
    rw [hab] at HTX HAN ⊢
    clear hab SPN
    have c1 : w6.cell? ⟨kb, 1, none⟩ = some (.int .i64 q) := HKB6.out.cell 1
    by_cases h5 : j = 5
    · have hq2 : (q == 2) = true := by
        rw [beq_iff_eq]
        have h1 := (kOf_write j hj).2 h5
        rw [← HJ.out.2] at h1; exact h1
      obtain ⟨L, wl, hLw⟩ : ∃ L wl, ws = L ++ [wl] := ⟨ws.dropLast, ws.getLast (by rintro rfl; simp at hln1), (List.dropLast_concat_getLast _).symm⟩
      have hwl : wl.length ≤ rest.length := HWD.out wl (by rw [hLw]; simp)
      have HWL := Lib.hid hwl
      have HLW := Lib.hid hLw
      obtain ⟨n, hn⟩ : ∃ n, L.length = n := ⟨_, rfl⟩
      have hwn : ws.length = n + 1 := by rw [hLw]; simp [hn]
      have HN := Lib.hid (And.intro hn hwn)
      rw [hwn] at hcap hln2 ⊢
      have hlast : w6.cell? ⟨ab, n, none⟩ = some (.string (bs wl)) := by
        obtain ⟨b, off, e, hc⟩ := HTX.out n (by rw [List.length_map, hwn]; omega)
        injection e with e
        injection e with e1 e2
        subst e1 e2
        rw [Nat.zero_add] at hc
        rw [hc, hLw]
        have e3 : ((L ++ [wl]).map bs)[n]? = some (bs wl) := by
          rw [List.getElem?_map, List.getElem?_append_right (by omega)]
          simp [hn]
        rw [List.getD_eq_getElem?_getD, e3]; rfl
      have HTL := Lib.hid (show TxR w6 (some ⟨ab, 0, none⟩) (L.map bs) from fun i hi => by
        have hi2 : i < L.length := by simpa using hi
        obtain ⟨b, off, e, hc⟩ := HTX.out i (by rw [List.length_map, hwn, ← hn]; omega)
        refine ⟨b, off, e, ?_⟩
        rw [hc, hLw]
        congr 2
        rw [List.getD_eq_getElem?_getD, List.getD_eq_getElem?_getD, List.getElem?_map, List.getElem?_map, List.getElem?_append_left hi2])
      have TXT := Lib.hid (textOf_c w6 (bs wl) (by rw [bs_size]; have := HCL.out.2; omega))
      have p7 : w6.cell? ⟨sb, 7, none⟩ = some (.string (bs [])) := HSB6.out.cell 7
      have f7 : w6.frozen? ⟨sb, 7, none⟩ = false := HSB6.out.free 7
      clear hLw hwl hn hwn hln1 p7 f7
      go_upto_region 10 with fail
      go_upto_region 11 with (go_at_call 39; refine TXT.out.mono ?_; rintro e w7 ⟨dd, ok, rfl, hok, hg7⟩; have HG7 := Lib.hid (ext_trans HG6.out hg7); have HB7 := Lib.hid (HB6.out.ext hg7); have HNB7 := Lib.hid (HNB6.out.ext hg7); have HTL7 := Lib.hid (HTL.out.ext hg7); have hsb7 := HSB6.out.ext hg7; have HSB7 := Lib.hid hsb7; have p7 : w7.cell? ⟨sb, 7, none⟩ = some (.string (bs [])) := hsb7.cell 7; have f7 : w7.frozen? ⟨sb, 7, none⟩ = false := hsb7.free 7; have HOK := Lib.hid hok; clear hg7 hok hsb7 c1 hlast)
      have hg8 := grown_set w7 ⟨sb, 7, none⟩ (.string (bs dd))
      have hb8 := HSB7.out.set 7 (.string (bs dd))
      have HSB8 := Lib.hid (show Blk (w7.setCell ⟨sb, 7, none⟩ (.string (bs dd))) sb 25 (stpC (blankD j dd)) from by
        have e1 : (stpC (blankS p q)).setIfInBounds 7 (.string (bs dd)) = stpC ⟨p, 0, 0, 0, 0, q, 0, dd⟩ := rfl
        rw [e1] at hb8
        unfold blankD
        rw [← HJ.out.2]; exact hb8)
      have HG8 := Lib.hid (grown_fill HG7.out hg8 HSL.out.1)
      have HB8 := Lib.hid (HB7.out.far (a := ⟨sb, 7, none⟩) HSL.out.2.1 (.string (bs dd)))
      have HNB8 := Lib.hid (HNB7.out.far (a := ⟨sb, 7, none⟩) HNE.out (.string (bs dd)))
      have HTL8 := Lib.hid (txr_kept HTL7.out hg8 (fun ad h e => by injection h with h; subst h; injection e with e; exact HAN.out e))
      obtain ⟨w8, hw8⟩ : ∃ z, w7.setCell ⟨sb, 7, none⟩ (.string (bs dd)) = z := ⟨_, rfl⟩
      rw [hw8] at HSB8 HG8 HB8 HNB8 HTL8 ⊢
      clear hg8 hb8 hw8 p7 f7 HSB7 HTL7 HNB7 HB7
      have HNO := Lib.hid (show ∀ x, StepIs l x → ∃ vs : List Int, L = vs.map numL ∧ (∀ n ∈ vs, i64B n) ∧ vs.length = (offL j).length ∧ wl = txtL x.d from fun x hx => by
        have h1 := read_only hx
        obtain rfl : kdL x = j := nmL_inj _ h1.1 _ hj (by rw [← h1.2.1, HQ.out.1, HJ.out.1])
        have h2 := h1.2.2 (m + 1) (by rw [HMJ.out]; omega)
        rw [HQ.out.2, HWS.out] at h2
        obtain ⟨vs, v1, v2, v3⟩ := words_vals (j := kdL x) hj hx.1
        rw [if_pos h5, ← h2, HLW.out] at v3
        have h6 := List.append_inj' v3 rfl
        exact ⟨vs, h6.1, v2, v1, by injection h6.2⟩)
      cases ok
      · have HN2 := Lib.hid (show stepR l = (noStp, false) from stepR_none fun x hx => by
          obtain ⟨vs, v1, v2, v3, v4⟩ := HNO.out x hx
          rcases HOK.out with ⟨h, _⟩ | ⟨_, _, h⟩
          · cases h
          · exact h _ v4)
        go_wp2_with (first
          | (refine stp_store (z := noStp) rfl _ _ rfl rfl rfl HB8.out rfl ?_; intro w9 hb9 hg9 hs9; have HB9 := Lib.hid hb9; have HE9 := Lib.hid (grown_fill HG8.out hg9 HRB.out); clear hb9 hg9 hs9))
        refine bodyPost_ret (v := .tuple #[.agg (stpC noStp), .bool false]) (results_cell25 (fn := Tryd.f27) rfl rfl rfl HB9.out Tryd.underlying25 rfl Tryd.sizeStp25) rfl ?_
        exact ⟨by rw [HN2.out], HE9.out⟩
      · have HTD := Lib.hid (show wl = txtL dd from by
          rcases HOK.out with ⟨_, h, _⟩ | ⟨h, _⟩
          · exact h
          · cases h)
        have FIL := Lib.hid (fill_c w8 nb sb 25 (stpC (blankD j dd)) (offL j) L (some ⟨ab, 0, none⟩) cap (fun wx hx => HL.out.ext (grown_fill HG8.out hx HSL.out.1)) HNB8.out HSB8.out HTL8.out HNE.out (fun ad h => by injection h with h; rw [← h]; exact HAN.out) (fun o ho => offL_lt j hj o ho) (by rw [HMJ.out]; omega) (fun x hx => by have := HWD.out x (by rw [HLW.out]; simp [hx]); have := HCL.out.2; omega) (by rw [HN.out.1]; omega) (by rw [HN.out.1]; omega))
        go_upto_if 64 with (go_at_call 40; rw [← HMJ.out, ← HN.out.1]; refine FIL.out.mono ?_; rintro e w9 ⟨ok2, rfl, hg9, hok⟩; have HG9 := Lib.hid (grown_fill HG8.out hg9 HSL.out.1); have HB9 := Lib.hid (HB8.out.kept hg9 (by intro e; injection e with e; exact HSL.out.2.1 e)); have HOK2 := Lib.hid hok; clear hg9 hok)
        cases ok2
        · have HN2 := Lib.hid (show stepR l = (noStp, false) from stepR_none fun x hx => by
            obtain ⟨vs, v1, v2, v3, v4⟩ := HNO.out x hx
            rcases HOK2.out with ⟨h, _⟩ | ⟨_, h⟩
            · cases h
            · have := h (by rw [v1, List.length_map, v3])
              rw [v1, mapM_ok v2] at this
              cases this)
          go_wp2_with (first
            | (refine stp_store (z := noStp) rfl _ _ rfl rfl rfl HB9.out rfl ?_; intro w10 hb8 hg8 hs8; have HB10 := Lib.hid hb8; have HE10 := Lib.hid (grown_fill HG9.out hg8 HRB.out); clear hb8 hg8 hs8))
          refine bodyPost_ret (v := .tuple #[.agg (stpC noStp), .bool false]) (results_cell25 (fn := Tryd.f27) rfl rfl rfl HB10.out Tryd.underlying25 rfl Tryd.sizeStp25) rfl ?_
          exact ⟨by rw [HN2.out], HE10.out⟩
        · obtain ⟨vs, hvs, hlen, hbk⟩ : ∃ vs, L.mapM valOf = some vs ∧ L.length = (offL j).length ∧ Blk w9 sb 25 (fillC (stpC (blankD j dd)) (offL j) vs) := by
            rcases HOK2.out with ⟨_, h⟩ | ⟨h, _⟩
            · exact h
            · cases h
          have hvl : vs.length = (offL j).length := by rw [mapM_len25 hvs, hlen]
          rw [fill_cand hj hvl dd (fun h => absurd h5 h)] at hbk
          have hst : StepIs l (candV j vs dd) := read_yes hj (by rw [HQ.out.1, HJ.out.1]) hvl (mapM_rng hvs) (k := m + 1) (by rw [HQ.out.2, HWS.out, if_pos h5, HLW.out, ← mapM_is hvs, HTD.out])
          obtain ⟨y, hy⟩ : ∃ y, candV j vs dd = y := ⟨_, rfl⟩
          rw [hy] at hbk hst
          have HST := Lib.hid hst
          have r9 := hbk.range25
          clear hvs hlen hvl hst hy hbk
          go_wp2_with (first
            | (refine stp_load rfl _ rfl rfl r9 ?_)
            | (refine stp_store (z := y) rfl _ _ rfl rfl rfl HB9.out rfl ?_; intro w10 hb8 hg8 hs8; have HB10 := Lib.hid hb8; have HE10 := Lib.hid (grown_fill HG9.out hg8 HRB.out); clear hb8 hg8 hs8))
          refine bodyPost_ret (v := .tuple #[.agg (stpC y), .bool true]) (results_cell25 (fn := Tryd.f27) rfl rfl rfl HB10.out Tryd.underlying25 rfl Tryd.sizeStp25) rfl ?_
          exact ⟨by rw [stepR_some HST.out], HE10.out⟩
    · have hq2 : (q == 2) = false := by
        rw [beq_eq_false_iff_ne]
        intro e
        have h1 : (kOf j).2 = 2 := by rw [← HJ.out.2]; exact e
        exact h5 ((kOf_write j hj).1 h1)
      have FIL := Lib.hid (fill_c w6 nb sb 25 (stpC (blankS p q)) (offL j) ws (some ⟨ab, 0, none⟩) cap (fun wx hx => HL.out.ext (grown_fill HG6.out hx HSL.out.1)) HNB6.out HSB6.out HTX.out HNE.out (fun ad h => by injection h with h; rw [← h]; exact HAN.out) (fun o ho => offL_lt j hj o ho) (by rw [HMJ.out]; omega) (fun x hx => by have := HWD.out x hx; have := HCL.out.2; omega) (by omega) hcap)
      clear c1
      have c1 : w6.cell? ⟨kb, 1, none⟩ = some (.int .i64 q) := HKB6.out.cell 1
      go_upto_if 64 with (go_at_call 40; rw [← HMJ.out]; refine FIL.out.mono ?_; rintro e w7 ⟨ok, rfl, hg7, hok⟩; have HG7 := Lib.hid (grown_fill HG6.out hg7 HSL.out.1); have HB7 := Lib.hid (HB6.out.kept hg7 (by intro e; injection e with e; exact HSL.out.2.1 e)); have HOK := Lib.hid hok; clear hg7 hok c1)
      cases ok
      · have HN := Lib.hid (show stepR l = (noStp, false) from stepR_none fun x hx => by
          have h1 := read_only hx
          obtain rfl : kdL x = j := nmL_inj _ h1.1 _ hj (by rw [← h1.2.1, HQ.out.1, HJ.out.1])
          have h2 := h1.2.2 (m + 1) (by rw [HMJ.out]; omega)
          rw [HQ.out.2, HWS.out] at h2
          obtain ⟨vs, v1, v2, v3⟩ := words_vals (j := kdL x) hj hx.1
          rw [if_neg h5, List.append_nil] at v3
          rcases HOK.out with ⟨h, _⟩ | ⟨_, h⟩
          · cases h
          · have := h (by rw [h2, v3, List.length_map, v1])
            rw [h2, v3, mapM_ok v2] at this
            cases this)
        go_wp2_with (first
          | (refine stp_store (z := noStp) rfl _ _ rfl rfl rfl HB7.out rfl ?_; intro w8 hb8 hg8 hs8; have HB8 := Lib.hid hb8; have HE8 := Lib.hid (grown_fill HG7.out hg8 HRB.out); clear hb8 hg8 hs8))
        refine bodyPost_ret (v := .tuple #[.agg (stpC noStp), .bool false]) (results_cell25 (fn := Tryd.f27) rfl rfl rfl HB8.out Tryd.underlying25 rfl Tryd.sizeStp25) rfl ?_
        exact ⟨by rw [HN.out], HE8.out⟩
      · obtain ⟨vs, hvs, hlen, hbk⟩ : ∃ vs, ws.mapM valOf = some vs ∧ ws.length = (offL j).length ∧ Blk w7 sb 25 (fillC (stpC (blankS p q)) (offL j) vs) := by
          rcases HOK.out with ⟨_, h⟩ | ⟨h, _⟩
          · exact h
          · cases h
        have hvl : vs.length = (offL j).length := by rw [mapM_len25 hvs, hlen]
        have hpq : blankS p q = blankD j [] := by unfold blankS blankD; rw [← HJ.out.2]
        rw [hpq, fill_cand hj hvl [] (fun _ => rfl)] at hbk
        have hst : StepIs l (candV j vs []) := read_yes hj (by rw [HQ.out.1, HJ.out.1]) hvl (mapM_rng hvs) (k := m + 1) (by rw [HQ.out.2, HWS.out, if_neg h5, List.append_nil]; exact mapM_is hvs)
        obtain ⟨y, hy⟩ : ∃ y, candV j vs [] = y := ⟨_, rfl⟩
        rw [hy] at hbk hst
        have HST := Lib.hid hst
        have r9 := hbk.range25
        clear hvs hlen hvl hpq hst hy hbk
        go_wp2_with (first
          | (refine stp_load rfl _ rfl rfl r9 ?_)
          | (refine stp_store (z := y) rfl _ _ rfl rfl rfl HB7.out rfl ?_; intro w8 hb8 hg8 hs8; have HB8 := Lib.hid hb8; have HE8 := Lib.hid (grown_fill HG7.out hg8 HRB.out); clear hb8 hg8 hs8))
        refine bodyPost_ret (v := .tuple #[.agg (stpC y), .bool true]) (results_cell25 (fn := Tryd.f27) rfl rfl rfl HB8.out Tryd.underlying25 rfl Tryd.sizeStp25) rfl ?_
        exact ⟨by rw [stepR_some HST.out], HE8.out⟩
theorem stepA_le {l : List UInt8} {w0 w : World} {e : Ending} {w' : World} (h : StepA l w e w') (hg : w0.grownBy w none) : StepA l w0 e w' := ⟨h.1, ext_trans hg h.2⟩
theorem Step_c (l : List UInt8) (w : World) (hL : Lib25 w) (hl : l.length ≤ 200000) : Calls Tryd.prog 10 #[.string (bs l)] w (StepA l w) := by
  have HL := Lib.hid hL
  have hBr := Blk.new w 25 (stpC noStp)
  have hEr := World.grownBy_alloc w (.cells (stpC noStp) 25) none
  obtain ⟨w0, hw0⟩ : ∃ z, w.alloc (.cells (stpC noStp) 25) = z := ⟨_, rfl⟩
  rw [hw0] at hBr hEr
  obtain ⟨rb, hrb⟩ : ∃ z, w.heap.size = z := ⟨_, rfl⟩
  rw [hrb] at hBr
  have HB0 := Lib.hid hBr
  have HE0 := Lib.hid hEr
  have HW0 := Lib.hid (show w.alloc (.cells #[.int .i64 0, .int .i64 0, .int .i64 0, .int .i64 0, .int .i64 0, .int .i64 0, .int .i64 0, .string ⟨#[]⟩] 25) = w0 from hw0)
  have HRB := Lib.hid (show w.heap.size ≤ rb from Nat.le_of_eq hrb)
  obtain ⟨y, hy⟩ : ∃ y, (stepR l).1 = y := ⟨_, rfl⟩
  obtain ⟨b, hb⟩ : ∃ b, (stepR l).2 = b := ⟨_, rfl⟩
  have HY := Lib.hid (And.intro hy hb)
  clear hL hBr hEr hw0 hy hb
  go_enter Tryd.func10, Tryd.ntmps10
  go_upto_region 1 with fail
  rw [HW0.out]
  clear hrb
  go_wp2_with (first
    | (go_at_call 27; refine (read_c mb l _ (HL.out.ext HG1.out) HM.out hl).mono ?_; rintro e w2 ⟨rfl, hg2⟩; rw [HY.out.1, HY.out.2]; have HG2 := Lib.hid (ext_trans HG1.out hg2); have HB2 := Lib.hid (HB1.out.ext hg2); clear hg2)
    | (go_at_call 28; refine (kinds_c _).mono ?_; rintro e w1 ⟨mb, rfl, hD, hlb, hg1⟩; have HM := Lib.hid hD; have HG1 := Lib.hid (ext_trans HE0.out hg1); have HB1 := Lib.hid (HB0.out.ext hg1); clear hD hg1 hlb)
    | (refine stp_store (z := y) rfl _ _ rfl rfl rfl HB2.out rfl ?_; intro w5 hb5 hg5 hs5; have HB5 := Lib.hid hb5; have HE5 := Lib.hid (grown_fill HG2.out hg5 HRB.out); clear hb5 hg5 hs5))
  refine bodyPost_ret (v := .tuple #[.agg (stpC y), .bool b]) (results_cell25 (fn := Tryd.f10) rfl rfl rfl HB5.out Tryd.underlying25 rfl Tryd.sizeStp25) rfl ?_
  exact ⟨by rw [HY.out.1, HY.out.2], HE5.out⟩
end Go.Proofs.YtdaifepjmkmpjaaDoor
