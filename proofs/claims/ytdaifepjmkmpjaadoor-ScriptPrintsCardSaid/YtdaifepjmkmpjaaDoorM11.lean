/-
  Texts put together: ScR ScS.
-/
import Derived.Test.YtdaifepjmkmpjaaDoorM07
import Derived.Test.YtdaifepjmkmpjaaDoorM10
import Derived.Great.BuildSlice
/-
  Layer 25's reference: Print.
-/
namespace Go.Proofs.YtdaifepjmkmpjaaDoor
set_option linter.unusedVariables false
set_option linter.unusedSimpArgs false
set_option linter.unusedVariables false
set_option linter.unusedSimpArgs false
set_option maxRecDepth 100000
open Go.RowKit

/-- A slice reads as these steps. -/
def StpR (w : World) (a : Option Addr) (l : List Stp) : Prop := ∀ i, i < l.length → ∃ b off, a = some ⟨b, off, none⟩ ∧ w.rangeAt b (off + i * 8) (stpC (l.getD i noStp)).toList
theorem StpR.ext {w w' : World} {a : Option Addr} {l : List Stp} (h : StpR w a l) (hg : w.grownBy w' none) : StpR w' a l := fun i hi => by
  obtain ⟨b, off, h1, h2⟩ := h i hi
  exact ⟨b, off, h1, fun j u hj => hg.cell (h2 j u hj) (by simp)⟩
theorem textOf_snoc (ls : List (List UInt8)) (l : List UInt8) : textOf (ls ++ [l]) = textOf ls ++ l ++ [10] := by simp [textOf]
theorem textOf_len {m : Nat} : ∀ {ls : List (List UInt8)}, (∀ w ∈ ls, w.length ≤ m) → (textOf ls).length ≤ ls.length * (m + 1)
  | [], _ => by simp [textOf]
  | l :: ls, h => by
    have h1 := textOf_len (ls := ls) (m := m) (fun w hw => h w (List.mem_cons_of_mem _ hw))
    have h2 := h l (by simp)
    unfold textOf at h1 ⊢
    rw [List.flatMap_cons, List.length_append, List.length_append, List.length_cons, List.length_cons, List.length_nil, Nat.add_mul, Nat.one_mul]
    omega
theorem setupL_word {s : Stu} (hr : s.rng) (hl : s.few) : ∀ w ∈ setupL s, w.length ≤ 40000 := by
  intro w hw
  have hn : ∀ (n : List UInt8) (l : List Int), n.length ≤ 6 → l.length ≤ 1601 → (∀ k ∈ l, i64B k) → (n ++ numsL l).length ≤ 40000 := by
    intro n l h1 h2 h3
    have := numsL_len h3
    rw [List.length_append]; omega
  unfold setupL at hw
  rcases List.mem_append.1 hw with hw | hw
  · rcases List.mem_append.1 hw with hw | hw
    · simp only [List.mem_singleton] at hw
      subst hw
      refine hn _ _ (by decide) (by simp) ?_
      intro k hk
      simp only [List.mem_cons, List.not_mem_nil, or_false] at hk
      rcases hk with rfl | rfl | rfl | rfl
      · exact hr.c
      · exact hr.d
      · exact hr.b
      · exact hr.p
    · simp only [List.mem_flatMap] at hw
      obtain ⟨t, ht, hw⟩ := hw
      have ht4 : t < 4 := by simpa using ht
      unfold faultL at hw
      split at hw
      · simp at hw
      · simp only [List.mem_singleton] at hw
        subst hw
        have := hl.f t ht4
        refine hn _ _ (by decide) (by simp; omega) ?_
        intro k hk
        rcases List.mem_cons.1 hk with rfl | hk
        · unfold i64B; omega
        · exact hr.f t ht4 k hk
  · split at hw
    · simp at hw
    · simp only [List.mem_singleton] at hw
      subst hw
      exact hn _ _ (by decide) (by have := hl.m; omega) hr.m
theorem lineL_len {x : Stp} (hr : x.rng) (hd : x.d.length ≤ 2000) : (lineL x).length ≤ 20000 := by
  have ht : (txtL x.d).length ≤ 4001 := by unfold txtL; split; simp; rw [hexL_len]; omega
  have h1 := numL_len hr.t
  have h2 := numL_len hr.o
  have h3 := numL_len hr.a
  have h4 := numL_len hr.b
  have h5 := numL_len hr.pl
  unfold lineL spellL
  have hn : (nmL (kdL x)).length ≤ 7 := by
    rcases Nat.lt_or_ge (kdL x) 11 with h | h
    · exact (by decide : ∀ j, j < 11 → (nmL j).length ≤ 7) _ h
    · generalize kdL x = j at h
      match j, h with
      | j + 11, _ => simp [nmL]
  rw [List.length_append]
  have hw : ((wordsL (kdL x) x).flatMap fun w => 32 :: w).length ≤ 12100 := by
    unfold wordsL
    split <;> simp <;> omega
  omega
theorem take_snocS (l : List Stp) (k : Nat) (h : k < l.length) : l.take (k + 1) = l.take k ++ [l.getD k noStp] := by
  rw [List.take_succ_eq_append_getElem h, List.getD_eq_getElem?_getD, List.getElem?_eq_getElem h]; rfl
theorem take_snocW (l : List (List UInt8)) (k : Nat) (h : k < l.length) : l.take (k + 1) = l.take k ++ [l.getD k []] := by
  rw [List.take_succ_eq_append_getElem h, List.getD_eq_getElem?_getD, List.getElem?_eq_getElem h]; rfl
/-- What Print answers. -/
def PrintA (s : Stu) (l : List Stp) (w : World) (e : Ending) (w' : World) : Prop := e = .returned (.tuple #[.string (bs (if l.all okL then printL s l else [])), .bool (l.all okL)]) ∧ w.grownBy w' none
theorem printA_ok {s : Stu} {l : List Stp} {w w' : World} (h : ∀ q, q < l.length → okL (l.getD q noStp) = true) {r : List UInt8} (hr : textOf (setupL s ++ l.map lineL) = r) (hg : w.grownBy w' none) : PrintA s l w (.returned (.tuple #[.string (bs r), .bool true])) w' := by
  have ha : l.all okL = true := by
    rw [List.all_eq_true]
    intro x hx
    obtain ⟨q, hq, rfl⟩ := List.getElem_of_mem hx
    have := h q hq
    rw [List.getD_eq_getElem?_getD, List.getElem?_eq_getElem hq] at this
    exact this
  refine ⟨?_, hg⟩
  rw [ha, if_pos rfl, ← hr]
  rfl
theorem printA_no {s : Stu} {l : List Stp} {w w' : World} {q : Nat} (hq : q < l.length) (h : okL (l.getD q noStp) = false) (hg : w.grownBy w' none) : PrintA s l w (.returned (.tuple #[.string ⟨#[]⟩, .bool false])) w' := by
  have ha : l.all okL = false := by
    rw [List.all_eq_false]
    rw [List.getD_eq_getElem?_getD, List.getElem?_eq_getElem hq] at h
    exact ⟨_, List.getElem_mem hq, by rw [show l[q] = (some l[q]).getD noStp from rfl, h]; simp⟩
  refine ⟨?_, hg⟩
  rw [ha]; rfl
set_option maxHeartbeats 1600000 in
theorem print25 (w : World) (s : Stu) (V : Nat → Value) (vm : Value) (a : Option Addr) (cap : Nat) (l : List Stp) (hS : StuIs w s V vm) (hr : s.rng) (hf : s.few) (hR : StpR w a l) (hrl : ∀ x ∈ l, x.rng) (hdl : ∀ x ∈ l, x.d.length ≤ 2000) (hl : l.length ≤ 200) :
    Calls Tryd.prog 17 #[.agg (stuC s V vm), .slice a l.length cap] w (PrintA s l w) := by
  have hB := Blk.new w 38 (stuC s V vm)
  have hE := World.grownBy_alloc w (.cells (stuC s V vm) 38) none
  have H := Lib.hid (And.intro hS (And.intro hr (And.intro hf (And.intro hR (And.intro hrl hdl)))))
  clear hS hr hf hR hrl hdl
  obtain ⟨w1, hw1⟩ : ∃ z, w.alloc (.cells (stuC s V vm) 38) = z := ⟨_, rfl⟩
  rw [hw1] at hB hE
  have hr0 := hB.range25
  have HE := Lib.hid hE
  have SP := setup25 w1 s V vm (H.out.1.ext hE) H.out.2.1 H.out.2.2.1
  have HSP := Lib.hid SP
  have HW := Lib.hid hw1
  clear hB hE SP hw1
  go_enter Tryd.func17, Tryd.ntmps17
  go_upto_region 2 with fail
  rw [HW.out]
  go_wp2_with (first
    | (go_at_call 19; refine HSP.out.mono ?_; rintro e w2 ⟨v, rfl, hO, hnv, hg2⟩; obtain ⟨g, sc, rfl, -, -, -, -, hcl⟩ := hO.open hnv; have HC := Lib.hid hcl; have HE2 := Lib.hid (ext_trans HE.out hg2); clear hO hnv hg2 hcl hr0)
    | (refine stu_load rfl _ rfl rfl hr0 ?_))
  obtain ⟨L, hL⟩ : ∃ L, setupL s = L := ⟨_, rfl⟩
  have hL6 := setupL_len s
  have hLw := setupL_word H.out.2.1 H.out.2.2.1
  rw [hL] at HC hL6 hLw ⊢
  have HL := Lib.hid hL
  have HLW := Lib.hid hLw
  clear hL hLw HSP HW
  go_loopw [6, 16] (fun out i wr => ∃ k : Nat, k ≤ L.length ∧ i = .int .i64 k ∧ out = .string (bs (textOf (L.take k))) ∧ w2.grownBy wr none) (fun _ i _ => L.length - (intOf i).toNat)
  case atStart => exact ⟨0, by omega, rfl, rfl, Ext.refl w2⟩
  case round =>
    obtain ⟨k, hk, rfl, rfl, hE⟩ := hrel
    have hlb := textOf_len (ls := L.take k) (m := 40000) (fun w hw => HLW.out w (List.mem_of_mem_take hw))
    have hlt' : (L.take k).length ≤ 6 := by simp; omega
    obtain ⟨r, hr⟩ : ∃ r, textOf (L.take k) = r := ⟨_, rfl⟩
    rw [hr] at hlb ⊢
    have hr7 : r.length ≤ 240006 := by omega
    have HR := Lib.hid hr
    clear hr hlb hlt'
    by_cases hlt : k < L.length
    · have hc := hE.cell (HC.out k hlt) (by simp)
      have HT := Lib.hid (take_snocW L k hlt)
      obtain ⟨x, hx⟩ : ∃ x, L.getD k [] = x := ⟨_, rfl⟩
      have hxl : x.length ≤ 40000 := HLW.out x (by rw [← hx, List.getD_eq_getElem?_getD, List.getElem?_eq_getElem hlt]; exact List.getElem_mem hlt)
      rw [hx] at hc
      have HX := Lib.hid hx
      have a1 := add_bs r x (by omega)
      have a2 : ∀ z, (Op.stringOp .add (bs (r ++ x)) ⟨#[10]⟩).run Tryd.prog z = .ok (.string (bs (r ++ x ++ [10]))) z := add_bs (r ++ x) [10] (by simp; omega)
      obtain ⟨r1, h1⟩ : ∃ r1, r ++ x = r1 := ⟨_, rfl⟩
      rw [h1] at a1 a2
      obtain ⟨r2, h2⟩ : ∃ r2, r1 ++ [10] = r2 := ⟨_, rfl⟩
      rw [h2] at a2
      have HZ := Lib.hid (show textOf (L.take (k + 1)) = r2 from by rw [HT.out, textOf_snoc, HR.out, HX.out, h1, h2])
      have HE3 := Lib.hid hE
      clear hx h1 h2 hE
      go_wp2
      go_roundw
      case rel => exact ⟨k + 1, by omega, by go_num, by rw [HZ.out], HE3.out⟩
      case measure => simp [intOf]; omega
    · have HR0 := Lib.hid (show textOf L = r from by rw [← HR.out, List.take_of_length_le (by omega)])
      have HE3 := Lib.hid (ext_trans HE2.out hE)
      clear hE HR
      go_wp2
      go_loopw [6, 27] (fun out i wr => ∃ k : Nat, k ≤ l.length ∧ i = .int .i64 k ∧ out = .string (bs (textOf (L ++ (l.take k).map lineL))) ∧ (∀ q, q < k → okL (l.getD q noStp) = true) ∧ w.grownBy wr none) (fun _ i _ => l.length - (intOf i).toNat)
      case atStart => exact ⟨0, by omega, rfl, by simp [HR0.out], (fun q hq => absurd hq (by omega)), HE3.out⟩
      case round =>
        obtain ⟨k, hk, rfl, rfl, hQ, hE⟩ := hrel
        have hlb := textOf_len (ls := L ++ (l.take k).map lineL) (m := 40000) (fun w hw => by
          rcases List.mem_append.1 hw with hw | hw
          · exact HLW.out w hw
          · obtain ⟨x, hx, rfl⟩ := List.mem_map.1 hw
            have := lineL_len (H.out.2.2.2.2.1 x (List.mem_of_mem_take hx)) (H.out.2.2.2.2.2 x (List.mem_of_mem_take hx))
            omega)
        have hlt' : (L ++ (l.take k).map lineL).length ≤ 206 := by simp; omega
        obtain ⟨r, hr⟩ : ∃ r, textOf (L ++ (l.take k).map lineL) = r := ⟨_, rfl⟩
        rw [hr] at hlb ⊢
        have hr7 : r.length ≤ 9000000 := by
          have : (L ++ (l.take k).map lineL).length * (40000 + 1) ≤ 206 * 40001 := Nat.mul_le_mul_right _ hlt'
          omega
        have HR := Lib.hid hr
        have HQ := Lib.hid hQ
        clear hr hlb hlt' hQ
        by_cases hlt : k < l.length
        · obtain ⟨b, off, rfl, hrx⟩ := (H.out.2.2.2.1.ext hE) k hlt
          have HT := Lib.hid (take_snocS l k hlt)
          obtain ⟨x, hx⟩ : ∃ x, l.getD k noStp = x := ⟨_, rfl⟩
          have hxm : x ∈ l := by rw [← hx, List.getD_eq_getElem?_getD, List.getElem?_eq_getElem hlt]; exact List.getElem_mem hlt
          rw [hx] at hrx
          have hrg := H.out.2.2.2.2.1 x hxm
          have hd := H.out.2.2.2.2.2 x hxm
          have hll := lineL_len hrg hd
          have HX := Lib.hid (And.intro hx (And.intro hrg hd))
          obtain ⟨t, ht⟩ : ∃ t, lineL x = t := ⟨_, rfl⟩
          rw [ht] at hll
          have HTT := Lib.hid ht
          have hBn := Blk.new wr 25 (stpC noStp)
          have HE3 := Lib.hid hE
          clear hx hxm hrg hd ht hE
          cases hok : okL x
          · have HOK := Lib.hid hok
            clear hok
            go_wp2_with (first
              | (go_at_call 9; refine (line25 _ x HX.out.2.1 HX.out.2.2).mono ?_; rintro e w5 hL; obtain ⟨rfl, hg5⟩ := hL; rw [HOK.out]; have HE5 := Lib.hid (ext_trans HE3.out (ext_trans HE4.out hg5)); clear hr4 hg5)
              | (refine stp_store (z := x) rfl _ _ rfl rfl rfl hBn rfl ?_; intro w4 hb4 hg4 hs4; have hr4 := hb4.range25; have HE4 := Lib.hid (new24 (World.grownBy_alloc wr _ none) hg4 (Nat.le_refl _)); clear hg4 hs4 hb4 hBn)
              | (refine stp_load rfl _ rfl rfl hr4 ?_)
              | (refine stp_load rfl _ rfl rfl hrx ?_))
            go_ret2
            exact printA_no hlt (by rw [HX.out.1, HOK.out]) HE5.out
          · have HOK := Lib.hid hok
            have a1 := add_bs r t (by omega)
            have a2 : ∀ z, (Op.stringOp .add (bs (r ++ t)) ⟨#[10]⟩).run Tryd.prog z = .ok (.string (bs (r ++ t ++ [10]))) z := add_bs (r ++ t) [10] (by simp; omega)
            obtain ⟨r1, h1⟩ : ∃ r1, r ++ t = r1 := ⟨_, rfl⟩
            rw [h1] at a1 a2
            obtain ⟨r2, h2⟩ : ∃ r2, r1 ++ [10] = r2 := ⟨_, rfl⟩
            rw [h2] at a2
            have HZ := Lib.hid (show textOf (L ++ (l.take (k + 1)).map lineL) = r2 from by rw [HT.out, List.map_append, ← List.append_assoc, List.map_cons, List.map_nil, textOf_snoc, HR.out, HX.out.1, HTT.out, h1, h2])
            clear hok h1 h2
            go_wp2_with (first
              | (go_at_call 9; refine (line25 _ x HX.out.2.1 HX.out.2.2).mono ?_; rintro e w5 hL; obtain ⟨rfl, hg5⟩ := hL; rw [HOK.out, if_pos rfl, HTT.out]; have HE5 := Lib.hid (ext_trans HE3.out (ext_trans HE4.out hg5)); clear hr4 hg5)
              | (refine stp_store (z := x) rfl _ _ rfl rfl rfl hBn rfl ?_; intro w4 hb4 hg4 hs4; have hr4 := hb4.range25; have HE4 := Lib.hid (new24 (World.grownBy_alloc wr _ none) hg4 (Nat.le_refl _)); clear hg4 hs4 hb4 hBn)
              | (refine stp_load rfl _ rfl rfl hr4 ?_)
              | (refine stp_load rfl _ rfl rfl hrx ?_))
            go_roundw
            case rel => exact ⟨k + 1, by omega, by go_num, by rw [HZ.out], (fun q hq => by
              by_cases e : q = k
              · subst e; rw [HX.out.1]; exact HOK.out
              · exact HQ.out q (by omega)), HE5.out⟩
            case measure => simp [intOf]; omega
        · have HR1 := Lib.hid (show textOf (setupL s ++ l.map lineL) = r from by rw [HL.out, ← HR.out, List.take_of_length_le (by omega)])
          have HQ1 := Lib.hid (show ∀ q, q < l.length → okL (l.getD q noStp) = true from fun q hq => HQ.out q (by omega))
          have HE3 := Lib.hid hE
          clear hE HR HQ
          go_wp2
          go_ret2
          exact printA_ok HQ1.out HR1.out HE3.out

end Go.Proofs.YtdaifepjmkmpjaaDoor

/-
  Layer 25's reference: what stands while a text is parsed.
-/
namespace Go.Proofs.YtdaifepjmkmpjaaDoor
set_option linter.unusedVariables false
set_option linter.unusedSimpArgs false
set_option linter.unusedVariables false
set_option linter.unusedSimpArgs false
set_option maxRecDepth 100000
open Go.RowKit

/-! ### pure: lines one by one -/
theorem linesP_snoc {a : List (List UInt8)} {p : PSt} (h : linesP a 0 noPSt = some p) (l : List UInt8) : linesP (a ++ [l]) 0 noPSt = lineP a.length l p := by
  rw [linesP_app, h, Option.bind_some, Nat.zero_add]
  simp only [linesP]
  cases lineP a.length l p <;> rfl
theorem linesP_stop {a r : List (List UInt8)} {p : PSt} (h : linesP a 0 noPSt = some p) {l : List UInt8} (hl : lineP a.length l p = none) : linesP (a ++ l :: r) 0 noPSt = none := by
  rw [linesP_app, h, Option.bind_some, Nat.zero_add]
  simp only [linesP, hl]
section
variable {line : List UInt8} {p : PSt} {l : List Int}
theorem headS_yes {c d b q : Int} (h : valsOf (splitL 32 line).tail = some [c, d, b, q]) (hw : (splitL 32 line).headD [] = arrayS) : lineP 0 line p = some { p with s := { p.s with c := c, d := d, b := b, p := q } } := by
  unfold lineP headS
  rw [if_pos rfl, h, hw]; simp
theorem headS_none (h : valsOf (splitL 32 line).tail = none) : lineP 0 line p = none := by
  unfold lineP headS
  rw [if_pos rfl, h]
theorem headS_word (hw : (splitL 32 line).headD [] ≠ arrayS) : lineP 0 line p = none := by
  unfold lineP headS
  rw [if_pos rfl]
  split
  · rw [if_neg hw]
  · rfl
theorem headS_len (h : valsOf (splitL 32 line).tail = some l) (hl : l.length ≠ 4) : lineP 0 line p = none := by
  unfold lineP headS
  rw [if_pos rfl, h]
  split
  · rename_i e; injection e with e; subst e; simp at hl
  · rfl
variable {k : Nat} (hk : 0 < k)
include hk
theorem fault_is (hw : (splitL 32 line).headD [] = faultS) : lineP k line p = faultP line p := by
  unfold lineP restP
  rw [if_neg (by omega), if_pos hw]
theorem marked_is (hw : (splitL 32 line).headD [] = markedS) : lineP k line p = markedP line p := by
  unfold lineP restP
  rw [if_neg (by omega), if_neg (by rw [hw]; decide), if_pos hw]
theorem step_is (h1 : (splitL 32 line).headD [] ≠ faultS) (h2 : (splitL 32 line).headD [] ≠ markedS) : lineP k line p = stepP line p := by
  unfold lineP restP
  rw [if_neg (by omega), if_neg h1, if_neg h2]
end
section
variable {line : List UInt8} {p : PSt} {l : List Int}
theorem faultP_none (h : valsOf (splitL 32 line).tail = none) : faultP line p = none := by unfold faultP; rw [h]
theorem faultP_no (h : valsOf (splitL 32 line).tail = some l) (hn : ¬ (2 ≤ l.length ∧ p.last < l.getD 0 0 ∧ l.getD 0 0 ≤ 3 ∧ p.s.m = [] ∧ p.st = [])) : faultP line p = none := by
  unfold faultP
  rw [h]
  split
  · rename_i n r e
    injection e with e
    subst e
    rw [if_neg]
    rintro ⟨h1, h2, h3, h4, h5⟩
    refine hn ⟨?_, h2, h3, h4, h5⟩
    cases r with
    | nil => exact absurd rfl h1
    | cons a r => simp
  · rfl
theorem faultP_yes {n : Int} {r : List Int} (h : valsOf (splitL 32 line).tail = some (n :: r)) (hn : r ≠ [] ∧ p.last < n ∧ n ≤ 3 ∧ p.s.m = [] ∧ p.st = []) : faultP line p = some { p with s := { p.s with f := updF25 p.s.f n.toNat r }, last := n } := by
  unfold faultP
  rw [h]; simp only; rw [if_pos hn]
theorem markedP_none (h : valsOf (splitL 32 line).tail = none) : markedP line p = none := by unfold markedP; rw [h]
theorem markedP_no (h : valsOf (splitL 32 line).tail = some l) (hn : ¬ (p.s.m = [] ∧ p.st = [])) : markedP line p = none := by unfold markedP; rw [h]; simp only; rw [if_neg hn]
theorem markedP_yes (h : valsOf (splitL 32 line).tail = some l) (hn : p.s.m = [] ∧ p.st = []) : markedP line p = some { p with s := { p.s with m := l } } := by unfold markedP; rw [h]; simp only; rw [if_pos hn]
theorem stepP_no (h : (stepR line).2 = false) : stepP line p = none := by
  unfold stepR at h
  unfold stepP
  split at h
  · cases h
  · rename_i e; rw [e]
theorem stepP_yes (h : (stepR line).2 = true) : stepP line p = some { p with st := p.st ++ [(stepR line).1] } ∧ StepIs line (stepR line).1 := by
  unfold stepR at h ⊢
  unfold stepP
  split at h
  · rename_i x e; rw [e]; exact ⟨rfl, stepOf_is e⟩
  · cases h
end
theorem hexL_le {c d : List UInt8} (h : (txtL d).length ≤ c.length) : d.length ≤ c.length := by
  unfold txtL at h
  split at h
  · rename_i e; subst e; simp
  · rw [hexL_len] at h; omega
theorem stepIs_d {line : List UInt8} {x : Stp} (h : StepIs line x) : x.d.length ≤ line.length := by
  have hc := kdL_cases x
  by_cases h5 : kdL x = 5
  · refine hexL_le ?_
    rw [← h.2.2]
    unfold lineL spellL
    rw [h5]
    simp only [wordsL, List.flatMap_cons, List.flatMap_nil, List.length_append, List.length_cons, List.append_nil]
    omega
  · have hw := h.2.1
    simp only [okL, Bool.and_eq_true, decide_eq_true_eq] at hw
    obtain ⟨h1, h2⟩ := hw
    have hd : (wantL (kdL x) x).d = [] := by
      generalize kdL x = j at h1 h5
      match j, h1 with
      | 0, _ | 1, _ | 2, _ | 3, _ | 4, _ | 6, _ | 7, _ | 8, _ | 9, _ | 10, _ => rfl
      | 5, _ => exact absurd rfl h5
    rw [← h2, hd]; simp

/-! ### memory -/
/-- The cells of steps. -/
def stpL (l : List Stp) : List Value := l.flatMap fun x => (stpC x).toList
theorem stpL_length (l : List Stp) : (stpL l).length = l.length * 8 := by
  induction l with
  | nil => rfl
  | cons x r ih =>
    have : stpL (x :: r) = (stpC x).toList ++ stpL r := rfl
    rw [this, List.length_append, ih]
    simp [stpC]; omega
theorem stpL_at (l : List Stp) (i : Nat) (hi : i < l.length) (j : Nat) (hj : j < 8) : (stpL l)[i * 8 + j]? = (stpC (l.getD i noStp)).toList[j]? := by
  induction l generalizing i with
  | nil => simp at hi
  | cons x r ih =>
    have e : stpL (x :: r) = (stpC x).toList ++ stpL r := rfl
    have e2 : (stpC x).toList.length = 8 := rfl
    rw [e]
    match i with
    | 0 => rw [List.getElem?_append_left (by omega), Nat.zero_mul, Nat.zero_add]; rfl
    | i + 1 =>
      rw [List.getElem?_append_right (by omega), e2, show (i + 1) * 8 + j - 8 = i * 8 + j by omega, ih i (by simpa using hi)]
      rfl
abbrev OwnP (B : Nat) (w : World) (v : Value) (l : List Stp) : Prop := w.ownsRow B 25 8 v l.length (stpL l)
theorem OwnP.read {B : Nat} {w : World} {v : Value} {l : List Stp} (h : OwnP B w v l) : ∃ a cap, v = .slice a l.length cap ∧ StpR w a l := by
  rcases h.2 with ⟨rfl, h0⟩ | ⟨g, cap, cur, rfl, h2, h3, h4, h5, h6, h7⟩
  · exact ⟨none, 0, by rw [h0], fun i hi => by omega⟩
  · refine ⟨_, cap, rfl, fun i hi => ⟨g, 0, rfl, fun j u hj => ?_⟩⟩
    have hj2 : j < 8 := (List.getElem?_eq_some_iff.1 hj).1
    have h8 : (cur.toList.take (l.length * 8))[i * 8 + j]? = (stpL l)[i * 8 + j]? := by rw [h7]
    rw [List.getElem?_take, if_pos (by omega), Array.getElem?_toList, stpL_at l i hi j hj2, hj] at h8
    rw [cell_of_row w g _ cur _ (0, 0) h3, Nat.zero_add]
    exact h8
theorem Tryd.infoStp25 : (Tryd.prog.info? 25).map (fun i => (i.zero, i.size, i.bytes)) = some (some (.agg #[.int .i64 0, .int .i64 0, .int .i64 0, .int .i64 0, .int .i64 0, .int .i64 0, .int .i64 0, .string ⟨#[]⟩]), 8, 72) := by kernel_rfl
section
variable {ops : Array Oper} {rest : List Oper} {o : Oper} {a : Act} {w : World} {Q : Exit → Act → World → Prop}
theorem append_p25 (hgd : o.guard = none) (s x : Operand) (ho : o.op = .call { callee := .builtin .append, args := #[s, x], argTypes := #[39, 39] }) (base : Nat) (v : Value) (l : List Stp) (hs : a.eval s = v) (hown : OwnP base w v l)
    (ad : Addr) (cap : Nat) (y : Stp) (hx : a.eval x = .slice (some ad) 1 cap) (hc : ∀ j u, (stpC y).toList[j]? = some u → w.cell? (ad.add j) = some u) (h63 : l.length ≤ 1000000) (hbase : base ≤ w.heap.size)
    (h : ∀ v' w', OwnP base w' v' (l ++ [y]) → w.grownBy w' v.ownBlock → (v'.ownBlock = v.ownBlock ∨ v'.ownBlock = some w.heap.size) → wpList Tryd.prog ops Q rest (a.put o.dst v') w') : wpList Tryd.prog ops Q (o :: rest) a w := by
  obtain ⟨i0, hi, hz0, hz1, hz2⟩ := info_parts Tryd.infoStp25
  refine wpList_append_own_at w hgd s x 39 ho base 25 i0 _ 8 72 Tryd.underlying39 hi hz0 hz1 hz2 rfl (by decide) v _ _ hs hown ad 1 cap (stpC y).toList hx rfl hc (by intro u hu; simp [stpC] at hu; rcases hu with rfl | rfl | rfl | rfl | rfl | rfl | rfl | rfl <;> rfl) (by unfold maxLen; omega) (by omega) hbase ?_
  intro v' w' h1 h2 _ h4
  refine h v' w' ?_ h2 h4
  have e : stpL (l ++ [y]) = stpL l ++ (stpC y).toList := by simp [stpL]
  unfold OwnP
  rw [List.length_append, e]
  exact h1
end
theorem fill_stp (y : Stp) : Instr.fill (fun i => some (i * 8, 8)) ((Array.range (1 * 8)).map ((#[Value.int .i64 0, .int .i64 0, .int .i64 0, .int .i64 0, .int .i64 0, .int .i64 0, .int .i64 0, .string ⟨#[]⟩] : Array Value)[· % 8]!)) [(0, .agg (stpC y))] = some (stpC y) := by
  obtain ⟨k, t, o, a, b, op, pl, d⟩ := y
  kernel_rfl
/-- A slice of one step is made. -/
theorem stp_lit {ops : Array Oper} {rest : List Oper} {o : Oper} {a : Act} {w : World} {Q : Exit → Act → World → Prop} (hgd : o.guard = none) (x : Operand) (ho : o.op = .buildSlice 39 1 #[(0, x)]) {y : Stp} (hx : a.eval x = .agg (stpC y))
    (h : wpList Tryd.prog ops Q rest (a.put o.dst (.slice (some ⟨w.heap.size, 0, none⟩) 1 1)) (w.alloc (.cells (stpC y) 25))) : wpList Tryd.prog ops Q (o :: rest) a w := by
  obtain ⟨i0, hi, hz0, hz1, hz2⟩ := info_parts Tryd.infoStp25
  refine wpList_buildSlice hgd 39 25 1 _ ho (stpC y) i0 _ Tryd.underlying39 hi hz0 (by rw [hz1]; omega) (by rw [hz1]; omega) ?_ h
  rw [hz1]
  have : ((#[(0, x)] : Array (Nat × Operand)).map fun (q : Nat × Operand) => (q.1, a.eval q.2)).toList = [(0, .agg (stpC y))] := by simp [hx]
  rw [this]
  exact fill_stp y
theorem cells_newS (w : World) (y : Stp) (t : TypeId) : ∀ j u, (stpC y).toList[j]? = some u → (w.alloc (.cells (stpC y) t)).cell? ((⟨w.heap.size, 0, none⟩ : Addr).add j) = some u := fun j u hj => by
  rw [addr_add, Nat.zero_add, cell_of_row _ w.heap.size j (stpC y) t (0, 0) (heap_alloc_new w _), ← hj, Array.getElem?_toList]
section
variable {ops : Array Oper} {rest : List Oper} {o : Oper} {a : Act} {w : World} {Q : Exit → Act → World → Prop}
theorem stu_store (hwt : Region.wanted o (yielded ops a.tmps) = true) (x y : Operand) (ho : o.op = .store 38 x y) {g : Nat} (hx : a.eval x = .pointer (some ⟨g, 0, none⟩)) {s : Stu} {V : Nat → Value} {vm : Value} (hv : ∀ t, t < 4 → SliceV (V t)) (hm : SliceV vm) (hy : a.eval y = .agg (stuC s V vm)) {old : Array Value} (hg : Blk w g 38 old) (hl : old.size = 9)
    (h : ∀ w', Blk w' g 38 (stuC s V vm) → w.grownBy w' (some g) → w'.heap.size = w.heap.size → wpList Tryd.prog ops Q rest (a.put o.dst undef) w') : wpList Tryd.prog ops Q (o :: rest) a w :=
  wpList_store_part hwt _ x y ho g 0 9 _ hx hy _ old _ hg rfl Tryd.sizeStu25 (by omega) (by
    obtain ⟨_, _, _, h0⟩ := hv 0 (by omega)
    obtain ⟨_, _, _, h1⟩ := hv 1 (by omega)
    obtain ⟨_, _, _, h2⟩ := hv 2 (by omega)
    obtain ⟨_, _, _, h3⟩ := hv 3 (by omega)
    obtain ⟨_, _, _, h4⟩ := hm
    simp [stuC, h0, h1, h2, h3, h4, Value.oneCell']) (by
    have h1 : (stuC s V vm).toList.length = 9 := rfl
    rw [h1, List.drop_of_length_le (by simp; omega)]
    simp) h
end

end Go.Proofs.YtdaifepjmkmpjaaDoor
