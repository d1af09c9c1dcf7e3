/-
  Package tag: Bytes, and the document's.
-/
import Derived.Test.YtjlecncamfdcfaaDoorTA
import Derived.Test.YtjlecncamfdcfaaDoorFE
namespace Go.Proofs.YtjlecncamfdcfaaDoor
open Go.RowKit

/-- The bytes of the first j numbers. -/
def pre (v : Nat → Int) : Nat → List Int
  | 0 => []
  | j + 1 => pre v j ++ leB (v j) (fsz j).toNat
def bitI (p : Bool) : Int := if p then 1 else 0
def tagL (a b c d k : Int) (p : Bool) : List Int := pre (nth a b c d k) 5 ++ leB (bitI p) 1
def tagBE (a b c d k : Int) : Int := if okB a b c d k then 0 else 1
def tagBL (a b c d k : Int) (p : Bool) : List Int := if okB a b c d k then frL 84 (tagL a b c d k p) else []

theorem fld_cases {j : Nat} (hj : j < 5) : (fsz j = 1 ∧ 0 ≤ ffr j ∧ fto j ≤ 255) ∨ (fsz j = 4 ∧ 0 ≤ ffr j ∧ fto j ≤ 4294967295) := by
  have : j = 0 ∨ j = 1 ∨ j = 2 ∨ j = 3 ∨ j = 4 := by omega
  rcases this with rfl | rfl | rfl | rfl | rfl <;> decide
theorem put_pre {v : Nat → Int} {j : Nat} (hj : j < 5) (h : ffr j ≤ v j ∧ v j ≤ fto j) : putL (pre v j) (v j) (fsz j) = pre v (j + 1) := by
  have hf : fitsB (v j) (fsz j) = true := by
    unfold fitsB
    rw [decide_eq_true_eq]
    rcases fld_cases hj with ⟨e, h1, h2⟩ | ⟨e, h1, h2⟩
    · rw [e]; omega
    · rw [e]; omega
  simp [putL, hf, pre]
theorem pre_byts (v : Nat → Int) : ∀ j, Byts (pre v j)
  | 0 => fun _ h => by cases h
  | j + 1 => byts_append (pre_byts v j) (leB_byts _ _)
theorem fsz_le {j : Nat} (hj : j < 5) : (fsz j).toNat ≤ 4 := by
  rcases fld_cases hj with ⟨e, _⟩ | ⟨e, _⟩ <;> rw [e] <;> decide
theorem pre_le (v : Nat → Int) : ∀ j, j ≤ 5 → (pre v j).length ≤ 4 * j
  | 0, _ => by simp [pre]
  | j + 1, h => by
    have h1 := pre_le v j (by omega)
    have h2 := fsz_le (j := j) (by omega)
    simp only [pre, List.length_append, leB_len]
    omega
theorem put_bit (xs : List Int) (p : Bool) : putL xs (bitI p) 1 = xs ++ leB (bitI p) 1 := by
  cases p <;> rfl
theorem tagL_len (a b c d k : Int) (p : Bool) : (tagL a b c d k p).length = 12 := by
  simp [tagL, pre, leB_len, fsz]
theorem tagL_byts (a b c d k : Int) (p : Bool) : Byts (tagL a b c d k p) := byts_append (pre_byts _ _) (leB_byts _ _)
theorem tag_mk (a b c d k : Int) (p : Bool) : mkE 84 (tagL a b c d k p) = 0 ∧ mkL 84 (tagL a b c d k p) = frL 84 (tagL a b c d k p) := by
  have h : mkE 84 (tagL a b c d k p) = 0 := by
    unfold mkE
    rw [if_pos (by decide), tagL_len, if_pos (by decide)]
  exact ⟨h, by unfold mkL; rw [if_pos h]⟩
theorem made_ext {w w1 w2 : World} {ys : List Int} {er : Int} {e : Ending} (hg : Ext w w1) (h : MadeE w1 ys er e w2) : MadeE w ys er e w2 := by
  obtain ⟨v', rfl, h1, h2⟩ := h
  exact ⟨v', rfl, ownsRow_le h1 hg.size, ext_trans hg h2⟩
theorem okB_all {a b c d k : Int} (h : okB a b c d k = true) : ∀ j, j < 5 → ffr j ≤ nth a b c d k j ∧ nth a b c d k j ≤ fto j := by
  simp only [okB, List.all_eq_true, List.mem_range, decide_eq_true_eq] at h
  exact h

/-- A tag's block. -/
def TagAt (w : World) (B : Nat) (a b c d k : Int) (p : Bool) : Prop :=
  w.cell? ⟨B, 0, none⟩ = some (.int .i64 a) ∧ w.cell? ⟨B, 1, none⟩ = some (.int .i64 b) ∧ w.cell? ⟨B, 2, none⟩ = some (.int .i64 c) ∧ w.cell? ⟨B, 3, none⟩ = some (.int .i64 d) ∧ w.cell? ⟨B, 4, none⟩ = some (.int .i64 k) ∧ w.cell? ⟨B, 5, none⟩ = some (.bool p)
theorem tagAt_new (w : World) (a b c d k : Int) (p : Bool) : TagAt (w.alloc (tagObj a b c d k p)) w.heap.size a b c d k p := by
  unfold TagAt tagObj
  refine ⟨?_, ?_, ?_, ?_, ?_, ?_⟩ <;> (rw [World.cell?_alloc_mark]; rfl)
theorem TagAt.ext {w w' : World} {B : Nat} {a b c d k : Int} {p : Bool} (h : TagAt w B a b c d k p) (hg : Ext w w') : TagAt w' B a b c d k p :=
  ⟨hg.cell h.1 (by simp), hg.cell h.2.1 (by simp), hg.cell h.2.2.1 (by simp), hg.cell h.2.2.2.1 (by simp), hg.cell h.2.2.2.2.1 (by simp), hg.cell h.2.2.2.2.2 (by simp)⟩

set_option maxRecDepth 100000 in
set_option maxHeartbeats 400000 in
theorem tagBytes_bad (a b c d k : Int) (p : Bool) (w : World) (hF : Flds w) (h : okB a b c d k = false) :
    Calls Tryd.prog 7 #[tagV a b c d k p] w (MadeE w [] 1) := by
  have R := fun w hF => right_any a b c d k p w hF
  rw [h] at R
  have HF := Lib.hid hF
  unfold tagV at *
  clear h hF
  go_enter Tryd.func7, Tryd.ntmps7
  go_wp2_with (go_at_call 9; refine (R _ (HF.out.ext (World.grownBy_alloc _ _ none))).mono ?_; rintro e w1 ⟨rfl, hg1⟩)
  go_returns
  exact ⟨_, rfl, owns_nil _ _, ext_trans (World.grownBy_alloc _ _ none) hg1⟩

set_option maxRecDepth 100000 in
set_option maxHeartbeats 400000 in
theorem refTagBytes_bad (a b c d k : Int) (p : Bool) (w : World) (h : okB a b c d k = false) :
    Calls Tryd.prog 8 #[tagV a b c d k p] w (MadeE w [] 1) := by
  have R := fun w => refRight_any a b c d k p w
  rw [h] at R
  unfold tagV tagObj at *
  clear h
  go_enter Tryd.func8, Tryd.ntmps8
  go_wp2_with (go_at_call 10; refine (R _).mono ?_; rintro e w1 ⟨rfl, rfl⟩)
  go_returns
  exact ⟨_, rfl, owns_nil _ _, ext_trans (World.grownBy_alloc _ _ none) (World.grownBy_alloc _ _ none)⟩

set_option maxRecDepth 100000 in
set_option maxHeartbeats 800000 in
theorem tagBytes_good (a b c d k : Int) (p : Bool) (w : World) (hF : Flds w) (h : okB a b c d k = true) :
    Calls Tryd.prog 7 #[tagV a b c d k p] w (MadeE w (frL 84 (tagL a b c d k p)) 0) := by
  have R := fun w hF => right_any a b c d k p w hF
  have N := numbers_any a b c d k p
  have M := fun v w hb => make_any 84 v (tagL a b c d k p) w hb (tagL_byts a b c d k p) (by rw [tagL_len]; decide) (by decide)
  rw [(tag_mk a b c d k p).1, (tag_mk a b c d k p).2] at M
  have HA := okB_all h
  rw [h] at R
  have HT := Lib.hid (put_bit (pre (nth a b c d k) 5) p)
  rw [show pre (nth a b c d k) 5 ++ leB (bitI p) 1 = tagL a b c d k p from rfl] at HT
  generalize tagL a b c d k p = tl at *
  have hF1 := hF.ext (World.grownBy_alloc w (tagObj a b c d k p) none)
  have HF := Lib.hid hF1
  have hN := fun (w : World) => arr_new (w.alloc (arrObj a b c d k)) a b c d k
  generalize hv : nth a b c d k = v at *
  have HT0 := Lib.hid (tagAt_new w a b c d k p)
  have HN := Lib.hid hN
  have HAll := Lib.hid HA
  have hbit : bitI p = if p then 1 else 0 := rfl
  unfold tagV tagObj arrV arrObj at *
  clear hv h hF hF1 hN HA
  go_enter Tryd.func7, Tryd.ntmps7
  go_wp2_with (first
    | (go_at_call 9; refine (R _ HF.out).mono ?_; rintro e w1 ⟨rfl, hg1⟩; obtain ⟨b0, b1, b2, b3, b4, b5⟩ := HT0.out.ext hg1)
    | (go_at_call 16; refine (N _).mono ?_; rintro e w2 ⟨rfl, rfl⟩))
  have he4 : Ext w1 (((w1.alloc (.cells #[.int .i64 a, .int .i64 b, .int .i64 c, .int .i64 d, .int .i64 k, .bool p] 23)).alloc (.cells #[.int .i64 a, .int .i64 b, .int .i64 c, .int .i64 d, .int .i64 k] 36)).alloc (.cells #[.int .i64 a, .int .i64 b, .int .i64 c, .int .i64 d, .int .i64 k] 36)) :=
    ext_trans (ext_trans (World.grownBy_alloc _ _ none) (World.grownBy_alloc _ _ none)) (World.grownBy_alloc _ _ none)
  have hA := HN.out (w1.alloc (.cells #[.int .i64 a, .int .i64 b, .int .i64 c, .int .i64 d, .int .i64 k, .bool p] 23))
  rw [show ((w1.alloc (.cells #[.int .i64 a, .int .i64 b, .int .i64 c, .int .i64 d, .int .i64 k, .bool p] 23)).alloc (.cells #[.int .i64 a, .int .i64 b, .int .i64 c, .int .i64 d, .int .i64 k] 36)).heap.size = w1.heap.size + 1 + 1 by simp] at hA
  have hw1 : Ext w w1 := ext_trans (World.grownBy_alloc _ _ none) hg1
  have HS := Lib.hid (And.intro (ext_trans hw1 he4) (And.intro hA (And.intro ((HF.out.ext hg1).ext he4) ((HT0.out.ext hg1).ext he4))))
  clear hA he4 hw1
  clear b0 b1 b2 b3 b4 b5
  go_loopw [5, 13] (fun o i wr => ∃ j : Nat, j ≤ 5 ∧ i = .int .i64 j ∧ Bts wr o (pre v j) ∧ Ext w wr ∧ Arr wr (w1.heap.size + 1 + 1) v ∧ Flds wr ∧ TagAt wr w.heap.size a b c d k p) (fun _ i _ => 5 - (intOf i).toNat)
  case atStart => exact ⟨0, by omega, rfl, .inl ⟨rfl, rfl⟩, HS.out.1, HS.out.2.1, HS.out.2.2.1, HS.out.2.2.2⟩
  case round =>
    obtain ⟨j, hj, rfl, hb, hE, hA, hF, hT⟩ := hrel
    by_cases hlt : j < 5
    · have HE := Lib.hid (And.intro hE (And.intro hA (And.intro hF (And.intro hT hb))))
      have hcs := fun x (hx : Ext wr x) => And.intro ((hA.ext hx) j hlt) ((hF.ext hx) j hlt).1
      have hst := put_pre hlt (HAll.out j hlt)
      have hbd : v j ≤ 9223372036854775807 := by have := (HAll.out j hlt).2; rcases fld_cases hlt with ⟨_, _, h⟩ | ⟨_, _, h⟩ <;> omega
      have hln : (pre v j).length ≤ 140737488350000 := by have := pre_le v j (by omega); omega
      clear hE hA hF hT hb
      obtain ⟨x, hx⟩ : ∃ x, v j = x := ⟨_, rfl⟩
      obtain ⟨s, hs⟩ : ∃ x, fsz j = x := ⟨_, rfl⟩
      rw [hx, hs] at hcs hst
      rw [hx] at hbd
      have HX := Lib.hid hst
      clear hst hx hs
      go_wp2
      have hS := Ext.drew wr
      refine region_line [(0, true), (1, true), (2, true), (3, true), (4, true), (5, true), (6, true), (7, true), (8, false), (9, true)] (Ext wr) (by kernel_rfl) (by kernel_rfl) (fun _ _ _ d _ h => by cases d <;> exact h) hS ?_
      repeat (refine line_read (a' := ?_) rfl (by kernel_rfl) (by kernel_rfl) hS (fun x hx K hK => ?_) ?_; rotate_left; · obtain ⟨q1, q2⟩ := hcs x hx; go_wp2; exact hK)
      refine line_act (by rfl) (fun K hK => ?_)
      go_wp2_with (go_at_call 17; refine (put_is (HE.out.2.2.2.2.kept hS (by simp)) hln hbd HX.out).mono ?_; rintro e w2 ⟨v2, rfl, hown2, hg2⟩)
      refine hK _ _ (Ext w2) (Ext.refl w2) (fun x hx => Ext.of_drew (Ext.next hg2 x hx)) ?_
      clear hK K hcs
      have hS2 := Ext.refl w2
      repeat (refine line_read (a' := ?_) rfl (by kernel_rfl) (by kernel_rfl) hS2 (fun x hx K hK => ?_) ?_; rotate_left; · go_wp2; exact hK)
      refine line_end ?_
      have hg3 : Ext wr w2 := Ext.of_drew hg2
      obtain ⟨k1, k2, k3, k4, k5⟩ := HE.out
      have HR := Lib.hid (And.intro (Owns.bts rfl hown2) (And.intro (ext_trans k1 hg3) (And.intro (k2.ext hg3) (And.intro (k3.ext hg3) (k4.ext hg3)))))
      clear k1 k2 k3 k4 k5 hg2 hown2 hS hS2 hg3
      go_wp2
      go_roundw
      case rel => exact ⟨j + 1, by omega, by go_num, HR.out.1, HR.out.2.1, HR.out.2.2.1, HR.out.2.2.2.1, HR.out.2.2.2.2⟩
      case measure => simp [intOf]; omega
    · have hn : ¬ (j : Int) < 5 := by omega
      rw [show j = 5 by omega] at hb
      obtain ⟨_, _, _, _, _, b5⟩ := hT
      have hln : (pre v 5).length ≤ 140737488350000 := by have := pre_le v 5 (by omega); omega
      have HB := Lib.hid hb
      have HE := Lib.hid hE
      clear hb hE hA hF
      cases p
      all_goals
        go_wp2_with (first
          | (go_at_call 18; refine (M v2 w2 (Owns.bts rfl hown2)).mono ?_; rintro e w3 ⟨v3, rfl, hown3, hg3⟩)
          | (go_at_call 17; refine (put_is HB.out hln (by decide) HT.out).mono ?_; rintro e w2 ⟨v2, rfl, hown2, hg2⟩))
        go_returns
        exact ⟨v3, rfl, ownsRow_le hown3 (Nat.le_trans HE.out.size hg2.size), ext_trans HE.out (ext_trans hg2 hg3)⟩

theorem tagBytes_any (a b c d k : Int) (p : Bool) (w : World) (hF : Flds w) :
    Calls Tryd.prog 7 #[tagV a b c d k p] w (MadeE w (tagBL a b c d k p) (tagBE a b c d k)) := by
  unfold tagBL tagBE
  cases h : okB a b c d k
  · exact tagBytes_bad a b c d k p w hF h
  · exact tagBytes_good a b c d k p w hF h

set_option maxRecDepth 100000 in
set_option maxHeartbeats 800000 in
theorem refTagBytes_good (a b c d k : Int) (p : Bool) (w : World) (h : okB a b c d k = true) :
    Calls Tryd.prog 8 #[tagV a b c d k p] w (MadeE w (frL 84 (tagL a b c d k p)) 0) := by
  have R := fun w => refRight_any a b c d k p w
  have M := fun v w hb => refMake_any 84 v (tagL a b c d k p) w hb (tagL_byts a b c d k p) (by rw [tagL_len]; decide)
  rw [(tag_mk a b c d k p).1, (tag_mk a b c d k p).2] at M
  have HA := okB_all h
  rw [h] at R
  have hbit := put_bit (pre (nth a b c d k) 5) p
  rw [show pre (nth a b c d k) 5 ++ leB (bitI p) 1 = tagL a b c d k p from rfl] at hbit
  generalize tagL a b c d k p = tl at *
  have hp := fun j hj => put_pre (v := nth a b c d k) (j := j) hj (HA j hj)
  have hl := fun j hj => Nat.le_trans (pre_le (nth a b c d k) j hj) (show 4 * j ≤ 140737488350000 by omega)
  have p0 : putL [] a 1 = pre (nth a b c d k) 1 := hp 0 (by decide)
  have p1 : putL (pre (nth a b c d k) 1) b 4 = pre (nth a b c d k) 2 := hp 1 (by decide)
  have p2 : putL (pre (nth a b c d k) 2) c 1 = pre (nth a b c d k) 3 := hp 2 (by decide)
  have p3 : putL (pre (nth a b c d k) 3) d 4 = pre (nth a b c d k) 4 := hp 3 (by decide)
  have p4 : putL (pre (nth a b c d k) 4) k 1 = pre (nth a b c d k) 5 := hp 4 (by decide)
  have HP := Lib.hid (And.intro p0 (And.intro p1 (And.intro p2 (And.intro p3 (And.intro p4 hbit)))))
  have HL := Lib.hid hl
  have hgw := World.grownBy_alloc (w.alloc (tagObj a b c d k p)) (tagObj a b c d k p) none
  have HT0 := Lib.hid ((tagAt_new w a b c d k p).ext hgw)
  have HG := Lib.hid (ext_trans (World.grownBy_alloc w (tagObj a b c d k p) none) hgw)
  generalize pre (nth a b c d k) = q at *
  unfold tagV tagObj at *
  clear h HA hp hl p0 p1 p2 p3 p4 hbit hgw
  cases p
  all_goals
    go_enter Tryd.func8, Tryd.ntmps8
    go_wp2_with (first
      | (go_at_call 10; refine (R _).mono ?_; rintro e w1 ⟨rfl, hw⟩; have hS := hw ▸ HT0.out; have HE := Lib.hid (hw ▸ HG.out); clear hw))
    replace hS := hS.ext (Ext.drew w1)
    refine region_line [(0, true), (1, true), (3, true), (4, true), (6, true), (7, true), (2, false), (5, false), (8, false), (9, true)] (fun x => TagAt x w.heap.size a b c d k _) (by kernel_rfl) (by kernel_rfl) (fun _ _ _ d _ h => by cases d <;> exact h) hS ?_
    repeat (refine line_read (a' := ?_) rfl (by kernel_rfl) (by kernel_rfl) hS (fun x hx K hK => ?_) ?_; rotate_left; · obtain ⟨q0, q1, q2, q3, q4, _⟩ := hx; go_wp2; exact hK)
    refine line_act (by rfl) (fun K hK => ?_)
    go_wp2_with (go_at_call 19; refine (refPut_is (.inl ⟨rfl, rfl⟩) (by simp) HP.out.1).mono ?_; rintro e w2 ⟨v2, rfl, hown2, hg2⟩)
    replace hS := hS.ext hg2
    refine hK _ _ _ hS (fun x hx => hx) ?_
    clear hK K
    repeat (refine line_read (a' := ?_) rfl (by kernel_rfl) (by kernel_rfl) hS (fun x hx K hK => ?_) ?_; rotate_left; · obtain ⟨q0, q1, q2, q3, q4, _⟩ := hx; go_wp2; exact hK)
    refine line_act (by rfl) (fun K hK => ?_)
    go_wp2_with (go_at_call 19; refine (refPut_is (Owns.bts rfl hown2) (HL.out 1 (by decide)) HP.out.2.1).mono ?_; rintro e w3 ⟨v3, rfl, hown3, hg3⟩)
    replace hS := hS.ext hg3
    refine hK _ _ _ hS (fun x hx => hx) ?_
    clear hK K
    repeat (refine line_read (a' := ?_) rfl (by kernel_rfl) (by kernel_rfl) hS (fun x hx K hK => ?_) ?_; rotate_left; · obtain ⟨q0, q1, q2, q3, q4, _⟩ := hx; go_wp2; exact hK)
    refine line_act (by rfl) (fun K hK => ?_)
    go_wp2_with (go_at_call 19; refine (refPut_is (Owns.bts rfl hown3) (HL.out 2 (by decide)) HP.out.2.2.1).mono ?_; rintro e w4 ⟨v4, rfl, hown4, hg4⟩)
    replace hS := hS.ext hg4
    refine hK _ _ _ hS (fun x hx => hx) ?_
    clear hK K
    repeat (refine line_read (a' := ?_) rfl (by kernel_rfl) (by kernel_rfl) hS (fun x hx K hK => ?_) ?_; rotate_left; · obtain ⟨q0, q1, q2, q3, q4, _⟩ := hx; go_wp2; exact hK)
    refine line_end ?_
    have he4 : Ext w1 w4 := ext_trans (Ext.of_drew hg2) (ext_trans hg3 hg4)
    go_wp2
    replace hS := hS.ext (Ext.drew w4)
    refine region_line [(0, true), (1, true), (2, true), (4, true), (5, true), (3, false), (6, false), (7, true)] (fun x => TagAt x w.heap.size a b c d k _) (by kernel_rfl) (by kernel_rfl) (fun _ _ _ d _ h => by cases d <;> exact h) hS ?_
    repeat (refine line_read (a' := ?_) rfl (by kernel_rfl) (by kernel_rfl) hS (fun x hx K hK => ?_) ?_; rotate_left; · obtain ⟨q0, q1, q2, q3, q4, _⟩ := hx; go_wp2; exact hK)
    refine line_act (by rfl) (fun K hK => ?_)
    go_wp2_with (go_at_call 19; refine (refPut_is ((Owns.bts rfl hown4).kept (Ext.drew w4) (by simp)) (HL.out 3 (by decide)) HP.out.2.2.2.1).mono ?_; rintro e w5 ⟨v5, rfl, hown5, hg5⟩)
    replace hS := hS.ext hg5
    refine hK _ _ _ hS (fun x hx => hx) ?_
    clear hK K
    repeat (refine line_read (a' := ?_) rfl (by kernel_rfl) (by kernel_rfl) hS (fun x hx K hK => ?_) ?_; rotate_left; · obtain ⟨q0, q1, q2, q3, q4, _⟩ := hx; go_wp2; exact hK)
    refine line_act (by rfl) (fun K hK => ?_)
    go_wp2_with (go_at_call 19; refine (refPut_is (Owns.bts rfl hown5) (HL.out 4 (by decide)) HP.out.2.2.2.2.1).mono ?_; rintro e w6 ⟨v6, rfl, hown6, hg6⟩)
    replace hS := hS.ext hg6
    refine hK _ _ _ hS (fun x hx => hx) ?_
    clear hK K
    repeat (refine line_read (a' := ?_) rfl (by kernel_rfl) (by kernel_rfl) hS (fun x hx K hK => ?_) ?_; rotate_left; · obtain ⟨q0, q1, q2, q3, q4, _⟩ := hx; go_wp2; exact hK)
    refine line_end ?_
    have he6 : Ext w1 w6 := ext_trans he4 (ext_trans (Ext.of_drew hg5) hg6)
    obtain ⟨_, _, _, _, _, b5⟩ := hS
    clear hg2 hg3 hg4 hg5 hg6 hown2 hown3 hown4 hown5 he4
    go_wp2_with (first
      | (go_at_call 14; refine (M v7 w7 (Owns.bts rfl hown7)).mono ?_; rintro e w8 ⟨v8, rfl, hown8, hg8⟩)
      | (go_at_call 19; refine (refPut_is (Owns.bts rfl hown6) (HL.out 5 (by decide)) HP.out.2.2.2.2.2).mono ?_; rintro e w7 ⟨v7, rfl, hown7, hg7⟩))
    go_returns
    exact ⟨v8, rfl, ownsRow_le hown8 (Nat.le_trans HE.out.size (Nat.le_trans he6.size hg7.size)), ext_trans HE.out (ext_trans he6 (ext_trans hg7 hg8))⟩

theorem refTagBytes_any (a b c d k : Int) (p : Bool) (w : World) :
    Calls Tryd.prog 8 #[tagV a b c d k p] w (MadeE w (tagBL a b c d k p) (tagBE a b c d k)) := by
  unfold tagBL tagBE
  cases h : okB a b c d k
  · exact refTagBytes_bad a b c d k p w h
  · exact refTagBytes_good a b c d k p w h

end Go.Proofs.YtjlecncamfdcfaaDoor
