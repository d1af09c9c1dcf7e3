/-
  The law TagBytes, walked.
-/
import Derived.Test.YtjlecncamfdcfaaDoorTG
namespace Go.Proofs.YtjlecncamfdcfaaDoor
open Go.RowKit

theorem refNewer_ext (a b c d k : Int) (p : Bool) (a2 b2 c2 d2 k2 : Int) (p2 : Bool) (w : World) :
    Calls Tryd.prog 12 #[.agg #[.int .i64 a, .int .i64 b, .int .i64 c, .int .i64 d, .int .i64 k, .bool p], .agg #[.int .i64 a2, .int .i64 b2, .int .i64 c2, .int .i64 d2, .int .i64 k2, .bool p2]] w fun e w' => e = .returned (.bool (newerB d d2 p p2)) ∧ Ext w w' :=
  (refNewer_any a b c d k p a2 b2 c2 d2 k2 p2 w).mono fun _ _ ⟨h1, h2⟩ => ⟨h1, h2 ▸ ext_trans (World.grownBy_alloc _ _ none) (World.grownBy_alloc _ _ none)⟩

/-- Two tags' blocks, two rows of bytes that are the same, the table. -/
structure Pair8 (x : World) (B : Nat) (a0 a1 a2 a3 a4 : Int) (ap : Bool) (b0 b1 b2 b3 b4 : Int) (bp : Bool) (v u : Value) (ys : List Int) : Prop where
  one : TagAt x B a0 a1 a2 a3 a4 ap
  two : TagAt x (B + 1) b0 b1 b2 b3 b4 bp
  va : Bts x v ys
  ua : Bts x u ys
  fl : Flds x
theorem Pair8.ext {x y : World} {B : Nat} {a0 a1 a2 a3 a4 : Int} {ap : Bool} {b0 b1 b2 b3 b4 : Int} {bp : Bool} {v u : Value} {ys : List Int} (h : Pair8 x B a0 a1 a2 a3 a4 ap b0 b1 b2 b3 b4 bp v u ys) (hg : Ext x y) :
    Pair8 y B a0 a1 a2 a3 a4 ap b0 b1 b2 b3 b4 bp v u ys := ⟨h.one.ext hg, h.two.ext hg, h.va.kept hg (by simp), h.ua.kept hg (by simp), h.fl.ext hg⟩

set_option maxRecDepth 100000 in
set_option maxHeartbeats 1600000 in
theorem tagBytesLaw_any (a0 a1 a2 a3 a4 : Int) (ap : Bool) (b0 b1 b2 b3 b4 : Int) (bp : Bool) (w : World) (hF : Flds w) :
    Calls Tryd.prog 3 #[tagV a0 a1 a2 a3 a4 ap, tagV b0 b1 b2 b3 b4 bp] w (TrueExt w) := by
  have P := fun v w' hb hB hm hF => tagParse_any v (tagBL a0 a1 a2 a3 a4 ap) w' hb hB hm hF
  have BM := fun w' hF => tagBytes_any a0 a1 a2 a3 a4 ap w' hF
  have BR := fun w' => refTagBytes_any a0 a1 a2 a3 a4 ap w'
  have RM := fun w' hF => right_any a0 a1 a2 a3 a4 ap w' hF
  have RR := fun w' => refRight_ext a0 a1 a2 a3 a4 ap w'
  have NM := fun x => newer_ext a0 a1 a2 a3 a4 ap b0 b1 b2 b3 b4 bp x
  have NR := fun x => refNewer_ext a0 a1 a2 a3 a4 ap b0 b1 b2 b3 b4 bp x
  generalize newerB a3 b3 ap bp = nb at *
  have hg2 : Ext w ((w.alloc (tagObj a0 a1 a2 a3 a4 ap)).alloc (tagObj b0 b1 b2 b3 b4 bp)) := ext_trans (World.grownBy_alloc _ _ none) (World.grownBy_alloc _ _ none)
  have hT1 : TagAt ((w.alloc (tagObj a0 a1 a2 a3 a4 ap)).alloc (tagObj b0 b1 b2 b3 b4 bp)) w.heap.size a0 a1 a2 a3 a4 ap := (tagAt_new w a0 a1 a2 a3 a4 ap).ext (World.grownBy_alloc _ _ none)
  have hT2 : TagAt ((w.alloc (tagObj a0 a1 a2 a3 a4 ap)).alloc (tagObj b0 b1 b2 b3 b4 bp)) (w.heap.size + 1) b0 b1 b2 b3 b4 bp := by
    have e2 := tagAt_new (w.alloc (tagObj a0 a1 a2 a3 a4 ap)) b0 b1 b2 b3 b4 bp
    rw [show (w.alloc (tagObj a0 a1 a2 a3 a4 ap)).heap.size = w.heap.size + 1 by simp] at e2
    exact e2
  have HF := Lib.hid (And.intro (hF.ext hg2) (And.intro hT1 (And.intro hT2 hg2)))
  clear hF hg2 hT1 hT2
  cases hok : okB a0 a1 a2 a3 a4
  · have e1 : tagBL a0 a1 a2 a3 a4 ap = [] := by unfold tagBL; rw [hok]; rfl
    have e2 : tagBE a0 a1 a2 a3 a4 = 1 := by unfold tagBE; rw [hok]; rfl
    rw [e1, e2] at BM BR
    rw [hok] at RM RR
    generalize hst : strOfNums ([] : List Int) = st
    generalize ([] : List Int) = ys at *
    have HS := Lib.hid hst
    unfold tagV tagObj at *
    clear P e1 e2 hok hst
    go_enter Tryd.func3, Tryd.ntmps3
    go_wp2_with (first
      | (go_at_call 6; refine (fixed8_any _ HF.out.1).mono ?_; rintro e w1 ⟨rfl, hg1⟩; obtain ⟨x0, x1, x2, x3, x4, x5⟩ := HF.out.2.1.ext hg1)
      | (go_at_call 7; refine (BM _ (HF.out.1.ext hg1)).mono ?_; rintro e w2 ⟨v2, rfl, hown2, hgb2⟩; obtain ⟨ao2, cp2, rfl⟩ := owns_shape hown2; obtain ⟨y0, y1, y2, y3, y4, y5⟩ := (HF.out.2.1.ext hg1).ext hgb2)
      | (go_at_call 8; refine (BR _).mono ?_; rintro e w3 ⟨v3, rfl, hown3, hgb3⟩; obtain ⟨ao3, cp3, rfl⟩ := owns_shape hown3))
    have hE := ext_trans (ext_trans hg1 hgb2) hgb3
    have hS : Pair8 w3 w.heap.size a0 a1 a2 a3 a4 ap b0 b1 b2 b3 b4 bp _ _ ys := ⟨HF.out.2.1.ext hE, HF.out.2.2.1.ext hE, (Owns.bts rfl hown2).kept hgb3 (by simp), Owns.bts rfl hown3, HF.out.1.ext hE⟩
    have he3 := ext_trans HF.out.2.2.2 hE
    clear HF hg1 hgb2 hgb3 hown2 hown3 hE x0 x1 x2 x3 x4 x5 y0 y1 y2 y3 y4 y5 BM BR
    replace hS := hS.ext (Ext.drew w3)
    refine region_line [(0, true), (1, true), (2, true), (3, true), (4, true), (5, true), (6, true), (7, true), (8, true), (9, true), (10, true), (11, true), (13, true), (12, false), (14, false), (15, true), (16, true), (17, true), (18, true), (19, true), (21, true), (22, true), (20, false), (23, false), (24, true), (25, true)] (fun x => Pair8 x w.heap.size a0 a1 a2 a3 a4 ap b0 b1 b2 b3 b4 bp _ _ ys) (by kernel_rfl) (by kernel_rfl) (fun _ _ _ d _ h => by cases d <;> exact h) hS ?_
    repeat (refine line_read (a' := ?_) rfl (by kernel_rfl) (by kernel_rfl) hS (fun x hx K hK => ?_) ?_; rotate_left; · obtain ⟨⟨x0, x1, x2, x3, x4, x5⟩, ⟨y0, y1, y2, y3, y4, y5⟩, hb1, hb2, _⟩ := hx; have hc1 := convert_is hb1 HS.out; have hc2 := convert_is hb2 HS.out; clear hb1 hb2; go_wp2; exact hK)
    refine line_act (by rfl) (fun K hK => ?_)
    go_wp2_with (go_at_call 9; refine (RM _ hS.fl).mono ?_; rintro e w4 ⟨rfl, hg4⟩)
    replace hS := hS.ext hg4
    refine hK _ _ _ hS (fun x hx => hx) ?_
    clear hK K
    refine line_act (by rfl) (fun K hK => ?_)
    go_wp2_with (go_at_call 10; refine (RR _).mono ?_; rintro e w5 ⟨rfl, hg5⟩)
    replace hS := hS.ext hg5
    refine hK _ _ _ hS (fun x hx => hx) ?_
    clear hK K
    repeat (refine line_read (a' := ?_) rfl (by kernel_rfl) (by kernel_rfl) hS (fun x hx K hK => ?_) ?_; rotate_left; · obtain ⟨⟨x0, x1, x2, x3, x4, x5⟩, ⟨y0, y1, y2, y3, y4, y5⟩, hb1, hb2, _⟩ := hx; have hc1 := convert_is hb1 HS.out; have hc2 := convert_is hb2 HS.out; clear hb1 hb2; go_wp2; exact hK)
    refine line_act (by rfl) (fun K hK => ?_)
    go_wp2_with (go_at_call 11; refine (NM _).mono ?_; rintro e w6 ⟨rfl, hg6⟩)
    replace hS := hS.ext hg6
    refine hK _ _ _ hS (fun x hx => hx) ?_
    clear hK K
    refine line_act (by rfl) (fun K hK => ?_)
    go_wp2_with (go_at_call 12; refine (NR _).mono ?_; rintro e w7 ⟨rfl, hg7⟩)
    replace hS := hS.ext hg7
    refine hK _ _ _ hS (fun x hx => hx) ?_
    clear hK K
    repeat (refine line_read (a' := ?_) rfl (by kernel_rfl) (by kernel_rfl) hS (fun x hx K hK => ?_) ?_; rotate_left; · obtain ⟨⟨x0, x1, x2, x3, x4, x5⟩, ⟨y0, y1, y2, y3, y4, y5⟩, hb1, hb2, _⟩ := hx; have hc1 := convert_is hb1 HS.out; have hc2 := convert_is hb2 HS.out; clear hb1 hb2; go_wp2; exact hK)
    refine line_end ?_
    have he7 := ext_trans he3 (ext_trans (ext_trans (Ext.of_drew hg4) hg5) (ext_trans hg6 hg7))
    clear he3 hg4 hg5 hg6 hg7
    go_wp2
    go_returns
    exact ⟨rfl, he7⟩
  · have e1 : tagBL a0 a1 a2 a3 a4 ap = frL 84 (tagL a0 a1 a2 a3 a4 ap) := by unfold tagBL; rw [hok]; rfl
    have e2 : tagBE a0 a1 a2 a3 a4 = 0 := by unfold tagBE; rw [hok]; rfl
    rw [e1] at P
    rw [e1, e2] at BM BR
    rw [hok] at RM RR
    obtain ⟨q0, q1, q2, q3, q4, q5, q6⟩ := ps_back (p := ap) hok
    rw [q0, q1, q2, q3, q4, q5, q6] at P
    have hl := frL_len 84 (tagL a0 a1 a2 a3 a4 ap)
    rw [tagL_len, show 12 + 7 = 19 from rfl] at hl
    have HL := Lib.hid (And.intro hl (frL_byts (k := 84) (tagL_byts a0 a1 a2 a3 a4 ap)))
    unfold ParseR at P
    clear q0 q1 q2 q3 q4 q5 q6 hl
    generalize frL 84 (tagL a0 a1 a2 a3 a4 ap) = ys at *
    generalize hst : strOfNums ys = st
    have HS := Lib.hid hst
    unfold tagV tagObj at *
    clear e1 e2 hok hst
    go_enter Tryd.func3, Tryd.ntmps3
    go_wp2_with (first
      | (go_at_call 6; refine (fixed8_any _ HF.out.1).mono ?_; rintro e w1 ⟨rfl, hg1⟩; obtain ⟨x0, x1, x2, x3, x4, x5⟩ := HF.out.2.1.ext hg1)
      | (go_at_call 7; refine (BM _ (HF.out.1.ext hg1)).mono ?_; rintro e w2 ⟨v2, rfl, hown2, hgb2⟩; rw [HL.out.1] at hown2; obtain ⟨ao2, cp2, rfl⟩ := owns_shape hown2; obtain ⟨y0, y1, y2, y3, y4, y5⟩ := (HF.out.2.1.ext hg1).ext hgb2)
      | (go_at_call 8; refine (BR _).mono ?_; rintro e w3 ⟨v3, rfl, hown3, hgb3⟩; rw [HL.out.1] at hown3; obtain ⟨ao3, cp3, rfl⟩ := owns_shape hown3))
    have hE := ext_trans (ext_trans hg1 hgb2) hgb3
    have hS : Pair8 w3 w.heap.size a0 a1 a2 a3 a4 ap b0 b1 b2 b3 b4 bp _ _ ys := ⟨HF.out.2.1.ext hE, HF.out.2.2.1.ext hE, (Owns.bts HL.out.1.symm hown2).kept hgb3 (by simp), Owns.bts HL.out.1.symm hown3, HF.out.1.ext hE⟩
    have he3 := ext_trans HF.out.2.2.2 hE
    clear HF hg1 hgb2 hgb3 hown2 hown3 hE x0 x1 x2 x3 x4 x5 y0 y1 y2 y3 y4 y5 BM BR
    replace hS := hS.ext (Ext.drew w3)
    refine region_line [(0, true), (1, true), (2, true), (3, true), (4, true), (5, true), (6, true), (7, true), (8, true), (9, true), (10, true), (11, true), (13, true), (12, false), (14, false), (15, true), (16, true), (17, true), (18, true), (19, true), (21, true), (22, true), (20, false), (23, false), (24, true), (25, true)] (fun x => Pair8 x w.heap.size a0 a1 a2 a3 a4 ap b0 b1 b2 b3 b4 bp _ _ ys) (by kernel_rfl) (by kernel_rfl) (fun _ _ _ d _ h => by cases d <;> exact h) hS ?_
    repeat (refine line_read (a' := ?_) rfl (by kernel_rfl) (by kernel_rfl) hS (fun x hx K hK => ?_) ?_; rotate_left; · obtain ⟨⟨x0, x1, x2, x3, x4, x5⟩, ⟨y0, y1, y2, y3, y4, y5⟩, hb1, hb2, _⟩ := hx; have hc1 := convert_is hb1 HS.out; have hc2 := convert_is hb2 HS.out; clear hb1 hb2; go_wp2; exact hK)
    refine line_act (by rfl) (fun K hK => ?_)
    go_wp2_with (go_at_call 9; refine (RM _ hS.fl).mono ?_; rintro e w4 ⟨rfl, hg4⟩)
    replace hS := hS.ext hg4
    refine hK _ _ _ hS (fun x hx => hx) ?_
    clear hK K
    refine line_act (by rfl) (fun K hK => ?_)
    go_wp2_with (go_at_call 10; refine (RR _).mono ?_; rintro e w5 ⟨rfl, hg5⟩)
    replace hS := hS.ext hg5
    refine hK _ _ _ hS (fun x hx => hx) ?_
    clear hK K
    repeat (refine line_read (a' := ?_) rfl (by kernel_rfl) (by kernel_rfl) hS (fun x hx K hK => ?_) ?_; rotate_left; · obtain ⟨⟨x0, x1, x2, x3, x4, x5⟩, ⟨y0, y1, y2, y3, y4, y5⟩, hb1, hb2, _⟩ := hx; have hc1 := convert_is hb1 HS.out; have hc2 := convert_is hb2 HS.out; clear hb1 hb2; go_wp2; exact hK)
    refine line_act (by rfl) (fun K hK => ?_)
    go_wp2_with (go_at_call 11; refine (NM _).mono ?_; rintro e w6 ⟨rfl, hg6⟩)
    replace hS := hS.ext hg6
    refine hK _ _ _ hS (fun x hx => hx) ?_
    clear hK K
    refine line_act (by rfl) (fun K hK => ?_)
    go_wp2_with (go_at_call 12; refine (NR _).mono ?_; rintro e w7 ⟨rfl, hg7⟩)
    replace hS := hS.ext hg7
    refine hK _ _ _ hS (fun x hx => hx) ?_
    clear hK K
    repeat (refine line_read (a' := ?_) rfl (by kernel_rfl) (by kernel_rfl) hS (fun x hx K hK => ?_) ?_; rotate_left; · obtain ⟨⟨x0, x1, x2, x3, x4, x5⟩, ⟨y0, y1, y2, y3, y4, y5⟩, hb1, hb2, _⟩ := hx; have hc1 := convert_is hb1 HS.out; have hc2 := convert_is hb2 HS.out; clear hb1 hb2; go_wp2; exact hK)
    refine line_end ?_
    have he7 := ext_trans he3 (ext_trans (ext_trans (Ext.of_drew hg4) hg5) (ext_trans hg6 hg7))
    clear he3 hg4 hg5 hg6 hg7
    have hS7 := Lib.hid hS
    clear hS
    go_wp2_with (go_at_call 13; refine (P _ _ hS7.out.va HL.out.2 (by rw [HL.out.1]; decide) hS7.out.fl).mono ?_; rintro e w8 ⟨rfl, hg8⟩; obtain ⟨z0, z1, z2, z3, z4, z5⟩ := hS7.out.one.ext hg8; have hz : w.heap.size < w8.heap.size := (World.block_lt_of_cell? w8 _ z0))
    go_returns
    exact ⟨ret_bool (by simp), ext_trans (ext_trans he7 hg8) (World.grownBy_alloc _ _ none)⟩

end Go.Proofs.YtjlecncamfdcfaaDoor
