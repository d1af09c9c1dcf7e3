/-
  The law TagOrder, walked.
-/
import Derived.Test.YtjlecncamfdcfaaDoorTF
namespace Go.Proofs.YtjlecncamfdcfaaDoor
open Go.RowKit

theorem newer_ext (a b c d k : Int) (p : Bool) (a2 b2 c2 d2 k2 : Int) (p2 : Bool) (w : World) :
    Calls Tryd.prog 11 #[.agg #[.int .i64 a, .int .i64 b, .int .i64 c, .int .i64 d, .int .i64 k, .bool p], .agg #[.int .i64 a2, .int .i64 b2, .int .i64 c2, .int .i64 d2, .int .i64 k2, .bool p2]] w fun e w' => e = .returned (.bool (newerB d d2 p p2)) ∧ Ext w w' :=
  (newer_any a b c d k p a2 b2 c2 d2 k2 p2 w).mono fun _ _ ⟨h1, h2⟩ => ⟨h1, h2 ▸ ext_trans (World.grownBy_alloc _ _ none) (World.grownBy_alloc _ _ none)⟩

theorem newer_self (d : Int) (p : Bool) : newerB d d p p = false := by cases p <;> simp [newerB]
/-- What the order's laws say of three. -/
theorem newer_laws (d1 d2 d3 : Int) (p1 p2 p3 : Bool) :
    (newerB d1 d2 p1 p2 = true → newerB d2 d1 p2 p1 = false) ∧ (newerB d1 d2 p1 p2 = true → newerB d2 d3 p2 p3 = true → newerB d1 d3 p1 p3 = true) ∧
    ((newerB d1 d2 p1 p2 || newerB d2 d1 p2 p1) = (d1 != d2 || p1 != p2)) := by
  unfold newerB
  refine ⟨?_, ?_, ?_⟩
  · by_cases h : d1 = d2
    · subst h; cases p1 <;> cases p2 <;> simp
    · have h2 : ¬ d2 = d1 := fun e => h e.symm
      simp [h, h2]; omega
  · by_cases h : d1 = d2
    · subst h
      by_cases h3 : d1 = d3
      · subst h3; cases p1 <;> cases p2 <;> cases p3 <;> simp
      · simp [h3]
    · by_cases h3 : d2 = d3
      · subst h3; simp [h]; intro h4; simp [h4]
      · simp only [if_neg h, if_neg h3, decide_eq_true_eq]
        intro h4 h5
        rw [if_neg (by omega)]
        simp; omega
  · by_cases h : d1 = d2
    · subst h; cases p1 <;> cases p2 <;> simp
    · have h2 : ¬ d2 = d1 := fun e => h e.symm
      have h3 : (d1 != d2) = true := by simpa using h
      simp only [if_neg h, if_neg h2, h3, Bool.true_or, Bool.or_eq_true, decide_eq_true_eq]
      omega

/-- Three tags' blocks. -/
structure Three (x : World) (B : Nat) (a0 a1 a2 a3 a4 : Int) (ap : Bool) (b0 b1 b2 b3 b4 : Int) (bp : Bool) (c0 c1 c2 c3 c4 : Int) (cp : Bool) : Prop where
  one : TagAt x B a0 a1 a2 a3 a4 ap
  two : TagAt x (B + 1) b0 b1 b2 b3 b4 bp
  three : TagAt x (B + 1 + 1) c0 c1 c2 c3 c4 cp
theorem Three.ext {x y : World} {B : Nat} {a0 a1 a2 a3 a4 : Int} {ap : Bool} {b0 b1 b2 b3 b4 : Int} {bp : Bool} {c0 c1 c2 c3 c4 : Int} {cp : Bool} (h : Three x B a0 a1 a2 a3 a4 ap b0 b1 b2 b3 b4 bp c0 c1 c2 c3 c4 cp) (hg : Ext x y) :
    Three y B a0 a1 a2 a3 a4 ap b0 b1 b2 b3 b4 bp c0 c1 c2 c3 c4 cp := ⟨h.one.ext hg, h.two.ext hg, h.three.ext hg⟩

set_option maxRecDepth 100000 in
set_option maxHeartbeats 1600000 in
theorem tagOrder_any (a0 a1 a2 a3 a4 : Int) (ap : Bool) (b0 b1 b2 b3 b4 : Int) (bp : Bool) (c0 c1 c2 c3 c4 : Int) (cp : Bool) (w : World) (hF : Flds w) :
    Calls Tryd.prog 5 #[tagV a0 a1 a2 a3 a4 ap, tagV b0 b1 b2 b3 b4 bp, tagV c0 c1 c2 c3 c4 cp] w (TrueExt w) := by
  obtain ⟨l1, l2, l3⟩ := newer_laws a3 b3 c3 ap bp cp
  have Naa := fun x => newer_ext a0 a1 a2 a3 a4 ap a0 a1 a2 a3 a4 ap x
  have Nab := fun x => newer_ext a0 a1 a2 a3 a4 ap b0 b1 b2 b3 b4 bp x
  have Nba := fun x => newer_ext b0 b1 b2 b3 b4 bp a0 a1 a2 a3 a4 ap x
  have Nbc := fun x => newer_ext b0 b1 b2 b3 b4 bp c0 c1 c2 c3 c4 cp x
  have Nac := fun x => newer_ext a0 a1 a2 a3 a4 ap c0 c1 c2 c3 c4 cp x
  rw [newer_self] at Naa
  generalize newerB a3 b3 ap bp = ab at *
  generalize newerB b3 a3 bp ap = ba at *
  generalize newerB b3 c3 bp cp = bc at *
  generalize newerB a3 c3 ap cp = ac at *
  have hg3 : Ext w (((w.alloc (tagObj a0 a1 a2 a3 a4 ap)).alloc (tagObj b0 b1 b2 b3 b4 bp)).alloc (tagObj c0 c1 c2 c3 c4 cp)) := ext_trans (ext_trans (World.grownBy_alloc _ _ none) (World.grownBy_alloc _ _ none)) (World.grownBy_alloc _ _ none)
  have hT : Three (((w.alloc (tagObj a0 a1 a2 a3 a4 ap)).alloc (tagObj b0 b1 b2 b3 b4 bp)).alloc (tagObj c0 c1 c2 c3 c4 cp)) w.heap.size a0 a1 a2 a3 a4 ap b0 b1 b2 b3 b4 bp c0 c1 c2 c3 c4 cp := by
    have e1 := tagAt_new w a0 a1 a2 a3 a4 ap
    have e2 := tagAt_new (w.alloc (tagObj a0 a1 a2 a3 a4 ap)) b0 b1 b2 b3 b4 bp
    have e3 := tagAt_new ((w.alloc (tagObj a0 a1 a2 a3 a4 ap)).alloc (tagObj b0 b1 b2 b3 b4 bp)) c0 c1 c2 c3 c4 cp
    rw [show (w.alloc (tagObj a0 a1 a2 a3 a4 ap)).heap.size = w.heap.size + 1 by simp] at e2
    rw [show ((w.alloc (tagObj a0 a1 a2 a3 a4 ap)).alloc (tagObj b0 b1 b2 b3 b4 bp)).heap.size = w.heap.size + 1 + 1 by simp] at e3
    exact ⟨(e1.ext (World.grownBy_alloc _ _ none)).ext (World.grownBy_alloc _ _ none), e2.ext (World.grownBy_alloc _ _ none), e3⟩
  have HF := Lib.hid (And.intro (hF.ext hg3) (And.intro hT hg3))
  unfold tagV tagObj at *
  clear hF hg3 hT
  have ways : (ab = false ∧ ba = false ∧ (a3 != b3) = false ∧ (ap != bp) = false) ∨ (ab = false ∧ ba = true ∧ (a3 != b3) = true) ∨ (ab = false ∧ ba = true ∧ (a3 != b3) = false ∧ (ap != bp) = true) ∨
      (ab = true ∧ ba = false ∧ bc = false ∧ (a3 != b3) = true) ∨ (ab = true ∧ ba = false ∧ bc = false ∧ (a3 != b3) = false ∧ (ap != bp) = true) ∨
      (ab = true ∧ ba = false ∧ bc = true ∧ ac = true ∧ (a3 != b3) = true) ∨ (ab = true ∧ ba = false ∧ bc = true ∧ ac = true ∧ (a3 != b3) = false ∧ (ap != bp) = true) := by
    generalize (a3 != b3) = x at *
    generalize (ap != bp) = y at *
    clear Naa Nab Nba Nbc Nac HF
    revert l1 l2 l3
    cases ab <;> cases ba <;> cases bc <;> cases ac <;> cases x <;> cases y <;> simp
  clear l1 l2 l3
  go_enter Tryd.func5, Tryd.ntmps5
  go_wp2_with (go_at_call 6; refine (fixed8_any _ HF.out.1).mono ?_; rintro e w1 ⟨rfl, hg1⟩; have hS := HF.out.2.1.ext hg1)
  have he1 := ext_trans HF.out.2.2 hg1
  clear HF hg1
  replace hS := hS.ext (Ext.drew w1)
  refine region_line [(0, true), (1, true), (3, true), (4, true), (6, true), (7, true), (9, true), (10, true), (2, false), (5, false), (8, false), (11, false), (12, true), (13, true), (14, true), (15, true)] (fun x => Three x w.heap.size a0 a1 a2 a3 a4 ap b0 b1 b2 b3 b4 bp c0 c1 c2 c3 c4 cp) (by kernel_rfl) (by kernel_rfl) (fun _ _ _ d _ h => by cases d <;> exact h) hS ?_
  repeat (refine line_read (a' := ?_) rfl (by kernel_rfl) (by kernel_rfl) hS (fun x hx K hK => ?_) ?_; rotate_left; · obtain ⟨⟨x0, x1, x2, x3, x4, x5⟩, ⟨y0, y1, y2, y3, y4, y5⟩, ⟨z0, z1, z2, z3, z4, z5⟩⟩ := hx; go_wp2; exact hK)
  refine line_act (by rfl) (fun K hK => ?_)
  go_wp2_with (go_at_call 11; refine (Nab _).mono ?_; rintro e w2 ⟨rfl, hg2⟩)
  replace hS := hS.ext hg2
  refine hK _ _ _ hS (fun x hx => hx) ?_
  clear hK K
  refine line_act (by rfl) (fun K hK => ?_)
  go_wp2_with (go_at_call 11; refine (Nba _).mono ?_; rintro e w3 ⟨rfl, hg3⟩)
  replace hS := hS.ext hg3
  refine hK _ _ _ hS (fun x hx => hx) ?_
  clear hK K
  refine line_act (by rfl) (fun K hK => ?_)
  go_wp2_with (go_at_call 11; refine (Nbc _).mono ?_; rintro e w4 ⟨rfl, hg4⟩)
  replace hS := hS.ext hg4
  refine hK _ _ _ hS (fun x hx => hx) ?_
  clear hK K
  refine line_act (by rfl) (fun K hK => ?_)
  go_wp2_with (go_at_call 11; refine (Nac _).mono ?_; rintro e w5 ⟨rfl, hg5⟩)
  replace hS := hS.ext hg5
  refine hK _ _ _ hS (fun x hx => hx) ?_
  clear hK K
  repeat (refine line_read (a' := ?_) rfl (by kernel_rfl) (by kernel_rfl) hS (fun x hx K hK => ?_) ?_; rotate_left; · go_wp2; exact hK)
  refine line_end ?_
  have he5 := ext_trans he1 (ext_trans (ext_trans (Ext.of_drew hg2) hg3) (ext_trans hg4 hg5))
  have hS5 := Lib.hid hS
  obtain ⟨⟨x0, x1, x2, x3, x4, x5⟩, _, _⟩ := hS
  clear he1 hg2 hg3 hg4 hg5
  rcases ways with ⟨rfl, rfl, h1, h2⟩ | ⟨rfl, rfl, h1⟩ | ⟨rfl, rfl, h1, h2⟩ | ⟨rfl, rfl, rfl, h1⟩ | ⟨rfl, rfl, rfl, h1, h2⟩ | ⟨rfl, rfl, rfl, rfl, h1⟩ | ⟨rfl, rfl, rfl, rfl, h1, h2⟩
  all_goals
    go_wp2_with (go_at_call 11; refine (Naa _).mono ?_; rintro e w6 ⟨rfl, hg6⟩; obtain ⟨⟨q0, q1, q2, q3, q4, q5⟩, ⟨y0, y1, y2, y3, y4, y5⟩, _⟩ := hS5.out.ext hg6)
    go_returns
    first
      | exact ⟨rfl, ext_trans he5 hg6⟩
      | exact ⟨ret_bool (by revert h2; cases ap <;> cases bp <;> simp), ext_trans he5 hg6⟩

end Go.Proofs.YtjlecncamfdcfaaDoor
