/-
  Texts put together: TB Tree TC.
-/
import Derived.Test.YtnfhibigidkhkaaDoorM02
import Derived.Test.YtnfhibigidkhkaaDoorM07
import Derived.Test.YtnfhibigidkhkaaDoorM01
import Derived.Deep.DeepCutAuto
/-
  Package tag: Bytes, and the document's.
-/
namespace Go.Proofs.YtnfhibigidkhkaaDoor
set_option linter.unusedVariables false
set_option linter.unusedSimpArgs false
set_option linter.unusedVariables false
set_option linter.unusedSimpArgs false
set_option maxRecDepth 100000
open Go.RowKit

/-- The bytes of the first j numbers. -/
def pre (v : Nat → Int) : Nat → List Int
  | 0 => []
  | j + 1 => pre v j ++ leB (v j) (fsz j).toNat
def bitI (p : Bool) : Int := if p then 1 else 0
def tagL (a b c d k : Int) (p : Bool) : List Int := pre (nth a b c d k) 5 ++ leB (bitI p) 1
def tagBE (a b c d k : Int) : Int := if okB a b c d k then 0 else 1
def tagBL (a b c d k : Int) (p : Bool) : List Int := if okB a b c d k then frL 84 (tagL a b c d k p) else []

theorem fld_cases {j : Nat} (hj : j < 5) : (fsz j = 1 ∧ 0 ≤ ffr j ∧ fto j ≤ 255) ∨ (fsz j = 4 ∧ 0 ≤ ffr j ∧ fto j ≤ 4294967295) := by
  have : j = 0 ∨ j = 1 ∨ j = 2 ∨ j = 3 ∨ j = 4 := by omega
  rcases this with rfl | rfl | rfl | rfl | rfl <;> decide
theorem put_pre {v : Nat → Int} {j : Nat} (hj : j < 5) (h : ffr j ≤ v j ∧ v j ≤ fto j) : putL (pre v j) (v j) (fsz j) = pre v (j + 1) := by
  have hf : fitsB (v j) (fsz j) = true := by
    unfold fitsB
    rw [decide_eq_true_eq]
    rcases fld_cases hj with ⟨e, h1, h2⟩ | ⟨e, h1, h2⟩
    · rw [e]; omega
    · rw [e]; omega
  simp [putL, hf, pre]
theorem pre_byts (v : Nat → Int) : ∀ j, Byts (pre v j)
  | 0 => fun _ h => by cases h
  | j + 1 => byts_append (pre_byts v j) (leB_byts _ _)
theorem fsz_le {j : Nat} (hj : j < 5) : (fsz j).toNat ≤ 4 := by
  rcases fld_cases hj with ⟨e, _⟩ | ⟨e, _⟩ <;> rw [e] <;> decide
theorem pre_le (v : Nat → Int) : ∀ j, j ≤ 5 → (pre v j).length ≤ 4 * j
  | 0, _ => by simp [pre]
  | j + 1, h => by
    have h1 := pre_le v j (by omega)
    have h2 := fsz_le (j := j) (by omega)
    simp only [pre, List.length_append, leB_len]
    omega
theorem put_bit (xs : List Int) (p : Bool) : putL xs (bitI p) 1 = xs ++ leB (bitI p) 1 := by
  cases p <;> rfl
theorem tagL_len (a b c d k : Int) (p : Bool) : (tagL a b c d k p).length = 12 := by
  simp [tagL, pre, leB_len, fsz]
theorem tagL_byts (a b c d k : Int) (p : Bool) : Byts (tagL a b c d k p) := byts_append (pre_byts _ _) (leB_byts _ _)
theorem tag_mk (a b c d k : Int) (p : Bool) : mkE 84 (tagL a b c d k p) = 0 ∧ mkL 84 (tagL a b c d k p) = frL 84 (tagL a b c d k p) := by
  have h : mkE 84 (tagL a b c d k p) = 0 := by
    unfold mkE
    rw [if_pos (by decide), tagL_len, if_pos (by decide)]
  exact ⟨h, by unfold mkL; rw [if_pos h]⟩
theorem made_ext {w w1 w2 : World} {ys : List Int} {er : Int} {e : Ending} (hg : Ext w w1) (h : MadeE w1 ys er e w2) : MadeE w ys er e w2 := by
  obtain ⟨v', rfl, h1, h2⟩ := h
  exact ⟨v', rfl, ownsRow_le h1 hg.size, ext_trans hg h2⟩
theorem okB_all {a b c d k : Int} (h : okB a b c d k = true) : ∀ j, j < 5 → ffr j ≤ nth a b c d k j ∧ nth a b c d k j ≤ fto j := by
  simp only [okB, List.all_eq_true, List.mem_range, decide_eq_true_eq] at h
  exact h

/-- A tag's block. -/
def TagAt (w : World) (B : Nat) (a b c d k : Int) (p : Bool) : Prop :=
  w.cell? ⟨B, 0, none⟩ = some (.int .i64 a) ∧ w.cell? ⟨B, 1, none⟩ = some (.int .i64 b) ∧ w.cell? ⟨B, 2, none⟩ = some (.int .i64 c) ∧ w.cell? ⟨B, 3, none⟩ = some (.int .i64 d) ∧ w.cell? ⟨B, 4, none⟩ = some (.int .i64 k) ∧ w.cell? ⟨B, 5, none⟩ = some (.bool p)
theorem tagAt_new (w : World) (a b c d k : Int) (p : Bool) : TagAt (w.alloc (tagObj a b c d k p)) w.heap.size a b c d k p := by
  unfold TagAt tagObj
  refine ⟨?_, ?_, ?_, ?_, ?_, ?_⟩ <;> (rw [World.cell?_alloc_mark]; rfl)
theorem TagAt.ext {w w' : World} {B : Nat} {a b c d k : Int} {p : Bool} (h : TagAt w B a b c d k p) (hg : Ext w w') : TagAt w' B a b c d k p :=
  ⟨hg.cell h.1 (by simp), hg.cell h.2.1 (by simp), hg.cell h.2.2.1 (by simp), hg.cell h.2.2.2.1 (by simp), hg.cell h.2.2.2.2.1 (by simp), hg.cell h.2.2.2.2.2 (by simp)⟩

set_option maxRecDepth 100000 in
set_option maxHeartbeats 400000 in
theorem refTagBytes_bad (a b c d k : Int) (p : Bool) (w : World) (h : okB a b c d k = false) :
    Calls Tryd.prog 20 #[tagV a b c d k p] w (MadeE w [] 1) := by
  have R := fun w => refRight_any a b c d k p w
  rw [h] at R
  unfold tagV tagObj at *
  clear h
  go_enter Tryd.func20, Tryd.ntmps20
  go_wp2_with (go_at_call 35; refine (R _).mono ?_; rintro e w1 ⟨rfl, rfl⟩)
  go_returns
  exact ⟨_, rfl, owns_nil _ _, ext_trans (World.grownBy_alloc _ _ none) (World.grownBy_alloc _ _ none)⟩

set_option maxRecDepth 100000 in
set_option maxHeartbeats 800000 in
theorem refTagBytes_good (a b c d k : Int) (p : Bool) (w : World) (h : okB a b c d k = true) :
    Calls Tryd.prog 20 #[tagV a b c d k p] w (MadeE w (frL 84 (tagL a b c d k p)) 0) := by
  have R := fun w => refRight_any a b c d k p w
  have M := fun v w hb => refMake_any 84 v (tagL a b c d k p) w hb (tagL_byts a b c d k p) (by rw [tagL_len]; decide)
  rw [(tag_mk a b c d k p).1, (tag_mk a b c d k p).2] at M
  have HA := okB_all h
  rw [h] at R
  have hbit := put_bit (pre (nth a b c d k) 5) p
  rw [show pre (nth a b c d k) 5 ++ leB (bitI p) 1 = tagL a b c d k p from rfl] at hbit
  generalize tagL a b c d k p = tl at *
  have hp := fun j hj => put_pre (v := nth a b c d k) (j := j) hj (HA j hj)
  have hl := fun j hj => Nat.le_trans (pre_le (nth a b c d k) j hj) (show 4 * j ≤ 140737488350000 by omega)
  have p0 : putL [] a 1 = pre (nth a b c d k) 1 := hp 0 (by decide)
  have p1 : putL (pre (nth a b c d k) 1) b 4 = pre (nth a b c d k) 2 := hp 1 (by decide)
  have p2 : putL (pre (nth a b c d k) 2) c 1 = pre (nth a b c d k) 3 := hp 2 (by decide)
  have p3 : putL (pre (nth a b c d k) 3) d 4 = pre (nth a b c d k) 4 := hp 3 (by decide)
  have p4 : putL (pre (nth a b c d k) 4) k 1 = pre (nth a b c d k) 5 := hp 4 (by decide)
  have HP := Lib.hid (And.intro p0 (And.intro p1 (And.intro p2 (And.intro p3 (And.intro p4 hbit)))))
  have HL := Lib.hid hl
  have hgw := World.grownBy_alloc (w.alloc (tagObj a b c d k p)) (tagObj a b c d k p) none
  have HT0 := Lib.hid ((tagAt_new w a b c d k p).ext hgw)
  have HG := Lib.hid (ext_trans (World.grownBy_alloc w (tagObj a b c d k p) none) hgw)
  generalize pre (nth a b c d k) = q at *
  unfold tagV tagObj at *
  clear h HA hp hl p0 p1 p2 p3 p4 hbit hgw
  cases p
  all_goals
    go_enter Tryd.func20, Tryd.ntmps20
    go_wp2_with (first
      | (go_at_call 35; refine (R _).mono ?_; rintro e w1 ⟨rfl, hw⟩; have hS := hw ▸ HT0.out; have HE := Lib.hid (hw ▸ HG.out); clear hw))
    replace hS := hS.ext (Ext.drew w1)
    refine region_line [(0, true), (1, true), (3, true), (4, true), (6, true), (7, true), (2, false), (5, false), (8, false), (9, true)] (fun x => TagAt x w.heap.size a b c d k _) (by kernel_rfl) (by kernel_rfl) (fun _ _ _ d _ h => by cases d <;> exact h) hS ?_
    repeat (refine line_read (a' := ?_) rfl (by kernel_rfl) (by kernel_rfl) hS (fun x hx K hK => ?_) ?_; rotate_left; · obtain ⟨q0, q1, q2, q3, q4, _⟩ := hx; go_wp2; exact hK)
    refine line_act (by rfl) (fun K hK => ?_)
    go_wp2_with (go_at_call 36; refine (refPut_is (.inl ⟨rfl, rfl⟩) (by simp) HP.out.1).mono ?_; rintro e w2 ⟨v2, rfl, hown2, hg2⟩)
    replace hS := hS.ext hg2
    refine hK _ _ _ hS (fun x hx => hx) ?_
    clear hK K
    repeat (refine line_read (a' := ?_) rfl (by kernel_rfl) (by kernel_rfl) hS (fun x hx K hK => ?_) ?_; rotate_left; · obtain ⟨q0, q1, q2, q3, q4, _⟩ := hx; go_wp2; exact hK)
    refine line_act (by rfl) (fun K hK => ?_)
    go_wp2_with (go_at_call 36; refine (refPut_is (Owns.bts rfl hown2) (HL.out 1 (by decide)) HP.out.2.1).mono ?_; rintro e w3 ⟨v3, rfl, hown3, hg3⟩)
    replace hS := hS.ext hg3
    refine hK _ _ _ hS (fun x hx => hx) ?_
    clear hK K
    repeat (refine line_read (a' := ?_) rfl (by kernel_rfl) (by kernel_rfl) hS (fun x hx K hK => ?_) ?_; rotate_left; · obtain ⟨q0, q1, q2, q3, q4, _⟩ := hx; go_wp2; exact hK)
    refine line_act (by rfl) (fun K hK => ?_)
    go_wp2_with (go_at_call 36; refine (refPut_is (Owns.bts rfl hown3) (HL.out 2 (by decide)) HP.out.2.2.1).mono ?_; rintro e w4 ⟨v4, rfl, hown4, hg4⟩)
    replace hS := hS.ext hg4
    refine hK _ _ _ hS (fun x hx => hx) ?_
    clear hK K
    repeat (refine line_read (a' := ?_) rfl (by kernel_rfl) (by kernel_rfl) hS (fun x hx K hK => ?_) ?_; rotate_left; · obtain ⟨q0, q1, q2, q3, q4, _⟩ := hx; go_wp2; exact hK)
    refine line_end ?_
    have he4 : Ext w1 w4 := ext_trans (Ext.of_drew hg2) (ext_trans hg3 hg4)
    go_wp2
    replace hS := hS.ext (Ext.drew w4)
    refine region_line [(0, true), (1, true), (2, true), (4, true), (5, true), (3, false), (6, false), (7, true)] (fun x => TagAt x w.heap.size a b c d k _) (by kernel_rfl) (by kernel_rfl) (fun _ _ _ d _ h => by cases d <;> exact h) hS ?_
    repeat (refine line_read (a' := ?_) rfl (by kernel_rfl) (by kernel_rfl) hS (fun x hx K hK => ?_) ?_; rotate_left; · obtain ⟨q0, q1, q2, q3, q4, _⟩ := hx; go_wp2; exact hK)
    refine line_act (by rfl) (fun K hK => ?_)
    go_wp2_with (go_at_call 36; refine (refPut_is ((Owns.bts rfl hown4).kept (Ext.drew w4) (by simp)) (HL.out 3 (by decide)) HP.out.2.2.2.1).mono ?_; rintro e w5 ⟨v5, rfl, hown5, hg5⟩)
    replace hS := hS.ext hg5
    refine hK _ _ _ hS (fun x hx => hx) ?_
    clear hK K
    repeat (refine line_read (a' := ?_) rfl (by kernel_rfl) (by kernel_rfl) hS (fun x hx K hK => ?_) ?_; rotate_left; · obtain ⟨q0, q1, q2, q3, q4, _⟩ := hx; go_wp2; exact hK)
    refine line_act (by rfl) (fun K hK => ?_)
    go_wp2_with (go_at_call 36; refine (refPut_is (Owns.bts rfl hown5) (HL.out 4 (by decide)) HP.out.2.2.2.2.1).mono ?_; rintro e w6 ⟨v6, rfl, hown6, hg6⟩)
    replace hS := hS.ext hg6
    refine hK _ _ _ hS (fun x hx => hx) ?_
    clear hK K
    repeat (refine line_read (a' := ?_) rfl (by kernel_rfl) (by kernel_rfl) hS (fun x hx K hK => ?_) ?_; rotate_left; · obtain ⟨q0, q1, q2, q3, q4, _⟩ := hx; go_wp2; exact hK)
    refine line_end ?_
    have he6 : Ext w1 w6 := ext_trans he4 (ext_trans (Ext.of_drew hg5) hg6)
    obtain ⟨_, _, _, _, _, b5⟩ := hS
    clear hg2 hg3 hg4 hg5 hg6 hown2 hown3 hown4 hown5 he4
    go_wp2_with (first
      | (go_at_call 37; refine (M v7 w7 (Owns.bts rfl hown7)).mono ?_; rintro e w8 ⟨v8, rfl, hown8, hg8⟩)
      | (go_at_call 36; refine (refPut_is (Owns.bts rfl hown6) (HL.out 5 (by decide)) HP.out.2.2.2.2.2).mono ?_; rintro e w7 ⟨v7, rfl, hown7, hg7⟩))
    go_returns
    exact ⟨v8, rfl, ownsRow_le hown8 (Nat.le_trans HE.out.size (Nat.le_trans he6.size hg7.size)), ext_trans HE.out (ext_trans he6 (ext_trans hg7 hg8))⟩

theorem refTagBytes_any (a b c d k : Int) (p : Bool) (w : World) :
    Calls Tryd.prog 20 #[tagV a b c d k p] w (MadeE w (tagBL a b c d k p) (tagBE a b c d k)) := by
  unfold tagBL tagBE
  cases h : okB a b c d k
  · exact refTagBytes_bad a b c d k p w h
  · exact refTagBytes_good a b c d k p w h

end Go.Proofs.YtnfhibigidkhkaaDoor

/-
  A statement that draws its order, where two operations that act may come in either order (a call, and a new block): walked as a tree.
-/
namespace Go.Proofs.YtnfhibigidkhkaaDoor
set_option linter.unusedVariables false
set_option linter.unusedSimpArgs false
set_option linter.unusedVariables false
set_option linter.unusedSimpArgs false
set_option maxRecDepth 100000
open Go.RowKit

inductive Tree where
  | done : Tree
  | read : Nat → Tree → Tree
  | one : Nat → Tree → Tree
  | two : Nat → Nat → Tree → Tree → Tree

def Tree.len : Tree → Nat
  | .done => 0
  | .read _ t => t.len + 1
  | .one _ t => t.len + 1
  | .two _ _ t _ => t.len + 1

def treeOk (md : Region.Mode) (ops : Array Oper) : Array Bool → Tree → Bool
  | listed, .done => Region.ready md ops listed == []
  | listed, .read i t => Region.free md ops listed i && (Region.ready md ops listed).contains i && treeOk md ops (listed.setIfInBounds i true) t
  | listed, .one i t => Region.ready md ops listed == [i] && treeOk md ops (listed.setIfInBounds i true) t
  | listed, .two i j t u => Region.ready md ops listed == [i, j] && (t.len == u.len) && treeOk md ops (listed.setIfInBounds i true) t && treeOk md ops (listed.setIfInBounds j true) u

/-- The region, in these orders. -/
def wpTree (P : Program) (ops : Array Oper) (Q : Exit → Act → World → Prop) : (World → Prop) → Tree → Act → World → Prop
  | _, .done, a, w => Q .normal a w
  | S, .read i t, a, w => ∃ o v, ops[i]? = some o ∧ YieldsIf P ops S o v a ∧ wpTree P ops Q S t (a.put o.dst v) w
  | S, .one i t, a, w => wpOp P ops Q i (fun a' w' => ∃ S' : World → Prop, S' w' ∧ (∀ x, S' x → S x) ∧ wpTree P ops Q S' t a' w') a w
  | S, .two i j t u, a, w => wpOp P ops Q i (fun a' w' => ∃ S' : World → Prop, S' w' ∧ (∀ x, S' x → S x) ∧ wpTree P ops Q S' t a' w') a w ∧
      wpOp P ops Q j (fun a' w' => ∃ S' : World → Prop, S' w' ∧ (∀ x, S' x → S x) ∧ wpTree P ops Q S' u a' w') a w

theorem wpTree_any {P : Program} {ops : Array Oper} {Q : Exit → Act → World → Prop} {md : Region.Mode} (hsel : Region.noSelect ops = true)
    (hQ : ∀ c a w d v, Q (.panic c) (a.put d v) w → Q (.panic c) a w) :
    ∀ (t : Tree) (S : World → Prop) (listed : Array Bool) (a : Act) (w : World), treeOk md ops listed t = true → S w → wpTree P ops Q S t a w → wpAnyH P md ops Q S t.len listed a w
  | .done, S, listed, a, w, hl, _, h => ⟨by simpa [treeOk] using hl, h⟩
  | .read i t, S, listed, a, w, hl, hS, h => by
    obtain ⟨o, v, ho, hy, h⟩ := h
    simp only [treeOk, Bool.and_eq_true] at hl
    exact wpAnyH_take ho hsel hl.1.1 hl.1.2 (fun c a w => hQ c a w _ _) hy hS (wpTree_any hsel hQ t S _ _ w hl.2 hS h)
  | .one i t, S, listed, a, w, hl, hS, h => by
    simp only [treeOk, Bool.and_eq_true, beq_iff_eq] at hl
    refine wpAnyH_all hl.1 (by simp) ?_
    intro j hj
    simp at hj
    subst hj
    exact wpOp_mono (fun a' w' ⟨S', hS', hsub, h'⟩ => ⟨hsub _ hS', wpAnyH_weaken hsub _ _ _ _ (wpTree_any hsel hQ t S' _ _ w' hl.2 hS' h')⟩) h
  | .two i j t u, S, listed, a, w, hl, hS, h => by
    simp only [treeOk, Bool.and_eq_true, beq_iff_eq] at hl
    obtain ⟨⟨⟨h1, h2⟩, h3⟩, h4⟩ := hl
    refine wpAnyH_all h1 (by simp) ?_
    intro k hk
    simp at hk
    rcases hk with rfl | rfl
    · exact wpOp_mono (fun a' w' ⟨S', hS', hsub, h'⟩ => ⟨hsub _ hS', wpAnyH_weaken hsub _ _ _ _ (wpTree_any hsel hQ t S' _ _ w' h3 hS' h')⟩) h.1
    · exact wpOp_mono (fun a' w' ⟨S', hS', hsub, h'⟩ => ⟨hsub _ hS', wpAnyH_weaken hsub _ _ _ _ (by rw [h2]; exact wpTree_any hsel hQ u S' _ _ w' h4 hS' h')⟩) h.2

/-- The beginning. -/
theorem region_tree {P : Program} {ops : Array Oper} {Q : Exit → Act → World → Prop} {id : Nat} {a : Act} {w : World} (t : Tree) (S : World → Prop) (hm : P.follows .mixedOrders = true)
    (hc : (Region.noSelect ops && (t.len == ops.size) && treeOk .any ops (Array.replicate ops.size false) t) = true)
    (hQ : ∀ c a w d v, Q (.panic c) (a.put d v) w → Q (.panic c) a w) (hS : S w.drew)
    (h : wpTree P ops Q S t a w.drew) : (Code.region id ops true).wp P Q a w := by
  simp only [Bool.and_eq_true, beq_iff_eq] at hc
  refine wp_region_any hm (wpAny_of_held (S := S) _ _ _ _ ?_)
  rw [← hc.1.2]
  have := wpTree_any hc.1.1 hQ t S _ a w.drew hc.2 hS h
  rw [← hc.1.2] at this
  exact this

theorem tree_read {P : Program} {ops : Array Oper} {Q : Exit → Act → World → Prop} {S : World → Prop} {i : Nat} {t : Tree} {o : Oper} {a a' : Act} {w : World} (ho : ops[i]? = some o)
    (hk : (!Region.wanted o (yielded ops a.tmps) || readerOp o.op || nilGood a o.op) = true) (hd : (o.dst.any fun d => decide (d < a.tmps.size)) = true) (hS : S w)
    (h : ∀ x, S x → ∀ K : Act → World → Prop, K a' x → wpList P ops (OnlyK K) [o] a x) (hr : wpTree P ops Q S t a' w) : wpTree P ops Q S (.read i t) a w := by
  obtain ⟨v, hy, hp⟩ := reads_one hk hd hS h
  exact ⟨o, v, ho, hy, by rw [hp]; exact hr⟩

theorem tree_one {P : Program} {ops : Array Oper} {Q : Exit → Act → World → Prop} {S : World → Prop} {i : Nat} {t : Tree} {o : Oper} {a : Act} {w : World} (ho : ops[i]? = some o)
    (h : ∀ K : Act → World → Prop, (∀ a' w' (S' : World → Prop), S' w' → (∀ x, S' x → S x) → wpTree P ops Q S' t a' w' → K a' w') → wpList P ops (ElseQ K Q) [o] a w) : wpTree P ops Q S (.one i t) a w := by
  have h1 := h _ (fun a' w' S' h1 h2 h3 => (⟨S', h1, h2, h3⟩ : ∃ S' : World → Prop, S' w' ∧ (∀ x, S' x → S x) ∧ wpTree P ops Q S' t a' w'))
  show wpOp P ops Q i _ a w
  unfold wpOp
  simp only [ho]
  simp only [wpList] at h1
  split
  · rename_i hw
    rw [if_pos hw] at h1
    rcases h1 with h1 | ⟨h1, b, x, h2⟩
    · refine .inl ?_
      unfold Oper.wp at h1 ⊢
      generalize (execOp a.eval o).run P w = res at h1
      cases res with
      | ok n w1 =>
        cases n <;> first | exact h1 | exact Calls.mono h1 (fun e w2 he => by cases e <;> exact he) | exact Rows.mono h1 (fun _ _ he => he)
      | halt hh w1 => cases hh <;> exact h1
    · exact .inr ⟨h1, b, x, h2⟩
  · rename_i hw
    rw [if_neg hw] at h1
    exact h1

theorem tree_two {P : Program} {ops : Array Oper} {Q : Exit → Act → World → Prop} {S : World → Prop} {i j : Nat} {t u : Tree} {a : Act} {w : World}
    (h1 : wpTree P ops Q S (.one i t) a w) (h2 : wpTree P ops Q S (.one j u) a w) : wpTree P ops Q S (.two i j t u) a w := ⟨h1, h2⟩

theorem tree_end {P : Program} {ops : Array Oper} {Q : Exit → Act → World → Prop} {S : World → Prop} {a : Act} {w : World} (h : Q .normal a w) : wpTree P ops Q S .done a w := h

end Go.Proofs.YtnfhibigidkhkaaDoor

/-
  Package tag: Parse. What is read of bytes.
-/
namespace Go.Proofs.YtnfhibigidkhkaaDoor
set_option linter.unusedVariables false
set_option linter.unusedSimpArgs false
set_option linter.unusedVariables false
set_option linter.unusedSimpArgs false
set_option maxRecDepth 100000
open Go.RowKit

/-- What is left, and the error, behind j numbers. -/
def rdp (xs : List Int) : Nat → List Int × Int
  | 0 => (xs, 0)
  | j + 1 => (numX (fsz j) (rdp xs j).1 (rdp xs j).2, numE (fsz j) (rdp xs j).1 (rdp xs j).2)
def nv (xs : List Int) (j : Nat) : Int := numV (fsz j) (rdp xs j).1 (rdp xs j).2
def cpB (xs : List Int) : Bool := flagB (rdp xs 5).1 (rdp xs 5).2
def lstX (xs : List Int) : List Int := numX 1 (rdp xs 5).1 (rdp xs 5).2
def lstE (xs : List Int) : Int := flagE (rdp xs 5).1 (rdp xs 5).2
def dnE (xs : List Int) : Int := doneE (lstX xs) (lstE xs)
def bodyOk (xs : List Int) : Bool := decide (dnE xs = 0) && okB (nv xs 0) (nv xs 1) (nv xs 2) (nv xs 3) (nv xs 4)
def psE (xs : List Int) : Int := if whE xs 84 = 0 then (if bodyOk (whB xs 84) then 0 else 2) else whE xs 84
def psN (xs : List Int) (j : Nat) : Int := if psE xs = 0 then nv (whB xs 84) j else 0
def psP (xs : List Int) : Bool := if psE xs = 0 then cpB (whB xs 84) else false

def ParseR (w : World) (a b c d k : Int) (p : Bool) (er : Int) (e : Ending) (w' : World) : Prop :=
  e = .returned (.tuple #[tagV a b c d k p, .int .i64 er]) ∧ Ext w w'

theorem rdp_byts {xs : List Int} (h : Byts xs) : ∀ j, Byts (rdp xs j).1
  | 0 => h
  | j + 1 => numX_byts (rdp_byts h j)
theorem whB_byts {xs : List Int} (k : Int) (h : Byts xs) : Byts (whB xs k) := by
  unfold whB
  split
  · unfold opB
    split
    · exact fun x hx => h x (List.mem_of_mem_drop (List.mem_of_mem_take hx))
    · exact fun x hx => by cases hx
  · exact fun x hx => by cases hx
theorem whB_len (xs : List Int) (k : Int) : (whB xs k).length ≤ xs.length := by
  unfold whB
  split
  · unfold opB
    split
    · simp; omega
    · simp
  · simp

/-- A block of five numbers that is written. -/
def ArrM (w : World) (B : Nat) (v : Nat → Int) : Prop := ∃ row : Array Value, w.heap[B]? = some (.cells row 108 (0, 0)) ∧ row.size = 5 ∧ ∀ j, j < 5 → row[j]? = some (.int .i64 (v j))
theorem ArrM.cell {w : World} {B : Nat} {v : Nat → Int} (h : ArrM w B v) {j : Nat} (hj : j < 5) : w.cell? ⟨B, j, none⟩ = some (.int .i64 (v j)) := by
  obtain ⟨row, h1, _, h3⟩ := h
  simp [World.cell?, h1, h3 j hj]
theorem ArrM.free {w : World} {B : Nat} {v : Nat → Int} (h : ArrM w B v) (o : Nat) : w.frozen? ⟨B, o, none⟩ = false := by
  obtain ⟨row, h1, _, h3⟩ := h
  simp [World.frozen?, h1]
theorem ArrM.lt {w : World} {B : Nat} {v : Nat → Int} (h : ArrM w B v) : B < w.heap.size := by
  obtain ⟨row, h1, _, h3⟩ := h
  exact (Array.getElem?_eq_some_iff.1 h1).1
theorem ArrM.kept {w w' : World} {B : Nat} {v : Nat → Int} {r : Option Nat} (h : ArrM w B v) (hg : w.grownBy w' r) (hr : some B ≠ r) : ArrM w' B v := by
  have hl := h.lt
  obtain ⟨row, h1, h2, h3⟩ := h
  exact ⟨row, (hg.block B hl hr).trans h1, h2, h3⟩
theorem ArrM.set {w : World} {B : Nat} {v : Nat → Int} (h : ArrM w B v) {j : Nat} (u : Int) : ArrM (w.setCell ⟨B, j, none⟩ (.int .i64 u)) B (fun q => if q = j then u else v q) := by
  obtain ⟨row, h1, h2, h3⟩ := h
  refine ⟨row.setIfInBounds j (.int .i64 u), by simp [World.setCell, Array.getElem?_modify, h1], by simpa using h2, fun q hq => ?_⟩
  rw [Array.getElem?_setIfInBounds]
  by_cases hqj : j = q
  · subst hqj
    simp [h2, hq]
  · simp [hqj, Ne.symm hqj, h3 q hq]

/-- A tag's block that is written. -/
def TagM (w : World) (B : Nat) (a b c d k : Int) (p : Bool) : Prop := w.heap[B]? = some (tagObj a b c d k p)
theorem TagM.kept {w w' : World} {B : Nat} {a b c d k : Int} {p : Bool} {r : Option Nat} (h : TagM w B a b c d k p) (hg : w.grownBy w' r) (hr : some B ≠ r) : TagM w' B a b c d k p :=
  (hg.block B (Array.getElem?_eq_some_iff.1 h).1 hr).trans h
theorem TagM.at {w : World} {B : Nat} {a b c d k : Int} {p : Bool} (h : TagM w B a b c d k p) : TagAt w B a b c d k p := by
  unfold TagM tagObj at h
  unfold TagAt
  simp [World.cell?, h]
theorem TagM.free {w : World} {B : Nat} {a b c d k : Int} {p : Bool} (h : TagM w B a b c d k p) (o : Nat) : w.frozen? ⟨B, o, none⟩ = false := by
  unfold TagM tagObj at h
  simp [World.frozen?, h]
theorem tagM_new (w : World) (a b c d k : Int) (p : Bool) : TagM (w.alloc (tagObj a b c d k p)) w.heap.size a b c d k p := heap_alloc_new w _

theorem tagM_set {w : World} {B : Nat} {a b c d k : Int} {p : Bool} (h : TagM w B a b c d k p) (a' b' c' d' k' : Int) (p' : Bool) :
    TagM ((((((w.setCell ⟨B, 0, none⟩ (.int .i64 a')).setCell ⟨B, 1, none⟩ (.int .i64 b')).setCell ⟨B, 2, none⟩ (.int .i64 c')).setCell ⟨B, 3, none⟩ (.int .i64 d')).setCell ⟨B, 4, none⟩ (.int .i64 k')).setCell ⟨B, 5, none⟩ (.bool p')) B a' b' c' d' k' p' ∧
    w.grownBy ((((((w.setCell ⟨B, 0, none⟩ (.int .i64 a')).setCell ⟨B, 1, none⟩ (.int .i64 b')).setCell ⟨B, 2, none⟩ (.int .i64 c')).setCell ⟨B, 3, none⟩ (.int .i64 d')).setCell ⟨B, 4, none⟩ (.int .i64 k')).setCell ⟨B, 5, none⟩ (.bool p')) (some B) := by
  refine ⟨?_, grown_twice (grown_twice (grown_twice (grown_twice (grown_twice (grown_set _ _ _) (grown_set _ _ _)) (grown_set _ _ _)) (grown_set _ _ _)) (grown_set _ _ _)) (grown_set _ _ _)⟩
  unfold TagM tagObj at h ⊢
  simp [World.setCell, Array.getElem?_modify, h]
theorem ext_ownT {w w1 w2 : World} {B : Nat} (h : Ext w w1) (hg : w1.grownBy w2 (some B)) (hB : w.heap.size ≤ B) : Ext w w2 :=
  grown_trans h hg (fun k hk hl => by cases hk; omega)

set_option maxRecDepth 100000 in
set_option maxHeartbeats 400000 in
theorem tagParse_not (v : Value) (xs : List Int) (w : World) (hb : Bts w v xs) (hB : Byts xs) (hm : xs.length ≤ 140737488351232) (hE : whE xs 84 ≠ 0) :
    Calls Tryd.prog 40 #[v] w (ParseR w 0 0 0 0 0 false (whE xs 84)) := by
  have W := fun w' hb => whole_any v xs 84 w' hb hB hm
  obtain ⟨ao, cap, b, off, rfl, _⟩ := hb.sform
  generalize whE xs 84 = er at *
  have hE' : (er != 0) = true := by simpa using hE
  have HB := Lib.hid (hb.kept (World.grownBy_alloc w (tagObj 0 0 0 0 0 false) none) (by simp))
  have HM := Lib.hid (tagM_new w 0 0 0 0 0 false)
  generalize whB xs 84 = ys at *
  unfold tagObj ParseR tagV at *
  clear hE hb hB
  go_enter Tryd.func40, Tryd.ntmps40
  go_wp2_with (go_at_call 51; refine (W _ HB.out).mono ?_; rintro e w2 ⟨v2, rfl, hown2, hg2⟩; have hM2 := TagM.kept HM.out hg2 (by simp); have hf := hM2.free; obtain ⟨b0, b1, b2, b3, b4, b5⟩ := hM2.at)
  obtain ⟨hM3, hg3⟩ := tagM_set hM2 0 0 0 0 0 false
  obtain ⟨c0, c1, c2, c3, c4, c5⟩ := hM3.at
  refine bodyPost_ret (v := .tuple #[.agg #[.int .i64 0, .int .i64 0, .int .i64 0, .int .i64 0, .int .i64 0, .bool false], .int .i64 er]) (by simp [results, Tryd.results40, go_sem, c0, c1, c2, c3, c4, c5]) rfl ⟨rfl, ext_ownT (ext_trans (World.grownBy_alloc _ _ none) hg2) hg3 (Nat.le_refl _)⟩

theorem arrM_new (w : World) (a b c d k : Int) : ArrM (w.alloc (arrObj a b c d k)) w.heap.size (nth a b c d k) :=
  ⟨_, heap_alloc_new w _, rfl, fun j hj => by
    have : j = 0 ∨ j = 1 ∨ j = 2 ∨ j = 3 ∨ j = 4 := by omega
    rcases this with rfl | rfl | rfl | rfl | rfl <;> rfl⟩
theorem ArrM.is {w : World} {B : Nat} {u v : Nat → Int} (h : ArrM w B u) (he : ∀ q, q < 5 → u q = v q) : ArrM w B v := by
  obtain ⟨row, h1, h2, h3⟩ := h
  exact ⟨row, h1, h2, fun j hj => by rw [h3 j hj, he j hj]⟩
theorem Flds.own {w w' : World} {B : Nat} (h : Flds w) (hg : w.grownBy w' (some B)) (hB : 0 < B) : Flds w' := h.kept hg (by simp; omega)

theorem told_ext (a b c d k : Int) (p : Bool) (w : World) :
    Calls Tryd.prog 54 #[.agg #[.int .i64 a, .int .i64 b, .int .i64 c, .int .i64 d, .int .i64 k], .bool p] w fun e w' => e = .returned (.agg #[.int .i64 a, .int .i64 b, .int .i64 c, .int .i64 d, .int .i64 k, .bool p]) ∧ Ext w w' :=
  (told_any a b c d k p w).mono fun _ _ ⟨h1, h2⟩ => ⟨h1, h2 ▸ ext_trans (World.grownBy_alloc _ _ none) (World.grownBy_alloc _ _ none)⟩

/-- What stands behind j numbers read. -/
def Mid (bs : List Int) (w wr : World) (br c B j : Nat) : Prop :=
  RdIs 126 wr br c (rdp bs j).1 (rdp bs j).2 ∧ ArrM wr B (fun q => if q < j then nv bs q else 0) ∧ Flds wr ∧ TagM wr w.heap.size 0 0 0 0 0 false ∧ Ext w wr ∧ w.heap.size < br ∧ br < B ∧ c < B
theorem Mid.next {bs : List Int} {w wr wn : World} {br c B j : Nat} (h : Mid bs w wr br c B j) (hR : RdIs 126 wn br c (rdp bs (j + 1)).1 (rdp bs (j + 1)).2) (hg : wr.grownBy wn (some br)) :
    Mid bs w (wn.setCell ⟨B, j, none⟩ (.int .i64 (nv bs j))) br c B (j + 1) := by
  obtain ⟨h1, h2, h3, h4, h5, h6, h7, h8⟩ := h
  have hs := grown_set wn ⟨B, j, none⟩ (.int .i64 (nv bs j))
  refine ⟨hR.kept hs (by simp; omega) (by simp; omega), ((h2.kept hg (by simp; omega)).set (j := j) (nv bs j)).is (fun q _ => ?_), (h3.own hg (by omega)).own hs (by simp; omega), (h4.kept hg (by simp; omega)).kept hs (by simp; omega), ext_ownT (ext_ownT h5 hg (by omega)) hs (by simp; omega), h6, h7, h8⟩
  by_cases e : q = j
  · subst e; simp
  · by_cases e2 : q < j
    · simp [e, e2, show q < j + 1 by omega]
    · simp [e, e2, show ¬ q < j + 1 by omega]

/-- What stands behind the flag. -/
def ReadyT (bs : List Int) (w wx : World) (br c tb : Nat) : Prop :=
  TagM wx tb (nv bs 0) (nv bs 1) (nv bs 2) (nv bs 3) (nv bs 4) (cpB bs) ∧ RdIs 126 wx br c (lstX bs) (lstE bs) ∧ Flds wx ∧ TagM wx w.heap.size 0 0 0 0 0 false ∧ Ext w wx ∧ tb ≠ br ∧ w.heap.size < tb ∧ w.heap.size < br

theorem gb_own {w w' : World} (h : w.grownBy w' none) (B : Nat) : w.grownBy w' (some B) := ⟨h.os, h.tape, h.output, h.size, fun k hk _ => h.block k hk (by simp)⟩

/-- Behind the flag: what stands, and where new blocks come. -/
def Flagged (bs : List Int) (w wf : World) (br c B : Nat) : Prop :=
  RdIs 126 wf br c (lstX bs) (lstE bs) ∧ Flds wf ∧ TagM wf w.heap.size 0 0 0 0 0 false ∧ Ext w wf ∧ w.heap.size < br ∧ br < B ∧ c < B ∧ B < wf.heap.size
theorem Mid.flagged {bs : List Int} {w wr wy wf : World} {br c B : Nat} (h : Mid bs w wr br c B 5) (hy : Ext wr wy) (hg : wy.grownBy wf (some br)) (hR : RdIs 126 wf br c (lstX bs) (lstE bs)) : Flagged bs w wf br c B := by
  obtain ⟨_, h2, h3, h4, h5, h6, h7, h8⟩ := h
  have hl := h2.lt
  have hz1 := hy.size
  have hz2 := hg.size
  exact ⟨hR, (h3.ext hy).own hg (by omega), (h4.kept hy (by simp)).kept hg (by simp; omega), ext_ownT (ext_trans h5 hy) hg (by omega), h6, h7, h8, by omega⟩
theorem Flagged.ready {bs : List Int} {w wf wx : World} {br c B tb : Nat} (h : Flagged bs w wf br c B) (hg : wf.grownBy wx (some tb)) (hB : B < tb)
    (hT : TagM wx tb (nv bs 0) (nv bs 1) (nv bs 2) (nv bs 3) (nv bs 4) (cpB bs)) : ReadyT bs w wx br c tb := by
  obtain ⟨h1, h2, h3, h4, h5, h6, h7, h8⟩ := h
  exact ⟨hT, h1.kept hg (by simp; omega) (by simp; omega), h2.own hg (by omega), h3.kept hg (by simp; omega), ext_ownT h4 hg (by omega), by omega, by omega, h5⟩

set_option maxRecDepth 100000 in
set_option maxHeartbeats 800000 in
theorem tagParse_is (v : Value) (xs bs : List Int) (w : World) (hb : Bts w v xs) (hB : Byts xs) (hm : xs.length ≤ 140737488351232) (hF : Flds w) (hE : whE xs 84 = 0) (hbs : whB xs 84 = bs) :
    Calls Tryd.prog 40 #[v] w (ParseR w (psN xs 0) (psN xs 1) (psN xs 2) (psN xs 3) (psN xs 4) (psP xs) (psE xs)) := by
  have W := fun w' hb => whole_any v xs 84 w' hb hB hm
  have hBb : Byts bs := hbs ▸ whB_byts 84 hB
  have hlb : bs.length ≤ 140737488351232 := by have := whB_len xs 84; rw [hbs] at this; omega
  obtain ⟨ao, cap, b, off, rfl, _⟩ := hb.sform
  have HP := Lib.hid (And.intro hE hbs)
  rw [hE, hbs] at W
  have HB := Lib.hid (hb.kept (World.grownBy_alloc w (tagObj 0 0 0 0 0 false) none) (by simp))
  have HM := Lib.hid (And.intro (tagM_new w 0 0 0 0 0 false) (hF.ext (World.grownBy_alloc w (tagObj 0 0 0 0 0 false) none)))
  unfold tagObj at *
  clear hE hbs hb hB hF
  go_enter Tryd.func40, Tryd.ntmps40
  go_wp2_with (first
    | (go_at_call 51; refine (W _ HB.out).mono ?_; rintro e w2 ⟨v2, rfl, hown2, hg2⟩)
    | (go_at_call 52; refine (read_any _ _ _ (Owns.bts rfl hown2) hlb (HM.out.2.ext hg2).lt).mono ?_; rintro e w3 ⟨br, c, rfl, hR3, hg3, hl1, hl2, hl3⟩))
  have hz2 := hg2.size
  simp at hz2
  have hMid : Mid bs w (w3.alloc (.cells #[.int .i64 0, .int .i64 0, .int .i64 0, .int .i64 0, .int .i64 0] 108)) br c w3.heap.size 0 := by
    have hga := World.grownBy_alloc w3 (.cells #[.int .i64 0, .int .i64 0, .int .i64 0, .int .i64 0, .int .i64 0] 108) none
    have he3 : Ext (w.alloc (.cells #[.int .i64 0, .int .i64 0, .int .i64 0, .int .i64 0, .int .i64 0, .bool false] 23)) w3 := ext_trans hg2 hg3
    refine ⟨hR3.kept hga (by simp) (by simp), (arrM_new w3 0 0 0 0 0).is (fun q hq => ?_), (HM.out.2.ext he3).ext hga, (TagM.kept HM.out.1 he3 (by simp)).kept hga (by simp), ext_trans (ext_trans (World.grownBy_alloc _ _ none) he3) hga, by omega, hl2, by omega⟩
    have : q = 0 ∨ q = 1 ∨ q = 2 ∨ q = 3 ∨ q = 4 := by omega
    rcases this with rfl | rfl | rfl | rfl | rfl <;> rfl
  have HQ := Lib.hid (And.intro hMid hBb)
  clear hMid hBb hg2 hg3 hR3 hl1 hl2 hl3 hz2 hown2 hlb
  go_loopw [21] (fun i wr => ∃ j : Nat, j ≤ 5 ∧ i = .int .i64 j ∧ Mid bs w wr br c w3.heap.size j) (fun i _ => 5 - (intOf i).toNat)
  case atStart => exact ⟨0, by omega, rfl, HQ.out.1⟩
  case round =>
    obtain ⟨j, hj, rfl, hMid⟩ := hrel
    by_cases hlt : j < 5
    · have c1 := (hMid.2.2.1 j hlt).1
      have hRd := hMid.1
      have HMid := Lib.hid hMid
      obtain ⟨s, hs⟩ : ∃ x, fsz j = x := ⟨_, rfl⟩
      have HX := Lib.hid (And.intro (show numX s (rdp bs j).1 (rdp bs j).2 = (rdp bs (j + 1)).1 by rw [← hs]; rfl) (And.intro (show numE s (rdp bs j).1 (rdp bs j).2 = (rdp bs (j + 1)).2 by rw [← hs]; rfl) (show numV s (rdp bs j).1 (rdp bs j).2 = nv bs j by rw [← hs]; rfl)))
      rw [hs] at c1
      clear hMid hs
      go_wp2_with (go_at_call 53; refine (number_is hRd (rdp_byts HQ.out.2 j) HX.out.2.2 HX.out.1 HX.out.2.1).mono ?_; rintro e wn ⟨rfl, hRn, hgn⟩; have hAn := HMid.out.2.1.kept hgn (by have := HMid.out.2.2.2.2.2.2.1; simp; omega); have hcn := hAn.cell hlt; have hfn := hAn.free j)
      go_roundw
      case rel => exact ⟨j + 1, by omega, by go_num, HMid.out.next hRn hgn⟩
      case measure => simp [intOf]; omega
    · have hn : ¬ (j : Int) < 5 := by omega
      rw [show j = 5 by omega] at hMid
      have HMid := Lib.hid hMid
      clear hMid
      go_wp2
      go_cut [9] (fun s9 wx => ∃ tb, s9 = .pointer (some ⟨tb, 0, none⟩) ∧ ReadyT bs w wx br c tb)
      case first =>
        have hA5 : ArrM wr.drew w3.heap.size (nv bs) := (HMid.out.2.1.kept (Ext.drew wr) (by simp)).is (fun q hq => by simp [hq])
        have hRd := HMid.out.1.kept (Ext.drew wr) (by simp) (by simp)
        refine region_tree (.read 0 (.read 1 (.two 2 4 (.two 3 4 (.one 4 (.one 5 .done)) (.one 3 (.one 5 .done))) (.one 2 (.one 3 (.one 5 .done)))))) (fun x => ArrM x w3.heap.size (nv bs)) (by kernel_rfl) (by kernel_rfl) (fun _ _ _ d _ h => by cases d <;> exact h) hA5 ?_
        repeat (refine tree_read (a' := ?_) rfl (by kernel_rfl) (by kernel_rfl) hA5 (fun x hx K hK => ?_) ?_; rotate_left; · have y0 := hx.cell (j := 0) (by decide); have y1 := hx.cell (j := 1) (by decide); have y2 := hx.cell (j := 2) (by decide); have y3 := hx.cell (j := 3) (by decide); have y4 := hx.cell (j := 4) (by decide); go_wp2; exact hK)
        have hBr := HMid.out.2.2.2.2.2.2.1
        refine tree_two ?_ ?_
        · refine tree_one (by rfl) (fun K hK => ?_)
          go_wp2_with (go_at_call 55; refine (flag_is (b := cpB bs) (x1 := lstX bs) (e1 := lstE bs) hRd (rdp_byts HQ.out.2 5) rfl rfl rfl).mono ?_; rintro e wf ⟨rfl, hRf, hgf⟩)
          replace hA5 := hA5.kept hgf (by simp; omega)
          have hF := HMid.out.flagged (Ext.drew wr) hgf hRf
          have hlt5 := hF.2.2.2.2.2.2.2
          refine hK _ _ _ hA5 (fun x hx => hx) ?_
          clear hK K
          refine tree_two ?_ ?_
          · refine tree_one (by rfl) (fun K hK => ?_)
            go_wp2_with (go_at_call 54; refine (told_ext _ _ _ _ _ _ _).mono ?_; rintro e wt ⟨rfl, hgt⟩)
            refine hK _ _ _ (hA5.kept hgt (by simp)) (fun x hx => hx) ?_
            clear hK K
            refine tree_one (by rfl) (fun K hK => ?_)
            go_wp2
            refine hK _ _ (fun x => ArrM x w3.heap.size (nv bs)) ((hA5.kept hgt (by simp)).kept (World.grownBy_alloc _ _ none) (by simp)) (fun x hx => hx) ?_
            clear hK K
            refine tree_one (by rfl) (fun K hK => ?_)
            go_wp2
            have hsz := hgt.size
            have hgx := gb_own (ext_trans hgt (World.grownBy_alloc wt (tagObj (nv bs 0) (nv bs 1) (nv bs 2) (nv bs 3) (nv bs 4) (cpB bs)) none)) wt.heap.size
            have hR := hF.ready hgx (by omega) (tagM_new _ _ _ _ _ _ _)
            refine hK _ _ (fun x => ArrM x w3.heap.size (nv bs)) (hA5.kept hgx (by simp; omega)) (fun x hx => hx) ?_
            clear hK K
            refine tree_end ?_
            go_wp2
            go_meet
            exact ⟨_, rfl, hR⟩
          · refine tree_one (by rfl) (fun K hK => ?_)
            go_wp2
            have hM0 := tagM_new wf 0 0 0 0 0 false
            have hg0 := World.grownBy_alloc wf (tagObj 0 0 0 0 0 false) none
            refine hK _ _ (fun x => ArrM x w3.heap.size (nv bs)) (hA5.kept hg0 (by simp)) (fun x hx => hx) ?_
            clear hK K
            refine tree_one (by rfl) (fun K hK => ?_)
            go_wp2_with (go_at_call 54; refine (told_ext _ _ _ _ _ _ _).mono ?_; rintro e wt ⟨rfl, hgt⟩)
            have hMt := hM0.kept hgt (by simp)
            obtain ⟨z0, z1, z2, z3, z4, z5⟩ := hMt.at
            have hfr := hMt.free
            refine hK _ _ _ (hA5.kept (ext_trans hg0 hgt) (by simp)) (fun x hx => hx) ?_
            clear hK K
            refine tree_one (by rfl) (fun K hK => ?_)
            go_wp2
            obtain ⟨hM9, hg9⟩ := tagM_set hMt (nv bs 0) (nv bs 1) (nv bs 2) (nv bs 3) (nv bs 4) (cpB bs)
            have hgx := grown_trans (gb_own (ext_trans hg0 hgt) wf.heap.size) hg9 (fun k hk _ => hk.symm)
            have hR := hF.ready hgx (by omega) hM9
            refine hK _ _ (fun x => ArrM x w3.heap.size (nv bs)) (hA5.kept hgx (by simp; omega)) (fun x hx => hx) ?_
            clear hK K
            refine tree_end ?_
            go_wp2
            go_meet
            exact ⟨_, rfl, hR⟩
        · refine tree_one (by rfl) (fun K hK => ?_)
          go_wp2
          have hlt0 : w3.heap.size < wr.heap.size := HMid.out.2.1.lt
          have hM0 := tagM_new wr.drew 0 0 0 0 0 false
          have hg0 := World.grownBy_alloc wr.drew (tagObj 0 0 0 0 0 false) none
          refine hK _ _ (fun x => ArrM x w3.heap.size (nv bs)) (hA5.kept hg0 (by simp)) (fun x hx => hx) ?_
          clear hK K
          refine tree_one (by rfl) (fun K hK => ?_)
          go_wp2_with (go_at_call 55; refine (flag_is (b := cpB bs) (x1 := lstX bs) (e1 := lstE bs) (hRd.kept hg0 (by simp) (by simp)) (rdp_byts HQ.out.2 5) rfl rfl rfl).mono ?_; rintro e wf ⟨rfl, hRf, hgf⟩)
          have hF := HMid.out.flagged (ext_trans (Ext.drew wr) hg0) hgf hRf
          have hlt5 := hF.2.2.2.2.2.2.2
          replace hA5 := (hA5.kept hg0 (by simp)).kept hgf (by simp; omega)
          refine hK _ _ (fun x => ArrM x w3.heap.size (nv bs)) hA5 (fun x hx => hx) ?_
          clear hK K
          refine tree_one (by rfl) (fun K hK => ?_)
          go_wp2_with (go_at_call 54; refine (told_ext _ _ _ _ _ _ _).mono ?_; rintro e wt ⟨rfl, hgt⟩)
          have hMt : TagM wt wr.heap.size 0 0 0 0 0 false := (hM0.kept hgf (fun h => by have e : wr.heap.size = br := Option.some.inj h; omega)).kept hgt (by simp)
          obtain ⟨z0, z1, z2, z3, z4, z5⟩ := hMt.at
          have hfr := hMt.free
          refine hK _ _ _ (hA5.kept hgt (by simp)) (fun x hx => hx) ?_
          clear hK K
          refine tree_one (by rfl) (fun K hK => ?_)
          go_wp2
          obtain ⟨hM9, hg9⟩ := tagM_set hMt (nv bs 0) (nv bs 1) (nv bs 2) (nv bs 3) (nv bs 4) (cpB bs)
          have hgx := grown_trans (gb_own hgt wr.heap.size) hg9 (fun k hk _ => hk.symm)
          have hR := hF.ready hgx (by omega) hM9
          refine hK _ _ (fun x => ArrM x w3.heap.size (nv bs)) (hA5.kept hgx (by simp; omega)) (fun x hx => hx) ?_
          clear hK K
          refine tree_end ?_
          go_wp2
          go_meet
          exact ⟨_, rfl, hR⟩
      case rest =>
        obtain ⟨tb, rfl, hRy⟩ := hcut
        have HR := Lib.hid hRy
        have Rt := fun x hx => right_any (nv bs 0) (nv bs 1) (nv bs 2) (nv bs 3) (nv bs 4) (cpB bs) x hx
        unfold tagV at Rt
        have HO := Lib.hid (show psE xs = if bodyOk bs then 0 else 2 by unfold psE; rw [if_pos HP.out.1, HP.out.2])
        have HB0 := Lib.hid (show bodyOk bs = (decide (dnE bs = 0) && okB (nv bs 0) (nv bs 1) (nv bs 2) (nv bs 3) (nv bs 4)) from rfl)
        have hd : doneE (lstX bs) (lstE bs) = dnE bs := rfl
        have HD := Lib.hid hd
        clear hd hRy
        by_cases h0 : dnE bs = 0
        · have HD0 := Lib.hid (HD.out.trans h0)
          cases hok : okB (nv bs 0) (nv bs 1) (nv bs 2) (nv bs 3) (nv bs 4)
          · rw [hok] at Rt
            have HE := Lib.hid (show psE xs = 2 by rw [HO.out, HB0.out, hok]; simp)
            clear h0
            go_wp2_with (first
              | (go_at_call 56; refine (done_is HR.out.2.1 HD0.out).mono ?_; rintro e wd ⟨rfl, hRd, hgd⟩; have hTd := HR.out.1.kept hgd (by have := HR.out.2.2.2.2.2.1; simp; omega); obtain ⟨t0, t1, t2, t3, t4, t5⟩ := hTd.at)
              | (go_at_call 57; refine (Rt _ (HR.out.2.2.1.own hgd (by have := HR.out.2.2.2.2.2.2.2; omega))).mono ?_; rintro e wq ⟨rfl, hgq⟩; have hMq := (HR.out.2.2.2.1.kept hgd (by have := HR.out.2.2.2.2.2.2.2; simp; omega)).kept hgq (by simp); have hfq := hMq.free; obtain ⟨z0, z1, z2, z3, z4, z5⟩ := hMq.at))
            obtain ⟨hM3, hg3⟩ := tagM_set hMq 0 0 0 0 0 false
            obtain ⟨c0, c1, c2, c3, c4, c5⟩ := hM3.at
            have hX := ext_ownT (ext_trans (ext_ownT HR.out.2.2.2.2.1 hgd (by have := HR.out.2.2.2.2.2.2.2; omega)) hgq) hg3 (Nat.le_refl _)
            have e2 := HE.out
            refine bodyPost_ret (v := .tuple #[.agg #[.int .i64 0, .int .i64 0, .int .i64 0, .int .i64 0, .int .i64 0, .bool false], .int .i64 2]) (by simp [results, Tryd.results40, go_sem, c0, c1, c2, c3, c4, c5]) rfl ⟨?_, hX⟩
            simp [psN, psP, e2, tagV]
          · rw [hok] at Rt
            have HE := Lib.hid (show psE xs = 0 by rw [HO.out, HB0.out, hok]; simp [h0])
            clear h0
            go_wp2_with (first
              | (go_at_call 56; refine (done_is HR.out.2.1 HD0.out).mono ?_; rintro e wd ⟨rfl, hRd, hgd⟩; have hTd := HR.out.1.kept hgd (by have := HR.out.2.2.2.2.2.1; simp; omega); obtain ⟨t0, t1, t2, t3, t4, t5⟩ := hTd.at)
              | (go_at_call 57; refine (Rt _ (HR.out.2.2.1.own hgd (by have := HR.out.2.2.2.2.2.2.2; omega))).mono ?_; rintro e wq ⟨rfl, hgq⟩; have hMq := (HR.out.2.2.2.1.kept hgd (by have := HR.out.2.2.2.2.2.2.2; simp; omega)).kept hgq (by simp); have hfq := hMq.free; obtain ⟨z0, z1, z2, z3, z4, z5⟩ := hMq.at; obtain ⟨t0, t1, t2, t3, t4, t5⟩ := (hTd.kept hgq (by simp)).at))
            obtain ⟨hM3, hg3⟩ := tagM_set hMq (nv bs 0) (nv bs 1) (nv bs 2) (nv bs 3) (nv bs 4) (cpB bs)
            obtain ⟨c0, c1, c2, c3, c4, c5⟩ := hM3.at
            have hX := ext_ownT (ext_trans (ext_ownT HR.out.2.2.2.2.1 hgd (by have := HR.out.2.2.2.2.2.2.2; omega)) hgq) hg3 (Nat.le_refl _)
            have e2 := HE.out
            refine bodyPost_ret (v := .tuple #[.agg #[.int .i64 (nv bs 0), .int .i64 (nv bs 1), .int .i64 (nv bs 2), .int .i64 (nv bs 3), .int .i64 (nv bs 4), .bool (cpB bs)], .int .i64 0]) (by simp [results, Tryd.results40, go_sem, c0, c1, c2, c3, c4, c5]) rfl ⟨?_, hX⟩
            simp [psN, psP, e2, tagV, HP.out.2]
        · have HE := Lib.hid (show psE xs = 2 by rw [HO.out, HB0.out]; simp [h0])
          have hn0 : (dnE bs != 0) = true := by simpa using h0
          clear h0
          go_wp2_with (go_at_call 56; refine (done_is HR.out.2.1 HD.out).mono ?_; rintro e wd ⟨rfl, hRd, hgd⟩; have hMq := HR.out.2.2.2.1.kept hgd (by have := HR.out.2.2.2.2.2.2.2; simp; omega); have hfq := hMq.free; obtain ⟨z0, z1, z2, z3, z4, z5⟩ := hMq.at)
          obtain ⟨hM3, hg3⟩ := tagM_set hMq 0 0 0 0 0 false
          obtain ⟨c0, c1, c2, c3, c4, c5⟩ := hM3.at
          have hX := ext_ownT (ext_ownT HR.out.2.2.2.2.1 hgd (by have := HR.out.2.2.2.2.2.2.2; omega)) hg3 (Nat.le_refl _)
          have e2 := HE.out
          refine bodyPost_ret (v := .tuple #[.agg #[.int .i64 0, .int .i64 0, .int .i64 0, .int .i64 0, .int .i64 0, .bool false], .int .i64 2]) (by simp [results, Tryd.results40, go_sem, c0, c1, c2, c3, c4, c5]) rfl ⟨?_, hX⟩
          simp [psN, psP, e2, tagV]

theorem tagParse_any (v : Value) (xs : List Int) (w : World) (hb : Bts w v xs) (hB : Byts xs) (hm : xs.length ≤ 140737488351232) (hF : Flds w) :
    Calls Tryd.prog 40 #[v] w (ParseR w (psN xs 0) (psN xs 1) (psN xs 2) (psN xs 3) (psN xs 4) (psP xs) (psE xs)) := by
  by_cases h : whE xs 84 = 0
  · exact tagParse_is v xs _ w hb hB hm hF h rfl
  · have e : psE xs = whE xs 84 := by unfold psE; rw [if_neg h]
    have := tagParse_not v xs w hb hB hm h
    simp only [psN, psP, e, if_neg h]
    exact this

end Go.Proofs.YtnfhibigidkhkaaDoor
