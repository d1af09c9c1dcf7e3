/-
  A statement that draws its order, where two operations that act may come in either order (a call, and a new block): walked as a tree.
-/
import Derived.Test.YtlljkcpopfencaaLine
namespace Go.Proofs.Ytlljkcpopfencaa
set_option linter.unusedVariables false
set_option linter.unusedSimpArgs false
set_option maxRecDepth 100000
open Go.RowKit

inductive Tree where
  | done : Tree
  | read : Nat → Tree → Tree
  | one : Nat → Tree → Tree
  | two : Nat → Nat → Tree → Tree → Tree

def Tree.len : Tree → Nat
  | .done => 0
  | .read _ t => t.len + 1
  | .one _ t => t.len + 1
  | .two _ _ t _ => t.len + 1

def treeOk (md : Region.Mode) (ops : Array Oper) : Array Bool → Tree → Bool
  | listed, .done => Region.ready md ops listed == []
  | listed, .read i t => Region.free md ops listed i && (Region.ready md ops listed).contains i && treeOk md ops (listed.setIfInBounds i true) t
  | listed, .one i t => Region.ready md ops listed == [i] && treeOk md ops (listed.setIfInBounds i true) t
  | listed, .two i j t u => Region.ready md ops listed == [i, j] && (t.len == u.len) && treeOk md ops (listed.setIfInBounds i true) t && treeOk md ops (listed.setIfInBounds j true) u

/-- The region, in these orders. -/
def wpTree (P : Program) (ops : Array Oper) (Q : Exit → Act → World → Prop) : (World → Prop) → Tree → Act → World → Prop
  | _, .done, a, w => Q .normal a w
  | S, .read i t, a, w => ∃ o v, ops[i]? = some o ∧ YieldsIf P ops S o v a ∧ wpTree P ops Q S t (a.put o.dst v) w
  | S, .one i t, a, w => wpOp P ops Q i (fun a' w' => ∃ S' : World → Prop, S' w' ∧ (∀ x, S' x → S x) ∧ wpTree P ops Q S' t a' w') a w
  | S, .two i j t u, a, w => wpOp P ops Q i (fun a' w' => ∃ S' : World → Prop, S' w' ∧ (∀ x, S' x → S x) ∧ wpTree P ops Q S' t a' w') a w ∧
      wpOp P ops Q j (fun a' w' => ∃ S' : World → Prop, S' w' ∧ (∀ x, S' x → S x) ∧ wpTree P ops Q S' u a' w') a w

theorem wpTree_any {P : Program} {ops : Array Oper} {Q : Exit → Act → World → Prop} {md : Region.Mode} (hsel : Region.noSelect ops = true)
    (hQ : ∀ c a w d v, Q (.panic c) (a.put d v) w → Q (.panic c) a w) :
    ∀ (t : Tree) (S : World → Prop) (listed : Array Bool) (a : Act) (w : World), treeOk md ops listed t = true → S w → wpTree P ops Q S t a w → wpAnyH P md ops Q S t.len listed a w
  | .done, S, listed, a, w, hl, _, h => ⟨by simpa [treeOk] using hl, h⟩
  | .read i t, S, listed, a, w, hl, hS, h => by
    obtain ⟨o, v, ho, hy, h⟩ := h
    simp only [treeOk, Bool.and_eq_true] at hl
    exact wpAnyH_take ho hsel hl.1.1 hl.1.2 (fun c a w => hQ c a w _ _) hy hS (wpTree_any hsel hQ t S _ _ w hl.2 hS h)
  | .one i t, S, listed, a, w, hl, hS, h => by
    simp only [treeOk, Bool.and_eq_true, beq_iff_eq] at hl
    refine wpAnyH_all hl.1 (by simp) ?_
    intro j hj
    simp at hj
    subst hj
    exact wpOp_mono (fun a' w' ⟨S', hS', hsub, h'⟩ => ⟨hsub _ hS', wpAnyH_weaken hsub _ _ _ _ (wpTree_any hsel hQ t S' _ _ w' hl.2 hS' h')⟩) h
  | .two i j t u, S, listed, a, w, hl, hS, h => by
    simp only [treeOk, Bool.and_eq_true, beq_iff_eq] at hl
    obtain ⟨⟨⟨h1, h2⟩, h3⟩, h4⟩ := hl
    refine wpAnyH_all h1 (by simp) ?_
    intro k hk
    simp at hk
    rcases hk with rfl | rfl
    · exact wpOp_mono (fun a' w' ⟨S', hS', hsub, h'⟩ => ⟨hsub _ hS', wpAnyH_weaken hsub _ _ _ _ (wpTree_any hsel hQ t S' _ _ w' h3 hS' h')⟩) h.1
    · exact wpOp_mono (fun a' w' ⟨S', hS', hsub, h'⟩ => ⟨hsub _ hS', wpAnyH_weaken hsub _ _ _ _ (by rw [h2]; exact wpTree_any hsel hQ u S' _ _ w' h4 hS' h')⟩) h.2

/-- The beginning. -/
theorem region_tree {P : Program} {ops : Array Oper} {Q : Exit → Act → World → Prop} {id : Nat} {a : Act} {w : World} (t : Tree) (S : World → Prop) (hm : P.follows .mixedOrders = true)
    (hc : (Region.noSelect ops && (t.len == ops.size) && treeOk .any ops (Array.replicate ops.size false) t) = true)
    (hQ : ∀ c a w d v, Q (.panic c) (a.put d v) w → Q (.panic c) a w) (hS : S w.drew)
    (h : wpTree P ops Q S t a w.drew) : (Code.region id ops true).wp P Q a w := by
  simp only [Bool.and_eq_true, beq_iff_eq] at hc
  refine wp_region_any hm (wpAny_of_held (S := S) _ _ _ _ ?_)
  rw [← hc.1.2]
  have := wpTree_any hc.1.1 hQ t S _ a w.drew hc.2 hS h
  rw [← hc.1.2] at this
  exact this

theorem tree_read {P : Program} {ops : Array Oper} {Q : Exit → Act → World → Prop} {S : World → Prop} {i : Nat} {t : Tree} {o : Oper} {a a' : Act} {w : World} (ho : ops[i]? = some o)
    (hk : (!Region.wanted o (yielded ops a.tmps) || readerOp o.op || nilGood a o.op) = true) (hd : (o.dst.any fun d => decide (d < a.tmps.size)) = true) (hS : S w)
    (h : ∀ x, S x → ∀ K : Act → World → Prop, K a' x → wpList P ops (OnlyK K) [o] a x) (hr : wpTree P ops Q S t a' w) : wpTree P ops Q S (.read i t) a w := by
  obtain ⟨v, hy, hp⟩ := reads_one hk hd hS h
  exact ⟨o, v, ho, hy, by rw [hp]; exact hr⟩

theorem tree_one {P : Program} {ops : Array Oper} {Q : Exit → Act → World → Prop} {S : World → Prop} {i : Nat} {t : Tree} {o : Oper} {a : Act} {w : World} (ho : ops[i]? = some o)
    (h : ∀ K : Act → World → Prop, (∀ a' w' (S' : World → Prop), S' w' → (∀ x, S' x → S x) → wpTree P ops Q S' t a' w' → K a' w') → wpList P ops (ElseQ K Q) [o] a w) : wpTree P ops Q S (.one i t) a w := by
  have h1 := h _ (fun a' w' S' h1 h2 h3 => (⟨S', h1, h2, h3⟩ : ∃ S' : World → Prop, S' w' ∧ (∀ x, S' x → S x) ∧ wpTree P ops Q S' t a' w'))
  show wpOp P ops Q i _ a w
  unfold wpOp
  simp only [ho]
  simp only [wpList] at h1
  split
  · rename_i hw
    rw [if_pos hw] at h1
    rcases h1 with h1 | ⟨h1, b, x, h2⟩
    · refine .inl ?_
      unfold Oper.wp at h1 ⊢
      generalize (execOp a.eval o).run P w = res at h1
      cases res with
      | ok n w1 =>
        cases n <;> first | exact h1 | exact Calls.mono h1 (fun e w2 he => by cases e <;> exact he) | exact Rows.mono h1 (fun _ _ he => he)
      | halt hh w1 => cases hh <;> exact h1
    · exact .inr ⟨h1, b, x, h2⟩
  · rename_i hw
    rw [if_neg hw] at h1
    exact h1

theorem tree_two {P : Program} {ops : Array Oper} {Q : Exit → Act → World → Prop} {S : World → Prop} {i j : Nat} {t u : Tree} {a : Act} {w : World}
    (h1 : wpTree P ops Q S (.one i t) a w) (h2 : wpTree P ops Q S (.one j u) a w) : wpTree P ops Q S (.two i j t u) a w := ⟨h1, h2⟩

theorem tree_end {P : Program} {ops : Array Oper} {Q : Exit → Act → World → Prop} {S : World → Prop} {a : Act} {w : World} (h : Q .normal a w) : wpTree P ops Q S .done a w := h

end Go.Proofs.Ytlljkcpopfencaa
