/-
  Texts put together: EC Tree ED EE EF EG EH EI EJ EK EL EM EN EO.
-/
import Derived.Test.YteionppcjgggiaaGreatM02
import Derived.Maps.AppendAt
import Derived.Deep.AppendLies
import Derived.Test.YteionppcjgggiaaGreatM01
/-
  Package ledger: Twin; the document's Twin.
-/
namespace Go.Proofs.YteionppcjgggiaaGreat
set_option linter.unusedVariables false
set_option linter.unusedSimpArgs false
set_option maxRecDepth 100000
open Go.RowKit

attribute [local go_sem] Tryz.eqNilInts

/-- The cells of a ledger that is nothing yet, as the walk writes them. -/
@[reducible] def zeroC : Array Value :=
  #[.int .i64 0, .int .i64 0, .bool false, .int .i64 0, .int .i64 0, .int .i64 0, .slice none 0 0, .bool false, .int .i64 0, .int .i64 0, .int .i64 0, .slice none 0 0,
    .bool false, .int .i64 0, .int .i64 0, .int .i64 0, .slice none 0 0, .bool false, .int .i64 0, .int .i64 0, .int .i64 0, .slice none 0 0]
theorem zeroC_is : zeroC = ledC noLed (fun _ => nilS) := rfl

/-- A slice of ints of the call's own. -/
abbrev OwnI (B : Nat) (w : World) (v : Value) (xs : List Int) : Prop := w.ownsRow B 3 1 v xs.length (xs.map (Value.int .i64))

theorem ints_one (w : World) (x : Int) (T : TypeId) : Ints (w.alloc (.cells #[.int .i64 x] T)) (.slice (some ⟨w.heap.size, 0, none⟩) 1 1) [x] :=
  .inr (.inl ⟨w.heap.size, 0, 1, rfl, by simp, fun i hi => by
    obtain rfl : i = 0 := by simp at hi; exact hi
    simp⟩)

/-- append of a slice that reads as ints to a row of the call's own. -/
theorem append_ints {w : World} {ops : Array Oper} {rest : List Oper} {o : Oper} {a : Act} {Q : Exit → Act → World → Prop} (hgd : o.guard = none) (s x : Operand)
    (ho : o.op = .call { callee := .builtin .append, args := #[s, x], argTypes := #[31, 31] }) (base : Nat)
    (v : Value) (xs : List Int) (hs : a.eval s = v) (hown : OwnI base w v xs) (src : Value) (ys : List Int) (hx : a.eval x = src) (hb : Ints w src ys)
    (h63 : xs.length + ys.length ≤ 16777216) (hbase : base ≤ w.heap.size)
    (h : ∀ v' w', OwnI base w' v' (xs ++ ys) → w.grownBy w' v.ownBlock → (v'.ownBlock = v.ownBlock ∨ v'.ownBlock = some w.heap.size) → wpList Tryz.prog ops Q rest (a.put o.dst v') w') : wpList Tryz.prog ops Q (o :: rest) a w := by
  obtain ⟨i0, hi, hz0, hz1, hz2⟩ := info_parts Tryz.infoInt
  rcases hb.two with ⟨rfl, rfl⟩ | ⟨sa, cap, rfl, _, hc⟩
  · refine wpList_append_own_none hgd s x 31 ho base 3 i0 1 Tryz.underlying31 hi v _ _ hs hown hx ?_
    exact h v w (by simpa using hown) ⟨rfl, rfl, rfl, Nat.le_refl _, fun _ _ _ => rfl⟩ (.inl rfl)
  · refine wpList_append_own_at w hgd s x 31 ho base 3 i0 (.int .i64 0) 1 8 Tryz.underlying31 hi hz0 hz1 hz2 rfl (by decide) v _ _ hs hown sa ys.length cap (ys.map (Value.int .i64)) hx (by simp) ?_ (ints_oneCell _ _) (by unfold maxLen; omega) (by omega) hbase ?_
    · intro j u hj
      rw [List.getElem?_map] at hj
      by_cases h : j < ys.length
      · rw [List.getElem?_eq_getElem h] at hj
        rw [hc j h, ← hj]
        simp [List.getElem?_eq_getElem h, List.getD_eq_getElem?_getD]
      · rw [List.getElem?_eq_none (by omega)] at hj
        cases hj
    · intro v' w' h1 h2 _ h4
      refine h v' w' ?_ h2 h4
      unfold OwnI
      rw [List.length_append, List.map_append]
      exact h1

/-- A copy of its own. -/
def ClonedO (w : World) (xs : List Int) (e : Ending) (w' : World) : Prop := ∃ v', e = .returned v' ∧ OwnI w.heap.size w' v' xs ∧ w.grownBy w' none

theorem cloneO_any (v : Value) (xs : List Int) (w : World) (hb : Ints w v xs) (hm : xs.length ≤ 1048576) :
    Calls Tryz.prog 38 #[v] w (ClonedO w xs) := by
  obtain ⟨i0, hi, hz0, hz1, hz2⟩ := info_parts Tryz.infoInt
  rcases hb.two with ⟨rfl, rfl⟩ | ⟨sa, cap, rfl, _, hc⟩
  · go_enter Tryz.func38, Tryz.ntmps38
    go_wp2
    go_ret
    exact ⟨_, rfl, ⟨rfl, .inl ⟨rfl, rfl⟩⟩, ⟨rfl, rfl, rfl, Nat.le_refl _, fun _ _ _ => rfl⟩⟩
  · have hown := World.ownsRow_made (base := w.heap.size) (e := 3) (size := 1) w #[] 0 (Nat.le_refl _) (Nat.zero_le _) rfl
    have HC := Lib.hid hc
    clear hc
    go_enter Tryz.func38, Tryz.ntmps38
    go_wp2_with (at_builtin; go_loud (refine wpList_append_own _ rfl _ _ 31 rfl w.heap.size 3 i0 (.int .i64 0) 1 8 Tryz.underlying31 hi hz0 hz1 hz2 rfl (by decide) _ _ _ rfl hown sa xs.length cap (xs.map (Value.int .i64)) rfl (by simp) ?c1 ?c2 ?c3 ?c4 ?c5 ?_))
    case c1 =>
      intro j u hj
      rw [List.getElem?_map] at hj
      by_cases h : j < xs.length
      · rw [List.getElem?_eq_getElem h] at hj
        have h2 := HC.out j h
        rw [World.cell?_alloc_old _ _ _ (Nat.ne_of_lt (World.block_lt_of_cell? w _ h2)), h2, ← hj]
        simp [List.getElem?_eq_getElem h, List.getD_eq_getElem?_getD]
      · rw [List.getElem?_eq_none (by omega)] at hj
        cases hj
    case c2 => exact ints_oneCell _ _
    case c3 => unfold maxLen; omega
    case c4 => omega
    case c5 => simp
    intro v' w1 hown' hgrow _
    have hown2 : w1.ownsRow w.heap.size 3 1 v' xs.length (xs.map (Value.int .i64)) := by simpa using hown'
    go_wp2
    go_ret
    exact ⟨v', rfl, hown2, grown_trans (World.grownBy_alloc w _ none) hgrow (fun k hk h => by simp [Value.ownBlock] at hk; omega)⟩

theorem own_lt {B : Nat} {w : World} {v : Value} {xs : List Int} (h : OwnI B w v xs) : ∀ p, v.ownBlock = some p → B ≤ p ∧ p < w.heap.size := h.lt
/-- What was done to a row of the call's own. -/
theorem ext_own {w w1 w2 : World} {B : Nat} {v : Value} {xs : List Int} (h1 : w.grownBy w1 none) (ho : OwnI B w1 v xs) (hB : w.heap.size ≤ B) (h2 : w1.grownBy w2 v.ownBlock) : w.grownBy w2 none :=
  grown_trans h1 h2 (fun p hp hlt => by have := own_lt ho p hp; omega)

/-- The first k tenants' slices are the call's own, each in a block of its own. -/
structure Owned (B : Nat) (w : World) (L : Led) (V : Nat → Value) (k : Nat) : Prop where
  own : ∀ j, j < k → OwnI B w (V j) (L.t j).bs
  apart : ∀ i j, i < k → j < k → i ≠ j → ∀ p, (V i).ownBlock = some p → (V j).ownBlock ≠ some p
theorem own_kept {B : Nat} {w w' : World} {v : Value} {xs : List Int} {r : Option Nat} (h : OwnI B w v xs) (hg : w.grownBy w' r) (hne : ∀ p, v.ownBlock = some p → some p ≠ r) : OwnI B w' v xs := by
  obtain ⟨h1, h2⟩ := h
  refine ⟨h1, ?_⟩
  rcases h2 with h2 | ⟨g, cap, cur, rfl, hB, hh, hc, hr⟩
  · exact .inl h2
  · have hlt : g < w.heap.size := (Array.getElem?_eq_some_iff.1 hh).1
    exact .inr ⟨g, cap, cur, rfl, hB, (hg.block g hlt (hne g rfl)).trans hh, hc, hr⟩
theorem Owned.is {B : Nat} {w : World} {L : Led} {V : Nat → Value} (h : Owned B w L V 4) : LedIs w L V := fun j hj => owns_ints rfl (h.own j hj)
theorem Owned.kept {B k : Nat} {w w' : World} {L : Led} {V : Nat → Value} {r : Option Nat} (h : Owned B w L V k) (hg : w.grownBy w' r) (hne : ∀ j, j < k → ∀ p, (V j).ownBlock = some p → some p ≠ r) : Owned B w' L V k :=
  ⟨fun j hj => own_kept (h.own j hj) hg (hne j hj), h.apart⟩
theorem Owned.le {B B' k : Nat} {w : World} {L : Led} {V : Nat → Value} (h : Owned B w L V k) (hB : B' ≤ B) : Owned B' w L V k :=
  ⟨fun j hj => ownsRow_le (h.own j hj) hB, h.apart⟩

/-- One tenant's slice more. -/
theorem Owned.next {B k : Nat} {w w1 : World} {L : Led} {V : Nat → Value} {v : Value} (h : Owned B w L V k) (hB : B ≤ w.heap.size) (hg : w.grownBy w1 none) (ho : OwnI w.heap.size w1 v (L.t k).bs) {g : Nat} (hgB : g < B) (o : Nat) (u : Value) :
    Owned B (w1.setCell ⟨g, o, none⟩ u) L (updV V k v) (k + 1) := by
  have hs : w1.grownBy (w1.setCell ⟨g, o, none⟩ u) (some g) := gb_set (gb_refl w1 (some g)) o u
  refine ⟨fun j hj => ?_, fun i j hi hj hij p hp hq => ?_⟩
  · unfold updV
    by_cases e : j = k
    · subst e
      rw [if_pos rfl]
      exact own_kept (ownsRow_le ho hB) hs (fun p hp e => by have := own_lt ho p hp; injection e with e; omega)
    · rw [if_neg e]
      have h1 := own_kept (h.own j (by omega)) hg (by simp)
      exact own_kept h1 hs (fun p hp e => by have := own_lt h1 p hp; injection e with e; omega)
  · unfold updV at hp hq
    by_cases ei : i = k
    · subst ei
      rw [if_pos rfl] at hp
      rw [if_neg (Ne.symm hij)] at hq
      have := own_lt ho p hp
      have := own_lt (h.own j (by omega)) p hq
      omega
    · rw [if_neg ei] at hp
      by_cases ej : j = k
      · subst ej
        rw [if_pos rfl] at hq
        have := own_lt ho p hq
        have := own_lt (h.own i (by omega)) p hp
        omega
      · rw [if_neg ej] at hq
        exact h.apart i j (by omega) (by omega) hij p hp hq

/-- A ledger in new memory. -/
def TwinP (w : World) (L : Led) (e : Ending) (w' : World) : Prop := ∃ V', e = .returned (.agg (ledC L V')) ∧ Owned w.heap.size w' L V' 4 ∧ Ext w w'

/-- A twin that is being made: the first k tenants are done. -/
structure Twining (w : World) (g : Nat) (L : Led) (V V' : Nat → Value) (k : Nat) (wr : World) : Prop where
  blk : Blk wr g 36 (ledC L V')
  rest : ∀ j, k ≤ j → V' j = V j
  own : Owned (g + 2) wr L V' k
  ext : Ext w wr
  out : ∃ C, Blk wr (g + 1) 36 C ∧ C.size = 22
  at_ : g = w.heap.size

theorem Twining.next {w wr w1 : World} {g k : Nat} {L : Led} {V V' : Nat → Value} {v : Value} (h : Twining w g L V V' k wr) (hk : k < 4) (hg : wr.grownBy w1 none) (ho : OwnI wr.heap.size w1 v (L.t k).bs) :
    Twining w g L V (updV V' k v) (k + 1) (w1.setCell ⟨g, 2 + k * 5 + 4, none⟩ v) := by
  obtain ⟨C, hC, hCs⟩ := h.out
  have hlt := h.blk.lt
  have hlt2 := hC.lt
  have hsz := hg.size
  have hs : w1.grownBy (w1.setCell ⟨g, 2 + k * 5 + 4, none⟩ v) (some g) := gb_set (gb_refl w1 (some g)) _ v
  refine ⟨?_, fun j hj => ?_, ?_, ?_, ⟨C, ?_, hCs⟩, h.at_⟩
  · have := (h.blk.ext hg).set (2 + k * 5 + 4) v
    rw [led_setV L V' hk] at this
    exact this
  · unfold updV
    rw [if_neg (by omega)]
    exact h.rest j (by omega)
  · exact h.own.next (by omega) hg ho (by omega) _ _
  · exact grown_trans (ext_trans h.ext hg) hs (fun p hp hlt3 => by injection hp with hp; have := h.at_; omega)
  · exact (hC.ext hg).far (by show g + 1 ≠ g; omega) v

theorem results_cell_row2 {P : Program} {fn : Func} {p t : Tmp} {ty : TypeId} {tmps : Array Value} {w : World} {g : Nat} {bt : TypeId} {cs : Array Value} {v : Value} {d : TypeDesc} (h : fn.results = #[.cell p ty, .tmp t])
    (hp : tmps.getD p undef = .pointer (some ⟨g, 0, none⟩)) (hv : tmps.getD t undef = v) (hg : w.heap[g]? = some (.cells cs bt (0, 0)))
    (hu : P.underlying ty = some d) (hd : (match d with | .struct _ | .array _ _ => true | _ => false) = true) (hi : (P.info? ty).map (·.size) = some cs.size) :
    (results fn tmps).run P w = .ok (.tuple #[.agg cs, v]) w := by
  have hp' : tmps[p]?.getD undef = .pointer (some ⟨g, 0, none⟩) := by simpa using hp
  have hv' : tmps[t]?.getD undef = v := by simpa using hv
  simp [results, h, hp', hv', asAddr, run_loadVar_row w g bt ty cs (0, 0) d hg hu hd hi]

end Go.Proofs.YteionppcjgggiaaGreat

/-
  A statement that draws its order, where two operations that act may come in either order (a call, and a new block): walked as a tree.
-/
namespace Go.Proofs.YteionppcjgggiaaGreat
set_option linter.unusedVariables false
set_option linter.unusedSimpArgs false
set_option maxRecDepth 100000
open Go.RowKit

inductive Tree where
  | done : Tree
  | read : Nat → Tree → Tree
  | one : Nat → Tree → Tree
  | two : Nat → Nat → Tree → Tree → Tree

def Tree.len : Tree → Nat
  | .done => 0
  | .read _ t => t.len + 1
  | .one _ t => t.len + 1
  | .two _ _ t _ => t.len + 1

def treeOk (md : Region.Mode) (ops : Array Oper) : Array Bool → Tree → Bool
  | listed, .done => Region.ready md ops listed == []
  | listed, .read i t => Region.free md ops listed i && (Region.ready md ops listed).contains i && treeOk md ops (listed.setIfInBounds i true) t
  | listed, .one i t => Region.ready md ops listed == [i] && treeOk md ops (listed.setIfInBounds i true) t
  | listed, .two i j t u => Region.ready md ops listed == [i, j] && (t.len == u.len) && treeOk md ops (listed.setIfInBounds i true) t && treeOk md ops (listed.setIfInBounds j true) u

/-- The region, in these orders. -/
def wpTree (P : Program) (ops : Array Oper) (Q : Exit → Act → World → Prop) : (World → Prop) → Tree → Act → World → Prop
  | _, .done, a, w => Q .normal a w
  | S, .read i t, a, w => ∃ o v, ops[i]? = some o ∧ YieldsIf P ops S o v a ∧ wpTree P ops Q S t (a.put o.dst v) w
  | S, .one i t, a, w => wpOp P ops Q i (fun a' w' => ∃ S' : World → Prop, S' w' ∧ (∀ x, S' x → S x) ∧ wpTree P ops Q S' t a' w') a w
  | S, .two i j t u, a, w => wpOp P ops Q i (fun a' w' => ∃ S' : World → Prop, S' w' ∧ (∀ x, S' x → S x) ∧ wpTree P ops Q S' t a' w') a w ∧
      wpOp P ops Q j (fun a' w' => ∃ S' : World → Prop, S' w' ∧ (∀ x, S' x → S x) ∧ wpTree P ops Q S' u a' w') a w

theorem wpTree_any {P : Program} {ops : Array Oper} {Q : Exit → Act → World → Prop} {md : Region.Mode} (hsel : Region.noSelect ops = true)
    (hQ : ∀ c a w d v, Q (.panic c) (a.put d v) w → Q (.panic c) a w) :
    ∀ (t : Tree) (S : World → Prop) (listed : Array Bool) (a : Act) (w : World), treeOk md ops listed t = true → S w → wpTree P ops Q S t a w → wpAnyH P md ops Q S t.len listed a w
  | .done, S, listed, a, w, hl, _, h => ⟨by simpa [treeOk] using hl, h⟩
  | .read i t, S, listed, a, w, hl, hS, h => by
    obtain ⟨o, v, ho, hy, h⟩ := h
    simp only [treeOk, Bool.and_eq_true] at hl
    exact wpAnyH_take ho hsel hl.1.1 hl.1.2 (fun c a w => hQ c a w _ _) hy hS (wpTree_any hsel hQ t S _ _ w hl.2 hS h)
  | .one i t, S, listed, a, w, hl, hS, h => by
    simp only [treeOk, Bool.and_eq_true, beq_iff_eq] at hl
    refine wpAnyH_all hl.1 (by simp) ?_
    intro j hj
    simp at hj
    subst hj
    exact wpOp_mono (fun a' w' ⟨S', hS', hsub, h'⟩ => ⟨hsub _ hS', wpAnyH_weaken hsub _ _ _ _ (wpTree_any hsel hQ t S' _ _ w' hl.2 hS' h')⟩) h
  | .two i j t u, S, listed, a, w, hl, hS, h => by
    simp only [treeOk, Bool.and_eq_true, beq_iff_eq] at hl
    obtain ⟨⟨⟨h1, h2⟩, h3⟩, h4⟩ := hl
    refine wpAnyH_all h1 (by simp) ?_
    intro k hk
    simp at hk
    rcases hk with rfl | rfl
    · exact wpOp_mono (fun a' w' ⟨S', hS', hsub, h'⟩ => ⟨hsub _ hS', wpAnyH_weaken hsub _ _ _ _ (wpTree_any hsel hQ t S' _ _ w' h3 hS' h')⟩) h.1
    · exact wpOp_mono (fun a' w' ⟨S', hS', hsub, h'⟩ => ⟨hsub _ hS', wpAnyH_weaken hsub _ _ _ _ (by rw [h2]; exact wpTree_any hsel hQ u S' _ _ w' h4 hS' h')⟩) h.2

/-- The beginning. -/
theorem region_tree {P : Program} {ops : Array Oper} {Q : Exit → Act → World → Prop} {id : Nat} {a : Act} {w : World} (t : Tree) (S : World → Prop) (hm : P.follows .mixedOrders = true)
    (hc : (Region.noSelect ops && (t.len == ops.size) && treeOk .any ops (Array.replicate ops.size false) t) = true)
    (hQ : ∀ c a w d v, Q (.panic c) (a.put d v) w → Q (.panic c) a w) (hS : S w.drew)
    (h : wpTree P ops Q S t a w.drew) : (Code.region id ops true).wp P Q a w := by
  simp only [Bool.and_eq_true, beq_iff_eq] at hc
  refine wp_region_any hm (wpAny_of_held (S := S) _ _ _ _ ?_)
  rw [← hc.1.2]
  have := wpTree_any hc.1.1 hQ t S _ a w.drew hc.2 hS h
  rw [← hc.1.2] at this
  exact this

theorem tree_read {P : Program} {ops : Array Oper} {Q : Exit → Act → World → Prop} {S : World → Prop} {i : Nat} {t : Tree} {o : Oper} {a a' : Act} {w : World} (ho : ops[i]? = some o)
    (hk : (!Region.wanted o (yielded ops a.tmps) || readerOp o.op || nilGood a o.op) = true) (hd : (o.dst.any fun d => decide (d < a.tmps.size)) = true) (hS : S w)
    (h : ∀ x, S x → ∀ K : Act → World → Prop, K a' x → wpList P ops (OnlyK K) [o] a x) (hr : wpTree P ops Q S t a' w) : wpTree P ops Q S (.read i t) a w := by
  obtain ⟨v, hy, hp⟩ := reads_one hk hd hS h
  exact ⟨o, v, ho, hy, by rw [hp]; exact hr⟩

theorem tree_one {P : Program} {ops : Array Oper} {Q : Exit → Act → World → Prop} {S : World → Prop} {i : Nat} {t : Tree} {o : Oper} {a : Act} {w : World} (ho : ops[i]? = some o)
    (h : ∀ K : Act → World → Prop, (∀ a' w' (S' : World → Prop), S' w' → (∀ x, S' x → S x) → wpTree P ops Q S' t a' w' → K a' w') → wpList P ops (ElseQ K Q) [o] a w) : wpTree P ops Q S (.one i t) a w := by
  have h1 := h _ (fun a' w' S' h1 h2 h3 => (⟨S', h1, h2, h3⟩ : ∃ S' : World → Prop, S' w' ∧ (∀ x, S' x → S x) ∧ wpTree P ops Q S' t a' w'))
  show wpOp P ops Q i _ a w
  unfold wpOp
  simp only [ho]
  simp only [wpList] at h1
  split
  · rename_i hw
    rw [if_pos hw] at h1
    rcases h1 with h1 | ⟨h1, b, x, h2⟩
    · refine .inl ?_
      unfold Oper.wp at h1 ⊢
      generalize (execOp a.eval o).run P w = res at h1
      cases res with
      | ok n w1 =>
        cases n <;> first | exact h1 | exact Calls.mono h1 (fun e w2 he => by cases e <;> exact he) | exact Rows.mono h1 (fun _ _ he => he)
      | halt hh w1 => cases hh <;> exact h1
    · exact .inr ⟨h1, b, x, h2⟩
  · rename_i hw
    rw [if_neg hw] at h1
    exact h1

theorem tree_two {P : Program} {ops : Array Oper} {Q : Exit → Act → World → Prop} {S : World → Prop} {i j : Nat} {t u : Tree} {a : Act} {w : World}
    (h1 : wpTree P ops Q S (.one i t) a w) (h2 : wpTree P ops Q S (.one j u) a w) : wpTree P ops Q S (.two i j t u) a w := ⟨h1, h2⟩

theorem tree_end {P : Program} {ops : Array Oper} {Q : Exit → Act → World → Prop} {S : World → Prop} {a : Act} {w : World} (h : Q .normal a w) : wpTree P ops Q S .done a w := h

end Go.Proofs.YteionppcjgggiaaGreat

/-
  Package ledger: what Create, Destroy, Resize and Swap do to a twin.
-/
namespace Go.Proofs.YteionppcjgggiaaGreat
set_option linter.unusedVariables false
set_option linter.unusedSimpArgs false
set_option maxRecDepth 100000
open Go.RowKit

/-- One more, as Go counts. -/
def inc (n : Int) : Int := wrap64 (n + 1)

theorem gb_weak10 {w w' : World} (h : w.grownBy w' none) (r : Option Nat) : w.grownBy w' r := ⟨h.os, h.tape, h.output, h.size, fun k hk _ => h.block k hk (by simp)⟩

/-- A tenant that was put in. -/
def CreatedP (w : World) (b : Nat) (L : Led) (V : Nat → Value) (k : Nat) (s r : Int) (xs : List Int) (e : Ending) (w' : World) : Prop :=
  e = .returned (.tuple #[]) ∧ ∃ v', Blk w' b 36 (ledC (updT { L with eps := inc L.eps } k ⟨true, inc L.eps, s, r, xs⟩) (updV V k v')) ∧ Ints w' v' xs ∧ (∀ p, v'.ownBlock = some p → w.heap.size ≤ p ∧ p < w'.heap.size) ∧ w.grownBy w' (some b)

/-- A twin that lies in block b; its slices are the call's own. -/
structure Ready (B : Nat) (w : World) (b : Nat) (L : Led) (V : Nat → Value) : Prop where
  blk : Blk w b 36 (ledC L V)
  own : Owned B w L V 4
  far : ∀ j, j < 4 → ∀ p, (V j).ownBlock = some p → p ≠ b
  lo : B ≤ b

/-- What was done to it. -/
def DoneP (B b : Nat) (L2 : Led) (w : World) (e : Ending) (w' : World) : Prop :=
  e = .returned (.tuple #[]) ∧ ∃ V2, Blk w' b 36 (ledC L2 V2) ∧ LedIs w' L2 V2 ∧ (∀ j, j < 4 → ∀ p, (V2 j).ownBlock = some p → B ≤ p ∧ p < w'.heap.size) ∧ Below B w w'

theorem below_gb {w w' : World} {b B : Nat} (h : w.grownBy w' (some b)) (hB : B ≤ b) (hw : B ≤ w.heap.size) : Below B w w' :=
  ⟨h.os, h.tape, h.output, h.size, fun k hk => h.block k (by omega) (fun e => by injection e with e; omega)⟩

theorem Ready.lows {B b : Nat} {w : World} {L : Led} {V : Nat → Value} (h : Ready B w b L V) : B ≤ w.heap.size := by have := h.blk.lt; have := h.lo; omega

/-- One tenant was laid anew in block b. -/
theorem Ready.done {B b : Nat} {w w' : World} {L L2 : Led} {V : Nat → Value} {k : Nat} {v : Value} (h : Ready B w b L V) (hb : Blk w' b 36 (ledC L2 (updV V k v))) (hL : ∀ j, j < 4 → j ≠ k → (L2.t j).bs = (L.t j).bs) (hI : Ints w' v (L2.t k).bs)
    (hv : ∀ p, v.ownBlock = some p → B ≤ p ∧ p < w'.heap.size) (hg : w.grownBy w' (some b)) : DoneP B b L2 w (.returned (.tuple #[])) w' := by
  refine ⟨rfl, _, hb, fun j hj => ?_, fun j hj p hp => ?_, below_gb hg h.lo h.lows⟩
  · unfold updV
    by_cases e : j = k
    · subst e; rw [if_pos rfl]; exact hI
    · rw [if_neg e, hL j hj e]
      exact (h.own.is j hj).kept hg (fun p hp e2 => h.far j hj p hp (by injection e2))
  · unfold updV at hp
    by_cases e : j = k
    · rw [if_pos e] at hp; exact hv p hp
    · rw [if_neg e] at hp
      have h1 := own_lt (h.own.own j hj) p hp
      have := hg.size
      omega

def createL (L : Led) (k : Nat) (s r : Int) (xs : List Int) : Led := updT { L with eps := inc L.eps } k ⟨true, inc L.eps, s, r, xs⟩

/-- Rows of the call's own of two tenants are two. -/
theorem Ready.rows {B b : Nat} {w : World} {L : Led} {V : Nat → Value} (h : Ready B w b L V) {k i : Nat} (hk : k < 4) (hi : i < (L.t k).bs.length) : ∃ g c, V k = .slice (some ⟨g, 0, none⟩) (L.t k).bs.length c ∧ B ≤ g ∧ g < w.heap.size ∧ g ≠ b := by
  obtain ⟨g, c, hv, h1, h2⟩ := (h.own.own k hk).form (by omega)
  exact ⟨g, c, hv, h1, h2, h.far k hk g (by rw [hv]; rfl)⟩
theorem led_setBs (L : Led) (V : Nat → Value) {k : Nat} (h : k < 4) (ys : List Int) : ledC (updT L k { L.t k with bs := ys }) V = ledC L V := by
  obtain rfl | rfl | rfl | rfl : k = 0 ∨ k = 1 ∨ k = 2 ∨ k = 3 := by omega
  all_goals rfl
def resizeL (L : Led) (k : Nat) (s : Int) (xs : List Int) : Led := updT L k { L.t k with sz := s, bs := (L.t k).bs ++ xs }
theorem led_resize (L : Led) (V : Nat → Value) {k : Nat} (h : k < 4) (s : Int) (xs : List Int) (v : Value) : ((ledC L V).setIfInBounds (2 + k * 5 + 2) (.int .i64 s)).setIfInBounds (2 + k * 5 + 4) v = ledC (resizeL L k s xs) (updV V k v) := by
  obtain rfl | rfl | rfl | rfl : k = 0 ∨ k = 1 ∨ k = 2 ∨ k = 3 := by omega
  all_goals rfl

end Go.Proofs.YteionppcjgggiaaGreat

/-
  Package ledger: what Swap does to a twin.
-/
namespace Go.Proofs.YteionppcjgggiaaGreat
set_option linter.unusedVariables false
set_option linter.unusedSimpArgs false
set_option maxRecDepth 100000
open Go.RowKit

/-- Two blocks that have changed places. -/
def swapL (L : Led) (a i o j : Nat) : Led :=
  updT (updT L a { L.t a with bs := (L.t a).bs.set i ((L.t o).bs.getD j 0) }) o { L.t o with bs := (L.t o).bs.set j ((L.t a).bs.getD i 0) }
theorem led_swap (L : Led) (V : Nat → Value) {a o : Nat} (ha : a < 4) (ho : o < 4) (hne : a ≠ o) (i j : Nat) : ledC (swapL L a i o j) V = ledC L V := by
  obtain rfl | rfl | rfl | rfl : a = 0 ∨ a = 1 ∨ a = 2 ∨ a = 3 := by omega
  all_goals
    obtain rfl | rfl | rfl | rfl : o = 0 ∨ o = 1 ∨ o = 2 ∨ o = 3 := by omega
    all_goals first | exact absurd rfl hne | rfl

theorem map_set_int (xs : List Int) (i : Nat) (y : Int) : (xs.map (Value.int .i64)).set i (.int .i64 y) = (xs.set i y).map (Value.int .i64) := by
  rw [List.map_set]

/-- What stands behind both stores. -/
theorem swap_end {B b : Nat} {w : World} {L : Led} {V : Nat → Value} {a i o j ga go na ca no co : Nat} {x y : Int} (hR : Ready B w b L V) (ha : a < 4) (ho : o < 4) (hne : a ≠ o) (hi : i < (L.t a).bs.length) (hj : j < (L.t o).bs.length)
    (hVa : V a = .slice (some ⟨ga, 0, none⟩) na ca) (hVo : V o = .slice (some ⟨go, 0, none⟩) no co) (hx : (L.t a).bs.getD i 0 = x) (hy : (L.t o).bs.getD j 0 = y) (hga : B ≤ ga) (hgo : B ≤ go) (hgg : ga ≠ go) :
    DoneP B b (swapL L a i o j) w (.returned (.tuple #[])) ((w.setCell ⟨ga, i, none⟩ (.int .i64 y)).setCell ⟨go, j, none⟩ (.int .i64 x)).drew.drew := by
  have g1 : w.grownBy (w.setCell ⟨ga, i, none⟩ (.int .i64 y)) (some ga) := gb_set (gb_refl w _) _ _
  have g2 : (w.setCell ⟨ga, i, none⟩ (.int .i64 y)).grownBy ((w.setCell ⟨ga, i, none⟩ (.int .i64 y)).setCell ⟨go, j, none⟩ (.int .i64 x)) (some go) := gb_set (gb_refl _ _) _ _
  have g3 : ((w.setCell ⟨ga, i, none⟩ (.int .i64 y)).setCell ⟨go, j, none⟩ (.int .i64 x)).grownBy ((w.setCell ⟨ga, i, none⟩ (.int .i64 y)).setCell ⟨go, j, none⟩ (.int .i64 x)).drew.drew none := gb_drew (gb_drew (gb_refl _ none))
  have ra := hR.own.own a ha
  have ro := hR.own.own o ho
  have pa : (V a).ownBlock = some ga := by rw [hVa]; rfl
  have po : (V o).ownBlock = some go := by rw [hVo]; rfl
  rw [hVa] at ra
  rw [hVo] at ro
  have hna : na = (L.t a).bs.length := by
    rcases ra.2 with ⟨h, _⟩ | ⟨_, _, _, h, _⟩
    · simp at h
    · simp at h; omega
  have hno : no = (L.t o).bs.length := by
    rcases ro.2 with ⟨h, _⟩ | ⟨_, _, _, h, _⟩
    · simp at h
    · simp at h; omega
  subst hna
  subst hno
  have sa := (ra.stored i (.int .i64 y)).1
  have so := ((own_kept ro g1 (fun p hp e => hgg (by simp [Value.ownBlock] at hp; injection e with e; omega))).stored j (.int .i64 x)).1
  have sa2 := World.ownsRow.kept sa g2 (.inr (fun e => hgg (by simp [Value.ownBlock] at e; exact e)))
  rw [map_set_int] at sa2 so
  have b2 := (hR.blk.kept g1 (fun e => hR.far a ha ga pa (by injection e with e; exact e.symm))).kept g2 (fun e => hR.far o ho go po (by injection e with e; exact e.symm))
  refine ⟨rfl, V, ?_, fun k hk => ?_, fun k hk p hp => ?_, ?_⟩
  · rw [led_swap L V ha ho hne]
    exact b2.ext g3
  · by_cases eo : k = o
    · subst eo
      rw [hVo]
      simp only [swapL, updT, if_true]
      have := owns_ints (n := (L.t k).bs.length) (xs := (L.t k).bs.set j x) (by simp) so
      rw [hx]
      exact this.kept g3 (by simp)
    · by_cases ea : k = a
      · subst ea
        rw [hVa]
        simp only [swapL, updT, if_true, if_neg eo]
        have := owns_ints (n := (L.t k).bs.length) (xs := (L.t k).bs.set i y) (by simp) sa2
        rw [hy]
        exact this.kept g3 (by simp)
      · simp only [swapL, updT, if_neg eo, if_neg ea]
        have h1 := (hR.own.is k hk).kept g1 (fun p hp e => hR.own.apart k a hk ha ea p hp (by rw [pa]; exact e.symm))
        have h2 := h1.kept g2 (fun p hp e => hR.own.apart k o hk ho eo p hp (by rw [po]; exact e.symm))
        exact h2.kept g3 (by simp)
  · have h1 := own_lt (hR.own.own k hk) p hp
    have h2 : ((w.setCell ⟨ga, i, none⟩ (.int .i64 y)).setCell ⟨go, j, none⟩ (.int .i64 x)).drew.drew.heap.size = w.heap.size := by
      show ((w.setCell ⟨ga, i, none⟩ (.int .i64 y)).setCell ⟨go, j, none⟩ (.int .i64 x)).heap.size = w.heap.size
      simp [World.setCell]
    omega
  · have q1 := below_gb g1 hga hR.lows
    have q2 := below_gb g2 hgo (by have := g1.size; have := hR.lows; omega)
    exact (q1.trans q2).drew.drew

end Go.Proofs.YteionppcjgggiaaGreat

/-
  Package ledger: changed; Create, Destroy, Resize, Swap.
-/
namespace Go.Proofs.YteionppcjgggiaaGreat
set_option linter.unusedVariables false
set_option linter.unusedSimpArgs false
set_option maxRecDepth 100000
open Go.RowKit

/-- What a change comes to: a ledger in new memory, and an error. -/
def ChangeP (w : World) (R : Led × Int) (e : Ending) (w' : World) : Prop :=
  ∃ V', e = .returned (.tuple #[.agg (ledC R.1 V'), .int .i64 R.2]) ∧ LedIs w' R.1 V' ∧ (∀ j, j < 4 → ∀ p, (V' j).ownBlock = some p → w.heap.size ≤ p ∧ p < w'.heap.size) ∧ Ext w w'

theorem noLed_blocks (B C : Nat) : ∀ j, j < 4 → ∀ p, ((fun _ => nilS : Nat → Value) j).ownBlock = some p → B ≤ p ∧ p < C := fun j _ p hp => by simp [Value.ownBlock] at hp

/-- One more change. -/
def bump (L : Led) : Led := { L with gen := inc L.gen }
def changedS (L L2 : Led) : Led × Int := if L.gen = 2147483647 then (noLed, 4) else (L2, 0)

/-- A twin that stands, counted. -/
theorem ready_of {w w2 w3 : World} {L : Led} {V : Nat → Value} (hO : Owned (w.heap.size + 2) w2 L V 4) (hg : w2.grownBy w3 none) (hlo : w.heap.size + 2 ≤ w2.heap.size) (hb : Blk w3 w2.heap.size 36 (ledC (bump L) V)) :
    Ready (w.heap.size + 2) w3 w2.heap.size (bump L) V := by
  have h1 : Owned (w.heap.size + 2) w3 L V 4 := hO.kept hg (by simp)
  exact ⟨hb, ⟨h1.own, h1.apart⟩, fun j hj p hp => by have := own_lt (hO.own j hj) p hp; omega, hlo⟩

theorem below_ext {w w' : World} (h : Ext w w') : Below w.heap.size w w' := ⟨h.os, h.tape, h.output, h.size, fun k hk => h.block k hk (by simp)⟩
theorem ext_below {w w' : World} (h : Below w.heap.size w w') : Ext w w' := ⟨h.os, h.tape, h.output, h.size, fun k hk _ => h.block k hk⟩
theorem Blk.below {w w' : World} {g B : Nat} {t : TypeId} {cs : Array Value} (h : Blk w g t cs) (hb : Below B w w') (hg : g < B) : Blk w' g t cs := (hb.block g hg).trans h

/-- Behind the twin's laying and the count. -/
theorem change_mid {w w1 w2 w3 : World} {L : Led} {V1 : Nat → Value} {C : Array Value} (hE : w.grownBy w1 none) (hz : w1.heap.size = w.heap.size + 2) (hb : Blk w1 (w.heap.size + 1) 36 C) (hO : Owned w1.heap.size w2 L V1 4) (hE2 : Ext w1 w2)
    (hb3 : Blk w3 w2.heap.size 36 (ledC L V1)) (hg3 : (w2.alloc (.cells zeroC 36)).grownBy w3 (some w2.heap.size)) :
    Ext w (w3.setCell ⟨w2.heap.size, 0, none⟩ (.int .i64 (wrap64 (L.gen + 1)))) ∧ Ready (w.heap.size + 2) (w3.setCell ⟨w2.heap.size, 0, none⟩ (.int .i64 (wrap64 (L.gen + 1)))) w2.heap.size (bump L) V1 ∧
      Blk (w3.setCell ⟨w2.heap.size, 0, none⟩ (.int .i64 (wrap64 (L.gen + 1)))) (w.heap.size + 1) 36 C := by
  have hs2 := hE2.size
  have g4 : w3.grownBy (w3.setCell ⟨w2.heap.size, 0, none⟩ (.int .i64 (wrap64 (L.gen + 1)))) (some w2.heap.size) := gb_set (gb_refl w3 _) _ _
  have e2 : w2.grownBy (w3.setCell ⟨w2.heap.size, 0, none⟩ (.int .i64 (wrap64 (L.gen + 1)))) none :=
    grown_trans (grown_trans (World.grownBy_alloc w2 (.cells zeroC 36) none) hg3 (fun k hk h => by injection hk with hk; omega)) g4 (fun k hk h => by injection hk with hk; omega)
  have b4 := hb3.set 0 (.int .i64 (wrap64 (L.gen + 1)))
  rw [led_setGen] at b4
  rw [hz] at hO
  exact ⟨ext_trans (ext_trans hE hE2) e2, ready_of hO e2 (by omega) b4, (hb.ext hE2).ext e2⟩

/- forms begin -/
/- forms end -/

end Go.Proofs.YteionppcjgggiaaGreat

/-
  Package ledger: Create, Destroy, Resize, Swap.
-/
namespace Go.Proofs.YteionppcjgggiaaGreat
set_option linter.unusedVariables false
set_option linter.unusedSimpArgs false
set_option maxRecDepth 100000
open Go.RowKit

def createS (L : Led) (t s r : Int) (xs : List Int) : Led × Int :=
  if inB t 0 3 = true then
    if (L.t t.toNat).th = true then (noLed, 7)
    else if roomE s r = 0 then (if L.eps = 2147483647 then (noLed, 4) else changedS L (createL (bump L) t.toNat s r xs))
    else (noLed, roomE s r)
  else (noLed, 5)
def destroyS (L : Led) (t : Int) : Led × Int := if missT L t = 0 then changedS L (updT (bump L) t.toNat noTen) else (noLed, missT L t)
def resizeS (L : Led) (t s : Int) (xs : List Int) : Led × Int :=
  if missT L t = 0 then (if roomE s 0 = 0 then changedS L (resizeL (bump L) t.toNat s xs) else (noLed, roomE s 0)) else (noLed, missT L t)
def swapS (L : Led) (a i b j : Int) : Led × Int :=
  if missT L a = 0 then
    if missT L b = 0 then
      if a = b then (noLed, 1)
      else if inB i 0 ((L.t a.toNat).bs.length - 1) = true ∧ inB j 0 ((L.t b.toNat).bs.length - 1) = true then changedS L (swapL (bump L) a.toNat i.toNat b.toNat j.toNat)
      else (noLed, 5)
    else (noLed, missT L b)
  else (noLed, missT L a)

/-- Nothing was changed: an error is told. -/
theorem change_no {w w1 w2 : World} {g : Nat} {n : Int} (hE : Ext w w1) (hg : w1.grownBy w2 (some g)) (hlo : w.heap.size ≤ g) : ChangeP w (noLed, n) (.returned (.tuple #[.agg (ledC noLed fun _ => nilS), .int .i64 n])) w2 :=
  ⟨_, rfl, noLed_is _, noLed_blocks _ _, grown_trans hE hg (fun p hp hlt => by injection hp with hp; omega)⟩
/-- What was changed is handed on. -/
theorem change_yes {w w1 w2 w3 : World} {g : Nat} {R : Led × Int} {V' : Nat → Value} (hE : Ext w w1) (hI : LedIs w2 R.1 V') (hl : ∀ j, j < 4 → ∀ p, (V' j).ownBlock = some p → w1.heap.size ≤ p ∧ p < w2.heap.size) (hE2 : Ext w1 w2)
    (hg : w2.grownBy w3 (some g)) (hlo : w.heap.size ≤ g) (hg1 : g < w1.heap.size) : ChangeP w R (.returned (.tuple #[.agg (ledC R.1 V'), .int .i64 R.2])) w3 :=
  ⟨V', rfl, hI.kept hg (fun j hj p hp e => by have := hl j hj p hp; injection e with e; omega), fun j hj p hp => by have := hl j hj p hp; have := hE.size; have := hg.size; omega,
    grown_trans (ext_trans hE hE2) hg (fun p hp hlt => by injection hp with hp; omega)⟩

/-- What lies in memory when Create begins. -/
structure Laid6 (w w1 : World) (L : Led) (V : Nat → Value) (v1 v2 v3 v4 : Value) : Prop where
  led : Blk w1 w.heap.size 36 (ledC L V)
  c1 : w1.cell? ⟨w.heap.size + 1, 0, none⟩ = some v1
  c2 : w1.cell? ⟨w.heap.size + 2, 0, none⟩ = some v2
  c3 : w1.cell? ⟨w.heap.size + 3, 0, none⟩ = some v3
  c4 : w1.cell? ⟨w.heap.size + 4, 0, none⟩ = some v4
  out : Blk w1 (w.heap.size + 5) 36 zeroC
  size : w1.heap.size = w.heap.size + 6
  ext : Ext w w1
theorem laid6 (w : World) (L : Led) (V : Nat → Value) (v1 v2 v3 v4 : Value) (t1 t2 t3 t4 : TypeId) :
    Laid6 w ((((((w.alloc (.cells (ledC L V) 36)).alloc (.cells #[v1] t1)).alloc (.cells #[v2] t2)).alloc (.cells #[v3] t3)).alloc (.cells #[v4] t4)).alloc (.cells zeroC 36)) L V v1 v2 v3 v4 := by
  refine ⟨(((((Blk.new w _ _).alloc _).alloc _).alloc _).alloc _).alloc _, ?_, ?_, ?_, ?_, Blk.newAt _ _ (by simp) _ _, by simp, ?_⟩
  · exact (((((Blk.newAt (w.alloc _) (w.heap.size + 1) (by simp) t1 #[v1]).alloc _).alloc _).alloc _).alloc _).cell 0
  · exact ((((Blk.newAt ((w.alloc _).alloc _) (w.heap.size + 2) (by simp) t2 #[v2]).alloc _).alloc _).alloc _).cell 0
  · exact (((Blk.newAt (((w.alloc _).alloc _).alloc _) (w.heap.size + 3) (by simp) t3 #[v3]).alloc _).alloc _).cell 0
  · exact ((Blk.newAt ((((w.alloc _).alloc _).alloc _).alloc _) (w.heap.size + 4) (by simp) t4 #[v4]).alloc _).cell 0
  · exact grown_alloc (grown_alloc (grown_alloc (grown_alloc (grown_alloc (World.grownBy_alloc w _ none) _) _) _) _) _

end Go.Proofs.YteionppcjgggiaaGreat

/-
  Package ledger: Destroy, Resize.
-/
namespace Go.Proofs.YteionppcjgggiaaGreat
set_option linter.unusedVariables false
set_option linter.unusedSimpArgs false
set_option maxRecDepth 100000
open Go.RowKit

theorem missT_ok {L : Led} {t : Int} (h : missT L t = 0) : ∃ k : Nat, t = k ∧ k < 4 ∧ (L.t k).th = true := by
  unfold missT at h
  by_cases ht : inB t 0 3 = true
  · rw [if_pos ht] at h
    refine ⟨t.toNat, by simp [inB] at ht; omega, by simp [inB] at ht; omega, ?_⟩
    by_cases hth : (L.t t.toNat).th = true
    · exact hth
    · rw [if_neg hth] at h; simp at h
  · rw [if_neg ht] at h; simp at h

structure Laid3 (w w1 : World) (L : Led) (V : Nat → Value) (v1 : Value) : Prop where
  led : Blk w1 w.heap.size 36 (ledC L V)
  c1 : w1.cell? ⟨w.heap.size + 1, 0, none⟩ = some v1
  out : Blk w1 (w.heap.size + 2) 36 zeroC
  size : w1.heap.size = w.heap.size + 3
  ext : Ext w w1
theorem laid3 (w : World) (L : Led) (V : Nat → Value) (v1 : Value) (t1 : TypeId) :
    Laid3 w (((w.alloc (.cells (ledC L V) 36)).alloc (.cells #[v1] t1)).alloc (.cells zeroC 36)) L V v1 := by
  refine ⟨((Blk.new w _ _).alloc _).alloc _, ?_, Blk.newAt _ _ (by simp) _ _, by simp, ?_⟩
  · exact ((Blk.newAt (w.alloc _) (w.heap.size + 1) (by simp) t1 #[v1]).alloc _).cell 0
  · exact grown_alloc (grown_alloc (World.grownBy_alloc w _ none) _) _

structure Laid5 (w w1 : World) (L : Led) (V : Nat → Value) (v1 v2 v3 : Value) : Prop where
  led : Blk w1 w.heap.size 36 (ledC L V)
  c1 : w1.cell? ⟨w.heap.size + 1, 0, none⟩ = some v1
  c2 : w1.cell? ⟨w.heap.size + 2, 0, none⟩ = some v2
  c3 : w1.cell? ⟨w.heap.size + 3, 0, none⟩ = some v3
  out : Blk w1 (w.heap.size + 4) 36 zeroC
  size : w1.heap.size = w.heap.size + 5
  ext : Ext w w1
theorem laid5 (w : World) (L : Led) (V : Nat → Value) (v1 v2 v3 : Value) (t1 t2 t3 : TypeId) :
    Laid5 w (((((w.alloc (.cells (ledC L V) 36)).alloc (.cells #[v1] t1)).alloc (.cells #[v2] t2)).alloc (.cells #[v3] t3)).alloc (.cells zeroC 36)) L V v1 v2 v3 := by
  refine ⟨((((Blk.new w _ _).alloc _).alloc _).alloc _).alloc _, ?_, ?_, ?_, Blk.newAt _ _ (by simp) _ _, by simp, ?_⟩
  · exact ((((Blk.newAt (w.alloc _) (w.heap.size + 1) (by simp) t1 #[v1]).alloc _).alloc _).alloc _).cell 0
  · exact (((Blk.newAt ((w.alloc _).alloc _) (w.heap.size + 2) (by simp) t2 #[v2]).alloc _).alloc _).cell 0
  · exact ((Blk.newAt (((w.alloc _).alloc _).alloc _) (w.heap.size + 3) (by simp) t3 #[v3]).alloc _).cell 0
  · exact grown_alloc (grown_alloc (grown_alloc (grown_alloc (World.grownBy_alloc w _ none) _) _) _) _

end Go.Proofs.YteionppcjgggiaaGreat

/-
  Package ledger: Swap.
-/
namespace Go.Proofs.YteionppcjgggiaaGreat
set_option linter.unusedVariables false
set_option linter.unusedSimpArgs false
set_option maxRecDepth 100000
open Go.RowKit

theorem swapS_a {L : Led} {a i b j n : Int} (h : missT L a = n) (hn : n ≠ 0) : swapS L a i b j = (noLed, n) := by subst h; unfold swapS; rw [if_neg hn]
theorem swapS_b {L : Led} {a i b j n : Int} (ha : missT L a = 0) (h : missT L b = n) (hn : n ≠ 0) : swapS L a i b j = (noLed, n) := by subst h; unfold swapS; rw [if_pos ha, if_neg hn]
theorem swapS_same {L : Led} {a i b j : Int} (ha : missT L a = 0) (hb : missT L b = 0) (h : a = b) : swapS L a i b j = (noLed, 1) := by unfold swapS; rw [if_pos ha, if_pos hb, if_pos h]
theorem swapS_no {L : Led} {a i b j : Int} (ha : missT L a = 0) (hb : missT L b = 0) (h : a ≠ b) (hp : ¬ (inB i 0 ((L.t a.toNat).bs.length - 1) = true ∧ inB j 0 ((L.t b.toNat).bs.length - 1) = true)) : swapS L a i b j = (noLed, 5) := by
  unfold swapS; rw [if_pos ha, if_pos hb, if_neg h, if_neg hp]
theorem swapS_yes {L : Led} {a i b j : Int} (ha : missT L a = 0) (hb : missT L b = 0) (h : a ≠ b) (hp : inB i 0 ((L.t a.toNat).bs.length - 1) = true ∧ inB j 0 ((L.t b.toNat).bs.length - 1) = true) : swapS L a i b j = changedS L (swapL (bump L) a.toNat i.toNat b.toNat j.toNat) := by
  unfold swapS; rw [if_pos ha, if_pos hb, if_neg h, if_pos hp]

end Go.Proofs.YteionppcjgggiaaGreat

/-
  The document's next, Create, Destroy.
-/
namespace Go.Proofs.YteionppcjgggiaaGreat
set_option linter.unusedVariables false
set_option linter.unusedSimpArgs false
set_option maxRecDepth 100000
open Go.RowKit

structure Laid2 (w w1 : World) (L : Led) (V : Nat → Value) : Prop where
  led : Blk w1 w.heap.size 36 (ledC L V)
  out : Blk w1 (w.heap.size + 1) 36 zeroC
  size : w1.heap.size = w.heap.size + 2
  ext : Ext w w1
theorem laid2 (w : World) (L : Led) (V : Nat → Value) : Laid2 w ((w.alloc (.cells (ledC L V) 36)).alloc (.cells zeroC 36)) L V :=
  ⟨(Blk.new w _ _).alloc _, Blk.newAt _ _ (by simp) _ _, by simp, grown_alloc (World.grownBy_alloc w _ none) _⟩

/-- The ledger in new memory, with one change more. -/
def NextP (w : World) (L : Led) (e : Ending) (w' : World) : Prop := ∃ V', e = .returned (.tuple #[.agg (ledC (bump L) V'), .int .i64 0]) ∧ Owned w.heap.size w' (bump L) V' 4 ∧ Ext w w'
def NoneP (w : World) (n : Int) (e : Ending) (w' : World) : Prop := e = .returned (.tuple #[.agg (ledC noLed fun _ => nilS), .int .i64 n]) ∧ Ext w w'

/-- The copy that is worked on, when it has been laid. -/
theorem out_mid {B : Nat} {w w3 w4 : World} {L : Led} {V' : Nat → Value} (hE : Ext w w3) (hO : Owned B w3 L V' 4) (hB : B ≤ w3.heap.size) (hb : Blk w4 w3.heap.size 36 (ledC L V')) (hg : (w3.alloc (.cells zeroC 36)).grownBy w4 (some w3.heap.size)) :
    Ext w w4 ∧ Ext w3 w4 ∧ Ready B w4 w3.heap.size L V' := by
  have e : w3.grownBy w4 none := grown_trans (World.grownBy_alloc w3 (.cells zeroC 36) none) hg (fun k hk h => by injection hk with hk; omega)
  exact ⟨ext_trans hE e, e, hb, hO.kept e (by simp), fun j hj p hp => by have := own_lt (hO.own j hj) p hp; omega, hB⟩

/-- The end: what was worked on is handed back. -/
theorem change_end {B : Nat} {w w4 w5 w6 : World} {L2 : Led} {V2 : Nat → Value} (hE : Ext w w4) (hI5 : LedIs w5 L2 V2) (hl5 : ∀ j, j < 4 → ∀ p, (V2 j).ownBlock = some p → B ≤ p ∧ p < w5.heap.size) (hbel : Below B w4 w5) (hB : w.heap.size + 2 ≤ B)
    (hg6 : w5.grownBy w6 (some (w.heap.size + 1))) : ChangeP w (L2, 0) (.returned (.tuple #[.agg (ledC L2 V2), .int .i64 0])) w6 := by
  refine ⟨V2, rfl, hI5.kept hg6 (fun j hj p hp e => by have := hl5 j hj p hp; injection e with e; omega), fun j hj p hp => by have := hl5 j hj p hp; have := hg6.size; omega, ?_⟩
  have q3 := (below_ext hE).trans (hbel.mono (by omega))
  exact ext_below (q3.grown hg6 (by have := hbel.size; have := hE.size; omega) (fun k hk => by injection hk with hk; omega))

end Go.Proofs.YteionppcjgggiaaGreat

/-
  The document's Create.
-/
namespace Go.Proofs.YteionppcjgggiaaGreat
set_option linter.unusedVariables false
set_option linter.unusedSimpArgs false
set_option maxRecDepth 100000
open Go.RowKit

theorem missT_five {L : Led} {t : Int} (h : inB t 0 3 = false) : missT L t = 5 := by unfold missT; rw [h]; rfl
theorem missT_in {L : Led} {k : Nat} (h : k < 4) : missT L k = if (L.t k).th = true then 0 else 6 := by
  unfold missT
  rw [if_pos (by simp [inB]; omega)]
  simp only [Int.toNat_natCast]

end Go.Proofs.YteionppcjgggiaaGreat

/-
  The document's Destroy and Resize.
-/
namespace Go.Proofs.YteionppcjgggiaaGreat
set_option linter.unusedVariables false
set_option linter.unusedSimpArgs false
set_option maxRecDepth 100000
open Go.RowKit

theorem destroy_mid {B b k : Nat} {w w' : World} {L : Led} {V : Nat → Value} (h : Ready B w b L V) (hb : Blk w' b 36 (ledC (updT L k noTen) (updV V k nilS))) (hg : w.grownBy w' (some b)) :
    Blk w' b 36 (ledC (updT L k noTen) (updV V k nilS)) ∧ LedIs w' (updT L k noTen) (updV V k nilS) ∧ (∀ j, j < 4 → ∀ p, (updV V k nilS j).ownBlock = some p → B ≤ p ∧ p < w'.heap.size) ∧ Below B w w' := by
  refine ⟨hb, fun j hj => ?_, fun j hj p hp => ?_, below_gb hg h.lo h.lows⟩
  · unfold updV updT
    by_cases e : j = k
    · simp only [if_pos e]; exact .inl ⟨rfl, rfl⟩
    · simp only [if_neg e]
      exact (h.own.is j hj).kept hg (fun p hp e2 => h.far j hj p hp (by injection e2))
  · unfold updV at hp
    by_cases e : j = k
    · rw [if_pos e] at hp; simp [Value.ownBlock] at hp
    · rw [if_neg e] at hp
      have h1 := own_lt (h.own.own j hj) p hp
      have := hg.size
      omega

/-- Behind the size. -/
theorem resize_one {B b k : Nat} {w : World} {L : Led} {V : Nat → Value} (h : Ready B w b L V) (hk : k < 4) (s : Int) :
    w.grownBy (w.setCell ⟨b, 2 + k * 5 + 2, none⟩ (.int .i64 s)) (some b) ∧ Blk (w.setCell ⟨b, 2 + k * 5 + 2, none⟩ (.int .i64 s)) b 36 ((ledC L V).setIfInBounds (2 + k * 5 + 2) (.int .i64 s)) ∧
      (w.setCell ⟨b, 2 + k * 5 + 2, none⟩ (.int .i64 s)).cell? ⟨b, 2 + k * 5 + 4, none⟩ = some (V k) ∧ OwnI B (w.setCell ⟨b, 2 + k * 5 + 2, none⟩ (.int .i64 s)) (V k) (L.t k).bs := by
  have hg1 : w.grownBy (w.setCell ⟨b, 2 + k * 5 + 2, none⟩ (.int .i64 s)) (some b) := gb_set (gb_refl w (some b)) _ _
  refine ⟨hg1, h.blk.set _ _, ?_, own_kept (h.own.own k hk) hg1 (fun p hp e => h.far k hk p hp (Option.some.inj e))⟩
  rw [World.cell?_setCell_other _ _ _ _ (fun e => by injection e with _ e; omega)]
  exact (h.blk.cell _).trans (led_bs L V hk)

/-- Behind all of it. -/
theorem resize_mid {B b k : Nat} {w w1 w2 : World} {L : Led} {V : Nat → Value} {s : Int} {xs : List Int} {v : Value} (h : Ready B w b L V) (hk : k < 4) (hg1 : w.grownBy w1 (some b)) (hb1 : Blk w1 b 36 ((ledC L V).setIfInBounds (2 + k * 5 + 2) (.int .i64 s)))
    (o1 : OwnI B w1 (V k) (L.t k).bs) (ho2 : OwnI B w2 v ((L.t k).bs ++ xs)) (hg2 : w1.grownBy w2 (V k).ownBlock) (hl2 : v.ownBlock = (V k).ownBlock ∨ v.ownBlock = some w1.heap.size) :
    Blk w2 b 36 ((ledC L V).setIfInBounds (2 + k * 5 + 2) (.int .i64 s)) ∧ w.grownBy w1 (some b) ∧ (∀ p, v.ownBlock = some p → p ≠ b) ∧
      DoneP B b (resizeL L k s xs) w (.returned (.tuple #[])) (w2.setCell ⟨b, 2 + k * 5 + 4, none⟩ v) := by
  have hb1lt : b < w1.heap.size := hb1.lt
  have hlo := h.lo
  have hlows := h.lows
  have hfar1 := h.far k hk
  have hlow1 : ∀ p, (V k).ownBlock = some p → B ≤ p ∧ p < w1.heap.size := own_lt o1
  have hb2 := hb1.kept hg2 (fun e => hfar1 b e.symm rfl)
  have hlow2 : ∀ p, v.ownBlock = some p → B ≤ p ∧ p < w2.heap.size := own_lt ho2
  have hfar2 : ∀ p, v.ownBlock = some p → p ≠ b := fun p hp => by
    rcases hl2 with e | e
    · exact hfar1 p (by rw [← e]; exact hp)
    · have e2 : some w1.heap.size = some p := e.symm.trans hp
      injection e2 with e2
      omega
  have hg3 : w2.grownBy (w2.setCell ⟨b, 2 + k * 5 + 4, none⟩ v) (some b) := gb_set (gb_refl w2 (some b)) _ _
  refine ⟨hb2, hg1, hfar2, rfl, updV V k v, ?_, fun j hj => ?_, fun j hj p hp => ?_, ?_⟩
  · have := hb2.set (2 + k * 5 + 4) v
    rw [led_resize L V hk s xs] at this
    exact this
  · unfold updV resizeL updT
    by_cases e : j = k
    · subst e
      simp only [if_true]
      exact (owns_ints rfl ho2 : Ints w2 v _).kept hg3 (fun p hp e => hfar2 p hp (by injection e))
    · simp only [if_neg e]
      have h1 := ((h.own.is j hj).kept hg1 (fun p hp e2 => h.far j hj p hp (by injection e2)))
      have h2 := h1.kept hg2 (fun p hp e2 => h.own.apart j k hj hk e p hp e2.symm)
      exact h2.kept hg3 (fun p hp e2 => h.far j hj p hp (by injection e2))
  · have hs3 : (w2.setCell ⟨b, 2 + k * 5 + 4, none⟩ v).heap.size = w2.heap.size := by simp [World.setCell]
    rw [hs3]
    unfold updV at hp
    by_cases e : j = k
    · rw [if_pos e] at hp; exact hlow2 p hp
    · rw [if_neg e] at hp
      have h1 := own_lt (h.own.own j hj) p hp
      have h2 := hg1.size
      have h3 := hg2.size
      omega
  · have q1 : Below B w w1 := below_gb hg1 (by omega) hlows
    have hlt1 : B ≤ w1.heap.size := by have := hg1.size; omega
    have q2 : Below B w w2 := q1.grown hg2 hlt1 (fun p hp => (hlow1 p hp).1)
    exact q2.trans (below_gb hg3 (by omega) (by have := hg2.size; omega))

end Go.Proofs.YteionppcjgggiaaGreat

/-
  The document's Swap.
-/
namespace Go.Proofs.YteionppcjgggiaaGreat
set_option linter.unusedVariables false
set_option linter.unusedSimpArgs false
set_option maxRecDepth 100000
open Go.RowKit

theorem ints_at {w : World} {a : Option Addr} {c : Nat} {xs : List Int} (h : Ints w (.slice a xs.length c) xs) {i : Nat} (hi : i < xs.length) : ∃ b off, a = some ⟨b, off, none⟩ ∧ w.cell? ⟨b, off + i, none⟩ = some (.int .i64 (xs.getD i 0)) := by
  rcases h with ⟨h1, h2⟩ | ⟨b, off, cap, h1, _, h3⟩ | ⟨_, _, _, h2⟩
  · rw [h2] at hi; simp at hi
  · simp at h1
    exact ⟨b, off, h1.1, h3 i hi⟩
  · rw [h2] at hi; simp at hi

end Go.Proofs.YteionppcjgggiaaGreat

/-
  The document's Same.
-/
namespace Go.Proofs.YteionppcjgggiaaGreat
set_option linter.unusedVariables false
set_option linter.unusedSimpArgs false
set_option maxRecDepth 100000
open Go.RowKit

@[reducible] def zeroTC : Array Value := #[.bool false, .int .i64 0, .int .i64 0, .int .i64 0, .slice none 0 0]

def tenB (x y : Ten) : Bool := x.th == y.th && x.ep == y.ep && x.sz == y.sz && x.sp == y.sp && x.bs == y.bs
def sameB (A B : Led) : Bool := A.gen == B.gen && A.eps == B.eps && tenB (A.t 0) (B.t 0) && tenB (A.t 1) (B.t 1) && tenB (A.t 2) (B.t 2) && tenB (A.t 3) (B.t 3)
theorem tenB_refl (x : Ten) : tenB x x = true := by simp [tenB]
theorem sameB_refl (A : Led) : sameB A A = true := by simp [sameB, tenB_refl]
theorem sameB_gen {A B : Led} (h : A.gen ≠ B.gen) : sameB A B = false := by simp [sameB, h]
theorem sameB_eps {A B : Led} (h : A.eps ≠ B.eps) : sameB A B = false := by simp [sameB, h]
theorem sameB_ten {A B : Led} {k : Nat} (hk : k < 4) (h : tenB (A.t k) (B.t k) = false) : sameB A B = false := by
  obtain rfl | rfl | rfl | rfl : k = 0 ∨ k = 1 ∨ k = 2 ∨ k = 3 := by omega
  all_goals simp [sameB, h]
theorem sameB_all {A B : Led} (hg : A.gen = B.gen) (he : A.eps = B.eps) (h : ∀ k, k < 4 → tenB (A.t k) (B.t k) = true) : sameB A B = true := by
  simp [sameB, hg, he, h 0 (by omega), h 1 (by omega), h 2 (by omega), h 3 (by omega)]
theorem tenB_els {x y : Ten} (h0 : x.th = y.th) (h1 : x.ep = y.ep) (h2 : x.sz = y.sz) (h3 : x.sp = y.sp) (hl : x.bs.length = y.bs.length) (h : ∀ m, m < x.bs.length → x.bs.getD m 0 = y.bs.getD m 0) : tenB x y = true := by
  have : x.bs = y.bs := List.ext_getElem hl (fun m h1 h2 => by
    have := h m h1
    simpa [List.getD_eq_getElem?_getD, h1, h2] using this)
  simp [tenB, h0, h1, h2, h3, this]
theorem tenB_len {x y : Ten} (h : x.bs.length ≠ y.bs.length) : tenB x y = false := by
  have : x.bs ≠ y.bs := fun e => h (by rw [e])
  simp [tenB, this]

theorem beqNe_nat {a b : Nat} (h : a = b) : ((a : Int) != (b : Int)) = false := by subst h; simp
theorem beqNe_nat' {a b : Nat} (h : a ≠ b) : ((a : Int) != (b : Int)) = true := by simp; omega

theorem ten_th (x : Ten) (v : Value) : (tenC x v)[0]? = some (.bool x.th) := rfl
theorem ten_ep (x : Ten) (v : Value) : (tenC x v)[1]? = some (.int .i64 x.ep) := rfl
theorem ten_sz (x : Ten) (v : Value) : (tenC x v)[2]? = some (.int .i64 x.sz) := rfl
theorem ten_sp (x : Ten) (v : Value) : (tenC x v)[3]? = some (.int .i64 x.sp) := rfl
theorem ten_bs (x : Ten) (v : Value) : (tenC x v)[4]? = some v := rfl
theorem tenB_th {x y : Ten} (h : x.th ≠ y.th) : tenB x y = false := by simp [tenB, h]
theorem tenB_ep {x y : Ten} (h : x.ep ≠ y.ep) : tenB x y = false := by simp [tenB, h]
theorem tenB_sz {x y : Ten} (h : x.sz ≠ y.sz) : tenB x y = false := by simp [tenB, h]
theorem tenB_sp {x y : Ten} (h : x.sp ≠ y.sp) : tenB x y = false := by simp [tenB, h]

set_option maxHeartbeats 3200000 in
theorem same10_eq (A : Led) (VA VB : Nat → Value) (w : World) (hA : LedIs w A VA) (hB : LedIs w A VB) (hm : ∀ j, j < 4 → (A.t j).bs.length ≤ 9223372036854775807) :
    Calls Tryz.prog 12 #[.agg (ledC A VA), .agg (ledC A VB)] w fun e w' => e = .returned (.bool true) ∧ Ext w w' := by
  have hb0 := (Blk.new w 36 (ledC A VA)).alloc (.cells (ledC A VB) 36)
  have hb1 := Blk.newAt (w.alloc (.cells (ledC A VA) 36)) (w.heap.size + 1) (by simp) 36 (ledC A VB)
  have hE := grown_alloc (World.grownBy_alloc w (.cells (ledC A VA) 36) none) (.cells (ledC A VB) 36)
  obtain ⟨w1, hw1⟩ : ∃ v, (w.alloc (.cells (ledC A VA) 36)).alloc (.cells (ledC A VB) 36) = v := ⟨_, rfl⟩
  rw [hw1] at hb0 hb1 hE
  have a0 := (hb0.cell 0).trans (led_gen A VA)
  have a1 := (hb0.cell 1).trans (led_eps A VA)
  have b0 := (hb1.cell 0).trans (led_gen A VB)
  have b1 := (hb1.cell 1).trans (led_eps A VB)
  have HA := Lib.hid (hA.ext hE)
  have HB := Lib.hid (hB.ext hE)
  have HE := Lib.hid hE
  have H1 := Lib.hid hb1
  clear hA hB hE hb1
  go_enter Tryz.func12, Tryz.ntmps12
  go_wp2_with (refine tens_load _ rfl rfl hb0 rfl ?_)
  clear hw1 a0 a1 b0 b1 hb0
  go_loopw [23] (fun i wr => ∃ k : Nat, k ≤ 4 ∧ i = .int .i64 k ∧ Ext w1 wr) (fun i _ => 4 - (intOf i).toNat)
  case atStart => exact ⟨0, by omega, rfl, Ext.refl w1⟩
  case round =>
    obtain ⟨k, hk, rfl, hE1⟩ := hrel
    obtain ⟨wo, rfl⟩ : ∃ wo : World, wo = wr := ⟨_, rfl⟩
    by_cases hlt : k < 4
    · have hix := tens_at A VA hlt
      have hbB := H1.out.ext hE1
      have hIx := (HA.out k hlt).kept hE1 (by simp)
      have hIy := (HB.out k hlt).kept hE1 (by simp)
      have hSx := hIx.slice
      have hSy := hIy.slice
      obtain ⟨ax, cx, bx, ox, hVx, hcx⟩ := hIx.form
      obtain ⟨ay, cy, by_, oy, hVy, hcy⟩ := hIy.form
      have HVx := Lib.hid hVx
      have HVy := Lib.hid hVy
      have HCx := Lib.hid hcx
      have HCy := Lib.hid hcy
      have hmx := hm k hlt
      clear hIx hIy hVx hVy hcx hcy
      have hBn6 := Blk.new wo 33 zeroTC
      obtain ⟨x, hx⟩ : ∃ x, A.t k = x := ⟨_, rfl⟩
      obtain ⟨vx, hvx⟩ : ∃ v, VA k = v := ⟨_, rfl⟩
      obtain ⟨vy, hvy⟩ : ∃ v, VB k = v := ⟨_, rfl⟩
      have hpart : (ledC A VB).extract (2 + k * 5) (2 + k * 5 + 5) = tenC x vy := by rw [← hx, ← hvy]; exact led_ten A VB hlt
      have HPART := Lib.hid hpart
      rw [hx, hvx] at hix
      rw [hx, hvx] at HVx
      rw [hx, hvy] at HVy
      rw [hx] at HCx HCy hmx
      rw [hvx] at hSx
      rw [hvy] at hSy
      clear hx hvx hvy hpart
      obtain ⟨xt, xe, xs, xp, xb⟩ := x
      obtain ⟨nx, hnx⟩ : ∃ n, xb.length = n := ⟨_, rfl⟩
      simp only [] at HVx HVy HCx HCy hmx
      have hny := hnx
      go_wp2_with (first
        | (refine ten_store _ _ rfl rfl rfl hBn6 rfl hSx rfl ?_; intro w6 hb6 hg6 hs6; clear hBn6 hs6; have hE6 := grown_trans (World.grownBy_alloc wo (.cells zeroTC 33) none) hg6 (fun p hp hlt => by injection hp with hp; omega); have hb6B := hbB.ext hE6; have hBn7 := Blk.new w6 33 zeroTC)
        | (refine wpList_load_part rfl _ _ rfl _ (2 + k * 5) 5 rfl _ _ _ _ _ hb6B HPART.out rfl Tryz.underlying33 rfl Tryz.sizeTen ?_)
        | (refine ten_store _ _ rfl rfl rfl hBn7 rfl hSy rfl ?_; intro w7 hb7 hg7 hs7; clear hBn7; have hE7 := grown_trans (World.grownBy_alloc w6 (.cells zeroTC 33) none) hg7 (fun p hp hlt => by injection hp with hp; omega); have hb6x := hb6.ext hE7; have HE7 := Lib.hid (ext_trans hE1 (ext_trans hE6 hE7)); have HEx := Lib.hid (ext_trans hE6 hE7); have x0 : w7.cell? ⟨wo.heap.size, 0, none⟩ = some (.bool xt) := (hb6x.cell 0).trans (ten_th _ _); have x1 : w7.cell? ⟨wo.heap.size, 1, none⟩ = some (.int .i64 xe) := (hb6x.cell 1).trans (ten_ep _ _); have x2 : w7.cell? ⟨wo.heap.size, 2, none⟩ = some (.int .i64 xs) := (hb6x.cell 2).trans (ten_sz _ _); have x3 : w7.cell? ⟨wo.heap.size, 3, none⟩ = some (.int .i64 xp) := (hb6x.cell 3).trans (ten_sp _ _); have x4 := (hb6x.cell 4).trans (ten_bs _ _); have y0 := (hb7.cell 0).trans (ten_th _ _); have y1 := (hb7.cell 1).trans (ten_ep _ _); have y2 := (hb7.cell 2).trans (ten_sz _ _); have y3 := (hb7.cell 3).trans (ten_sp _ _); have y4 := (hb7.cell 4).trans (ten_bs _ _); simp only [] at y0 y1 y2 y3; rw [HVx.out] at x4; rw [HVy.out] at y4; rw [hnx] at x4; rw [hny] at y4; clear hE6 hE7 hb6 hb6B hb6x hb7 hg6 hg7 hs7)
        | (refine wpList_pass rfl ?_ ?_; (simp only [Act.put, List.setIfInBounds_toArray, List.set_cons_succ, List.set_cons_zero]; rfl)))
      obtain ⟨g6, hg6'⟩ : ∃ g, wo.heap.size = g := ⟨_, rfl⟩
      obtain ⟨g7, hg7'⟩ : ∃ g, w6.heap.size = g := ⟨_, rfl⟩
      rw [hg6'] at x0 x1 x2 x3 x4 ⊢
      rw [hg7'] at y0 y1 y2 y3 y4 ⊢
      have HX4 := Lib.hid x4
      have HY4 := Lib.hid y4
      have HE1 := Lib.hid hE1
      clear x0 x1 x2 x3 x4 y0 y1 y2 y3 y4 hg6' hg7' hE1 hbB hix
      go_loopw [69] (fun i wr => ∃ n : Nat, n ≤ nx ∧ i = .int .i64 n ∧ Ext w7 wr) (fun i _ => nx - (intOf i).toNat)
      case atStart => exact ⟨0, by omega, rfl, Ext.refl w7⟩
      case round =>
        obtain ⟨n, hn, rfl, hE8⟩ := hrel
        have hx4 := hE8.cell HX4.out (by simp)
        have hy4 := hE8.cell HY4.out (by simp)
        by_cases hltn : n < nx
        · obtain ⟨rfl, cx8⟩ := HCx.out n (by rw [hnx]; exact hltn)
          obtain ⟨rfl, cy8⟩ := HCy.out n (by rw [hnx]; exact hltn)
          have cx9 := hE8.cell ((HEx.out.cell cx8 (by simp))) (by simp)
          have cy9 := hE8.cell ((HEx.out.cell cy8 (by simp))) (by simp)
          obtain ⟨ex, hex⟩ : ∃ e, xb.getD n 0 = e := ⟨_, rfl⟩
          rw [hex] at cx9 cy9
          let S : World → Prop := fun z => z.cell? ⟨g6, 4, none⟩ = some (.slice (some ⟨bx, ox, none⟩) nx cx) ∧ z.cell? ⟨g7, 4, none⟩ = some (.slice (some ⟨by_, oy, none⟩) nx cy) ∧ z.cell? ⟨bx, ox + n, none⟩ = some (.int .i64 ex) ∧ z.cell? ⟨by_, oy + n, none⟩ = some (.int .i64 ex)
          have hS : S wr.drew := ⟨hx4, hy4, cx9, cy9⟩
          have HE8 := Lib.hid (ext_trans hE8 (Ext.drew wr))
          clear hx4 hy4 cx8 cy8 cx9 cy9 hex hE8
          go_wp2
          refine region_line [(0, true), (1, true), (2, true), (3, true), (4, true), (5, true), (6, true), (7, true), (8, true), (9, true), (10, true)] S (by kernel_rfl) (by kernel_rfl) (fun _ _ _ d _ h => by cases d <;> exact h) hS ?_
          repeat (refine line_read (a' := ?_) rfl (by kernel_rfl) (by kernel_rfl) hS (fun x hx K hK => ?_) ?_; rotate_left; · (obtain ⟨x1, x2, x3, x4⟩ := hx; go_wp2; exact hK))
          refine line_end ?_
          go_wp2
          go_roundw
          case rel => exact ⟨n + 1, by omega, by go_num, HE8.out⟩
          case measure => simp [intOf]; omega
        · obtain rfl : n = nx := by omega
          have HE9 := Lib.hid hE8
          clear hx4 hy4 hE8
          go_wp2
          go_roundw
          case rel => exact ⟨k + 1, by omega, by go_num, ext_trans HE7.out HE9.out⟩
          case measure => simp [intOf]; omega
    · obtain rfl : k = 4 := by omega
      go_wp2
      go_ret
      exact ⟨rfl, ext_trans HE.out hE1⟩

end Go.Proofs.YteionppcjgggiaaGreat

/-
  Package ledger: Owner; the law's few.
-/
namespace Go.Proofs.YteionppcjgggiaaGreat
set_option linter.unusedVariables false
set_option linter.unusedSimpArgs false
set_option maxRecDepth 100000
open Go.RowKit

/-- Which of the four is the first. -/
def firstB (p : Nat → Bool) : Int := if p 0 = true then 0 else if p 1 = true then 1 else if p 2 = true then 2 else if p 3 = true then 3 else -1
theorem firstB_at {p : Nat → Bool} {k : Nat} (hk : k < 4) (h : p k = true) (hb : ∀ j, j < k → p j = false) : firstB p = k := by
  obtain rfl | rfl | rfl | rfl : k = 0 ∨ k = 1 ∨ k = 2 ∨ k = 3 := by omega
  · simp [firstB, h]
  · simp [firstB, h, hb 0 (by omega)]
  · simp [firstB, h, hb 0 (by omega), hb 1 (by omega)]
  · simp [firstB, h, hb 0 (by omega), hb 1 (by omega), hb 2 (by omega)]
theorem firstB_no {p : Nat → Bool} (hb : ∀ j, j < 4 → p j = false) : firstB p = -1 := by
  simp [firstB, hb 0 (by omega), hb 1 (by omega), hb 2 (by omega), hb 3 (by omega)]

def ownerS (L : Led) (x : Int) : Int := firstB fun j => decide (x ∈ (L.t j).bs)

def fewB (L : Led) : Bool := decide ((L.t 0).bs.length ≤ 80) && decide ((L.t 1).bs.length ≤ 80) && decide ((L.t 2).bs.length ≤ 80) && decide ((L.t 3).bs.length ≤ 80)
theorem fewB_le {L : Led} (h : fewB L = true) : ∀ j, j < 4 → (L.t j).bs.length ≤ 80 := by
  simp [fewB] at h
  intro j hj
  obtain rfl | rfl | rfl | rfl : j = 0 ∨ j = 1 ∨ j = 2 ∨ j = 3 := by omega
  all_goals omega
theorem fewB_no {L : Led} {k : Nat} (hk : k < 4) (h : 80 < (L.t k).bs.length) : fewB L = false := by
  obtain rfl | rfl | rfl | rfl : k = 0 ∨ k = 1 ∨ k = 2 ∨ k = 3 := by omega
  all_goals simp [fewB]; omega
theorem fewB_yes {L : Led} (h : ∀ j, j < 4 → (L.t j).bs.length ≤ 80) : fewB L = true := by
  simp [fewB, h 0 (by omega), h 1 (by omega), h 2 (by omega), h 3 (by omega)]

end Go.Proofs.YteionppcjgggiaaGreat
