/-
  Ledgers: what they are, how they stand in memory; whole rows read and written at once.
-/
import Derived.Test.YthailmoeggdfhaaDA
import Derived.Deep.MidRow
import Derived.Below
import Derived.OneCell
namespace Go.Proofs.Ythailmoeggdfhaa
set_option linter.unusedVariables false
set_option linter.unusedSimpArgs false
set_option maxRecDepth 100000
open Go.RowKit

/-! ### whole rows, also where a guard let the operation by -/
section
variable {P : Program} {ops : Array Oper} {rest : List Oper} {o : Oper} {a : Act} {w : World} {Q : Exit → Act → World → Prop}

theorem wpList_want (hwt : Region.wanted o (yielded ops a.tmps) = true) (h : ∀ K : Act → World → Prop, (∀ a w, wpList P ops Q rest a w → K a w) → o.wp P a w K Q) : wpList P ops Q (o :: rest) a w := by
  unfold wpList
  rw [if_pos hwt]
  exact .inl (h _ (fun _ _ h => h))

/-- What a guard passes over. -/
theorem wpList_pass {a' : Act} (hw : Region.wanted o (yielded ops a.tmps) = false) (ha : a.put o.dst undef = a') (h : wpList P ops Q rest a' w) : wpList P ops Q (o :: rest) a w := by
  unfold wpList
  rw [if_neg (by rw [hw]; simp), ha]
  exact h

/-- A part of a block that is known whole is read. -/
theorem wpList_load_part (hwt : Region.wanted o (yielded ops a.tmps) = true) (ty : TypeId) (x : Operand) (ho : o.op = .load ty x)
    (g off n : Nat) (hx : a.eval x = .pointer (some ⟨g, off, none⟩)) (t : TypeId) (C : Array Value) (fr : Nat × Nat) (d : TypeDesc) (cs : Array Value) (hg : w.heap[g]? = some (.cells C t fr))
    (hcs : C.extract off (off + n) = cs) (hn : cs.size = n) (hu : P.underlying ty = some d) (hd : d.isRow = true) (hi : (P.info? ty).map (·.size) = some n)
    (h : wpList P ops Q rest (a.put o.dst (.agg cs)) w) : wpList P ops Q (o :: rest) a w := by
  refine wpList_want hwt fun K hK => wp_load_mid ty x ho g off hx cs.toList d ?_ hu hd (by rw [hi]; simp [hn]) (hK _ _ (by simpa using h))
  have := World.rangeAt_of_block hg off n
  rw [hcs] at this
  exact this

/-- A part of a block that is known whole is written. -/
theorem wpList_store_part (hwt : Region.wanted o (yielded ops a.tmps) = true) (ty : TypeId) (x y : Operand) (ho : o.op = .store ty x y)
    (g off n : Nat) (cs : Array Value) (hx : a.eval x = .pointer (some ⟨g, off, none⟩)) (hy : a.eval y = .agg cs) (t : TypeId) (C C' : Array Value) (hg : w.heap[g]? = some (.cells C t (0, 0)))
    (hn : cs.size = n) (hi : (P.info? ty).map (·.size) = some n) (hfit : off + n ≤ C.size) (h1 : cs.all (·.oneCell') = true) (hC' : (C.toList.take off ++ cs.toList ++ C.toList.drop (off + cs.toList.length)).toArray = C')
    (h : ∀ w', w'.heap[g]? = some (.cells C' t (0, 0)) → w.grownBy w' (some g) → w'.heap.size = w.heap.size → wpList P ops Q rest (a.put o.dst undef) w') : wpList P ops Q (o :: rest) a w := by
  refine wpList_want hwt fun K hK => ?_
  have hst := run_storeCells_at P g off t cs.toList 0 C w hg (by simp; omega) (fun v hv => (Array.all_eq_true_iff_forall_mem.1 h1) v (by simpa using hv))
  have hrun : (storeVar ty ⟨g, off, none⟩ (.agg cs)).run P w = .ok () (w.setRow g C') := by
    cases hq : P.info? ty with
    | none => simp [hq] at hi
    | some i =>
      have hs : i.size = cs.size := by simp [hq] at hi; omega
      rw [← hC']
      simpa [storeVar, sizeOf, typeInfo, hq, Value.cells, hs] using hst
  have hlt : g < w.heap.size := (Array.getElem?_eq_some_iff.1 hg).1
  unfold Oper.wp execOp
  simp only [ho, hx, hy, Instr.storeAt, Instr.sureAddr, Sem.run_bind, Sem.run_pure, Result.andThen_ok, hrun]
  exact hK _ _ (h _ (setRow_heap w g C C' t _ hg) ⟨rfl, rfl, rfl, by simp, fun k _ hne => setRow_other w g k C' (fun e => hne (by rw [e]))⟩ (by simp))
end

/-! ### what a ledger is -/
structure Ten where
  th : Bool
  ep : Int
  sz : Int
  sp : Int
  bs : List Int
structure Led where
  gen : Int
  eps : Int
  t : Nat → Ten
def noTen : Ten := ⟨false, 0, 0, 0, []⟩
def noLed : Led := ⟨0, 0, fun _ => noTen⟩
abbrev nilS : Value := .slice none 0 0

def tenC (x : Ten) (v : Value) : Array Value := #[.bool x.th, .int .i64 x.ep, .int .i64 x.sz, .int .i64 x.sp, v]
def ledC (L : Led) (V : Nat → Value) : Array Value :=
  #[.int .i64 L.gen, .int .i64 L.eps,
    .bool (L.t 0).th, .int .i64 (L.t 0).ep, .int .i64 (L.t 0).sz, .int .i64 (L.t 0).sp, V 0,
    .bool (L.t 1).th, .int .i64 (L.t 1).ep, .int .i64 (L.t 1).sz, .int .i64 (L.t 1).sp, V 1,
    .bool (L.t 2).th, .int .i64 (L.t 2).ep, .int .i64 (L.t 2).sz, .int .i64 (L.t 2).sp, V 2,
    .bool (L.t 3).th, .int .i64 (L.t 3).ep, .int .i64 (L.t 3).sz, .int .i64 (L.t 3).sp, V 3]
def tensC (L : Led) (V : Nat → Value) : Array Value :=
  #[.bool (L.t 0).th, .int .i64 (L.t 0).ep, .int .i64 (L.t 0).sz, .int .i64 (L.t 0).sp, V 0,
    .bool (L.t 1).th, .int .i64 (L.t 1).ep, .int .i64 (L.t 1).sz, .int .i64 (L.t 1).sp, V 1,
    .bool (L.t 2).th, .int .i64 (L.t 2).ep, .int .i64 (L.t 2).sz, .int .i64 (L.t 2).sp, V 2,
    .bool (L.t 3).th, .int .i64 (L.t 3).ep, .int .i64 (L.t 3).sz, .int .i64 (L.t 3).sp, V 3]
theorem ledC_size (L : Led) (V : Nat → Value) : (ledC L V).size = 22 := rfl
theorem tensC_size (L : Led) (V : Nat → Value) : (tensC L V).size = 20 := rfl
theorem tenC_size (x : Ten) (v : Value) : (tenC x v).size = 5 := rfl
theorem led_tens (L : Led) (V : Nat → Value) : (ledC L V).extract 2 (2 + 20) = tensC L V := by simp [ledC, tensC]
theorem led_all (L : Led) (V : Nat → Value) : (ledC L V).extract 0 (0 + 22) = ledC L V := by simp [ledC]
theorem ten_all (x : Ten) (v : Value) : (tenC x v).extract 0 (0 + 5) = tenC x v := rfl

/-- A slice of ints is one cell. -/
def SliceV (v : Value) : Prop := ∃ a n c, v = .slice a n c
theorem Ints.slice {w : World} {v : Value} {xs : List Int} (h : Ints w v xs) : SliceV v := by
  obtain ⟨ao, cap, _, _, rfl, _⟩ := h.form
  exact ⟨_, _, _, rfl⟩
theorem SliceV.one {v : Value} (h : SliceV v) : v.oneCell' = true := by obtain ⟨a, n, c, rfl⟩ := h; rfl
theorem ten_one (x : Ten) {v : Value} (h : SliceV v) : (tenC x v).all (·.oneCell') = true := by
  obtain ⟨a, n, c, rfl⟩ := h
  simp [tenC, Value.oneCell']
theorem led_one (L : Led) {V : Nat → Value} (h : ∀ j, j < 4 → SliceV (V j)) : (ledC L V).all (·.oneCell') = true := by
  obtain ⟨_, _, _, h0⟩ := h 0 (by omega)
  obtain ⟨_, _, _, h1⟩ := h 1 (by omega)
  obtain ⟨_, _, _, h2⟩ := h 2 (by omega)
  obtain ⟨_, _, _, h3⟩ := h 3 (by omega)
  simp [ledC, h0, h1, h2, h3, Value.oneCell']

/-- A block that is known whole. -/
def Blk (w : World) (g : Nat) (t : TypeId) (cs : Array Value) : Prop := w.heap[g]? = some (.cells cs t (0, 0))
section
variable {w w' : World} {g : Nat} {t : TypeId} {cs : Array Value}
theorem Blk.lt (h : Blk w g t cs) : g < w.heap.size := (Array.getElem?_eq_some_iff.1 h).1
theorem Blk.cell (h : Blk w g t cs) (i : Nat) : w.cell? ⟨g, i, none⟩ = cs[i]? := cell_of_row w g i cs t (0, 0) h
theorem Blk.free (h : Blk w g t cs) (i : Nat) : w.frozen? ⟨g, i, none⟩ = false := frozen_of_row w g i cs t h
theorem Blk.kept {r : Option Nat} (h : Blk w g t cs) (hg : w.grownBy w' r) (hne : some g ≠ r) : Blk w' g t cs := (hg.block g h.lt hne).trans h
theorem Blk.ext (h : Blk w g t cs) (hg : w.grownBy w' none) : Blk w' g t cs := h.kept hg (by simp)
theorem Blk.alloc (h : Blk w g t cs) (o : Obj) : Blk (w.alloc o) g t cs := h.ext (World.grownBy_alloc w o none)
theorem Blk.new (w : World) (t : TypeId) (cs : Array Value) : Blk (w.alloc (.cells cs t)) w.heap.size t cs := heap_alloc_new w _
theorem Blk.newAt (w : World) (n : Nat) (hn : w.heap.size = n) (t : TypeId) (cs : Array Value) : Blk (w.alloc (.cells cs t)) n t cs := by subst hn; exact Blk.new w t cs
theorem Blk.set (h : Blk w g t cs) (i : Nat) (v : Value) : Blk (w.setCell ⟨g, i, none⟩ v) g t (cs.setIfInBounds i v) := heap_setCell_same w g i cs t v h
theorem Blk.far (h : Blk w g t cs) {a : Addr} (hne : g ≠ a.block) (v : Value) : Blk (w.setCell a v) g t cs := (heap_setCell_other w a g v hne).trans h
theorem Blk.drew (h : Blk w g t cs) : Blk w.drew g t cs := h
end

/-- Cells of the tenant k, by number. -/
theorem led_th (L : Led) (V : Nat → Value) {k : Nat} (h : k < 4) : (ledC L V)[2 + k * 5]? = some (.bool (L.t k).th) := by
  obtain rfl | rfl | rfl | rfl : k = 0 ∨ k = 1 ∨ k = 2 ∨ k = 3 := by omega
  all_goals rfl
theorem led_ep (L : Led) (V : Nat → Value) {k : Nat} (h : k < 4) : (ledC L V)[2 + k * 5 + 1]? = some (.int .i64 (L.t k).ep) := by
  obtain rfl | rfl | rfl | rfl : k = 0 ∨ k = 1 ∨ k = 2 ∨ k = 3 := by omega
  all_goals rfl
theorem led_sz (L : Led) (V : Nat → Value) {k : Nat} (h : k < 4) : (ledC L V)[2 + k * 5 + 2]? = some (.int .i64 (L.t k).sz) := by
  obtain rfl | rfl | rfl | rfl : k = 0 ∨ k = 1 ∨ k = 2 ∨ k = 3 := by omega
  all_goals rfl
theorem led_bs (L : Led) (V : Nat → Value) {k : Nat} (h : k < 4) : (ledC L V)[2 + k * 5 + 4]? = some (V k) := by
  obtain rfl | rfl | rfl | rfl : k = 0 ∨ k = 1 ∨ k = 2 ∨ k = 3 := by omega
  all_goals rfl
theorem led_gen (L : Led) (V : Nat → Value) : (ledC L V)[0]? = some (.int .i64 L.gen) := rfl
theorem led_eps (L : Led) (V : Nat → Value) : (ledC L V)[1]? = some (.int .i64 L.eps) := rfl
/-- The tenant k, whole. -/
theorem led_ten (L : Led) (V : Nat → Value) {k : Nat} (h : k < 4) : (ledC L V).extract (2 + k * 5) (2 + k * 5 + 5) = tenC (L.t k) (V k) := by
  obtain rfl | rfl | rfl | rfl : k = 0 ∨ k = 1 ∨ k = 2 ∨ k = 3 := by omega
  all_goals rfl
/-- Another tenant k. -/
def updT (L : Led) (k : Nat) (x : Ten) : Led := { L with t := fun j => if j = k then x else L.t j }
def updV (V : Nat → Value) (k : Nat) (v : Value) : Nat → Value := fun j => if j = k then v else V j
theorem led_setV (L : Led) (V : Nat → Value) {k : Nat} (h : k < 4) (v : Value) : (ledC L V).setIfInBounds (2 + k * 5 + 4) v = ledC L (updV V k v) := by
  obtain rfl | rfl | rfl | rfl : k = 0 ∨ k = 1 ∨ k = 2 ∨ k = 3 := by omega
  all_goals rfl
theorem led_setT (L : Led) (V : Nat → Value) {k : Nat} (h : k < 4) (x : Ten) (v : Value) : ((ledC L V).toList.take (2 + k * 5) ++ (tenC x v).toList ++ (ledC L V).toList.drop (2 + k * 5 + (tenC x v).toList.length)).toArray = ledC (updT L k x) (updV V k v) := by
  obtain rfl | rfl | rfl | rfl : k = 0 ∨ k = 1 ∨ k = 2 ∨ k = 3 := by omega
  all_goals rfl
theorem led_setSz (L : Led) (V : Nat → Value) {k : Nat} (h : k < 4) (n : Int) : (ledC L V).setIfInBounds (2 + k * 5 + 2) (.int .i64 n) = ledC (updT L k { L.t k with sz := n }) V := by
  obtain rfl | rfl | rfl | rfl : k = 0 ∨ k = 1 ∨ k = 2 ∨ k = 3 := by omega
  all_goals rfl
theorem led_setGen (L : Led) (V : Nat → Value) (n : Int) : (ledC L V).setIfInBounds 0 (.int .i64 n) = ledC { L with gen := n } V := rfl
theorem led_setEps (L : Led) (V : Nat → Value) (n : Int) : (ledC L V).setIfInBounds 1 (.int .i64 n) = ledC { L with eps := n } V := rfl

/-- What the tenants' slices read as. -/
def LedIs (w : World) (L : Led) (V : Nat → Value) : Prop := ∀ j, j < 4 → Ints w (V j) (L.t j).bs
theorem LedIs.kept {w w' : World} {L : Led} {V : Nat → Value} {r : Option Nat} (h : LedIs w L V) (hg : w.grownBy w' r) (hne : ∀ j, j < 4 → ∀ k, (V j).ownBlock = some k → some k ≠ r) : LedIs w' L V := fun j hj => (h j hj).kept hg (hne j hj)
theorem LedIs.ext {w w' : World} {L : Led} {V : Nat → Value} (h : LedIs w L V) (hg : w.grownBy w' none) : LedIs w' L V := h.kept hg (by simp)
theorem LedIs.slices {w : World} {L : Led} {V : Nat → Value} (h : LedIs w L V) : ∀ j, j < 4 → SliceV (V j) := fun j hj => (h j hj).slice
theorem noLed_is (w : World) : LedIs w noLed (fun _ => nilS) := fun _ _ => .inl ⟨rfl, rfl⟩

section
variable {ops : Array Oper} {rest : List Oper} {o : Oper} {a : Act} {w : World} {Q : Exit → Act → World → Prop}
end

end Go.Proofs.Ythailmoeggdfhaa
