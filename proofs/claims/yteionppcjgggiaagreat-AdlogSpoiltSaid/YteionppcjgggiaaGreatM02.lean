/-
  Texts put together: EA EZ KR WA UA EB AT.
-/
import Derived.Test.YteionppcjgggiaaGreatM01
import Derived.Deep.MidRow
import Derived.Below
import Derived.OneCell
import Derived.OpenShut
import Derived.WideShapes
import Derived.Test.YteionppcjgggiaaGreatRows
import Derived.WalkKit
import Derived.WalkSpells
import Derived.WalkLawsBesides
import Derived.BigQuiet
import Derived.Deep.QuietTactic
import Derived.Lib.Hide
import Derived.Laws.LoneSync
import Derived.RegionCalls
/-
  Ledgers: what they are, how they stand in memory; whole rows read and written at once.
-/
namespace Go.Proofs.YteionppcjgggiaaGreat
set_option linter.unusedVariables false
set_option linter.unusedSimpArgs false
set_option maxRecDepth 100000
open Go.RowKit

/-! ### whole rows, also where a guard let the operation by -/
section
variable {P : Program} {ops : Array Oper} {rest : List Oper} {o : Oper} {a : Act} {w : World} {Q : Exit → Act → World → Prop}

theorem wpList_want (hwt : Region.wanted o (yielded ops a.tmps) = true) (h : ∀ K : Act → World → Prop, (∀ a w, wpList P ops Q rest a w → K a w) → o.wp P a w K Q) : wpList P ops Q (o :: rest) a w := by
  unfold wpList
  rw [if_pos hwt]
  exact .inl (h _ (fun _ _ h => h))

/-- What a guard passes over. -/
theorem wpList_pass {a' : Act} (hw : Region.wanted o (yielded ops a.tmps) = false) (ha : a.put o.dst undef = a') (h : wpList P ops Q rest a' w) : wpList P ops Q (o :: rest) a w := by
  unfold wpList
  rw [if_neg (by rw [hw]; simp), ha]
  exact h

/-- A part of a block that is known whole is read. -/
theorem wpList_load_part (hwt : Region.wanted o (yielded ops a.tmps) = true) (ty : TypeId) (x : Operand) (ho : o.op = .load ty x)
    (g off n : Nat) (hx : a.eval x = .pointer (some ⟨g, off, none⟩)) (t : TypeId) (C : Array Value) (fr : Nat × Nat) (d : TypeDesc) (cs : Array Value) (hg : w.heap[g]? = some (.cells C t fr))
    (hcs : C.extract off (off + n) = cs) (hn : cs.size = n) (hu : P.underlying ty = some d) (hd : d.isRow = true) (hi : (P.info? ty).map (·.size) = some n)
    (h : wpList P ops Q rest (a.put o.dst (.agg cs)) w) : wpList P ops Q (o :: rest) a w := by
  refine wpList_want hwt fun K hK => wp_load_mid ty x ho g off hx cs.toList d ?_ hu hd (by rw [hi]; simp [hn]) (hK _ _ (by simpa using h))
  have := World.rangeAt_of_block hg off n
  rw [hcs] at this
  exact this

/-- A part of a block that is known whole is written. -/
theorem wpList_store_part (hwt : Region.wanted o (yielded ops a.tmps) = true) (ty : TypeId) (x y : Operand) (ho : o.op = .store ty x y)
    (g off n : Nat) (cs : Array Value) (hx : a.eval x = .pointer (some ⟨g, off, none⟩)) (hy : a.eval y = .agg cs) (t : TypeId) (C C' : Array Value) (hg : w.heap[g]? = some (.cells C t (0, 0)))
    (hn : cs.size = n) (hi : (P.info? ty).map (·.size) = some n) (hfit : off + n ≤ C.size) (h1 : cs.all (·.oneCell') = true) (hC' : (C.toList.take off ++ cs.toList ++ C.toList.drop (off + cs.toList.length)).toArray = C')
    (h : ∀ w', w'.heap[g]? = some (.cells C' t (0, 0)) → w.grownBy w' (some g) → w'.heap.size = w.heap.size → wpList P ops Q rest (a.put o.dst undef) w') : wpList P ops Q (o :: rest) a w := by
  refine wpList_want hwt fun K hK => ?_
  have hst := run_storeCells_at P g off t cs.toList 0 C w hg (by simp; omega) (fun v hv => (Array.all_eq_true_iff_forall_mem.1 h1) v (by simpa using hv))
  have hrun : (storeVar ty ⟨g, off, none⟩ (.agg cs)).run P w = .ok () (w.setRow g C') := by
    cases hq : P.info? ty with
    | none => simp [hq] at hi
    | some i =>
      have hs : i.size = cs.size := by simp [hq] at hi; omega
      rw [← hC']
      simpa [storeVar, sizeOf, typeInfo, hq, Value.cells, hs] using hst
  have hlt : g < w.heap.size := (Array.getElem?_eq_some_iff.1 hg).1
  unfold Oper.wp execOp
  simp only [ho, hx, hy, Instr.storeAt, Instr.sureAddr, Sem.run_bind, Sem.run_pure, Result.andThen_ok, hrun]
  exact hK _ _ (h _ (setRow_heap w g C C' t _ hg) ⟨rfl, rfl, rfl, by simp, fun k _ hne => setRow_other w g k C' (fun e => hne (by rw [e]))⟩ (by simp))
end

/-! ### what a ledger is -/
structure Ten where
  th : Bool
  ep : Int
  sz : Int
  sp : Int
  bs : List Int
structure Led where
  gen : Int
  eps : Int
  t : Nat → Ten
def noTen : Ten := ⟨false, 0, 0, 0, []⟩
def noLed : Led := ⟨0, 0, fun _ => noTen⟩
abbrev nilS : Value := .slice none 0 0

def tenC (x : Ten) (v : Value) : Array Value := #[.bool x.th, .int .i64 x.ep, .int .i64 x.sz, .int .i64 x.sp, v]
def ledC (L : Led) (V : Nat → Value) : Array Value :=
  #[.int .i64 L.gen, .int .i64 L.eps,
    .bool (L.t 0).th, .int .i64 (L.t 0).ep, .int .i64 (L.t 0).sz, .int .i64 (L.t 0).sp, V 0,
    .bool (L.t 1).th, .int .i64 (L.t 1).ep, .int .i64 (L.t 1).sz, .int .i64 (L.t 1).sp, V 1,
    .bool (L.t 2).th, .int .i64 (L.t 2).ep, .int .i64 (L.t 2).sz, .int .i64 (L.t 2).sp, V 2,
    .bool (L.t 3).th, .int .i64 (L.t 3).ep, .int .i64 (L.t 3).sz, .int .i64 (L.t 3).sp, V 3]
def tensC (L : Led) (V : Nat → Value) : Array Value :=
  #[.bool (L.t 0).th, .int .i64 (L.t 0).ep, .int .i64 (L.t 0).sz, .int .i64 (L.t 0).sp, V 0,
    .bool (L.t 1).th, .int .i64 (L.t 1).ep, .int .i64 (L.t 1).sz, .int .i64 (L.t 1).sp, V 1,
    .bool (L.t 2).th, .int .i64 (L.t 2).ep, .int .i64 (L.t 2).sz, .int .i64 (L.t 2).sp, V 2,
    .bool (L.t 3).th, .int .i64 (L.t 3).ep, .int .i64 (L.t 3).sz, .int .i64 (L.t 3).sp, V 3]
theorem ledC_size (L : Led) (V : Nat → Value) : (ledC L V).size = 22 := rfl
theorem tensC_size (L : Led) (V : Nat → Value) : (tensC L V).size = 20 := rfl
theorem tenC_size (x : Ten) (v : Value) : (tenC x v).size = 5 := rfl
theorem led_tens (L : Led) (V : Nat → Value) : (ledC L V).extract 2 (2 + 20) = tensC L V := by simp [ledC, tensC]
theorem led_all (L : Led) (V : Nat → Value) : (ledC L V).extract 0 (0 + 22) = ledC L V := by simp [ledC]
theorem ten_all (x : Ten) (v : Value) : (tenC x v).extract 0 (0 + 5) = tenC x v := rfl

/-- A slice of ints is one cell. -/
def SliceV (v : Value) : Prop := ∃ a n c, v = .slice a n c
theorem Ints.slice {w : World} {v : Value} {xs : List Int} (h : Ints w v xs) : SliceV v := by
  obtain ⟨ao, cap, _, _, rfl, _⟩ := h.form
  exact ⟨_, _, _, rfl⟩
theorem SliceV.one {v : Value} (h : SliceV v) : v.oneCell' = true := by obtain ⟨a, n, c, rfl⟩ := h; rfl
theorem ten_one (x : Ten) {v : Value} (h : SliceV v) : (tenC x v).all (·.oneCell') = true := by
  obtain ⟨a, n, c, rfl⟩ := h
  simp [tenC, Value.oneCell']
theorem led_one (L : Led) {V : Nat → Value} (h : ∀ j, j < 4 → SliceV (V j)) : (ledC L V).all (·.oneCell') = true := by
  obtain ⟨_, _, _, h0⟩ := h 0 (by omega)
  obtain ⟨_, _, _, h1⟩ := h 1 (by omega)
  obtain ⟨_, _, _, h2⟩ := h 2 (by omega)
  obtain ⟨_, _, _, h3⟩ := h 3 (by omega)
  simp [ledC, h0, h1, h2, h3, Value.oneCell']

/-- A block that is known whole. -/
def Blk (w : World) (g : Nat) (t : TypeId) (cs : Array Value) : Prop := w.heap[g]? = some (.cells cs t (0, 0))
section
variable {w w' : World} {g : Nat} {t : TypeId} {cs : Array Value}
theorem Blk.lt (h : Blk w g t cs) : g < w.heap.size := (Array.getElem?_eq_some_iff.1 h).1
theorem Blk.cell (h : Blk w g t cs) (i : Nat) : w.cell? ⟨g, i, none⟩ = cs[i]? := cell_of_row w g i cs t (0, 0) h
theorem Blk.free (h : Blk w g t cs) (i : Nat) : w.frozen? ⟨g, i, none⟩ = false := frozen_of_row w g i cs t h
theorem Blk.kept {r : Option Nat} (h : Blk w g t cs) (hg : w.grownBy w' r) (hne : some g ≠ r) : Blk w' g t cs := (hg.block g h.lt hne).trans h
theorem Blk.ext (h : Blk w g t cs) (hg : w.grownBy w' none) : Blk w' g t cs := h.kept hg (by simp)
theorem Blk.alloc (h : Blk w g t cs) (o : Obj) : Blk (w.alloc o) g t cs := h.ext (World.grownBy_alloc w o none)
theorem Blk.new (w : World) (t : TypeId) (cs : Array Value) : Blk (w.alloc (.cells cs t)) w.heap.size t cs := heap_alloc_new w _
theorem Blk.newAt (w : World) (n : Nat) (hn : w.heap.size = n) (t : TypeId) (cs : Array Value) : Blk (w.alloc (.cells cs t)) n t cs := by subst hn; exact Blk.new w t cs
theorem Blk.set (h : Blk w g t cs) (i : Nat) (v : Value) : Blk (w.setCell ⟨g, i, none⟩ v) g t (cs.setIfInBounds i v) := heap_setCell_same w g i cs t v h
theorem Blk.far (h : Blk w g t cs) {a : Addr} (hne : g ≠ a.block) (v : Value) : Blk (w.setCell a v) g t cs := (heap_setCell_other w a g v hne).trans h
theorem Blk.drew (h : Blk w g t cs) : Blk w.drew g t cs := h
end

/-- Cells of the tenant k, by number. -/
theorem led_th (L : Led) (V : Nat → Value) {k : Nat} (h : k < 4) : (ledC L V)[2 + k * 5]? = some (.bool (L.t k).th) := by
  obtain rfl | rfl | rfl | rfl : k = 0 ∨ k = 1 ∨ k = 2 ∨ k = 3 := by omega
  all_goals rfl
theorem led_ep (L : Led) (V : Nat → Value) {k : Nat} (h : k < 4) : (ledC L V)[2 + k * 5 + 1]? = some (.int .i64 (L.t k).ep) := by
  obtain rfl | rfl | rfl | rfl : k = 0 ∨ k = 1 ∨ k = 2 ∨ k = 3 := by omega
  all_goals rfl
theorem led_sz (L : Led) (V : Nat → Value) {k : Nat} (h : k < 4) : (ledC L V)[2 + k * 5 + 2]? = some (.int .i64 (L.t k).sz) := by
  obtain rfl | rfl | rfl | rfl : k = 0 ∨ k = 1 ∨ k = 2 ∨ k = 3 := by omega
  all_goals rfl
theorem led_bs (L : Led) (V : Nat → Value) {k : Nat} (h : k < 4) : (ledC L V)[2 + k * 5 + 4]? = some (V k) := by
  obtain rfl | rfl | rfl | rfl : k = 0 ∨ k = 1 ∨ k = 2 ∨ k = 3 := by omega
  all_goals rfl
theorem led_gen (L : Led) (V : Nat → Value) : (ledC L V)[0]? = some (.int .i64 L.gen) := rfl
theorem led_eps (L : Led) (V : Nat → Value) : (ledC L V)[1]? = some (.int .i64 L.eps) := rfl
/-- The tenant k, whole. -/
theorem led_ten (L : Led) (V : Nat → Value) {k : Nat} (h : k < 4) : (ledC L V).extract (2 + k * 5) (2 + k * 5 + 5) = tenC (L.t k) (V k) := by
  obtain rfl | rfl | rfl | rfl : k = 0 ∨ k = 1 ∨ k = 2 ∨ k = 3 := by omega
  all_goals rfl
theorem tens_at (L : Led) (V : Nat → Value) {k : Nat} (h : k < 4) (w : World) : (Instr.index 34 (.agg (tensC L V)) (.int .i64 k)).run Tryz.prog w = .ok (.agg (tenC (L.t k) (V k))) w := by
  obtain rfl | rfl | rfl | rfl : k = 0 ∨ k = 1 ∨ k = 2 ∨ k = 3 := by omega
  all_goals kernel_rfl

/-- Another tenant k. -/
def updT (L : Led) (k : Nat) (x : Ten) : Led := { L with t := fun j => if j = k then x else L.t j }
def updV (V : Nat → Value) (k : Nat) (v : Value) : Nat → Value := fun j => if j = k then v else V j
theorem led_setV (L : Led) (V : Nat → Value) {k : Nat} (h : k < 4) (v : Value) : (ledC L V).setIfInBounds (2 + k * 5 + 4) v = ledC L (updV V k v) := by
  obtain rfl | rfl | rfl | rfl : k = 0 ∨ k = 1 ∨ k = 2 ∨ k = 3 := by omega
  all_goals rfl
theorem led_setT (L : Led) (V : Nat → Value) {k : Nat} (h : k < 4) (x : Ten) (v : Value) : ((ledC L V).toList.take (2 + k * 5) ++ (tenC x v).toList ++ (ledC L V).toList.drop (2 + k * 5 + (tenC x v).toList.length)).toArray = ledC (updT L k x) (updV V k v) := by
  obtain rfl | rfl | rfl | rfl : k = 0 ∨ k = 1 ∨ k = 2 ∨ k = 3 := by omega
  all_goals rfl
theorem led_setSz (L : Led) (V : Nat → Value) {k : Nat} (h : k < 4) (n : Int) : (ledC L V).setIfInBounds (2 + k * 5 + 2) (.int .i64 n) = ledC (updT L k { L.t k with sz := n }) V := by
  obtain rfl | rfl | rfl | rfl : k = 0 ∨ k = 1 ∨ k = 2 ∨ k = 3 := by omega
  all_goals rfl
theorem led_setGen (L : Led) (V : Nat → Value) (n : Int) : (ledC L V).setIfInBounds 0 (.int .i64 n) = ledC { L with gen := n } V := rfl
theorem led_setEps (L : Led) (V : Nat → Value) (n : Int) : (ledC L V).setIfInBounds 1 (.int .i64 n) = ledC { L with eps := n } V := rfl

/-- What the tenants' slices read as. -/
def LedIs (w : World) (L : Led) (V : Nat → Value) : Prop := ∀ j, j < 4 → Ints w (V j) (L.t j).bs
theorem LedIs.kept {w w' : World} {L : Led} {V : Nat → Value} {r : Option Nat} (h : LedIs w L V) (hg : w.grownBy w' r) (hne : ∀ j, j < 4 → ∀ k, (V j).ownBlock = some k → some k ≠ r) : LedIs w' L V := fun j hj => (h j hj).kept hg (hne j hj)
theorem LedIs.ext {w w' : World} {L : Led} {V : Nat → Value} (h : LedIs w L V) (hg : w.grownBy w' none) : LedIs w' L V := h.kept hg (by simp)
theorem LedIs.slices {w : World} {L : Led} {V : Nat → Value} (h : LedIs w L V) : ∀ j, j < 4 → SliceV (V j) := fun j hj => (h j hj).slice
theorem noLed_is (w : World) : LedIs w noLed (fun _ => nilS) := fun _ _ => .inl ⟨rfl, rfl⟩

theorem Tryz.sizeLed : (Tryz.prog.info? 36).map (·.size) = some 22 := by kernel_rfl
theorem Tryz.sizeTen : (Tryz.prog.info? 33).map (·.size) = some 5 := by kernel_rfl
theorem Tryz.sizeTens : (Tryz.prog.info? 34).map (·.size) = some 20 := by kernel_rfl
section
variable {ops : Array Oper} {rest : List Oper} {o : Oper} {a : Act} {w : World} {Q : Exit → Act → World → Prop}
theorem led_load (x : Operand) (ho : o.op = .load 36 x) {g : Nat} (hx : a.eval x = .pointer (some ⟨g, 0, none⟩)) {L : Led} {V : Nat → Value} (hg : Blk w g 36 (ledC L V)) (hwt : Region.wanted o (yielded ops a.tmps) = true)
    (h : wpList Tryz.prog ops Q rest (a.put o.dst (.agg (ledC L V))) w) : wpList Tryz.prog ops Q (o :: rest) a w :=
  wpList_load_part hwt _ x ho g 0 22 hx _ _ _ _ _ hg (led_all L V) rfl Tryz.underlying36 rfl Tryz.sizeLed h
theorem tens_load (x : Operand) (ho : o.op = .load 34 x) {g : Nat} (hx : a.eval x = .pointer (some ⟨g, 2, none⟩)) {L : Led} {V : Nat → Value} (hg : Blk w g 36 (ledC L V)) (hwt : Region.wanted o (yielded ops a.tmps) = true)
    (h : wpList Tryz.prog ops Q rest (a.put o.dst (.agg (tensC L V))) w) : wpList Tryz.prog ops Q (o :: rest) a w :=
  wpList_load_part hwt _ x ho g 2 20 hx _ _ _ _ _ hg (led_tens L V) rfl Tryz.underlying34 rfl Tryz.sizeTens h
theorem ten_load (x : Operand) (ho : o.op = .load 33 x) {g : Nat} (hx : a.eval x = .pointer (some ⟨g, 0, none⟩)) {y : Ten} {v : Value} (hg : Blk w g 33 (tenC y v)) (hwt : Region.wanted o (yielded ops a.tmps) = true)
    (h : wpList Tryz.prog ops Q rest (a.put o.dst (.agg (tenC y v))) w) : wpList Tryz.prog ops Q (o :: rest) a w :=
  wpList_load_part hwt _ x ho g 0 5 hx _ _ _ _ _ hg (ten_all y v) rfl Tryz.underlying33 rfl Tryz.sizeTen h
theorem ten_load_in (x : Operand) (ho : o.op = .load 33 x) {g k : Nat} (hk : k < 4) (hx : a.eval x = .pointer (some ⟨g, 2 + k * 5, none⟩)) {L : Led} {V : Nat → Value} (hg : Blk w g 36 (ledC L V)) (hwt : Region.wanted o (yielded ops a.tmps) = true)
    (h : wpList Tryz.prog ops Q rest (a.put o.dst (.agg (tenC (L.t k) (V k)))) w) : wpList Tryz.prog ops Q (o :: rest) a w :=
  wpList_load_part hwt _ x ho g (2 + k * 5) 5 hx _ _ _ _ _ hg (led_ten L V hk) rfl Tryz.underlying33 rfl Tryz.sizeTen h
theorem led_store (x y : Operand) (ho : o.op = .store 36 x y) {g : Nat} (hx : a.eval x = .pointer (some ⟨g, 0, none⟩)) {L : Led} {V : Nat → Value} (hy : a.eval y = .agg (ledC L V)) {old : Array Value} (hg : Blk w g 36 old) (hold : old.size = 22) (hV : ∀ j, j < 4 → SliceV (V j)) (hwt : Region.wanted o (yielded ops a.tmps) = true)
    (h : ∀ w', Blk w' g 36 (ledC L V) → w.grownBy w' (some g) → w'.heap.size = w.heap.size → wpList Tryz.prog ops Q rest (a.put o.dst undef) w') : wpList Tryz.prog ops Q (o :: rest) a w :=
  wpList_store_part hwt _ x y ho g 0 22 _ hx hy _ old _ hg rfl Tryz.sizeLed (by omega) (led_one L hV) (by
    have h1 : (ledC L V).toList.length = 22 := rfl
    rw [h1, List.drop_of_length_le (by simp; omega)]
    simp) h
theorem ten_store (x y : Operand) (ho : o.op = .store 33 x y) {g : Nat} (hx : a.eval x = .pointer (some ⟨g, 0, none⟩)) {z : Ten} {v : Value} (hy : a.eval y = .agg (tenC z v)) {old : Array Value} (hg : Blk w g 33 old) (hold : old.size = 5) (hV : SliceV v) (hwt : Region.wanted o (yielded ops a.tmps) = true)
    (h : ∀ w', Blk w' g 33 (tenC z v) → w.grownBy w' (some g) → w'.heap.size = w.heap.size → wpList Tryz.prog ops Q rest (a.put o.dst undef) w') : wpList Tryz.prog ops Q (o :: rest) a w :=
  wpList_store_part hwt _ x y ho g 0 5 _ hx hy _ old _ hg rfl Tryz.sizeTen (by omega) (ten_one z hV) (by
    have h1 : (tenC z v).toList.length = 5 := rfl
    rw [h1, List.drop_of_length_le (by simp; omega)]
    simp) h
theorem ten_store_in (x y : Operand) (ho : o.op = .store 33 x y) {g k : Nat} (hk : k < 4) (hx : a.eval x = .pointer (some ⟨g, 2 + k * 5, none⟩)) {z : Ten} {v : Value} (hy : a.eval y = .agg (tenC z v)) {L : Led} {V : Nat → Value} (hg : Blk w g 36 (ledC L V)) (hV : SliceV v) (hwt : Region.wanted o (yielded ops a.tmps) = true)
    (h : ∀ w', Blk w' g 36 (ledC (updT L k z) (updV V k v)) → w.grownBy w' (some g) → w'.heap.size = w.heap.size → wpList Tryz.prog ops Q rest (a.put o.dst undef) w') : wpList Tryz.prog ops Q (o :: rest) a w :=
  wpList_store_part hwt _ x y ho g (2 + k * 5) 5 _ hx hy _ _ _ hg rfl Tryz.sizeTen (by rw [ledC_size]; omega) (ten_one z hV) (led_setT L V hk z v) h
end

end Go.Proofs.YteionppcjgggiaaGreat

/-
  A ledger that came in.
-/
namespace Go.Proofs.YteionppcjgggiaaGreat
set_option linter.unusedVariables false
set_option linter.unusedSimpArgs false
set_option maxRecDepth 100000
open Go.RowKit Go.ChangeShapes Go.WideShapes

theorem row_intsW {w : World} {a : Option Addr} {len cap : Nat} {zs : List Int} (h : IsRow .i64 w a len cap zs) (hs : ∀ x, a = some x → x.spot = none ∧ x.block < w.heap.size) :
    Ints w (.slice a len cap) (zs.take len) ∧ (∀ k, (Value.slice a len cap).ownBlock = some k → k < w.heap.size) ∧ (zs.take len).length ≤ maxLen ∧ ∀ n ∈ zs.take len, (Lit.int .i64 n).wf = true := by
  rcases h with ⟨rfl, rfl, rfl, rfl⟩ | ⟨x, rfl, hl, hm, hz, hc, hw⟩
  · exact ⟨.inl ⟨rfl, rfl⟩, by simp [Value.ownBlock], Nat.zero_le _, by simp⟩
  · obtain ⟨hsp, hb⟩ := hs x rfl
    obtain ⟨b, off, sp⟩ := x
    simp only at hsp hb
    subst hsp
    have hlen : (zs.take len).length = len := by simp; omega
    refine ⟨.inr (.inl ⟨b, off, cap, by rw [hlen], by omega, fun i hi => ?_⟩), fun k hk => ?_, by omega, fun n hn => hw n (List.mem_of_mem_take hn)⟩
    · rw [hlen] at hi
      have := hc i (by omega)
      rw [addr_add] at this
      rw [this]
      simp [hi]
    · simp [Value.ownBlock] at hk
      omega

/-- What is known of a ledger that came in. -/
structure CameL (w : World) (L : Led) (V : Nat → Value) : Prop where
  is : LedIs w L V
  low : ∀ j, j < 4 → ∀ q, (V j).ownBlock = some q → q < w.heap.size
  len : ∀ j, j < 4 → (L.t j).bs.length ≤ maxLen
  wf : ∀ j, j < 4 → ∀ n ∈ (L.t j).bs, (Lit.int .i64 n).wf = true
  ep : ∀ j, j < 4 → (Lit.int .i64 (L.t j).ep).wf = true
  sz : ∀ j, j < 4 → (Lit.int .i64 (L.t j).sz).wf = true
  sp : ∀ j, j < 4 → (Lit.int .i64 (L.t j).sp).wf = true
  gen : (Lit.int .i64 L.gen).wf = true
  eps : (Lit.int .i64 L.eps).wf = true

def of4T {α : Type} (x y z u : α) : Nat → α
  | 0 => x
  | 1 => y
  | 2 => z
  | _ => u

section
variable {H : Type} {enc : TypeId × Value → H} {w : World} {base b0 : Nat} {held : Bool}

set_option maxRecDepth 100000 in
/-- One tenant out of its five cells. -/
theorem open_ten {n : Nat} {c0 c1 c2 c3 c4 : Value} {y : DataW H × List MemPlace} (hs : Value.okWide Tryz.prog w .any b0 31 c4) (h : DataW.trod enc Tryz.prog w base (fun _ => true) held n 33 [c0, c1, c2, c3, c4] = some y) :
    ∃ (x : Ten), [c0, c1, c2, c3, c4] = (tenC x c4).toList ∧ Ints w c4 x.bs ∧ (∀ q, c4.ownBlock = some q → q < w.heap.size) ∧ x.bs.length ≤ maxLen ∧ (∀ n ∈ x.bs, (Lit.int .i64 n).wf = true) ∧
      (Lit.int .i64 x.ep).wf = true ∧ (Lit.int .i64 x.sz).wf = true ∧ (Lit.int .i64 x.sp).wf = true := by
  obtain ⟨xs, m, _, _, _, hl, hat⟩ := DataW.trod_struct Tryz.underlying33 h
  have k0 : DataW.trod enc Tryz.prog w base (fun _ => true) held m 4 (([c0, c1, c2, c3, c4].drop 0).take (Tryz.prog.cellsOf 4)) = xs[0]? := hat 0 _ rfl
  have k1 : DataW.trod enc Tryz.prog w base (fun _ => true) held m 3 (([c0, c1, c2, c3, c4].drop 1).take (Tryz.prog.cellsOf 3)) = xs[1]? := hat 1 _ rfl
  have k2 : DataW.trod enc Tryz.prog w base (fun _ => true) held m 3 (([c0, c1, c2, c3, c4].drop 2).take (Tryz.prog.cellsOf 3)) = xs[2]? := hat 2 _ rfl
  have k3 : DataW.trod enc Tryz.prog w base (fun _ => true) held m 3 (([c0, c1, c2, c3, c4].drop 3).take (Tryz.prog.cellsOf 3)) = xs[3]? := hat 3 _ rfl
  have k4 : DataW.trod enc Tryz.prog w base (fun _ => true) held m 31 (([c0, c1, c2, c3, c4].drop 4).take (Tryz.prog.cellsOf 31)) = xs[4]? := hat 4 _ rfl
  have hl5 : xs.length = 5 := hl
  rw [show Tryz.prog.cellsOf 4 = 1 by kernel_rfl] at k0
  rw [show Tryz.prog.cellsOf 3 = 1 by kernel_rfl] at k1 k2 k3
  rw [show Tryz.prog.cellsOf 31 = 1 by kernel_rfl] at k4
  rw [List.getElem?_eq_getElem (by omega)] at k0 k1 k2 k3 k4
  obtain ⟨b, e0, _⟩ := DataW.trod_bool Tryz.underlying4 k0
  obtain ⟨n1, e1, _, w1⟩ := DataW.trod_int Tryz.underlying3 k1
  obtain ⟨n2, e2, _, w2⟩ := DataW.trod_int Tryz.underlying3 k2
  obtain ⟨n3, e3, _, w3⟩ := DataW.trod_int Tryz.underlying3 k3
  obtain ⟨a4, l4, p4, rfl⟩ := okWide_slice Tryz.underlying31 hs
  simp at e0 e1 e2 e3
  obtain ⟨zs, hz⟩ := row_of (d := (xs[4]).1) (p := (xs[4]).2) (a := a4) (len := l4) (cap := p4) Tryz.underlying31 Tryz.underlying3 (by kernel_rfl) ⟨m, k4⟩
  obtain ⟨r1, r2, r3, r4⟩ := row_intsW hz (fun x hx => by cases hx; exact slice_good Tryz.underlying31 hs)
  exact ⟨⟨b, n1, n2, n3, zs.take l4⟩, by simp [tenC, e0, e1, e2, e3], r1, r2, r3, r4, w1, w2, w3⟩

set_option maxRecDepth 100000 in
theorem open_led {v : Value} {d : DataW H} {p : List MemPlace} (hv : Value.okWide Tryz.prog w .any b0 36 v) (h : DataW.Trod enc Tryz.prog w base (fun _ => true) held 36 v d p) : ∃ (L : Led) (V : Nat → Value), v = .agg (ledC L V) ∧ CameL w L V := by
  simp only [Value.okWide, Tryz.underlying36] at hv
  obtain ⟨cs, rfl, hsz, ts, h1, _, hall⟩ := hv
  rw [show Tryz.prog.cellTypes Tryz.prog.depth 36 = some [3, 3, 4, 3, 3, 3, 31, 4, 3, 3, 3, 31, 4, 3, 3, 3, 31, 4, 3, 3, 3, 31] by kernel_rfl] at h1
  obtain rfl := Option.some.inj h1
  rw [show Tryz.prog.cellsOf 36 = 22 by kernel_rfl] at hsz
  obtain ⟨l⟩ := cs
  obtain ⟨c0, c1, c2, c3, c4, c5, c6, c7, c8, c9, c10, c11, c12, c13, c14, c15, c16, c17, c18, c19, c20, c21, rfl⟩ : ∃ c0 c1 c2 c3 c4 c5 c6 c7 c8 c9 c10 c11 c12 c13 c14 c15 c16 c17 c18 c19 c20 c21, l = [c0, c1, c2, c3, c4, c5, c6, c7, c8, c9, c10, c11, c12, c13, c14, c15, c16, c17, c18, c19, c20, c21] := by
    match l, (show l.length = 22 by simpa using hsz) with
    | [a0, a1, a2, a3, a4, a5, a6, a7, a8, a9, a10, a11, a12, a13, a14, a15, a16, a17, a18, a19, a20, a21], _ => exact ⟨a0, a1, a2, a3, a4, a5, a6, a7, a8, a9, a10, a11, a12, a13, a14, a15, a16, a17, a18, a19, a20, a21, rfl⟩
  have sl : ∀ (i : Nat) (v : Value), #[c0, c1, c2, c3, c4, c5, c6, c7, c8, c9, c10, c11, c12, c13, c14, c15, c16, c17, c18, c19, c20, c21][i]? = some v → (i = 6 ∨ i = 11 ∨ i = 16 ∨ i = 21) → Value.okWide Tryz.prog w .any b0 31 v := by
    intro i v hi hk
    obtain ⟨u, hu, hw⟩ := hall i v hi
    have hus : 31 = u := by rcases hk with rfl | rfl | rfl | rfl <;> simpa using hu
    subst hus
    simpa only [Value.okWide, Tryz.underlying31] using hw
  have s0 := sl 6 c6 rfl (by omega)
  have s1 := sl 11 c11 rfl (by omega)
  have s2 := sl 16 c16 rfl (by omega)
  have s3 := sl 21 c21 rfl (by omega)
  obtain ⟨fuel, hf⟩ := h
  obtain ⟨xs, m, _, _, _, hl, hat⟩ := DataW.trod_struct Tryz.underlying36 hf
  have hl3 : xs.length = 3 := hl
  have k0 : DataW.trod enc Tryz.prog w base (fun _ => true) held m 3 (([c0, c1, c2, c3, c4, c5, c6, c7, c8, c9, c10, c11, c12, c13, c14, c15, c16, c17, c18, c19, c20, c21].drop 0).take (Tryz.prog.cellsOf 3)) = xs[0]? := hat 0 _ rfl
  have k1 : DataW.trod enc Tryz.prog w base (fun _ => true) held m 3 (([c0, c1, c2, c3, c4, c5, c6, c7, c8, c9, c10, c11, c12, c13, c14, c15, c16, c17, c18, c19, c20, c21].drop 1).take (Tryz.prog.cellsOf 3)) = xs[1]? := hat 1 _ rfl
  have k2 : DataW.trod enc Tryz.prog w base (fun _ => true) held m 34 (([c0, c1, c2, c3, c4, c5, c6, c7, c8, c9, c10, c11, c12, c13, c14, c15, c16, c17, c18, c19, c20, c21].drop 2).take (Tryz.prog.cellsOf 34)) = xs[2]? := hat 2 _ rfl
  rw [show Tryz.prog.cellsOf 3 = 1 by kernel_rfl] at k0 k1
  rw [show Tryz.prog.cellsOf 34 = 20 by kernel_rfl] at k2
  rw [List.getElem?_eq_getElem (by omega)] at k0 k1 k2
  obtain ⟨g, e0, _, w0⟩ := DataW.trod_int Tryz.underlying3 k0
  obtain ⟨e, e1, _, w1⟩ := DataW.trod_int Tryz.underlying3 k1
  obtain ⟨ys, m2, _, _, _, hyl, hy⟩ := DataW.trod_array Tryz.underlying34 k2
  have hy0 := hy 0 (by omega)
  have hy1 := hy 1 (by omega)
  have hy2 := hy 2 (by omega)
  have hy3 := hy 3 (by omega)
  rw [show Tryz.prog.cellsOf 33 = 5 by kernel_rfl] at hy0 hy1 hy2 hy3
  rw [List.getElem?_eq_getElem (by omega)] at hy0 hy1 hy2 hy3
  obtain ⟨x0, q0, i0, o0, n0, f0, p0, z0, r0⟩ := open_ten (c0 := c2) (c1 := c3) (c2 := c4) (c3 := c5) (c4 := c6) s0 hy0
  obtain ⟨x1, q1, i1, o1, n1, f1, p1, z1, r1⟩ := open_ten (c0 := c7) (c1 := c8) (c2 := c9) (c3 := c10) (c4 := c11) s1 hy1
  obtain ⟨x2, q2, i2, o2, n2, f2, p2, z2, r2⟩ := open_ten (c0 := c12) (c1 := c13) (c2 := c14) (c3 := c15) (c4 := c16) s2 hy2
  obtain ⟨x3, q3, i3, o3, n3, f3, p3, z3, r3⟩ := open_ten (c0 := c17) (c1 := c18) (c2 := c19) (c3 := c20) (c4 := c21) s3 hy3
  simp at e0 e1
  simp [tenC] at q0 q1 q2 q3
  refine ⟨⟨g, e, of4T x0 x1 x2 x3⟩, of4T c6 c11 c16 c21, ?_, ?_⟩
  · simp [ledC, of4T, e0, e1, q0, q1, q2, q3]
  · have four : ∀ {p : Nat → Prop}, p 0 → p 1 → p 2 → p 3 → ∀ j, j < 4 → p j := fun a b c d j hj => by
      have e : j = 0 ∨ j = 1 ∨ j = 2 ∨ j = 3 := by omega
      rcases e with rfl | rfl | rfl | rfl
      · exact a
      · exact b
      · exact c
      · exact d
    exact ⟨four i0 i1 i2 i3, four (p := fun j => ∀ q, (of4T c6 c11 c16 c21 j).ownBlock = some q → q < w.heap.size) o0 o1 o2 o3, four (p := fun j => (of4T x0 x1 x2 x3 j).bs.length ≤ maxLen) n0 n1 n2 n3, four (p := fun j => ∀ n ∈ (of4T x0 x1 x2 x3 j).bs, (Lit.int .i64 n).wf = true) f0 f1 f2 f3,
      four (p := fun j => (Lit.int .i64 (of4T x0 x1 x2 x3 j).ep).wf = true) p0 p1 p2 p3, four (p := fun j => (Lit.int .i64 (of4T x0 x1 x2 x3 j).sz).wf = true) z0 z1 z2 z3, four (p := fun j => (Lit.int .i64 (of4T x0 x1 x2 x3 j).sp).wf = true) r0 r1 r2 r3, w0, w1⟩
end

end Go.Proofs.YteionppcjgggiaaGreat

/-
  Slices of ledgers that came in.
-/
namespace Go.Proofs.YteionppcjgggiaaGreat
set_option linter.unusedVariables false
set_option linter.unusedSimpArgs false
set_option maxRecDepth 100000
open Go.RowKit Go.ChangeShapes Go.WideShapes Go.Deep

theorem cell_spot {w : World} {a : Addr} {v : Value} (h : w.cell? a = some v) : a.spot = none := by
  unfold World.cell? at h
  split at h
  · split at h
    · cases h
    · rename_i hs; simpa using hs
  · cases h
theorem add_zero (a : Addr) : a.add 0 = a := by unfold Addr.add; simp
theorem row_ints0 {w : World} {a : Option Addr} {len cap : Nat} {zs : List Int} (h : IsRow .i64 w a len cap zs) :
    Ints w (.slice a len cap) (zs.take len) ∧ (0 < (zs.take len).length → ∀ q, (Value.slice a len cap).ownBlock = some q → q < w.heap.size) ∧ (zs.take len).length ≤ maxLen ∧ ∀ n ∈ zs.take len, (Lit.int .i64 n).wf = true := by
  rcases h with ⟨rfl, rfl, rfl, rfl⟩ | ⟨x, rfl, hl, hm, hz, hc, hw⟩
  · exact ⟨.inl ⟨rfl, rfl⟩, by simp, Nat.zero_le _, by simp⟩
  · have hlen : (zs.take len).length = len := by simp; omega
    have hwf : ∀ n ∈ zs.take len, (Lit.int .i64 n).wf = true := fun n hn => hw n (List.mem_of_mem_take hn)
    by_cases h0 : len = 0
    · subst h0
      exact ⟨.inr (.inr ⟨x, cap, rfl, by simp⟩), fun hh => by simp at hh, by simp, hwf⟩
    · have hc0 := hc 0 (by omega)
      rw [add_zero] at hc0
      have hsp := cell_spot hc0
      obtain ⟨b, off, sp⟩ := x
      simp only at hsp
      subst hsp
      refine ⟨.inr (.inl ⟨b, off, cap, by rw [hlen], by omega, fun i hi => ?_⟩), fun _ q hq => ?_, by omega, hwf⟩
      · rw [hlen] at hi
        have := hc i (by omega)
        rw [addr_add] at this
        rw [this]
        simp [hi]
      · simp [Value.ownBlock] at hq
        have := World.block_lt_of_cell? w _ hc0
        simp only at this
        omega

/-- What is known of a ledger that lies in memory that came in. -/
structure CameL0 (w : World) (L : Led) (V : Nat → Value) : Prop where
  is : LedIs w L V
  low : ∀ j, j < 4 → 0 < (L.t j).bs.length → ∀ q, (V j).ownBlock = some q → q < w.heap.size
  len : ∀ j, j < 4 → (L.t j).bs.length ≤ maxLen
  wf : ∀ j, j < 4 → ∀ n ∈ (L.t j).bs, (Lit.int .i64 n).wf = true
  ep : ∀ j, j < 4 → (Lit.int .i64 (L.t j).ep).wf = true

section
variable {H : Type} {enc : TypeId × Value → H} {w : World} {base : Nat} {held : Bool}

set_option maxRecDepth 100000 in
theorem open_ten0 {n : Nat} {c0 c1 c2 c3 c4 : Value} {y : DataW H × List MemPlace} (h : DataW.trod enc Tryz.prog w base (fun _ => true) held n 33 [c0, c1, c2, c3, c4] = some y) :
    ∃ (x : Ten), [c0, c1, c2, c3, c4] = (tenC x c4).toList ∧ Ints w c4 x.bs ∧ (0 < x.bs.length → ∀ q, c4.ownBlock = some q → q < w.heap.size) ∧ x.bs.length ≤ maxLen ∧ (∀ n ∈ x.bs, (Lit.int .i64 n).wf = true) ∧ (Lit.int .i64 x.ep).wf = true := by
  obtain ⟨xs, m, _, _, _, hl, hat⟩ := DataW.trod_struct Tryz.underlying33 h
  have k0 : DataW.trod enc Tryz.prog w base (fun _ => true) held m 4 (([c0, c1, c2, c3, c4].drop 0).take (Tryz.prog.cellsOf 4)) = xs[0]? := hat 0 _ rfl
  have k1 : DataW.trod enc Tryz.prog w base (fun _ => true) held m 3 (([c0, c1, c2, c3, c4].drop 1).take (Tryz.prog.cellsOf 3)) = xs[1]? := hat 1 _ rfl
  have k2 : DataW.trod enc Tryz.prog w base (fun _ => true) held m 3 (([c0, c1, c2, c3, c4].drop 2).take (Tryz.prog.cellsOf 3)) = xs[2]? := hat 2 _ rfl
  have k3 : DataW.trod enc Tryz.prog w base (fun _ => true) held m 3 (([c0, c1, c2, c3, c4].drop 3).take (Tryz.prog.cellsOf 3)) = xs[3]? := hat 3 _ rfl
  have k4 : DataW.trod enc Tryz.prog w base (fun _ => true) held m 31 (([c0, c1, c2, c3, c4].drop 4).take (Tryz.prog.cellsOf 31)) = xs[4]? := hat 4 _ rfl
  have hl5 : xs.length = 5 := hl
  rw [show Tryz.prog.cellsOf 4 = 1 by kernel_rfl] at k0
  rw [show Tryz.prog.cellsOf 3 = 1 by kernel_rfl] at k1 k2 k3
  rw [show Tryz.prog.cellsOf 31 = 1 by kernel_rfl] at k4
  rw [List.getElem?_eq_getElem (by omega)] at k0 k1 k2 k3 k4
  obtain ⟨b, e0, _⟩ := DataW.trod_bool Tryz.underlying4 k0
  obtain ⟨n1, e1, _, w1⟩ := DataW.trod_int Tryz.underlying3 k1
  obtain ⟨n2, e2, _, w2⟩ := DataW.trod_int Tryz.underlying3 k2
  obtain ⟨n3, e3, _, w3⟩ := DataW.trod_int Tryz.underlying3 k3
  simp at e0 e1 e2 e3
  obtain ⟨a4, l4, p4, zs, hv, hr⟩ : ∃ a len cap zs, c4 = .slice a len cap ∧ IsRow .i64 w a len cap zs := by
    rcases open_ints Tryz.underlying31 Tryz.underlying3 (by kernel_rfl) k4 with ⟨hcs, _⟩ | ⟨x, l, c, zs, hcs, _, hl, hm, hz, _, hcell, hwz⟩
    · simp at hcs
      exact ⟨none, 0, 0, [], hcs, .inl ⟨rfl, rfl, rfl, rfl⟩⟩
    · simp at hcs
      exact ⟨some x, l, c, zs, hcs, .inr ⟨_, rfl, hl, hm, by simpa using hz, hcell, hwz⟩⟩
  subst hv
  obtain ⟨r1, r2, r3, r4⟩ := row_ints0 hr
  exact ⟨⟨b, n1, n2, n3, zs.take l4⟩, by simp [tenC, e0, e1, e2, e3], r1, r2, r3, r4, w1⟩

set_option maxRecDepth 100000 in
theorem open_led0 {n : Nat} {l : List Value} {y : DataW H × List MemPlace} (hlen : l.length = 22) (hf : DataW.trod enc Tryz.prog w base (fun _ => true) held n 36 l = some y) : ∃ (L : Led) (V : Nat → Value), l = (ledC L V).toList ∧ CameL0 w L V := by
  obtain ⟨c0, c1, c2, c3, c4, c5, c6, c7, c8, c9, c10, c11, c12, c13, c14, c15, c16, c17, c18, c19, c20, c21, rfl⟩ : ∃ c0 c1 c2 c3 c4 c5 c6 c7 c8 c9 c10 c11 c12 c13 c14 c15 c16 c17 c18 c19 c20 c21, l = [c0, c1, c2, c3, c4, c5, c6, c7, c8, c9, c10, c11, c12, c13, c14, c15, c16, c17, c18, c19, c20, c21] := by
    match l, hlen with
    | [a0, a1, a2, a3, a4, a5, a6, a7, a8, a9, a10, a11, a12, a13, a14, a15, a16, a17, a18, a19, a20, a21], _ => exact ⟨a0, a1, a2, a3, a4, a5, a6, a7, a8, a9, a10, a11, a12, a13, a14, a15, a16, a17, a18, a19, a20, a21, rfl⟩
  obtain ⟨xs, m, _, _, _, hl, hat⟩ := DataW.trod_struct Tryz.underlying36 hf
  have hl3 : xs.length = 3 := hl
  have k0 : DataW.trod enc Tryz.prog w base (fun _ => true) held m 3 (([c0, c1, c2, c3, c4, c5, c6, c7, c8, c9, c10, c11, c12, c13, c14, c15, c16, c17, c18, c19, c20, c21].drop 0).take (Tryz.prog.cellsOf 3)) = xs[0]? := hat 0 _ rfl
  have k1 : DataW.trod enc Tryz.prog w base (fun _ => true) held m 3 (([c0, c1, c2, c3, c4, c5, c6, c7, c8, c9, c10, c11, c12, c13, c14, c15, c16, c17, c18, c19, c20, c21].drop 1).take (Tryz.prog.cellsOf 3)) = xs[1]? := hat 1 _ rfl
  have k2 : DataW.trod enc Tryz.prog w base (fun _ => true) held m 34 (([c0, c1, c2, c3, c4, c5, c6, c7, c8, c9, c10, c11, c12, c13, c14, c15, c16, c17, c18, c19, c20, c21].drop 2).take (Tryz.prog.cellsOf 34)) = xs[2]? := hat 2 _ rfl
  rw [show Tryz.prog.cellsOf 3 = 1 by kernel_rfl] at k0 k1
  rw [show Tryz.prog.cellsOf 34 = 20 by kernel_rfl] at k2
  rw [List.getElem?_eq_getElem (by omega)] at k0 k1 k2
  obtain ⟨g, e0, _, w0⟩ := DataW.trod_int Tryz.underlying3 k0
  obtain ⟨e, e1, _, w1⟩ := DataW.trod_int Tryz.underlying3 k1
  obtain ⟨ys, m2, _, _, _, hyl, hy⟩ := DataW.trod_array Tryz.underlying34 k2
  have hy0 := hy 0 (by omega)
  have hy1 := hy 1 (by omega)
  have hy2 := hy 2 (by omega)
  have hy3 := hy 3 (by omega)
  rw [show Tryz.prog.cellsOf 33 = 5 by kernel_rfl] at hy0 hy1 hy2 hy3
  rw [List.getElem?_eq_getElem (by omega)] at hy0 hy1 hy2 hy3
  obtain ⟨x0, q0, i0, o0, n0, f0, p0⟩ := open_ten0 (c0 := c2) (c1 := c3) (c2 := c4) (c3 := c5) (c4 := c6) hy0
  obtain ⟨x1, q1, i1, o1, n1, f1, p1⟩ := open_ten0 (c0 := c7) (c1 := c8) (c2 := c9) (c3 := c10) (c4 := c11) hy1
  obtain ⟨x2, q2, i2, o2, n2, f2, p2⟩ := open_ten0 (c0 := c12) (c1 := c13) (c2 := c14) (c3 := c15) (c4 := c16) hy2
  obtain ⟨x3, q3, i3, o3, n3, f3, p3⟩ := open_ten0 (c0 := c17) (c1 := c18) (c2 := c19) (c3 := c20) (c4 := c21) hy3
  simp at e0 e1
  simp [tenC] at q0 q1 q2 q3
  refine ⟨⟨g, e, of4T x0 x1 x2 x3⟩, of4T c6 c11 c16 c21, ?_, ?_⟩
  · simp [ledC, of4T, e0, e1, q0, q1, q2, q3]
  · have four : ∀ {p : Nat → Prop}, p 0 → p 1 → p 2 → p 3 → ∀ j, j < 4 → p j := fun a b c d j hj => by
      have e : j = 0 ∨ j = 1 ∨ j = 2 ∨ j = 3 := by omega
      rcases e with rfl | rfl | rfl | rfl
      · exact a
      · exact b
      · exact c
      · exact d
    exact ⟨four i0 i1 i2 i3, four (p := fun j => 0 < (of4T x0 x1 x2 x3 j).bs.length → ∀ q, (of4T c6 c11 c16 c21 j).ownBlock = some q → q < w.heap.size) o0 o1 o2 o3, four (p := fun j => (of4T x0 x1 x2 x3 j).bs.length ≤ maxLen) n0 n1 n2 n3,
      four (p := fun j => ∀ n ∈ (of4T x0 x1 x2 x3 j).bs, (Lit.int .i64 n).wf = true) f0 f1 f2 f3, four (p := fun j => (Lit.int .i64 (of4T x0 x1 x2 x3 j).ep).wf = true) p0 p1 p2 p3⟩

/-- A slice of ledgers: nil, or its cells. -/
def IsLeds (w : World) (a : Option Addr) (len cap : Nat) (Ls : Nat → Led) (Vs : Nat → Nat → Value) : Prop :=
  len ≤ maxLen ∧ ∀ i, i < len → (∃ b off, a = some ⟨b, off, none⟩ ∧ w.rangeAt b (off + i * 22) (ledC (Ls i) (Vs i)).toList ∧ b < w.heap.size) ∧ CameL0 w (Ls i) (Vs i)
theorem open_leds {a : Option Addr} {len cap : Nat} {fuel : Nat} {x : DataW H × List MemPlace} (h : DataW.trod enc Tryz.prog w base (fun _ => true) held fuel 22 [.slice a len cap] = some x) : ∃ Ls Vs, IsLeds w a len cap Ls Vs := by
  rcases open_slice Tryz.underlying22 h with ⟨h0, _⟩ | ⟨b, n, c, m, q, D, Pl, hcs, _, h1, h2, hm, _, hi⟩
  · simp at h0
    obtain ⟨rfl, rfl, rfl⟩ := h0
    exact ⟨fun _ => noLed, fun _ _ => nilS, Nat.zero_le _, fun i hi => by omega⟩
  · simp at hcs
    obtain ⟨rfl, rfl, rfl⟩ := hcs
    have key : ∀ i, ∃ (LV : Led × (Nat → Value)), i < len → (∃ b' off, some b = some ⟨b', off, none⟩ ∧ w.rangeAt b' (off + i * 22) (ledC LV.1 LV.2).toList ∧ b' < w.heap.size) ∧ CameL0 w LV.1 LV.2 := fun i => by
      by_cases hin : i < len
      · have him : i < m := by rw [hm]; split <;> omega
        obtain ⟨cs, hc, hs⟩ := hi i him
        obtain ⟨_, hcl, hat⟩ := World.cells?_some hc
        rw [show Tryz.prog.cellsOf 36 = 22 by kernel_rfl] at hcl hat
        obtain ⟨L, V, hl, hC⟩ := open_led0 hcl hs
        refine ⟨(L, V), fun _ => ⟨?_, hC⟩⟩
        have h00 := hat 0 (by omega)
        have hsp : b.spot = none := by
          have e : ((b.add (i * 22)).add 0) = b.add (i * 22) := add_zero _
          rw [e, hl] at h00
          by_cases h0 : i = 0
          · subst h0
            rw [Nat.zero_mul, add_zero] at h00
            exact cell_spot (h00.trans (show (ledC L V).toList[0]? = some (.int .i64 L.gen) from rfl))
          · have hi0 := hi 0 (by omega)
            obtain ⟨cs0, hc0, _⟩ := hi0
            obtain ⟨_, hcl0, hat0⟩ := World.cells?_some hc0
            rw [show Tryz.prog.cellsOf 36 = 22 by kernel_rfl] at hcl0 hat0
            have h000 := hat0 0 (by omega)
            rw [Nat.zero_mul, add_zero, add_zero] at h000
            exact cell_spot (h000.trans (List.getElem?_eq_getElem (by omega)))
        obtain ⟨b', off, sp⟩ := b
        simp only at hsp
        subst hsp
        refine ⟨b', off, rfl, fun j v hv => ?_, ?_⟩
        · have hj : j < cs.length := by rw [hl]; exact (List.getElem?_eq_some_iff.1 hv).1
          have hcell := hat j (by omega)
          rw [Go.Deep.add_add, addr_add] at hcell
          rw [Nat.add_assoc, hcell, hl]
          exact hv
        · have hcell := hat 0 (by omega)
          rw [Go.Deep.add_add, addr_add] at hcell
          have := World.block_lt_of_cell? w _ (hcell.trans (List.getElem?_eq_getElem (by omega)))
          exact this
      · exact ⟨(noLed, fun _ => nilS), fun h => absurd h hin⟩
    refine ⟨fun i => (Classical.choose (key i)).1, fun i => (Classical.choose (key i)).2, by omega, fun i hi => Classical.choose_spec (key i) hi⟩

/-- A slice of Booleans. -/
def IsBools (w : World) (a : Option Addr) (len _cap : Nat) (bs : Nat → Bool) : Prop :=
  len ≤ maxLen ∧ ∀ i, i < len → ∃ b off, a = some ⟨b, off, none⟩ ∧ w.cell? ⟨b, off + i, none⟩ = some (.bool (bs i)) ∧ b < w.heap.size
theorem open_bools0 {t e : TypeId} {a : Option Addr} {len cap : Nat} {fuel : Nat} {x : DataW H × List MemPlace} (ht : Tryz.prog.underlying t = some (.slice e)) (he : Tryz.prog.underlying e = some .bool) (hc1 : Tryz.prog.cellsOf e = 1)
    (h : DataW.trod enc Tryz.prog w base (fun _ => true) held fuel t [.slice a len cap] = some x) : ∃ bs, IsBools w a len cap bs := by
  rcases open_slice ht h with ⟨h0, _⟩ | ⟨b, n, c, m, q, D, Pl, hcs, _, h1, h2, hm, _, hi⟩
  · simp at h0
    obtain ⟨rfl, rfl, rfl⟩ := h0
    exact ⟨fun _ => false, Nat.zero_le _, fun i hi => by omega⟩
  · simp at hcs
    obtain ⟨rfl, rfl, rfl⟩ := hcs
    have key : ∀ i, ∃ (u : Bool), i < len → ∃ b' off, some b = some ⟨b', off, none⟩ ∧ w.cell? ⟨b', off + i, none⟩ = some (.bool u) ∧ b' < w.heap.size := fun i => by
      by_cases hin : i < len
      · have him : i < m := by rw [hm]; split <;> omega
        have hat : ∀ i, i < m → ∃ u, w.cell? (b.add i) = some (.bool u) := fun i him => by
          obtain ⟨cs, hc, hs⟩ := hi i him
          obtain ⟨_, hcl, hat⟩ := World.cells?_some hc
          rw [hc1] at hcl hat
          obtain ⟨v, rfl⟩ : ∃ v, cs = [v] := by match cs, hcl with | [v], _ => exact ⟨v, rfl⟩
          obtain ⟨u, hu, _⟩ := DataW.trod_bool he hs
          simp at hu
          have h00 := hat 0 (by omega)
          rw [add_zero, Nat.mul_one] at h00
          exact ⟨u, by rw [h00, hu]; rfl⟩
        have hsp : b.spot = none := by
          obtain ⟨u, hu⟩ := hat 0 (by omega)
          rw [add_zero] at hu
          exact cell_spot hu
        obtain ⟨u, hu⟩ := hat i him
        obtain ⟨b', off, sp⟩ := b
        simp only at hsp
        subst hsp
        rw [addr_add] at hu
        exact ⟨u, fun _ => ⟨b', off, rfl, hu, World.block_lt_of_cell? w _ hu⟩⟩
      · exact ⟨false, fun h => absurd h hin⟩
    exact ⟨fun i => Classical.choose (key i), by omega, fun i hi => Classical.choose_spec (key i) hi⟩
end

end Go.Proofs.YteionppcjgggiaaGreat

/-
  The walks of the small functions of package word that make no memory: isSize, Fits (and the document's), stopped.
-/
namespace Go.Proofs.YteionppcjgggiaaGreat
set_option linter.unusedVariables false
set_option linter.unusedSimpArgs false
set_option maxRecDepth 100000
open Go.RowKit

theorem ret_bool {a b : Bool} (h : a = b) : Ending.returned (.bool a) = .returned (.bool b) := by rw [h]
theorem ret_int {k : IntKind} {a b : Int} (h : a = b) : Ending.returned (.int k a) = .returned (.int k b) := by rw [h]

def sizeB (n : Int) : Bool := decide (n = 1 ∨ n = 2 ∨ n = 4)

set_option maxHeartbeats 400000 in
theorem isSize_any (n : Int) (w : World) :
    Calls Tryz.prog 100 #[.int .i64 n] w fun e w' => e = .returned (.bool (sizeB n)) ∧ w = w' := by
  by_cases h1 : n = 1
  · subst h1
    go_enter Tryz.func100, Tryz.ntmps100
    go_wp2
    go_ret
    exact ⟨ret_bool (by simp [sizeB]), rfl⟩
  · by_cases h2 : n = 2
    · subst h2
      go_enter Tryz.func100, Tryz.ntmps100
      go_wp2
      go_ret
      exact ⟨ret_bool (by simp [sizeB]), rfl⟩
    · have e1 : (n == 1) = false := by simpa using h1
      have e2 : (n == 2) = false := by simpa using h2
      go_enter Tryz.func100, Tryz.ntmps100
      go_wp2
      go_ret
      refine ⟨ret_bool ?_, rfl⟩
      rw [Bool.eq_iff_iff]
      simp [sizeB]
      omega

/-- Whether a number can be written by so many bytes. -/
def fitsB (v n : Int) : Bool := decide (0 ≤ v ∧ ((n = 1 ∧ v ≤ 255) ∨ (n = 2 ∧ v ≤ 65535) ∨ (n = 4 ∧ v ≤ 4294967295)))

theorem fits_u64 (v : Int) (h0 : 0 ≤ v) (h1 : v ≤ 9223372036854775807) : IntKind.u64.wrap v = v := by
  simp [IntKind.wrap, IntKind.bits, IntKind.signed]
  omega

set_option maxHeartbeats 400000 in
theorem fits_any (v n : Int) (w : World) (hv9 : v ≤ 9223372036854775807) :
    Calls Tryz.prog 76 #[.int .i64 v, .int .i64 n] w fun e w' => e = .returned (.bool (fitsB v n)) ∧ w = w' := by
  by_cases hs : sizeB n = true
  · have hn : n = 1 ∨ n = 2 ∨ n = 4 := by simpa [sizeB] using hs
    by_cases hv : 0 ≤ v
    · have hu := fits_u64 v hv hv9
      rcases hn with rfl | rfl | rfl
      all_goals
        go_enter Tryz.func76, Tryz.ntmps76
        go_wp2_with (go_at_call 100; refine (isSize_any _ _).mono ?_; rintro e w' ⟨rfl, rfl⟩)
        go_ret
        refine ⟨ret_bool ?_, rfl⟩
        rw [Bool.eq_iff_iff]
        simp [fitsB]
        omega
    · have hv0 : decide (0 ≤ v) = false := by simpa using hv
      go_enter Tryz.func76, Tryz.ntmps76
      go_wp2_with (go_at_call 100; refine (isSize_any _ _).mono ?_; rintro e w' ⟨rfl, rfl⟩)
      go_ret
      refine ⟨ret_bool ?_, rfl⟩
      simp [fitsB]
      omega
  · have hs' : sizeB n = false := by simpa using hs
    go_enter Tryz.func76, Tryz.ntmps76
    go_wp2_with (go_at_call 100; refine (isSize_any _ _).mono ?_; rintro e w' ⟨rfl, rfl⟩)
    go_ret
    refine ⟨ret_bool ?_, rfl⟩
    have hn : ¬ (n = 1 ∨ n = 2 ∨ n = 4) := by simpa [sizeB] using hs'
    rw [Bool.eq_iff_iff]
    simp [fitsB]
    omega

set_option maxHeartbeats 400000 in
theorem refFits_any (v n : Int) (w : World) :
    Calls Tryz.prog 43 #[.int .i64 v, .int .i64 n] w fun e w' => e = .returned (.bool (fitsB v n)) ∧ w = w' := by
  have cases : n = 1 ∨ n = 2 ∨ n = 4 ∨ (¬ n = 1 ∧ ¬ n = 2 ∧ ¬ n = 4) := by omega
  rcases cases with rfl | rfl | rfl | ⟨h1, h2, h4⟩
  all_goals
    by_cases hv : 0 ≤ v
    all_goals
      go_enter Tryz.func43, Tryz.ntmps43
      go_wp2
      all_goals
        go_ret
        refine ⟨ret_bool ?_, rfl⟩
        rw [Bool.eq_iff_iff]
        simp [fitsB]
        omega

end Go.Proofs.YteionppcjgggiaaGreat

/-
  Package rule: within, isPages, Check, Data, Total, Bound, Most (layer 9), for sizes that may be; fixed; the law RuleRoom walked.
-/
namespace Go.Proofs.YteionppcjgggiaaGreat
set_option linter.unusedVariables false
set_option linter.unusedSimpArgs false
set_option maxRecDepth 100000
open Go.RowKit

def inB (v l m : Int) : Bool := decide (l ≤ v ∧ v ≤ m)

set_option maxHeartbeats 400000 in
theorem ruleWithin_any (v l m : Int) (w : World) :
    Calls Tryz.prog 112 #[.int .i64 v, .int .i64 l, .int .i64 m] w fun e w' => e = .returned (.bool (inB v l m)) ∧ w = w' := by
  by_cases h0 : l ≤ v
  · have e0 : decide (l ≤ v) = true := by simpa using h0
    go_enter Tryz.func112, Tryz.ntmps112
    go_wp2
    go_ret
    exact ⟨ret_bool (by simp [inB, h0]), rfl⟩
  · have e0 : decide (l ≤ v) = false := by simpa using h0
    go_enter Tryz.func112, Tryz.ntmps112
    go_wp2
    go_ret
    exact ⟨ret_bool (by simp [inB]; omega), rfl⟩

theorem rulePages_any (p : Int) (w : World) :
    Calls Tryz.prog 109 #[.int .i64 p] w fun e w' => e = .returned (.bool (inB p 2 16)) ∧ w = w' := by
  go_enter Tryz.func109, Tryz.ntmps109
  go_wp2_with (go_at_call 112; refine (ruleWithin_any _ _ _ _).mono ?_; rintro e w' ⟨rfl, rfl⟩)
  go_ret
  exact ⟨rfl, rfl⟩

def roomE (s r : Int) : Int := if inB s 1 64 = true ∧ inB r 0 8 = true then 0 else 5

set_option maxHeartbeats 400000 in
theorem ruleCheck_any (s r : Int) (w : World) :
    Calls Tryz.prog 108 #[.int .i64 s, .int .i64 r] w fun e w' => e = .returned (.int .i64 (roomE s r)) ∧ w = w' := by
  unfold roomE
  generalize h1 : inB s 1 64 = b1
  generalize h2 : inB r 0 8 = b2
  have W1 := Lib.hid h1
  have W2 := Lib.hid h2
  clear h1 h2
  cases b1 <;> cases b2
  all_goals
    go_enter Tryz.func108, Tryz.ntmps108
    go_wp2_with (go_at_call 112; refine (ruleWithin_any _ _ _ _).mono ?_; rintro e w' ⟨rfl, rfl⟩; first | rw [W1.out] | rw [W2.out])
    go_ret
    exact ⟨rfl, rfl⟩

set_option maxHeartbeats 400000 in
theorem ruleData_any (s p : Int) (w : World) (hs : 1 ≤ s ∧ s ≤ 64) (hp : 2 ≤ p ∧ p ≤ 16) :
    Calls Tryz.prog 110 #[.int .i64 s, .int .i64 p] w fun e w' => e = .returned (.int .i64 (s / p + 2)) ∧ w = w' := by
  have C := ruleCheck_any s 0
  have P := rulePages_any p
  rw [show roomE s 0 = 0 by simp [roomE, inB]; omega] at C
  rw [show inB p 2 16 = true by simp [inB]; omega] at P
  obtain ⟨s0, s1⟩ := hs
  obtain ⟨p0, p1⟩ := hp
  have q0 : 0 ≤ s / p := Int.ediv_nonneg (by omega) (by omega)
  have q1 : s / p ≤ 64 := Int.le_trans (Int.ediv_le_self _ (by omega)) s1
  go_enter Tryz.func110, Tryz.ntmps110
  go_wp2_with (first
    | (go_at_call 108; refine (C _).mono ?_; rintro e w' ⟨rfl, rfl⟩)
    | (go_at_call 109; refine (P _).mono ?_; rintro e w' ⟨rfl, rfl⟩))
  go_ret
  exact ⟨rfl, rfl⟩

set_option maxHeartbeats 400000 in
theorem ruleTotal_any (s r p : Int) (w : World) (hs : 1 ≤ s ∧ s ≤ 64) (hr : 0 ≤ r ∧ r ≤ 8) (hp : 2 ≤ p ∧ p ≤ 16) :
    Calls Tryz.prog 96 #[.int .i64 s, .int .i64 r, .int .i64 p] w fun e w' => e = .returned (.int .i64 (s / p + 2 + r)) ∧ w = w' := by
  have C := ruleCheck_any s r
  have P := rulePages_any p
  have D := fun w => ruleData_any s p w hs hp
  rw [show roomE s r = 0 by simp [roomE, inB]; omega] at C
  rw [show inB p 2 16 = true by simp [inB]; omega] at P
  obtain ⟨s0, s1⟩ := hs
  obtain ⟨p0, p1⟩ := hp
  obtain ⟨r0, r1⟩ := hr
  have q0 : 0 ≤ s / p := Int.ediv_nonneg (by omega) (by omega)
  have q1 : s / p ≤ 64 := Int.le_trans (Int.ediv_le_self _ (by omega)) s1
  go_enter Tryz.func96, Tryz.ntmps96
  go_wp2_with (first
    | (go_at_call 108; refine (C _).mono ?_; rintro e w' ⟨rfl, rfl⟩)
    | (go_at_call 109; refine (P _).mono ?_; rintro e w' ⟨rfl, rfl⟩)
    | (go_at_call 110; refine (D _).mono ?_; rintro e w' ⟨rfl, rfl⟩))
  go_ret
  exact ⟨rfl, rfl⟩

/-- The greatest size that so many blocks serve. -/
def MostIs (b r p : Int) (k : Nat) : Prop := k ≤ 64 ∧ (∀ j : Nat, k < j → j ≤ 64 → b < (j : Int) / p + 2 + r) ∧ (k = 0 ∨ (k : Int) / p + 2 + r ≤ b)

theorem room_facts {s p : Int} (s0 : 1 ≤ s) (s1 : s ≤ 64) (p0 : 2 ≤ p) (p1 : p ≤ 16) :
    0 ≤ s / p ∧ s / p ≤ 32 ∧ s < (s / p + 2 - 1) * p ∧ (s / p + 2 - 1) * p ≤ 528 := by
  have q0 : 0 ≤ s / p := Int.ediv_nonneg (by omega) (by omega)
  have q2 : s / p ≤ s / 2 := by
    rw [Int.le_ediv_iff_mul_le (by decide)]
    have h1 : s / p * 2 ≤ s / p * p := Int.mul_le_mul_of_nonneg_left p0 q0
    have h2 := Int.ediv_mul_le s (show p ≠ 0 by omega)
    omega
  have q3 : s < (s / p + 1) * p := Int.lt_ediv_add_one_mul_self s (by omega)
  have q4 : (s / p + 1) * p ≤ 33 * 16 := Int.mul_le_mul (by omega) p1 (by omega) (by omega)
  rw [show s / p + 2 - 1 = s / p + 1 by omega]
  omega

theorem most_le {s p : Int} {k : Nat} (s0 : 1 ≤ s) (s1 : s ≤ 64) (h : MostIs (s / p + 2) 0 p k) : s ≤ (k : Int) := by
  rcases Int.lt_or_le (k : Int) s with h1 | h1
  · have := h.2.1 s.toNat (by omega) (by omega)
    rw [Int.toNat_of_nonneg (by omega)] at this
    omega
  · exact h1

end Go.Proofs.YteionppcjgggiaaGreat

/-
  Package ledger: within, isTenant, isPlace, missing; the document's there and room.
-/
namespace Go.Proofs.YteionppcjgggiaaGreat
set_option linter.unusedVariables false
set_option linter.unusedSimpArgs false
set_option maxRecDepth 100000
open Go.RowKit

set_option maxHeartbeats 400000 in
theorem within10_any (v l m : Int) (w : World) :
    Calls Tryz.prog 69 #[.int .i64 v, .int .i64 l, .int .i64 m] w fun e w' => e = .returned (.bool (inB v l m)) ∧ w = w' := by
  by_cases h0 : l ≤ v
  · have e0 : decide (l ≤ v) = true := by simpa using h0
    go_enter Tryz.func69, Tryz.ntmps69
    go_wp2
    go_ret
    exact ⟨ret_bool (by simp [inB, h0]), rfl⟩
  · have e0 : decide (l ≤ v) = false := by simpa using h0
    go_enter Tryz.func69, Tryz.ntmps69
    go_wp2
    go_ret
    exact ⟨ret_bool (by simp [inB]; omega), rfl⟩

/-- What is wrong with asking for a tenant. -/
def missT (L : Led) (t : Int) : Int := if inB t 0 3 = true then (if (L.t t.toNat).th = true then 0 else 6) else 5

def rightB (s r p : Int) : Bool := inB s 1 64 && inB r 0 8 && inB p 2 16

theorem rightB_no {s r p : Int} (h : ¬ (1 ≤ s ∧ s ≤ 64 ∧ 0 ≤ r ∧ r ≤ 8 ∧ 2 ≤ p ∧ p ≤ 16)) : rightB s r p = false := by
  cases hr : rightB s r p
  · rfl
  · exact (h (by simp [rightB, inB] at hr; omega)).elim
theorem rightB_yes {s r p : Int} (h : 1 ≤ s ∧ s ≤ 64 ∧ 0 ≤ r ∧ r ≤ 8 ∧ 2 ≤ p ∧ p ≤ 16) : rightB s r p = true := by
  simp [rightB, inB]
  omega
set_option maxHeartbeats 800000 in
theorem ref9Right_any (s r p : Int) (w : World) :
    Calls Tryz.prog 59 #[.int .i64 s, .int .i64 r, .int .i64 p] w fun e w' => e = .returned (.bool (rightB s r p)) ∧ w = w' := by
  obtain ⟨b, hb⟩ : ∃ b, rightB s r p = b := ⟨_, rfl⟩
  rw [hb]
  have HB := Lib.hid hb
  clear hb
  have ways : s < 1 ∨ (1 ≤ s ∧ 64 < s) ∨ (1 ≤ s ∧ s ≤ 64 ∧ r < 0) ∨ (1 ≤ s ∧ s ≤ 64 ∧ 0 ≤ r ∧ 8 < r) ∨ (1 ≤ s ∧ s ≤ 64 ∧ 0 ≤ r ∧ r ≤ 8 ∧ p < 2) ∨ (1 ≤ s ∧ s ≤ 64 ∧ 0 ≤ r ∧ r ≤ 8 ∧ 2 ≤ p ∧ 16 < p) ∨ (1 ≤ s ∧ s ≤ 64 ∧ 0 ≤ r ∧ r ≤ 8 ∧ 2 ≤ p ∧ p ≤ 16) := by omega
  rcases ways with h | ⟨h1, h⟩ | ⟨h1, h2, h⟩ | ⟨h1, h2, h3, h⟩ | ⟨h1, h2, h3, h4, h⟩ | ⟨h1, h2, h3, h4, h5, h⟩ | ⟨h1, h2, h3, h4, h5, h⟩
  · have e1 : decide (1 ≤ s) = false := by simpa using h
    obtain rfl : b = false := HB.out.symm.trans (rightB_no (by omega))
    go_enter Tryz.func59, Tryz.ntmps59
    go_wp2
    go_ret
    exact ⟨rfl, rfl⟩
  · have e1 : decide (1 ≤ s) = true := by simpa using h1
    have e2 : decide (s ≤ 64) = false := by simpa using h
    obtain rfl : b = false := HB.out.symm.trans (rightB_no (by omega))
    go_enter Tryz.func59, Tryz.ntmps59
    go_wp2
    go_ret
    exact ⟨rfl, rfl⟩
  · have e1 : decide (1 ≤ s) = true := by simpa using h1
    have e2 : decide (s ≤ 64) = true := by simpa using h2
    have e3 : decide (0 ≤ r) = false := by simpa using h
    obtain rfl : b = false := HB.out.symm.trans (rightB_no (by omega))
    go_enter Tryz.func59, Tryz.ntmps59
    go_wp2
    go_ret
    exact ⟨rfl, rfl⟩
  · have e1 : decide (1 ≤ s) = true := by simpa using h1
    have e2 : decide (s ≤ 64) = true := by simpa using h2
    have e3 : decide (0 ≤ r) = true := by simpa using h3
    have e4 : decide (r ≤ 8) = false := by simpa using h
    obtain rfl : b = false := HB.out.symm.trans (rightB_no (by omega))
    go_enter Tryz.func59, Tryz.ntmps59
    go_wp2
    go_ret
    exact ⟨rfl, rfl⟩
  · have e1 : decide (1 ≤ s) = true := by simpa using h1
    have e2 : decide (s ≤ 64) = true := by simpa using h2
    have e3 : decide (0 ≤ r) = true := by simpa using h3
    have e4 : decide (r ≤ 8) = true := by simpa using h4
    have e5 : decide (2 ≤ p) = false := by simpa using h
    obtain rfl : b = false := HB.out.symm.trans (rightB_no (by omega))
    go_enter Tryz.func59, Tryz.ntmps59
    go_wp2
    go_ret
    exact ⟨rfl, rfl⟩
  · have e1 : decide (1 ≤ s) = true := by simpa using h1
    have e2 : decide (s ≤ 64) = true := by simpa using h2
    have e3 : decide (0 ≤ r) = true := by simpa using h3
    have e4 : decide (r ≤ 8) = true := by simpa using h4
    have e5 : decide (2 ≤ p) = true := by simpa using h5
    have e6 : decide (p ≤ 16) = false := by simpa using h
    obtain rfl : b = false := HB.out.symm.trans (rightB_no (by omega))
    go_enter Tryz.func59, Tryz.ntmps59
    go_wp2
    go_ret
    exact ⟨rfl, rfl⟩
  · have e1 : decide (1 ≤ s) = true := by simpa using h1
    have e2 : decide (s ≤ 64) = true := by simpa using h2
    have e3 : decide (0 ≤ r) = true := by simpa using h3
    have e4 : decide (r ≤ 8) = true := by simpa using h4
    have e5 : decide (2 ≤ p) = true := by simpa using h5
    have e6 : decide (p ≤ 16) = true := by simpa using h
    obtain rfl : b = true := HB.out.symm.trans (rightB_yes (by omega))
    go_enter Tryz.func59, Tryz.ntmps59
    go_wp2
    go_ret
    exact ⟨rfl, rfl⟩

theorem roomE_right (s r : Int) : roomE s r = if rightB s r 2 = true then 0 else 5 := by
  have e : (inB s 1 64 = true ∧ inB r 0 8 = true) ↔ rightB s r 2 = true := by simp [rightB, inB]
  unfold roomE
  by_cases h : rightB s r 2 = true
  · rw [if_pos h, if_pos (e.2 h)]
  · rw [if_neg h, if_neg (fun x => h (e.1 x))]

end Go.Proofs.YteionppcjgggiaaGreat

/-
  Atomic numbers; nothing but one block is turned.
-/
namespace Go.Proofs.YteionppcjgggiaaGreat
set_option linter.unusedVariables false
set_option linter.unusedSimpArgs false
set_option maxRecDepth 100000
open Go.RowKit

/-- Nothing but block b is turned. -/
theorem gb_refl (w : World) (r : Option Nat) : w.grownBy w r := ⟨rfl, rfl, rfl, Nat.le_refl _, fun _ _ _ => rfl⟩
theorem gb_set {w w' : World} {b : Nat} (h : w.grownBy w' (some b)) (o : Nat) (v : Value) : w.grownBy (w'.setCell ⟨b, o, none⟩ v) (some b) :=
  ⟨h.os, h.tape, h.output, by have := h.size; simpa [World.setCell] using this, fun k hk hne => (Below.heap_setCell w' ⟨b, o, none⟩ v k (fun e => hne (by simp [e]))).trans (h.block k hk hne)⟩
theorem gb_drew {w w' : World} {r : Option Nat} (h : w.grownBy w' r) : w.grownBy w'.drew r := ⟨h.os, h.tape, h.output, h.size, h.block⟩
theorem gb_trans {w w1 w2 : World} {r : Option Nat} (h : w.grownBy w1 r) (h2 : w1.grownBy w2 r) : w.grownBy w2 r :=
  ⟨h2.os.trans h.os, h2.tape.trans h.tape, h2.output.trans h.output, Nat.le_trans h.size h2.size, fun k hk hne => (h2.block k (Nat.lt_of_lt_of_le hk h.size) hne).trans (h.block k hk hne)⟩
theorem ne_off {b o p : Nat} (h : o ≠ p) : (⟨b, o, none⟩ : Addr) ≠ ⟨b, p, none⟩ := fun e => h (by simpa using congrArg Addr.off e)

theorem load64 (b o : Nat) (x : Int) (w : World) (h : w.cell? ⟨b, o, none⟩ = some (.int .i64 x)) :
    Calls Tryz.prog 63 #[.pointer (some ⟨b, o, none⟩)] w fun e w' => e = .returned (.int .i64 x) ∧ w = w' := by
  have hl := run_call_load (P := Tryz.prog) Tryz.func88 (by kernel_rfl) (by kernel_rfl) (by kernel_rfl) .i64 (by kernel_rfl) h
  go_enter Tryz.func63, Tryz.ntmps63
  go_wp2
  go_ret
  exact ⟨rfl, rfl⟩

theorem store64 (b o : Nat) (x : Int) (u : Value) (w : World) (h : w.cell? ⟨b, o, none⟩ = some u) (f : w.frozen? ⟨b, o, none⟩ = false) :
    Calls Tryz.prog 56 #[.pointer (some ⟨b, o, none⟩), .int .i64 x] w fun e w' => e = .returned (.tuple #[]) ∧ w.setCell ⟨b, o, none⟩ (.int .i64 x) = w' := by
  have hl := run_call_store (P := Tryz.prog) (k := .i64) (y := x) Tryz.func83 (by kernel_rfl) (by kernel_rfl) (by kernel_rfl) (by kernel_rfl) h f
  go_enter Tryz.func56, Tryz.ntmps56
  go_wp2
  go_end0
  exact ⟨rfl, rfl⟩

theorem add64 (b o : Nat) (x : Int) (w : World) (h : w.cell? ⟨b, o, none⟩ = some (.int .i64 x)) (f : w.frozen? ⟨b, o, none⟩ = false) (h0 : 0 ≤ x) (h1 : x < 1000000) :
    Calls Tryz.prog 62 #[.pointer (some ⟨b, o, none⟩), .int .i64 1] w fun e w' => e = .returned (.int .i64 (x + 1)) ∧ w.setCell ⟨b, o, none⟩ (.int .i64 (x + 1)) = w' := by
  have hl := run_call_add (P := Tryz.prog) (x := x) (y := 1) (s := x + 1) Tryz.func87 (by kernel_rfl) (by kernel_rfl) (by kernel_rfl) .i64 (by kernel_rfl) h f (by simp [go_sem, IntWalk.i64_in (x + 1) (by omega)])
  go_enter Tryz.func62, Tryz.ntmps62
  go_wp2
  go_ret
  exact ⟨rfl, rfl⟩

theorem b32_any (x : Bool) (w : World) :
    Calls Tryz.prog 85 #[.bool x] w fun e w' => e = .returned (.int .u32 (if x then 1 else 0)) ∧ w = w' := by
  cases x
  all_goals
    go_enter Tryz.func85, Tryz.ntmps85
    go_wp2
    go_ret
    exact ⟨rfl, rfl⟩

theorem loadB (b o : Nat) (x : Bool) (w : World) (h : w.cell? ⟨b, o, none⟩ = some (.int .u32 (if x then 1 else 0))) :
    Calls Tryz.prog 86 #[.pointer (some ⟨b, o, none⟩)] w fun e w' => e = .returned (.bool x) ∧ w = w' := by
  have hl := run_call_load (P := Tryz.prog) Tryz.func102 (by kernel_rfl) (by kernel_rfl) (by kernel_rfl) .u32 (by kernel_rfl) h
  cases x
  all_goals
    go_enter Tryz.func86, Tryz.ntmps86
    go_wp2
    go_ret
    exact ⟨rfl, rfl⟩

theorem storeB (b o : Nat) (x : Bool) (u : Value) (w : World) (h : w.cell? ⟨b, o, none⟩ = some u) (f : w.frozen? ⟨b, o, none⟩ = false) :
    Calls Tryz.prog 57 #[.pointer (some ⟨b, o, none⟩), .bool x] w fun e w' => e = .returned (.tuple #[]) ∧ (w.setCell ⟨b, o, none⟩ (.int .u32 (if x then 1 else 0))).drew = w' := by
  have hl := run_call_store (P := Tryz.prog) (w := w.drew) (k := .u32) (y := if x then 1 else 0) Tryz.func84 (by kernel_rfl) (by kernel_rfl) (by kernel_rfl) (by kernel_rfl) h f
  cases x
  all_goals
    simp only [if_true, if_false, Bool.false_eq_true] at hl
    go_enter Tryz.func57, Tryz.ntmps57
    go_region_calls
    all_goals
      go_wp2
      go_end0
      exact ⟨rfl, rfl⟩

end Go.Proofs.YteionppcjgggiaaGreat
