/-
  Texts put together: DA EA QB AT QC RX WA WB WC WD WE WF WG WH WI.
-/
import Derived.Test.YtdaifepjmkmpjaaDoorM02
import Derived.Below
import Derived.Laws.LoneSync
import Derived.Deep.MidRow
import Derived.OneCell
import Derived.Lib.Hide
import Derived.WalkSpells
import Derived.WalkLawsBesides
import Derived.BigQuiet
import Derived.Deep.QuietTactic
import Derived.RegionCalls
import Derived.Outline
import Derived.Deep.DeepCutAuto
import Derived.Deep.Cut
import Derived.Deep.LoopGhost
import Derived.Test.YtdaifepjmkmpjaaDoorM01
import Derived.SliceStrings
import Derived.Test.YtdaifepjmkmpjaaDoorRows
import Derived.WalkKit
import Derived.Lib.AppendStr
/-
  Package draws: slices of ints; Contains, ContainsFunc, Clone.
-/
namespace Go.Proofs.YtdaifepjmkmpjaaDoor
set_option linter.unusedVariables false
set_option linter.unusedSimpArgs false
set_option linter.unusedVariables false
set_option linter.unusedSimpArgs false
set_option maxRecDepth 100000
open Go.RowKit

/-- The slice value v reads as the ints xs: nil; its cells; or none of them, at whatever address. -/
def Ints (w : World) (v : Value) (xs : List Int) : Prop :=
  (v = .slice none 0 0 ∧ xs = []) ∨ (∃ b off cap, v = .slice (some ⟨b, off, none⟩) xs.length cap ∧ xs.length ≤ cap ∧ ∀ i, i < xs.length → w.cell? ⟨b, off + i, none⟩ = some (.int .i64 (xs.getD i 0))) ∨
    ∃ a cap, v = .slice (some a) 0 cap ∧ xs = []
theorem Ints.cells {w : World} {xs : List Int} {b off cap : Nat} (hc : xs.length ≤ cap) (h : ∀ i, i < xs.length → w.cell? ⟨b, off + i, none⟩ = some (.int .i64 (xs.getD i 0))) : Ints w (.slice (some ⟨b, off, none⟩) xs.length cap) xs := .inr (.inl ⟨b, off, cap, rfl, hc, h⟩)

theorem Ints.form {w : World} {v : Value} {xs : List Int} (h : Ints w v xs) : ∃ ao cap b off, v = .slice ao xs.length cap ∧ ∀ k, k < xs.length → ao = some ⟨b, off, none⟩ ∧ w.cell? ⟨b, off + k, none⟩ = some (.int .i64 (xs.getD k 0)) := by
  rcases h with ⟨rfl, rfl⟩ | ⟨b, off, cap, rfl, _, hc⟩ | ⟨a, cap, rfl, rfl⟩
  · exact ⟨none, 0, 0, 0, rfl, fun k hk => by simp at hk⟩
  · exact ⟨_, cap, b, off, rfl, fun k hk => ⟨rfl, hc k hk⟩⟩
  · exact ⟨_, cap, 0, 0, rfl, fun k hk => by simp at hk⟩
/-- nil, or cells at some address. -/
theorem Ints.two {w : World} {v : Value} {xs : List Int} (h : Ints w v xs) : (v = .slice none 0 0 ∧ xs = []) ∨ ∃ a cap, v = .slice (some a) xs.length cap ∧ xs.length ≤ cap ∧ ∀ i, i < xs.length → w.cell? (a.add i) = some (.int .i64 (xs.getD i 0)) := by
  rcases h with h | ⟨b, off, cap, rfl, h2, h3⟩ | ⟨a, cap, rfl, rfl⟩
  · exact .inl h
  · exact .inr ⟨_, cap, rfl, h2, fun i hi => by rw [addr_add]; exact h3 i hi⟩
  · exact .inr ⟨a, cap, rfl, Nat.zero_le _, fun i hi => by simp at hi⟩
theorem Ints.kept {w w' : World} {v : Value} {xs : List Int} {r : Option Nat} (h : Ints w v xs) (hg : w.grownBy w' r) (hne : ∀ k, v.ownBlock = some k → some k ≠ r) : Ints w' v xs := by
  rcases h with h | ⟨b, off, cap, rfl, h2, h3⟩ | h
  · exact .inl h
  · exact .inr (.inl ⟨b, off, cap, rfl, h2, fun i hi => hg.cell (h3 i hi) (hne b rfl)⟩)
  · exact .inr (.inr h)

def lowB (xs : List Int) : Bool := xs.any fun n => decide (n < 1)

theorem Tryd.infoInt : (Tryd.prog.info? 3).map (fun i => (i.zero, i.size, i.bytes)) = some (some (.int .i64 0), 1, 8) := by kernel_rfl
theorem Tryd.eqNilInts (w : World) (a : Option Addr) (n c : Nat) : (binOp .eql 35 (.slice a n c) (.slice none 0 0)).run Tryd.prog w = .ok (.bool a.isNone) w := Lib.run_eql_slice_nil w 35 3 a n c 0 0 Tryd.underlying35
attribute [local go_sem] Tryd.eqNilInts

/-- A copy in new memory. -/
def Cloned (w : World) (xs : List Int) (e : Ending) (w' : World) : Prop := ∃ v', e = .returned v' ∧ Ints w' v' xs ∧ w.grownBy w' none ∧ (∀ k, v'.ownBlock = some k → w.heap.size ≤ k ∧ k < w'.heap.size)

theorem owns_ints {w : World} {B : Nat} {v : Value} {xs : List Int} {n : Nat} (hn : n = xs.length) (h : w.ownsRow B 3 1 v n (xs.map (Value.int .i64))) : Ints w v xs := by
  subst hn
  rcases h.2 with ⟨h2, h3⟩ | ⟨g, cap, cur, rfl, hg, hh, hc, _⟩
  · exact .inl ⟨h2, List.length_eq_zero_iff.1 h3⟩
  · refine .inr (.inl ⟨g, 0, cap, rfl, hc, fun i hi => ?_⟩)
    rw [Nat.zero_add, h.cellAt i (by omega), List.getElem?_map, List.getElem?_eq_getElem hi, List.getD_eq_getElem?_getD, List.getElem?_eq_getElem hi]
    rfl

end Go.Proofs.YtdaifepjmkmpjaaDoor

/-
  Ledgers: what they are, how they stand in memory; whole rows read and written at once.
-/
namespace Go.Proofs.YtdaifepjmkmpjaaDoor
set_option linter.unusedVariables false
set_option linter.unusedSimpArgs false
set_option linter.unusedVariables false
set_option linter.unusedSimpArgs false
set_option maxRecDepth 100000
open Go.RowKit

/-! ### whole rows, also where a guard let the operation by -/
section
variable {P : Program} {ops : Array Oper} {rest : List Oper} {o : Oper} {a : Act} {w : World} {Q : Exit → Act → World → Prop}

theorem wpList_want (hwt : Region.wanted o (yielded ops a.tmps) = true) (h : ∀ K : Act → World → Prop, (∀ a w, wpList P ops Q rest a w → K a w) → o.wp P a w K Q) : wpList P ops Q (o :: rest) a w := by
  unfold wpList
  rw [if_pos hwt]
  exact .inl (h _ (fun _ _ h => h))

/-- What a guard passes over. -/
theorem wpList_pass {a' : Act} (hw : Region.wanted o (yielded ops a.tmps) = false) (ha : a.put o.dst undef = a') (h : wpList P ops Q rest a' w) : wpList P ops Q (o :: rest) a w := by
  unfold wpList
  rw [if_neg (by rw [hw]; simp), ha]
  exact h

/-- A part of a block that is known whole is read. -/
theorem wpList_load_part (hwt : Region.wanted o (yielded ops a.tmps) = true) (ty : TypeId) (x : Operand) (ho : o.op = .load ty x)
    (g off n : Nat) (hx : a.eval x = .pointer (some ⟨g, off, none⟩)) (t : TypeId) (C : Array Value) (fr : Nat × Nat) (d : TypeDesc) (cs : Array Value) (hg : w.heap[g]? = some (.cells C t fr))
    (hcs : C.extract off (off + n) = cs) (hn : cs.size = n) (hu : P.underlying ty = some d) (hd : d.isRow = true) (hi : (P.info? ty).map (·.size) = some n)
    (h : wpList P ops Q rest (a.put o.dst (.agg cs)) w) : wpList P ops Q (o :: rest) a w := by
  refine wpList_want hwt fun K hK => wp_load_mid ty x ho g off hx cs.toList d ?_ hu hd (by rw [hi]; simp [hn]) (hK _ _ (by simpa using h))
  have := World.rangeAt_of_block hg off n
  rw [hcs] at this
  exact this

/-- A part of a block that is known whole is written. -/
theorem wpList_store_part (hwt : Region.wanted o (yielded ops a.tmps) = true) (ty : TypeId) (x y : Operand) (ho : o.op = .store ty x y)
    (g off n : Nat) (cs : Array Value) (hx : a.eval x = .pointer (some ⟨g, off, none⟩)) (hy : a.eval y = .agg cs) (t : TypeId) (C C' : Array Value) (hg : w.heap[g]? = some (.cells C t (0, 0)))
    (hn : cs.size = n) (hi : (P.info? ty).map (·.size) = some n) (hfit : off + n ≤ C.size) (h1 : cs.all (·.oneCell') = true) (hC' : (C.toList.take off ++ cs.toList ++ C.toList.drop (off + cs.toList.length)).toArray = C')
    (h : ∀ w', w'.heap[g]? = some (.cells C' t (0, 0)) → w.grownBy w' (some g) → w'.heap.size = w.heap.size → wpList P ops Q rest (a.put o.dst undef) w') : wpList P ops Q (o :: rest) a w := by
  refine wpList_want hwt fun K hK => ?_
  have hst := run_storeCells_at P g off t cs.toList 0 C w hg (by simp; omega) (fun v hv => (Array.all_eq_true_iff_forall_mem.1 h1) v (by simpa using hv))
  have hrun : (storeVar ty ⟨g, off, none⟩ (.agg cs)).run P w = .ok () (w.setRow g C') := by
    cases hq : P.info? ty with
    | none => simp [hq] at hi
    | some i =>
      have hs : i.size = cs.size := by simp [hq] at hi; omega
      rw [← hC']
      simpa [storeVar, sizeOf, typeInfo, hq, Value.cells, hs] using hst
  have hlt : g < w.heap.size := (Array.getElem?_eq_some_iff.1 hg).1
  unfold Oper.wp execOp
  simp only [ho, hx, hy, Instr.storeAt, Instr.sureAddr, Sem.run_bind, Sem.run_pure, Result.andThen_ok, hrun]
  exact hK _ _ (h _ (setRow_heap w g C C' t _ hg) ⟨rfl, rfl, rfl, by simp, fun k _ hne => setRow_other w g k C' (fun e => hne (by rw [e]))⟩ (by simp))
end

/-! ### what a ledger is -/
structure Ten where
  th : Bool
  ep : Int
  sz : Int
  sp : Int
  bs : List Int
structure Led where
  gen : Int
  eps : Int
  t : Nat → Ten
def noTen : Ten := ⟨false, 0, 0, 0, []⟩
def noLed : Led := ⟨0, 0, fun _ => noTen⟩
abbrev nilS : Value := .slice none 0 0

def tenC (x : Ten) (v : Value) : Array Value := #[.bool x.th, .int .i64 x.ep, .int .i64 x.sz, .int .i64 x.sp, v]
def ledC (L : Led) (V : Nat → Value) : Array Value :=
  #[.int .i64 L.gen, .int .i64 L.eps,
    .bool (L.t 0).th, .int .i64 (L.t 0).ep, .int .i64 (L.t 0).sz, .int .i64 (L.t 0).sp, V 0,
    .bool (L.t 1).th, .int .i64 (L.t 1).ep, .int .i64 (L.t 1).sz, .int .i64 (L.t 1).sp, V 1,
    .bool (L.t 2).th, .int .i64 (L.t 2).ep, .int .i64 (L.t 2).sz, .int .i64 (L.t 2).sp, V 2,
    .bool (L.t 3).th, .int .i64 (L.t 3).ep, .int .i64 (L.t 3).sz, .int .i64 (L.t 3).sp, V 3]
def tensC (L : Led) (V : Nat → Value) : Array Value :=
  #[.bool (L.t 0).th, .int .i64 (L.t 0).ep, .int .i64 (L.t 0).sz, .int .i64 (L.t 0).sp, V 0,
    .bool (L.t 1).th, .int .i64 (L.t 1).ep, .int .i64 (L.t 1).sz, .int .i64 (L.t 1).sp, V 1,
    .bool (L.t 2).th, .int .i64 (L.t 2).ep, .int .i64 (L.t 2).sz, .int .i64 (L.t 2).sp, V 2,
    .bool (L.t 3).th, .int .i64 (L.t 3).ep, .int .i64 (L.t 3).sz, .int .i64 (L.t 3).sp, V 3]
theorem ledC_size (L : Led) (V : Nat → Value) : (ledC L V).size = 22 := rfl
theorem tensC_size (L : Led) (V : Nat → Value) : (tensC L V).size = 20 := rfl
theorem tenC_size (x : Ten) (v : Value) : (tenC x v).size = 5 := rfl
theorem led_tens (L : Led) (V : Nat → Value) : (ledC L V).extract 2 (2 + 20) = tensC L V := by simp [ledC, tensC]
theorem led_all (L : Led) (V : Nat → Value) : (ledC L V).extract 0 (0 + 22) = ledC L V := by simp [ledC]
theorem ten_all (x : Ten) (v : Value) : (tenC x v).extract 0 (0 + 5) = tenC x v := rfl

/-- A slice of ints is one cell. -/
def SliceV (v : Value) : Prop := ∃ a n c, v = .slice a n c
theorem Ints.slice {w : World} {v : Value} {xs : List Int} (h : Ints w v xs) : SliceV v := by
  obtain ⟨ao, cap, _, _, rfl, _⟩ := h.form
  exact ⟨_, _, _, rfl⟩
theorem SliceV.one {v : Value} (h : SliceV v) : v.oneCell' = true := by obtain ⟨a, n, c, rfl⟩ := h; rfl
theorem ten_one (x : Ten) {v : Value} (h : SliceV v) : (tenC x v).all (·.oneCell') = true := by
  obtain ⟨a, n, c, rfl⟩ := h
  simp [tenC, Value.oneCell']
theorem led_one (L : Led) {V : Nat → Value} (h : ∀ j, j < 4 → SliceV (V j)) : (ledC L V).all (·.oneCell') = true := by
  obtain ⟨_, _, _, h0⟩ := h 0 (by omega)
  obtain ⟨_, _, _, h1⟩ := h 1 (by omega)
  obtain ⟨_, _, _, h2⟩ := h 2 (by omega)
  obtain ⟨_, _, _, h3⟩ := h 3 (by omega)
  simp [ledC, h0, h1, h2, h3, Value.oneCell']

/-- A block that is known whole. -/
def Blk (w : World) (g : Nat) (t : TypeId) (cs : Array Value) : Prop := w.heap[g]? = some (.cells cs t (0, 0))
section
variable {w w' : World} {g : Nat} {t : TypeId} {cs : Array Value}
theorem Blk.lt (h : Blk w g t cs) : g < w.heap.size := (Array.getElem?_eq_some_iff.1 h).1
theorem Blk.cell (h : Blk w g t cs) (i : Nat) : w.cell? ⟨g, i, none⟩ = cs[i]? := cell_of_row w g i cs t (0, 0) h
theorem Blk.free (h : Blk w g t cs) (i : Nat) : w.frozen? ⟨g, i, none⟩ = false := frozen_of_row w g i cs t h
theorem Blk.kept {r : Option Nat} (h : Blk w g t cs) (hg : w.grownBy w' r) (hne : some g ≠ r) : Blk w' g t cs := (hg.block g h.lt hne).trans h
theorem Blk.ext (h : Blk w g t cs) (hg : w.grownBy w' none) : Blk w' g t cs := h.kept hg (by simp)
theorem Blk.alloc (h : Blk w g t cs) (o : Obj) : Blk (w.alloc o) g t cs := h.ext (World.grownBy_alloc w o none)
theorem Blk.new (w : World) (t : TypeId) (cs : Array Value) : Blk (w.alloc (.cells cs t)) w.heap.size t cs := heap_alloc_new w _
theorem Blk.newAt (w : World) (n : Nat) (hn : w.heap.size = n) (t : TypeId) (cs : Array Value) : Blk (w.alloc (.cells cs t)) n t cs := by subst hn; exact Blk.new w t cs
theorem Blk.set (h : Blk w g t cs) (i : Nat) (v : Value) : Blk (w.setCell ⟨g, i, none⟩ v) g t (cs.setIfInBounds i v) := heap_setCell_same w g i cs t v h
theorem Blk.far (h : Blk w g t cs) {a : Addr} (hne : g ≠ a.block) (v : Value) : Blk (w.setCell a v) g t cs := (heap_setCell_other w a g v hne).trans h
theorem Blk.drew (h : Blk w g t cs) : Blk w.drew g t cs := h
end

/-- Cells of the tenant k, by number. -/
theorem led_th (L : Led) (V : Nat → Value) {k : Nat} (h : k < 4) : (ledC L V)[2 + k * 5]? = some (.bool (L.t k).th) := by
  obtain rfl | rfl | rfl | rfl : k = 0 ∨ k = 1 ∨ k = 2 ∨ k = 3 := by omega
  all_goals rfl
theorem led_ep (L : Led) (V : Nat → Value) {k : Nat} (h : k < 4) : (ledC L V)[2 + k * 5 + 1]? = some (.int .i64 (L.t k).ep) := by
  obtain rfl | rfl | rfl | rfl : k = 0 ∨ k = 1 ∨ k = 2 ∨ k = 3 := by omega
  all_goals rfl
theorem led_sz (L : Led) (V : Nat → Value) {k : Nat} (h : k < 4) : (ledC L V)[2 + k * 5 + 2]? = some (.int .i64 (L.t k).sz) := by
  obtain rfl | rfl | rfl | rfl : k = 0 ∨ k = 1 ∨ k = 2 ∨ k = 3 := by omega
  all_goals rfl
theorem led_bs (L : Led) (V : Nat → Value) {k : Nat} (h : k < 4) : (ledC L V)[2 + k * 5 + 4]? = some (V k) := by
  obtain rfl | rfl | rfl | rfl : k = 0 ∨ k = 1 ∨ k = 2 ∨ k = 3 := by omega
  all_goals rfl
theorem led_gen (L : Led) (V : Nat → Value) : (ledC L V)[0]? = some (.int .i64 L.gen) := rfl
theorem led_eps (L : Led) (V : Nat → Value) : (ledC L V)[1]? = some (.int .i64 L.eps) := rfl
/-- The tenant k, whole. -/
theorem led_ten (L : Led) (V : Nat → Value) {k : Nat} (h : k < 4) : (ledC L V).extract (2 + k * 5) (2 + k * 5 + 5) = tenC (L.t k) (V k) := by
  obtain rfl | rfl | rfl | rfl : k = 0 ∨ k = 1 ∨ k = 2 ∨ k = 3 := by omega
  all_goals rfl
/-- Another tenant k. -/
def updT (L : Led) (k : Nat) (x : Ten) : Led := { L with t := fun j => if j = k then x else L.t j }
def updV (V : Nat → Value) (k : Nat) (v : Value) : Nat → Value := fun j => if j = k then v else V j
theorem led_setV (L : Led) (V : Nat → Value) {k : Nat} (h : k < 4) (v : Value) : (ledC L V).setIfInBounds (2 + k * 5 + 4) v = ledC L (updV V k v) := by
  obtain rfl | rfl | rfl | rfl : k = 0 ∨ k = 1 ∨ k = 2 ∨ k = 3 := by omega
  all_goals rfl
theorem led_setT (L : Led) (V : Nat → Value) {k : Nat} (h : k < 4) (x : Ten) (v : Value) : ((ledC L V).toList.take (2 + k * 5) ++ (tenC x v).toList ++ (ledC L V).toList.drop (2 + k * 5 + (tenC x v).toList.length)).toArray = ledC (updT L k x) (updV V k v) := by
  obtain rfl | rfl | rfl | rfl : k = 0 ∨ k = 1 ∨ k = 2 ∨ k = 3 := by omega
  all_goals rfl
theorem led_setSz (L : Led) (V : Nat → Value) {k : Nat} (h : k < 4) (n : Int) : (ledC L V).setIfInBounds (2 + k * 5 + 2) (.int .i64 n) = ledC (updT L k { L.t k with sz := n }) V := by
  obtain rfl | rfl | rfl | rfl : k = 0 ∨ k = 1 ∨ k = 2 ∨ k = 3 := by omega
  all_goals rfl
theorem led_setGen (L : Led) (V : Nat → Value) (n : Int) : (ledC L V).setIfInBounds 0 (.int .i64 n) = ledC { L with gen := n } V := rfl
theorem led_setEps (L : Led) (V : Nat → Value) (n : Int) : (ledC L V).setIfInBounds 1 (.int .i64 n) = ledC { L with eps := n } V := rfl

/-- What the tenants' slices read as. -/
def LedIs (w : World) (L : Led) (V : Nat → Value) : Prop := ∀ j, j < 4 → Ints w (V j) (L.t j).bs
theorem LedIs.kept {w w' : World} {L : Led} {V : Nat → Value} {r : Option Nat} (h : LedIs w L V) (hg : w.grownBy w' r) (hne : ∀ j, j < 4 → ∀ k, (V j).ownBlock = some k → some k ≠ r) : LedIs w' L V := fun j hj => (h j hj).kept hg (hne j hj)
theorem LedIs.ext {w w' : World} {L : Led} {V : Nat → Value} (h : LedIs w L V) (hg : w.grownBy w' none) : LedIs w' L V := h.kept hg (by simp)
theorem LedIs.slices {w : World} {L : Led} {V : Nat → Value} (h : LedIs w L V) : ∀ j, j < 4 → SliceV (V j) := fun j hj => (h j hj).slice
theorem noLed_is (w : World) : LedIs w noLed (fun _ => nilS) := fun _ _ => .inl ⟨rfl, rfl⟩

section
variable {ops : Array Oper} {rest : List Oper} {o : Oper} {a : Act} {w : World} {Q : Exit → Act → World → Prop}
end

end Go.Proofs.YtdaifepjmkmpjaaDoor

/-
  Layer 13: changes; what a buffer answers (its contracts); the document's Check.
-/
namespace Go.Proofs.YtdaifepjmkmpjaaDoor
set_option linter.unusedVariables false
set_option linter.unusedSimpArgs false
set_option linter.unusedVariables false
set_option linter.unusedSimpArgs false
set_option maxRecDepth 100000
open Go.RowKit

/-! ### a change -/
structure Chg where
  pl : Int
  kd : Int
  dt : ByteArray
def noChg : Chg := ⟨0, 0, ⟨#[]⟩⟩
def chgC (c : Chg) : Array Value := #[.int .i64 c.pl, .int .i64 c.kd, .string c.dt]
def chgsL (row : List Chg) : List Value := row.flatMap fun c => (chgC c).toList
theorem chgsL_len (row : List Chg) : (chgsL row).length = row.length * 3 := by
  unfold chgsL
  induction row with
  | nil => rfl
  | cons c r ih => rw [List.flatMap_cons, List.length_append, ih, List.length_cons]; simp [chgC]; omega

/-- What is wrong with a change. -/
def chkE (pl kd : Int) (dt : ByteArray) : Int :=
  if (kd ≠ 1 ∧ kd ≠ 2) ∨ pl < 0 ∨ 63 < pl ∨ (kd = 2 ∧ dt.size ≠ 0) then 1 else if 16 < dt.size then 3 else 0

theorem ret_int13 {a b : Int} (h : a = b) : Ending.returned (.int .i64 a) = .returned (.int .i64 b) := by rw [h]
theorem str_none {s : ByteArray} : s.toList.isEmpty = decide (s.size = 0) := by
  rw [ByteArray.toList_eq]
  by_cases h : s.size = 0
  · have : s.data.toList = [] := List.eq_nil_of_length_eq_zero (by simpa using h)
    simp [h, this]
  · rw [decide_eq_false h, Bool.eq_false_iff]
    intro e
    rw [List.isEmpty_iff] at e
    exact h (by have := congrArg List.length e; simpa using this)
end Go.Proofs.YtdaifepjmkmpjaaDoor

/-
  Atomic numbers; nothing but one block is turned.
-/
namespace Go.Proofs.YtdaifepjmkmpjaaDoor
set_option linter.unusedVariables false
set_option linter.unusedSimpArgs false
set_option linter.unusedVariables false
set_option linter.unusedSimpArgs false
set_option maxRecDepth 100000
open Go.RowKit

/-- Nothing but block b is turned. -/
theorem gb_refl (w : World) (r : Option Nat) : w.grownBy w r := ⟨rfl, rfl, rfl, Nat.le_refl _, fun _ _ _ => rfl⟩
theorem gb_set {w w' : World} {b : Nat} (h : w.grownBy w' (some b)) (o : Nat) (v : Value) : w.grownBy (w'.setCell ⟨b, o, none⟩ v) (some b) :=
  ⟨h.os, h.tape, h.output, by have := h.size; simpa [World.setCell] using this, fun k hk hne => (Below.heap_setCell w' ⟨b, o, none⟩ v k (fun e => hne (by simp [e]))).trans (h.block k hk hne)⟩
theorem gb_drew {w w' : World} {r : Option Nat} (h : w.grownBy w' r) : w.grownBy w'.drew r := ⟨h.os, h.tape, h.output, h.size, h.block⟩
theorem gb_trans {w w1 w2 : World} {r : Option Nat} (h : w.grownBy w1 r) (h2 : w1.grownBy w2 r) : w.grownBy w2 r :=
  ⟨h2.os.trans h.os, h2.tape.trans h.tape, h2.output.trans h.output, Nat.le_trans h.size h2.size, fun k hk hne => (h2.block k (Nat.lt_of_lt_of_le hk h.size) hne).trans (h.block k hk hne)⟩
theorem ne_off {b o p : Nat} (h : o ≠ p) : (⟨b, o, none⟩ : Addr) ≠ ⟨b, p, none⟩ := fun e => h (by simpa using congrArg Addr.off e)







end Go.Proofs.YtdaifepjmkmpjaaDoor

/-
  Layer 13: what a buffer answers (contracts, whatever the code); the law's fixed, BufferNone.
-/
namespace Go.Proofs.YtdaifepjmkmpjaaDoor
set_option linter.unusedVariables false
set_option linter.unusedSimpArgs false
set_option linter.unusedVariables false
set_option linter.unusedSimpArgs false
set_option maxRecDepth 100000
open Go.RowKit

def chgV (c : Chg) : Value := .agg #[.int .i64 c.pl, .int .i64 c.kd, .string c.dt]
def putE (row : List Chg) (c : Chg) : Int := if chkE c.pl c.kd c.dt = 0 then (if row.length = 4 then 8 else 0) else chkE c.pl c.kd c.dt
def putR (row : List Chg) (c : Chg) : List Chg := if putE row c = 0 then row ++ [c] else row
def firstC (row : List Chg) : Chg := row.headD noChg
/-- The last one of a place. -/
def lastN (row : List Chg) (p : Int) : Chg × Bool := row.foldl (fun acc x => if x.pl = p then (x, true) else acc) (noChg, false)
def small13 (row : List Chg) : Prop := row.length ≤ 4

abbrev Ext13 (w w' : World) : Prop := w.grownBy w' none
theorem ext13_trans {w w1 w2 : World} (h : Ext13 w w1) (h2 : Ext13 w1 w2) : Ext13 w w2 :=
  ⟨h2.os.trans h.os, h2.tape.trans h.tape, h2.output.trans h.output, Nat.le_trans h.size h2.size, fun k hk hne => (h2.block k (Nat.lt_of_lt_of_le hk h.size) hne).trans (h.block k hk hne)⟩

section
variable {ops : Array Oper} {rest : List Oper} {o : Oper} {a : Act} {w : World} {Q : Exit → Act → World → Prop}
end
theorem grown_trans13 {w w1 w2 : World} (h : w.grownBy w1 none) (h2 : w1.grownBy w2 (some w.heap.size)) : w.grownBy w2 none :=
  ⟨h2.os.trans h.os, h2.tape.trans h.tape, h2.output.trans h.output, Nat.le_trans h.size h2.size, fun k hk hne => (h2.block k (Nat.lt_of_lt_of_le hk h.size) (fun e => by injection e with e; omega)).trans (h.block k hk hne)⟩
theorem grown_past13 {w w1 w2 : World} {b : Nat} (h : w.grownBy w1 none) (h2 : w1.grownBy w2 (some b)) (hb : w.heap.size ≤ b) : w.grownBy w2 none :=
  ⟨h2.os.trans h.os, h2.tape.trans h.tape, h2.output.trans h.output, Nat.le_trans h.size h2.size, fun k hk hne => (h2.block k (Nat.lt_of_lt_of_le hk h.size) (fun e => by injection e with e; omega)).trans (h.block k hk hne)⟩
theorem owns_shape13 {w : World} {B : Nat} {e : TypeId} {sz : Nat} {v : Value} {n : Nat} {xs : List Value} (h : w.ownsRow B e sz v n xs) : ∃ ao cap, v = .slice ao n cap := by
  rcases h.2 with ⟨rfl, rfl⟩ | ⟨g, cap, _, rfl, _⟩
  · exact ⟨none, 0, rfl⟩
  · exact ⟨_, cap, rfl⟩
theorem chgV_is (c : Chg) : chgV c = .agg (chgC c) := rfl
theorem Blk.range {w : World} {g : Nat} {t : TypeId} {cs : Array Value} (h : Blk w g t cs) (off n : Nat) (hn : (cs.extract off (off + n)).size = n) : w.rangeAt g off (cs.extract off (off + n)).toList := by
  have := World.rangeAt_of_block h off n
  simpa using this

/-! the law's fixed -/
def fA : Chg := ⟨3, 1, ⟨#[120]⟩⟩
def fB : Chg := ⟨3, 2, ⟨#[]⟩⟩

end Go.Proofs.YtdaifepjmkmpjaaDoor

/-
  Slices that came in: of strings; of structs with bytes among their fields (and integers, bools, strings): their cells.
-/
namespace Go.Proofs.YtdaifepjmkmpjaaDoor
set_option linter.unusedVariables false
set_option linter.unusedSimpArgs false
set_option linter.unusedVariables false
set_option linter.unusedSimpArgs false
set_option maxRecDepth 100000
open Go.RowKit Go.ChangeShapes Go.WideShapes Go.Deep

/-- What a field may be. -/
inductive FX where
  | int (k : IntKind)
  | bool
  | str
  | byts
def FitsX (w : World) : FX → Value → Prop
  | .int k, v => ∃ n, v = .int k n ∧ (Lit.int k n).wf = true
  | .bool, v => ∃ b, v = .bool b
  | .str, v => ∃ s : ByteArray, v = .string s ∧ s.size ≤ maxLen
  | .byts, v => ∃ a len cap zs, v = .slice a len cap ∧ IsRow .u8 w a len cap zs
def TypeFX (P : Program) (t : TypeId) : FX → Prop
  | .int k => P.underlying t = some (.int k)
  | .bool => P.underlying t = some .bool
  | .str => P.underlying t = some .string
  | .byts => ∃ e, P.underlying t = some (.slice e) ∧ P.underlying e = some (.int .u8) ∧ P.cellsOf e = 1

/-- A slice of structs: nil, or its cells. -/
def IsRecX (ks : List FX) (w : World) (a : Option Addr) (len cap : Nat) : Prop :=
  (a = none ∧ len = 0 ∧ cap = 0) ∨
  ∃ x, a = some x ∧ len ≤ cap ∧ cap ≤ maxLen ∧ ∀ i, i < len → ∀ j k, ks[j]? = some k → ∃ v, w.cell? (x.add (i * ks.length + j)) = some v ∧ FitsX w k v
/-- A slice of strings: nil, or its cells. -/
def IsStrs (w : World) (a : Option Addr) (len cap : Nat) (ss : List ByteArray) : Prop :=
  (a = none ∧ len = 0 ∧ cap = 0 ∧ ss = []) ∨
  ∃ x, a = some x ∧ len ≤ cap ∧ cap ≤ maxLen ∧ ss.length = cap ∧ (∀ i, i < ss.length → w.cell? (x.add i) = some (.string (ss.getD i ByteArray.empty))) ∧ ∀ s ∈ ss, s.size ≤ maxLen

section
variable {H : Type} {enc : TypeId × Value → H} {P : Program} {w : World} {base : Nat} {held : Bool}

theorem fitsX_of {t : TypeId} {k : FX} (hk : TypeFX P t k) {n : Nat} {v : Value} {y : DataW H × List MemPlace} (h : DataW.trod enc P w base (fun _ => true) held n t [v] = some y) : FitsX w k v := by
  match k, hk with
  | .int k, hk =>
    obtain ⟨m, h1, _, h2⟩ := DataW.trod_int hk h
    simp at h1
    exact ⟨m, h1, h2⟩
  | .bool, hk =>
    obtain ⟨b, h1, _⟩ := DataW.trod_bool hk h
    simp at h1
    exact ⟨b, h1⟩
  | .str, hk =>
    obtain ⟨s, h1, _, h2⟩ := DataW.trod_string hk h
    simp at h1
    exact ⟨s, h1, h2⟩
  | .byts, hk =>
    obtain ⟨e, ht, he, hc⟩ := hk
    rcases open_ints ht he hc h with ⟨hcs, _⟩ | ⟨x, l, c, zs, hcs, _, hl, hm, hz, _, hcell, hwz⟩
    · simp at hcs
      exact ⟨none, 0, 0, [], hcs, .inl ⟨rfl, rfl, rfl, rfl⟩⟩
    · simp at hcs
      exact ⟨some x, l, c, zs, hcs, .inr ⟨_, rfl, hl, hm, by simpa using hz, hcell, hwz⟩⟩

theorem open_recX {t e : TypeId} {fs : Array Field} {ks : List FX} {a : Option Addr} {len cap : Nat} {fuel : Nat} {x : DataW H × List MemPlace} (ht : P.underlying t = some (.slice e)) (he : P.underlying e = some (.struct fs))
    (hone : oneCellFields P fs = true) (hC : P.cellsOf e = fs.size) (hl : ks.length = fs.size) (hks : ∀ (j : Nat) (k : FX), ks[j]? = some k → ∃ f : Field, fs[j]? = some f ∧ TypeFX P f.type k)
    (h : DataW.trod enc P w base (fun _ => true) held fuel t [.slice a len cap] = some x) : IsRecX ks w a len cap := by
  rcases open_slice ht h with ⟨h0, _⟩ | ⟨b, n, c, m, q, D, Pl, hcs, _, h1, h2, hm, _, hi⟩
  · simp at h0
    exact .inl h0
  · simp at hcs
    obtain ⟨rfl, rfl, rfl⟩ := hcs
    refine .inr ⟨b, rfl, h1, h2, fun i hin j k hj => ?_⟩
    have him : i < m := by rw [hm]; split <;> omega
    obtain ⟨cs, hc, hs⟩ := hi i him
    obtain ⟨f, hf, hk⟩ := hks j k hj
    obtain ⟨ho, h3⟩ := hone_of hone j f hf
    have hjl : j < fs.size := (Array.getElem?_eq_some_iff.1 hf).1
    obtain ⟨ys, q', _, _, hlen, hyl, hall⟩ := DataW.trod_struct he hs
    obtain ⟨_, hcl, hat⟩ := World.cells?_some hc
    have hfj := hall j f hf
    rw [ho, h3] at hfj
    have hjc : j < cs.length := by omega
    have hd : (cs.drop j).take 1 = [cs[j]] := by rw [List.drop_eq_getElem_cons hjc]; rfl
    rw [hd, List.getElem?_eq_getElem (by omega)] at hfj
    refine ⟨cs[j], ?_, fitsX_of hk hfj⟩
    have hcell := hat j (by omega)
    rw [Go.Deep.add_add] at hcell
    rw [hl, ← hC, hcell, List.getElem?_eq_getElem hjc]

theorem open_strs7 {t e : TypeId} {a : Option Addr} {len cap : Nat} {fuel : Nat} {x : DataW H × List MemPlace} (ht : P.underlying t = some (.slice e)) (he : P.underlying e = some .string) (hc : P.cellsOf e = 1)
    (h : DataW.trod enc P w base (fun _ => true) held fuel t [.slice a len cap] = some x) : ∃ ss, IsStrs w a len cap ss := by
  rcases open_strings ht he hc h with ⟨hcs, _⟩ | ⟨b, l, c, ss, hcs, _, hl, hm, hz, _, hcell, hw⟩
  · simp at hcs
    obtain ⟨rfl, rfl, rfl⟩ := hcs
    exact ⟨[], .inl ⟨rfl, rfl, rfl, rfl⟩⟩
  · simp at hcs
    obtain ⟨rfl, rfl, rfl⟩ := hcs
    exact ⟨ss, .inr ⟨b, rfl, hl, hm, by simpa using hz, hcell, hw⟩⟩
end

end Go.Proofs.YtdaifepjmkmpjaaDoor

/-
  The walks of the small functions of package word that make no memory: isSize, Fits (and the document's), stopped.
-/
namespace Go.Proofs.YtdaifepjmkmpjaaDoor
set_option linter.unusedVariables false
set_option linter.unusedSimpArgs false
set_option linter.unusedVariables false
set_option linter.unusedSimpArgs false
set_option maxRecDepth 100000
open Go.RowKit

theorem ret_bool {a b : Bool} (h : a = b) : Ending.returned (.bool a) = .returned (.bool b) := by rw [h]
theorem ret_int {k : IntKind} {a b : Int} (h : a = b) : Ending.returned (.int k a) = .returned (.int k b) := by rw [h]

def sizeB (n : Int) : Bool := decide (n = 1 ∨ n = 2 ∨ n = 4)

/-- Whether a number can be written by so many bytes. -/
def fitsB (v n : Int) : Bool := decide (0 ≤ v ∧ ((n = 1 ∧ v ≤ 255) ∨ (n = 2 ∧ v ≤ 65535) ∨ (n = 4 ∧ v ≤ 4294967295)))

theorem fits_u64 (v : Int) (h0 : 0 ≤ v) (h1 : v ≤ 9223372036854775807) : IntKind.u64.wrap v = v := by
  simp [IntKind.wrap, IntKind.bits, IntKind.signed]
  omega

end Go.Proofs.YtdaifepjmkmpjaaDoor

/-
  bytes.Clone.
-/
namespace Go.Proofs.YtdaifepjmkmpjaaDoor
set_option linter.unusedVariables false
set_option linter.unusedSimpArgs false
set_option linter.unusedVariables false
set_option linter.unusedSimpArgs false
set_option maxRecDepth 100000
open Go.RowKit
attribute [local go_sem] Tryd.eqNil22

end Go.Proofs.YtdaifepjmkmpjaaDoor

/-
  word.Put: any number's bytes behind any others.
-/
namespace Go.Proofs.YtdaifepjmkmpjaaDoor
set_option linter.unusedVariables false
set_option linter.unusedSimpArgs false
set_option linter.unusedVariables false
set_option linter.unusedSimpArgs false
set_option maxRecDepth 100000
open Go.RowKit

def leB (v : Int) (n : Nat) : List Int := (List.range n).map fun k => v / 256 ^ k % 256
theorem leB_succ (v : Int) (n : Nat) : leB v (n + 1) = leB v n ++ [v / 256 ^ n % 256] := by simp [leB, List.range_succ]
theorem leB_len (v : Int) (n : Nat) : (leB v n).length = n := by simp [leB]
theorem p256 (k : Nat) : (0 : Int) < 256 ^ k := Int.pow_pos (by decide)
def putL (xs : List Int) (v n : Int) : List Int := if fitsB v n then xs ++ leB v n.toNat else xs

theorem Bts.le {w : World} {ao : Option Addr} {n cap : Nat} {xs : List Int} (h : Bts w (.slice ao n cap) xs) : n = xs.length ∧ xs.length ≤ cap := by
  rcases h with ⟨h1, h2⟩ | ⟨b, off, c, h1, h2, _⟩
  · simp at h1
    simp [h2, h1]
  · simp at h1
    exact ⟨h1.2.1, by omega⟩

def PutRel (w : World) (ao : Option Addr) (xs : List Int) (v : Int) (k : Nat) (o : Value) (wr : World) : Prop :=
  (k = 0 ∧ o = .slice ao xs.length xs.length ∧ wr = w) ∨
  (0 < k ∧ wr.ownsRow w.heap.size 5 1 o (xs.length + k) ((xs ++ leB v k).map (Value.int .u8)) ∧ w.grownBy wr none)

end Go.Proofs.YtdaifepjmkmpjaaDoor

/-
  word.Text, and the document's own Put and Text: the same bytes.
-/
namespace Go.Proofs.YtdaifepjmkmpjaaDoor
set_option linter.unusedVariables false
set_option linter.unusedSimpArgs false
set_option linter.unusedVariables false
set_option linter.unusedSimpArgs false
set_option maxRecDepth 100000
open Go.RowKit

/-- A string's bytes as numbers. -/
def byt (s : ByteArray) : List Int := s.data.toList.map fun b => (b.toNat : Int)
theorem byt_len (s : ByteArray) : (byt s).length = s.size := by simp [byt]
theorem strCells_byt (s : ByteArray) : Lib.strCells s = (byt s).map (Value.int .u8) := by simp [Lib.strCells, byt]

theorem row_cells (w : World) (s : ByteArray) (c : Nat) (T : TypeId) (m : Nat × Nat) : ∀ j u, ((byt s).map (Value.int .u8))[j]? = some u → ((w.alloc (.cells (bytesRow s c) T m)).drew).cell? ((⟨w.heap.size, 0, none⟩ : Addr).add j) = some u := by
  intro j u hj
  rw [addr_add, Nat.zero_add]
  show (w.alloc _).cell? _ = _
  rw [World.cell?_alloc_mark]
  have hlt : j < s.data.size := by
    have := (List.getElem?_eq_some_iff.1 hj).1
    simpa [byt] using this
  simp [byt] at hj
  obtain ⟨a, ha, rfl⟩ := hj
  rw [Array.getElem?_eq_getElem hlt] at ha
  simp at ha
  subst ha
  have hlt' : j < s.size := hlt
  simp [bytesRow, hlt', Array.getElem?_append]

def textL (xs : List Int) (s : ByteArray) : List Int := if s.size ≤ 65535 then xs ++ leB s.size 2 ++ byt s else xs

end Go.Proofs.YtdaifepjmkmpjaaDoor

/-
  The document's own Put and Text (layer 1): the same bytes as word's.
-/
namespace Go.Proofs.YtdaifepjmkmpjaaDoor
set_option linter.unusedVariables false
set_option linter.unusedSimpArgs false
set_option linter.unusedVariables false
set_option linter.unusedSimpArgs false
set_option maxRecDepth 100000
open Go.RowKit

theorem owns_copy {w : World} : (w.alloc (.cells #[] 5)).ownsRow w.heap.size 5 1 (.slice (some ⟨w.heap.size, 0, none⟩) 0 0) 0 [] :=
  World.ownsRow_made (base := w.heap.size) (e := 5) (size := 1) w #[] 0 (Nat.le_refl _) (Nat.zero_le _) rfl

theorem put_step {w wr w1 : World} {xs : List Int} {v : Int} {k : Nat} {o v' : Value} (o1 : Obj) (hgr : w.grownBy wr none) (hown : wr.ownsRow w.heap.size 5 1 o (xs.length + k) ((xs ++ leB v k).map (Value.int .u8)))
    (hown1 : w1.ownsRow w.heap.size 5 1 v' (xs.length + k + 1) (xs.map (Value.int .u8) ++ ((leB v k).map (Value.int .u8) ++ [Value.int .u8 (v / 256 ^ k % 256)]))) (hgr1 : (wr.alloc o1).grownBy w1 o.ownBlock) :
    w1.ownsRow w.heap.size 5 1 v' (xs.length + (k + 1)) ((xs ++ leB v (k + 1)).map (Value.int .u8)) ∧ w.grownBy w1 none :=
  ⟨by simpa [leB_succ, Nat.add_assoc] using hown1, grown_trans (grown_trans hgr (World.grownBy_alloc _ _ none) (fun k hk => by cases hk)) hgr1 (fun k hk h => by have := hown.lt k hk; omega)⟩

theorem div_step {v : Int} (k : Nat) : v / 256 ^ k / 256 = v / 256 ^ (k + 1) := by rw [Int.ediv_ediv_of_nonneg (Int.le_of_lt (p256 k)), ← Int.pow_succ]

end Go.Proofs.YtdaifepjmkmpjaaDoor

/-
  The document's own Text (layer 1): the same bytes as word's.
-/
namespace Go.Proofs.YtdaifepjmkmpjaaDoor
set_option linter.unusedVariables false
set_option linter.unusedSimpArgs false
set_option linter.unusedVariables false
set_option linter.unusedSimpArgs false
set_option maxRecDepth 100000
open Go.RowKit

end Go.Proofs.YtdaifepjmkmpjaaDoor

/-
  Readers: how one stands in memory (RdIs); stopped, take, Left, Done.
-/
namespace Go.Proofs.YtdaifepjmkmpjaaDoor
set_option linter.unusedVariables false
set_option linter.unusedSimpArgs false
set_option linter.unusedVariables false
set_option linter.unusedSimpArgs false
set_option maxRecDepth 100000
open Go.RowKit

/-- Block br is a reader whose bytes left are xs (they lie in block c, if anywhere), whose error is e. -/
def RdIs (T : TypeId) (w : World) (br c : Nat) (xs : List Int) (e : Int) : Prop :=
  ∃ v, w.heap[br]? = some (.cells #[v, .int .i64 e] T (0, 0)) ∧ Bts w v xs ∧ (∀ k, v.ownBlock = some k → k = c) ∧ c ≠ br

theorem two_cell0 {w : World} {b : Nat} {x y : Value} {T : TypeId} (h : w.heap[b]? = some (.cells #[x, y] T (0, 0))) : w.cell? ⟨b, 0, none⟩ = some x := by simp [World.cell?, h]
theorem two_cell1 {w : World} {b : Nat} {x y : Value} {T : TypeId} (h : w.heap[b]? = some (.cells #[x, y] T (0, 0))) : w.cell? ⟨b, 1, none⟩ = some y := by simp [World.cell?, h]
theorem two_free {w : World} {b o : Nat} {x y : Value} {T : TypeId} (h : w.heap[b]? = some (.cells #[x, y] T (0, 0))) : w.frozen? ⟨b, o, none⟩ = false := by simp [World.frozen?, h]
theorem two_set0 {w : World} {b : Nat} {x y u : Value} {T : TypeId} (h : w.heap[b]? = some (.cells #[x, y] T (0, 0))) : (w.setCell ⟨b, 0, none⟩ u).heap[b]? = some (.cells #[u, y] T (0, 0)) := by
  simp [World.setCell, Array.getElem?_modify, h]
theorem two_set1 {w : World} {b : Nat} {x y u : Value} {T : TypeId} (h : w.heap[b]? = some (.cells #[x, y] T (0, 0))) : (w.setCell ⟨b, 1, none⟩ u).heap[b]? = some (.cells #[x, u] T (0, 0)) := by
  simp [World.setCell, Array.getElem?_modify, h]
theorem grown_set (w : World) (a : Addr) (u : Value) : w.grownBy (w.setCell a u) (some a.block) :=
  ⟨rfl, rfl, rfl, by simp [World.setCell], fun k _ hk => Below.heap_setCell _ _ _ _ (fun e => hk (by rw [e]))⟩

theorem Bts.kept {w w' : World} {v : Value} {xs : List Int} {r : Option Nat} (h : Bts w v xs) (hg : w.grownBy w' r) (hne : ∀ k, v.ownBlock = some k → some k ≠ r) : Bts w' v xs := by
  rcases h with h | ⟨b, off, cap, rfl, h2, h3⟩
  · exact .inl h
  · exact .inr ⟨b, off, cap, rfl, h2, fun i hi => hg.cell (h3 i hi) (hne b rfl)⟩

theorem RdIs.kept {T : TypeId} {w w' : World} {br c : Nat} {xs : List Int} {e : Int} {r : Option Nat} (h : RdIs T w br c xs e) (hg : w.grownBy w' r) (h1 : some br ≠ r) (h2 : some c ≠ r) : RdIs T w' br c xs e := by
  obtain ⟨v, hb, hv, hc, hne⟩ := h
  exact ⟨v, (hg.block br (Array.getElem?_eq_some_iff.1 hb).1 h1).trans hb, hv.kept hg (fun k hk => by rw [hc k hk]; exact h2), hc, hne⟩

theorem Bts.take {w : World} {b off cap n : Nat} {xs : List Int} (_h2 : xs.length ≤ cap) (h3 : ∀ i, i < xs.length → w.cell? ⟨b, off + i, none⟩ = some (.int .u8 (xs.getD i 0))) (hn : n ≤ xs.length) : Bts w (.slice (some ⟨b, off, none⟩) n n) (xs.take n) := by
  refine .inr ⟨b, off, n, by simp [Nat.min_eq_left hn], by simp; omega, fun i hi => ?_⟩
  have hi' : i < min n xs.length := by simpa using hi
  have hi2 : i < n := by omega
  rw [h3 i (by omega)]
  simp [hi2]

theorem Bts.drop {w : World} {b off cap n : Nat} {xs : List Int} (h2 : xs.length ≤ cap) (h3 : ∀ i, i < xs.length → w.cell? ⟨b, off + i, none⟩ = some (.int .u8 (xs.getD i 0))) (hn : n ≤ xs.length) : Bts w (.slice (some ⟨b, off + n, none⟩) (xs.length - n) (cap - n)) (xs.drop n) := by
  refine .inr ⟨b, off + n, cap - n, by simp, by simp; omega, fun i hi => ?_⟩
  simp at hi
  have := h3 (n + i) (by omega)
  rw [← Nat.add_assoc] at this
  rw [this]
  simp [List.getElem?_drop]

theorem Bts.empty {w : World} {b off n : Nat} {xs : List Int} (hn : xs.length ≤ n) : Bts w (.slice (some ⟨b, off, none⟩) 0 0) (xs.drop n) := by
  rw [List.drop_eq_nil_of_le hn]
  exact .inr ⟨b, off, 0, rfl, Nat.le_refl _, fun i hi => by simp at hi⟩

end Go.Proofs.YtdaifepjmkmpjaaDoor

/-
  Reader.Number: the program's.
-/
namespace Go.Proofs.YtdaifepjmkmpjaaDoor
set_option linter.unusedVariables false
set_option linter.unusedSimpArgs false
set_option linter.unusedVariables false
set_option linter.unusedSimpArgs false
set_option maxRecDepth 100000
open Go.RowKit

def leV : List Int → Int
  | [] => 0
  | b :: l => b + 256 * leV l
def Byts (xs : List Int) : Prop := ∀ x ∈ xs, 0 ≤ x ∧ x < 256
def numV (n : Int) (xs : List Int) (e : Int) : Int := if e = 0 ∧ sizeB n = true ∧ n ≤ xs.length then leV (xs.take n.toNat) else 0
def numX (n : Int) (xs : List Int) (e : Int) : List Int := if e = 0 ∧ sizeB n = true ∧ n ≤ xs.length then xs.drop n.toNat else xs
def numE (n : Int) (xs : List Int) (e : Int) : Int := if e = 0 then (if sizeB n = true then (if n ≤ xs.length then 0 else 2) else 1) else e

theorem num_short {m : Nat} {xs : List Int} (hs : sizeB m = true) (hn : ¬ m ≤ xs.length) : numV m xs 0 = 0 ∧ numX m xs 0 = xs ∧ numE m xs 0 = 2 := by
  have h : ¬ (m : Int) ≤ (xs.length : Int) := by omega
  exact ⟨if_neg (fun x => h x.2.2), if_neg (fun x => h x.2.2), by unfold numE; rw [if_pos rfl, if_pos hs, if_neg h]⟩

theorem leV_bd : ∀ xs : List Int, Byts xs → 0 ≤ leV xs ∧ leV xs < 256 ^ xs.length
  | [], _ => by simp [leV]
  | b :: l, h => by
    have h1 := h b (by simp)
    have h2 := leV_bd l (fun x hx => h x (by simp [hx]))
    simp only [leV, List.length_cons, Int.pow_succ]
    omega

theorem leV_snoc : ∀ (xs : List Int) (c : Int), leV (xs ++ [c]) = leV xs + c * 256 ^ xs.length
  | [], c => by simp [leV]
  | b :: l, c => by
    simp only [List.cons_append, leV, leV_snoc l c, List.length_cons, Int.pow_succ]
    rw [Int.mul_add, Int.mul_comm (256 ^ l.length) 256, ← Int.mul_assoc, ← Int.mul_assoc, Int.mul_comm c 256, Int.add_assoc]

theorem Bts.pos {w : World} {v : Value} {xs : List Int} {n : Nat} (h : Bts w v xs) (hn : xs.length = n) (h0 : 0 < n) :
    ∃ b off cap, v = .slice (some ⟨b, off, none⟩) n cap ∧ ∀ i, i < n → w.cell? ⟨b, off + i, none⟩ = some (.int .u8 (xs.getD i 0)) := by
  rcases h with ⟨_, rfl⟩ | ⟨b, off, cap, rfl, _, h3⟩
  · simp at hn; omega
  · subst hn; exact ⟨b, off, cap, rfl, h3⟩

theorem wraps_i64 (n : Int) (h0 : 0 ≤ n) (h1 : n < 2 ^ 63) : IntKind.i64.wrap n = n := by rw [IntKind.wrap_i64]; omega

theorem pow_cases (k : Nat) (hk : k < 4) : ∃ p : Int, (2 : Int) ^ (8 * k) = p ∧ (256 : Int) ^ k = p ∧ 1 ≤ p ∧ p ≤ 16777216 := by
  have h : k = 0 ∨ k = 1 ∨ k = 2 ∨ k = 3 := by omega
  rcases h with rfl | rfl | rfl | rfl <;> exact ⟨_, rfl, by decide, by decide, by decide⟩

theorem num_or (V c : Int) (k : Nat) (hk : k < 4) (hc0 : 0 ≤ c) (hc1 : c < 256) (hV0 : 0 ≤ V) (hV1 : V < 256 ^ k) :
    bits .or .i64 V (wrap64 (wrap64 c * 2 ^ (8 * k))) = V + c * 256 ^ k := by
  obtain ⟨p, h1, h2, h3, h4⟩ := pow_cases k hk
  have hcp0 : 0 ≤ c * p := Int.mul_nonneg hc0 (by omega)
  have hcp1 : c * p ≤ 256 * 16777216 := Int.mul_le_mul (by omega) h4 (by omega) (by omega)
  have e1 : wrap64 c = c := IntWalk.wrap64_in _ ⟨by omega, by omega⟩
  have e2 : wrap64 (c * p) = c * p := IntWalk.wrap64_in _ ⟨by omega, by omega⟩
  have hm : c * p % 2 ^ (8 * k) = 0 := by rw [h1]; exact Int.mul_emod_left c p
  rw [e1, h1, e2, h2]
  have hcomm : bits .or .i64 V (c * p) = bits .or .i64 (c * p) V := by simp only [bits, BitVec.or_comm]
  rw [hcomm, bits_join .i64 63 (by decide) wraps_i64 (8 * k) (c * p) V hcp0 hm (by omega) hV0 (by rw [h1]; rw [h2] at hV1; exact hV1) (by rw [h2] at hV1; omega), Int.add_comm]

theorem num_step (ys : List Int) (k : Nat) (hk : k < ys.length) (hy : ys.length ≤ 4) (hB : Byts ys) :
    bits .or .i64 (leV (ys.take k)) (wrap64 (wrap64 (ys.getD k 0) * 2 ^ (8 * k))) = leV (ys.take (k + 1)) := by
  have hb := leV_bd (ys.take k) (fun x hx => hB x (List.mem_of_mem_take hx))
  have hl : (ys.take k).length = k := by simp; omega
  have hg : ys.getD k 0 = ys[k] := by simp [List.getD_eq_getElem?_getD, hk]
  have hc := hB ys[k] (List.getElem_mem hk)
  rw [hl] at hb
  rw [hg, num_or _ _ k (by omega) hc.1 hc.2 hb.1 hb.2, List.take_succ_eq_append_getElem hk, leV_snoc, hl]

/-- What a reading of a number left behind. -/
def NumPost (T : TypeId) (w : World) (br c : Nat) (xs : List Int) (e0 n : Int) (e : Ending) (w' : World) : Prop :=
  e = .returned (.int .i64 (numV n xs e0)) ∧ RdIs T w' br c (numX n xs e0) (numE n xs e0) ∧ w.grownBy w' (some br)

end Go.Proofs.YtdaifepjmkmpjaaDoor

/-
  The document's Reader.Number: the same as the program's.
-/
namespace Go.Proofs.YtdaifepjmkmpjaaDoor
set_option linter.unusedVariables false
set_option linter.unusedSimpArgs false
set_option linter.unusedVariables false
set_option linter.unusedSimpArgs false
set_option maxRecDepth 100000
open Go.RowKit

theorem leV_drop (ys : List Int) (j : Nat) (hj : j < ys.length) : leV (ys.drop j) = ys.getD j 0 + 256 * leV (ys.drop (j + 1)) := by
  rw [List.drop_eq_getElem_cons hj]
  simp [leV, List.getD_eq_getElem?_getD, hj]

end Go.Proofs.YtdaifepjmkmpjaaDoor
