/-
  Texts put together: DA EA WA TA HA.
-/
import Derived.Test.YtdadgcfpcneaiaaGreatDoorM01
import Derived.Below
import Derived.Laws.LoneSync
import Derived.Deep.MidRow
import Derived.OneCell
import Derived.Test.YtdadgcfpcneaiaaGreatDoorRows
import Derived.WalkKit
import Derived.WalkSpells
import Derived.WalkLawsBesides
import Derived.BigQuiet
import Derived.Deep.QuietTactic
import Derived.Lib.Hide
import Derived.Handy
import Derived.Outline
import Derived.Deep.DeepCutAuto
import Derived.Deep.Cut
import Derived.Deep.CutBlock
import Derived.Deep.LoopGhost
/-
  Package draws: slices of ints; Contains, ContainsFunc, Clone.
-/
namespace Go.Proofs.YtdadgcfpcneaiaaGreatDoor
set_option linter.unusedVariables false
set_option linter.unusedSimpArgs false
set_option linter.unusedVariables false
set_option linter.unusedSimpArgs false
set_option maxRecDepth 100000
open Go.RowKit

/-- The slice value v reads as the ints xs: nil; its cells; or none of them, at whatever address. -/
def Ints (w : World) (v : Value) (xs : List Int) : Prop :=
  (v = .slice none 0 0 ∧ xs = []) ∨ (∃ b off cap, v = .slice (some ⟨b, off, none⟩) xs.length cap ∧ xs.length ≤ cap ∧ ∀ i, i < xs.length → w.cell? ⟨b, off + i, none⟩ = some (.int .i64 (xs.getD i 0))) ∨
    ∃ a cap, v = .slice (some a) 0 cap ∧ xs = []
theorem Ints.cells {w : World} {xs : List Int} {b off cap : Nat} (hc : xs.length ≤ cap) (h : ∀ i, i < xs.length → w.cell? ⟨b, off + i, none⟩ = some (.int .i64 (xs.getD i 0))) : Ints w (.slice (some ⟨b, off, none⟩) xs.length cap) xs := .inr (.inl ⟨b, off, cap, rfl, hc, h⟩)

theorem Ints.form {w : World} {v : Value} {xs : List Int} (h : Ints w v xs) : ∃ ao cap b off, v = .slice ao xs.length cap ∧ ∀ k, k < xs.length → ao = some ⟨b, off, none⟩ ∧ w.cell? ⟨b, off + k, none⟩ = some (.int .i64 (xs.getD k 0)) := by
  rcases h with ⟨rfl, rfl⟩ | ⟨b, off, cap, rfl, _, hc⟩ | ⟨a, cap, rfl, rfl⟩
  · exact ⟨none, 0, 0, 0, rfl, fun k hk => by simp at hk⟩
  · exact ⟨_, cap, b, off, rfl, fun k hk => ⟨rfl, hc k hk⟩⟩
  · exact ⟨_, cap, 0, 0, rfl, fun k hk => by simp at hk⟩
/-- nil, or cells at some address. -/
theorem Ints.two {w : World} {v : Value} {xs : List Int} (h : Ints w v xs) : (v = .slice none 0 0 ∧ xs = []) ∨ ∃ a cap, v = .slice (some a) xs.length cap ∧ xs.length ≤ cap ∧ ∀ i, i < xs.length → w.cell? (a.add i) = some (.int .i64 (xs.getD i 0)) := by
  rcases h with h | ⟨b, off, cap, rfl, h2, h3⟩ | ⟨a, cap, rfl, rfl⟩
  · exact .inl h
  · exact .inr ⟨_, cap, rfl, h2, fun i hi => by rw [addr_add]; exact h3 i hi⟩
  · exact .inr ⟨a, cap, rfl, Nat.zero_le _, fun i hi => by simp at hi⟩
theorem Ints.kept {w w' : World} {v : Value} {xs : List Int} {r : Option Nat} (h : Ints w v xs) (hg : w.grownBy w' r) (hne : ∀ k, v.ownBlock = some k → some k ≠ r) : Ints w' v xs := by
  rcases h with h | ⟨b, off, cap, rfl, h2, h3⟩ | h
  · exact .inl h
  · exact .inr (.inl ⟨b, off, cap, rfl, h2, fun i hi => hg.cell (h3 i hi) (hne b rfl)⟩)
  · exact .inr (.inr h)

theorem index_any (v : Value) (xs : List Int) (n : Int) (w : World) (hb : Ints w v xs) (hm : xs.length ≤ 9223372036854775807) :
    Calls Tryz.prog 183 #[v, .int .i64 n] w fun e w' => ∃ r : Int, e = .returned (.int .i64 r) ∧ w = w' ∧ ((0 ≤ r ∧ n ∈ xs) ∨ (r < 0 ∧ n ∉ xs)) := by
  obtain ⟨ao, cap, b, off, rfl, hc⟩ := hb.form
  have HC := Lib.hid hc
  clear hc hb
  go_enter Tryz.func183, Tryz.ntmps183
  go_wp2
  go_loopw [8] (fun i wr => ∃ k : Nat, k ≤ xs.length ∧ i = .int .i64 k ∧ (∀ j, j < k → xs.getD j 0 ≠ n) ∧ w = wr) (fun i _ => xs.length - (intOf i).toNat)
  case atStart => exact ⟨0, by omega, rfl, fun j hj => by omega, rfl⟩
  case round =>
    obtain ⟨k, hk, rfl, hnot, rfl⟩ := hrel
    have NOT := Lib.hid hnot
    clear hnot
    by_cases hlt : k < xs.length
    · obtain ⟨rfl, hcell⟩ := HC.out k hlt
      obtain ⟨x, hx⟩ : ∃ x, xs.getD k 0 = x := ⟨_, rfl⟩
      rw [hx] at hcell
      have HX := Lib.hid hx
      clear hx
      by_cases he : n = x
      · subst he
        go_wp2
        go_ret
        refine ⟨_, rfl, rfl, .inl ⟨by omega, ?_⟩⟩
        have := HX.out
        rw [List.getD_eq_getElem?_getD, List.getElem?_eq_getElem hlt] at this
        simp only [Option.getD_some] at this
        rw [← this]
        exact List.getElem_mem hlt
      · have hne : (n == x) = false := by simpa using he
        clear he
        go_wp2
        go_roundw
        case rel =>
          refine ⟨k + 1, by omega, by go_num, fun j hj => ?_, trivial⟩
          by_cases e : j = k
          · subst e; rw [HX.out]; intro h; subst h; simp at hne
          · exact NOT.out j (by omega)
        case measure => simp [intOf]; omega
    · obtain rfl : k = xs.length := by omega
      go_wp2
      go_ret
      refine ⟨_, rfl, rfl, .inr ⟨by omega, fun hmem => ?_⟩⟩
      obtain ⟨j, hj, hjn⟩ := List.mem_iff_getElem.1 hmem
      refine NOT.out j hj ?_
      rw [List.getD_eq_getElem?_getD, List.getElem?_eq_getElem hj]
      exact hjn

theorem contains_any (v : Value) (xs : List Int) (n : Int) (w : World) (hb : Ints w v xs) (hm : xs.length ≤ 9223372036854775807) :
    Calls Tryz.prog 176 #[v, .int .i64 n] w fun e w' => e = .returned (.bool (decide (n ∈ xs))) ∧ w = w' := by
  have I := index_any v xs n w hb hm
  obtain ⟨ao, cap, b, off, rfl, hc⟩ := hb.form
  clear hc hb
  go_enter Tryz.func176, Tryz.ntmps176
  go_wp2_with (go_at_call 183; refine I.mono ?_; rintro e w' ⟨r, rfl, rfl, hr⟩; have HR := Lib.hid hr; clear hr)
  go_ret
  rcases HR.out with ⟨h1, h2⟩ | ⟨h1, h2⟩
  · exact ⟨by simp [h1, h2], rfl⟩
  · exact ⟨by simp [h2]; omega, rfl⟩

theorem below_any (n : Int) (w : World) : Calls Tryz.prog 68 #[.int .i64 n] w fun e w' => e = .returned (.bool (decide (n < 1))) ∧ w = w' := by
  go_enter Tryz.func68, Tryz.ntmps68
  go_wp2
  go_ret
  exact ⟨rfl, rfl⟩

theorem indexFunc_any (v : Value) (xs : List Int) (w : World) (hb : Ints w v xs) (hm : xs.length ≤ 9223372036854775807) :
    Calls Tryz.prog 102 #[v, .func (.func 68) #[] #[]] w fun e w' => ∃ r : Int, e = .returned (.int .i64 r) ∧ w = w' ∧ ((0 ≤ r ∧ ∃ n ∈ xs, n < 1) ∨ (r < 0 ∧ ∀ n ∈ xs, ¬ n < 1)) := by
  obtain ⟨ao, cap, b, off, rfl, hc⟩ := hb.form
  have HC := Lib.hid hc
  clear hc hb
  go_enter Tryz.func102, Tryz.ntmps102
  go_wp2
  go_loopw [8] (fun i wr => ∃ k : Nat, k ≤ xs.length ∧ i = .int .i64 k ∧ (∀ j, j < k → ¬ xs.getD j 0 < 1) ∧ w = wr) (fun i _ => xs.length - (intOf i).toNat)
  case atStart => exact ⟨0, by omega, rfl, fun j hj => by omega, rfl⟩
  case round =>
    obtain ⟨k, hk, rfl, hnot, rfl⟩ := hrel
    have NOT := Lib.hid hnot
    clear hnot
    by_cases hlt : k < xs.length
    · obtain ⟨rfl, hcell⟩ := HC.out k hlt
      obtain ⟨x, hx⟩ : ∃ x, xs.getD k 0 = x := ⟨_, rfl⟩
      rw [hx] at hcell
      have HX := Lib.hid hx
      clear hx
      by_cases he : x < 1
      · go_wp2_with (go_at_call 68; refine (below_any _ _).mono ?_; rintro e w' ⟨rfl, rfl⟩)
        go_ret
        refine ⟨_, rfl, rfl, .inl ⟨by omega, x, ?_, he⟩⟩
        have := HX.out
        rw [List.getD_eq_getElem?_getD, List.getElem?_eq_getElem hlt] at this
        simp only [Option.getD_some] at this
        rw [← this]
        exact List.getElem_mem hlt
      · go_wp2_with (go_at_call 68; refine (below_any _ _).mono ?_; rintro e w' ⟨rfl, rfl⟩)
        go_roundw
        case rel =>
          refine ⟨k + 1, by omega, by go_num, fun j hj => ?_, trivial⟩
          by_cases e : j = k
          · subst e; rw [HX.out]; omega
          · have := NOT.out j (by omega); omega
        case measure => simp [intOf]; omega
    · obtain rfl : k = xs.length := by omega
      go_wp2
      go_ret
      refine ⟨_, rfl, rfl, .inr ⟨by omega, fun n hmem => ?_⟩⟩
      obtain ⟨j, hj, hjn⟩ := List.mem_iff_getElem.1 hmem
      have := NOT.out j hj
      rw [List.getD_eq_getElem?_getD, List.getElem?_eq_getElem hj] at this
      simp only [Option.getD_some] at this
      rw [← hjn]
      exact this

def lowB (xs : List Int) : Bool := xs.any fun n => decide (n < 1)

theorem containsFunc_any (v : Value) (xs : List Int) (w : World) (hb : Ints w v xs) (hm : xs.length ≤ 9223372036854775807) :
    Calls Tryz.prog 67 #[v, .func (.func 68) #[] #[]] w fun e w' => e = .returned (.bool (lowB xs)) ∧ w = w' := by
  have I := indexFunc_any v xs w hb hm
  obtain ⟨ao, cap, b, off, rfl, hc⟩ := hb.form
  clear hc hb
  go_enter Tryz.func67, Tryz.ntmps67
  go_wp2_with (go_at_call 102; refine I.mono ?_; rintro e w' ⟨r, rfl, rfl, hr⟩; have HR := Lib.hid hr; clear hr)
  go_ret
  rcases HR.out with ⟨h1, h2⟩ | ⟨h1, h2⟩
  · have : lowB xs = true := by simpa [lowB] using h2
    exact ⟨by simp [this, h1], rfl⟩
  · have : lowB xs = false := by simp [lowB]; intro n hn; have := h2 n hn; omega
    exact ⟨by simp [this]; omega, rfl⟩

theorem Tryz.infoInt : (Tryz.prog.info? 3).map (fun i => (i.zero, i.size, i.bytes)) = some (some (.int .i64 0), 1, 8) := by kernel_rfl
theorem Tryz.eqNilInts (w : World) (a : Option Addr) (n c : Nat) : (binOp .eql 22 (.slice a n c) (.slice none 0 0)).run Tryz.prog w = .ok (.bool a.isNone) w := Lib.run_eql_slice_nil w 22 3 a n c 0 0 Tryz.underlying22
attribute [local go_sem] Tryz.eqNilInts

/-- A copy in new memory. -/
def Cloned (w : World) (xs : List Int) (e : Ending) (w' : World) : Prop := ∃ v', e = .returned v' ∧ Ints w' v' xs ∧ w.grownBy w' none ∧ (∀ k, v'.ownBlock = some k → w.heap.size ≤ k ∧ k < w'.heap.size)

theorem owns_ints {w : World} {B : Nat} {v : Value} {xs : List Int} {n : Nat} (hn : n = xs.length) (h : w.ownsRow B 3 1 v n (xs.map (Value.int .i64))) : Ints w v xs := by
  subst hn
  rcases h.2 with ⟨h2, h3⟩ | ⟨g, cap, cur, rfl, hg, hh, hc, _⟩
  · exact .inl ⟨h2, List.length_eq_zero_iff.1 h3⟩
  · refine .inr (.inl ⟨g, 0, cap, rfl, hc, fun i hi => ?_⟩)
    rw [Nat.zero_add, h.cellAt i (by omega), List.getElem?_map, List.getElem?_eq_getElem hi, List.getD_eq_getElem?_getD, List.getElem?_eq_getElem hi]
    rfl

theorem clonei_any (v : Value) (xs : List Int) (w : World) (hb : Ints w v xs) (hm : xs.length ≤ 64) :
    Calls Tryz.prog 55 #[v] w (Cloned w xs) := by
  obtain ⟨i0, hi, hz0, hz1, hz2⟩ := info_parts Tryz.infoInt
  rcases hb.two with ⟨rfl, rfl⟩ | ⟨sa, cap, rfl, _, hc⟩
  · go_enter Tryz.func55, Tryz.ntmps55
    go_wp2
    go_ret
    exact ⟨_, rfl, .inl ⟨rfl, rfl⟩, ⟨rfl, rfl, rfl, Nat.le_refl _, fun _ _ _ => rfl⟩, fun k hk => by simp [Value.ownBlock] at hk⟩
  · have hown := World.ownsRow_made (base := w.heap.size) (e := 3) (size := 1) w #[] 0 (Nat.le_refl _) (Nat.zero_le _) rfl
    have HC := Lib.hid hc
    clear hc
    go_enter Tryz.func55, Tryz.ntmps55
    go_wp2_with (at_builtin; go_loud (refine wpList_append_own _ rfl _ _ 22 rfl w.heap.size 3 i0 (.int .i64 0) 1 8 Tryz.underlying22 hi hz0 hz1 hz2 rfl (by decide) _ _ _ rfl hown sa xs.length cap (xs.map (Value.int .i64)) rfl (by simp) ?c1 ?c2 ?c3 ?c4 ?c5 ?_))
    case c1 =>
      intro j u hj
      rw [List.getElem?_map] at hj
      by_cases h : j < xs.length
      · rw [List.getElem?_eq_getElem h] at hj
        have h2 := HC.out j h
        rw [World.cell?_alloc_old _ _ _ (Nat.ne_of_lt (World.block_lt_of_cell? w _ h2)), h2, ← hj]
        simp [List.getElem?_eq_getElem h, List.getD_eq_getElem?_getD]
      · rw [List.getElem?_eq_none (by omega)] at hj
        cases hj
    case c2 => exact ints_oneCell _ _
    case c3 => unfold maxLen; omega
    case c4 => omega
    case c5 => simp
    intro v' w1 hown' hgrow _
    have hown2 : w1.ownsRow w.heap.size 3 1 v' xs.length (xs.map (Value.int .i64)) := by simpa using hown'
    go_wp2
    go_ret
    exact ⟨v', rfl, owns_ints rfl hown2, grown_trans (World.grownBy_alloc w _ none) hgrow (fun k hk h => by simp [Value.ownBlock] at hk; omega), hown2.lt⟩

end Go.Proofs.YtdadgcfpcneaiaaGreatDoor

/-
  Ledgers: what they are, how they stand in memory; whole rows read and written at once.
-/
namespace Go.Proofs.YtdadgcfpcneaiaaGreatDoor
set_option linter.unusedVariables false
set_option linter.unusedSimpArgs false
set_option linter.unusedVariables false
set_option linter.unusedSimpArgs false
set_option maxRecDepth 100000
open Go.RowKit

/-! ### whole rows, also where a guard let the operation by -/
section
variable {P : Program} {ops : Array Oper} {rest : List Oper} {o : Oper} {a : Act} {w : World} {Q : Exit → Act → World → Prop}

theorem wpList_want (hwt : Region.wanted o (yielded ops a.tmps) = true) (h : ∀ K : Act → World → Prop, (∀ a w, wpList P ops Q rest a w → K a w) → o.wp P a w K Q) : wpList P ops Q (o :: rest) a w := by
  unfold wpList
  rw [if_pos hwt]
  exact .inl (h _ (fun _ _ h => h))

/-- What a guard passes over. -/
theorem wpList_pass {a' : Act} (hw : Region.wanted o (yielded ops a.tmps) = false) (ha : a.put o.dst undef = a') (h : wpList P ops Q rest a' w) : wpList P ops Q (o :: rest) a w := by
  unfold wpList
  rw [if_neg (by rw [hw]; simp), ha]
  exact h

/-- A part of a block that is known whole is read. -/
theorem wpList_load_part (hwt : Region.wanted o (yielded ops a.tmps) = true) (ty : TypeId) (x : Operand) (ho : o.op = .load ty x)
    (g off n : Nat) (hx : a.eval x = .pointer (some ⟨g, off, none⟩)) (t : TypeId) (C : Array Value) (fr : Nat × Nat) (d : TypeDesc) (cs : Array Value) (hg : w.heap[g]? = some (.cells C t fr))
    (hcs : C.extract off (off + n) = cs) (hn : cs.size = n) (hu : P.underlying ty = some d) (hd : d.isRow = true) (hi : (P.info? ty).map (·.size) = some n)
    (h : wpList P ops Q rest (a.put o.dst (.agg cs)) w) : wpList P ops Q (o :: rest) a w := by
  refine wpList_want hwt fun K hK => wp_load_mid ty x ho g off hx cs.toList d ?_ hu hd (by rw [hi]; simp [hn]) (hK _ _ (by simpa using h))
  have := World.rangeAt_of_block hg off n
  rw [hcs] at this
  exact this

/-- A part of a block that is known whole is written. -/
theorem wpList_store_part (hwt : Region.wanted o (yielded ops a.tmps) = true) (ty : TypeId) (x y : Operand) (ho : o.op = .store ty x y)
    (g off n : Nat) (cs : Array Value) (hx : a.eval x = .pointer (some ⟨g, off, none⟩)) (hy : a.eval y = .agg cs) (t : TypeId) (C C' : Array Value) (hg : w.heap[g]? = some (.cells C t (0, 0)))
    (hn : cs.size = n) (hi : (P.info? ty).map (·.size) = some n) (hfit : off + n ≤ C.size) (h1 : cs.all (·.oneCell') = true) (hC' : (C.toList.take off ++ cs.toList ++ C.toList.drop (off + cs.toList.length)).toArray = C')
    (h : ∀ w', w'.heap[g]? = some (.cells C' t (0, 0)) → w.grownBy w' (some g) → w'.heap.size = w.heap.size → wpList P ops Q rest (a.put o.dst undef) w') : wpList P ops Q (o :: rest) a w := by
  refine wpList_want hwt fun K hK => ?_
  have hst := run_storeCells_at P g off t cs.toList 0 C w hg (by simp; omega) (fun v hv => (Array.all_eq_true_iff_forall_mem.1 h1) v (by simpa using hv))
  have hrun : (storeVar ty ⟨g, off, none⟩ (.agg cs)).run P w = .ok () (w.setRow g C') := by
    cases hq : P.info? ty with
    | none => simp [hq] at hi
    | some i =>
      have hs : i.size = cs.size := by simp [hq] at hi; omega
      rw [← hC']
      simpa [storeVar, sizeOf, typeInfo, hq, Value.cells, hs] using hst
  have hlt : g < w.heap.size := (Array.getElem?_eq_some_iff.1 hg).1
  unfold Oper.wp execOp
  simp only [ho, hx, hy, Instr.storeAt, Instr.sureAddr, Sem.run_bind, Sem.run_pure, Result.andThen_ok, hrun]
  exact hK _ _ (h _ (setRow_heap w g C C' t _ hg) ⟨rfl, rfl, rfl, by simp, fun k _ hne => setRow_other w g k C' (fun e => hne (by rw [e]))⟩ (by simp))
end

/-! ### what a ledger is -/
structure Ten where
  th : Bool
  ep : Int
  sz : Int
  sp : Int
  bs : List Int
structure Led where
  gen : Int
  eps : Int
  t : Nat → Ten
def noTen : Ten := ⟨false, 0, 0, 0, []⟩
def noLed : Led := ⟨0, 0, fun _ => noTen⟩
abbrev nilS : Value := .slice none 0 0

def tenC (x : Ten) (v : Value) : Array Value := #[.bool x.th, .int .i64 x.ep, .int .i64 x.sz, .int .i64 x.sp, v]
def ledC (L : Led) (V : Nat → Value) : Array Value :=
  #[.int .i64 L.gen, .int .i64 L.eps,
    .bool (L.t 0).th, .int .i64 (L.t 0).ep, .int .i64 (L.t 0).sz, .int .i64 (L.t 0).sp, V 0,
    .bool (L.t 1).th, .int .i64 (L.t 1).ep, .int .i64 (L.t 1).sz, .int .i64 (L.t 1).sp, V 1,
    .bool (L.t 2).th, .int .i64 (L.t 2).ep, .int .i64 (L.t 2).sz, .int .i64 (L.t 2).sp, V 2,
    .bool (L.t 3).th, .int .i64 (L.t 3).ep, .int .i64 (L.t 3).sz, .int .i64 (L.t 3).sp, V 3]
def tensC (L : Led) (V : Nat → Value) : Array Value :=
  #[.bool (L.t 0).th, .int .i64 (L.t 0).ep, .int .i64 (L.t 0).sz, .int .i64 (L.t 0).sp, V 0,
    .bool (L.t 1).th, .int .i64 (L.t 1).ep, .int .i64 (L.t 1).sz, .int .i64 (L.t 1).sp, V 1,
    .bool (L.t 2).th, .int .i64 (L.t 2).ep, .int .i64 (L.t 2).sz, .int .i64 (L.t 2).sp, V 2,
    .bool (L.t 3).th, .int .i64 (L.t 3).ep, .int .i64 (L.t 3).sz, .int .i64 (L.t 3).sp, V 3]
theorem ledC_size (L : Led) (V : Nat → Value) : (ledC L V).size = 22 := rfl
theorem tensC_size (L : Led) (V : Nat → Value) : (tensC L V).size = 20 := rfl
theorem tenC_size (x : Ten) (v : Value) : (tenC x v).size = 5 := rfl
theorem led_tens (L : Led) (V : Nat → Value) : (ledC L V).extract 2 (2 + 20) = tensC L V := by simp [ledC, tensC]
theorem led_all (L : Led) (V : Nat → Value) : (ledC L V).extract 0 (0 + 22) = ledC L V := by simp [ledC]
theorem ten_all (x : Ten) (v : Value) : (tenC x v).extract 0 (0 + 5) = tenC x v := rfl

/-- A slice of ints is one cell. -/
def SliceV (v : Value) : Prop := ∃ a n c, v = .slice a n c
theorem Ints.slice {w : World} {v : Value} {xs : List Int} (h : Ints w v xs) : SliceV v := by
  obtain ⟨ao, cap, _, _, rfl, _⟩ := h.form
  exact ⟨_, _, _, rfl⟩
theorem SliceV.one {v : Value} (h : SliceV v) : v.oneCell' = true := by obtain ⟨a, n, c, rfl⟩ := h; rfl
theorem ten_one (x : Ten) {v : Value} (h : SliceV v) : (tenC x v).all (·.oneCell') = true := by
  obtain ⟨a, n, c, rfl⟩ := h
  simp [tenC, Value.oneCell']
theorem led_one (L : Led) {V : Nat → Value} (h : ∀ j, j < 4 → SliceV (V j)) : (ledC L V).all (·.oneCell') = true := by
  obtain ⟨_, _, _, h0⟩ := h 0 (by omega)
  obtain ⟨_, _, _, h1⟩ := h 1 (by omega)
  obtain ⟨_, _, _, h2⟩ := h 2 (by omega)
  obtain ⟨_, _, _, h3⟩ := h 3 (by omega)
  simp [ledC, h0, h1, h2, h3, Value.oneCell']

/-- A block that is known whole. -/
def Blk (w : World) (g : Nat) (t : TypeId) (cs : Array Value) : Prop := w.heap[g]? = some (.cells cs t (0, 0))
section
variable {w w' : World} {g : Nat} {t : TypeId} {cs : Array Value}
theorem Blk.lt (h : Blk w g t cs) : g < w.heap.size := (Array.getElem?_eq_some_iff.1 h).1
theorem Blk.cell (h : Blk w g t cs) (i : Nat) : w.cell? ⟨g, i, none⟩ = cs[i]? := cell_of_row w g i cs t (0, 0) h
theorem Blk.free (h : Blk w g t cs) (i : Nat) : w.frozen? ⟨g, i, none⟩ = false := frozen_of_row w g i cs t h
theorem Blk.kept {r : Option Nat} (h : Blk w g t cs) (hg : w.grownBy w' r) (hne : some g ≠ r) : Blk w' g t cs := (hg.block g h.lt hne).trans h
theorem Blk.ext (h : Blk w g t cs) (hg : w.grownBy w' none) : Blk w' g t cs := h.kept hg (by simp)
theorem Blk.alloc (h : Blk w g t cs) (o : Obj) : Blk (w.alloc o) g t cs := h.ext (World.grownBy_alloc w o none)
theorem Blk.new (w : World) (t : TypeId) (cs : Array Value) : Blk (w.alloc (.cells cs t)) w.heap.size t cs := heap_alloc_new w _
theorem Blk.newAt (w : World) (n : Nat) (hn : w.heap.size = n) (t : TypeId) (cs : Array Value) : Blk (w.alloc (.cells cs t)) n t cs := by subst hn; exact Blk.new w t cs
theorem Blk.set (h : Blk w g t cs) (i : Nat) (v : Value) : Blk (w.setCell ⟨g, i, none⟩ v) g t (cs.setIfInBounds i v) := heap_setCell_same w g i cs t v h
theorem Blk.far (h : Blk w g t cs) {a : Addr} (hne : g ≠ a.block) (v : Value) : Blk (w.setCell a v) g t cs := (heap_setCell_other w a g v hne).trans h
theorem Blk.drew (h : Blk w g t cs) : Blk w.drew g t cs := h
end

/-- Cells of the tenant k, by number. -/
theorem led_th (L : Led) (V : Nat → Value) {k : Nat} (h : k < 4) : (ledC L V)[2 + k * 5]? = some (.bool (L.t k).th) := by
  obtain rfl | rfl | rfl | rfl : k = 0 ∨ k = 1 ∨ k = 2 ∨ k = 3 := by omega
  all_goals rfl
theorem led_ep (L : Led) (V : Nat → Value) {k : Nat} (h : k < 4) : (ledC L V)[2 + k * 5 + 1]? = some (.int .i64 (L.t k).ep) := by
  obtain rfl | rfl | rfl | rfl : k = 0 ∨ k = 1 ∨ k = 2 ∨ k = 3 := by omega
  all_goals rfl
theorem led_sz (L : Led) (V : Nat → Value) {k : Nat} (h : k < 4) : (ledC L V)[2 + k * 5 + 2]? = some (.int .i64 (L.t k).sz) := by
  obtain rfl | rfl | rfl | rfl : k = 0 ∨ k = 1 ∨ k = 2 ∨ k = 3 := by omega
  all_goals rfl
theorem led_bs (L : Led) (V : Nat → Value) {k : Nat} (h : k < 4) : (ledC L V)[2 + k * 5 + 4]? = some (V k) := by
  obtain rfl | rfl | rfl | rfl : k = 0 ∨ k = 1 ∨ k = 2 ∨ k = 3 := by omega
  all_goals rfl
theorem led_gen (L : Led) (V : Nat → Value) : (ledC L V)[0]? = some (.int .i64 L.gen) := rfl
theorem led_eps (L : Led) (V : Nat → Value) : (ledC L V)[1]? = some (.int .i64 L.eps) := rfl
/-- The tenant k, whole. -/
theorem led_ten (L : Led) (V : Nat → Value) {k : Nat} (h : k < 4) : (ledC L V).extract (2 + k * 5) (2 + k * 5 + 5) = tenC (L.t k) (V k) := by
  obtain rfl | rfl | rfl | rfl : k = 0 ∨ k = 1 ∨ k = 2 ∨ k = 3 := by omega
  all_goals rfl
/-- Another tenant k. -/
def updT (L : Led) (k : Nat) (x : Ten) : Led := { L with t := fun j => if j = k then x else L.t j }
def updV (V : Nat → Value) (k : Nat) (v : Value) : Nat → Value := fun j => if j = k then v else V j
theorem led_setV (L : Led) (V : Nat → Value) {k : Nat} (h : k < 4) (v : Value) : (ledC L V).setIfInBounds (2 + k * 5 + 4) v = ledC L (updV V k v) := by
  obtain rfl | rfl | rfl | rfl : k = 0 ∨ k = 1 ∨ k = 2 ∨ k = 3 := by omega
  all_goals rfl
theorem led_setT (L : Led) (V : Nat → Value) {k : Nat} (h : k < 4) (x : Ten) (v : Value) : ((ledC L V).toList.take (2 + k * 5) ++ (tenC x v).toList ++ (ledC L V).toList.drop (2 + k * 5 + (tenC x v).toList.length)).toArray = ledC (updT L k x) (updV V k v) := by
  obtain rfl | rfl | rfl | rfl : k = 0 ∨ k = 1 ∨ k = 2 ∨ k = 3 := by omega
  all_goals rfl
theorem led_setSz (L : Led) (V : Nat → Value) {k : Nat} (h : k < 4) (n : Int) : (ledC L V).setIfInBounds (2 + k * 5 + 2) (.int .i64 n) = ledC (updT L k { L.t k with sz := n }) V := by
  obtain rfl | rfl | rfl | rfl : k = 0 ∨ k = 1 ∨ k = 2 ∨ k = 3 := by omega
  all_goals rfl
theorem led_setGen (L : Led) (V : Nat → Value) (n : Int) : (ledC L V).setIfInBounds 0 (.int .i64 n) = ledC { L with gen := n } V := rfl
theorem led_setEps (L : Led) (V : Nat → Value) (n : Int) : (ledC L V).setIfInBounds 1 (.int .i64 n) = ledC { L with eps := n } V := rfl

/-- What the tenants' slices read as. -/
def LedIs (w : World) (L : Led) (V : Nat → Value) : Prop := ∀ j, j < 4 → Ints w (V j) (L.t j).bs
theorem LedIs.kept {w w' : World} {L : Led} {V : Nat → Value} {r : Option Nat} (h : LedIs w L V) (hg : w.grownBy w' r) (hne : ∀ j, j < 4 → ∀ k, (V j).ownBlock = some k → some k ≠ r) : LedIs w' L V := fun j hj => (h j hj).kept hg (hne j hj)
theorem LedIs.ext {w w' : World} {L : Led} {V : Nat → Value} (h : LedIs w L V) (hg : w.grownBy w' none) : LedIs w' L V := h.kept hg (by simp)
theorem LedIs.slices {w : World} {L : Led} {V : Nat → Value} (h : LedIs w L V) : ∀ j, j < 4 → SliceV (V j) := fun j hj => (h j hj).slice
theorem noLed_is (w : World) : LedIs w noLed (fun _ => nilS) := fun _ _ => .inl ⟨rfl, rfl⟩

theorem Tryz.sizeTen : (Tryz.prog.info? 33).map (·.size) = some 5 := by kernel_rfl
section
variable {ops : Array Oper} {rest : List Oper} {o : Oper} {a : Act} {w : World} {Q : Exit → Act → World → Prop}
theorem ten_load (x : Operand) (ho : o.op = .load 33 x) {g : Nat} (hx : a.eval x = .pointer (some ⟨g, 0, none⟩)) {y : Ten} {v : Value} (hg : Blk w g 33 (tenC y v)) (hwt : Region.wanted o (yielded ops a.tmps) = true)
    (h : wpList Tryz.prog ops Q rest (a.put o.dst (.agg (tenC y v))) w) : wpList Tryz.prog ops Q (o :: rest) a w :=
  wpList_load_part hwt _ x ho g 0 5 hx _ _ _ _ _ hg (ten_all y v) rfl Tryz.underlying33 rfl Tryz.sizeTen h
theorem ten_store (x y : Operand) (ho : o.op = .store 33 x y) {g : Nat} (hx : a.eval x = .pointer (some ⟨g, 0, none⟩)) {z : Ten} {v : Value} (hy : a.eval y = .agg (tenC z v)) {old : Array Value} (hg : Blk w g 33 old) (hold : old.size = 5) (hV : SliceV v) (hwt : Region.wanted o (yielded ops a.tmps) = true)
    (h : ∀ w', Blk w' g 33 (tenC z v) → w.grownBy w' (some g) → w'.heap.size = w.heap.size → wpList Tryz.prog ops Q rest (a.put o.dst undef) w') : wpList Tryz.prog ops Q (o :: rest) a w :=
  wpList_store_part hwt _ x y ho g 0 5 _ hx hy _ old _ hg rfl Tryz.sizeTen (by omega) (ten_one z hV) (by
    have h1 : (tenC z v).toList.length = 5 := rfl
    rw [h1, List.drop_of_length_le (by simp; omega)]
    simp) h
end

end Go.Proofs.YtdadgcfpcneaiaaGreatDoor

/-
  The walks of the small functions of package word that make no memory: isSize, Fits (and the document's), stopped.
-/
namespace Go.Proofs.YtdadgcfpcneaiaaGreatDoor
set_option linter.unusedVariables false
set_option linter.unusedSimpArgs false
set_option linter.unusedVariables false
set_option linter.unusedSimpArgs false
set_option maxRecDepth 100000
open Go.RowKit

theorem ret_bool {a b : Bool} (h : a = b) : Ending.returned (.bool a) = .returned (.bool b) := by rw [h]
theorem ret_int {k : IntKind} {a b : Int} (h : a = b) : Ending.returned (.int k a) = .returned (.int k b) := by rw [h]

def sizeB (n : Int) : Bool := decide (n = 1 ∨ n = 2 ∨ n = 4)

set_option maxHeartbeats 400000 in
theorem isSize_any (n : Int) (w : World) :
    Calls Tryz.prog 161 #[.int .i64 n] w fun e w' => e = .returned (.bool (sizeB n)) ∧ w = w' := by
  by_cases h1 : n = 1
  · subst h1
    go_enter Tryz.func161, Tryz.ntmps161
    go_wp2
    go_ret
    exact ⟨ret_bool (by simp [sizeB]), rfl⟩
  · by_cases h2 : n = 2
    · subst h2
      go_enter Tryz.func161, Tryz.ntmps161
      go_wp2
      go_ret
      exact ⟨ret_bool (by simp [sizeB]), rfl⟩
    · have e1 : (n == 1) = false := by simpa using h1
      have e2 : (n == 2) = false := by simpa using h2
      go_enter Tryz.func161, Tryz.ntmps161
      go_wp2
      go_ret
      refine ⟨ret_bool ?_, rfl⟩
      rw [Bool.eq_iff_iff]
      simp [sizeB]
      omega

/-- Whether a number can be written by so many bytes. -/
def fitsB (v n : Int) : Bool := decide (0 ≤ v ∧ ((n = 1 ∧ v ≤ 255) ∨ (n = 2 ∧ v ≤ 65535) ∨ (n = 4 ∧ v ≤ 4294967295)))

theorem fits_u64 (v : Int) (h0 : 0 ≤ v) (h1 : v ≤ 9223372036854775807) : IntKind.u64.wrap v = v := by
  simp [IntKind.wrap, IntKind.bits, IntKind.signed]
  omega

set_option maxHeartbeats 400000 in
theorem fits_any (v n : Int) (w : World) (hv9 : v ≤ 9223372036854775807) :
    Calls Tryz.prog 180 #[.int .i64 v, .int .i64 n] w fun e w' => e = .returned (.bool (fitsB v n)) ∧ w = w' := by
  by_cases hs : sizeB n = true
  · have hn : n = 1 ∨ n = 2 ∨ n = 4 := by simpa [sizeB] using hs
    by_cases hv : 0 ≤ v
    · have hu := fits_u64 v hv hv9
      rcases hn with rfl | rfl | rfl
      all_goals
        go_enter Tryz.func180, Tryz.ntmps180
        go_wp2_with (go_at_call 161; refine (isSize_any _ _).mono ?_; rintro e w' ⟨rfl, rfl⟩)
        go_ret
        refine ⟨ret_bool ?_, rfl⟩
        rw [Bool.eq_iff_iff]
        simp [fitsB]
        omega
    · have hv0 : decide (0 ≤ v) = false := by simpa using hv
      go_enter Tryz.func180, Tryz.ntmps180
      go_wp2_with (go_at_call 161; refine (isSize_any _ _).mono ?_; rintro e w' ⟨rfl, rfl⟩)
      go_ret
      refine ⟨ret_bool ?_, rfl⟩
      simp [fitsB]
      omega
  · have hs' : sizeB n = false := by simpa using hs
    go_enter Tryz.func180, Tryz.ntmps180
    go_wp2_with (go_at_call 161; refine (isSize_any _ _).mono ?_; rintro e w' ⟨rfl, rfl⟩)
    go_ret
    refine ⟨ret_bool ?_, rfl⟩
    have hn : ¬ (n = 1 ∨ n = 2 ∨ n = 4) := by simpa [sizeB] using hs'
    rw [Bool.eq_iff_iff]
    simp [fitsB]
    omega


end Go.Proofs.YtdadgcfpcneaiaaGreatDoor

/-
  Package tag: what is a tag, the table of its fields in memory; Newer, numbers, told, Right, and the document's.
-/
namespace Go.Proofs.YtdadgcfpcneaiaaGreatDoor
set_option linter.unusedVariables false
set_option linter.unusedSimpArgs false
set_option linter.unusedVariables false
set_option linter.unusedSimpArgs false
set_option maxRecDepth 100000
open Go.RowKit

/-- A tag, by value; its block, boxed. -/
def tagV (a b c d k : Int) (p : Bool) : Value := .agg #[.int .i64 a, .int .i64 b, .int .i64 c, .int .i64 d, .int .i64 k, .bool p]
def tagObj (a b c d k : Int) (p : Bool) : Obj := .cells #[.int .i64 a, .int .i64 b, .int .i64 c, .int .i64 d, .int .i64 k, .bool p] 90
def arrV (a b c d k : Int) : Value := .agg #[.int .i64 a, .int .i64 b, .int .i64 c, .int .i64 d, .int .i64 k]
def arrObj (a b c d k : Int) : Obj := .cells #[.int .i64 a, .int .i64 b, .int .i64 c, .int .i64 d, .int .i64 k] 183
def nth (a b c d k : Int) (j : Nat) : Int := [a, b, c, d, k].getD j 0

def newerB (s s2 : Int) (p p2 : Bool) : Bool := if s = s2 then !p && p2 else decide (s2 < s)

set_option maxHeartbeats 400000 in
theorem numbers_any (a b c d k : Int) (p : Bool) (w : World) :
    Calls Tryz.prog 163 #[tagV a b c d k p] w fun e w' => e = .returned (arrV a b c d k) ∧ (w.alloc (tagObj a b c d k p)).alloc (arrObj a b c d k) = w' := by
  unfold tagV tagObj arrV arrObj
  go_enter Tryz.func163, Tryz.ntmps163
  go_wp2
  go_returns
  exact ⟨rfl, rfl⟩

set_option maxHeartbeats 400000 in
theorem told_any (a b c d k : Int) (p : Bool) (w : World) :
    Calls Tryz.prog 139 #[arrV a b c d k, .bool p] w fun e w' => e = .returned (tagV a b c d k p) ∧ (w.alloc (arrObj a b c d k)).alloc (tagObj a b c d k p) = w' := by
  unfold tagV arrV arrObj tagObj
  go_enter Tryz.func139, Tryz.ntmps139
  go_wp2
  go_returns
  exact ⟨rfl, rfl⟩

/-- The table of a tag's fields: by how many bytes, from, to. -/
def fsz (j : Nat) : Int := [1, 4, 1, 4, 1].getD j 0
def ffr (j : Nat) : Int := [0, 0, 0, 0, 1].getD j 0
def fto (j : Nat) : Int := [3, 2147483647, 63, 2147483647, 2].getD j 0
/-- It stands in memory, where package-level variables are. -/
def Flds (w : World) : Prop := ∀ j, j < 5 → w.cell? ⟨0, j * 3, none⟩ = some (.int .i64 (fsz j)) ∧ w.cell? ⟨0, j * 3 + 1, none⟩ = some (.int .i64 (ffr j)) ∧ w.cell? ⟨0, j * 3 + 2, none⟩ = some (.int .i64 (fto j))
theorem Flds.kept {w w' : World} {r : Option Nat} (h : Flds w) (hg : w.grownBy w' r) (hr : some 0 ≠ r) : Flds w' := fun j hj =>
  ⟨hg.cell (h j hj).1 hr, hg.cell (h j hj).2.1 hr, hg.cell (h j hj).2.2 hr⟩
theorem Flds.lt {w : World} (h : Flds w) : 0 < w.heap.size := World.block_lt_of_cell? w _ (h 0 (by decide)).1
theorem Flds.ext {w w' : World} (h : Flds w) (hg : Ext w w') : Flds w' := h.kept hg (by simp)

/-- Five numbers in a block. -/
def Arr (w : World) (B : Nat) (v : Nat → Int) : Prop := ∀ j, j < 5 → w.cell? ⟨B, j, none⟩ = some (.int .i64 (v j))
theorem arr_new (w : World) (a b c d k : Int) : Arr (w.alloc (arrObj a b c d k)) w.heap.size (nth a b c d k) := fun j hj => by
  rw [arrObj, World.cell?_alloc_mark]
  have : j = 0 ∨ j = 1 ∨ j = 2 ∨ j = 3 ∨ j = 4 := by omega
  rcases this with rfl | rfl | rfl | rfl | rfl <;> rfl
theorem Arr.ext {w w' : World} {B : Nat} {v : Nat → Int} (h : Arr w B v) (hg : Ext w w') : Arr w' B v := fun j hj => hg.cell (h j hj) (by simp)

/-- Whether a tag may be. -/
def okB (a b c d k : Int) : Bool := (List.range 5).all fun j => decide (ffr j ≤ nth a b c d k j ∧ nth a b c d k j ≤ fto j)
theorem okB_true {a b c d k : Int} (h : ∀ j, j < 5 → ffr j ≤ nth a b c d k j ∧ nth a b c d k j ≤ fto j) : okB a b c d k = true := by
  simp only [okB, List.all_eq_true, List.mem_range, decide_eq_true_eq]
  exact h
theorem okB_false {a b c d k : Int} {j : Nat} (hj : j < 5) (h : ¬ (ffr j ≤ nth a b c d k j ∧ nth a b c d k j ≤ fto j)) : okB a b c d k = false := by
  rw [Bool.eq_false_iff]
  intro h2
  simp only [okB, List.all_eq_true, List.mem_range, decide_eq_true_eq] at h2
  exact h (h2 j hj)


set_option maxHeartbeats 400000 in
theorem right_any (a b c d k : Int) (p : Bool) (w : World) (hF : Flds w) :
    Calls Tryz.prog 142 #[tagV a b c d k p] w fun e w' => e = .returned (.bool (okB a b c d k)) ∧ Ext w w' := by
  have N := numbers_any a b c d k p
  have g3 := ext_trans (ext_trans (ext_trans (World.grownBy_alloc w (tagObj a b c d k p) none) (World.grownBy_alloc _ (tagObj a b c d k p) none)) (World.grownBy_alloc _ (arrObj a b c d k) none)) (World.grownBy_alloc _ (arrObj a b c d k) none)
  have hA := arr_new (((w.alloc (tagObj a b c d k p)).alloc (tagObj a b c d k p)).alloc (arrObj a b c d k)) a b c d k
  have hF3 := hF.ext g3
  have hz : (((w.alloc (tagObj a b c d k p)).alloc (tagObj a b c d k p)).alloc (arrObj a b c d k)).heap.size = w.heap.size + 1 + 1 + 1 := by simp
  rw [hz] at hA
  generalize hv : nth a b c d k = v at *
  have HV := Lib.hid hv
  unfold tagV arrV at *
  have HH := Lib.hid (And.intro g3 (And.intro hA hF3))
  clear hv g3 hA hF3 hF hz
  unfold tagObj arrObj at *
  go_enter Tryz.func142, Tryz.ntmps142
  go_wp2_with (go_at_call 163; refine (N _).mono ?_; rintro e w' ⟨rfl, rfl⟩)
  go_loopw [7] (fun i wr => ∃ j : Nat, j ≤ 5 ∧ i = .int .i64 j ∧ Ext w wr ∧ Arr wr (w.heap.size + 1 + 1 + 1) v ∧ Flds wr ∧ ∀ q, q < j → ffr q ≤ v q ∧ v q ≤ fto q) (fun i _ => 5 - (intOf i).toNat)
  case atStart => exact ⟨0, by omega, rfl, HH.out.1, HH.out.2.1, HH.out.2.2, fun q hq => by omega⟩
  case round =>
    obtain ⟨j, hj, rfl, hE, hA, hF, hall⟩ := hrel
    by_cases hlt : j < 5
    · obtain ⟨_, c1, c2⟩ := hF j hlt
      have c0 := hA j hlt
      have HE := Lib.hid (And.intro hE (And.intro hA (And.intro hF hall)))
      clear hE hA hF hall
      obtain ⟨x, hx⟩ : ∃ x, v j = x := ⟨_, rfl⟩
      obtain ⟨lo, hlo⟩ : ∃ x, ffr j = x := ⟨_, rfl⟩
      obtain ⟨hi, hhi⟩ : ∃ x, fto j = x := ⟨_, rfl⟩
      rw [hx] at c0
      rw [hlo] at c1
      rw [hhi] at c2
      have HX := Lib.hid (And.intro hx (And.intro hlo hhi))
      clear hx hlo hhi
      by_cases h1 : x < lo
      · go_wp2
        go_quiet (fail)
        rename_i nq
        go_wp2
        go_returns
        obtain ⟨e1, e2, _⟩ := HX.out
        exact ⟨ret_bool (okB_false (j := j) hlt (by rw [HV.out, e1, e2]; omega)).symm, ext_trans HE.out.1 (gb_drewN _ nq)⟩
      · by_cases h2 : hi < x
        · go_wp2
          go_quiet (fail)
          rename_i nq
          go_wp2
          go_returns
          obtain ⟨e1, _, e2⟩ := HX.out
          exact ⟨ret_bool (okB_false (j := j) hlt (by rw [HV.out, e1, e2]; omega)).symm, ext_trans HE.out.1 (gb_drewN _ nq)⟩
        · go_wp2
          go_quiet (fail)
          rename_i nq
          go_wp2
          go_roundw
          case rel =>
            obtain ⟨k1, k2, k3, k4⟩ := HE.out
            obtain ⟨e1, e2, e3⟩ := HX.out
            refine ⟨j + 1, by omega, by go_num, ext_trans k1 (gb_drewN _ nq), k2.ext (gb_drewN _ nq), k3.ext (gb_drewN _ nq), fun q hq => ?_⟩
            by_cases h : q = j
            · subst h
              rw [e1, e2, e3]
              omega
            · exact k4 q (by omega)
          case measure => simp [intOf]; omega
    · have hn : ¬ (j : Int) < 5 := by omega
      go_wp2
      go_returns
      exact ⟨ret_bool (okB_true (fun q hq => by rw [HV.out]; exact hall q (by omega))).symm, hE⟩

end Go.Proofs.YtdadgcfpcneaiaaGreatDoor

/-
  Layer 17: pages that are found: rows of them in memory; the document's Mine, counting, has.
-/
namespace Go.Proofs.YtdadgcfpcneaiaaGreatDoor
set_option linter.unusedVariables false
set_option linter.unusedSimpArgs false
set_option linter.unusedVariables false
set_option linter.unusedSimpArgs false
set_option maxRecDepth 100000
open Go.RowKit

structure Fnd where
  bk : Int
  pg : Int
  torn : Bool
  te : Int
  ep : Int
  pl : Int
  sq : Int
  kd : Int
  cp : Bool
  dt : ByteArray
def noF : Fnd := ⟨0, 0, false, 0, 0, 0, 0, 0, false, ⟨#[]⟩⟩
def fndC (f : Fnd) : Array Value := #[.int .i64 f.bk, .int .i64 f.pg, .bool f.torn, .int .i64 f.te, .int .i64 f.ep, .int .i64 f.pl, .int .i64 f.sq, .int .i64 f.kd, .bool f.cp, .string f.dt]
def fndsL (L : List Fnd) : List Value := L.flatMap fun f => (fndC f).toList
theorem fndsL_snoc (L : List Fnd) (f : Fnd) : fndsL (L ++ [f]) = fndsL L ++ (fndC f).toList := by simp [fndsL]
theorem fndsL_len (L : List Fnd) : (fndsL L).length = L.length * 10 := by
  unfold fndsL
  induction L with
  | nil => rfl
  | cons c r ih => rw [List.flatMap_cons, List.length_append, ih, List.length_cons]; simp [fndC]; omega
theorem fndsL_at : ∀ (L : List Fnd) (j i : Nat), i < 10 → j < L.length → (fndsL L)[j * 10 + i]? = (fndC (L.getD j noF)).toList[i]?
  | [], j, i, _, h => by simp at h
  | c :: r, 0, i, hi, _ => by
    show ((fndC c).toList ++ fndsL r)[0 * 10 + i]? = _
    rw [Nat.zero_mul, Nat.zero_add, List.getElem?_append_left (by show i < 10; exact hi)]
    rfl
  | c :: r, j + 1, i, hi, h => by
    show ((fndC c).toList ++ fndsL r)[(j + 1) * 10 + i]? = _
    have hl : (fndC c).toList.length = 10 := rfl
    rw [List.getElem?_append_right (by omega), hl, show (j + 1) * 10 + i - 10 = j * 10 + i by omega, fndsL_at r j i hi (by simpa using h)]
    simp

/-- A slice that reads as these. -/
def RowF (w : World) (v : Value) (L : List Fnd) : Prop := ∃ ao cap, v = .slice ao L.length cap ∧ ∀ i, i < L.length → ∃ b off, ao = some ⟨b, off, none⟩ ∧ w.rangeAt b (off + i * 10) (fndC (L.getD i noF)).toList
theorem RowF.kept {w w' : World} {v : Value} {L : List Fnd} {r : Option Nat} (h : RowF w v L) (hg : w.grownBy w' r) (hne : ∀ k, v.ownBlock = some k → some k ≠ r) : RowF w' v L := by
  obtain ⟨ao, cap, rfl, hc⟩ := h
  refine ⟨ao, cap, rfl, fun i hi => ?_⟩
  obtain ⟨b, off, rfl, hr⟩ := hc i hi
  exact ⟨b, off, rfl, fun j u hj => hg.cell (hr j u hj) (hne b rfl)⟩
theorem RowF.ext {w w' : World} {v : Value} {L : List Fnd} (h : RowF w v L) (hg : w.grownBy w' none) : RowF w' v L := h.kept hg (by simp)
theorem RowF.owns {w : World} {B : Nat} {T : TypeId} {v : Value} {L : List Fnd} (h : w.ownsRow B T 10 v L.length (fndsL L)) : RowF w v L := by
  rcases h.2 with ⟨rfl, h0⟩ | ⟨g, cap, cur, rfl, _⟩
  · exact ⟨none, 0, by rw [h0], fun i hi => by omega⟩
  · refine ⟨_, cap, rfl, fun i hi => ⟨g, 0, rfl, fun j u hj => ?_⟩⟩
    have hl : (fndC (L.getD i noF)).toList.length = 10 := rfl
    have hj10 : j < 10 := by rw [← hl]; exact (List.getElem?_eq_some_iff.1 hj).1
    rw [← fndsL_at L i j hj10 hi] at hj
    have h1 := h.cells (g := g) rfl _ _ hj
    rw [addr_add, ← Nat.add_assoc] at h1
    exact h1

theorem Tryz.sizeFnd : (Tryz.prog.info? 92).map (·.size) = some 10 := by kernel_rfl
theorem Tryz.sizeTag17 : (Tryz.prog.info? 90).map (·.size) = some 6 := by kernel_rfl
theorem Tryz.infoFnd : (Tryz.prog.info? 92).map (fun i => (i.zero, i.size, i.bytes)) = some (some (.agg #[.int .i64 0, .int .i64 0, .bool false, .int .i64 0, .int .i64 0, .int .i64 0, .int .i64 0, .int .i64 0, .bool false, .string ⟨#[]⟩]), 10, 88) := by kernel_rfl
def tagC17 (f : Fnd) : Array Value := #[.int .i64 f.te, .int .i64 f.ep, .int .i64 f.pl, .int .i64 f.sq, .int .i64 f.kd, .bool f.cp]
section
variable {ops : Array Oper} {rest : List Oper} {o : Oper} {a : Act} {w : World} {Q : Exit → Act → World → Prop}
theorem fnd_load (hwt : Region.wanted o (yielded ops a.tmps) = true) (x : Operand) (ho : o.op = .load 92 x) {b off : Nat} (hx : a.eval x = .pointer (some ⟨b, off, none⟩)) {f : Fnd} (hr : w.rangeAt b off (fndC f).toList)
    (h : wpList Tryz.prog ops Q rest (a.put o.dst (.agg (fndC f))) w) : wpList Tryz.prog ops Q (o :: rest) a w :=
  wpList_want hwt fun K hK => wp_load_mid _ x ho b off hx _ _ hr Tryz.underlying92 rfl (by rw [Tryz.sizeFnd]; rfl) (hK _ _ (by simpa using h))
theorem fnd_load_lit (hwt : Region.wanted o (yielded ops a.tmps) = true) (x : Operand) (ho : o.op = .load 92 x) {b off : Nat} (hx : a.eval x = .pointer (some ⟨b, off, none⟩)) {f : Fnd} (hr : w.rangeAt b off (fndC f).toList)
    (h : wpList Tryz.prog ops Q rest (a.put o.dst (.agg #[.int .i64 f.bk, .int .i64 f.pg, .bool f.torn, .int .i64 f.te, .int .i64 f.ep, .int .i64 f.pl, .int .i64 f.sq, .int .i64 f.kd, .bool f.cp, .string f.dt])) w) : wpList Tryz.prog ops Q (o :: rest) a w := fnd_load hwt x ho hx hr h
theorem fnd_store (x y : Operand) (ho : o.op = .store 92 x y) {g : Nat} (hx : a.eval x = .pointer (some ⟨g, 0, none⟩)) {f : Fnd} (hy : a.eval y = .agg (fndC f)) {old : Array Value} (hg : Blk w g 92 old) (hold : old.size = 10) (hwt : Region.wanted o (yielded ops a.tmps) = true)
    (h : ∀ w', Blk w' g 92 (fndC f) → w.grownBy w' (some g) → w'.heap.size = w.heap.size → wpList Tryz.prog ops Q rest (a.put o.dst undef) w') : wpList Tryz.prog ops Q (o :: rest) a w :=
  wpList_store_part hwt _ x y ho g 0 10 _ hx hy _ old _ hg rfl Tryz.sizeFnd (by omega) (by simp [fndC, Value.oneCell']) (by
    have h1 : (fndC f).toList.length = 10 := rfl
    rw [h1, List.drop_of_length_le (by simp; omega)]
    simp) h
theorem tag_load17 (hwt : Region.wanted o (yielded ops a.tmps) = true) (x : Operand) (ho : o.op = .load 90 x) {g : Nat} (hx : a.eval x = .pointer (some ⟨g, 3, none⟩)) {f : Fnd} (hg : Blk w g 92 (fndC f))
    (h : wpList Tryz.prog ops Q rest (a.put o.dst (.agg (tagC17 f))) w) : wpList Tryz.prog ops Q (o :: rest) a w :=
  wpList_load_part hwt _ x ho g 3 6 hx _ _ _ _ _ hg (show (fndC f).extract 3 (3 + 6) = tagC17 f from rfl) rfl Tryz.underlying90 rfl Tryz.sizeTag17 h
end
theorem Blk.range17 {w : World} {g : Nat} {t : TypeId} {f : Fnd} (h : Blk w g t (fndC f)) : w.rangeAt g 0 (fndC f).toList := by
  have := World.rangeAt_of_block h 0 10
  exact this
theorem g17_new {w w1 w2 : World} {g : Nat} (h : w.grownBy w1 none) (h2 : w1.grownBy w2 (some g)) (hg : w.heap.size ≤ g) : w.grownBy w2 none :=
  ⟨h2.os.trans h.os, h2.tape.trans h.tape, h2.output.trans h.output, Nat.le_trans h.size h2.size, fun k hk hne => (h2.block k (Nat.lt_of_lt_of_le hk h.size) (fun e => by injection e with e; omega)).trans (h.block k hk hne)⟩
/-- A page's cells in a block of its own. -/
structure FCells (w : World) (g : Nat) (f : Fnd) : Prop where
  blk : Blk w g 92 (fndC f)
  bk : w.cell? ⟨g, 0, none⟩ = some (.int .i64 f.bk)
  pg : w.cell? ⟨g, 1, none⟩ = some (.int .i64 f.pg)
  torn : w.cell? ⟨g, 2, none⟩ = some (.bool f.torn)
  te : w.cell? ⟨g, 3, none⟩ = some (.int .i64 f.te)
  ep : w.cell? ⟨g, 4, none⟩ = some (.int .i64 f.ep)
  pl : w.cell? ⟨g, 5, none⟩ = some (.int .i64 f.pl)
  sq : w.cell? ⟨g, 6, none⟩ = some (.int .i64 f.sq)
theorem FCells.of {w : World} {g : Nat} {f : Fnd} (h : Blk w g 92 (fndC f)) : FCells w g f := ⟨h, h.cell 0, h.cell 1, h.cell 2, h.cell 3, h.cell 4, h.cell 5, h.cell 6⟩

/-- Is a page a tenant's? -/
def mineF (tn ep : Int) (f : Fnd) : Bool := !f.torn && (f.te == tn && f.ep == ep)
end Go.Proofs.YtdadgcfpcneaiaaGreatDoor
