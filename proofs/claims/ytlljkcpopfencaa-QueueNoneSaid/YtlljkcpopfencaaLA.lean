/-
  Layer 20 (queue): rows cut anywhere and cleared; a queue in memory.
-/
import Derived.Test.YtlljkcpopfencaaQC
import Derived.Test.YtlljkcpopfencaaDA
import Derived.Test.YtlljkcpopfencaaTree
import Derived.Lib.SliceRun
namespace Go.Proofs.Ytlljkcpopfencaa
set_option linter.unusedVariables false
set_option linter.unusedSimpArgs false
set_option maxRecDepth 100000
open Go.RowKit

section
variable {w w' : World} {base : Nat} {e : TypeId} {size : Nat} {v : Value} {n : Nat} {xs : List Value}
/-- So many are cut off at the head. -/
theorem TailRow.cutK {g off cap k : Nat} (h : TailRow w base e size (.slice (some ⟨g, off, none⟩) n cap) n xs) (hk : k ≤ n) : TailRow w base e size (.slice (if cap = k then some ⟨g, off, none⟩ else some ⟨g, off + k * size, none⟩) (n - k) (cap - k)) (n - k) (xs.drop (k * size)) := by
  have hl := h.1
  have hnk : (n - k) * size + k * size = n * size := by rw [← Nat.add_mul]; congr 1; omega
  rcases h.2 with ⟨h2, _⟩ | ⟨g', off', cap', cur, h1, h2, h3, h4, h5, h6, h7⟩
  · cases h2
  · simp only [Value.slice.injEq, Option.some.injEq, Addr.mk.injEq, true_and, and_true] at h1
    obtain ⟨⟨rfl, rfl⟩, rfl⟩ := h1
    refine ⟨by rw [List.length_drop, hl]; omega, .inr ?_⟩
    have hx : (cur.toList.drop (off + k * size)).take ((n - k) * size) = xs.drop (k * size) := by
      rw [← h7, List.drop_take, List.drop_drop]
      congr 1
      omega
    by_cases hc : cap = k
    · rw [if_pos hc]
      subst hc
      obtain rfl : n = cap := by omega
      refine ⟨g, off, 0, cur, by rw [Nat.sub_self], h2, h3, by omega, by omega, by omega, ?_⟩
      rw [Nat.sub_self] at hx ⊢
      simpa using hx
    · rw [if_neg hc]
      have hm : (cap - k) * size + k * size = cap * size := by rw [← Nat.add_mul]; congr 1; omega
      exact ⟨g, off + k * size, cap - k, cur, rfl, h2, h3, by omega, by omega, by omega, hx⟩
/-- What lies ahead of it may be written: the row behind the head stands. -/
theorem TailRow.headSet {g off cap k : Nat} {cur : Array Value} (h : TailRow w base e size (.slice (some ⟨g, off, none⟩) n cap) n xs) (hk : k ≤ n) (hg : w.heap[g]? = some (.cells cur e (0, 0))) {cur' : Array Value} (hg' : w'.heap[g]? = some (.cells cur' e (0, 0)))
    (hs : cur'.size = cur.size) (hj : ∀ j, off + k * size ≤ j → cur'[j]? = cur[j]?) : TailRow w' base e size (.slice (if cap = k then some ⟨g, off, none⟩ else some ⟨g, off + k * size, none⟩) (n - k) (cap - k)) (n - k) (xs.drop (k * size)) := by
  have h0 := h.cutK hk
  have hb : base ≤ g := by
    rcases h.2 with ⟨h2, _⟩ | ⟨g', off', cap', cur, h1, h2, _⟩
    · cases h2
    · simp only [Value.slice.injEq, Option.some.injEq, Addr.mk.injEq, true_and, and_true] at h1
      obtain ⟨⟨rfl, _⟩, _⟩ := h1
      exact h2
  refine ⟨h0.1, ?_⟩
  rcases h0.2 with ⟨h2, _⟩ | ⟨g', off', cap', c2, h1, h2, h3, h4, h5, h6, h7⟩
  · split at h2 <;> cases h2
  · have eg : g' = g := by
      split at h1
      · simp only [Value.slice.injEq, Option.some.injEq, Addr.mk.injEq, true_and, and_true] at h1; exact h1.1.1.symm
      · simp only [Value.slice.injEq, Option.some.injEq, Addr.mk.injEq, true_and, and_true] at h1; exact h1.1.1.symm
    subst eg
    rw [hg] at h3
    obtain rfl : cur = c2 := by simpa using h3
    refine .inr ⟨g', off', cap', cur', h1, h2, hg', h4, h5, by omega, ?_⟩
    rw [← h7]
    by_cases hn : n - k = 0
    · rw [hn]; simp
    · have eo : off' = off + k * size := by
        have hck : ¬ cap = k := by
          rcases h.2 with ⟨h2, _⟩ | ⟨_, _, _, _, h1, _, _, hle, _⟩
          · cases h2
          · simp only [Value.slice.injEq, true_and] at h1
            omega
        rw [if_neg hck] at h1
        simp only [Value.slice.injEq, Option.some.injEq, Addr.mk.injEq, true_and, and_true] at h1
        exact h1.1.symm
      refine List.ext_getElem? fun j => ?_
      rw [List.getElem?_take, List.getElem?_take]
      split
      · rw [List.getElem?_drop, List.getElem?_drop, Array.getElem?_toList, Array.getElem?_toList, hj _ (by omega)]
      · rfl
end

/-- 'clear' of some elements of a row that is known whole. -/
theorem clear_rows {P : Program} (w : World) (t e : TypeId) (z : Value) (ht : P.underlying t = some (.slice e)) (hv : ∀ w, (zeroValue e).run P w = .ok z w) (h1 : z.cells.all (·.oneCell') = true) {size : Nat} (hz : z.cells.size = size) (hs : 0 < size) (g off n c : Nat) (cur : Array Value) (hg : w.heap[g]? = some (.cells cur e (0, 0))) (hn : 0 < n) (hfit : off + n * size ≤ cur.size) :
    ∃ (w' : World) (cur' : Array Value), (∀ ty, (Builtin.clear_ #[t] ty #[.slice (some ⟨g, off, none⟩) n c]).run P w = .ok (.tuple #[]) w') ∧ w'.heap[g]? = some (.cells cur' e (0, 0)) ∧ cur'.size = cur.size ∧ (∀ j, off + n * size ≤ j → cur'[j]? = cur[j]?) ∧ w.grownBy w' (some g) ∧ w'.heap.size = w.heap.size := by
  have hlen : (Builtin.zeroCells z.cells n).toList.length = n * size := by simp [Builtin.zeroCells, hz]
  have hone : ∀ u ∈ (Builtin.zeroCells z.cells n).toList, u.oneCell' = true := by
    intro u hu
    simp only [Builtin.zeroCells, Array.toList_map, List.mem_map] at hu
    obtain ⟨i, _, rfl⟩ := hu
    have hlt : i % z.cells.size < z.cells.size := Nat.mod_lt _ (by omega)
    rw [getElem!_pos z.cells _ hlt]
    exact (Array.all_eq_true_iff_forall_mem.1 h1) _ (Array.getElem_mem hlt)
  have hst := run_storeCells_at P g off e (Builtin.zeroCells z.cells n).toList 0 cur w hg (by rw [hlen]; omega) hone
  simp only [Nat.add_zero] at hst
  obtain ⟨C, hC⟩ : ∃ C, (cur.toList.take off ++ (Builtin.zeroCells z.cells n).toList ++ cur.toList.drop (off + (Builtin.zeroCells z.cells n).toList.length)).toArray = C := ⟨_, rfl⟩
  have hcl : C.size = cur.size := by
    rw [← hC, List.size_toArray, List.length_append, List.length_append, List.length_take, List.length_drop, hlen, Array.length_toList]
    omega
  have hcj : ∀ j, off + n * size ≤ j → C[j]? = cur[j]? := fun j hj => by
    rw [← hC, List.getElem?_toArray, List.getElem?_append_right (by rw [List.length_append, List.length_take, hlen, Array.length_toList]; omega), List.getElem?_drop, List.length_append, List.length_take, hlen, Array.length_toList, ← Array.getElem?_toList]
    congr 1
    omega
  rw [hC] at hst
  refine ⟨w.setRow g C, C, fun ty => ?_, setRow_heap w g cur C e _ hg, hcl, hcj, ⟨rfl, rfl, rfl, by simp, fun k _ hne => setRow_other w g k C (fun e => hne (by rw [e]))⟩, by simp⟩
  obtain ⟨m, rfl⟩ : ∃ m, n = m + 1 := ⟨n - 1, by omega⟩
  simp [Builtin.clear_, run_underlying ht, hv, hst]

/-! ### triples (a number, a number, a text), whatever their type -/
theorem tri_new (w : World) (T : TypeId) (c : Chg) : ∀ j u, (chgC c).toList[j]? = some u → (w.alloc (.cells #[.int .i64 c.pl, .int .i64 c.kd, .string c.dt] T)).cell? ((⟨w.heap.size, 0, none⟩ : Addr).add j) = some u := by
  intro j u hj
  match j, hj with
  | 0, hj => simp [chgC] at hj; subst hj; simp [Addr.add]
  | 1, hj => simp [chgC] at hj; subst hj; simp [Addr.add]
  | 2, hj => simp [chgC] at hj; subst hj; simp [Addr.add]
  | j + 3, hj => simp [chgC] at hj
theorem tri_snoc (row : List Chg) (c : Chg) : chgsL (row ++ [c]) = chgsL row ++ (chgC c).toList := by simp [chgsL]
theorem tri_drop (row : List Chg) : ∀ k, chgsL (row.drop k) = (chgsL row).drop (k * 3) := by
  induction row with
  | nil => intro k; simp [chgsL]
  | cons c r ih =>
    intro k
    match k with
    | 0 => simp
    | k + 1 =>
      rw [List.drop_succ_cons, ih k]
      show _ = ((chgC c).toList ++ chgsL r).drop ((k + 1) * 3)
      have hl : (chgC c).toList.length = 3 := rfl
      rw [show (k + 1) * 3 = (chgC c).toList.length + k * 3 by rw [hl]; omega, List.drop_append]
      simp
theorem tri_at : ∀ (row : List Chg) (j i : Nat), i < 3 → j < row.length → (chgsL row)[j * 3 + i]? = (chgC (row.getD j noChg)).toList[i]?
  | [], j, i, _, h => by simp at h
  | c :: r, 0, i, hi, _ => by
    show ((chgC c).toList ++ chgsL r)[0 * 3 + i]? = _
    rw [Nat.zero_mul, Nat.zero_add, List.getElem?_append_left (by show i < 3; exact hi)]
    rfl
  | c :: r, j + 1, i, hi, h => by
    show ((chgC c).toList ++ chgsL r)[(j + 1) * 3 + i]? = _
    have hl : (chgC c).toList.length = 3 := rfl
    rw [List.getElem?_append_right (by omega), hl, show (j + 1) * 3 + i - 3 = j * 3 + i by omega, tri_at r j i hi (by simpa using h)]
    simp
theorem tri_row {w : World} {B n cap j : Nat} {T : TypeId} {so : Option Addr} {cj : Chg} {row : List Chg} (h : TailRow w B T 3 (.slice so n cap) row.length (chgsL row)) (hj : j < row.length) (hc : row.getD j noChg = cj) :
    ∃ g off, so = some ⟨g, off, none⟩ ∧ w.rangeAt g (off + j * 3) (chgC cj).toList := by
  rcases h.shape with ⟨_, h1⟩ | ⟨g, off, cap', h1, _, _, _, _, h2⟩
  · omega
  · simp only [Value.slice.injEq] at h1
    refine ⟨g, off, h1.1, fun i u hi => ?_⟩
    have hl : (chgC cj).toList.length = 3 := rfl
    have hi3 : i < 3 := by rw [← hl]; exact (List.getElem?_eq_some_iff.1 hi).1
    rw [Nat.add_assoc, h2 _ (by omega), tri_at row j i hi3 hj, hc]
    exact hi
theorem TailRow.form20 {w : World} {base : Nat} {e : TypeId} {size : Nat} {v : Value} {n : Nat} {xs : List Value} (h : TailRow w base e size v n xs) : ∃ ao cap, v = .slice ao n cap := by
  rcases h.2 with ⟨rfl, rfl⟩ | ⟨g, off, cap, cur, rfl, _⟩
  · exact ⟨none, 0, rfl⟩
  · exact ⟨_, cap, rfl⟩

/-! ### a queue in memory -/
/-- What may be turned of a queue. -/
def fpQ (b : Nat) (vw vd : Value) (k : Nat) : Prop := k = b ∨ vw.ownBlock = some k ∨ vd.ownBlock = some k
/-- All else stands. -/
structure KpF (F : Nat → Prop) (w w' : World) : Prop where
  os : w'.os = w.os
  tape : w'.tape = w.tape
  output : w'.output = w.output
  size : w.heap.size ≤ w'.heap.size
  block : ∀ k, k < w.heap.size → ¬ F k → w'.heap[k]? = w.heap[k]?
theorem KpF.of_grown {F : Nat → Prop} {w w' : World} {r : Option Nat} (h : w.grownBy w' r) (hr : ∀ k, r = some k → F k) : KpF F w w' :=
  ⟨h.os, h.tape, h.output, h.size, fun k hk hf => h.block k hk (fun e => hf (hr k e.symm))⟩
theorem KpF.trans {F : Nat → Prop} {w w1 w2 : World} (h : KpF F w w1) (h2 : KpF F w1 w2) : KpF F w w2 :=
  ⟨h2.os.trans h.os, h2.tape.trans h.tape, h2.output.trans h.output, Nat.le_trans h.size h2.size, fun k hk hf => (h2.block k (Nat.lt_of_lt_of_le hk h.size) hf).trans (h.block k hk hf)⟩
/-- Two rows stand in two blocks. -/
def Ne2 (u v : Value) : Prop := ∀ k, u.ownBlock = some k → v.ownBlock = some k → False
theorem Ne2.symm {u v : Value} (h : Ne2 u v) : Ne2 v u := fun k a b => h k b a
theorem Ne2.nil (v : Value) : Ne2 (.slice none 0 0) v := fun k a _ => by simp [Value.ownBlock] at a
structure QS (w : World) (b : Nat) (vw vd : Value) (ws ds : List Chg) : Prop where
  blk : Blk w b 45 #[vw, vd]
  wa : TailRow w (b + 1) 29 3 vw ws.length (chgsL ws)
  dn : w.ownsRow (b + 1) 32 3 vd ds.length (chgsL ds)
  ne : Ne2 vw vd
  wl : ws.length ≤ 8
  d0 : ds = [] → vd = .slice none 0 0
section
variable {w w' : World} {b : Nat} {vw vd : Value} {ws ds : List Chg}
theorem QS.kept (h : QS w b vw vd ws ds) {F : Nat → Prop} (hk : KpF F w w') (hb : ¬ F b) (h1 : ∀ k, vw.ownBlock = some k → ¬ F k) (h2 : ∀ k, vd.ownBlock = some k → ¬ F k) : QS w' b vw vd ws ds := by
  have hg : ∀ k, k < w.heap.size → ¬ F k → w'.heap[k]? = w.heap[k]? := hk.block
  refine ⟨(hg b h.blk.lt hb).trans h.blk, ⟨h.wa.1, ?_⟩, ⟨h.dn.1, ?_⟩, h.ne, h.wl, h.d0⟩
  · rcases h.wa.2 with h3 | ⟨g, off, cap, cur, rfl, h4, h5, h6⟩
    · exact .inl h3
    · exact .inr ⟨g, off, cap, cur, rfl, h4, (hg g (Array.getElem?_eq_some_iff.1 h5).1 (h1 g rfl)).trans h5, h6⟩
  · rcases h.dn.2 with h3 | ⟨g, cap, cur, rfl, h4, h5, h6⟩
    · exact .inl h3
    · exact .inr ⟨g, cap, cur, rfl, h4, (hg g (Array.getElem?_eq_some_iff.1 h5).1 (h2 g rfl)).trans h5, h6⟩
theorem QS.ext (h : QS w b vw vd ws ds) (hg : w.grownBy w' none) : QS w' b vw vd ws ds :=
  h.kept (F := fun _ => False) (KpF.of_grown hg (by simp)) (by simp) (by simp) (by simp)
theorem QS.c0 (h : QS w b vw vd ws ds) : w.cell? ⟨b, 0, none⟩ = some vw := (h.blk.cell 0).trans rfl
theorem QS.c1 (h : QS w b vw vd ws ds) : w.cell? ⟨b, 1, none⟩ = some vd := (h.blk.cell 1).trans rfl
theorem QS.lt (h : QS w b vw vd ws ds) : ∀ k, fpQ b vw vd k → b ≤ k ∧ k < w.heap.size := by
  intro k hk
  rcases hk with rfl | hk | hk
  · exact ⟨Nat.le_refl _, h.blk.lt⟩
  · have := h.wa.lt k hk; omega
  · have := h.dn.lt k hk; omega
end

end Go.Proofs.Ytlljkcpopfencaa
