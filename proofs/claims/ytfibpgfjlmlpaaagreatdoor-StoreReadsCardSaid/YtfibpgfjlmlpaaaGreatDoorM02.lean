/-
  Texts put together: RW QA WA TA HA AT DB.
-/
import Derived.Test.YtfibpgfjlmlpaaaGreatDoorM01
import Derived.Test.YtfibpgfjlmlpaaaGreatDoorRows
import Derived.WalkKit
import Derived.ArgAppend
import Derived.WalkSpells
import Derived.WalkLawsBesides
import Derived.BigQuiet
import Derived.Deep.QuietTactic
import Derived.Lib.Hide
import Derived.Handy
import Derived.Outline
import Derived.Deep.DeepCutAuto
import Derived.Deep.Cut
import Derived.Deep.CutBlock
import Derived.Deep.LoopGhost
import Derived.Laws.LoneSync
import Derived.RegionCalls
import Derived.Below
/-
  Layer 18's Ward that came in: four numbers and a slice of numbers, by value.
-/
namespace Go.Proofs.YtfibpgfjlmlpaaaGreatDoor
set_option linter.unusedVariables false
set_option linter.unusedSimpArgs false
set_option linter.unusedVariables false
set_option linter.unusedSimpArgs false
set_option maxRecDepth 100000
open Go.RowKit Go.ChangeShapes Go.WideShapes

/-- A Ward by value. -/
def wardV (a b c d : Int) (ao : Option Addr) (n cap : Nat) : Value := .agg #[.int .i64 a, .int .i64 b, .int .i64 c, .int .i64 d, .slice ao n cap]
structure WardP (w : World) (a b c d : Int) (ao : Option Addr) (n cap : Nat) (zs : List Int) : Prop where
  is : Ints w (.slice ao n cap) zs
  lt : ∀ k, (Value.slice ao n cap).ownBlock = some k → k < w.heap.size
  len : zs.length = n
  mx : n ≤ maxLen
  wf : ∀ x ∈ zs, (Lit.int .i64 x).wf = true
  w0 : (Lit.int .i64 a).wf = true
  w1 : (Lit.int .i64 b).wf = true
  w2 : (Lit.int .i64 c).wf = true
  w3 : (Lit.int .i64 d).wf = true

section
variable {H : Type} {enc : TypeId × Value → H} {w : World} {base b0 : Nat} {held : Bool}
set_option maxRecDepth 100000 in
theorem open_ward {v : Value} {d : DataW H} {p : List MemPlace} (hv : Value.okWide Tryz.prog w .any b0 24 v) (h : DataW.Trod enc Tryz.prog w base (fun _ => true) held 24 v d p) :
    ∃ (n0 n1 n2 n3 : Int) (ao : Option Addr) (n cap : Nat) (zs : List Int), v = wardV n0 n1 n2 n3 ao n cap ∧ WardP w n0 n1 n2 n3 ao n cap zs := by
  simp only [Value.okWide, Tryz.underlying24] at hv
  obtain ⟨cs, rfl, hsz, ts, h1, _, hall⟩ := hv
  rw [show Tryz.prog.cellTypes Tryz.prog.depth 24 = some [3, 3, 3, 3, 22] by kernel_rfl] at h1
  obtain rfl := Option.some.inj h1
  rw [show Tryz.prog.cellsOf 24 = 5 by kernel_rfl] at hsz
  obtain ⟨l⟩ := cs
  obtain ⟨c0, c1, c2, c3, c4, rfl⟩ := list5 (show l.length = 5 by simpa using hsz)
  have hs : Value.okWide Tryz.prog w .any b0 22 c4 := by
    obtain ⟨u, hu, hw⟩ := hall 4 c4 rfl
    have hus : 22 = u := by simpa using hu
    subst hus
    simpa only [Value.okWide, Tryz.underlying22] using hw
  obtain ⟨fuel, hf⟩ := h
  have hf2 : DataW.trod enc Tryz.prog w base (fun _ => true) held fuel 24 [c0, c1, c2, c3, c4] = some (d, p) := by simpa [Value.cells] using hf
  obtain ⟨xs, m, _, _, _, hl, hat⟩ := DataW.trod_struct Tryz.underlying24 hf2
  have k0 : DataW.trod enc Tryz.prog w base (fun _ => true) held m 3 (([c0, c1, c2, c3, c4].drop 0).take (Tryz.prog.cellsOf 3)) = xs[0]? := hat 0 _ rfl
  have k1 : DataW.trod enc Tryz.prog w base (fun _ => true) held m 3 (([c0, c1, c2, c3, c4].drop 1).take (Tryz.prog.cellsOf 3)) = xs[1]? := hat 1 _ rfl
  have k2 : DataW.trod enc Tryz.prog w base (fun _ => true) held m 3 (([c0, c1, c2, c3, c4].drop 2).take (Tryz.prog.cellsOf 3)) = xs[2]? := hat 2 _ rfl
  have k3 : DataW.trod enc Tryz.prog w base (fun _ => true) held m 3 (([c0, c1, c2, c3, c4].drop 3).take (Tryz.prog.cellsOf 3)) = xs[3]? := hat 3 _ rfl
  have k4 : DataW.trod enc Tryz.prog w base (fun _ => true) held m 22 (([c0, c1, c2, c3, c4].drop 4).take (Tryz.prog.cellsOf 22)) = xs[4]? := hat 4 _ rfl
  have hl5 : xs.length = 5 := hl
  rw [show Tryz.prog.cellsOf 3 = 1 by kernel_rfl] at k0 k1 k2 k3
  rw [show Tryz.prog.cellsOf 22 = 1 by kernel_rfl] at k4
  rw [List.getElem?_eq_getElem (by omega)] at k0 k1 k2 k3 k4
  obtain ⟨n0, e0, _, w0⟩ := DataW.trod_int Tryz.underlying3 k0
  obtain ⟨n1, e1, _, w1⟩ := DataW.trod_int Tryz.underlying3 k1
  obtain ⟨n2, e2, _, w2⟩ := DataW.trod_int Tryz.underlying3 k2
  obtain ⟨n3, e3, _, w3⟩ := DataW.trod_int Tryz.underlying3 k3
  obtain ⟨a4, l4, p4, rfl⟩ := okWide_slice Tryz.underlying22 hs
  simp at e0 e1 e2 e3
  obtain ⟨zs, hz⟩ := row_of (d := (xs[4]).1) (p := (xs[4]).2) (a := a4) (len := l4) (cap := p4) Tryz.underlying22 Tryz.underlying3 (by kernel_rfl) ⟨m, k4⟩
  obtain ⟨r1, r2, r3, r4⟩ := row_intsW hz (fun x hx => by cases hx; exact slice_good Tryz.underlying22 hs)
  have hlen : (zs.take l4).length = l4 := by
    rcases r1 with ⟨h5, h6⟩ | ⟨b, off, cap, h5, _, _⟩ | ⟨x, cap, h5, h6⟩
    · simp only [Value.slice.injEq] at h5
      rw [h6, h5.2.1]; rfl
    · simp only [Value.slice.injEq] at h5
      exact h5.2.1.symm
    · simp only [Value.slice.injEq] at h5
      rw [h6, h5.2.1]; rfl
  exact ⟨n0, n1, n2, n3, a4, l4, p4, zs.take l4, by simp [wardV, e0, e1, e2, e3], r1, r2, hlen, by omega, r4, w0, w1, w2, w3⟩
end

end Go.Proofs.YtfibpgfjlmlpaaaGreatDoor

/-
  A row of the call's own that is cut at its head and appended to ('q = q[1:]', 'q = append(q, x)').
-/
namespace Go.Proofs.YtfibpgfjlmlpaaaGreatDoor
set_option linter.unusedVariables false
set_option linter.unusedSimpArgs false
set_option linter.unusedVariables false
set_option linter.unusedSimpArgs false
set_option maxRecDepth 100000
open Go.RowKit

/-- The slice v is n elements of the row that lies in a block of the call's own, at whatever offset. -/
def TailRow (w : World) (base : Nat) (e : TypeId) (size : Nat) (v : Value) (n : Nat) (xs : List Value) : Prop :=
  xs.length = n * size ∧
  ((v = .slice none 0 0 ∧ n = 0) ∨
   ∃ g off cap cur, v = .slice (some ⟨g, off, none⟩) n cap ∧ base ≤ g ∧ w.heap[g]? = some (.cells cur e (0, 0)) ∧ n ≤ cap ∧ cap ≤ maxLen ∧ off + cap * size ≤ cur.size ∧ (cur.toList.drop off).take (n * size) = xs)
section
variable {w w' : World} {base : Nat} {e : TypeId} {size : Nat} {v : Value} {n : Nat} {xs : List Value}
theorem TailRow.nil (w : World) (base : Nat) (e : TypeId) (size : Nat) : TailRow w base e size (.slice none 0 0) 0 [] := ⟨by simp, .inl ⟨rfl, rfl⟩⟩
theorem TailRow.of_owns (h : w.ownsRow base e size v n xs) : TailRow w base e size v n xs := by
  refine ⟨h.1, ?_⟩
  rcases h.2 with h2 | ⟨g, cap, cur, h1, h2, h3, h4, h5, h6, h7⟩
  · exact .inl h2
  · exact .inr ⟨g, 0, cap, cur, h1, h2, h3, h4, h5, by omega, by simpa using h7⟩
theorem TailRow.lt (h : TailRow w base e size v n xs) : ∀ k, v.ownBlock = some k → base ≤ k ∧ k < w.heap.size := by
  intro k hk
  rcases h.2 with ⟨rfl, _⟩ | ⟨g, off, cap, cur, rfl, h2, h3, _⟩
  · simp [Value.ownBlock] at hk
  · simp [Value.ownBlock] at hk
    subst hk
    exact ⟨h2, (Array.getElem?_eq_some_iff.1 h3).1⟩
theorem TailRow.kept {r : Option Nat} (h : TailRow w base e size v n xs) (hg : w.grownBy w' r) (hr : ∀ k, v.ownBlock = some k → some k ≠ r) : TailRow w' base e size v n xs := by
  refine ⟨h.1, ?_⟩
  rcases h.2 with h2 | ⟨g, off, cap, cur, rfl, h2, h3, h4⟩
  · exact .inl h2
  · exact .inr ⟨g, off, cap, cur, rfl, h2, (hg.block g (Array.getElem?_eq_some_iff.1 h3).1 (hr g rfl)).trans h3, h4⟩
theorem TailRow.le (h : TailRow w base e size v n xs) {base' : Nat} (hb : base' ≤ base) : TailRow w base' e size v n xs := by
  refine ⟨h.1, ?_⟩
  rcases h.2 with h2 | ⟨g, off, cap, cur, h1, h2, h3⟩
  · exact .inl h2
  · exact .inr ⟨g, off, cap, cur, h1, Nat.le_trans hb h2, h3⟩
/-- The shape: nil, or an address that is written out. -/
theorem TailRow.shape (h : TailRow w base e size v n xs) : (v = .slice none 0 0 ∧ n = 0) ∨ ∃ g off cap, v = .slice (some ⟨g, off, none⟩) n cap ∧ n ≤ cap ∧ cap ≤ maxLen ∧ g < w.heap.size ∧ base ≤ g ∧ ∀ j, j < n * size → w.cell? ⟨g, off + j, none⟩ = xs[j]? := by
  rcases h.2 with h2 | ⟨g, off, cap, cur, h1, h2, h3, h4, h5, h6, h7⟩
  · exact .inl h2
  · refine .inr ⟨g, off, cap, h1, h4, h5, (Array.getElem?_eq_some_iff.1 h3).1, h2, fun j hj => ?_⟩
    rw [cell_of_row w g (off + j) cur e (0, 0) h3, ← h7, List.getElem?_take, if_pos hj, List.getElem?_drop, Array.getElem?_toList]
/-- The head is cut off. -/
theorem TailRow.cut {g off cap : Nat} (h : TailRow w base e size (.slice (some ⟨g, off, none⟩) (n + 1) cap) (n + 1) xs) : TailRow w base e size (.slice (if cap = 1 then some ⟨g, off, none⟩ else some ⟨g, off + size, none⟩) n (cap - 1)) n (xs.drop size) := by
  have hl := h.1
  rcases h.2 with ⟨h2, _⟩ | ⟨g', off', cap', cur, h1, h2, h3, h4, h5, h6, h7⟩
  · cases h2
  · simp only [Value.slice.injEq, Option.some.injEq, Addr.mk.injEq, true_and, and_true] at h1
    obtain ⟨⟨rfl, rfl⟩, rfl⟩ := h1
    refine ⟨by rw [List.length_drop, hl, Nat.add_mul]; omega, .inr ?_⟩
    have hx : (cur.toList.drop (off + size)).take (n * size) = xs.drop size := by
      rw [← h7, List.drop_take, List.drop_drop, Nat.add_mul]
      congr 1
      omega
    by_cases hc : cap = 1
    · rw [if_pos hc]
      subst hc
      obtain rfl : n = 0 := by omega
      exact ⟨g, off, 0, cur, rfl, h2, h3, by omega, by omega, by omega, by simpa using hx⟩
    · rw [if_neg hc]
      have hm : (cap - 1) * size + size = cap * size := by
        obtain ⟨c, rfl⟩ : ∃ c, cap = c + 1 := ⟨cap - 1, by omega⟩
        rw [Nat.add_sub_cancel, Nat.add_mul]; omega
      exact ⟨g, off + size, cap - 1, cur, rfl, h2, h3, by omega, by omega, by omega, hx⟩
end

/-- Cells that are set in a block that is known whole. -/
theorem setCells_block (b : Nat) (e : TypeId) : ∀ (vs : List Value) (o : Nat) (w : World) (cur : Array Value), w.heap[b]? = some (.cells cur e (0, 0)) → o + vs.length ≤ cur.size →
    ∃ cur', (w.setCells b o vs).heap[b]? = some (.cells cur' e (0, 0)) ∧ cur'.size = cur.size ∧ ∀ j, cur'[j]? = if o ≤ j ∧ j < o + vs.length then vs[j - o]? else cur[j]?
  | [], o, w, cur, h, _ => ⟨cur, h, rfl, fun j => by rw [if_neg (by simp)]⟩
  | v :: r, o, w, cur, h, hl => by
    rw [List.length_cons] at hl
    have h1 := heap_setCell_same w b o cur e v h
    obtain ⟨cur', h2, h3, h4⟩ := setCells_block b e r (o + 1) _ _ h1 (by simp; omega)
    refine ⟨cur', h2, by simpa using h3, fun j => ?_⟩
    rw [h4 j, List.length_cons]
    by_cases e1 : o + 1 ≤ j ∧ j < o + 1 + r.length
    · rw [if_pos e1, if_pos (by omega), show j - o = (j - (o + 1)) + 1 by omega, List.getElem?_cons_succ]
    · rw [if_neg e1]
      by_cases e2 : j = o
      · subst e2
        rw [if_pos (by omega), Nat.sub_self, Array.getElem?_setIfInBounds_self_of_lt (by omega)]
        rfl
      · rw [if_neg (by omega), Array.getElem?_setIfInBounds_ne (by omega)]
theorem setCells_grown (b : Nat) : ∀ (vs : List Value) (o : Nat) (w : World), w.grownBy (w.setCells b o vs) (some b)
  | [], _, w => ⟨rfl, rfl, rfl, Nat.le_refl _, fun _ _ _ => rfl⟩
  | v :: r, o, w => by
    have h := setCells_grown b r (o + 1) (w.setCell ⟨b, o, none⟩ v)
    have h1 : w.grownBy (w.setCell ⟨b, o, none⟩ v) (some b) := ⟨rfl, rfl, rfl, by simp, fun k _ hne => heap_setCell_other w ⟨b, o, none⟩ k v (fun e => hne (by rw [e]))⟩
    exact ⟨h.os.trans h1.os, h.tape.trans h1.tape, h.output.trans h1.output, Nat.le_trans h1.size h.size, fun k hk hne => (h.block k (Nat.lt_of_lt_of_le hk h1.size) hne).trans (h1.block k hk hne)⟩

/-- One element more. -/
theorem append_tail {P : Program} {w : World} {ops : Array Oper} {rest : List Oper} {o : Oper} {a : Act} {Q : Exit → Act → World → Prop} (hg : o.guard = none) (s x : Operand) (t : TypeId)
    (hop : o.op = Op.call { callee := Callee.builtin Builtin.append, args := #[s, x], argTypes := #[t, t] })
    (base : Nat) (e : TypeId) (i : TypeInfo) (z : Value) (size bytes : Nat) (h1 : P.underlying t = some (.slice e)) (h2 : P.info? e = some i) (h3 : i.zero = some z) (h4 : i.size = size) (h5 : i.bytes = bytes) (h6 : z.cells.size = size) (h7 : 0 < size)
    {v : Value} {n : Nat} {xs : List Value} (hs : a.eval s = v) (hown : TailRow w base e size v n xs) (ad : Addr) (c : Nat) (news : List Value) (hx : a.eval x = .slice (some ad) 1 c) (hn : news.length = size) (hc : ∀ j u, news[j]? = some u → w.cell? (ad.add j) = some u)
    (h1c : ∀ u ∈ news, u.oneCell' = true) (b1 : n + 1 ≤ maxLen) (b2 : (n + 1) * bytes ≤ 140737488355328) (hbase : base ≤ w.heap.size)
    (h : ∀ v' w', TailRow w' base e size v' (n + 1) (xs ++ news) → w.grownBy w' v.ownBlock → (∀ k, v'.ownBlock = some k → v.ownBlock = some k ∨ w.heap.size ≤ k) → wpList P ops Q rest (a.put o.dst v') w') : wpList P ops Q (o :: rest) a w := by
  rcases hown.2 with ⟨rfl, rfl⟩ | ⟨g, off, cap, cur, rfl, q1, q2, q3, q4, q5, q6⟩
  · have hxs : xs = [] := List.eq_nil_of_length_eq_zero (by simpa using hown.1)
    subst hxs
    refine wpList_append_grows w hg s x t hop e i z size bytes h1 h2 h3 h4 h5 h6 h7 none 0 0 [] hs (fun _ => ⟨rfl, rfl⟩) (by simp) (fun b hb => by cases hb) ad 1 c news hx (by omega) hc h1c (by decide) b1 b2 (fun v' w' ho hgr => ?_)
    exact h v' w' (TailRow.le (.of_owns ho) hbase) hgr (fun k hk => .inr (ho.lt k hk).1)
  · have hsz := hown.1
    have holds : ∀ j u, xs[j]? = some u → w.cell? ⟨g, off + j, none⟩ = some u := fun j u hj => by
      have hjl : j < n * size := by rw [← hsz]; exact (List.getElem?_eq_some_iff.1 hj).1
      rw [cell_of_row w g (off + j) cur e (0, 0) q2, ← hj, ← q6, List.getElem?_take, if_pos hjl, List.getElem?_drop, Array.getElem?_toList]
    have hspare : n + 1 ≤ cap → off + n * size + news.length ≤ cur.size := fun hr => by
      have hm : (n + 1) * size ≤ cap * size := Nat.mul_le_mul_right _ hr
      rw [Nat.add_mul] at hm
      omega
    refine wpList_append_arg w hg s x t hop e i z size bytes h1 h2 h3 h4 h5 h6 h7 g off n cap xs hs hsz holds ad 1 c news hx (by omega) hc h1c (fun hr j hj => ?_) b1 b2 (fun hr => ?_) (fun hr v' w' ho hgr => ?_)
    · have hlt : off + n * size + j < cur.size := by have := hspare hr; omega
      refine ⟨?_, frozen_of_row w g _ cur e q2⟩
      rw [cell_of_row w g _ cur e (0, 0) q2, Array.getElem?_eq_getElem hlt]
      rfl
    · obtain ⟨cur', r1, r2, r3⟩ := setCells_block g e news (off + n * size) w cur q2 (hspare hr)
      refine h _ _ ⟨by rw [List.length_append, hsz, hn, Nat.add_mul]; omega, .inr ⟨g, off, cap, cur', rfl, q1, r1, hr, q4, by omega, ?_⟩⟩ (setCells_grown g news _ w) (fun k hk => .inl hk)
      refine List.ext_getElem? fun j => ?_
      rw [List.getElem?_take, List.getElem?_drop, Array.getElem?_toList, r3]
      have hm : (n + 1) * size = n * size + size := by rw [Nat.add_mul]; omega
      by_cases hj : j < n * size
      · rw [if_pos (by omega), if_neg (by omega), List.getElem?_append_left (by omega), ← q6, List.getElem?_take, if_pos hj, List.getElem?_drop, Array.getElem?_toList]
      · by_cases hj2 : j < (n + 1) * size
        · rw [if_pos hj2, if_pos (by omega), List.getElem?_append_right (by omega), hsz]
          congr 1
          omega
        · rw [if_neg hj2, List.getElem?_eq_none (by rw [List.length_append]; omega)]
    · exact h v' w' (TailRow.le (.of_owns ho) hbase) ⟨hgr.os, hgr.tape, hgr.output, hgr.size, fun k hk _ => hgr.block k hk (by simp)⟩ (fun k hk => .inr (ho.lt k hk).1)

end Go.Proofs.YtfibpgfjlmlpaaaGreatDoor

/-
  The walks of the small functions of package word that make no memory: isSize, Fits (and the document's), stopped.
-/
namespace Go.Proofs.YtfibpgfjlmlpaaaGreatDoor
set_option linter.unusedVariables false
set_option linter.unusedSimpArgs false
set_option linter.unusedVariables false
set_option linter.unusedSimpArgs false
set_option maxRecDepth 100000
open Go.RowKit

theorem ret_bool {a b : Bool} (h : a = b) : Ending.returned (.bool a) = .returned (.bool b) := by rw [h]
theorem ret_int {k : IntKind} {a b : Int} (h : a = b) : Ending.returned (.int k a) = .returned (.int k b) := by rw [h]

def sizeB (n : Int) : Bool := decide (n = 1 ∨ n = 2 ∨ n = 4)

set_option maxHeartbeats 400000 in
theorem isSize_any (n : Int) (w : World) :
    Calls Tryz.prog 175 #[.int .i64 n] w fun e w' => e = .returned (.bool (sizeB n)) ∧ w = w' := by
  by_cases h1 : n = 1
  · subst h1
    go_enter Tryz.func175, Tryz.ntmps175
    go_wp2
    go_ret
    exact ⟨ret_bool (by simp [sizeB]), rfl⟩
  · by_cases h2 : n = 2
    · subst h2
      go_enter Tryz.func175, Tryz.ntmps175
      go_wp2
      go_ret
      exact ⟨ret_bool (by simp [sizeB]), rfl⟩
    · have e1 : (n == 1) = false := by simpa using h1
      have e2 : (n == 2) = false := by simpa using h2
      go_enter Tryz.func175, Tryz.ntmps175
      go_wp2
      go_ret
      refine ⟨ret_bool ?_, rfl⟩
      rw [Bool.eq_iff_iff]
      simp [sizeB]
      omega

/-- Whether a number can be written by so many bytes. -/
def fitsB (v n : Int) : Bool := decide (0 ≤ v ∧ ((n = 1 ∧ v ≤ 255) ∨ (n = 2 ∧ v ≤ 65535) ∨ (n = 4 ∧ v ≤ 4294967295)))

theorem fits_u64 (v : Int) (h0 : 0 ≤ v) (h1 : v ≤ 9223372036854775807) : IntKind.u64.wrap v = v := by
  simp [IntKind.wrap, IntKind.bits, IntKind.signed]
  omega

set_option maxHeartbeats 400000 in
theorem fits_any (v n : Int) (w : World) (hv9 : v ≤ 9223372036854775807) :
    Calls Tryz.prog 212 #[.int .i64 v, .int .i64 n] w fun e w' => e = .returned (.bool (fitsB v n)) ∧ w = w' := by
  by_cases hs : sizeB n = true
  · have hn : n = 1 ∨ n = 2 ∨ n = 4 := by simpa [sizeB] using hs
    by_cases hv : 0 ≤ v
    · have hu := fits_u64 v hv hv9
      rcases hn with rfl | rfl | rfl
      all_goals
        go_enter Tryz.func212, Tryz.ntmps212
        go_wp2_with (go_at_call 175; refine (isSize_any _ _).mono ?_; rintro e w' ⟨rfl, rfl⟩)
        go_ret
        refine ⟨ret_bool ?_, rfl⟩
        rw [Bool.eq_iff_iff]
        simp [fitsB]
        omega
    · have hv0 : decide (0 ≤ v) = false := by simpa using hv
      go_enter Tryz.func212, Tryz.ntmps212
      go_wp2_with (go_at_call 175; refine (isSize_any _ _).mono ?_; rintro e w' ⟨rfl, rfl⟩)
      go_ret
      refine ⟨ret_bool ?_, rfl⟩
      simp [fitsB]
      omega
  · have hs' : sizeB n = false := by simpa using hs
    go_enter Tryz.func212, Tryz.ntmps212
    go_wp2_with (go_at_call 175; refine (isSize_any _ _).mono ?_; rintro e w' ⟨rfl, rfl⟩)
    go_ret
    refine ⟨ret_bool ?_, rfl⟩
    have hn : ¬ (n = 1 ∨ n = 2 ∨ n = 4) := by simpa [sizeB] using hs'
    rw [Bool.eq_iff_iff]
    simp [fitsB]
    omega


end Go.Proofs.YtfibpgfjlmlpaaaGreatDoor

/-
  Package tag: what is a tag, the table of its fields in memory; Newer, numbers, told, Right, and the document's.
-/
namespace Go.Proofs.YtfibpgfjlmlpaaaGreatDoor
set_option linter.unusedVariables false
set_option linter.unusedSimpArgs false
set_option linter.unusedVariables false
set_option linter.unusedSimpArgs false
set_option maxRecDepth 100000
open Go.RowKit

/-- A tag, by value; its block, boxed. -/
def tagV (a b c d k : Int) (p : Bool) : Value := .agg #[.int .i64 a, .int .i64 b, .int .i64 c, .int .i64 d, .int .i64 k, .bool p]
def tagObj (a b c d k : Int) (p : Bool) : Obj := .cells #[.int .i64 a, .int .i64 b, .int .i64 c, .int .i64 d, .int .i64 k, .bool p] 95
def arrV (a b c d k : Int) : Value := .agg #[.int .i64 a, .int .i64 b, .int .i64 c, .int .i64 d, .int .i64 k]
def arrObj (a b c d k : Int) : Obj := .cells #[.int .i64 a, .int .i64 b, .int .i64 c, .int .i64 d, .int .i64 k] 208
def nth (a b c d k : Int) (j : Nat) : Int := [a, b, c, d, k].getD j 0

def newerB (s s2 : Int) (p p2 : Bool) : Bool := if s = s2 then !p && p2 else decide (s2 < s)

set_option maxHeartbeats 400000 in
theorem newer_any (a b c d k : Int) (p : Bool) (a2 b2 c2 d2 k2 : Int) (p2 : Bool) (w : World) :
    Calls Tryz.prog 166 #[tagV a b c d k p, tagV a2 b2 c2 d2 k2 p2] w fun e w' => e = .returned (.bool (newerB d d2 p p2)) ∧ (w.alloc (tagObj a b c d k p)).alloc (tagObj a2 b2 c2 d2 k2 p2) = w' := by
  unfold tagV tagObj
  cases p
  all_goals
    go_enter Tryz.func166, Tryz.ntmps166
    go_wp2
    all_goals
      go_returns
      exact ⟨ret_bool (by simp_all [newerB]), rfl⟩

set_option maxHeartbeats 400000 in
theorem numbers_any (a b c d k : Int) (p : Bool) (w : World) :
    Calls Tryz.prog 177 #[tagV a b c d k p] w fun e w' => e = .returned (arrV a b c d k) ∧ (w.alloc (tagObj a b c d k p)).alloc (arrObj a b c d k) = w' := by
  unfold tagV tagObj arrV arrObj
  go_enter Tryz.func177, Tryz.ntmps177
  go_wp2
  go_returns
  exact ⟨rfl, rfl⟩

set_option maxHeartbeats 400000 in
theorem told_any (a b c d k : Int) (p : Bool) (w : World) :
    Calls Tryz.prog 159 #[arrV a b c d k, .bool p] w fun e w' => e = .returned (tagV a b c d k p) ∧ (w.alloc (arrObj a b c d k)).alloc (tagObj a b c d k p) = w' := by
  unfold tagV arrV arrObj tagObj
  go_enter Tryz.func159, Tryz.ntmps159
  go_wp2
  go_returns
  exact ⟨rfl, rfl⟩

/-- The table of a tag's fields: by how many bytes, from, to. -/
def fsz (j : Nat) : Int := [1, 4, 1, 4, 1].getD j 0
def ffr (j : Nat) : Int := [0, 0, 0, 0, 1].getD j 0
def fto (j : Nat) : Int := [3, 2147483647, 63, 2147483647, 2].getD j 0
/-- It stands in memory, where package-level variables are. -/
def Flds (w : World) : Prop := ∀ j, j < 5 → w.cell? ⟨0, j * 3, none⟩ = some (.int .i64 (fsz j)) ∧ w.cell? ⟨0, j * 3 + 1, none⟩ = some (.int .i64 (ffr j)) ∧ w.cell? ⟨0, j * 3 + 2, none⟩ = some (.int .i64 (fto j))
theorem Flds.kept {w w' : World} {r : Option Nat} (h : Flds w) (hg : w.grownBy w' r) (hr : some 0 ≠ r) : Flds w' := fun j hj =>
  ⟨hg.cell (h j hj).1 hr, hg.cell (h j hj).2.1 hr, hg.cell (h j hj).2.2 hr⟩
theorem Flds.lt {w : World} (h : Flds w) : 0 < w.heap.size := World.block_lt_of_cell? w _ (h 0 (by decide)).1
theorem Flds.ext {w w' : World} (h : Flds w) (hg : Ext w w') : Flds w' := h.kept hg (by simp)

/-- Five numbers in a block. -/
def Arr (w : World) (B : Nat) (v : Nat → Int) : Prop := ∀ j, j < 5 → w.cell? ⟨B, j, none⟩ = some (.int .i64 (v j))
theorem arr_new (w : World) (a b c d k : Int) : Arr (w.alloc (arrObj a b c d k)) w.heap.size (nth a b c d k) := fun j hj => by
  rw [arrObj, World.cell?_alloc_mark]
  have : j = 0 ∨ j = 1 ∨ j = 2 ∨ j = 3 ∨ j = 4 := by omega
  rcases this with rfl | rfl | rfl | rfl | rfl <;> rfl
theorem Arr.ext {w w' : World} {B : Nat} {v : Nat → Int} (h : Arr w B v) (hg : Ext w w') : Arr w' B v := fun j hj => hg.cell (h j hj) (by simp)

/-- Whether a tag may be. -/
def okB (a b c d k : Int) : Bool := (List.range 5).all fun j => decide (ffr j ≤ nth a b c d k j ∧ nth a b c d k j ≤ fto j)
theorem okB_true {a b c d k : Int} (h : ∀ j, j < 5 → ffr j ≤ nth a b c d k j ∧ nth a b c d k j ≤ fto j) : okB a b c d k = true := by
  simp only [okB, List.all_eq_true, List.mem_range, decide_eq_true_eq]
  exact h
theorem okB_false {a b c d k : Int} {j : Nat} (hj : j < 5) (h : ¬ (ffr j ≤ nth a b c d k j ∧ nth a b c d k j ≤ fto j)) : okB a b c d k = false := by
  rw [Bool.eq_false_iff]
  intro h2
  simp only [okB, List.all_eq_true, List.mem_range, decide_eq_true_eq] at h2
  exact h (h2 j hj)


set_option maxHeartbeats 400000 in
theorem right_any (a b c d k : Int) (p : Bool) (w : World) (hF : Flds w) :
    Calls Tryz.prog 162 #[tagV a b c d k p] w fun e w' => e = .returned (.bool (okB a b c d k)) ∧ Ext w w' := by
  have N := numbers_any a b c d k p
  have g3 := ext_trans (ext_trans (ext_trans (World.grownBy_alloc w (tagObj a b c d k p) none) (World.grownBy_alloc _ (tagObj a b c d k p) none)) (World.grownBy_alloc _ (arrObj a b c d k) none)) (World.grownBy_alloc _ (arrObj a b c d k) none)
  have hA := arr_new (((w.alloc (tagObj a b c d k p)).alloc (tagObj a b c d k p)).alloc (arrObj a b c d k)) a b c d k
  have hF3 := hF.ext g3
  have hz : (((w.alloc (tagObj a b c d k p)).alloc (tagObj a b c d k p)).alloc (arrObj a b c d k)).heap.size = w.heap.size + 1 + 1 + 1 := by simp
  rw [hz] at hA
  generalize hv : nth a b c d k = v at *
  have HV := Lib.hid hv
  unfold tagV arrV at *
  have HH := Lib.hid (And.intro g3 (And.intro hA hF3))
  clear hv g3 hA hF3 hF hz
  unfold tagObj arrObj at *
  go_enter Tryz.func162, Tryz.ntmps162
  go_wp2_with (go_at_call 177; refine (N _).mono ?_; rintro e w' ⟨rfl, rfl⟩)
  go_loopw [7] (fun i wr => ∃ j : Nat, j ≤ 5 ∧ i = .int .i64 j ∧ Ext w wr ∧ Arr wr (w.heap.size + 1 + 1 + 1) v ∧ Flds wr ∧ ∀ q, q < j → ffr q ≤ v q ∧ v q ≤ fto q) (fun i _ => 5 - (intOf i).toNat)
  case atStart => exact ⟨0, by omega, rfl, HH.out.1, HH.out.2.1, HH.out.2.2, fun q hq => by omega⟩
  case round =>
    obtain ⟨j, hj, rfl, hE, hA, hF, hall⟩ := hrel
    by_cases hlt : j < 5
    · obtain ⟨_, c1, c2⟩ := hF j hlt
      have c0 := hA j hlt
      have HE := Lib.hid (And.intro hE (And.intro hA (And.intro hF hall)))
      clear hE hA hF hall
      obtain ⟨x, hx⟩ : ∃ x, v j = x := ⟨_, rfl⟩
      obtain ⟨lo, hlo⟩ : ∃ x, ffr j = x := ⟨_, rfl⟩
      obtain ⟨hi, hhi⟩ : ∃ x, fto j = x := ⟨_, rfl⟩
      rw [hx] at c0
      rw [hlo] at c1
      rw [hhi] at c2
      have HX := Lib.hid (And.intro hx (And.intro hlo hhi))
      clear hx hlo hhi
      by_cases h1 : x < lo
      · go_wp2
        go_quiet (fail)
        rename_i nq
        go_wp2
        go_returns
        obtain ⟨e1, e2, _⟩ := HX.out
        exact ⟨ret_bool (okB_false (j := j) hlt (by rw [HV.out, e1, e2]; omega)).symm, ext_trans HE.out.1 (gb_drewN _ nq)⟩
      · by_cases h2 : hi < x
        · go_wp2
          go_quiet (fail)
          rename_i nq
          go_wp2
          go_returns
          obtain ⟨e1, _, e2⟩ := HX.out
          exact ⟨ret_bool (okB_false (j := j) hlt (by rw [HV.out, e1, e2]; omega)).symm, ext_trans HE.out.1 (gb_drewN _ nq)⟩
        · go_wp2
          go_quiet (fail)
          rename_i nq
          go_wp2
          go_roundw
          case rel =>
            obtain ⟨k1, k2, k3, k4⟩ := HE.out
            obtain ⟨e1, e2, e3⟩ := HX.out
            refine ⟨j + 1, by omega, by go_num, ext_trans k1 (gb_drewN _ nq), k2.ext (gb_drewN _ nq), k3.ext (gb_drewN _ nq), fun q hq => ?_⟩
            by_cases h : q = j
            · subst h
              rw [e1, e2, e3]
              omega
            · exact k4 q (by omega)
          case measure => simp [intOf]; omega
    · have hn : ¬ (j : Int) < 5 := by omega
      go_wp2
      go_returns
      exact ⟨ret_bool (okB_true (fun q hq => by rw [HV.out]; exact hall q (by omega))).symm, hE⟩

end Go.Proofs.YtfibpgfjlmlpaaaGreatDoor

/-
  Layer 17: pages that are found: rows of them in memory; the document's Mine, counting, has.
-/
namespace Go.Proofs.YtfibpgfjlmlpaaaGreatDoor
set_option linter.unusedVariables false
set_option linter.unusedSimpArgs false
set_option linter.unusedVariables false
set_option linter.unusedSimpArgs false
set_option maxRecDepth 100000
open Go.RowKit

structure Fnd where
  bk : Int
  pg : Int
  torn : Bool
  te : Int
  ep : Int
  pl : Int
  sq : Int
  kd : Int
  cp : Bool
  dt : ByteArray
def noF : Fnd := ⟨0, 0, false, 0, 0, 0, 0, 0, false, ⟨#[]⟩⟩
def fndC (f : Fnd) : Array Value := #[.int .i64 f.bk, .int .i64 f.pg, .bool f.torn, .int .i64 f.te, .int .i64 f.ep, .int .i64 f.pl, .int .i64 f.sq, .int .i64 f.kd, .bool f.cp, .string f.dt]
def fndsL (L : List Fnd) : List Value := L.flatMap fun f => (fndC f).toList
theorem fndsL_snoc (L : List Fnd) (f : Fnd) : fndsL (L ++ [f]) = fndsL L ++ (fndC f).toList := by simp [fndsL]
theorem fndsL_len (L : List Fnd) : (fndsL L).length = L.length * 10 := by
  unfold fndsL
  induction L with
  | nil => rfl
  | cons c r ih => rw [List.flatMap_cons, List.length_append, ih, List.length_cons]; simp [fndC]; omega
theorem fndsL_at : ∀ (L : List Fnd) (j i : Nat), i < 10 → j < L.length → (fndsL L)[j * 10 + i]? = (fndC (L.getD j noF)).toList[i]?
  | [], j, i, _, h => by simp at h
  | c :: r, 0, i, hi, _ => by
    show ((fndC c).toList ++ fndsL r)[0 * 10 + i]? = _
    rw [Nat.zero_mul, Nat.zero_add, List.getElem?_append_left (by show i < 10; exact hi)]
    rfl
  | c :: r, j + 1, i, hi, h => by
    show ((fndC c).toList ++ fndsL r)[(j + 1) * 10 + i]? = _
    have hl : (fndC c).toList.length = 10 := rfl
    rw [List.getElem?_append_right (by omega), hl, show (j + 1) * 10 + i - 10 = j * 10 + i by omega, fndsL_at r j i hi (by simpa using h)]
    simp

/-- A slice that reads as these. -/
def RowF (w : World) (v : Value) (L : List Fnd) : Prop := ∃ ao cap, v = .slice ao L.length cap ∧ ∀ i, i < L.length → ∃ b off, ao = some ⟨b, off, none⟩ ∧ w.rangeAt b (off + i * 10) (fndC (L.getD i noF)).toList
theorem RowF.kept {w w' : World} {v : Value} {L : List Fnd} {r : Option Nat} (h : RowF w v L) (hg : w.grownBy w' r) (hne : ∀ k, v.ownBlock = some k → some k ≠ r) : RowF w' v L := by
  obtain ⟨ao, cap, rfl, hc⟩ := h
  refine ⟨ao, cap, rfl, fun i hi => ?_⟩
  obtain ⟨b, off, rfl, hr⟩ := hc i hi
  exact ⟨b, off, rfl, fun j u hj => hg.cell (hr j u hj) (hne b rfl)⟩
theorem RowF.ext {w w' : World} {v : Value} {L : List Fnd} (h : RowF w v L) (hg : w.grownBy w' none) : RowF w' v L := h.kept hg (by simp)
theorem RowF.owns {w : World} {B : Nat} {T : TypeId} {v : Value} {L : List Fnd} (h : w.ownsRow B T 10 v L.length (fndsL L)) : RowF w v L := by
  rcases h.2 with ⟨rfl, h0⟩ | ⟨g, cap, cur, rfl, _⟩
  · exact ⟨none, 0, by rw [h0], fun i hi => by omega⟩
  · refine ⟨_, cap, rfl, fun i hi => ⟨g, 0, rfl, fun j u hj => ?_⟩⟩
    have hl : (fndC (L.getD i noF)).toList.length = 10 := rfl
    have hj10 : j < 10 := by rw [← hl]; exact (List.getElem?_eq_some_iff.1 hj).1
    rw [← fndsL_at L i j hj10 hi] at hj
    have h1 := h.cells (g := g) rfl _ _ hj
    rw [addr_add, ← Nat.add_assoc] at h1
    exact h1

theorem Tryz.sizeFnd : (Tryz.prog.info? 97).map (·.size) = some 10 := by kernel_rfl
theorem Tryz.sizeTag17 : (Tryz.prog.info? 95).map (·.size) = some 6 := by kernel_rfl
theorem Tryz.infoFnd : (Tryz.prog.info? 97).map (fun i => (i.zero, i.size, i.bytes)) = some (some (.agg #[.int .i64 0, .int .i64 0, .bool false, .int .i64 0, .int .i64 0, .int .i64 0, .int .i64 0, .int .i64 0, .bool false, .string ⟨#[]⟩]), 10, 88) := by kernel_rfl
def tagC17 (f : Fnd) : Array Value := #[.int .i64 f.te, .int .i64 f.ep, .int .i64 f.pl, .int .i64 f.sq, .int .i64 f.kd, .bool f.cp]
section
variable {ops : Array Oper} {rest : List Oper} {o : Oper} {a : Act} {w : World} {Q : Exit → Act → World → Prop}
theorem fnd_load (hwt : Region.wanted o (yielded ops a.tmps) = true) (x : Operand) (ho : o.op = .load 97 x) {b off : Nat} (hx : a.eval x = .pointer (some ⟨b, off, none⟩)) {f : Fnd} (hr : w.rangeAt b off (fndC f).toList)
    (h : wpList Tryz.prog ops Q rest (a.put o.dst (.agg (fndC f))) w) : wpList Tryz.prog ops Q (o :: rest) a w :=
  wpList_want hwt fun K hK => wp_load_mid _ x ho b off hx _ _ hr Tryz.underlying97 rfl (by rw [Tryz.sizeFnd]; rfl) (hK _ _ (by simpa using h))
theorem fnd_load_lit (hwt : Region.wanted o (yielded ops a.tmps) = true) (x : Operand) (ho : o.op = .load 97 x) {b off : Nat} (hx : a.eval x = .pointer (some ⟨b, off, none⟩)) {f : Fnd} (hr : w.rangeAt b off (fndC f).toList)
    (h : wpList Tryz.prog ops Q rest (a.put o.dst (.agg #[.int .i64 f.bk, .int .i64 f.pg, .bool f.torn, .int .i64 f.te, .int .i64 f.ep, .int .i64 f.pl, .int .i64 f.sq, .int .i64 f.kd, .bool f.cp, .string f.dt])) w) : wpList Tryz.prog ops Q (o :: rest) a w := fnd_load hwt x ho hx hr h
theorem fnd_store (x y : Operand) (ho : o.op = .store 97 x y) {g : Nat} (hx : a.eval x = .pointer (some ⟨g, 0, none⟩)) {f : Fnd} (hy : a.eval y = .agg (fndC f)) {old : Array Value} (hg : Blk w g 97 old) (hold : old.size = 10) (hwt : Region.wanted o (yielded ops a.tmps) = true)
    (h : ∀ w', Blk w' g 97 (fndC f) → w.grownBy w' (some g) → w'.heap.size = w.heap.size → wpList Tryz.prog ops Q rest (a.put o.dst undef) w') : wpList Tryz.prog ops Q (o :: rest) a w :=
  wpList_store_part hwt _ x y ho g 0 10 _ hx hy _ old _ hg rfl Tryz.sizeFnd (by omega) (by simp [fndC, Value.oneCell']) (by
    have h1 : (fndC f).toList.length = 10 := rfl
    rw [h1, List.drop_of_length_le (by simp; omega)]
    simp) h
theorem tag_load17 (hwt : Region.wanted o (yielded ops a.tmps) = true) (x : Operand) (ho : o.op = .load 95 x) {g : Nat} (hx : a.eval x = .pointer (some ⟨g, 3, none⟩)) {f : Fnd} (hg : Blk w g 97 (fndC f))
    (h : wpList Tryz.prog ops Q rest (a.put o.dst (.agg (tagC17 f))) w) : wpList Tryz.prog ops Q (o :: rest) a w :=
  wpList_load_part hwt _ x ho g 3 6 hx _ _ _ _ _ hg (show (fndC f).extract 3 (3 + 6) = tagC17 f from rfl) rfl Tryz.underlying95 rfl Tryz.sizeTag17 h
end
theorem Blk.range17 {w : World} {g : Nat} {t : TypeId} {f : Fnd} (h : Blk w g t (fndC f)) : w.rangeAt g 0 (fndC f).toList := by
  have := World.rangeAt_of_block h 0 10
  exact this
theorem g17_new {w w1 w2 : World} {g : Nat} (h : w.grownBy w1 none) (h2 : w1.grownBy w2 (some g)) (hg : w.heap.size ≤ g) : w.grownBy w2 none :=
  ⟨h2.os.trans h.os, h2.tape.trans h.tape, h2.output.trans h.output, Nat.le_trans h.size h2.size, fun k hk hne => (h2.block k (Nat.lt_of_lt_of_le hk h.size) (fun e => by injection e with e; omega)).trans (h.block k hk hne)⟩
/-- A page's cells in a block of its own. -/
structure FCells (w : World) (g : Nat) (f : Fnd) : Prop where
  blk : Blk w g 97 (fndC f)
  bk : w.cell? ⟨g, 0, none⟩ = some (.int .i64 f.bk)
  pg : w.cell? ⟨g, 1, none⟩ = some (.int .i64 f.pg)
  torn : w.cell? ⟨g, 2, none⟩ = some (.bool f.torn)
  te : w.cell? ⟨g, 3, none⟩ = some (.int .i64 f.te)
  ep : w.cell? ⟨g, 4, none⟩ = some (.int .i64 f.ep)
  pl : w.cell? ⟨g, 5, none⟩ = some (.int .i64 f.pl)
  sq : w.cell? ⟨g, 6, none⟩ = some (.int .i64 f.sq)
theorem FCells.of {w : World} {g : Nat} {f : Fnd} (h : Blk w g 97 (fndC f)) : FCells w g f := ⟨h, h.cell 0, h.cell 1, h.cell 2, h.cell 3, h.cell 4, h.cell 5, h.cell 6⟩

/-- Is a page a tenant's? -/
def mineF (tn ep : Int) (f : Fnd) : Bool := !f.torn && (f.te == tn && f.ep == ep)
end Go.Proofs.YtfibpgfjlmlpaaaGreatDoor

/-
  Atomic numbers; nothing but one block is turned.
-/
namespace Go.Proofs.YtfibpgfjlmlpaaaGreatDoor
set_option linter.unusedVariables false
set_option linter.unusedSimpArgs false
set_option linter.unusedVariables false
set_option linter.unusedSimpArgs false
set_option maxRecDepth 100000
open Go.RowKit

/-- Nothing but block b is turned. -/
theorem gb_refl (w : World) (r : Option Nat) : w.grownBy w r := ⟨rfl, rfl, rfl, Nat.le_refl _, fun _ _ _ => rfl⟩
theorem gb_set {w w' : World} {b : Nat} (h : w.grownBy w' (some b)) (o : Nat) (v : Value) : w.grownBy (w'.setCell ⟨b, o, none⟩ v) (some b) :=
  ⟨h.os, h.tape, h.output, by have := h.size; simpa [World.setCell] using this, fun k hk hne => (Below.heap_setCell w' ⟨b, o, none⟩ v k (fun e => hne (by simp [e]))).trans (h.block k hk hne)⟩
theorem gb_drew {w w' : World} {r : Option Nat} (h : w.grownBy w' r) : w.grownBy w'.drew r := ⟨h.os, h.tape, h.output, h.size, h.block⟩
theorem gb_trans {w w1 w2 : World} {r : Option Nat} (h : w.grownBy w1 r) (h2 : w1.grownBy w2 r) : w.grownBy w2 r :=
  ⟨h2.os.trans h.os, h2.tape.trans h.tape, h2.output.trans h.output, Nat.le_trans h.size h2.size, fun k hk hne => (h2.block k (Nat.lt_of_lt_of_le hk h.size) hne).trans (h.block k hk hne)⟩
theorem ne_off {b o p : Nat} (h : o ≠ p) : (⟨b, o, none⟩ : Addr) ≠ ⟨b, p, none⟩ := fun e => h (by simpa using congrArg Addr.off e)

theorem load64 (b o : Nat) (x : Int) (w : World) (h : w.cell? ⟨b, o, none⟩ = some (.int .i64 x)) :
    Calls Tryz.prog 53 #[.pointer (some ⟨b, o, none⟩)] w fun e w' => e = .returned (.int .i64 x) ∧ w = w' := by
  have hl := run_call_load (P := Tryz.prog) Tryz.func86 (by kernel_rfl) (by kernel_rfl) (by kernel_rfl) .i64 (by kernel_rfl) h
  go_enter Tryz.func53, Tryz.ntmps53
  go_wp2
  go_ret
  exact ⟨rfl, rfl⟩

theorem store64 (b o : Nat) (x : Int) (u : Value) (w : World) (h : w.cell? ⟨b, o, none⟩ = some u) (f : w.frozen? ⟨b, o, none⟩ = false) :
    Calls Tryz.prog 58 #[.pointer (some ⟨b, o, none⟩), .int .i64 x] w fun e w' => e = .returned (.tuple #[]) ∧ w.setCell ⟨b, o, none⟩ (.int .i64 x) = w' := by
  have hl := run_call_store (P := Tryz.prog) (k := .i64) (y := x) Tryz.func89 (by kernel_rfl) (by kernel_rfl) (by kernel_rfl) (by kernel_rfl) h f
  go_enter Tryz.func58, Tryz.ntmps58
  go_wp2
  go_end0
  exact ⟨rfl, rfl⟩

theorem add64 (b o : Nat) (x : Int) (w : World) (h : w.cell? ⟨b, o, none⟩ = some (.int .i64 x)) (f : w.frozen? ⟨b, o, none⟩ = false) (h0 : 0 ≤ x) (h1 : x < 4611686018427387904) :
    Calls Tryz.prog 200 #[.pointer (some ⟨b, o, none⟩), .int .i64 1] w fun e w' => e = .returned (.int .i64 (x + 1)) ∧ w.setCell ⟨b, o, none⟩ (.int .i64 (x + 1)) = w' := by
  have hl := run_call_add (P := Tryz.prog) (x := x) (y := 1) (s := x + 1) Tryz.func214 (by kernel_rfl) (by kernel_rfl) (by kernel_rfl) .i64 (by kernel_rfl) h f (by simp [go_sem, IntWalk.i64_in (x + 1) (by omega)])
  go_enter Tryz.func200, Tryz.ntmps200
  go_wp2
  go_ret
  exact ⟨rfl, rfl⟩

theorem b32_any (x : Bool) (w : World) :
    Calls Tryz.prog 91 #[.bool x] w fun e w' => e = .returned (.int .u32 (if x then 1 else 0)) ∧ w = w' := by
  cases x
  all_goals
    go_enter Tryz.func91, Tryz.ntmps91
    go_wp2
    go_ret
    exact ⟨rfl, rfl⟩

theorem loadB (b o : Nat) (x : Bool) (w : World) (h : w.cell? ⟨b, o, none⟩ = some (.int .u32 (if x then 1 else 0))) :
    Calls Tryz.prog 60 #[.pointer (some ⟨b, o, none⟩)] w fun e w' => e = .returned (.bool x) ∧ w = w' := by
  have hl := run_call_load (P := Tryz.prog) Tryz.func92 (by kernel_rfl) (by kernel_rfl) (by kernel_rfl) .u32 (by kernel_rfl) h
  cases x
  all_goals
    go_enter Tryz.func60, Tryz.ntmps60
    go_wp2
    go_ret
    exact ⟨rfl, rfl⟩

theorem storeB (b o : Nat) (x : Bool) (u : Value) (w : World) (h : w.cell? ⟨b, o, none⟩ = some u) (f : w.frozen? ⟨b, o, none⟩ = false) :
    Calls Tryz.prog 59 #[.pointer (some ⟨b, o, none⟩), .bool x] w fun e w' => e = .returned (.tuple #[]) ∧ (w.setCell ⟨b, o, none⟩ (.int .u32 (if x then 1 else 0))).drew = w' := by
  have hl := run_call_store (P := Tryz.prog) (w := w.drew) (k := .u32) (y := if x then 1 else 0) Tryz.func90 (by kernel_rfl) (by kernel_rfl) (by kernel_rfl) (by kernel_rfl) h f
  cases x
  all_goals
    simp only [if_true, if_false, Bool.false_eq_true] at hl
    go_enter Tryz.func59, Tryz.ntmps59
    go_region_calls
    all_goals
      go_wp2
      go_end0
      exact ⟨rfl, rfl⟩

end Go.Proofs.YtfibpgfjlmlpaaaGreatDoor

/-
  Package draws: what stands in memory; Next, Ops, Faults; the document's Next.
-/
namespace Go.Proofs.YtfibpgfjlmlpaaaGreatDoor
set_option linter.unusedVariables false
set_option linter.unusedSimpArgs false
set_option linter.unusedVariables false
set_option linter.unusedSimpArgs false
set_option maxRecDepth 100000
open Go.RowKit

/-- Draws that stand in block b: whose faults (rows V, read as zs), how many counted, how many failed. -/
structure DrAt (w : World) (b : Nat) (V : Nat → Value) (zs : Nat → List Int) (N M : Nat → Int) : Prop where
  row : ∀ j, j < 4 → w.cell? ⟨b, j, none⟩ = some (V j)
  ops : ∀ j, j < 4 → w.cell? ⟨b, 4 + j, none⟩ = some (.int .i64 (N j))
  bad : ∀ j, j < 4 → w.cell? ⟨b, 8 + j, none⟩ = some (.int .i64 (M j))
  free : ∀ o, w.frozen? ⟨b, o, none⟩ = false
  ints : ∀ j, j < 4 → Ints w (V j) (zs j)
  apart : ∀ j, j < 4 → ∀ k, (V j).ownBlock = some k → k ≠ b


theorem DrAt.lt {w : World} {b : Nat} {V : Nat → Value} {zs : Nat → List Int} {N M : Nat → Int} (h : DrAt w b V zs N M) : b < w.heap.size := World.block_lt_of_cell? w _ (h.row 0 (by omega))
theorem DrAt.other {w w' : World} {b : Nat} {V : Nat → Value} {zs : Nat → List Int} {N M : Nat → Int} {r : Option Nat} (h : DrAt w b V zs N M) (hg : w.grownBy w' r) (hr : some b ≠ r) (hv : ∀ j, j < 4 → ∀ k, (V j).ownBlock = some k → some k ≠ r) : DrAt w' b V zs N M := by
  have e : ∀ o, w'.cell? ⟨b, o, none⟩ = w.cell? ⟨b, o, none⟩ := fun o => World.cell?_of_block (hg.block b h.lt hr)
  exact ⟨fun j hj => (e j).trans (h.row j hj), fun j hj => (e _).trans (h.ops j hj), fun j hj => (e _).trans (h.bad j hj), fun o => (World.frozen?_of_block (hg.block b h.lt hr)).trans (h.free o), fun j hj => (h.ints j hj).kept hg (hv j hj), h.apart⟩

theorem Ints.setOther {w : World} {v : Value} {xs : List Int} {b o : Nat} {u : Value} (h : Ints w v xs) (hv : ∀ k, v.ownBlock = some k → k ≠ b) : Ints (w.setCell ⟨b, o, none⟩ u) v xs :=
  h.kept (gb_set (gb_refl w (some b)) o u) (fun k hk e => hv k hk (by simpa using e))
def upd (N : Nat → Int) (j : Nat) (x : Int) : Nat → Int := fun i => if i = j then x else N i
theorem DrAt.setOps {w : World} {b : Nat} {V : Nat → Value} {zs : Nat → List Int} {N M : Nat → Int} (h : DrAt w b V zs N M) {j : Nat} (hj : j < 4) (x : Int) : DrAt (w.setCell ⟨b, 4 + j, none⟩ (.int .i64 x)) b V zs (upd N j x) M := by
  refine ⟨fun i hi => (World.cell?_setCell_other _ _ _ _ (ne_off (by omega))).trans (h.row i hi), fun i hi => ?_, fun i hi => (World.cell?_setCell_other _ _ _ _ (ne_off (by omega))).trans (h.bad i hi), fun o => by simpa using h.free o, fun i hi => (h.ints i hi).setOther (h.apart i hi), h.apart⟩
  unfold upd
  by_cases e : i = j
  · subst e; rw [if_pos rfl]; exact World.cell?_setCell_same _ _ _ (h.ops i hi)
  · rw [if_neg e]; exact (World.cell?_setCell_other _ _ _ _ (ne_off (by omega))).trans (h.ops i hi)
theorem DrAt.setBad {w : World} {b : Nat} {V : Nat → Value} {zs : Nat → List Int} {N M : Nat → Int} (h : DrAt w b V zs N M) {j : Nat} (hj : j < 4) (x : Int) : DrAt (w.setCell ⟨b, 8 + j, none⟩ (.int .i64 x)) b V zs N (upd M j x) := by
  refine ⟨fun i hi => (World.cell?_setCell_other _ _ _ _ (ne_off (by omega))).trans (h.row i hi), fun i hi => (World.cell?_setCell_other _ _ _ _ (ne_off (by omega))).trans (h.ops i hi), fun i hi => ?_, fun o => by simpa using h.free o, fun i hi => (h.ints i hi).setOther (h.apart i hi), h.apart⟩
  unfold upd
  by_cases e : i = j
  · subst e; rw [if_pos rfl]; exact World.cell?_setCell_same _ _ _ (h.bad i hi)
  · rw [if_neg e]; exact (World.cell?_setCell_other _ _ _ _ (ne_off (by omega))).trans (h.bad i hi)
theorem DrAt.drew {w : World} {b : Nat} {V : Nat → Value} {zs : Nat → List Int} {N M : Nat → Int} (h : DrAt w b V zs N M) : DrAt w.drew b V zs N M := h.other (gb_drew (gb_refl w none)) (by simp) (fun _ _ _ _ => by simp)
theorem upd_same (N : Nat → Int) (j : Nat) : upd N j (N j) = N := by funext i; unfold upd; split <;> simp_all

/-- Whether operations of his are counted. -/
theorem counts_is (b : Nat) (n : Int) (w : World) :
    Calls Tryz.prog 52 #[.pointer (some ⟨b, 0, none⟩), .int .i64 n] w fun e w' => e = .returned (.bool (decide (0 ≤ n ∧ n < 4))) ∧ w = w' := by
  have part : n < 0 ∨ (0 ≤ n ∧ n < 4) ∨ (0 ≤ n ∧ 4 ≤ n) := by omega
  rcases part with h | ⟨h, h2⟩ | ⟨h, h2⟩
  all_goals
    go_enter Tryz.func52, Tryz.ntmps52
    go_wp2
    go_ret
    exact ⟨by simp; omega, rfl⟩
theorem counts_nil (n : Int) (w : World) :
    Calls Tryz.prog 52 #[.pointer none, .int .i64 n] w fun e w' => e = .returned (.bool false) ∧ w = w' := by
  go_enter Tryz.func52, Tryz.ntmps52
  go_wp2
  go_ret
  exact ⟨rfl, rfl⟩

theorem faults_none (p : Option Addr) (n : Int) (w : World) (h : p = none ∨ (∃ b, p = some ⟨b, 0, none⟩) ∧ ¬ (0 ≤ n ∧ n < 4)) :
    Calls Tryz.prog 20 #[.pointer p, .int .i64 n] w fun e w' => e = .returned (.int .i64 0) ∧ w = w' := by
  rcases h with rfl | ⟨⟨b, rfl⟩, h⟩
  · go_enter Tryz.func20, Tryz.ntmps20
    go_wp2_with (go_at_call 52; refine (counts_nil _ _).mono ?_; rintro e w' ⟨rfl, rfl⟩)
    go_ret
    exact ⟨rfl, rfl⟩
  · have C := counts_is b n w
    rw [decide_eq_false h] at C
    clear h
    go_enter Tryz.func20, Tryz.ntmps20
    go_wp2_with (go_at_call 52; refine C.mono ?_; rintro e w' ⟨rfl, rfl⟩)
    go_ret
    exact ⟨rfl, rfl⟩
theorem next_none (p : Option Addr) (n : Int) (w : World) (h : p = none ∨ (∃ b, p = some ⟨b, 0, none⟩) ∧ ¬ (0 ≤ n ∧ n < 4)) :
    Calls Tryz.prog 172 #[.pointer p, .int .i64 n] w fun e w' => e = .returned (.bool false) ∧ w = w' := by
  rcases h with rfl | ⟨⟨b, rfl⟩, h⟩
  · go_enter Tryz.func172, Tryz.ntmps172
    go_wp2_with (go_at_call 52; refine (counts_nil _ _).mono ?_; rintro e w' ⟨rfl, rfl⟩)
    go_ret
    exact ⟨rfl, rfl⟩
  · have C := counts_is b n w
    rw [decide_eq_false h] at C
    clear h
    go_enter Tryz.func172, Tryz.ntmps172
    go_wp2_with (go_at_call 52; refine C.mono ?_; rintro e w' ⟨rfl, rfl⟩)
    go_ret
    exact ⟨rfl, rfl⟩

theorem faults_is (b j : Nat) (V : Nat → Value) (zs : Nat → List Int) (N M : Nat → Int) (w : World) (h : DrAt w b V zs N M) (hj : j < 4) :
    Calls Tryz.prog 20 #[.pointer (some ⟨b, 0, none⟩), .int .i64 (j : Int)] w fun e w' => e = .returned (.int .i64 (M j)) ∧ w = w' := by
  have C := counts_is b j w
  rw [decide_eq_true (show 0 ≤ (j : Int) ∧ (j : Int) < 4 by omega)] at C
  have L := load64 b (8 + j) (M j) w (h.bad j hj)
  generalize M j = x at *
  clear h
  have h4 : j = 0 ∨ j = 1 ∨ j = 2 ∨ j = 3 := by omega
  rcases h4 with rfl | rfl | rfl | rfl
  all_goals
    go_enter Tryz.func20, Tryz.ntmps20
    go_wp2_with (first
      | (go_at_call 52; refine C.mono ?_; rintro e w' ⟨rfl, rfl⟩)
      | (go_at_call 53; refine L.mono ?_; rintro e w' ⟨rfl, rfl⟩))
    go_ret
    exact ⟨rfl, rfl⟩

/-- A tenant's next operation. -/
def hitB (zs : Nat → List Int) (N : Nat → Int) (j : Nat) : Bool := decide (N j + 1 ∈ zs j)
def nextM (zs : Nat → List Int) (N M : Nat → Int) (j : Nat) : Nat → Int := upd M j (if hitB zs N j then M j + 1 else M j)
def Nexts (b : Nat) (V : Nat → Value) (zs : Nat → List Int) (N M : Nat → Int) (j : Nat) (w : World) (e : Ending) (w' : World) : Prop :=
  e = .returned (.bool (hitB zs N j)) ∧ DrAt w' b V zs (upd N j (N j + 1)) (nextM zs N M j) ∧ w.grownBy w' (some b)

set_option maxRecDepth 100000 in
set_option maxHeartbeats 800000 in
theorem next_is (b j : Nat) (V : Nat → Value) (zs : Nat → List Int) (N M : Nat → Int) (w : World) (h : DrAt w b V zs N M) (hj : j < 4) (h0 : 0 ≤ N j) (h1 : N j < 4611686018427387904) (h2 : 0 ≤ M j) (h3 : M j < 4611686018427387904) (hm : (zs j).length ≤ 9223372036854775807) :
    Calls Tryz.prog 172 #[.pointer (some ⟨b, 0, none⟩), .int .i64 (j : Int)] w (Nexts b V zs N M j w) := by
  have C := counts_is b j w
  rw [decide_eq_true (show 0 ≤ (j : Int) ∧ (j : Int) < 4 by omega)] at C
  have A := add64 b (4 + j) (N j) w (h.ops j hj) (h.free _) h0 (by omega)
  have D1 := h.setOps hj (N j + 1)
  have g1 := gb_set (gb_refl w (some b)) (4 + j) (.int .i64 (N j + 1))
  obtain ⟨w1, hw1⟩ : ∃ w1, w.setCell ⟨b, 4 + j, none⟩ (.int .i64 (N j + 1)) = w1 := ⟨_, rfl⟩
  rw [hw1] at A D1 g1
  have K := contains_any (V j) (zs j) (N j + 1) w1 (D1.ints j hj) hm
  have hw : IntKind.i64.wrap (N j + 1) = N j + 1 := IntWalk.i64_in _ ⟨by omega, by omega⟩
  have r1 := D1.row j hj
  have B := add64 b (8 + j) (M j) w1 (D1.bad j hj) (D1.free _) h2 (by omega)
  have D2 := D1.setBad hj (M j + 1)
  have g2 := gb_set g1 (8 + j) (.int .i64 (M j + 1))
  obtain ⟨ao, cp, bb, oo, hv, _⟩ := (D1.ints j hj).form
  rw [hv] at K r1
  unfold Nexts nextM
  rw [show (decide (N j + 1 ∈ zs j)) = hitB zs N j from rfl] at K
  have H1 := Lib.hid (And.intro D1 (And.intro D2 (And.intro g1 g2)))
  generalize hx : N j + 1 = x at *
  generalize hy : M j + 1 = y at *
  generalize hh : hitB zs N j = hit at *
  have h4 : j = 0 ∨ j = 1 ∨ j = 2 ∨ j = 3 := by omega
  clear h D1 D2 g1 g2 h0 h1 h2 h3 hw1 hv hh hx hy hm
  cases hit
  · rcases h4 with rfl | rfl | rfl | rfl
    all_goals
      go_enter Tryz.func172, Tryz.ntmps172
      go_wp2_with (first
        | (go_at_call 52; refine C.mono ?_; rintro e w' ⟨rfl, rfl⟩)
        | (go_at_call 200; refine A.mono ?_; rintro e w' ⟨rfl, rfl⟩)
        | (go_at_call 202; refine K.mono ?_; rintro e w' ⟨rfl, rfl⟩))
      go_ret
      exact ⟨rfl, by simpa [upd_same] using H1.out.1, H1.out.2.2.1⟩
  · rcases h4 with rfl | rfl | rfl | rfl
    all_goals
      have hfl := Lib.hid True.intro
      go_enter Tryz.func172, Tryz.ntmps172
      go_wp2_with (first
        | (go_at_call 52; refine C.mono ?_; rintro e w' ⟨rfl, rfl⟩)
        | (go_at_call 200; clear hfl; refine A.mono ?_; rintro e w' ⟨rfl, rfl⟩)
        | (go_at_call 202; refine K.mono ?_; rintro e w' ⟨rfl, rfl⟩)
        | (go_at_call 200; refine B.mono ?_; rintro e w' ⟨rfl, rfl⟩))
      go_ret
      exact ⟨rfl, H1.out.2.1, H1.out.2.2.2⟩

end Go.Proofs.YtfibpgfjlmlpaaaGreatDoor
