/-
  Texts put together: Row Rec QA Line BY.
-/
import Derived.Test.YtdadgcfpcneaiaaGreatDoorRows
import Derived.WalkKit
import Derived.ProofKit
import Derived.OpenShut
import Derived.Deep.Slices
import Derived.Deep.Fields
import Derived.ArgAppend
import Derived.OrdersHeld
import Derived.BigQuiet
import Derived.Deep.QuietTactic
import Derived.WalkSpells
import Derived.WalkLawsBesides
import Derived.Lib.Hide
import Derived.Laws.AppendOwnNone
/-
  From what the rows hand over to what the walks take: slices of integers that came in.
-/
namespace Go.Proofs.YtdadgcfpcneaiaaGreatDoor
set_option linter.unusedVariables false
set_option linter.unusedSimpArgs false
set_option linter.unusedVariables false
set_option linter.unusedSimpArgs false
set_option maxRecDepth 100000
open Go.RowKit

theorem addr_add (b off j : Nat) : (⟨b, off, none⟩ : Addr).add j = ⟨b, off + j, none⟩ := by
  unfold Addr.add
  split <;> simp_all

theorem slice_good {P : Program} {w : World} {base : Nat} {t e : TypeId} {x : Addr} {len cap : Nat} (ht : P.underlying t = some (.slice e)) (h : Value.okWide P w .any base t (.slice (some x) len cap)) : x.spot = none ∧ x.block < w.heap.size := by
  simp only [Value.okWide, ht, Cell.okWide, Cell.ok] at h
  obtain ⟨_, _, _, h1, row, cells, h2, _⟩ := h
  refine ⟨h1, ?_⟩
  unfold World.shape? at h2
  split at h2
  · rename_i hb
    exact (Array.getElem?_eq_some_iff.1 hb).1
  · cases h2

/-- What a slice of integers that came in is. -/
def IsRow (k : IntKind) (w : World) (a : Option Addr) (len cap : Nat) (zs : List Int) : Prop :=
  (a = none ∧ len = 0 ∧ cap = 0 ∧ zs = []) ∨
  ∃ x, a = some x ∧ len ≤ cap ∧ cap ≤ maxLen ∧ zs.length = cap ∧ (∀ i, i < zs.length → w.cell? (x.add i) = some (.int k (zs.getD i 0))) ∧ ∀ n ∈ zs, (Lit.int k n).wf = true

open Go.ChangeShapes Go.WideShapes in
theorem row_of {H : Type} {enc : TypeId × Value → H} {P : Program} {W : World} {base : Nat} {held : Bool} {t e : TypeId} {k : IntKind} {a : Option Addr} {len cap : Nat} {d : DataW H} {p : List MemPlace} (ht : P.underlying t = some (.slice e)) (he : P.underlying e = some (.int k)) (hc : P.cellsOf e = 1)
    (h : DataW.Trod enc P W base (fun _ => true) held t (.slice a len cap) d p) : ∃ zs, IsRow k W a len cap zs := by
  obtain ⟨fuel, hf⟩ := h
  rcases open_ints ht he hc hf with ⟨hcs, _⟩ | ⟨x, l, c, zs, hcs, _, hl, hm, hz, _, hcell, hwz⟩
  · simp [Value.cells] at hcs
    obtain ⟨rfl, rfl, rfl⟩ := hcs
    exact ⟨[], .inl ⟨rfl, rfl, rfl, rfl⟩⟩
  · simp [Value.cells] at hcs
    obtain ⟨rfl, rfl, rfl⟩ := hcs
    exact ⟨zs, .inr ⟨_, rfl, hl, hm, by simpa using hz, hcell, hwz⟩⟩

end Go.Proofs.YtdadgcfpcneaiaaGreatDoor

/-
  Slices of small structs that came in (fields of one cell each: integers, bools, strings): their cells.
-/
namespace Go.Proofs.YtdadgcfpcneaiaaGreatDoor
set_option linter.unusedVariables false
set_option linter.unusedSimpArgs false
set_option linter.unusedVariables false
set_option linter.unusedSimpArgs false
set_option maxRecDepth 100000
open Go.RowKit Go.ChangeShapes Go.WideShapes Go.Deep

/-- What a field may be: an integer of that kind; a bool (false); a string (true). -/
abbrev FK := IntKind ⊕ Bool
def FitsV : FK → Value → Prop
  | .inl k, v => ∃ n, v = .int k n ∧ (Lit.int k n).wf = true
  | .inr false, v => ∃ b, v = .bool b
  | .inr true, v => ∃ s : ByteArray, v = .string s ∧ s.size ≤ maxLen
def TypeFK (P : Program) (t : TypeId) : FK → Prop
  | .inl k => P.underlying t = some (.int k)
  | .inr false => P.underlying t = some .bool
  | .inr true => P.underlying t = some .string

/-- A slice of structs: nil, or its cells. -/
def IsRecs (ks : List FK) (w : World) (a : Option Addr) (len cap : Nat) : Prop :=
  (a = none ∧ len = 0 ∧ cap = 0) ∨
  ∃ x, a = some x ∧ len ≤ cap ∧ cap ≤ maxLen ∧ ∀ i, i < len → ∀ j k, ks[j]? = some k → ∃ v, w.cell? (x.add (i * ks.length + j)) = some v ∧ FitsV k v

section
variable {H : Type} {enc : TypeId × Value → H} {P : Program} {w : World} {base : Nat} {spare : Nat → Bool} {held : Bool}

theorem fits_of {t : TypeId} {k : FK} (hk : TypeFK P t k) {n : Nat} {v : Value} {y : DataW H × List MemPlace} (h : DataW.trod enc P w base spare held n t [v] = some y) : FitsV k v := by
  match k, hk with
  | .inl k, hk =>
    obtain ⟨m, h1, _, h2⟩ := DataW.trod_int hk h
    simp at h1
    exact ⟨m, h1, h2⟩
  | .inr false, hk =>
    obtain ⟨b, h1, _⟩ := DataW.trod_bool hk h
    simp at h1
    exact ⟨b, h1⟩
  | .inr true, hk =>
    obtain ⟨s, h1, _, h2⟩ := DataW.trod_string hk h
    simp at h1
    exact ⟨s, h1, h2⟩

theorem open_recs {t e : TypeId} {fs : Array Field} {ks : List FK} {a : Option Addr} {len cap : Nat} {fuel : Nat} {x : DataW H × List MemPlace} (ht : P.underlying t = some (.slice e)) (he : P.underlying e = some (.struct fs))
    (hone : oneCellFields P fs = true) (hC : P.cellsOf e = fs.size) (hl : ks.length = fs.size) (hks : ∀ (j : Nat) (k : FK), ks[j]? = some k → ∃ f : Field, fs[j]? = some f ∧ TypeFK P f.type k)
    (h : DataW.trod enc P w base spare held fuel t [.slice a len cap] = some x) : IsRecs ks w a len cap := by
  rcases open_slice ht h with ⟨h0, _⟩ | ⟨b, n, c, m, q, D, Pl, hcs, _, h1, h2, hm, _, hi⟩
  · simp at h0
    exact .inl h0
  · simp at hcs
    obtain ⟨rfl, rfl, rfl⟩ := hcs
    refine .inr ⟨b, rfl, h1, h2, fun i hin j k hj => ?_⟩
    have him : i < m := by rw [hm]; split <;> omega
    obtain ⟨cs, hc, hs⟩ := hi i him
    obtain ⟨f, hf, hk⟩ := hks j k hj
    obtain ⟨ho, h3⟩ := hone_of hone j f hf
    have hjl : j < fs.size := (Array.getElem?_eq_some_iff.1 hf).1
    obtain ⟨ys, q', _, _, hlen, hyl, hall⟩ := DataW.trod_struct he hs
    obtain ⟨_, hcl, hat⟩ := World.cells?_some hc
    have hfj := hall j f hf
    rw [ho, h3] at hfj
    have hjc : j < cs.length := by omega
    have hd : (cs.drop j).take 1 = [cs[j]] := by rw [List.drop_eq_getElem_cons hjc]; rfl
    rw [hd, List.getElem?_eq_getElem (by omega)] at hfj
    refine ⟨cs[j], ?_, fits_of hk hfj⟩
    have hcell := hat j (by omega)
    rw [Go.Deep.add_add] at hcell
    rw [hl, ← hC, hcell, List.getElem?_eq_getElem hjc]

/-- A struct by value whose fields are of one cell each. -/
theorem open_struct {r : Reach} {b0 : Nat} {t : TypeId} {fs : Array Field} {ks : List FK} {v : Value} {d : DataW H} {p : List MemPlace} (ht : P.underlying t = some (.struct fs)) (hone : oneCellFields P fs = true) (hC : P.cellsOf t = fs.size) (hl : ks.length = fs.size)
    (hks : ∀ (j : Nat) (k : FK), ks[j]? = some k → ∃ f : Field, fs[j]? = some f ∧ TypeFK P f.type k) (hv : Value.okWide P w r b0 t v) (h : DataW.Trod enc P w base spare held t v d p) :
    ∃ vs : List Value, v = .agg vs.toArray ∧ vs.length = ks.length ∧ ∀ (j : Nat) (k : FK), ks[j]? = some k → ∃ u, vs[j]? = some u ∧ FitsV k u := by
  obtain ⟨cs, rfl, hsz⟩ := okWide_struct ht hv
  obtain ⟨l⟩ := cs
  have hll : l.length = fs.size := by simpa using hsz.trans hC
  obtain ⟨fuel, hf⟩ := h
  obtain ⟨xs, n, _, hx, _, hlen, hg⟩ := DataW.trod_struct ht hf
  refine ⟨l, rfl, by omega, fun j k hj => ?_⟩
  obtain ⟨f, hfj, hk⟩ := hks j k hj
  obtain ⟨ho, h3⟩ := hone_of hone j f hfj
  have hjl : j < fs.size := (Array.getElem?_eq_some_iff.1 hfj).1
  have hgj := hg j f hfj
  have hjc : j < l.length := by omega
  have hd : (l.drop j).take 1 = [l[j]] := by rw [List.drop_eq_getElem_cons hjc]; rfl
  simp only [Value.cells, ho, h3] at hgj
  rw [hd, List.getElem?_eq_getElem (by omega)] at hgj
  exact ⟨l[j], List.getElem?_eq_getElem hjc, fits_of hk hgj⟩
end

theorem list1 {α : Type} {l : List α} (h : l.length = 1) : ∃ a, l = [a] := by match l, h with | [a], _ => exact ⟨a, rfl⟩
theorem list2 {α : Type} {l : List α} (h : l.length = 2) : ∃ a b, l = [a, b] := by match l, h with | [a, b], _ => exact ⟨a, b, rfl⟩
theorem list3 {α : Type} {l : List α} (h : l.length = 3) : ∃ a b c, l = [a, b, c] := by match l, h with | [a, b, c], _ => exact ⟨a, b, c, rfl⟩
theorem list4 {α : Type} {l : List α} (h : l.length = 4) : ∃ a b c d, l = [a, b, c, d] := by match l, h with | [a, b, c, d], _ => exact ⟨a, b, c, d, rfl⟩
theorem list5 {α : Type} {l : List α} (h : l.length = 5) : ∃ a b c d e, l = [a, b, c, d, e] := by match l, h with | [a, b, c, d, e], _ => exact ⟨a, b, c, d, e, rfl⟩
theorem list6 {α : Type} {l : List α} (h : l.length = 6) : ∃ a b c d e f, l = [a, b, c, d, e, f] := by match l, h with | [a, b, c, d, e, f], _ => exact ⟨a, b, c, d, e, f, rfl⟩
theorem list7 {α : Type} {l : List α} (h : l.length = 7) : ∃ a b c d e f g, l = [a, b, c, d, e, f, g] := by match l, h with | [a, b, c, d, e, f, g], _ => exact ⟨a, b, c, d, e, f, g, rfl⟩

end Go.Proofs.YtdadgcfpcneaiaaGreatDoor

/-
  A row of the call's own that is cut at its head and appended to ('q = q[1:]', 'q = append(q, x)').
-/
namespace Go.Proofs.YtdadgcfpcneaiaaGreatDoor
set_option linter.unusedVariables false
set_option linter.unusedSimpArgs false
set_option linter.unusedVariables false
set_option linter.unusedSimpArgs false
set_option maxRecDepth 100000
open Go.RowKit

/-- The slice v is n elements of the row that lies in a block of the call's own, at whatever offset. -/
def TailRow (w : World) (base : Nat) (e : TypeId) (size : Nat) (v : Value) (n : Nat) (xs : List Value) : Prop :=
  xs.length = n * size ∧
  ((v = .slice none 0 0 ∧ n = 0) ∨
   ∃ g off cap cur, v = .slice (some ⟨g, off, none⟩) n cap ∧ base ≤ g ∧ w.heap[g]? = some (.cells cur e (0, 0)) ∧ n ≤ cap ∧ cap ≤ maxLen ∧ off + cap * size ≤ cur.size ∧ (cur.toList.drop off).take (n * size) = xs)
section
variable {w w' : World} {base : Nat} {e : TypeId} {size : Nat} {v : Value} {n : Nat} {xs : List Value}
theorem TailRow.nil (w : World) (base : Nat) (e : TypeId) (size : Nat) : TailRow w base e size (.slice none 0 0) 0 [] := ⟨by simp, .inl ⟨rfl, rfl⟩⟩
theorem TailRow.of_owns (h : w.ownsRow base e size v n xs) : TailRow w base e size v n xs := by
  refine ⟨h.1, ?_⟩
  rcases h.2 with h2 | ⟨g, cap, cur, h1, h2, h3, h4, h5, h6, h7⟩
  · exact .inl h2
  · exact .inr ⟨g, 0, cap, cur, h1, h2, h3, h4, h5, by omega, by simpa using h7⟩
theorem TailRow.lt (h : TailRow w base e size v n xs) : ∀ k, v.ownBlock = some k → base ≤ k ∧ k < w.heap.size := by
  intro k hk
  rcases h.2 with ⟨rfl, _⟩ | ⟨g, off, cap, cur, rfl, h2, h3, _⟩
  · simp [Value.ownBlock] at hk
  · simp [Value.ownBlock] at hk
    subst hk
    exact ⟨h2, (Array.getElem?_eq_some_iff.1 h3).1⟩
theorem TailRow.kept {r : Option Nat} (h : TailRow w base e size v n xs) (hg : w.grownBy w' r) (hr : ∀ k, v.ownBlock = some k → some k ≠ r) : TailRow w' base e size v n xs := by
  refine ⟨h.1, ?_⟩
  rcases h.2 with h2 | ⟨g, off, cap, cur, rfl, h2, h3, h4⟩
  · exact .inl h2
  · exact .inr ⟨g, off, cap, cur, rfl, h2, (hg.block g (Array.getElem?_eq_some_iff.1 h3).1 (hr g rfl)).trans h3, h4⟩
theorem TailRow.le (h : TailRow w base e size v n xs) {base' : Nat} (hb : base' ≤ base) : TailRow w base' e size v n xs := by
  refine ⟨h.1, ?_⟩
  rcases h.2 with h2 | ⟨g, off, cap, cur, h1, h2, h3⟩
  · exact .inl h2
  · exact .inr ⟨g, off, cap, cur, h1, Nat.le_trans hb h2, h3⟩
/-- The shape: nil, or an address that is written out. -/
theorem TailRow.shape (h : TailRow w base e size v n xs) : (v = .slice none 0 0 ∧ n = 0) ∨ ∃ g off cap, v = .slice (some ⟨g, off, none⟩) n cap ∧ n ≤ cap ∧ cap ≤ maxLen ∧ g < w.heap.size ∧ base ≤ g ∧ ∀ j, j < n * size → w.cell? ⟨g, off + j, none⟩ = xs[j]? := by
  rcases h.2 with h2 | ⟨g, off, cap, cur, h1, h2, h3, h4, h5, h6, h7⟩
  · exact .inl h2
  · refine .inr ⟨g, off, cap, h1, h4, h5, (Array.getElem?_eq_some_iff.1 h3).1, h2, fun j hj => ?_⟩
    rw [cell_of_row w g (off + j) cur e (0, 0) h3, ← h7, List.getElem?_take, if_pos hj, List.getElem?_drop, Array.getElem?_toList]
/-- The head is cut off. -/
theorem TailRow.cut {g off cap : Nat} (h : TailRow w base e size (.slice (some ⟨g, off, none⟩) (n + 1) cap) (n + 1) xs) : TailRow w base e size (.slice (if cap = 1 then some ⟨g, off, none⟩ else some ⟨g, off + size, none⟩) n (cap - 1)) n (xs.drop size) := by
  have hl := h.1
  rcases h.2 with ⟨h2, _⟩ | ⟨g', off', cap', cur, h1, h2, h3, h4, h5, h6, h7⟩
  · cases h2
  · simp only [Value.slice.injEq, Option.some.injEq, Addr.mk.injEq, true_and, and_true] at h1
    obtain ⟨⟨rfl, rfl⟩, rfl⟩ := h1
    refine ⟨by rw [List.length_drop, hl, Nat.add_mul]; omega, .inr ?_⟩
    have hx : (cur.toList.drop (off + size)).take (n * size) = xs.drop size := by
      rw [← h7, List.drop_take, List.drop_drop, Nat.add_mul]
      congr 1
      omega
    by_cases hc : cap = 1
    · rw [if_pos hc]
      subst hc
      obtain rfl : n = 0 := by omega
      exact ⟨g, off, 0, cur, rfl, h2, h3, by omega, by omega, by omega, by simpa using hx⟩
    · rw [if_neg hc]
      have hm : (cap - 1) * size + size = cap * size := by
        obtain ⟨c, rfl⟩ : ∃ c, cap = c + 1 := ⟨cap - 1, by omega⟩
        rw [Nat.add_sub_cancel, Nat.add_mul]; omega
      exact ⟨g, off + size, cap - 1, cur, rfl, h2, h3, by omega, by omega, by omega, hx⟩
end

/-- Cells that are set in a block that is known whole. -/
theorem setCells_block (b : Nat) (e : TypeId) : ∀ (vs : List Value) (o : Nat) (w : World) (cur : Array Value), w.heap[b]? = some (.cells cur e (0, 0)) → o + vs.length ≤ cur.size →
    ∃ cur', (w.setCells b o vs).heap[b]? = some (.cells cur' e (0, 0)) ∧ cur'.size = cur.size ∧ ∀ j, cur'[j]? = if o ≤ j ∧ j < o + vs.length then vs[j - o]? else cur[j]?
  | [], o, w, cur, h, _ => ⟨cur, h, rfl, fun j => by rw [if_neg (by simp)]⟩
  | v :: r, o, w, cur, h, hl => by
    rw [List.length_cons] at hl
    have h1 := heap_setCell_same w b o cur e v h
    obtain ⟨cur', h2, h3, h4⟩ := setCells_block b e r (o + 1) _ _ h1 (by simp; omega)
    refine ⟨cur', h2, by simpa using h3, fun j => ?_⟩
    rw [h4 j, List.length_cons]
    by_cases e1 : o + 1 ≤ j ∧ j < o + 1 + r.length
    · rw [if_pos e1, if_pos (by omega), show j - o = (j - (o + 1)) + 1 by omega, List.getElem?_cons_succ]
    · rw [if_neg e1]
      by_cases e2 : j = o
      · subst e2
        rw [if_pos (by omega), Nat.sub_self, Array.getElem?_setIfInBounds_self_of_lt (by omega)]
        rfl
      · rw [if_neg (by omega), Array.getElem?_setIfInBounds_ne (by omega)]
theorem setCells_grown (b : Nat) : ∀ (vs : List Value) (o : Nat) (w : World), w.grownBy (w.setCells b o vs) (some b)
  | [], _, w => ⟨rfl, rfl, rfl, Nat.le_refl _, fun _ _ _ => rfl⟩
  | v :: r, o, w => by
    have h := setCells_grown b r (o + 1) (w.setCell ⟨b, o, none⟩ v)
    have h1 : w.grownBy (w.setCell ⟨b, o, none⟩ v) (some b) := ⟨rfl, rfl, rfl, by simp, fun k _ hne => heap_setCell_other w ⟨b, o, none⟩ k v (fun e => hne (by rw [e]))⟩
    exact ⟨h.os.trans h1.os, h.tape.trans h1.tape, h.output.trans h1.output, Nat.le_trans h1.size h.size, fun k hk hne => (h.block k (Nat.lt_of_lt_of_le hk h1.size) hne).trans (h1.block k hk hne)⟩

/-- One element more. -/
theorem append_tail {P : Program} {w : World} {ops : Array Oper} {rest : List Oper} {o : Oper} {a : Act} {Q : Exit → Act → World → Prop} (hg : o.guard = none) (s x : Operand) (t : TypeId)
    (hop : o.op = Op.call { callee := Callee.builtin Builtin.append, args := #[s, x], argTypes := #[t, t] })
    (base : Nat) (e : TypeId) (i : TypeInfo) (z : Value) (size bytes : Nat) (h1 : P.underlying t = some (.slice e)) (h2 : P.info? e = some i) (h3 : i.zero = some z) (h4 : i.size = size) (h5 : i.bytes = bytes) (h6 : z.cells.size = size) (h7 : 0 < size)
    {v : Value} {n : Nat} {xs : List Value} (hs : a.eval s = v) (hown : TailRow w base e size v n xs) (ad : Addr) (c : Nat) (news : List Value) (hx : a.eval x = .slice (some ad) 1 c) (hn : news.length = size) (hc : ∀ j u, news[j]? = some u → w.cell? (ad.add j) = some u)
    (h1c : ∀ u ∈ news, u.oneCell' = true) (b1 : n + 1 ≤ maxLen) (b2 : (n + 1) * bytes ≤ 140737488355328) (hbase : base ≤ w.heap.size)
    (h : ∀ v' w', TailRow w' base e size v' (n + 1) (xs ++ news) → w.grownBy w' v.ownBlock → (∀ k, v'.ownBlock = some k → v.ownBlock = some k ∨ w.heap.size ≤ k) → wpList P ops Q rest (a.put o.dst v') w') : wpList P ops Q (o :: rest) a w := by
  rcases hown.2 with ⟨rfl, rfl⟩ | ⟨g, off, cap, cur, rfl, q1, q2, q3, q4, q5, q6⟩
  · have hxs : xs = [] := List.eq_nil_of_length_eq_zero (by simpa using hown.1)
    subst hxs
    refine wpList_append_grows w hg s x t hop e i z size bytes h1 h2 h3 h4 h5 h6 h7 none 0 0 [] hs (fun _ => ⟨rfl, rfl⟩) (by simp) (fun b hb => by cases hb) ad 1 c news hx (by omega) hc h1c (by decide) b1 b2 (fun v' w' ho hgr => ?_)
    exact h v' w' (TailRow.le (.of_owns ho) hbase) hgr (fun k hk => .inr (ho.lt k hk).1)
  · have hsz := hown.1
    have holds : ∀ j u, xs[j]? = some u → w.cell? ⟨g, off + j, none⟩ = some u := fun j u hj => by
      have hjl : j < n * size := by rw [← hsz]; exact (List.getElem?_eq_some_iff.1 hj).1
      rw [cell_of_row w g (off + j) cur e (0, 0) q2, ← hj, ← q6, List.getElem?_take, if_pos hjl, List.getElem?_drop, Array.getElem?_toList]
    have hspare : n + 1 ≤ cap → off + n * size + news.length ≤ cur.size := fun hr => by
      have hm : (n + 1) * size ≤ cap * size := Nat.mul_le_mul_right _ hr
      rw [Nat.add_mul] at hm
      omega
    refine wpList_append_arg w hg s x t hop e i z size bytes h1 h2 h3 h4 h5 h6 h7 g off n cap xs hs hsz holds ad 1 c news hx (by omega) hc h1c (fun hr j hj => ?_) b1 b2 (fun hr => ?_) (fun hr v' w' ho hgr => ?_)
    · have hlt : off + n * size + j < cur.size := by have := hspare hr; omega
      refine ⟨?_, frozen_of_row w g _ cur e q2⟩
      rw [cell_of_row w g _ cur e (0, 0) q2, Array.getElem?_eq_getElem hlt]
      rfl
    · obtain ⟨cur', r1, r2, r3⟩ := setCells_block g e news (off + n * size) w cur q2 (hspare hr)
      refine h _ _ ⟨by rw [List.length_append, hsz, hn, Nat.add_mul]; omega, .inr ⟨g, off, cap, cur', rfl, q1, r1, hr, q4, by omega, ?_⟩⟩ (setCells_grown g news _ w) (fun k hk => .inl hk)
      refine List.ext_getElem? fun j => ?_
      rw [List.getElem?_take, List.getElem?_drop, Array.getElem?_toList, r3]
      have hm : (n + 1) * size = n * size + size := by rw [Nat.add_mul]; omega
      by_cases hj : j < n * size
      · rw [if_pos (by omega), if_neg (by omega), List.getElem?_append_left (by omega), ← q6, List.getElem?_take, if_pos hj, List.getElem?_drop, Array.getElem?_toList]
      · by_cases hj2 : j < (n + 1) * size
        · rw [if_pos hj2, if_pos (by omega), List.getElem?_append_right (by omega), hsz]
          congr 1
          omega
        · rw [if_neg hj2, List.getElem?_eq_none (by rw [List.length_append]; omega)]
    · exact h v' w' (TailRow.le (.of_owns ho) hbase) ⟨hgr.os, hgr.tape, hgr.output, hgr.size, fun k hk _ => hgr.block k hk (by simp)⟩ (fun k hk => .inr (ho.lt k hk).1)

end Go.Proofs.YtdadgcfpcneaiaaGreatDoor

/-
  A statement that draws its order, walked in ONE order: what only reads is taken as soon as it may come up (it yields the same in every later world), what acts is alone when it comes.
-/
namespace Go.Proofs.YtdadgcfpcneaiaaGreatDoor
set_option linter.unusedVariables false
set_option linter.unusedSimpArgs false
set_option linter.unusedVariables false
set_option linter.unusedSimpArgs false
set_option maxRecDepth 100000
open Go.RowKit

/-- Behind one operation: whatever K asks; no other way out. -/
def OnlyK (K : Act → World → Prop) : Exit → Act → World → Prop
  | .normal, a, w => K a w
  | _, _, _ => False
/-- Behind one operation: K; other ways out as Q has them. -/
def ElseQ (K : Act → World → Prop) (Q : Exit → Act → World → Prop) : Exit → Act → World → Prop
  | .normal, a, w => K a w
  | e, a, w => Q e a w

def lenCap : Callee → Bool
  | .builtin .len => true
  | .builtin .cap => true
  | .builtin .min => true
  | .builtin .max => true
  | _ => false
/-- What only reads: its kind. -/
def readerOp : Op → Bool
  | .move _ => true
  | .assign _ => true
  | .pick _ _ _ => true
  | .load _ _ => true
  | .binOp _ _ _ _ _ => true
  | .unOp _ _ _ => true
  | .convert _ _ _ => true
  | .slice _ _ _ _ _ => true
  | .fieldAddr _ _ _ => true
  | .field _ _ _ => true
  | .indexAddr _ _ _ => true
  | .index _ _ _ => true
  | .extract _ _ => true
  | .call c => lenCap c.callee
  | _ => false
/-- A nil check of a pointer that is none. -/
def nilGood (a : Act) : Op → Bool
  | .nilCheck x => match a.eval x with | .pointer (some _) => true | _ => false
  | _ => false

theorem value_of {s : Sem Value} {P : Program} {w w' : World} {n : Next} (hr : (do pure (Next.value (← s)) : Sem Next).run P w = .ok n w') : ∃ v, n = .value v := by
  rw [Sem.run_bind] at hr
  cases hs : s.run P w with
  | ok v w1 => rw [hs] at hr; simp [Sem.run_pure] at hr; exact ⟨v, hr.1.symm⟩
  | halt h w1 => rw [hs] at hr; simp at hr

theorem value_of' {s : Sem Value} {P : Program} {w w' : World} {n : Next} (hr : ((s.run P w).andThen fun a w' => Result.ok (Next.value a) w') = .ok n w') : ∃ v, n = .value v := by
  cases hs : s.run P w with
  | ok v w1 => rw [hs] at hr; simp at hr; exact ⟨v, hr.1.symm⟩
  | halt h w1 => rw [hs] at hr; simp at hr

theorem reader_value {a : Act} {o : Oper} (h : (readerOp o.op || nilGood a o.op) = true) {P : Program} {w w' : World} {n : Next} (hr : (execOp a.eval o).run P w = .ok n w') : ∃ v, n = .value v := by
  unfold execOp at hr
  cases ho : o.op with
  | nilCheck x =>
    rw [ho] at hr h
    simp only [readerOp, nilGood, Bool.false_or] at h
    split at h
    · rename_i ad hx
      simp only [hx, Sem.run_pure, Result.ok.injEq] at hr
      exact ⟨_, hr.1.symm⟩
    · cases h
  | call c =>
    rw [ho] at hr h
    simp only [readerOp, nilGood, Bool.or_false] at h
    unfold lenCap at h
    split at h
    · rename_i hc
      simp only [resolve, hc, Sem.run_bind, Sem.run_pure, Result.andThen_ok, invoke, builtin] at hr
      exact value_of' hr
    · rename_i hc
      simp only [resolve, hc, Sem.run_bind, Sem.run_pure, Result.andThen_ok, invoke, builtin] at hr
      exact value_of' hr
    · rename_i hc
      simp only [resolve, hc, Sem.run_bind, Sem.run_pure, Result.andThen_ok, invoke, builtin] at hr
      exact value_of' hr
    · rename_i hc
      simp only [resolve, hc, Sem.run_bind, Sem.run_pure, Result.andThen_ok, invoke, builtin] at hr
      exact value_of' hr
    · cases h
  | move x => rw [ho] at hr; simp [Sem.run_pure] at hr; exact ⟨_, hr.1.symm⟩
  | assign x => rw [ho] at hr; simp [Sem.run_pure] at hr; exact ⟨_, hr.1.symm⟩
  | pick c x y =>
    rw [ho] at hr
    simp only [Sem.run_bind] at hr
    cases hs : (asBool (a.eval c)).run P w with
    | ok b w1 => rw [hs] at hr; simp only [Result.andThen_ok, Sem.run_pure, Result.ok.injEq] at hr; exact ⟨_, hr.1.symm⟩
    | halt h w1 => rw [hs] at hr; simp at hr
  | load t x => rw [ho] at hr; exact value_of hr
  | binOp p t x y u => rw [ho] at hr; exact value_of hr
  | unOp p t x => rw [ho] at hr; exact value_of hr
  | convert p t x => rw [ho] at hr; exact value_of hr
  | slice t x lo hi mx => rw [ho] at hr; exact value_of hr
  | fieldAddr t x f => rw [ho] at hr; exact value_of hr
  | field t x f => rw [ho] at hr; exact value_of hr
  | indexAddr t x f => rw [ho] at hr; exact value_of hr
  | index t x f => rw [ho] at hr; exact value_of hr
  | extract t x => rw [ho] at hr; exact value_of hr
  | _ => rw [ho] at h; simp [readerOp, nilGood] at h

theorem put_inj {a : Act} {d : Tmp} (hd : d < a.tmps.size) {v u : Value} (h : a.put (some d) v = a.put (some d) u) : v = u := by
  have h1 : a.tmps.setIfInBounds d v = a.tmps.setIfInBounds d u := congrArg Act.tmps h
  have h2 : (a.tmps.setIfInBounds d v)[d]? = (a.tmps.setIfInBounds d u)[d]? := by rw [h1]
  simpa [Array.getElem?_setIfInBounds, hd] using h2

theorem reads_one {P : Program} {ops : Array Oper} {S : World → Prop} {o : Oper} {a a' : Act} {w : World}
    (hk : (!Region.wanted o (yielded ops a.tmps) || readerOp o.op || nilGood a o.op) = true) (hd : (o.dst.any fun d => decide (d < a.tmps.size)) = true) (hS : S w)
    (h : ∀ x, S x → ∀ K : Act → World → Prop, K a' x → wpList P ops (OnlyK K) [o] a x) : ∃ v, YieldsIf P ops S o v a ∧ a.put o.dst v = a' := by
  cases hdst : o.dst with
  | none => rw [hdst] at hd; cases hd
  | some d =>
    rw [hdst] at hd
    have hd' : d < a.tmps.size := by simpa using hd
    by_cases hw : Region.wanted o (yielded ops a.tmps) = true
    · have hk' : (readerOp o.op || nilGood a o.op) = true := by simpa [hw] using hk
      have one : ∀ x, S x → ∃ v, (execOp a.eval o).run P x = .ok (.value v) x ∧ a.put (some d) v = a' := by
        intro x hx
        have h1 := h x hx (fun a1 x1 => a1 = a' ∧ x1 = x) ⟨rfl, rfl⟩
        simp only [wpList, hw, if_true] at h1
        rcases h1 with h1 | ⟨_, _, _, h1⟩
        · unfold Oper.wp at h1
          cases hr : (execOp a.eval o).run P x with
          | ok n w1 =>
            obtain ⟨v, rfl⟩ := reader_value hk' hr
            rw [hr] at h1
            simp only [Oper.upon, OnlyK, hdst] at h1
            obtain ⟨h1, rfl⟩ := h1
            exact ⟨v, rfl, h1⟩
          | halt hh w1 =>
            rw [hr] at h1
            cases hh <;> simp only [Oper.upon, OnlyK] at h1
        · exact h1.elim
      obtain ⟨v, hv, hp⟩ := one w hS
      refine ⟨v, .inl ⟨hw, fun x hx => ?_⟩, hp⟩
      obtain ⟨u, hu, hq⟩ := one x hx
      rw [hu, put_inj hd' (hp.trans hq.symm)]
    · have hw' : Region.wanted o (yielded ops a.tmps) = false := by simpa using hw
      have h1 := h w hS (fun a1 x1 => a1 = a' ∧ x1 = w) ⟨rfl, rfl⟩
      simp only [wpList, hw', Bool.false_eq_true, if_false, OnlyK, hdst] at h1
      exact ⟨undef, .inr ⟨hw', rfl⟩, h1.1⟩

/-- One order of a region: (number, does it only read?). -/
def lineOk (md : Region.Mode) (ops : Array Oper) : Array Bool → List (Nat × Bool) → Bool
  | listed, [] => Region.ready md ops listed == []
  | listed, (i, true) :: r => Region.free md ops listed i && (Region.ready md ops listed).contains i && lineOk md ops (listed.setIfInBounds i true) r
  | listed, (i, false) :: r => Region.ready md ops listed == [i] && lineOk md ops (listed.setIfInBounds i true) r

/-- The region, in that order. -/
def wpLine (P : Program) (ops : Array Oper) (Q : Exit → Act → World → Prop) : (World → Prop) → List (Nat × Bool) → Act → World → Prop
  | _, [], a, w => Q .normal a w
  | S, (i, true) :: r, a, w => ∃ o v, ops[i]? = some o ∧ YieldsIf P ops S o v a ∧ wpLine P ops Q S r (a.put o.dst v) w
  | S, (i, false) :: r, a, w => wpOp P ops Q i (fun a' w' => ∃ S' : World → Prop, S' w' ∧ (∀ x, S' x → S x) ∧ wpLine P ops Q S' r a' w') a w

theorem wpAnyH_weaken {P : Program} {ops : Array Oper} {Q : Exit → Act → World → Prop} {md : Region.Mode} {S S' : World → Prop} (hs : ∀ x, S' x → S x) :
    ∀ (n : Nat) (listed : Array Bool) (a : Act) (w : World), wpAnyH P md ops Q S' n listed a w → wpAnyH P md ops Q S n listed a w
  | 0, _, _, _, h => h
  | n + 1, _, _, _, h => ⟨h.1, fun i hi => wpOp_mono (fun _ _ h' => ⟨hs _ h'.1, wpAnyH_weaken hs n _ _ _ h'.2⟩) (h.2 i hi)⟩

theorem wpLine_any {P : Program} {ops : Array Oper} {Q : Exit → Act → World → Prop} {md : Region.Mode} (hsel : Region.noSelect ops = true)
    (hQ : ∀ c a w d v, Q (.panic c) (a.put d v) w → Q (.panic c) a w) :
    ∀ (l : List (Nat × Bool)) (S : World → Prop) (listed : Array Bool) (a : Act) (w : World), lineOk md ops listed l = true → S w → wpLine P ops Q S l a w → wpAnyH P md ops Q S l.length listed a w
  | [], S, listed, a, w, hl, _, h => ⟨by simpa [lineOk] using hl, h⟩
  | (i, true) :: r, S, listed, a, w, hl, hS, h => by
    obtain ⟨o, v, ho, hy, h⟩ := h
    simp only [lineOk, Bool.and_eq_true] at hl
    exact wpAnyH_take ho hsel hl.1.1 hl.1.2 (fun c a w => hQ c a w _ _) hy hS (wpLine_any hsel hQ r S _ _ w hl.2 hS h)
  | (i, false) :: r, S, listed, a, w, hl, hS, h => by
    simp only [lineOk, Bool.and_eq_true, beq_iff_eq] at hl
    refine wpAnyH_all hl.1 (by simp) ?_
    intro j hj
    simp at hj
    subst hj
    exact wpOp_mono (fun a' w' ⟨S', hS', hsub, h'⟩ => ⟨hsub _ hS', wpAnyH_weaken hsub _ _ _ _ (wpLine_any hsel hQ r S' _ _ w' hl.2 hS' h')⟩) h

/-- The beginning. -/
theorem region_line {P : Program} {ops : Array Oper} {Q : Exit → Act → World → Prop} {id : Nat} {a : Act} {w : World} (l : List (Nat × Bool)) (S : World → Prop) (hm : P.follows .mixedOrders = true)
    (hc : (Region.noSelect ops && (l.length == ops.size) && lineOk .any ops (Array.replicate ops.size false) l) = true)
    (hQ : ∀ c a w d v, Q (.panic c) (a.put d v) w → Q (.panic c) a w) (hS : S w.drew)
    (h : wpLine P ops Q S l a w.drew) : (Code.region id ops true).wp P Q a w := by
  simp only [Bool.and_eq_true, beq_iff_eq] at hc
  refine wp_region_any hm (wpAny_of_held (S := S) _ _ _ _ ?_)
  rw [← hc.1.2]
  have := wpLine_any hc.1.1 hQ l S _ a w.drew hc.2 hS h
  rw [← hc.1.2] at this
  exact this

/-- What only reads: walked in whatever world meets S. -/
theorem line_read {P : Program} {ops : Array Oper} {Q : Exit → Act → World → Prop} {S : World → Prop} {i : Nat} {r : List (Nat × Bool)} {o : Oper} {a a' : Act} {w : World} (ho : ops[i]? = some o)
    (hk : (!Region.wanted o (yielded ops a.tmps) || readerOp o.op || nilGood a o.op) = true) (hd : (o.dst.any fun d => decide (d < a.tmps.size)) = true) (hS : S w)
    (h : ∀ x, S x → ∀ K : Act → World → Prop, K a' x → wpList P ops (OnlyK K) [o] a x) (hr : wpLine P ops Q S r a' w) : wpLine P ops Q S ((i, true) :: r) a w := by
  obtain ⟨v, hy, hp⟩ := reads_one hk hd hS h
  exact ⟨o, v, ho, hy, by rw [hp]; exact hr⟩

/-- What acts. -/
theorem line_act {P : Program} {ops : Array Oper} {Q : Exit → Act → World → Prop} {S : World → Prop} {i : Nat} {r : List (Nat × Bool)} {o : Oper} {a : Act} {w : World} (ho : ops[i]? = some o)
    (h : ∀ K : Act → World → Prop, (∀ a' w' (S' : World → Prop), S' w' → (∀ x, S' x → S x) → wpLine P ops Q S' r a' w' → K a' w') → wpList P ops (ElseQ K Q) [o] a w) : wpLine P ops Q S ((i, false) :: r) a w := by
  have h1 := h _ (fun a' w' S' h1 h2 h3 => (⟨S', h1, h2, h3⟩ : ∃ S' : World → Prop, S' w' ∧ (∀ x, S' x → S x) ∧ wpLine P ops Q S' r a' w'))
  show wpOp P ops Q i _ a w
  unfold wpOp
  simp only [ho]
  simp only [wpList] at h1
  split
  · rename_i hw
    rw [if_pos hw] at h1
    rcases h1 with h1 | ⟨h1, b, x, h2⟩
    · refine .inl ?_
      unfold Oper.wp at h1 ⊢
      generalize (execOp a.eval o).run P w = res at h1
      cases res with
      | ok n w1 =>
        cases n <;> first | exact h1 | exact Calls.mono h1 (fun e w2 he => by cases e <;> exact he) | exact Rows.mono h1 (fun _ _ he => he)
      | halt hh w1 => cases hh <;> exact h1
    · exact .inr ⟨h1, b, x, h2⟩
  · rename_i hw
    rw [if_neg hw] at h1
    exact h1

theorem line_end {P : Program} {ops : Array Oper} {Q : Exit → Act → World → Prop} {S : World → Prop} {a : Act} {w : World} (h : Q .normal a w) : wpLine P ops Q S [] a w := h

/-- Later worlds: there is more, what was there stands. -/
def Ext (w : World) : World → Prop := fun x => w.grownBy x none
theorem Ext.refl (w : World) : Ext w w := ⟨rfl, rfl, rfl, Nat.le_refl _, fun _ _ _ => rfl⟩
theorem Ext.drew (w : World) : Ext w w.drew := ⟨rfl, rfl, rfl, Nat.le_refl _, fun _ _ _ => rfl⟩
theorem Ext.next {w w1 : World} (h : w.grownBy w1 none) : ∀ x, Ext w1 x → Ext w x := fun _ hx =>
  ⟨hx.os.trans h.os, hx.tape.trans h.tape, hx.output.trans h.output, Nat.le_trans h.size hx.size, fun k hk hne => (hx.block k (Nat.lt_of_lt_of_le hk h.size) hne).trans (h.block k hk hne)⟩
theorem Ext.of_drew {w x : World} (h : Ext w.drew x) : Ext w x := ⟨h.os, h.tape, h.output, h.size, h.block⟩
theorem ext_trans {a b c : World} (h : Ext a b) (h2 : Ext b c) : Ext a c := Ext.next h c h2
theorem gb_drewN (w : World) (n : Nat) : w.grownBy (w.drewN n) none := ⟨rfl, rfl, rfl, Nat.le_refl _, fun _ _ _ => rfl⟩

end Go.Proofs.YtdadgcfpcneaiaaGreatDoor

/-
  Bytes: how a slice of bytes reads (Bts), what a call makes (Made).
-/
namespace Go.Proofs.YtdadgcfpcneaiaaGreatDoor
set_option linter.unusedVariables false
set_option linter.unusedSimpArgs false
set_option linter.unusedVariables false
set_option linter.unusedSimpArgs false
set_option maxRecDepth 100000
open Go.RowKit

/-- The slice value v reads as the bytes xs. -/
def Bts (w : World) (v : Value) (xs : List Int) : Prop :=
  (v = .slice none 0 0 ∧ xs = []) ∨ ∃ b off cap, v = .slice (some ⟨b, off, none⟩) xs.length cap ∧ xs.length ≤ cap ∧ ∀ i, i < xs.length → w.cell? ⟨b, off + i, none⟩ = some (.int .u8 (xs.getD i 0))

/-- A call returns a slice of bytes that is its own. -/
def Made (B : Nat) (w : World) (xs : List Int) (e : Ending) (w' : World) : Prop :=
  ∃ v', e = .returned v' ∧ w'.ownsRow B 5 1 v' xs.length (xs.map (Value.int .u8)) ∧ w.grownBy w' none

theorem Tryz.infoU8 : (Tryz.prog.info? 5).map (fun i => (i.zero, i.size, i.bytes)) = some (some (.int .u8 0), 1, 1) := by kernel_rfl

theorem bytes_new (w : World) (u : Value) (T : TypeId) : ∀ j v, [u][j]? = some v → (w.alloc (.cells #[u] T)).cell? ((⟨w.heap.size, 0, none⟩ : Addr).add j) = some v := by
  intro j v hj
  match j, hj with
  | 0, hj => simp at hj; subst hj; simp [Addr.add]

theorem cells_of {w : World} {b off : Nat} {xs : List Int} (hc : ∀ i, i < xs.length → w.cell? ⟨b, off + i, none⟩ = some (.int .u8 (xs.getD i 0))) :
    ∀ j u, (xs.map (Value.int .u8))[j]? = some u → w.cell? ((⟨b, off, none⟩ : Addr).add j) = some u := by
  intro j u hj
  rw [List.getElem?_map] at hj
  rw [addr_add]
  by_cases h : j < xs.length
  · rw [hc j h, ← hj]
    simp [List.getElem?_eq_getElem h, List.getD_eq_getElem?_getD]
  · rw [List.getElem?_eq_none (by omega)] at hj
    cases hj

theorem Tryz.eqNil22 (w : World) (a : Option Addr) (n c : Nat) : (binOp .eql 54 (.slice a n c) (.slice none 0 0)).run Tryz.prog w = .ok (.bool a.isNone) w := Lib.run_eql_slice_nil w 54 5 a n c 0 0 Tryz.underlying54
attribute [local go_sem] Tryz.eqNil22

theorem grown_trans {w w1 w2 : World} {r r2 : Option Nat} (h1 : w.grownBy w1 r) (h2 : w1.grownBy w2 r2) (h : ∀ k, r2 = some k → k < w.heap.size → some k = r) : w.grownBy w2 r :=
  ⟨h2.os.trans h1.os, h2.tape.trans h1.tape, h2.output.trans h1.output, Nat.le_trans h1.size h2.size, fun k hk hne =>
    (h2.block k (Nat.lt_of_lt_of_le hk h1.size) (fun e => hne (h k e.symm hk))).trans (h1.block k hk hne)⟩

theorem cell_past {w : World} {a : Addr} {v : Value} (h : w.cell? a = some v) (o : Obj) : (w.alloc o).cell? a = some v := by
  rw [World.cell?_alloc_old _ _ _ (Nat.ne_of_lt (World.block_lt_of_cell? w _ h))]
  exact h

theorem Bts.nil {w : World} {n cap : Nat} {xs : List Int} (h : Bts w (.slice none n cap) xs) : xs = [] := by
  rcases h with ⟨_, h2⟩ | ⟨b, off, c, h1, _⟩
  · exact h2
  · simp at h1

theorem Bts.cells {w : World} {a : Addr} {n cap : Nat} {xs : List Int} (h : Bts w (.slice (some a) n cap) xs) : ∀ j u, (xs.map (Value.int .u8))[j]? = some u → w.cell? (a.add j) = some u := by
  rcases h with ⟨h1, _⟩ | ⟨b, off, c, h1, _, h3⟩
  · simp at h1
  · simp at h1
    obtain ⟨rfl, _, _⟩ := h1
    exact cells_of h3

theorem ownsRow_le {w : World} {B B' : Nat} {e : TypeId} {size : Nat} {v : Value} {n : Nat} {xs : List Value} (h : w.ownsRow B e size v n xs) (hB : B' ≤ B) : w.ownsRow B' e size v n xs := by
  obtain ⟨h1, h2⟩ := h
  refine ⟨h1, ?_⟩
  rcases h2 with h2 | ⟨g, cap, cur, hv, hg, r⟩
  · exact Or.inl h2
  · exact Or.inr ⟨g, cap, cur, hv, Nat.le_trans hB hg, r⟩

theorem one_oneCell (k : IntKind) (n : Int) : ∀ u ∈ [Value.int k n], u.oneCell' = true := by
  intro u hu
  simp at hu
  subst hu
  rfl

theorem grown_alloc_size {w wr : World} (hgr : w.grownBy wr none) (o : Obj) : w.heap.size ≤ (wr.alloc o).heap.size := by
  have := hgr.size
  simp
  omega

theorem grown_alloc {w w1 : World} {r : Option Nat} (h : w.grownBy w1 r) (o : Obj) : w.grownBy (w1.alloc o) r :=
  grown_trans h (World.grownBy_alloc w1 o none) (fun k hk _ => by cases hk)

theorem grown_drew {w w1 : World} {r : Option Nat} (h : w.grownBy w1 r) : w.grownBy w1.drew r := ⟨h.os, h.tape, h.output, h.size, h.block⟩

theorem row_bts {w : World} {a : Option Addr} {len cap : Nat} {zs : List Int} (h : IsRow .u8 w a len cap zs) (hs : ∀ x, a = some x → x.spot = none ∧ x.block < w.heap.size) :
    len = (zs.take len).length ∧ Bts w (.slice a len cap) (zs.take len) ∧ (∀ n ∈ zs.take len, 0 ≤ n ∧ n < 256) ∧ (∀ k, (Value.slice a len cap).ownBlock = some k → k < w.heap.size) ∧ len ≤ maxLen := by
  rcases h with ⟨rfl, rfl, rfl, rfl⟩ | ⟨x, rfl, hl, hm, hz, hc, hw⟩
  · exact ⟨rfl, .inl ⟨rfl, rfl⟩, by simp, by simp [Value.ownBlock], Nat.zero_le _⟩
  · obtain ⟨hsp, hb⟩ := hs x rfl
    obtain ⟨b, off, sp⟩ := x
    simp only at hsp hb
    subst hsp
    have hlen : (zs.take len).length = len := by simp; omega
    refine ⟨hlen.symm, .inr ⟨b, off, cap, by rw [hlen], by omega, fun i hi => ?_⟩, fun n hn => ?_, fun k hk => ?_, by omega⟩
    · rw [hlen] at hi
      have := hc i (by omega)
      rw [addr_add] at this
      rw [this]
      simp [hi]
    · have := hw n (List.mem_of_mem_take hn)
      simp [Lit.wf, IntKind.min, IntKind.max, IntKind.bits, IntKind.signed] at this
      omega
    · simp [Value.ownBlock] at hk
      omega

end Go.Proofs.YtdadgcfpcneaiaaGreatDoor
