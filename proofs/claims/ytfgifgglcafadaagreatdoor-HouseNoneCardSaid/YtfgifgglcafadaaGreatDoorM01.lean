/-
  Texts put together: Row Rec RX RY QA Line BY DA EA.
-/
import Derived.Test.YtfgifgglcafadaaGreatDoorRows
import Derived.WalkKit
import Derived.ProofKit
import Derived.OpenShut
import Derived.Deep.Slices
import Derived.Deep.Fields
import Derived.SliceStrings
import Derived.ArgAppend
import Derived.OrdersHeld
import Derived.BigQuiet
import Derived.Deep.QuietTactic
import Derived.WalkSpells
import Derived.WalkLawsBesides
import Derived.Lib.Hide
import Derived.Laws.AppendOwnNone
import Derived.Below
import Derived.Laws.LoneSync
import Derived.Deep.MidRow
import Derived.OneCell
namespace Go.Proofs.YtfgifgglcafadaaGreatDoor
set_option linter.unusedVariables false
set_option linter.unusedSimpArgs false
set_option linter.unusedVariables false
set_option linter.unusedSimpArgs false
set_option maxRecDepth 100000
open Go.RowKit
theorem addr_add (b off j : Nat) : (⟨b, off, none⟩ : Addr).add j = ⟨b, off + j, none⟩ := by
 unfold Addr.add
 split <;> simp_all
def IsRow (k : IntKind) (w : World) (a : Option Addr) (len cap : Nat) (zs : List Int) : Prop :=
 (a = none ∧ len = 0 ∧ cap = 0 ∧ zs = []) ∨
 ∃ x, a = some x ∧ len ≤ cap ∧ cap ≤ maxLen ∧ zs.length = cap ∧ (∀ i, i < zs.length → w.cell? (x.add i) = some (.int k (zs.getD i 0))) ∧ ∀ n ∈ zs, (Lit.int k n).wf = true
end Go.Proofs.YtfgifgglcafadaaGreatDoor

namespace Go.Proofs.YtfgifgglcafadaaGreatDoor
set_option linter.unusedVariables false
set_option linter.unusedSimpArgs false
set_option linter.unusedVariables false
set_option linter.unusedSimpArgs false
set_option maxRecDepth 100000
open Go.RowKit Go.ChangeShapes Go.WideShapes Go.Deep
section
variable {H : Type} {enc : TypeId × Value → H} {P : Program} {w : World} {base : Nat} {spare : Nat → Bool} {held : Bool}
end
end Go.Proofs.YtfgifgglcafadaaGreatDoor

namespace Go.Proofs.YtfgifgglcafadaaGreatDoor
set_option linter.unusedVariables false
set_option linter.unusedSimpArgs false
set_option linter.unusedVariables false
set_option linter.unusedSimpArgs false
set_option maxRecDepth 100000
open Go.RowKit Go.ChangeShapes Go.WideShapes Go.Deep
inductive FX where
 | int (k : IntKind)
 | bool
 | str
 | byts
def FitsX (w : World) : FX → Value → Prop
 | .int k, v => ∃ n, v = .int k n ∧ (Lit.int k n).wf = true
 | .bool, v => ∃ b, v = .bool b
 | .str, v => ∃ s : ByteArray, v = .string s ∧ s.size ≤ maxLen
 | .byts, v => ∃ a len cap zs, v = .slice a len cap ∧ IsRow .u8 w a len cap zs
def TypeFX (P : Program) (t : TypeId) : FX → Prop
 | .int k => P.underlying t = some (.int k)
 | .bool => P.underlying t = some .bool
 | .str => P.underlying t = some .string
 | .byts => ∃ e, P.underlying t = some (.slice e) ∧ P.underlying e = some (.int .u8) ∧ P.cellsOf e = 1
section
variable {H : Type} {enc : TypeId × Value → H} {P : Program} {w : World} {base : Nat} {held : Bool}
theorem fitsX_of {t : TypeId} {k : FX} (hk : TypeFX P t k) {n : Nat} {v : Value} {y : DataW H × List MemPlace} (h : DataW.trod enc P w base (fun _ => true) held n t [v] = some y) : FitsX w k v := by
 match k, hk with
 | .int k, hk =>
   obtain ⟨m, h1, _, h2⟩ := DataW.trod_int hk h
   simp at h1
   exact ⟨m, h1, h2⟩
 | .bool, hk =>
   obtain ⟨b, h1, _⟩ := DataW.trod_bool hk h
   simp at h1
   exact ⟨b, h1⟩
 | .str, hk =>
   obtain ⟨s, h1, _, h2⟩ := DataW.trod_string hk h
   simp at h1
   exact ⟨s, h1, h2⟩
 | .byts, hk =>
   obtain ⟨e, ht, he, hc⟩ := hk
   rcases open_ints ht he hc h with ⟨hcs, _⟩ | ⟨x, l, c, zs, hcs, _, hl, hm, hz, _, hcell, hwz⟩
   · simp at hcs
     exact ⟨none, 0, 0, [], hcs, .inl ⟨rfl, rfl, rfl, rfl⟩⟩
   · simp at hcs
     exact ⟨some x, l, c, zs, hcs, .inr ⟨_, rfl, hl, hm, by simpa using hz, hcell, hwz⟩⟩
end
end Go.Proofs.YtfgifgglcafadaaGreatDoor

namespace Go.Proofs.YtfgifgglcafadaaGreatDoor
set_option linter.unusedVariables false
set_option linter.unusedSimpArgs false
set_option linter.unusedVariables false
set_option linter.unusedSimpArgs false
set_option maxRecDepth 100000
open Go.RowKit Go.ChangeShapes Go.WideShapes Go.Deep
inductive TypeFlat (P : Program) : TypeId → List FX → Prop
 | one {t : TypeId} {k : FX} : TypeFX P t k → TypeFlat P t [k]
 | row {t : TypeId} {fs : Array Field} (Fks : List (List FX)) : P.underlying t = some (.struct fs) → Fks.length = fs.size → P.cellsOf t = Fks.flatten.length →
     (∀ (i : Nat) (f : Field), fs[i]? = some f → f.offset = (Fks.take i).flatten.length ∧ P.cellsOf f.type = (Fks.getD i []).length) → (∀ (i : Nat) (f : Field), fs[i]? = some f → TypeFlat P f.type (Fks.getD i [])) → TypeFlat P t Fks.flatten
theorem flatten_at : ∀ (L : List (List FX)) (j : Nat) (k : FX), L.flatten[j]? = some k → ∃ i l, i < L.length ∧ j = (L.take i).flatten.length + l ∧ (L.getD i [])[l]? = some k
 | [], j, k, h => by simp at h
 | x :: L, j, k, h => by
   rw [List.flatten_cons] at h
   by_cases hj : j < x.length
   · rw [List.getElem?_append_left hj] at h
     exact ⟨0, j, by simp, by simp, by simpa using h⟩
   · rw [List.getElem?_append_right (by omega)] at h
     obtain ⟨i, l, h1, h2, h3⟩ := flatten_at L _ _ h
     exact ⟨i + 1, l, by simpa using h1, by rw [List.take_succ_cons, List.flatten_cons, List.length_append]; omega, by simpa using h3⟩
section
variable {H : Type} {enc : TypeId × Value → H} {P : Program} {w : World} {base : Nat} {held : Bool}
theorem one_cell {t : TypeId} {k : FX} (hk : TypeFX P t k) {n : Nat} {cs : List Value} {y : DataW H × List MemPlace} (h : DataW.trod enc P w base (fun _ => true) held n t cs = some y) : ∃ v, cs = [v] := by
 match k, hk with
 | .int k, hk => obtain ⟨m, h1, _⟩ := DataW.trod_int hk h; exact ⟨_, h1⟩
 | .bool, hk => obtain ⟨m, h1, _⟩ := DataW.trod_bool hk h; exact ⟨_, h1⟩
 | .str, hk => obtain ⟨m, h1, _⟩ := DataW.trod_string hk h; exact ⟨_, h1⟩
 | .byts, hk =>
   obtain ⟨e, ht, he, hc⟩ := hk
   rcases open_ints ht he hc h with ⟨h1, _⟩ | ⟨x, l, c, zs, h1, _⟩ <;> exact ⟨_, h1⟩
theorem flat_fits {t : TypeId} {ks : List FX} (ht : TypeFlat P t ks) : ∀ {n : Nat} {cs : List Value} {y : DataW H × List MemPlace}, DataW.trod enc P w base (fun _ => true) held n t cs = some y →
   cs.length = ks.length ∧ ∀ (j : Nat) (k : FX), ks[j]? = some k → ∃ v, cs[j]? = some v ∧ FitsX w k v := by
 induction ht with
 | one hk =>
   intro n cs y h
   obtain ⟨v, rfl⟩ := one_cell hk h
   refine ⟨rfl, fun j k hj => ?_⟩
   match j, hj with
   | 0, hj => simp at hj; subst hj; exact ⟨v, rfl, fitsX_of hk h⟩
   | j + 1, hj => simp at hj
 | row Fks hu hl hc ho _ ih =>
   intro n cs y h
   obtain ⟨xs, m, _, _, hlen, hxl, hat⟩ := DataW.trod_struct hu h
   refine ⟨hlen.trans hc, fun j k hj => ?_⟩
   obtain ⟨i, l, hi, rfl, hk⟩ := flatten_at _ _ _ hj
   have hif := Array.getElem?_eq_getElem (show i < _ from hl ▸ hi)
   have h1 := hat i _ hif
   obtain ⟨o1, o2⟩ := ho i _ hif
   rw [List.getElem?_eq_getElem (by omega), o1, o2] at h1
   obtain ⟨v, hv, hf⟩ := (ih i _ hif h1).2 l k hk
   have hlt : l < (Fks.getD i []).length := (List.getElem?_eq_some_iff.1 hk).1
   rw [List.getElem?_take, if_pos hlt, List.getElem?_drop] at hv
   exact ⟨v, hv, hf⟩
theorem open_flat {r : Reach} {b0 : Nat} {t : TypeId} {fs : Array Field} {ks : List FX} {v : Value} {d : DataW H} {p : List MemPlace} (hu : P.underlying t = some (.struct fs)) (ht : TypeFlat P t ks) (hv : Value.okWide P w r b0 t v) (h : DataW.Trod enc P w base (fun _ => true) held t v d p) :
   ∃ vs : List Value, v = .agg vs.toArray ∧ vs.length = ks.length ∧ ∀ (j : Nat) (k : FX), ks[j]? = some k → ∃ u, vs[j]? = some u ∧ FitsX w k u := by
 obtain ⟨cs, rfl, hsz⟩ := okWide_struct hu hv
 obtain ⟨l⟩ := cs
 obtain ⟨fuel, hf⟩ := h
 obtain ⟨h1, h2⟩ := flat_fits ht hf
 simp only [Value.cells] at h1 h2
 exact ⟨l, rfl, h1, h2⟩
end
theorem list8 {α : Type} {l : List α} (h : l.length = 8) : ∃ x0 x1 x2 x3 x4 x5 x6 x7, l = [x0, x1, x2, x3, x4, x5, x6, x7] := by match l, h with | [x0, x1, x2, x3, x4, x5, x6, x7], _ => exact ⟨x0, x1, x2, x3, x4, x5, x6, x7, rfl⟩
end Go.Proofs.YtfgifgglcafadaaGreatDoor

namespace Go.Proofs.YtfgifgglcafadaaGreatDoor
set_option linter.unusedVariables false
set_option linter.unusedSimpArgs false
set_option linter.unusedVariables false
set_option linter.unusedSimpArgs false
set_option maxRecDepth 100000
open Go.RowKit
def TailRow (w : World) (base : Nat) (e : TypeId) (size : Nat) (v : Value) (n : Nat) (xs : List Value) : Prop :=
 xs.length = n * size ∧
 ((v = .slice none 0 0 ∧ n = 0) ∨
  ∃ g off cap cur, v = .slice (some ⟨g, off, none⟩) n cap ∧ base ≤ g ∧ w.heap[g]? = some (.cells cur e (0, 0)) ∧ n ≤ cap ∧ cap ≤ maxLen ∧ off + cap * size ≤ cur.size ∧ (cur.toList.drop off).take (n * size) = xs)
section
variable {w w' : World} {base : Nat} {e : TypeId} {size : Nat} {v : Value} {n : Nat} {xs : List Value}
theorem TailRow.nil (w : World) (base : Nat) (e : TypeId) (size : Nat) : TailRow w base e size (.slice none 0 0) 0 [] := ⟨by simp, .inl ⟨rfl, rfl⟩⟩
theorem TailRow.of_owns (h : w.ownsRow base e size v n xs) : TailRow w base e size v n xs := by
 refine ⟨h.1, ?_⟩
 rcases h.2 with h2 | ⟨g, cap, cur, h1, h2, h3, h4, h5, h6, h7⟩
 · exact .inl h2
 · exact .inr ⟨g, 0, cap, cur, h1, h2, h3, h4, h5, by omega, by simpa using h7⟩
theorem TailRow.lt (h : TailRow w base e size v n xs) : ∀ k, v.ownBlock = some k → base ≤ k ∧ k < w.heap.size := by
 intro k hk
 rcases h.2 with ⟨rfl, _⟩ | ⟨g, off, cap, cur, rfl, h2, h3, _⟩
 · simp [Value.ownBlock] at hk
 · simp [Value.ownBlock] at hk
   subst hk
   exact ⟨h2, (Array.getElem?_eq_some_iff.1 h3).1⟩
theorem TailRow.kept {r : Option Nat} (h : TailRow w base e size v n xs) (hg : w.grownBy w' r) (hr : ∀ k, v.ownBlock = some k → some k ≠ r) : TailRow w' base e size v n xs := by
 refine ⟨h.1, ?_⟩
 rcases h.2 with h2 | ⟨g, off, cap, cur, rfl, h2, h3, h4⟩
 · exact .inl h2
 · exact .inr ⟨g, off, cap, cur, rfl, h2, (hg.block g (Array.getElem?_eq_some_iff.1 h3).1 (hr g rfl)).trans h3, h4⟩
theorem TailRow.le (h : TailRow w base e size v n xs) {base' : Nat} (hb : base' ≤ base) : TailRow w base' e size v n xs := by
 refine ⟨h.1, ?_⟩
 rcases h.2 with h2 | ⟨g, off, cap, cur, h1, h2, h3⟩
 · exact .inl h2
 · exact .inr ⟨g, off, cap, cur, h1, Nat.le_trans hb h2, h3⟩
theorem TailRow.shape (h : TailRow w base e size v n xs) : (v = .slice none 0 0 ∧ n = 0) ∨ ∃ g off cap, v = .slice (some ⟨g, off, none⟩) n cap ∧ n ≤ cap ∧ cap ≤ maxLen ∧ g < w.heap.size ∧ base ≤ g ∧ ∀ j, j < n * size → w.cell? ⟨g, off + j, none⟩ = xs[j]? := by
 rcases h.2 with h2 | ⟨g, off, cap, cur, h1, h2, h3, h4, h5, h6, h7⟩
 · exact .inl h2
 · refine .inr ⟨g, off, cap, h1, h4, h5, (Array.getElem?_eq_some_iff.1 h3).1, h2, fun j hj => ?_⟩
   rw [cell_of_row w g (off + j) cur e (0, 0) h3, ← h7, List.getElem?_take, if_pos hj, List.getElem?_drop, Array.getElem?_toList]
end
theorem setCells_block (b : Nat) (e : TypeId) : ∀ (vs : List Value) (o : Nat) (w : World) (cur : Array Value), w.heap[b]? = some (.cells cur e (0, 0)) → o + vs.length ≤ cur.size →
   ∃ cur', (w.setCells b o vs).heap[b]? = some (.cells cur' e (0, 0)) ∧ cur'.size = cur.size ∧ ∀ j, cur'[j]? = if o ≤ j ∧ j < o + vs.length then vs[j - o]? else cur[j]?
 | [], o, w, cur, h, _ => ⟨cur, h, rfl, fun j => by rw [if_neg (by simp)]⟩
 | v :: r, o, w, cur, h, hl => by
   rw [List.length_cons] at hl
   have h1 := heap_setCell_same w b o cur e v h
   obtain ⟨cur', h2, h3, h4⟩ := setCells_block b e r (o + 1) _ _ h1 (by simp; omega)
   refine ⟨cur', h2, by simpa using h3, fun j => ?_⟩
   rw [h4 j, List.length_cons]
   by_cases e1 : o + 1 ≤ j ∧ j < o + 1 + r.length
   · rw [if_pos e1, if_pos (by omega), show j - o = (j - (o + 1)) + 1 by omega, List.getElem?_cons_succ]
   · rw [if_neg e1]
     by_cases e2 : j = o
     · subst e2
       rw [if_pos (by omega), Nat.sub_self, Array.getElem?_setIfInBounds_self_of_lt (by omega)]
       rfl
     · rw [if_neg (by omega), Array.getElem?_setIfInBounds_ne (by omega)]
theorem setCells_grown (b : Nat) : ∀ (vs : List Value) (o : Nat) (w : World), w.grownBy (w.setCells b o vs) (some b)
 | [], _, w => ⟨rfl, rfl, rfl, Nat.le_refl _, fun _ _ _ => rfl⟩
 | v :: r, o, w => by
   have h := setCells_grown b r (o + 1) (w.setCell ⟨b, o, none⟩ v)
   have h1 : w.grownBy (w.setCell ⟨b, o, none⟩ v) (some b) := ⟨rfl, rfl, rfl, by simp, fun k _ hne => heap_setCell_other w ⟨b, o, none⟩ k v (fun e => hne (by rw [e]))⟩
   exact ⟨h.os.trans h1.os, h.tape.trans h1.tape, h.output.trans h1.output, Nat.le_trans h1.size h.size, fun k hk hne => (h.block k (Nat.lt_of_lt_of_le hk h1.size) hne).trans (h1.block k hk hne)⟩
theorem append_tail {P : Program} {w : World} {ops : Array Oper} {rest : List Oper} {o : Oper} {a : Act} {Q : Exit → Act → World → Prop} (hg : o.guard = none) (s x : Operand) (t : TypeId)
   (hop : o.op = Op.call { callee := Callee.builtin Builtin.append, args := #[s, x], argTypes := #[t, t] })
   (base : Nat) (e : TypeId) (i : TypeInfo) (z : Value) (size bytes : Nat) (h1 : P.underlying t = some (.slice e)) (h2 : P.info? e = some i) (h3 : i.zero = some z) (h4 : i.size = size) (h5 : i.bytes = bytes) (h6 : z.cells.size = size) (h7 : 0 < size)
   {v : Value} {n : Nat} {xs : List Value} (hs : a.eval s = v) (hown : TailRow w base e size v n xs) (ad : Addr) (c : Nat) (news : List Value) (hx : a.eval x = .slice (some ad) 1 c) (hn : news.length = size) (hc : ∀ j u, news[j]? = some u → w.cell? (ad.add j) = some u)
   (h1c : ∀ u ∈ news, u.oneCell' = true) (b1 : n + 1 ≤ maxLen) (b2 : (n + 1) * bytes ≤ 140737488355328) (hbase : base ≤ w.heap.size)
   (h : ∀ v' w', TailRow w' base e size v' (n + 1) (xs ++ news) → w.grownBy w' v.ownBlock → (∀ k, v'.ownBlock = some k → v.ownBlock = some k ∨ w.heap.size ≤ k) → wpList P ops Q rest (a.put o.dst v') w') : wpList P ops Q (o :: rest) a w := by
 rcases hown.2 with ⟨rfl, rfl⟩ | ⟨g, off, cap, cur, rfl, q1, q2, q3, q4, q5, q6⟩
 · have hxs : xs = [] := List.eq_nil_of_length_eq_zero (by simpa using hown.1)
   subst hxs
   refine wpList_append_grows w hg s x t hop e i z size bytes h1 h2 h3 h4 h5 h6 h7 none 0 0 [] hs (fun _ => ⟨rfl, rfl⟩) (by simp) (fun b hb => by cases hb) ad 1 c news hx (by omega) hc h1c (by decide) b1 b2 (fun v' w' ho hgr => ?_)
   exact h v' w' (TailRow.le (.of_owns ho) hbase) hgr (fun k hk => .inr (ho.lt k hk).1)
 · have hsz := hown.1
   have holds : ∀ j u, xs[j]? = some u → w.cell? ⟨g, off + j, none⟩ = some u := fun j u hj => by
     have hjl : j < n * size := by rw [← hsz]; exact (List.getElem?_eq_some_iff.1 hj).1
     rw [cell_of_row w g (off + j) cur e (0, 0) q2, ← hj, ← q6, List.getElem?_take, if_pos hjl, List.getElem?_drop, Array.getElem?_toList]
   have hspare : n + 1 ≤ cap → off + n * size + news.length ≤ cur.size := fun hr => by
     have hm : (n + 1) * size ≤ cap * size := Nat.mul_le_mul_right _ hr
     rw [Nat.add_mul] at hm
     omega
   refine wpList_append_arg w hg s x t hop e i z size bytes h1 h2 h3 h4 h5 h6 h7 g off n cap xs hs hsz holds ad 1 c news hx (by omega) hc h1c (fun hr j hj => ?_) b1 b2 (fun hr => ?_) (fun hr v' w' ho hgr => ?_)
   · have hlt : off + n * size + j < cur.size := by have := hspare hr; omega
     refine ⟨?_, frozen_of_row w g _ cur e q2⟩
     rw [cell_of_row w g _ cur e (0, 0) q2, Array.getElem?_eq_getElem hlt]
     rfl
   · obtain ⟨cur', r1, r2, r3⟩ := setCells_block g e news (off + n * size) w cur q2 (hspare hr)
     refine h _ _ ⟨by rw [List.length_append, hsz, hn, Nat.add_mul]; omega, .inr ⟨g, off, cap, cur', rfl, q1, r1, hr, q4, by omega, ?_⟩⟩ (setCells_grown g news _ w) (fun k hk => .inl hk)
     refine List.ext_getElem? fun j => ?_
     rw [List.getElem?_take, List.getElem?_drop, Array.getElem?_toList, r3]
     have hm : (n + 1) * size = n * size + size := by rw [Nat.add_mul]; omega
     by_cases hj : j < n * size
     · rw [if_pos (by omega), if_neg (by omega), List.getElem?_append_left (by omega), ← q6, List.getElem?_take, if_pos hj, List.getElem?_drop, Array.getElem?_toList]
     · by_cases hj2 : j < (n + 1) * size
       · rw [if_pos hj2, if_pos (by omega), List.getElem?_append_right (by omega), hsz]
         congr 1
         omega
       · rw [if_neg hj2, List.getElem?_eq_none (by rw [List.length_append]; omega)]
   · exact h v' w' (TailRow.le (.of_owns ho) hbase) ⟨hgr.os, hgr.tape, hgr.output, hgr.size, fun k hk _ => hgr.block k hk (by simp)⟩ (fun k hk => .inr (ho.lt k hk).1)
end Go.Proofs.YtfgifgglcafadaaGreatDoor

namespace Go.Proofs.YtfgifgglcafadaaGreatDoor
set_option linter.unusedVariables false
set_option linter.unusedSimpArgs false
set_option linter.unusedVariables false
set_option linter.unusedSimpArgs false
set_option maxRecDepth 100000
open Go.RowKit
def OnlyK (K : Act → World → Prop) : Exit → Act → World → Prop
 | .normal, a, w => K a w
 | _, _, _ => False
def ElseQ (K : Act → World → Prop) (Q : Exit → Act → World → Prop) : Exit → Act → World → Prop
 | .normal, a, w => K a w
 | e, a, w => Q e a w
def lenCap : Callee → Bool
 | .builtin .len => true
 | .builtin .cap => true
 | .builtin .min => true
 | .builtin .max => true
 | _ => false
def readerOp : Op → Bool
 | .move _ => true
 | .assign _ => true
 | .pick _ _ _ => true
 | .load _ _ => true
 | .binOp _ _ _ _ _ => true
 | .unOp _ _ _ => true
 | .convert _ _ _ => true
 | .slice _ _ _ _ _ => true
 | .fieldAddr _ _ _ => true
 | .field _ _ _ => true
 | .indexAddr _ _ _ => true
 | .index _ _ _ => true
 | .extract _ _ => true
 | .call c => lenCap c.callee
 | _ => false
def nilGood (a : Act) : Op → Bool
 | .nilCheck x => match a.eval x with | .pointer (some _) => true | _ => false
 | _ => false
theorem value_of {s : Sem Value} {P : Program} {w w' : World} {n : Next} (hr : (do pure (Next.value (← s)) : Sem Next).run P w = .ok n w') : ∃ v, n = .value v := by
 rw [Sem.run_bind] at hr
 cases hs : s.run P w with
 | ok v w1 => rw [hs] at hr; simp [Sem.run_pure] at hr; exact ⟨v, hr.1.symm⟩
 | halt h w1 => rw [hs] at hr; simp at hr
theorem value_of' {s : Sem Value} {P : Program} {w w' : World} {n : Next} (hr : ((s.run P w).andThen fun a w' => Result.ok (Next.value a) w') = .ok n w') : ∃ v, n = .value v := by
 cases hs : s.run P w with
 | ok v w1 => rw [hs] at hr; simp at hr; exact ⟨v, hr.1.symm⟩
 | halt h w1 => rw [hs] at hr; simp at hr
theorem reader_value {a : Act} {o : Oper} (h : (readerOp o.op || nilGood a o.op) = true) {P : Program} {w w' : World} {n : Next} (hr : (execOp a.eval o).run P w = .ok n w') : ∃ v, n = .value v := by
 unfold execOp at hr
 cases ho : o.op with
 | nilCheck x =>
   rw [ho] at hr h
   simp only [readerOp, nilGood, Bool.false_or] at h
   split at h
   · rename_i ad hx
     simp only [hx, Sem.run_pure, Result.ok.injEq] at hr
     exact ⟨_, hr.1.symm⟩
   · cases h
 | call c =>
   rw [ho] at hr h
   simp only [readerOp, nilGood, Bool.or_false] at h
   unfold lenCap at h
   split at h
   · rename_i hc
     simp only [resolve, hc, Sem.run_bind, Sem.run_pure, Result.andThen_ok, invoke, builtin] at hr
     exact value_of' hr
   · rename_i hc
     simp only [resolve, hc, Sem.run_bind, Sem.run_pure, Result.andThen_ok, invoke, builtin] at hr
     exact value_of' hr
   · rename_i hc
     simp only [resolve, hc, Sem.run_bind, Sem.run_pure, Result.andThen_ok, invoke, builtin] at hr
     exact value_of' hr
   · rename_i hc
     simp only [resolve, hc, Sem.run_bind, Sem.run_pure, Result.andThen_ok, invoke, builtin] at hr
     exact value_of' hr
   · cases h
 | move x => rw [ho] at hr; simp [Sem.run_pure] at hr; exact ⟨_, hr.1.symm⟩
 | assign x => rw [ho] at hr; simp [Sem.run_pure] at hr; exact ⟨_, hr.1.symm⟩
 | pick c x y =>
   rw [ho] at hr
   simp only [Sem.run_bind] at hr
   cases hs : (asBool (a.eval c)).run P w with
   | ok b w1 => rw [hs] at hr; simp only [Result.andThen_ok, Sem.run_pure, Result.ok.injEq] at hr; exact ⟨_, hr.1.symm⟩
   | halt h w1 => rw [hs] at hr; simp at hr
 | load t x => rw [ho] at hr; exact value_of hr
 | binOp p t x y u => rw [ho] at hr; exact value_of hr
 | unOp p t x => rw [ho] at hr; exact value_of hr
 | convert p t x => rw [ho] at hr; exact value_of hr
 | slice t x lo hi mx => rw [ho] at hr; exact value_of hr
 | fieldAddr t x f => rw [ho] at hr; exact value_of hr
 | field t x f => rw [ho] at hr; exact value_of hr
 | indexAddr t x f => rw [ho] at hr; exact value_of hr
 | index t x f => rw [ho] at hr; exact value_of hr
 | extract t x => rw [ho] at hr; exact value_of hr
 | _ => rw [ho] at h; simp [readerOp, nilGood] at h
theorem put_inj {a : Act} {d : Tmp} (hd : d < a.tmps.size) {v u : Value} (h : a.put (some d) v = a.put (some d) u) : v = u := by
 have h1 : a.tmps.setIfInBounds d v = a.tmps.setIfInBounds d u := congrArg Act.tmps h
 have h2 : (a.tmps.setIfInBounds d v)[d]? = (a.tmps.setIfInBounds d u)[d]? := by rw [h1]
 simpa [Array.getElem?_setIfInBounds, hd] using h2
theorem reads_one {P : Program} {ops : Array Oper} {S : World → Prop} {o : Oper} {a a' : Act} {w : World}
   (hk : (!Region.wanted o (yielded ops a.tmps) || readerOp o.op || nilGood a o.op) = true) (hd : (o.dst.any fun d => decide (d < a.tmps.size)) = true) (hS : S w)
   (h : ∀ x, S x → ∀ K : Act → World → Prop, K a' x → wpList P ops (OnlyK K) [o] a x) : ∃ v, YieldsIf P ops S o v a ∧ a.put o.dst v = a' := by
 cases hdst : o.dst with
 | none => rw [hdst] at hd; cases hd
 | some d =>
   rw [hdst] at hd
   have hd' : d < a.tmps.size := by simpa using hd
   by_cases hw : Region.wanted o (yielded ops a.tmps) = true
   · have hk' : (readerOp o.op || nilGood a o.op) = true := by simpa [hw] using hk
     have one : ∀ x, S x → ∃ v, (execOp a.eval o).run P x = .ok (.value v) x ∧ a.put (some d) v = a' := by
       intro x hx
       have h1 := h x hx (fun a1 x1 => a1 = a' ∧ x1 = x) ⟨rfl, rfl⟩
       simp only [wpList, hw, if_true] at h1
       rcases h1 with h1 | ⟨_, _, _, h1⟩
       · unfold Oper.wp at h1
         cases hr : (execOp a.eval o).run P x with
         | ok n w1 =>
           obtain ⟨v, rfl⟩ := reader_value hk' hr
           rw [hr] at h1
           simp only [Oper.upon, OnlyK, hdst] at h1
           obtain ⟨h1, rfl⟩ := h1
           exact ⟨v, rfl, h1⟩
         | halt hh w1 =>
           rw [hr] at h1
           cases hh <;> simp only [Oper.upon, OnlyK] at h1
       · exact h1.elim
     obtain ⟨v, hv, hp⟩ := one w hS
     refine ⟨v, .inl ⟨hw, fun x hx => ?_⟩, hp⟩
     obtain ⟨u, hu, hq⟩ := one x hx
     rw [hu, put_inj hd' (hp.trans hq.symm)]
   · have hw' : Region.wanted o (yielded ops a.tmps) = false := by simpa using hw
     have h1 := h w hS (fun a1 x1 => a1 = a' ∧ x1 = w) ⟨rfl, rfl⟩
     simp only [wpList, hw', Bool.false_eq_true, if_false, OnlyK, hdst] at h1
     exact ⟨undef, .inr ⟨hw', rfl⟩, h1.1⟩
def lineOk (md : Region.Mode) (ops : Array Oper) : Array Bool → List (Nat × Bool) → Bool
 | listed, [] => Region.ready md ops listed == []
 | listed, (i, true) :: r => Region.free md ops listed i && (Region.ready md ops listed).contains i && lineOk md ops (listed.setIfInBounds i true) r
 | listed, (i, false) :: r => Region.ready md ops listed == [i] && lineOk md ops (listed.setIfInBounds i true) r
def wpLine (P : Program) (ops : Array Oper) (Q : Exit → Act → World → Prop) : (World → Prop) → List (Nat × Bool) → Act → World → Prop
 | _, [], a, w => Q .normal a w
 | S, (i, true) :: r, a, w => ∃ o v, ops[i]? = some o ∧ YieldsIf P ops S o v a ∧ wpLine P ops Q S r (a.put o.dst v) w
 | S, (i, false) :: r, a, w => wpOp P ops Q i (fun a' w' => ∃ S' : World → Prop, S' w' ∧ (∀ x, S' x → S x) ∧ wpLine P ops Q S' r a' w') a w
theorem wpAnyH_weaken {P : Program} {ops : Array Oper} {Q : Exit → Act → World → Prop} {md : Region.Mode} {S S' : World → Prop} (hs : ∀ x, S' x → S x) :
   ∀ (n : Nat) (listed : Array Bool) (a : Act) (w : World), wpAnyH P md ops Q S' n listed a w → wpAnyH P md ops Q S n listed a w
 | 0, _, _, _, h => h
 | n + 1, _, _, _, h => ⟨h.1, fun i hi => wpOp_mono (fun _ _ h' => ⟨hs _ h'.1, wpAnyH_weaken hs n _ _ _ h'.2⟩) (h.2 i hi)⟩
theorem wpLine_any {P : Program} {ops : Array Oper} {Q : Exit → Act → World → Prop} {md : Region.Mode} (hsel : Region.noSelect ops = true)
   (hQ : ∀ c a w d v, Q (.panic c) (a.put d v) w → Q (.panic c) a w) :
   ∀ (l : List (Nat × Bool)) (S : World → Prop) (listed : Array Bool) (a : Act) (w : World), lineOk md ops listed l = true → S w → wpLine P ops Q S l a w → wpAnyH P md ops Q S l.length listed a w
 | [], S, listed, a, w, hl, _, h => ⟨by simpa [lineOk] using hl, h⟩
 | (i, true) :: r, S, listed, a, w, hl, hS, h => by
   obtain ⟨o, v, ho, hy, h⟩ := h
   simp only [lineOk, Bool.and_eq_true] at hl
   exact wpAnyH_take ho hsel hl.1.1 hl.1.2 (fun c a w => hQ c a w _ _) hy hS (wpLine_any hsel hQ r S _ _ w hl.2 hS h)
 | (i, false) :: r, S, listed, a, w, hl, hS, h => by
   simp only [lineOk, Bool.and_eq_true, beq_iff_eq] at hl
   refine wpAnyH_all hl.1 (by simp) ?_
   intro j hj
   simp at hj
   subst hj
   exact wpOp_mono (fun a' w' ⟨S', hS', hsub, h'⟩ => ⟨hsub _ hS', wpAnyH_weaken hsub _ _ _ _ (wpLine_any hsel hQ r S' _ _ w' hl.2 hS' h')⟩) h
theorem region_line {P : Program} {ops : Array Oper} {Q : Exit → Act → World → Prop} {id : Nat} {a : Act} {w : World} (l : List (Nat × Bool)) (S : World → Prop) (hm : P.follows .mixedOrders = true)
   (hc : (Region.noSelect ops && (l.length == ops.size) && lineOk .any ops (Array.replicate ops.size false) l) = true)
   (hQ : ∀ c a w d v, Q (.panic c) (a.put d v) w → Q (.panic c) a w) (hS : S w.drew)
   (h : wpLine P ops Q S l a w.drew) : (Code.region id ops true).wp P Q a w := by
 simp only [Bool.and_eq_true, beq_iff_eq] at hc
 refine wp_region_any hm (wpAny_of_held (S := S) _ _ _ _ ?_)
 rw [← hc.1.2]
 have := wpLine_any hc.1.1 hQ l S _ a w.drew hc.2 hS h
 rw [← hc.1.2] at this
 exact this
theorem line_read {P : Program} {ops : Array Oper} {Q : Exit → Act → World → Prop} {S : World → Prop} {i : Nat} {r : List (Nat × Bool)} {o : Oper} {a a' : Act} {w : World} (ho : ops[i]? = some o)
   (hk : (!Region.wanted o (yielded ops a.tmps) || readerOp o.op || nilGood a o.op) = true) (hd : (o.dst.any fun d => decide (d < a.tmps.size)) = true) (hS : S w)
   (h : ∀ x, S x → ∀ K : Act → World → Prop, K a' x → wpList P ops (OnlyK K) [o] a x) (hr : wpLine P ops Q S r a' w) : wpLine P ops Q S ((i, true) :: r) a w := by
 obtain ⟨v, hy, hp⟩ := reads_one hk hd hS h
 exact ⟨o, v, ho, hy, by rw [hp]; exact hr⟩
theorem line_act {P : Program} {ops : Array Oper} {Q : Exit → Act → World → Prop} {S : World → Prop} {i : Nat} {r : List (Nat × Bool)} {o : Oper} {a : Act} {w : World} (ho : ops[i]? = some o)
   (h : ∀ K : Act → World → Prop, (∀ a' w' (S' : World → Prop), S' w' → (∀ x, S' x → S x) → wpLine P ops Q S' r a' w' → K a' w') → wpList P ops (ElseQ K Q) [o] a w) : wpLine P ops Q S ((i, false) :: r) a w := by
 have h1 := h _ (fun a' w' S' h1 h2 h3 => (⟨S', h1, h2, h3⟩ : ∃ S' : World → Prop, S' w' ∧ (∀ x, S' x → S x) ∧ wpLine P ops Q S' r a' w'))
 show wpOp P ops Q i _ a w
 unfold wpOp
 simp only [ho]
 simp only [wpList] at h1
 split
 · rename_i hw
   rw [if_pos hw] at h1
   rcases h1 with h1 | ⟨h1, b, x, h2⟩
   · refine .inl ?_
     unfold Oper.wp at h1 ⊢
     generalize (execOp a.eval o).run P w = res at h1
     cases res with
     | ok n w1 =>
       cases n <;> first | exact h1 | exact Calls.mono h1 (fun e w2 he => by cases e <;> exact he) | exact Rows.mono h1 (fun _ _ he => he)
     | halt hh w1 => cases hh <;> exact h1
   · exact .inr ⟨h1, b, x, h2⟩
 · rename_i hw
   rw [if_neg hw] at h1
   exact h1
theorem line_end {P : Program} {ops : Array Oper} {Q : Exit → Act → World → Prop} {S : World → Prop} {a : Act} {w : World} (h : Q .normal a w) : wpLine P ops Q S [] a w := h
def Ext (w : World) : World → Prop := fun x => w.grownBy x none
theorem Ext.refl (w : World) : Ext w w := ⟨rfl, rfl, rfl, Nat.le_refl _, fun _ _ _ => rfl⟩
theorem Ext.drew (w : World) : Ext w w.drew := ⟨rfl, rfl, rfl, Nat.le_refl _, fun _ _ _ => rfl⟩
theorem Ext.next {w w1 : World} (h : w.grownBy w1 none) : ∀ x, Ext w1 x → Ext w x := fun _ hx =>
 ⟨hx.os.trans h.os, hx.tape.trans h.tape, hx.output.trans h.output, Nat.le_trans h.size hx.size, fun k hk hne => (hx.block k (Nat.lt_of_lt_of_le hk h.size) hne).trans (h.block k hk hne)⟩
theorem Ext.of_drew {w x : World} (h : Ext w.drew x) : Ext w x := ⟨h.os, h.tape, h.output, h.size, h.block⟩
theorem ext_trans {a b c : World} (h : Ext a b) (h2 : Ext b c) : Ext a c := Ext.next h c h2
theorem gb_drewN (w : World) (n : Nat) : w.grownBy (w.drewN n) none := ⟨rfl, rfl, rfl, Nat.le_refl _, fun _ _ _ => rfl⟩
end Go.Proofs.YtfgifgglcafadaaGreatDoor

namespace Go.Proofs.YtfgifgglcafadaaGreatDoor
set_option linter.unusedVariables false
set_option linter.unusedSimpArgs false
set_option linter.unusedVariables false
set_option linter.unusedSimpArgs false
set_option maxRecDepth 100000
open Go.RowKit
def Bts (w : World) (v : Value) (xs : List Int) : Prop :=
 (v = .slice none 0 0 ∧ xs = []) ∨ ∃ b off cap, v = .slice (some ⟨b, off, none⟩) xs.length cap ∧ xs.length ≤ cap ∧ ∀ i, i < xs.length → w.cell? ⟨b, off + i, none⟩ = some (.int .u8 (xs.getD i 0))
def Made (B : Nat) (w : World) (xs : List Int) (e : Ending) (w' : World) : Prop :=
 ∃ v', e = .returned v' ∧ w'.ownsRow B 5 1 v' xs.length (xs.map (Value.int .u8)) ∧ w.grownBy w' none
theorem Tryz.infoU8 : (Tryz.prog.info? 5).map (fun i => (i.zero, i.size, i.bytes)) = some (some (.int .u8 0), 1, 1) := by kernel_rfl
theorem bytes_new (w : World) (u : Value) (T : TypeId) : ∀ j v, [u][j]? = some v → (w.alloc (.cells #[u] T)).cell? ((⟨w.heap.size, 0, none⟩ : Addr).add j) = some v := by
 intro j v hj
 match j, hj with
 | 0, hj => simp at hj; subst hj; simp [Addr.add]
theorem cells_of {w : World} {b off : Nat} {xs : List Int} (hc : ∀ i, i < xs.length → w.cell? ⟨b, off + i, none⟩ = some (.int .u8 (xs.getD i 0))) :
   ∀ j u, (xs.map (Value.int .u8))[j]? = some u → w.cell? ((⟨b, off, none⟩ : Addr).add j) = some u := by
 intro j u hj
 rw [List.getElem?_map] at hj
 rw [addr_add]
 by_cases h : j < xs.length
 · rw [hc j h, ← hj]
   simp [List.getElem?_eq_getElem h, List.getD_eq_getElem?_getD]
 · rw [List.getElem?_eq_none (by omega)] at hj
   cases hj
theorem Tryz.eqNil22 (w : World) (a : Option Addr) (n c : Nat) : (binOp .eql 73 (.slice a n c) (.slice none 0 0)).run Tryz.prog w = .ok (.bool a.isNone) w := Lib.run_eql_slice_nil w 73 5 a n c 0 0 Tryz.underlying73
attribute [local go_sem] Tryz.eqNil22
theorem grown_trans {w w1 w2 : World} {r r2 : Option Nat} (h1 : w.grownBy w1 r) (h2 : w1.grownBy w2 r2) (h : ∀ k, r2 = some k → k < w.heap.size → some k = r) : w.grownBy w2 r :=
 ⟨h2.os.trans h1.os, h2.tape.trans h1.tape, h2.output.trans h1.output, Nat.le_trans h1.size h2.size, fun k hk hne =>
   (h2.block k (Nat.lt_of_lt_of_le hk h1.size) (fun e => hne (h k e.symm hk))).trans (h1.block k hk hne)⟩
theorem cell_past {w : World} {a : Addr} {v : Value} (h : w.cell? a = some v) (o : Obj) : (w.alloc o).cell? a = some v := by
 rw [World.cell?_alloc_old _ _ _ (Nat.ne_of_lt (World.block_lt_of_cell? w _ h))]
 exact h
theorem Bts.nil {w : World} {n cap : Nat} {xs : List Int} (h : Bts w (.slice none n cap) xs) : xs = [] := by
 rcases h with ⟨_, h2⟩ | ⟨b, off, c, h1, _⟩
 · exact h2
 · simp at h1
theorem Bts.cells {w : World} {a : Addr} {n cap : Nat} {xs : List Int} (h : Bts w (.slice (some a) n cap) xs) : ∀ j u, (xs.map (Value.int .u8))[j]? = some u → w.cell? (a.add j) = some u := by
 rcases h with ⟨h1, _⟩ | ⟨b, off, c, h1, _, h3⟩
 · simp at h1
 · simp at h1
   obtain ⟨rfl, _, _⟩ := h1
   exact cells_of h3
theorem ownsRow_le {w : World} {B B' : Nat} {e : TypeId} {size : Nat} {v : Value} {n : Nat} {xs : List Value} (h : w.ownsRow B e size v n xs) (hB : B' ≤ B) : w.ownsRow B' e size v n xs := by
 obtain ⟨h1, h2⟩ := h
 refine ⟨h1, ?_⟩
 rcases h2 with h2 | ⟨g, cap, cur, hv, hg, r⟩
 · exact Or.inl h2
 · exact Or.inr ⟨g, cap, cur, hv, Nat.le_trans hB hg, r⟩
theorem grown_alloc {w w1 : World} {r : Option Nat} (h : w.grownBy w1 r) (o : Obj) : w.grownBy (w1.alloc o) r :=
 grown_trans h (World.grownBy_alloc w1 o none) (fun k hk _ => by cases hk)
theorem grown_drew {w w1 : World} {r : Option Nat} (h : w.grownBy w1 r) : w.grownBy w1.drew r := ⟨h.os, h.tape, h.output, h.size, h.block⟩
end Go.Proofs.YtfgifgglcafadaaGreatDoor

namespace Go.Proofs.YtfgifgglcafadaaGreatDoor
set_option linter.unusedVariables false
set_option linter.unusedSimpArgs false
set_option linter.unusedVariables false
set_option linter.unusedSimpArgs false
set_option maxRecDepth 100000
open Go.RowKit
def Ints (w : World) (v : Value) (xs : List Int) : Prop :=
 (v = .slice none 0 0 ∧ xs = []) ∨ (∃ b off cap, v = .slice (some ⟨b, off, none⟩) xs.length cap ∧ xs.length ≤ cap ∧ ∀ i, i < xs.length → w.cell? ⟨b, off + i, none⟩ = some (.int .i64 (xs.getD i 0))) ∨
   ∃ a cap, v = .slice (some a) 0 cap ∧ xs = []
theorem Ints.form {w : World} {v : Value} {xs : List Int} (h : Ints w v xs) : ∃ ao cap b off, v = .slice ao xs.length cap ∧ ∀ k, k < xs.length → ao = some ⟨b, off, none⟩ ∧ w.cell? ⟨b, off + k, none⟩ = some (.int .i64 (xs.getD k 0)) := by
 rcases h with ⟨rfl, rfl⟩ | ⟨b, off, cap, rfl, _, hc⟩ | ⟨a, cap, rfl, rfl⟩
 · exact ⟨none, 0, 0, 0, rfl, fun k hk => by simp at hk⟩
 · exact ⟨_, cap, b, off, rfl, fun k hk => ⟨rfl, hc k hk⟩⟩
 · exact ⟨_, cap, 0, 0, rfl, fun k hk => by simp at hk⟩
theorem Ints.two {w : World} {v : Value} {xs : List Int} (h : Ints w v xs) : (v = .slice none 0 0 ∧ xs = []) ∨ ∃ a cap, v = .slice (some a) xs.length cap ∧ xs.length ≤ cap ∧ ∀ i, i < xs.length → w.cell? (a.add i) = some (.int .i64 (xs.getD i 0)) := by
 rcases h with h | ⟨b, off, cap, rfl, h2, h3⟩ | ⟨a, cap, rfl, rfl⟩
 · exact .inl h
 · exact .inr ⟨_, cap, rfl, h2, fun i hi => by rw [addr_add]; exact h3 i hi⟩
 · exact .inr ⟨a, cap, rfl, Nat.zero_le _, fun i hi => by simp at hi⟩
theorem Ints.kept {w w' : World} {v : Value} {xs : List Int} {r : Option Nat} (h : Ints w v xs) (hg : w.grownBy w' r) (hne : ∀ k, v.ownBlock = some k → some k ≠ r) : Ints w' v xs := by
 rcases h with h | ⟨b, off, cap, rfl, h2, h3⟩ | h
 · exact .inl h
 · exact .inr (.inl ⟨b, off, cap, rfl, h2, fun i hi => hg.cell (h3 i hi) (hne b rfl)⟩)
 · exact .inr (.inr h)
theorem index_any (v : Value) (xs : List Int) (n : Int) (w : World) (hb : Ints w v xs) (hm : xs.length ≤ 9223372036854775807) :
   Calls Tryz.prog 283 #[v, .int .i64 n] w fun e w' => ∃ r : Int, e = .returned (.int .i64 r) ∧ w = w' ∧ ((0 ≤ r ∧ n ∈ xs) ∨ (r < 0 ∧ n ∉ xs)) := by
 obtain ⟨ao, cap, b, off, rfl, hc⟩ := hb.form
 have HC := Lib.hid hc
 clear hc hb
 go_enter Tryz.func283, Tryz.ntmps283
 go_wp2
 go_loopw [8] (fun i wr => ∃ k : Nat, k ≤ xs.length ∧ i = .int .i64 k ∧ (∀ j, j < k → xs.getD j 0 ≠ n) ∧ w = wr) (fun i _ => xs.length - (intOf i).toNat)
 case atStart => exact ⟨0, by omega, rfl, fun j hj => by omega, rfl⟩
 case round =>
   obtain ⟨k, hk, rfl, hnot, rfl⟩ := hrel
   have NOT := Lib.hid hnot
   clear hnot
   by_cases hlt : k < xs.length
   · obtain ⟨rfl, hcell⟩ := HC.out k hlt
     obtain ⟨x, hx⟩ : ∃ x, xs.getD k 0 = x := ⟨_, rfl⟩
     rw [hx] at hcell
     have HX := Lib.hid hx
     clear hx
     by_cases he : n = x
     · subst he
       go_wp2
       go_ret
       refine ⟨_, rfl, rfl, .inl ⟨by omega, ?_⟩⟩
       have := HX.out
       rw [List.getD_eq_getElem?_getD, List.getElem?_eq_getElem hlt] at this
       simp only [Option.getD_some] at this
       rw [← this]
       exact List.getElem_mem hlt
     · have hne : (n == x) = false := by simpa using he
       clear he
       go_wp2
       go_roundw
       case rel =>
         refine ⟨k + 1, by omega, by go_num, fun j hj => ?_, trivial⟩
         by_cases e : j = k
         · subst e; rw [HX.out]; intro h; subst h; simp at hne
         · exact NOT.out j (by omega)
       case measure => simp [intOf]; omega
   · obtain rfl : k = xs.length := by omega
     go_wp2
     go_ret
     refine ⟨_, rfl, rfl, .inr ⟨by omega, fun hmem => ?_⟩⟩
     obtain ⟨j, hj, hjn⟩ := List.mem_iff_getElem.1 hmem
     refine NOT.out j hj ?_
     rw [List.getD_eq_getElem?_getD, List.getElem?_eq_getElem hj]
     exact hjn
theorem contains_any (v : Value) (xs : List Int) (n : Int) (w : World) (hb : Ints w v xs) (hm : xs.length ≤ 9223372036854775807) :
   Calls Tryz.prog 250 #[v, .int .i64 n] w fun e w' => e = .returned (.bool (decide (n ∈ xs))) ∧ w = w' := by
 have I := index_any v xs n w hb hm
 obtain ⟨ao, cap, b, off, rfl, hc⟩ := hb.form
 clear hc hb
 go_enter Tryz.func250, Tryz.ntmps250
 go_wp2_with (go_at_call 283; refine I.mono ?_; rintro e w' ⟨r, rfl, rfl, hr⟩; have HR := Lib.hid hr; clear hr)
 go_ret
 rcases HR.out with ⟨h1, h2⟩ | ⟨h1, h2⟩
 · exact ⟨by simp [h1, h2], rfl⟩
 · exact ⟨by simp [h2]; omega, rfl⟩
theorem below_any (n : Int) (w : World) : Calls Tryz.prog 86 #[.int .i64 n] w fun e w' => e = .returned (.bool (decide (n < 1))) ∧ w = w' := by
 go_enter Tryz.func86, Tryz.ntmps86
 go_wp2
 go_ret
 exact ⟨rfl, rfl⟩
theorem indexFunc_any (v : Value) (xs : List Int) (w : World) (hb : Ints w v xs) (hm : xs.length ≤ 9223372036854775807) :
   Calls Tryz.prog 129 #[v, .func (.func 86) #[] #[]] w fun e w' => ∃ r : Int, e = .returned (.int .i64 r) ∧ w = w' ∧ ((0 ≤ r ∧ ∃ n ∈ xs, n < 1) ∨ (r < 0 ∧ ∀ n ∈ xs, ¬ n < 1)) := by
 obtain ⟨ao, cap, b, off, rfl, hc⟩ := hb.form
 have HC := Lib.hid hc
 clear hc hb
 go_enter Tryz.func129, Tryz.ntmps129
 go_wp2
 go_loopw [8] (fun i wr => ∃ k : Nat, k ≤ xs.length ∧ i = .int .i64 k ∧ (∀ j, j < k → ¬ xs.getD j 0 < 1) ∧ w = wr) (fun i _ => xs.length - (intOf i).toNat)
 case atStart => exact ⟨0, by omega, rfl, fun j hj => by omega, rfl⟩
 case round =>
   obtain ⟨k, hk, rfl, hnot, rfl⟩ := hrel
   have NOT := Lib.hid hnot
   clear hnot
   by_cases hlt : k < xs.length
   · obtain ⟨rfl, hcell⟩ := HC.out k hlt
     obtain ⟨x, hx⟩ : ∃ x, xs.getD k 0 = x := ⟨_, rfl⟩
     rw [hx] at hcell
     have HX := Lib.hid hx
     clear hx
     by_cases he : x < 1
     · go_wp2_with (go_at_call 86; refine (below_any _ _).mono ?_; rintro e w' ⟨rfl, rfl⟩)
       go_ret
       refine ⟨_, rfl, rfl, .inl ⟨by omega, x, ?_, he⟩⟩
       have := HX.out
       rw [List.getD_eq_getElem?_getD, List.getElem?_eq_getElem hlt] at this
       simp only [Option.getD_some] at this
       rw [← this]
       exact List.getElem_mem hlt
     · go_wp2_with (go_at_call 86; refine (below_any _ _).mono ?_; rintro e w' ⟨rfl, rfl⟩)
       go_roundw
       case rel =>
         refine ⟨k + 1, by omega, by go_num, fun j hj => ?_, trivial⟩
         by_cases e : j = k
         · subst e; rw [HX.out]; omega
         · have := NOT.out j (by omega); omega
       case measure => simp [intOf]; omega
   · obtain rfl : k = xs.length := by omega
     go_wp2
     go_ret
     refine ⟨_, rfl, rfl, .inr ⟨by omega, fun n hmem => ?_⟩⟩
     obtain ⟨j, hj, hjn⟩ := List.mem_iff_getElem.1 hmem
     have := NOT.out j hj
     rw [List.getD_eq_getElem?_getD, List.getElem?_eq_getElem hj] at this
     simp only [Option.getD_some] at this
     rw [← hjn]
     exact this
def lowB (xs : List Int) : Bool := xs.any fun n => decide (n < 1)
theorem containsFunc_any (v : Value) (xs : List Int) (w : World) (hb : Ints w v xs) (hm : xs.length ≤ 9223372036854775807) :
   Calls Tryz.prog 85 #[v, .func (.func 86) #[] #[]] w fun e w' => e = .returned (.bool (lowB xs)) ∧ w = w' := by
 have I := indexFunc_any v xs w hb hm
 obtain ⟨ao, cap, b, off, rfl, hc⟩ := hb.form
 clear hc hb
 go_enter Tryz.func85, Tryz.ntmps85
 go_wp2_with (go_at_call 129; refine I.mono ?_; rintro e w' ⟨r, rfl, rfl, hr⟩; have HR := Lib.hid hr; clear hr)
 go_ret
 rcases HR.out with ⟨h1, h2⟩ | ⟨h1, h2⟩
 · have : lowB xs = true := by simpa [lowB] using h2
   exact ⟨by simp [this, h1], rfl⟩
 · have : lowB xs = false := by simp [lowB]; intro n hn; have := h2 n hn; omega
   exact ⟨by simp [this]; omega, rfl⟩
theorem Tryz.infoInt : (Tryz.prog.info? 3).map (fun i => (i.zero, i.size, i.bytes)) = some (some (.int .i64 0), 1, 8) := by kernel_rfl
theorem Tryz.eqNilInts (w : World) (a : Option Addr) (n c : Nat) : (binOp .eql 24 (.slice a n c) (.slice none 0 0)).run Tryz.prog w = .ok (.bool a.isNone) w := Lib.run_eql_slice_nil w 24 3 a n c 0 0 Tryz.underlying24
attribute [local go_sem] Tryz.eqNilInts
def Cloned (w : World) (xs : List Int) (e : Ending) (w' : World) : Prop := ∃ v', e = .returned v' ∧ Ints w' v' xs ∧ w.grownBy w' none ∧ (∀ k, v'.ownBlock = some k → w.heap.size ≤ k ∧ k < w'.heap.size)
theorem owns_ints {w : World} {B : Nat} {v : Value} {xs : List Int} {n : Nat} (hn : n = xs.length) (h : w.ownsRow B 3 1 v n (xs.map (Value.int .i64))) : Ints w v xs := by
 subst hn
 rcases h.2 with ⟨h2, h3⟩ | ⟨g, cap, cur, rfl, hg, hh, hc, _⟩
 · exact .inl ⟨h2, List.length_eq_zero_iff.1 h3⟩
 · refine .inr (.inl ⟨g, 0, cap, rfl, hc, fun i hi => ?_⟩)
   rw [Nat.zero_add, h.cellAt i (by omega), List.getElem?_map, List.getElem?_eq_getElem hi, List.getD_eq_getElem?_getD, List.getElem?_eq_getElem hi]
   rfl
theorem clonei_any (v : Value) (xs : List Int) (w : World) (hb : Ints w v xs) (hm : xs.length ≤ 64) :
   Calls Tryz.prog 87 #[v] w (Cloned w xs) := by
 obtain ⟨i0, hi, hz0, hz1, hz2⟩ := info_parts Tryz.infoInt
 rcases hb.two with ⟨rfl, rfl⟩ | ⟨sa, cap, rfl, _, hc⟩
 · go_enter Tryz.func87, Tryz.ntmps87
   go_wp2
   go_ret
   exact ⟨_, rfl, .inl ⟨rfl, rfl⟩, ⟨rfl, rfl, rfl, Nat.le_refl _, fun _ _ _ => rfl⟩, fun k hk => by simp [Value.ownBlock] at hk⟩
 · have hown := World.ownsRow_made (base := w.heap.size) (e := 3) (size := 1) w #[] 0 (Nat.le_refl _) (Nat.zero_le _) rfl
   have HC := Lib.hid hc
   clear hc
   go_enter Tryz.func87, Tryz.ntmps87
   go_wp2_with (at_builtin; go_loud (refine wpList_append_own _ rfl _ _ 24 rfl w.heap.size 3 i0 (.int .i64 0) 1 8 Tryz.underlying24 hi hz0 hz1 hz2 rfl (by decide) _ _ _ rfl hown sa xs.length cap (xs.map (Value.int .i64)) rfl (by simp) ?c1 ?c2 ?c3 ?c4 ?c5 ?_))
   case c1 =>
     intro j u hj
     rw [List.getElem?_map] at hj
     by_cases h : j < xs.length
     · rw [List.getElem?_eq_getElem h] at hj
       have h2 := HC.out j h
       rw [World.cell?_alloc_old _ _ _ (Nat.ne_of_lt (World.block_lt_of_cell? w _ h2)), h2, ← hj]
       simp [List.getElem?_eq_getElem h, List.getD_eq_getElem?_getD]
     · rw [List.getElem?_eq_none (by omega)] at hj
       cases hj
   case c2 => exact ints_oneCell _ _
   case c3 => unfold maxLen; omega
   case c4 => omega
   case c5 => simp
   intro v' w1 hown' hgrow _
   have hown2 : w1.ownsRow w.heap.size 3 1 v' xs.length (xs.map (Value.int .i64)) := by simpa using hown'
   go_wp2
   go_ret
   exact ⟨v', rfl, owns_ints rfl hown2, grown_trans (World.grownBy_alloc w _ none) hgrow (fun k hk h => by simp [Value.ownBlock] at hk; omega), hown2.lt⟩
end Go.Proofs.YtfgifgglcafadaaGreatDoor

namespace Go.Proofs.YtfgifgglcafadaaGreatDoor
set_option linter.unusedVariables false
set_option linter.unusedSimpArgs false
set_option linter.unusedVariables false
set_option linter.unusedSimpArgs false
set_option maxRecDepth 100000
open Go.RowKit
section
variable {P : Program} {ops : Array Oper} {rest : List Oper} {o : Oper} {a : Act} {w : World} {Q : Exit → Act → World → Prop}
theorem wpList_want (hwt : Region.wanted o (yielded ops a.tmps) = true) (h : ∀ K : Act → World → Prop, (∀ a w, wpList P ops Q rest a w → K a w) → o.wp P a w K Q) : wpList P ops Q (o :: rest) a w := by
 unfold wpList
 rw [if_pos hwt]
 exact .inl (h _ (fun _ _ h => h))
theorem wpList_pass {a' : Act} (hw : Region.wanted o (yielded ops a.tmps) = false) (ha : a.put o.dst undef = a') (h : wpList P ops Q rest a' w) : wpList P ops Q (o :: rest) a w := by
 unfold wpList
 rw [if_neg (by rw [hw]; simp), ha]
 exact h
theorem wpList_load_part (hwt : Region.wanted o (yielded ops a.tmps) = true) (ty : TypeId) (x : Operand) (ho : o.op = .load ty x)
   (g off n : Nat) (hx : a.eval x = .pointer (some ⟨g, off, none⟩)) (t : TypeId) (C : Array Value) (fr : Nat × Nat) (d : TypeDesc) (cs : Array Value) (hg : w.heap[g]? = some (.cells C t fr))
   (hcs : C.extract off (off + n) = cs) (hn : cs.size = n) (hu : P.underlying ty = some d) (hd : d.isRow = true) (hi : (P.info? ty).map (·.size) = some n)
   (h : wpList P ops Q rest (a.put o.dst (.agg cs)) w) : wpList P ops Q (o :: rest) a w := by
 refine wpList_want hwt fun K hK => wp_load_mid ty x ho g off hx cs.toList d ?_ hu hd (by rw [hi]; simp [hn]) (hK _ _ (by simpa using h))
 have := World.rangeAt_of_block hg off n
 rw [hcs] at this
 exact this
theorem wpList_store_part (hwt : Region.wanted o (yielded ops a.tmps) = true) (ty : TypeId) (x y : Operand) (ho : o.op = .store ty x y)
   (g off n : Nat) (cs : Array Value) (hx : a.eval x = .pointer (some ⟨g, off, none⟩)) (hy : a.eval y = .agg cs) (t : TypeId) (C C' : Array Value) (hg : w.heap[g]? = some (.cells C t (0, 0)))
   (hn : cs.size = n) (hi : (P.info? ty).map (·.size) = some n) (hfit : off + n ≤ C.size) (h1 : cs.all (·.oneCell') = true) (hC' : (C.toList.take off ++ cs.toList ++ C.toList.drop (off + cs.toList.length)).toArray = C')
   (h : ∀ w', w'.heap[g]? = some (.cells C' t (0, 0)) → w.grownBy w' (some g) → w'.heap.size = w.heap.size → wpList P ops Q rest (a.put o.dst undef) w') : wpList P ops Q (o :: rest) a w := by
 refine wpList_want hwt fun K hK => ?_
 have hst := run_storeCells_at P g off t cs.toList 0 C w hg (by simp; omega) (fun v hv => (Array.all_eq_true_iff_forall_mem.1 h1) v (by simpa using hv))
 have hrun : (storeVar ty ⟨g, off, none⟩ (.agg cs)).run P w = .ok () (w.setRow g C') := by
   cases hq : P.info? ty with
   | none => simp [hq] at hi
   | some i =>
     have hs : i.size = cs.size := by simp [hq] at hi; omega
     rw [← hC']
     simpa [storeVar, sizeOf, typeInfo, hq, Value.cells, hs] using hst
 have hlt : g < w.heap.size := (Array.getElem?_eq_some_iff.1 hg).1
 unfold Oper.wp execOp
 simp only [ho, hx, hy, Instr.storeAt, Instr.sureAddr, Sem.run_bind, Sem.run_pure, Result.andThen_ok, hrun]
 exact hK _ _ (h _ (setRow_heap w g C C' t _ hg) ⟨rfl, rfl, rfl, by simp, fun k _ hne => setRow_other w g k C' (fun e => hne (by rw [e]))⟩ (by simp))
end
structure Ten where
 th : Bool
 ep : Int
 sz : Int
 sp : Int
 bs : List Int
structure Led where
 gen : Int
 eps : Int
 t : Nat → Ten
def noTen : Ten := ⟨false, 0, 0, 0, []⟩
def noLed : Led := ⟨0, 0, fun _ => noTen⟩
abbrev nilS : Value := .slice none 0 0
def tenC (x : Ten) (v : Value) : Array Value := #[.bool x.th, .int .i64 x.ep, .int .i64 x.sz, .int .i64 x.sp, v]
def ledC (L : Led) (V : Nat → Value) : Array Value :=
 #[.int .i64 L.gen, .int .i64 L.eps,
   .bool (L.t 0).th, .int .i64 (L.t 0).ep, .int .i64 (L.t 0).sz, .int .i64 (L.t 0).sp, V 0,
   .bool (L.t 1).th, .int .i64 (L.t 1).ep, .int .i64 (L.t 1).sz, .int .i64 (L.t 1).sp, V 1,
   .bool (L.t 2).th, .int .i64 (L.t 2).ep, .int .i64 (L.t 2).sz, .int .i64 (L.t 2).sp, V 2,
   .bool (L.t 3).th, .int .i64 (L.t 3).ep, .int .i64 (L.t 3).sz, .int .i64 (L.t 3).sp, V 3]
def tensC (L : Led) (V : Nat → Value) : Array Value :=
 #[.bool (L.t 0).th, .int .i64 (L.t 0).ep, .int .i64 (L.t 0).sz, .int .i64 (L.t 0).sp, V 0,
   .bool (L.t 1).th, .int .i64 (L.t 1).ep, .int .i64 (L.t 1).sz, .int .i64 (L.t 1).sp, V 1,
   .bool (L.t 2).th, .int .i64 (L.t 2).ep, .int .i64 (L.t 2).sz, .int .i64 (L.t 2).sp, V 2,
   .bool (L.t 3).th, .int .i64 (L.t 3).ep, .int .i64 (L.t 3).sz, .int .i64 (L.t 3).sp, V 3]
theorem ledC_size (L : Led) (V : Nat → Value) : (ledC L V).size = 22 := rfl
theorem led_tens (L : Led) (V : Nat → Value) : (ledC L V).extract 2 (2 + 20) = tensC L V := by simp [ledC, tensC]
theorem led_all (L : Led) (V : Nat → Value) : (ledC L V).extract 0 (0 + 22) = ledC L V := by simp [ledC]
theorem ten_all (x : Ten) (v : Value) : (tenC x v).extract 0 (0 + 5) = tenC x v := rfl
def SliceV (v : Value) : Prop := ∃ a n c, v = .slice a n c
theorem Ints.slice {w : World} {v : Value} {xs : List Int} (h : Ints w v xs) : SliceV v := by
 obtain ⟨ao, cap, _, _, rfl, _⟩ := h.form
 exact ⟨_, _, _, rfl⟩
theorem ten_one (x : Ten) {v : Value} (h : SliceV v) : (tenC x v).all (·.oneCell') = true := by
 obtain ⟨a, n, c, rfl⟩ := h
 simp [tenC, Value.oneCell']
theorem led_one (L : Led) {V : Nat → Value} (h : ∀ j, j < 4 → SliceV (V j)) : (ledC L V).all (·.oneCell') = true := by
 obtain ⟨_, _, _, h0⟩ := h 0 (by omega)
 obtain ⟨_, _, _, h1⟩ := h 1 (by omega)
 obtain ⟨_, _, _, h2⟩ := h 2 (by omega)
 obtain ⟨_, _, _, h3⟩ := h 3 (by omega)
 simp [ledC, h0, h1, h2, h3, Value.oneCell']
def Blk (w : World) (g : Nat) (t : TypeId) (cs : Array Value) : Prop := w.heap[g]? = some (.cells cs t (0, 0))
section
variable {w w' : World} {g : Nat} {t : TypeId} {cs : Array Value}
theorem Blk.lt (h : Blk w g t cs) : g < w.heap.size := (Array.getElem?_eq_some_iff.1 h).1
theorem Blk.cell (h : Blk w g t cs) (i : Nat) : w.cell? ⟨g, i, none⟩ = cs[i]? := cell_of_row w g i cs t (0, 0) h
theorem Blk.free (h : Blk w g t cs) (i : Nat) : w.frozen? ⟨g, i, none⟩ = false := frozen_of_row w g i cs t h
theorem Blk.kept {r : Option Nat} (h : Blk w g t cs) (hg : w.grownBy w' r) (hne : some g ≠ r) : Blk w' g t cs := (hg.block g h.lt hne).trans h
theorem Blk.ext (h : Blk w g t cs) (hg : w.grownBy w' none) : Blk w' g t cs := h.kept hg (by simp)
theorem Blk.alloc (h : Blk w g t cs) (o : Obj) : Blk (w.alloc o) g t cs := h.ext (World.grownBy_alloc w o none)
theorem Blk.new (w : World) (t : TypeId) (cs : Array Value) : Blk (w.alloc (.cells cs t)) w.heap.size t cs := heap_alloc_new w _
theorem Blk.newAt (w : World) (n : Nat) (hn : w.heap.size = n) (t : TypeId) (cs : Array Value) : Blk (w.alloc (.cells cs t)) n t cs := by subst hn; exact Blk.new w t cs
theorem Blk.set (h : Blk w g t cs) (i : Nat) (v : Value) : Blk (w.setCell ⟨g, i, none⟩ v) g t (cs.setIfInBounds i v) := heap_setCell_same w g i cs t v h
theorem Blk.far (h : Blk w g t cs) {a : Addr} (hne : g ≠ a.block) (v : Value) : Blk (w.setCell a v) g t cs := (heap_setCell_other w a g v hne).trans h
theorem Blk.drew (h : Blk w g t cs) : Blk w.drew g t cs := h
end
theorem led_th (L : Led) (V : Nat → Value) {k : Nat} (h : k < 4) : (ledC L V)[2 + k * 5]? = some (.bool (L.t k).th) := by
 obtain rfl | rfl | rfl | rfl : k = 0 ∨ k = 1 ∨ k = 2 ∨ k = 3 := by omega
 all_goals rfl
theorem led_bs (L : Led) (V : Nat → Value) {k : Nat} (h : k < 4) : (ledC L V)[2 + k * 5 + 4]? = some (V k) := by
 obtain rfl | rfl | rfl | rfl : k = 0 ∨ k = 1 ∨ k = 2 ∨ k = 3 := by omega
 all_goals rfl
theorem led_gen (L : Led) (V : Nat → Value) : (ledC L V)[0]? = some (.int .i64 L.gen) := rfl
theorem led_eps (L : Led) (V : Nat → Value) : (ledC L V)[1]? = some (.int .i64 L.eps) := rfl
theorem led_ten (L : Led) (V : Nat → Value) {k : Nat} (h : k < 4) : (ledC L V).extract (2 + k * 5) (2 + k * 5 + 5) = tenC (L.t k) (V k) := by
 obtain rfl | rfl | rfl | rfl : k = 0 ∨ k = 1 ∨ k = 2 ∨ k = 3 := by omega
 all_goals rfl
theorem tens_at (L : Led) (V : Nat → Value) {k : Nat} (h : k < 4) (w : World) : (Instr.index 54 (.agg (tensC L V)) (.int .i64 k)).run Tryz.prog w = .ok (.agg (tenC (L.t k) (V k))) w := by
 obtain rfl | rfl | rfl | rfl : k = 0 ∨ k = 1 ∨ k = 2 ∨ k = 3 := by omega
 all_goals kernel_rfl
def updT (L : Led) (k : Nat) (x : Ten) : Led := { L with t := fun j => if j = k then x else L.t j }
def updV (V : Nat → Value) (k : Nat) (v : Value) : Nat → Value := fun j => if j = k then v else V j
theorem led_setV (L : Led) (V : Nat → Value) {k : Nat} (h : k < 4) (v : Value) : (ledC L V).setIfInBounds (2 + k * 5 + 4) v = ledC L (updV V k v) := by
 obtain rfl | rfl | rfl | rfl : k = 0 ∨ k = 1 ∨ k = 2 ∨ k = 3 := by omega
 all_goals rfl
theorem led_setT (L : Led) (V : Nat → Value) {k : Nat} (h : k < 4) (x : Ten) (v : Value) : ((ledC L V).toList.take (2 + k * 5) ++ (tenC x v).toList ++ (ledC L V).toList.drop (2 + k * 5 + (tenC x v).toList.length)).toArray = ledC (updT L k x) (updV V k v) := by
 obtain rfl | rfl | rfl | rfl : k = 0 ∨ k = 1 ∨ k = 2 ∨ k = 3 := by omega
 all_goals rfl
theorem led_setGen (L : Led) (V : Nat → Value) (n : Int) : (ledC L V).setIfInBounds 0 (.int .i64 n) = ledC { L with gen := n } V := rfl
theorem led_setEps (L : Led) (V : Nat → Value) (n : Int) : (ledC L V).setIfInBounds 1 (.int .i64 n) = ledC { L with eps := n } V := rfl
def LedIs (w : World) (L : Led) (V : Nat → Value) : Prop := ∀ j, j < 4 → Ints w (V j) (L.t j).bs
theorem LedIs.kept {w w' : World} {L : Led} {V : Nat → Value} {r : Option Nat} (h : LedIs w L V) (hg : w.grownBy w' r) (hne : ∀ j, j < 4 → ∀ k, (V j).ownBlock = some k → some k ≠ r) : LedIs w' L V := fun j hj => (h j hj).kept hg (hne j hj)
theorem LedIs.ext {w w' : World} {L : Led} {V : Nat → Value} (h : LedIs w L V) (hg : w.grownBy w' none) : LedIs w' L V := h.kept hg (by simp)
theorem LedIs.slices {w : World} {L : Led} {V : Nat → Value} (h : LedIs w L V) : ∀ j, j < 4 → SliceV (V j) := fun j hj => (h j hj).slice
theorem noLed_is (w : World) : LedIs w noLed (fun _ => nilS) := fun _ _ => .inl ⟨rfl, rfl⟩
theorem Tryz.sizeLed : (Tryz.prog.info? 56).map (·.size) = some 22 := by kernel_rfl
theorem Tryz.sizeTen : (Tryz.prog.info? 53).map (·.size) = some 5 := by kernel_rfl
theorem Tryz.sizeTens : (Tryz.prog.info? 54).map (·.size) = some 20 := by kernel_rfl
section
variable {ops : Array Oper} {rest : List Oper} {o : Oper} {a : Act} {w : World} {Q : Exit → Act → World → Prop}
theorem led_load (x : Operand) (ho : o.op = .load 56 x) {g : Nat} (hx : a.eval x = .pointer (some ⟨g, 0, none⟩)) {L : Led} {V : Nat → Value} (hg : Blk w g 56 (ledC L V)) (hwt : Region.wanted o (yielded ops a.tmps) = true)
   (h : wpList Tryz.prog ops Q rest (a.put o.dst (.agg (ledC L V))) w) : wpList Tryz.prog ops Q (o :: rest) a w :=
 wpList_load_part hwt _ x ho g 0 22 hx _ _ _ _ _ hg (led_all L V) rfl Tryz.underlying56 rfl Tryz.sizeLed h
theorem tens_load (x : Operand) (ho : o.op = .load 54 x) {g : Nat} (hx : a.eval x = .pointer (some ⟨g, 2, none⟩)) {L : Led} {V : Nat → Value} (hg : Blk w g 56 (ledC L V)) (hwt : Region.wanted o (yielded ops a.tmps) = true)
   (h : wpList Tryz.prog ops Q rest (a.put o.dst (.agg (tensC L V))) w) : wpList Tryz.prog ops Q (o :: rest) a w :=
 wpList_load_part hwt _ x ho g 2 20 hx _ _ _ _ _ hg (led_tens L V) rfl Tryz.underlying54 rfl Tryz.sizeTens h
theorem ten_load (x : Operand) (ho : o.op = .load 53 x) {g : Nat} (hx : a.eval x = .pointer (some ⟨g, 0, none⟩)) {y : Ten} {v : Value} (hg : Blk w g 53 (tenC y v)) (hwt : Region.wanted o (yielded ops a.tmps) = true)
   (h : wpList Tryz.prog ops Q rest (a.put o.dst (.agg (tenC y v))) w) : wpList Tryz.prog ops Q (o :: rest) a w :=
 wpList_load_part hwt _ x ho g 0 5 hx _ _ _ _ _ hg (ten_all y v) rfl Tryz.underlying53 rfl Tryz.sizeTen h
theorem ten_load_in (x : Operand) (ho : o.op = .load 53 x) {g k : Nat} (hk : k < 4) (hx : a.eval x = .pointer (some ⟨g, 2 + k * 5, none⟩)) {L : Led} {V : Nat → Value} (hg : Blk w g 56 (ledC L V)) (hwt : Region.wanted o (yielded ops a.tmps) = true)
   (h : wpList Tryz.prog ops Q rest (a.put o.dst (.agg (tenC (L.t k) (V k)))) w) : wpList Tryz.prog ops Q (o :: rest) a w :=
 wpList_load_part hwt _ x ho g (2 + k * 5) 5 hx _ _ _ _ _ hg (led_ten L V hk) rfl Tryz.underlying53 rfl Tryz.sizeTen h
theorem led_store (x y : Operand) (ho : o.op = .store 56 x y) {g : Nat} (hx : a.eval x = .pointer (some ⟨g, 0, none⟩)) {L : Led} {V : Nat → Value} (hy : a.eval y = .agg (ledC L V)) {old : Array Value} (hg : Blk w g 56 old) (hold : old.size = 22) (hV : ∀ j, j < 4 → SliceV (V j)) (hwt : Region.wanted o (yielded ops a.tmps) = true)
   (h : ∀ w', Blk w' g 56 (ledC L V) → w.grownBy w' (some g) → w'.heap.size = w.heap.size → wpList Tryz.prog ops Q rest (a.put o.dst undef) w') : wpList Tryz.prog ops Q (o :: rest) a w :=
 wpList_store_part hwt _ x y ho g 0 22 _ hx hy _ old _ hg rfl Tryz.sizeLed (by omega) (led_one L hV) (by
   have h1 : (ledC L V).toList.length = 22 := rfl
   rw [h1, List.drop_of_length_le (by simp; omega)]
   simp) h
theorem ten_store (x y : Operand) (ho : o.op = .store 53 x y) {g : Nat} (hx : a.eval x = .pointer (some ⟨g, 0, none⟩)) {z : Ten} {v : Value} (hy : a.eval y = .agg (tenC z v)) {old : Array Value} (hg : Blk w g 53 old) (hold : old.size = 5) (hV : SliceV v) (hwt : Region.wanted o (yielded ops a.tmps) = true)
   (h : ∀ w', Blk w' g 53 (tenC z v) → w.grownBy w' (some g) → w'.heap.size = w.heap.size → wpList Tryz.prog ops Q rest (a.put o.dst undef) w') : wpList Tryz.prog ops Q (o :: rest) a w :=
 wpList_store_part hwt _ x y ho g 0 5 _ hx hy _ old _ hg rfl Tryz.sizeTen (by omega) (ten_one z hV) (by
   have h1 : (tenC z v).toList.length = 5 := rfl
   rw [h1, List.drop_of_length_le (by simp; omega)]
   simp) h
theorem ten_store_in (x y : Operand) (ho : o.op = .store 53 x y) {g k : Nat} (hk : k < 4) (hx : a.eval x = .pointer (some ⟨g, 2 + k * 5, none⟩)) {z : Ten} {v : Value} (hy : a.eval y = .agg (tenC z v)) {L : Led} {V : Nat → Value} (hg : Blk w g 56 (ledC L V)) (hV : SliceV v) (hwt : Region.wanted o (yielded ops a.tmps) = true)
   (h : ∀ w', Blk w' g 56 (ledC (updT L k z) (updV V k v)) → w.grownBy w' (some g) → w'.heap.size = w.heap.size → wpList Tryz.prog ops Q rest (a.put o.dst undef) w') : wpList Tryz.prog ops Q (o :: rest) a w :=
 wpList_store_part hwt _ x y ho g (2 + k * 5) 5 _ hx hy _ _ _ hg rfl Tryz.sizeTen (by rw [ledC_size]; omega) (ten_one z hV) (led_setT L V hk z v) h
end
end Go.Proofs.YtfgifgglcafadaaGreatDoor
