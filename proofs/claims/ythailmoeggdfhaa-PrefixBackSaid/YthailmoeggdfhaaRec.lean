/-
  Slices of small structs that came in (fields of one cell each: integers, bools, strings): their cells.
-/
import Derived.Test.YthailmoeggdfhaaRow
import Derived.Deep.Slices
import Derived.Deep.Fields
namespace Go.Proofs.Ythailmoeggdfhaa
set_option linter.unusedVariables false
set_option linter.unusedSimpArgs false
set_option maxRecDepth 100000
open Go.RowKit Go.ChangeShapes Go.WideShapes Go.Deep

/-- What a field may be: an integer of that kind; a bool (false); a string (true). -/
abbrev FK := IntKind ⊕ Bool
def FitsV : FK → Value → Prop
  | .inl k, v => ∃ n, v = .int k n ∧ (Lit.int k n).wf = true
  | .inr false, v => ∃ b, v = .bool b
  | .inr true, v => ∃ s : ByteArray, v = .string s ∧ s.size ≤ maxLen
def TypeFK (P : Program) (t : TypeId) : FK → Prop
  | .inl k => P.underlying t = some (.int k)
  | .inr false => P.underlying t = some .bool
  | .inr true => P.underlying t = some .string

/-- A slice of structs: nil, or its cells. -/
def IsRecs (ks : List FK) (w : World) (a : Option Addr) (len cap : Nat) : Prop :=
  (a = none ∧ len = 0 ∧ cap = 0) ∨
  ∃ x, a = some x ∧ len ≤ cap ∧ cap ≤ maxLen ∧ ∀ i, i < len → ∀ j k, ks[j]? = some k → ∃ v, w.cell? (x.add (i * ks.length + j)) = some v ∧ FitsV k v

section
variable {H : Type} {enc : TypeId × Value → H} {P : Program} {w : World} {base : Nat} {spare : Nat → Bool} {held : Bool}

theorem fits_of {t : TypeId} {k : FK} (hk : TypeFK P t k) {n : Nat} {v : Value} {y : DataW H × List MemPlace} (h : DataW.trod enc P w base spare held n t [v] = some y) : FitsV k v := by
  match k, hk with
  | .inl k, hk =>
    obtain ⟨m, h1, _, h2⟩ := DataW.trod_int hk h
    simp at h1
    exact ⟨m, h1, h2⟩
  | .inr false, hk =>
    obtain ⟨b, h1, _⟩ := DataW.trod_bool hk h
    simp at h1
    exact ⟨b, h1⟩
  | .inr true, hk =>
    obtain ⟨s, h1, _, h2⟩ := DataW.trod_string hk h
    simp at h1
    exact ⟨s, h1, h2⟩

theorem open_recs {t e : TypeId} {fs : Array Field} {ks : List FK} {a : Option Addr} {len cap : Nat} {fuel : Nat} {x : DataW H × List MemPlace} (ht : P.underlying t = some (.slice e)) (he : P.underlying e = some (.struct fs))
    (hone : oneCellFields P fs = true) (hC : P.cellsOf e = fs.size) (hl : ks.length = fs.size) (hks : ∀ (j : Nat) (k : FK), ks[j]? = some k → ∃ f : Field, fs[j]? = some f ∧ TypeFK P f.type k)
    (h : DataW.trod enc P w base spare held fuel t [.slice a len cap] = some x) : IsRecs ks w a len cap := by
  rcases open_slice ht h with ⟨h0, _⟩ | ⟨b, n, c, m, q, D, Pl, hcs, _, h1, h2, hm, _, hi⟩
  · simp at h0
    exact .inl h0
  · simp at hcs
    obtain ⟨rfl, rfl, rfl⟩ := hcs
    refine .inr ⟨b, rfl, h1, h2, fun i hin j k hj => ?_⟩
    have him : i < m := by rw [hm]; split <;> omega
    obtain ⟨cs, hc, hs⟩ := hi i him
    obtain ⟨f, hf, hk⟩ := hks j k hj
    obtain ⟨ho, h3⟩ := hone_of hone j f hf
    have hjl : j < fs.size := (Array.getElem?_eq_some_iff.1 hf).1
    obtain ⟨ys, q', _, _, hlen, hyl, hall⟩ := DataW.trod_struct he hs
    obtain ⟨_, hcl, hat⟩ := World.cells?_some hc
    have hfj := hall j f hf
    rw [ho, h3] at hfj
    have hjc : j < cs.length := by omega
    have hd : (cs.drop j).take 1 = [cs[j]] := by rw [List.drop_eq_getElem_cons hjc]; rfl
    rw [hd, List.getElem?_eq_getElem (by omega)] at hfj
    refine ⟨cs[j], ?_, fits_of hk hfj⟩
    have hcell := hat j (by omega)
    rw [Go.Deep.add_add] at hcell
    rw [hl, ← hC, hcell, List.getElem?_eq_getElem hjc]

/-- A struct by value whose fields are of one cell each. -/
theorem open_struct {r : Reach} {b0 : Nat} {t : TypeId} {fs : Array Field} {ks : List FK} {v : Value} {d : DataW H} {p : List MemPlace} (ht : P.underlying t = some (.struct fs)) (hone : oneCellFields P fs = true) (hC : P.cellsOf t = fs.size) (hl : ks.length = fs.size)
    (hks : ∀ (j : Nat) (k : FK), ks[j]? = some k → ∃ f : Field, fs[j]? = some f ∧ TypeFK P f.type k) (hv : Value.okWide P w r b0 t v) (h : DataW.Trod enc P w base spare held t v d p) :
    ∃ vs : List Value, v = .agg vs.toArray ∧ vs.length = ks.length ∧ ∀ (j : Nat) (k : FK), ks[j]? = some k → ∃ u, vs[j]? = some u ∧ FitsV k u := by
  obtain ⟨cs, rfl, hsz⟩ := okWide_struct ht hv
  obtain ⟨l⟩ := cs
  have hll : l.length = fs.size := by simpa using hsz.trans hC
  obtain ⟨fuel, hf⟩ := h
  obtain ⟨xs, n, _, hx, _, hlen, hg⟩ := DataW.trod_struct ht hf
  refine ⟨l, rfl, by omega, fun j k hj => ?_⟩
  obtain ⟨f, hfj, hk⟩ := hks j k hj
  obtain ⟨ho, h3⟩ := hone_of hone j f hfj
  have hjl : j < fs.size := (Array.getElem?_eq_some_iff.1 hfj).1
  have hgj := hg j f hfj
  have hjc : j < l.length := by omega
  have hd : (l.drop j).take 1 = [l[j]] := by rw [List.drop_eq_getElem_cons hjc]; rfl
  simp only [Value.cells, ho, h3] at hgj
  rw [hd, List.getElem?_eq_getElem (by omega)] at hgj
  exact ⟨l[j], List.getElem?_eq_getElem hjc, fits_of hk hgj⟩
end

theorem list1 {α : Type} {l : List α} (h : l.length = 1) : ∃ a, l = [a] := by match l, h with | [a], _ => exact ⟨a, rfl⟩
theorem list2 {α : Type} {l : List α} (h : l.length = 2) : ∃ a b, l = [a, b] := by match l, h with | [a, b], _ => exact ⟨a, b, rfl⟩
theorem list3 {α : Type} {l : List α} (h : l.length = 3) : ∃ a b c, l = [a, b, c] := by match l, h with | [a, b, c], _ => exact ⟨a, b, c, rfl⟩
theorem list4 {α : Type} {l : List α} (h : l.length = 4) : ∃ a b c d, l = [a, b, c, d] := by match l, h with | [a, b, c, d], _ => exact ⟨a, b, c, d, rfl⟩
theorem list5 {α : Type} {l : List α} (h : l.length = 5) : ∃ a b c d e, l = [a, b, c, d, e] := by match l, h with | [a, b, c, d, e], _ => exact ⟨a, b, c, d, e, rfl⟩
theorem list6 {α : Type} {l : List α} (h : l.length = 6) : ∃ a b c d e f, l = [a, b, c, d, e, f] := by match l, h with | [a, b, c, d, e, f], _ => exact ⟨a, b, c, d, e, f, rfl⟩
theorem list7 {α : Type} {l : List α} (h : l.length = 7) : ∃ a b c d e f g, l = [a, b, c, d, e, f, g] := by match l, h with | [a, b, c, d, e, f, g], _ => exact ⟨a, b, c, d, e, f, g, rfl⟩

end Go.Proofs.Ythailmoeggdfhaa
