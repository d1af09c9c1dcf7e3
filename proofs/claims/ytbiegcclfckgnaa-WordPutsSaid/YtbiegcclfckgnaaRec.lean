/-
  Slices of small structs that came in (fields of one cell each: integers, bools, strings): their cells.
-/
import Derived.Test.YtbiegcclfckgnaaRow
import Derived.Deep.Slices
import Derived.Deep.Fields
namespace Go.Proofs.Ytbiegcclfckgnaa
open Go.RowKit Go.ChangeShapes Go.WideShapes Go.Deep

/-- What a field may be: an integer of that kind; a bool (false); a string (true). -/
abbrev FK := IntKind ⊕ Bool
def FitsV : FK → Value → Prop
  | .inl k, v => ∃ n, v = .int k n ∧ (Lit.int k n).wf = true
  | .inr false, v => ∃ b, v = .bool b
  | .inr true, v => ∃ s : ByteArray, v = .string s ∧ s.size ≤ maxLen
def TypeFK (P : Program) (t : TypeId) : FK → Prop
  | .inl k => P.underlying t = some (.int k)
  | .inr false => P.underlying t = some .bool
  | .inr true => P.underlying t = some .string

/-- A slice of structs: nil, or its cells. -/
def IsRecs (ks : List FK) (w : World) (a : Option Addr) (len cap : Nat) : Prop :=
  (a = none ∧ len = 0 ∧ cap = 0) ∨
  ∃ x, a = some x ∧ len ≤ cap ∧ cap ≤ maxLen ∧ ∀ i, i < len → ∀ j k, ks[j]? = some k → ∃ v, w.cell? (x.add (i * ks.length + j)) = some v ∧ FitsV k v

section
variable {H : Type} {enc : TypeId × Value → H} {P : Program} {w : World} {base : Nat} {spare : Nat → Bool} {held : Bool}

theorem fits_of {t : TypeId} {k : FK} (hk : TypeFK P t k) {n : Nat} {v : Value} {y : DataW H × List MemPlace} (h : DataW.trod enc P w base spare held n t [v] = some y) : FitsV k v := by
  match k, hk with
  | .inl k, hk =>
    obtain ⟨m, h1, _, h2⟩ := DataW.trod_int hk h
    simp at h1
    exact ⟨m, h1, h2⟩
  | .inr false, hk =>
    obtain ⟨b, h1, _⟩ := DataW.trod_bool hk h
    simp at h1
    exact ⟨b, h1⟩
  | .inr true, hk =>
    obtain ⟨s, h1, _, h2⟩ := DataW.trod_string hk h
    simp at h1
    exact ⟨s, h1, h2⟩

theorem open_recs {t e : TypeId} {fs : Array Field} {ks : List FK} {a : Option Addr} {len cap : Nat} {fuel : Nat} {x : DataW H × List MemPlace} (ht : P.underlying t = some (.slice e)) (he : P.underlying e = some (.struct fs))
    (hone : oneCellFields P fs = true) (hC : P.cellsOf e = fs.size) (hl : ks.length = fs.size) (hks : ∀ (j : Nat) (k : FK), ks[j]? = some k → ∃ f : Field, fs[j]? = some f ∧ TypeFK P f.type k)
    (h : DataW.trod enc P w base spare held fuel t [.slice a len cap] = some x) : IsRecs ks w a len cap := by
  rcases open_slice ht h with ⟨h0, _⟩ | ⟨b, n, c, m, q, D, Pl, hcs, _, h1, h2, hm, _, hi⟩
  · simp at h0
    exact .inl h0
  · simp at hcs
    obtain ⟨rfl, rfl, rfl⟩ := hcs
    refine .inr ⟨b, rfl, h1, h2, fun i hin j k hj => ?_⟩
    have him : i < m := by rw [hm]; split <;> omega
    obtain ⟨cs, hc, hs⟩ := hi i him
    obtain ⟨f, hf, hk⟩ := hks j k hj
    obtain ⟨ho, h3⟩ := hone_of hone j f hf
    have hjl : j < fs.size := (Array.getElem?_eq_some_iff.1 hf).1
    obtain ⟨ys, q', _, _, hlen, hyl, hall⟩ := DataW.trod_struct he hs
    obtain ⟨_, hcl, hat⟩ := World.cells?_some hc
    have hfj := hall j f hf
    rw [ho, h3] at hfj
    have hjc : j < cs.length := by omega
    have hd : (cs.drop j).take 1 = [cs[j]] := by rw [List.drop_eq_getElem_cons hjc]; rfl
    rw [hd, List.getElem?_eq_getElem (by omega)] at hfj
    refine ⟨cs[j], ?_, fits_of hk hfj⟩
    have hcell := hat j (by omega)
    rw [Go.Deep.add_add] at hcell
    rw [hl, ← hC, hcell, List.getElem?_eq_getElem hjc]
end

end Go.Proofs.Ytbiegcclfckgnaa
