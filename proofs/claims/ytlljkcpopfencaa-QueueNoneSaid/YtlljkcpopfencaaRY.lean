/-
  Values of struct types whose fields are structs again: their cells, flat; slices of them that came in.
-/
import Derived.Test.YtlljkcpopfencaaRX
namespace Go.Proofs.Ytlljkcpopfencaa
set_option linter.unusedVariables false
set_option linter.unusedSimpArgs false
set_option maxRecDepth 100000
open Go.RowKit Go.ChangeShapes Go.WideShapes Go.Deep

/-- A type whose values are flat cells of these kinds. -/
inductive TypeFlat (P : Program) : TypeId → List FX → Prop
  | one {t : TypeId} {k : FX} : TypeFX P t k → TypeFlat P t [k]
  | row {t : TypeId} {fs : Array Field} (Fks : List (List FX)) : P.underlying t = some (.struct fs) → Fks.length = fs.size → P.cellsOf t = Fks.flatten.length →
      (∀ (i : Nat) (f : Field), fs[i]? = some f → f.offset = (Fks.take i).flatten.length ∧ P.cellsOf f.type = (Fks.getD i []).length) → (∀ (i : Nat) (f : Field), fs[i]? = some f → TypeFlat P f.type (Fks.getD i [])) → TypeFlat P t Fks.flatten

theorem flatten_at : ∀ (L : List (List FX)) (j : Nat) (k : FX), L.flatten[j]? = some k → ∃ i l, i < L.length ∧ j = (L.take i).flatten.length + l ∧ (L.getD i [])[l]? = some k
  | [], j, k, h => by simp at h
  | x :: L, j, k, h => by
    rw [List.flatten_cons] at h
    by_cases hj : j < x.length
    · rw [List.getElem?_append_left hj] at h
      exact ⟨0, j, by simp, by simp, by simpa using h⟩
    · rw [List.getElem?_append_right (by omega)] at h
      obtain ⟨i, l, h1, h2, h3⟩ := flatten_at L _ _ h
      exact ⟨i + 1, l, by simpa using h1, by rw [List.take_succ_cons, List.flatten_cons, List.length_append]; omega, by simpa using h3⟩

section
variable {H : Type} {enc : TypeId × Value → H} {P : Program} {w : World} {base : Nat} {held : Bool}
theorem one_cell {t : TypeId} {k : FX} (hk : TypeFX P t k) {n : Nat} {cs : List Value} {y : DataW H × List MemPlace} (h : DataW.trod enc P w base (fun _ => true) held n t cs = some y) : ∃ v, cs = [v] := by
  match k, hk with
  | .int k, hk => obtain ⟨m, h1, _⟩ := DataW.trod_int hk h; exact ⟨_, h1⟩
  | .bool, hk => obtain ⟨m, h1, _⟩ := DataW.trod_bool hk h; exact ⟨_, h1⟩
  | .str, hk => obtain ⟨m, h1, _⟩ := DataW.trod_string hk h; exact ⟨_, h1⟩
  | .byts, hk =>
    obtain ⟨e, ht, he, hc⟩ := hk
    rcases open_ints ht he hc h with ⟨h1, _⟩ | ⟨x, l, c, zs, h1, _⟩ <;> exact ⟨_, h1⟩
theorem flat_fits {t : TypeId} {ks : List FX} (ht : TypeFlat P t ks) : ∀ {n : Nat} {cs : List Value} {y : DataW H × List MemPlace}, DataW.trod enc P w base (fun _ => true) held n t cs = some y →
    cs.length = ks.length ∧ ∀ (j : Nat) (k : FX), ks[j]? = some k → ∃ v, cs[j]? = some v ∧ FitsX w k v := by
  induction ht with
  | one hk =>
    intro n cs y h
    obtain ⟨v, rfl⟩ := one_cell hk h
    refine ⟨rfl, fun j k hj => ?_⟩
    match j, hj with
    | 0, hj => simp at hj; subst hj; exact ⟨v, rfl, fitsX_of hk h⟩
    | j + 1, hj => simp at hj
  | row Fks hu hl hc ho _ ih =>
    intro n cs y h
    obtain ⟨xs, m, _, _, hlen, hxl, hat⟩ := DataW.trod_struct hu h
    refine ⟨hlen.trans hc, fun j k hj => ?_⟩
    obtain ⟨i, l, hi, rfl, hk⟩ := flatten_at _ _ _ hj
    have hif := Array.getElem?_eq_getElem (show i < _ from hl ▸ hi)
    have h1 := hat i _ hif
    obtain ⟨o1, o2⟩ := ho i _ hif
    rw [List.getElem?_eq_getElem (by omega), o1, o2] at h1
    obtain ⟨v, hv, hf⟩ := (ih i _ hif h1).2 l k hk
    have hlt : l < (Fks.getD i []).length := (List.getElem?_eq_some_iff.1 hk).1
    rw [List.getElem?_take, if_pos hlt, List.getElem?_drop] at hv
    exact ⟨v, hv, hf⟩

/-- A slice of such values. -/
theorem open_recF {t e : TypeId} {ks : List FX} {a : Option Addr} {len cap : Nat} {fuel : Nat} {x : DataW H × List MemPlace} (ht : P.underlying t = some (.slice e)) (he : TypeFlat P e ks) (hC : P.cellsOf e = ks.length)
    (h : DataW.trod enc P w base (fun _ => true) held fuel t [.slice a len cap] = some x) : IsRecX ks w a len cap := by
  rcases open_slice ht h with ⟨h0, _⟩ | ⟨b, n, c, m, q, D, Pl, hcs, _, h1, h2, hm, _, hi⟩
  · simp at h0
    exact .inl h0
  · simp at hcs
    obtain ⟨rfl, rfl, rfl⟩ := hcs
    refine .inr ⟨b, rfl, h1, h2, fun i hin j k hj => ?_⟩
    have him : i < m := by rw [hm]; split <;> omega
    obtain ⟨cs, hc, hs⟩ := hi i him
    obtain ⟨_, hcl, hat⟩ := World.cells?_some hc
    obtain ⟨hl, hf⟩ := flat_fits he hs
    obtain ⟨v, hv, hfit⟩ := hf j k hj
    have hjl : j < cs.length := (List.getElem?_eq_some_iff.1 hv).1
    have hcell := hat j (by omega)
    rw [Go.Deep.add_add] at hcell
    exact ⟨v, by rw [← hC, hcell, hv], hfit⟩

/-- Such a value by itself. -/
theorem open_flat {r : Reach} {b0 : Nat} {t : TypeId} {fs : Array Field} {ks : List FX} {v : Value} {d : DataW H} {p : List MemPlace} (hu : P.underlying t = some (.struct fs)) (ht : TypeFlat P t ks) (hv : Value.okWide P w r b0 t v) (h : DataW.Trod enc P w base (fun _ => true) held t v d p) :
    ∃ vs : List Value, v = .agg vs.toArray ∧ vs.length = ks.length ∧ ∀ (j : Nat) (k : FX), ks[j]? = some k → ∃ u, vs[j]? = some u ∧ FitsX w k u := by
  obtain ⟨cs, rfl, hsz⟩ := okWide_struct hu hv
  obtain ⟨l⟩ := cs
  obtain ⟨fuel, hf⟩ := h
  obtain ⟨h1, h2⟩ := flat_fits ht hf
  simp only [Value.cells] at h1 h2
  exact ⟨l, rfl, h1, h2⟩
end
theorem list8 {α : Type} {l : List α} (h : l.length = 8) : ∃ x0 x1 x2 x3 x4 x5 x6 x7, l = [x0, x1, x2, x3, x4, x5, x6, x7] := by match l, h with | [x0, x1, x2, x3, x4, x5, x6, x7], _ => exact ⟨x0, x1, x2, x3, x4, x5, x6, x7, rfl⟩
theorem list9 {α : Type} {l : List α} (h : l.length = 9) : ∃ x0 x1 x2 x3 x4 x5 x6 x7 x8, l = [x0, x1, x2, x3, x4, x5, x6, x7, x8] := by match l, h with | [x0, x1, x2, x3, x4, x5, x6, x7, x8], _ => exact ⟨x0, x1, x2, x3, x4, x5, x6, x7, x8, rfl⟩
theorem list10 {α : Type} {l : List α} (h : l.length = 10) : ∃ x0 x1 x2 x3 x4 x5 x6 x7 x8 x9, l = [x0, x1, x2, x3, x4, x5, x6, x7, x8, x9] := by match l, h with | [x0, x1, x2, x3, x4, x5, x6, x7, x8, x9], _ => exact ⟨x0, x1, x2, x3, x4, x5, x6, x7, x8, x9, rfl⟩
theorem list11 {α : Type} {l : List α} (h : l.length = 11) : ∃ x0 x1 x2 x3 x4 x5 x6 x7 x8 x9 x10, l = [x0, x1, x2, x3, x4, x5, x6, x7, x8, x9, x10] := by match l, h with | [x0, x1, x2, x3, x4, x5, x6, x7, x8, x9, x10], _ => exact ⟨x0, x1, x2, x3, x4, x5, x6, x7, x8, x9, x10, rfl⟩
theorem list12 {α : Type} {l : List α} (h : l.length = 12) : ∃ x0 x1 x2 x3 x4 x5 x6 x7 x8 x9 x10 x11, l = [x0, x1, x2, x3, x4, x5, x6, x7, x8, x9, x10, x11] := by match l, h with | [x0, x1, x2, x3, x4, x5, x6, x7, x8, x9, x10, x11], _ => exact ⟨x0, x1, x2, x3, x4, x5, x6, x7, x8, x9, x10, x11, rfl⟩
theorem list13 {α : Type} {l : List α} (h : l.length = 13) : ∃ x0 x1 x2 x3 x4 x5 x6 x7 x8 x9 x10 x11 x12, l = [x0, x1, x2, x3, x4, x5, x6, x7, x8, x9, x10, x11, x12] := by match l, h with | [x0, x1, x2, x3, x4, x5, x6, x7, x8, x9, x10, x11, x12], _ => exact ⟨x0, x1, x2, x3, x4, x5, x6, x7, x8, x9, x10, x11, x12, rfl⟩
theorem list14 {α : Type} {l : List α} (h : l.length = 14) : ∃ x0 x1 x2 x3 x4 x5 x6 x7 x8 x9 x10 x11 x12 x13, l = [x0, x1, x2, x3, x4, x5, x6, x7, x8, x9, x10, x11, x12, x13] := by match l, h with | [x0, x1, x2, x3, x4, x5, x6, x7, x8, x9, x10, x11, x12, x13], _ => exact ⟨x0, x1, x2, x3, x4, x5, x6, x7, x8, x9, x10, x11, x12, x13, rfl⟩
theorem list15 {α : Type} {l : List α} (h : l.length = 15) : ∃ x0 x1 x2 x3 x4 x5 x6 x7 x8 x9 x10 x11 x12 x13 x14, l = [x0, x1, x2, x3, x4, x5, x6, x7, x8, x9, x10, x11, x12, x13, x14] := by match l, h with | [x0, x1, x2, x3, x4, x5, x6, x7, x8, x9, x10, x11, x12, x13, x14], _ => exact ⟨x0, x1, x2, x3, x4, x5, x6, x7, x8, x9, x10, x11, x12, x13, x14, rfl⟩
theorem list16 {α : Type} {l : List α} (h : l.length = 16) : ∃ x0 x1 x2 x3 x4 x5 x6 x7 x8 x9 x10 x11 x12 x13 x14 x15, l = [x0, x1, x2, x3, x4, x5, x6, x7, x8, x9, x10, x11, x12, x13, x14, x15] := by match l, h with | [x0, x1, x2, x3, x4, x5, x6, x7, x8, x9, x10, x11, x12, x13, x14, x15], _ => exact ⟨x0, x1, x2, x3, x4, x5, x6, x7, x8, x9, x10, x11, x12, x13, x14, x15, rfl⟩

end Go.Proofs.Ytlljkcpopfencaa
