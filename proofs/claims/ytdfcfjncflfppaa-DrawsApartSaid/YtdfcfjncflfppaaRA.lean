/-
  An array of four slices of integers that came in.
-/
import Derived.Test.YtdfcfjncflfppaaRow
import Derived.Laws.IdiomArrays
namespace Go.Proofs.Ytdfcfjncflfppaa
open Go.RowKit Go.ChangeShapes Go.WideShapes

def of4 {α : Type} (x y z u : α) : Nat → α
  | 0 => x
  | 1 => y
  | 2 => z
  | _ => u

theorem open_rows4 {H : Type} {enc : TypeId × Value → H} {P : Program} {w : World} {base b0 : Nat} {held : Bool} {t s e : TypeId} {k : IntKind} {v : Value} {d : DataW H} {p : List MemPlace} (ht : P.underlying t = some (.array 4 s)) (hs : P.underlying s = some (.slice e)) (he : P.underlying e = some (.int k))
    (hce : P.cellsOf e = 1) (hcs : P.cellsOf s = 1) (hct : P.cellsOf t = 4) (hty : P.cellTypes P.depth t = some [s, s, s, s]) (hv : Value.okWide P w .any b0 t v) (h : DataW.Trod enc P w base (fun _ => true) held t v d p) :
    ∃ (a : Nat → Option Addr) (len cap : Nat → Nat) (zs : Nat → List Int), v = .agg #[.slice (a 0) (len 0) (cap 0), .slice (a 1) (len 1) (cap 1), .slice (a 2) (len 2) (cap 2), .slice (a 3) (len 3) (cap 3)] ∧
      ∀ j, j < 4 → IsRow k w (a j) (len j) (cap j) (zs j) ∧ ∀ x, a j = some x → x.spot = none ∧ x.block < w.heap.size := by
  simp only [Value.okWide, ht] at hv
  obtain ⟨cs, rfl, hsz, ts, h1, _, hall⟩ := hv
  rw [hty] at h1
  obtain rfl := Option.some.inj h1
  rw [hct] at hsz
  obtain ⟨l⟩ := cs
  obtain ⟨c0, c1, c2, c3, rfl⟩ : ∃ c0 c1 c2 c3, l = [c0, c1, c2, c3] := by
    match l, (show l.length = 4 by simpa using hsz) with
    | [a, b, c, d], _ => exact ⟨a, b, c, d, rfl⟩
  have ok : ∀ (i : Nat) (v : Value), [c0, c1, c2, c3][i]? = some v → Value.okWide P w .any b0 s v := by
    intro i v hi
    obtain ⟨u, hu, hw⟩ := hall i v (by simpa using hi)
    have hil : i < 4 := by
      rcases Nat.lt_or_ge i 4 with h | h
      · exact h
      · rw [List.getElem?_eq_none (by simpa using h)] at hi; cases hi
    have e : i = 0 ∨ i = 1 ∨ i = 2 ∨ i = 3 := by omega
    have hus : s = u := by rcases e with rfl | rfl | rfl | rfl <;> simpa using hu
    subst hus
    simpa only [Value.okWide, hs] using hw
  have k0 := ok 0 c0 rfl
  have k1 := ok 1 c1 rfl
  have k2 := ok 2 c2 rfl
  have k3 := ok 3 c3 rfl
  obtain ⟨a0, l0, p0, rfl⟩ := okWide_slice hs k0
  obtain ⟨a1, l1, p1, rfl⟩ := okWide_slice hs k1
  obtain ⟨a2, l2, p2, rfl⟩ := okWide_slice hs k2
  obtain ⟨a3, l3, p3, rfl⟩ := okWide_slice hs k3
  obtain ⟨fuel, hf⟩ := h
  obtain ⟨y0, y1, y2, y3, n, _, t0, t1, t2, t3⟩ := trod_array4 ht hcs hf
  have row : ∀ {a : Option Addr} {l c : Nat} {y : DataW H × List MemPlace}, DataW.trod enc P w base (fun _ => true) held n s [.slice a l c] = some y → ∃ zs, IsRow k w a l c zs := fun {a l c y} hh =>
    row_of (d := y.1) (p := y.2) hs he hce ⟨n, hh⟩
  obtain ⟨z0, r0⟩ := row t0
  obtain ⟨z1, r1⟩ := row t1
  obtain ⟨z2, r2⟩ := row t2
  obtain ⟨z3, r3⟩ := row t3
  refine ⟨of4 a0 a1 a2 a3, of4 l0 l1 l2 l3, of4 p0 p1 p2 p3, of4 z0 z1 z2 z3, rfl, fun j hj => ?_⟩
  have e : j = 0 ∨ j = 1 ∨ j = 2 ∨ j = 3 := by omega
  rcases e with rfl | rfl | rfl | rfl
  · exact ⟨r0, fun x hx => by cases (show a0 = some x from hx); exact slice_good hs k0⟩
  · exact ⟨r1, fun x hx => by cases (show a1 = some x from hx); exact slice_good hs k1⟩
  · exact ⟨r2, fun x hx => by cases (show a2 = some x from hx); exact slice_good hs k2⟩
  · exact ⟨r3, fun x hx => by cases (show a3 = some x from hx); exact slice_good hs k3⟩

end Go.Proofs.Ytdfcfjncflfppaa
