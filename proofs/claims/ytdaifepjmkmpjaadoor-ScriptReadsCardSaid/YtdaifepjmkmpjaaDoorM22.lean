/-
  Texts put together: RA ScZ SpP SpQ RY.
-/
import Derived.Test.YtdaifepjmkmpjaaDoorM01
import Derived.Laws.IdiomArrays
import Derived.Test.YtdaifepjmkmpjaaDoorM21
import Derived.Test.YtdaifepjmkmpjaaDoorM03
import Derived.Test.YtdaifepjmkmpjaaDoorM20
import Derived.Test.YtdaifepjmkmpjaaDoorTie
import Derived.ProofKit
import Derived.LaidMore
import Derived.LaidOnce
import Derived.Lay
import Derived.Stop.LaidErr
import Derived.Shelf.Vars
/-
  An array of four slices of integers that came in.
-/
namespace Go.Proofs.YtdaifepjmkmpjaaDoor
set_option linter.unusedVariables false
set_option linter.unusedSimpArgs false
set_option linter.unusedVariables false
set_option linter.unusedSimpArgs false
set_option maxRecDepth 100000
open Go.RowKit Go.ChangeShapes Go.WideShapes

def of4 {α : Type} (x y z u : α) : Nat → α
  | 0 => x
  | 1 => y
  | 2 => z
  | _ => u

theorem open_rows4 {H : Type} {enc : TypeId × Value → H} {P : Program} {w : World} {base b0 : Nat} {held : Bool} {t s e : TypeId} {k : IntKind} {v : Value} {d : DataW H} {p : List MemPlace} (ht : P.underlying t = some (.array 4 s)) (hs : P.underlying s = some (.slice e)) (he : P.underlying e = some (.int k))
    (hce : P.cellsOf e = 1) (hcs : P.cellsOf s = 1) (hct : P.cellsOf t = 4) (hty : P.cellTypes P.depth t = some [s, s, s, s]) (hv : Value.okWide P w .any b0 t v) (h : DataW.Trod enc P w base (fun _ => true) held t v d p) :
    ∃ (a : Nat → Option Addr) (len cap : Nat → Nat) (zs : Nat → List Int), v = .agg #[.slice (a 0) (len 0) (cap 0), .slice (a 1) (len 1) (cap 1), .slice (a 2) (len 2) (cap 2), .slice (a 3) (len 3) (cap 3)] ∧
      ∀ j, j < 4 → IsRow k w (a j) (len j) (cap j) (zs j) ∧ ∀ x, a j = some x → x.spot = none ∧ x.block < w.heap.size := by
  simp only [Value.okWide, ht] at hv
  obtain ⟨cs, rfl, hsz, ts, h1, _, hall⟩ := hv
  rw [hty] at h1
  obtain rfl := Option.some.inj h1
  rw [hct] at hsz
  obtain ⟨l⟩ := cs
  obtain ⟨c0, c1, c2, c3, rfl⟩ : ∃ c0 c1 c2 c3, l = [c0, c1, c2, c3] := by
    match l, (show l.length = 4 by simpa using hsz) with
    | [a, b, c, d], _ => exact ⟨a, b, c, d, rfl⟩
  have ok : ∀ (i : Nat) (v : Value), [c0, c1, c2, c3][i]? = some v → Value.okWide P w .any b0 s v := by
    intro i v hi
    obtain ⟨u, hu, hw⟩ := hall i v (by simpa using hi)
    have hil : i < 4 := by
      rcases Nat.lt_or_ge i 4 with h | h
      · exact h
      · rw [List.getElem?_eq_none (by simpa using h)] at hi; cases hi
    have e : i = 0 ∨ i = 1 ∨ i = 2 ∨ i = 3 := by omega
    have hus : s = u := by rcases e with rfl | rfl | rfl | rfl <;> simpa using hu
    subst hus
    simpa only [Value.okWide, hs] using hw
  have k0 := ok 0 c0 rfl
  have k1 := ok 1 c1 rfl
  have k2 := ok 2 c2 rfl
  have k3 := ok 3 c3 rfl
  obtain ⟨a0, l0, p0, rfl⟩ := okWide_slice hs k0
  obtain ⟨a1, l1, p1, rfl⟩ := okWide_slice hs k1
  obtain ⟨a2, l2, p2, rfl⟩ := okWide_slice hs k2
  obtain ⟨a3, l3, p3, rfl⟩ := okWide_slice hs k3
  obtain ⟨fuel, hf⟩ := h
  obtain ⟨y0, y1, y2, y3, n, _, t0, t1, t2, t3⟩ := trod_array4 ht hcs hf
  have row : ∀ {a : Option Addr} {l c : Nat} {y : DataW H × List MemPlace}, DataW.trod enc P w base (fun _ => true) held n s [.slice a l c] = some y → ∃ zs, IsRow k w a l c zs := fun {a l c y} hh =>
    row_of (d := y.1) (p := y.2) hs he hce ⟨n, hh⟩
  obtain ⟨z0, r0⟩ := row t0
  obtain ⟨z1, r1⟩ := row t1
  obtain ⟨z2, r2⟩ := row t2
  obtain ⟨z3, r3⟩ := row t3
  refine ⟨of4 a0 a1 a2 a3, of4 l0 l1 l2 l3, of4 p0 p1 p2 p3, of4 z0 z1 z2 z3, rfl, fun j hj => ?_⟩
  have e : j = 0 ∨ j = 1 ∨ j = 2 ∨ j = 3 := by omega
  rcases e with rfl | rfl | rfl | rfl
  · exact ⟨r0, fun x hx => by cases (show a0 = some x from hx); exact slice_good hs k0⟩
  · exact ⟨r1, fun x hx => by cases (show a1 = some x from hx); exact slice_good hs k1⟩
  · exact ⟨r2, fun x hx => by cases (show a2 = some x from hx); exact slice_good hs k2⟩
  · exact ⟨r3, fun x hx => by cases (show a3 = some x from hx); exact slice_good hs k3⟩

end Go.Proofs.YtdaifepjmkmpjaaDoor

/-
  Layer 25: a setup that came in, by value (rows' kind 'stu').
-/
namespace Go.Proofs.YtdaifepjmkmpjaaDoor
set_option linter.unusedVariables false
set_option linter.unusedSimpArgs false
set_option linter.unusedVariables false
set_option linter.unusedSimpArgs false
set_option maxRecDepth 100000
open Go.RowKit Go.ChangeShapes Go.WideShapes

/-- A setup that came in. -/
structure StuP (w : World) (s : Stu) (V : Nat → Value) (vm : Value) : Prop where
  is : StuIs w s V vm
  rng : s.rng
  f : ∀ t, t < 4 → (s.f t).length ≤ 9223372036854775807
  m : s.m.length ≤ 9223372036854775807
def fn4 {α : Type} (a b c d : α) : Nat → α
  | 0 => a
  | 1 => b
  | 2 => c
  | _ => d
section
variable {H : Type} {enc : TypeId × Value → H} {w : World} {base b0 : Nat} {held : Bool}
set_option maxRecDepth 100000 in
theorem open_stu {v : Value} {d : DataW H} {p : List MemPlace} (hv : Value.okWide Tryd.prog w .any b0 38 v) (h : DataW.Trod enc Tryd.prog w base (fun _ => true) held 38 v d p) :
    ∃ (s : Stu) (V : Nat → Value) (vm : Value), v = .agg (stuC s V vm) ∧ StuP w s V vm := by
  simp only [Value.okWide, Tryd.underlying38] at hv
  obtain ⟨cs, rfl, hsz, ts, h1, _, hall⟩ := hv
  rw [show Tryd.prog.cellTypes Tryd.prog.depth 38 = some [3, 3, 3, 3, 35, 35, 35, 35, 35] by kernel_rfl] at h1
  obtain rfl := Option.some.inj h1
  rw [show Tryd.prog.cellsOf 38 = 9 by kernel_rfl] at hsz
  obtain ⟨l⟩ := cs
  obtain ⟨c0, c1, c2, c3, c4, c5, c6, c7, c8, rfl⟩ : ∃ c0 c1 c2 c3 c4 c5 c6 c7 c8, l = [c0, c1, c2, c3, c4, c5, c6, c7, c8] := by
    match l, (show l.length = 9 by simpa using hsz) with
    | [a, b, c, d, e, f, g, h, i], _ => exact ⟨a, b, c, d, e, f, g, h, i, rfl⟩
  have ok : ∀ (i : Nat) (x : Value), 4 ≤ i → [c0, c1, c2, c3, c4, c5, c6, c7, c8][i]? = some x → Value.okWide Tryd.prog w .any b0 35 x := by
    intro i x h4 hi
    obtain ⟨u, hu, hw⟩ := hall i x (by simpa using hi)
    have hil : i < 9 := by
      rcases Nat.lt_or_ge i 9 with h | h
      · exact h
      · rw [List.getElem?_eq_none (by simpa using h)] at hi; cases hi
    have hus : 35 = u := by
      obtain rfl | rfl | rfl | rfl | rfl : i = 4 ∨ i = 5 ∨ i = 6 ∨ i = 7 ∨ i = 8 := by omega
      all_goals simpa using hu
    subst hus
    simpa only [Value.okWide, Tryd.underlying35] using hw
  have o4 := ok 4 c4 (by omega) rfl
  have o5 := ok 5 c5 (by omega) rfl
  have o6 := ok 6 c6 (by omega) rfl
  have o7 := ok 7 c7 (by omega) rfl
  have o8 := ok 8 c8 (by omega) rfl
  obtain ⟨a4, l4, p4, rfl⟩ := okWide_slice Tryd.underlying35 o4
  obtain ⟨a5, l5, p5, rfl⟩ := okWide_slice Tryd.underlying35 o5
  obtain ⟨a6, l6, p6, rfl⟩ := okWide_slice Tryd.underlying35 o6
  obtain ⟨a7, l7, p7, rfl⟩ := okWide_slice Tryd.underlying35 o7
  obtain ⟨a8, l8, p8, rfl⟩ := okWide_slice Tryd.underlying35 o8
  obtain ⟨fuel, hf⟩ := h
  have hf2 : DataW.trod enc Tryd.prog w base (fun _ => true) held fuel 38 [c0, c1, c2, c3, .slice a4 l4 p4, .slice a5 l5 p5, .slice a6 l6 p6, .slice a7 l7 p7, .slice a8 l8 p8] = some (d, p) := by simpa [Value.cells] using hf
  obtain ⟨xs, m, _, _, _, hl, hat⟩ := DataW.trod_struct Tryd.underlying38 hf2
  have k0 : DataW.trod enc Tryd.prog w base (fun _ => true) held m 34 (([c0, c1, c2, c3, .slice a4 l4 p4, .slice a5 l5 p5, .slice a6 l6 p6, .slice a7 l7 p7, .slice a8 l8 p8].drop 0).take (Tryd.prog.cellsOf 34)) = xs[0]? := hat 0 _ rfl
  have k1 : DataW.trod enc Tryd.prog w base (fun _ => true) held m 36 (([c0, c1, c2, c3, .slice a4 l4 p4, .slice a5 l5 p5, .slice a6 l6 p6, .slice a7 l7 p7, .slice a8 l8 p8].drop 4).take (Tryd.prog.cellsOf 36)) = xs[1]? := hat 1 _ rfl
  have k2 : DataW.trod enc Tryd.prog w base (fun _ => true) held m 35 (([c0, c1, c2, c3, .slice a4 l4 p4, .slice a5 l5 p5, .slice a6 l6 p6, .slice a7 l7 p7, .slice a8 l8 p8].drop 8).take (Tryd.prog.cellsOf 35)) = xs[2]? := hat 2 _ rfl
  have hl3 : xs.length = 3 := hl
  rw [show Tryd.prog.cellsOf 34 = 4 by kernel_rfl, List.getElem?_eq_getElem (by omega)] at k0
  rw [show Tryd.prog.cellsOf 36 = 4 by kernel_rfl, List.getElem?_eq_getElem (by omega)] at k1
  rw [show Tryd.prog.cellsOf 35 = 1 by kernel_rfl, List.getElem?_eq_getElem (by omega)] at k2
  obtain ⟨ys, m2, _, _, _, hl2, hat2⟩ := DataW.trod_struct Tryd.underlying34 k0
  have g0 : DataW.trod enc Tryd.prog w base (fun _ => true) held m2 3 (([c0, c1, c2, c3].drop 0).take (Tryd.prog.cellsOf 3)) = ys[0]? := hat2 0 _ rfl
  have g1 : DataW.trod enc Tryd.prog w base (fun _ => true) held m2 3 (([c0, c1, c2, c3].drop 1).take (Tryd.prog.cellsOf 3)) = ys[1]? := hat2 1 _ rfl
  have g2 : DataW.trod enc Tryd.prog w base (fun _ => true) held m2 3 (([c0, c1, c2, c3].drop 2).take (Tryd.prog.cellsOf 3)) = ys[2]? := hat2 2 _ rfl
  have g3 : DataW.trod enc Tryd.prog w base (fun _ => true) held m2 3 (([c0, c1, c2, c3].drop 3).take (Tryd.prog.cellsOf 3)) = ys[3]? := hat2 3 _ rfl
  have hl4 : ys.length = 4 := hl2
  rw [show Tryd.prog.cellsOf 3 = 1 by kernel_rfl] at g0 g1 g2 g3
  rw [List.getElem?_eq_getElem (by omega)] at g0 g1 g2 g3
  obtain ⟨n0, e0, _, w0⟩ := DataW.trod_int Tryd.underlying3 g0
  obtain ⟨n1, e1, _, w1⟩ := DataW.trod_int Tryd.underlying3 g1
  obtain ⟨n2, e2, _, w2⟩ := DataW.trod_int Tryd.underlying3 g2
  obtain ⟨n3, e3, _, w3⟩ := DataW.trod_int Tryd.underlying3 g3
  simp at e0 e1 e2 e3
  obtain ⟨y0, y1, y2, y3, m3, _, t0, t1, t2, t3⟩ := trod_array4 Tryd.underlying36 (by kernel_rfl) k1
  have row : ∀ {a : Option Addr} {l c : Nat} {q : Nat} {y : DataW H × List MemPlace}, Value.okWide Tryd.prog w .any b0 35 (.slice a l c) → DataW.trod enc Tryd.prog w base (fun _ => true) held q 35 [.slice a l c] = some y → ∃ zs, Ints w (.slice a l c) zs ∧ zs.length ≤ maxLen ∧ ∀ n ∈ zs, i64B n := fun {a l c q y} ho hh => by
    obtain ⟨zs, hz⟩ := row_of (d := y.1) (p := y.2) Tryd.underlying35 Tryd.underlying3 (by kernel_rfl) ⟨q, hh⟩
    obtain ⟨r1, r2, r3, r4⟩ := row_intsW hz (fun x hx => by cases hx; exact slice_good Tryd.underlying35 ho)
    exact ⟨_, r1, r3, fun n hn => i64_of_wf (r4 n hn)⟩
  obtain ⟨z4, i4, m4, q4⟩ := row o4 t0
  obtain ⟨z5, i5, m5, q5⟩ := row o5 t1
  obtain ⟨z6, i6, m6, q6⟩ := row o6 t2
  obtain ⟨z7, i7, m7, q7⟩ := row o7 t3
  obtain ⟨z8, i8, m8, q8⟩ := row o8 k2
  unfold maxLen at m4 m5 m6 m7 m8
  refine ⟨⟨n0, n1, n2, n3, fn4 z4 z5 z6 z7, z8⟩, fn4 (.slice a4 l4 p4) (.slice a5 l5 p5) (.slice a6 l6 p6) (.slice a7 l7 p7), .slice a8 l8 p8, by rw [e0, e1, e2, e3]; rfl, ⟨fun t ht => ?_, i8⟩, ⟨i64_of_wf w0, i64_of_wf w1, i64_of_wf w2, i64_of_wf w3, fun t ht => ?_, q8⟩, fun t ht => ?_, by simp only; omega⟩
  · obtain rfl | rfl | rfl | rfl : t = 0 ∨ t = 1 ∨ t = 2 ∨ t = 3 := by omega
    · exact i4
    · exact i5
    · exact i6
    · exact i7
  · obtain rfl | rfl | rfl | rfl : t = 0 ∨ t = 1 ∨ t = 2 ∨ t = 3 := by omega
    · exact q4
    · exact q5
    · exact q6
    · exact q7
  · obtain rfl | rfl | rfl | rfl : t = 0 ∨ t = 1 ∨ t = 2 ∨ t = 3 := by omega
    · show z4.length ≤ _; omega
    · show z5.length ≤ _; omega
    · show z6.length ≤ _; omega
    · show z7.length ≤ _; omega
end

theorem list_of25 {α : Type} (P : Nat → α → Prop) (d : α) : ∀ n, (∀ i, i < n → ∃ y, P i y) → ∃ X : List α, X.length = n ∧ ∀ i, i < n → P i (X.getD i d) := by
  intro n
  induction n with
  | zero => exact fun _ => ⟨[], rfl, fun i hi => by omega⟩
  | succ n ih =>
    intro h
    obtain ⟨X, h1, h2⟩ := ih fun i hi => h i (by omega)
    obtain ⟨y, hy⟩ := h n (by omega)
    refine ⟨X ++ [y], by simp [h1], fun i hi => ?_⟩
    rcases Nat.lt_or_ge i n with hlt | hge
    · rw [List.getD_eq_getElem?_getD, List.getElem?_append_left (by omega), ← List.getD_eq_getElem?_getD]
      exact h2 i hlt
    · obtain rfl : i = n := by omega
      rw [List.getD_eq_getElem?_getD, List.getElem?_append_right (by omega), h1, Nat.sub_self]
      exact hy
/-- Steps that came in. -/
theorem stpR_of {w : World} {a : Option Addr} {len cap : Nat} (h : IsRecX [.int .i64, .int .i64, .int .i64, .int .i64, .int .i64, .int .i64, .int .i64, .str] w a len cap) (hs : ∀ x, a = some x → x.spot = none) :
    ∃ l : List Stp, l.length = len ∧ StpR w a l ∧ (∀ x ∈ l, x.rng) ∧ l.length ≤ 9223372036854775807 ∧ ∀ x ∈ l, x.d.length ≤ 9223372036854775807 := by
  rcases h with ⟨rfl, rfl, rfl⟩ | ⟨x, rfl, hl, hm, hc⟩
  · exact ⟨[], rfl, fun i hi => by simp at hi, fun x hx => by simp at hx, by simp, fun x hx => by simp at hx⟩
  · unfold maxLen at hm
    have hsp := hs x rfl
    obtain ⟨b, off, sp⟩ := x
    simp only at hsp
    subst hsp
    obtain ⟨X, h1, h2⟩ := list_of25 (fun i (y : Stp) => w.rangeAt b (off + i * 8) (stpC y).toList ∧ y.rng ∧ y.d.length ≤ 9223372036854775807) noStp len (fun i hi => by
      obtain ⟨_, c0, n0, rfl, r0⟩ := hc i hi 0 (.int .i64) rfl
      obtain ⟨_, c1, n1, rfl, r1⟩ := hc i hi 1 (.int .i64) rfl
      obtain ⟨_, c2, n2, rfl, r2⟩ := hc i hi 2 (.int .i64) rfl
      obtain ⟨_, c3, n3, rfl, r3⟩ := hc i hi 3 (.int .i64) rfl
      obtain ⟨_, c4, n4, rfl, r4⟩ := hc i hi 4 (.int .i64) rfl
      obtain ⟨_, c5, n5, rfl, r5⟩ := hc i hi 5 (.int .i64) rfl
      obtain ⟨_, c6, n6, rfl, r6⟩ := hc i hi 6 (.int .i64) rfl
      obtain ⟨_, c7, s, rfl, r7⟩ := hc i hi 7 .str rfl
      rw [addr_add] at c0 c1 c2 c3 c4 c5 c6 c7
      have hz : s.data.toList.length = s.size := by simp
      unfold maxLen at r7
      refine ⟨⟨n0, n1, n2, n3, n4, n5, n6, s.data.toList⟩, fun j u hj => ?_, ⟨i64_of_wf r0, i64_of_wf r1, i64_of_wf r2, i64_of_wf r3, i64_of_wf r4, i64_of_wf r5, i64_of_wf r6⟩, by simp only; omega⟩
      match j, hj with
      | 0, hj => cases hj; exact c0
      | 1, hj => cases hj; rw [Nat.add_assoc]; exact c1
      | 2, hj => cases hj; rw [Nat.add_assoc]; exact c2
      | 3, hj => cases hj; rw [Nat.add_assoc]; exact c3
      | 4, hj => cases hj; rw [Nat.add_assoc]; exact c4
      | 5, hj => cases hj; rw [Nat.add_assoc]; exact c5
      | 6, hj => cases hj; rw [Nat.add_assoc]; exact c6
      | 7, hj => cases hj; rw [Nat.add_assoc]; exact c7
      | j + 8, hj => simp [stpC] at hj)
    have hX : ∀ x ∈ X, x.rng ∧ x.d.length ≤ 9223372036854775807 := fun x hx => by
      obtain ⟨i, hi, rfl⟩ := List.getElem_of_mem hx
      have := (h2 i (by omega)).2
      rw [List.getD_eq_getElem?_getD, List.getElem?_eq_getElem hi] at this
      exact this
    exact ⟨X, h1, fun i hi => ⟨b, off, rfl, (h2 i (by omega)).1⟩, fun x hx => (hX x hx).1, by omega, fun x hx => (hX x hx).2⟩

end Go.Proofs.YtdaifepjmkmpjaaDoor

/-
  Package script: what the laws ask of the program's calls, held of them.
-/
namespace Go.Proofs.YtdaifepjmkmpjaaDoor
set_option linter.unusedVariables false
set_option linter.unusedSimpArgs false
set_option linter.unusedVariables false
set_option linter.unusedSimpArgs false
set_option maxRecDepth 100000
open Go.RowKit

theorem lin25 : LinC25 := fun w hL x hx hd => line_c w x hL hx hd
theorem stp25 : StpC25 := by
  intro w hL s hs
  have h := Step_c s.data.toList w hL (by have : s.data.toList.length = s.size := by simp
                                          omega)
  rw [show bs s.data.toList = s from rfl] at h
  exact h
theorem par25 : ParC25 := by
  intro w hL s hs hn
  have h := parse_c w hL s.data.toList (by have : s.data.toList.length = s.size := by simp
                                           omega) hn
  rw [show bs s.data.toList = s from rfl] at h
  exact h
theorem pri25 : PriC25 := fun w hL s V vm a cap l hS hr hf hR hrl hdl hl => print_c w hL s V vm a cap l hS hr hf hR hrl (fun x hx => Nat.le_trans (hdl x hx) (by omega)) (by omega)
theorem set25 : SetC25 := by
  intro w hL s V vm hS hr hf
  refine (setup_c w hL s V vm hS hr hf).mono ?_
  rintro e w' ⟨v, rfl, hO, hb, hg⟩
  obtain ⟨a, cap, rfl, _⟩ := hO.open hb
  exact ⟨_, cap, rfl, hg⟩
theorem fxd25 : Fix25 := fix25_of lin25 stp25 par25
end Go.Proofs.YtdaifepjmkmpjaaDoor

/-
  Package script: the world of a row's beginning gives what is laid.
-/
namespace Go.Proofs.YtdaifepjmkmpjaaDoor
set_option linter.unusedVariables false
set_option linter.unusedSimpArgs false
set_option linter.unusedVariables false
set_option linter.unusedSimpArgs false
set_option maxRecDepth 100000
open Go.RowKit Go.ChangeShapes

def laidSc : List (String × DataW Unit) := [("math/bits.deBruijn32tab", Rows.laid_math_bits_deBruijn32tab), ("math/bits.deBruijn64tab", Rows.laid_math_bits_deBruijn64tab), ("internal/strconv.uint64pow10", Rows.laid_internal_strconv_uint64pow10), ("unicode/utf8.acceptRanges", Rows.laid_unicode_utf8_acceptRanges), ("strconv.ErrRange", Rows.laid_strconv_ErrRange), ("strconv.ErrSyntax", Rows.laid_strconv_ErrSyntax), ("unicode/utf8.first", Rows.laid_unicode_utf8_first)]

theorem star25 : "*" ++ "errors.errorString" = "*errors.errorString" := by decide
theorem rowErr25 (u : TypeId) (h : Tryd.prog.typeName? 3 u = some "*errors.errorString") : u = 143 :=
  typeName_ptr_named (nm := "errors.errorString") (by rw [star25]; kernel_rfl) (by kernel_rfl) (by decide) u (by rw [star25]; exact h)

theorem pow25 : (Rows.laid_internal_strconv_uint64pow10 : DataW Unit) = Lib.tabData .u64 Lib.pow10Tab := by rfl

theorem var_below {w w' : World} {n : String} {cs : Array Value} (h : w.var? Tryd.prog n = some cs) (hb : Below w.heap.size w w') : w'.var? Tryd.prog n = some cs := by
  unfold World.var? at *
  cases hg : Tryd.prog.globalNamed n with
  | none => simp [hg] at h
  | some g =>
    simp only [hg, Option.bind_some] at h ⊢
    have hlt : g < w.heap.size := by
      rcases Nat.lt_or_ge g w.heap.size with h' | h'
      · exact h'
      · rw [Array.getElem?_eq_none h'] at h; simp at h
    rw [hb.block g hlt]
    exact h

/-- WHAT THE ROW's CONDITION GIVES THE WALKS. -/
theorem lib_of {W : World} (hs : W.ShapedOpen Tryd.prog) (h : laidMetH Tryd.prog laidSc W) : Lib25 W := by
  rw [MakeChecks.laidMetH_plain _ _ _ (by kernel_rfl)] at h
  unfold laidSc at h
  have h2 := h.tail.tail
  rw [pow25] at h2
  have ht : Lib.TabIs Tryd.prog W "internal/strconv.uint64pow10" .u64 Lib.pow10Tab :=
    Lib.tabIs_of_head (g := 1) (t := 120) (e := 94) (n := 20) (by kernel_rfl) (by kernel_rfl) (by kernel_rfl) (by kernel_rfl) (by kernel_rfl) (by kernel_rfl) h2
  have h4 := h2.tail.tail
  unfold Rows.laid_strconv_ErrRange at h4
  obtain ⟨a0, s0, hv0, _, _, _⟩ := laid_sentinel (g := 5) (ti := 89) h4 (by kernel_rfl) (by kernel_rfl) Tryd.underlying89 rowErr25 Tryd.underlying143 Tryd.underlying145 rfl rfl Tryd.underlying9 (by kernel_rfl) (by kernel_rfl)
  have h5 := h4.tail
  unfold Rows.laid_strconv_ErrSyntax at h5
  obtain ⟨a1, s1, hv1, _, _, _⟩ := laid_sentinel (g := 4) (ti := 89) h5 (by kernel_rfl) (by kernel_rfl) Tryd.underlying89 rowErr25 Tryd.underlying143 Tryd.underlying145 rfl rfl Tryd.underlying9 (by kernel_rfl) (by kernel_rfl)
  obtain ⟨m, hm⟩ := cell_of_shapedOpen_int (P := Tryd.prog) (g := 0) (t := 3) (zero := #[.int .i64 0]) hs (of_decide_eq_true (by kernel_rfl)) (by kernel_rfl) rfl (by kernel_rfl) (by kernel_rfl) Tryd.underlying3
  have tb := Lib.tabBelow_of_tabIs ht
  intro w' hb
  refine ⟨⟨m, ?_⟩, tb w' hb, ⟨_, _, var_below hv1 hb⟩, ⟨_, _, var_below hv0 hb⟩⟩
  rw [hb.cell (World.block_lt_of_cell? _ _ hm)]
  exact hm

theorem returnsInHanded_of_change_and_shaped {H : Type} {enc : TypeId × Value → H} {a : Assume} {C : Checked} {os : Os} {f : FuncId} {fn : Func} {s : ChangeSpec} {conds : List PathCond} {apart fresh handsOn again : Bool} {X : World → Array Value → Prop}
    (hX : ∀ (w w' : World) (args : Array Value), w.heap = w'.heap → X w args → X w' args)
    (own : ownKnob C.prog.godebug = none) (started : os.Started) (noInit : C.prog.inits.idxOf? f = none) (hfn : C.prog.funcs[f]? = some fn)
    (witness : ∃ (w : World) (tape : Tape) (i : Input), w.os = os ∧ (w.forCall tape i).Shaped C.prog ∧ i.vars = [] ∧ Input.okWide C.prog (w.forCall tape i) .any w.heap.size f i ∧
      ((s.pre enc C.prog fn conds apart (w.forCall tape i).memory i.args ∧ X (w.forCall tape i).memory i.args) ∧ sizedMet enc C.prog fn (OpenSpec.ofChange s) apart (w.forCall tape i).memory i.args) ∧ a.holds C.prog (lone (Frame.enter C.prog f i.args .normal) [] (w.forCall tape i)))
    (contract : ∀ (W : World) (base : Nat) (args : Array Value) (ds gs : List (DataW H)) (before : List MemPlace),
      W.ShapedOpen C.prog →
      (∀ (j : Nat) t v, fn.params[j]? = some t → args[j]? = some v → Value.okWide C.prog W .any base t v) →
      DataW.Whole enc C.prog fn.params.toList s.vars apart W args.toList ds gs before →
      conds.all (PathCond.test C.prog ⟨fn.params.toList, ds, s.plain.varTypes C.prog, gs⟩) = true →
      (DataW.weightsEach C.prog (fn.params.toList ++ s.plain.varTypes C.prog) (ds ++ gs)).all (· ≤ reachBytes) = true → X W args →
      a.holds C.prog (lone (Frame.enter C.prog f args .normal) [] W) →
      Calls C.prog f args W fun e W' => ∃ v, e = .returned v ∧ s.post enc C.prog fn apart fresh handsOn again W args v W') :
    ReturnsInHanded a C os f .any (fun w args => (s.pre enc C.prog fn conds apart w args ∧ X w args) ∧ sizedMet enc C.prog fn (OpenSpec.ofChange s) apart w args) (s.post enc C.prog fn apart fresh handsOn again) := by
  refine returnsInHanded_of_calls own started noInit witness ?_
  intro w tape i _ hsh _ hok hpre hholds
  obtain ⟨_, _, _, fn', hfn', _, _, _, _, hval⟩ := hok
  have e : fn' = fn := Option.some.inj (hfn'.symm.trans hfn)
  subst e
  obtain ⟨⟨⟨ds, gs, before, hw, hc⟩, hx⟩, hz⟩ := hpre
  have hw' := DataW.Whole.of_heap (w' := w.forCall tape i) (by rfl) hw
  refine (contract (w.forCall tape i) w.heap.size i.args ds gs before hsh hval hw' hc (hz.weights hw) (hX _ _ _ (by rfl) hx) hholds).mono fun e W' ⟨v, he, hp⟩ => ?_
  subst he
  exact ChangeSpec.post_blind hp

end Go.Proofs.YtdaifepjmkmpjaaDoor

/-
  Values of struct types whose fields are structs again: their cells, flat; slices of them that came in.
-/
namespace Go.Proofs.YtdaifepjmkmpjaaDoor
set_option linter.unusedVariables false
set_option linter.unusedSimpArgs false
set_option linter.unusedVariables false
set_option linter.unusedSimpArgs false
set_option maxRecDepth 100000
open Go.RowKit Go.ChangeShapes Go.WideShapes Go.Deep

/-- A type whose values are flat cells of these kinds. -/
inductive TypeFlat (P : Program) : TypeId → List FX → Prop
  | one {t : TypeId} {k : FX} : TypeFX P t k → TypeFlat P t [k]
  | row {t : TypeId} {fs : Array Field} (Fks : List (List FX)) : P.underlying t = some (.struct fs) → Fks.length = fs.size → P.cellsOf t = Fks.flatten.length →
      (∀ (i : Nat) (f : Field), fs[i]? = some f → f.offset = (Fks.take i).flatten.length ∧ P.cellsOf f.type = (Fks.getD i []).length) → (∀ (i : Nat) (f : Field), fs[i]? = some f → TypeFlat P f.type (Fks.getD i [])) → TypeFlat P t Fks.flatten

theorem flatten_at : ∀ (L : List (List FX)) (j : Nat) (k : FX), L.flatten[j]? = some k → ∃ i l, i < L.length ∧ j = (L.take i).flatten.length + l ∧ (L.getD i [])[l]? = some k
  | [], j, k, h => by simp at h
  | x :: L, j, k, h => by
    rw [List.flatten_cons] at h
    by_cases hj : j < x.length
    · rw [List.getElem?_append_left hj] at h
      exact ⟨0, j, by simp, by simp, by simpa using h⟩
    · rw [List.getElem?_append_right (by omega)] at h
      obtain ⟨i, l, h1, h2, h3⟩ := flatten_at L _ _ h
      exact ⟨i + 1, l, by simpa using h1, by rw [List.take_succ_cons, List.flatten_cons, List.length_append]; omega, by simpa using h3⟩

section
variable {H : Type} {enc : TypeId × Value → H} {P : Program} {w : World} {base : Nat} {held : Bool}
theorem one_cell {t : TypeId} {k : FX} (hk : TypeFX P t k) {n : Nat} {cs : List Value} {y : DataW H × List MemPlace} (h : DataW.trod enc P w base (fun _ => true) held n t cs = some y) : ∃ v, cs = [v] := by
  match k, hk with
  | .int k, hk => obtain ⟨m, h1, _⟩ := DataW.trod_int hk h; exact ⟨_, h1⟩
  | .bool, hk => obtain ⟨m, h1, _⟩ := DataW.trod_bool hk h; exact ⟨_, h1⟩
  | .str, hk => obtain ⟨m, h1, _⟩ := DataW.trod_string hk h; exact ⟨_, h1⟩
  | .byts, hk =>
    obtain ⟨e, ht, he, hc⟩ := hk
    rcases open_ints ht he hc h with ⟨h1, _⟩ | ⟨x, l, c, zs, h1, _⟩ <;> exact ⟨_, h1⟩
theorem flat_fits {t : TypeId} {ks : List FX} (ht : TypeFlat P t ks) : ∀ {n : Nat} {cs : List Value} {y : DataW H × List MemPlace}, DataW.trod enc P w base (fun _ => true) held n t cs = some y →
    cs.length = ks.length ∧ ∀ (j : Nat) (k : FX), ks[j]? = some k → ∃ v, cs[j]? = some v ∧ FitsX w k v := by
  induction ht with
  | one hk =>
    intro n cs y h
    obtain ⟨v, rfl⟩ := one_cell hk h
    refine ⟨rfl, fun j k hj => ?_⟩
    match j, hj with
    | 0, hj => simp at hj; subst hj; exact ⟨v, rfl, fitsX_of hk h⟩
    | j + 1, hj => simp at hj
  | row Fks hu hl hc ho _ ih =>
    intro n cs y h
    obtain ⟨xs, m, _, _, hlen, hxl, hat⟩ := DataW.trod_struct hu h
    refine ⟨hlen.trans hc, fun j k hj => ?_⟩
    obtain ⟨i, l, hi, rfl, hk⟩ := flatten_at _ _ _ hj
    have hif := Array.getElem?_eq_getElem (show i < _ from hl ▸ hi)
    have h1 := hat i _ hif
    obtain ⟨o1, o2⟩ := ho i _ hif
    rw [List.getElem?_eq_getElem (by omega), o1, o2] at h1
    obtain ⟨v, hv, hf⟩ := (ih i _ hif h1).2 l k hk
    have hlt : l < (Fks.getD i []).length := (List.getElem?_eq_some_iff.1 hk).1
    rw [List.getElem?_take, if_pos hlt, List.getElem?_drop] at hv
    exact ⟨v, hv, hf⟩

/-- A slice of such values. -/
theorem open_recF {t e : TypeId} {ks : List FX} {a : Option Addr} {len cap : Nat} {fuel : Nat} {x : DataW H × List MemPlace} (ht : P.underlying t = some (.slice e)) (he : TypeFlat P e ks) (hC : P.cellsOf e = ks.length)
    (h : DataW.trod enc P w base (fun _ => true) held fuel t [.slice a len cap] = some x) : IsRecX ks w a len cap := by
  rcases open_slice ht h with ⟨h0, _⟩ | ⟨b, n, c, m, q, D, Pl, hcs, _, h1, h2, hm, _, hi⟩
  · simp at h0
    exact .inl h0
  · simp at hcs
    obtain ⟨rfl, rfl, rfl⟩ := hcs
    refine .inr ⟨b, rfl, h1, h2, fun i hin j k hj => ?_⟩
    have him : i < m := by rw [hm]; split <;> omega
    obtain ⟨cs, hc, hs⟩ := hi i him
    obtain ⟨_, hcl, hat⟩ := World.cells?_some hc
    obtain ⟨hl, hf⟩ := flat_fits he hs
    obtain ⟨v, hv, hfit⟩ := hf j k hj
    have hjl : j < cs.length := (List.getElem?_eq_some_iff.1 hv).1
    have hcell := hat j (by omega)
    rw [Go.Deep.add_add] at hcell
    exact ⟨v, by rw [← hC, hcell, hv], hfit⟩

/-- Such a value by itself. -/
theorem open_flat {r : Reach} {b0 : Nat} {t : TypeId} {fs : Array Field} {ks : List FX} {v : Value} {d : DataW H} {p : List MemPlace} (hu : P.underlying t = some (.struct fs)) (ht : TypeFlat P t ks) (hv : Value.okWide P w r b0 t v) (h : DataW.Trod enc P w base (fun _ => true) held t v d p) :
    ∃ vs : List Value, v = .agg vs.toArray ∧ vs.length = ks.length ∧ ∀ (j : Nat) (k : FX), ks[j]? = some k → ∃ u, vs[j]? = some u ∧ FitsX w k u := by
  obtain ⟨cs, rfl, hsz⟩ := okWide_struct hu hv
  obtain ⟨l⟩ := cs
  obtain ⟨fuel, hf⟩ := h
  obtain ⟨h1, h2⟩ := flat_fits ht hf
  simp only [Value.cells] at h1 h2
  exact ⟨l, rfl, h1, h2⟩
end
theorem list8 {α : Type} {l : List α} (h : l.length = 8) : ∃ x0 x1 x2 x3 x4 x5 x6 x7, l = [x0, x1, x2, x3, x4, x5, x6, x7] := by match l, h with | [x0, x1, x2, x3, x4, x5, x6, x7], _ => exact ⟨x0, x1, x2, x3, x4, x5, x6, x7, rfl⟩
theorem list9 {α : Type} {l : List α} (h : l.length = 9) : ∃ x0 x1 x2 x3 x4 x5 x6 x7 x8, l = [x0, x1, x2, x3, x4, x5, x6, x7, x8] := by match l, h with | [x0, x1, x2, x3, x4, x5, x6, x7, x8], _ => exact ⟨x0, x1, x2, x3, x4, x5, x6, x7, x8, rfl⟩
theorem list10 {α : Type} {l : List α} (h : l.length = 10) : ∃ x0 x1 x2 x3 x4 x5 x6 x7 x8 x9, l = [x0, x1, x2, x3, x4, x5, x6, x7, x8, x9] := by match l, h with | [x0, x1, x2, x3, x4, x5, x6, x7, x8, x9], _ => exact ⟨x0, x1, x2, x3, x4, x5, x6, x7, x8, x9, rfl⟩
theorem list11 {α : Type} {l : List α} (h : l.length = 11) : ∃ x0 x1 x2 x3 x4 x5 x6 x7 x8 x9 x10, l = [x0, x1, x2, x3, x4, x5, x6, x7, x8, x9, x10] := by match l, h with | [x0, x1, x2, x3, x4, x5, x6, x7, x8, x9, x10], _ => exact ⟨x0, x1, x2, x3, x4, x5, x6, x7, x8, x9, x10, rfl⟩
theorem list12 {α : Type} {l : List α} (h : l.length = 12) : ∃ x0 x1 x2 x3 x4 x5 x6 x7 x8 x9 x10 x11, l = [x0, x1, x2, x3, x4, x5, x6, x7, x8, x9, x10, x11] := by match l, h with | [x0, x1, x2, x3, x4, x5, x6, x7, x8, x9, x10, x11], _ => exact ⟨x0, x1, x2, x3, x4, x5, x6, x7, x8, x9, x10, x11, rfl⟩
theorem list13 {α : Type} {l : List α} (h : l.length = 13) : ∃ x0 x1 x2 x3 x4 x5 x6 x7 x8 x9 x10 x11 x12, l = [x0, x1, x2, x3, x4, x5, x6, x7, x8, x9, x10, x11, x12] := by match l, h with | [x0, x1, x2, x3, x4, x5, x6, x7, x8, x9, x10, x11, x12], _ => exact ⟨x0, x1, x2, x3, x4, x5, x6, x7, x8, x9, x10, x11, x12, rfl⟩
theorem list14 {α : Type} {l : List α} (h : l.length = 14) : ∃ x0 x1 x2 x3 x4 x5 x6 x7 x8 x9 x10 x11 x12 x13, l = [x0, x1, x2, x3, x4, x5, x6, x7, x8, x9, x10, x11, x12, x13] := by match l, h with | [x0, x1, x2, x3, x4, x5, x6, x7, x8, x9, x10, x11, x12, x13], _ => exact ⟨x0, x1, x2, x3, x4, x5, x6, x7, x8, x9, x10, x11, x12, x13, rfl⟩
theorem list15 {α : Type} {l : List α} (h : l.length = 15) : ∃ x0 x1 x2 x3 x4 x5 x6 x7 x8 x9 x10 x11 x12 x13 x14, l = [x0, x1, x2, x3, x4, x5, x6, x7, x8, x9, x10, x11, x12, x13, x14] := by match l, h with | [x0, x1, x2, x3, x4, x5, x6, x7, x8, x9, x10, x11, x12, x13, x14], _ => exact ⟨x0, x1, x2, x3, x4, x5, x6, x7, x8, x9, x10, x11, x12, x13, x14, rfl⟩
theorem list16 {α : Type} {l : List α} (h : l.length = 16) : ∃ x0 x1 x2 x3 x4 x5 x6 x7 x8 x9 x10 x11 x12 x13 x14 x15, l = [x0, x1, x2, x3, x4, x5, x6, x7, x8, x9, x10, x11, x12, x13, x14, x15] := by match l, h with | [x0, x1, x2, x3, x4, x5, x6, x7, x8, x9, x10, x11, x12, x13, x14, x15], _ => exact ⟨x0, x1, x2, x3, x4, x5, x6, x7, x8, x9, x10, x11, x12, x13, x14, x15, rfl⟩

end Go.Proofs.YtdaifepjmkmpjaaDoor
