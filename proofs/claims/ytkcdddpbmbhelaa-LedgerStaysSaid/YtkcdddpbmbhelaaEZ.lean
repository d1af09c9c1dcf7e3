/-
  A ledger that came in.
-/
import Derived.Test.YtkcdddpbmbhelaaEA
import Derived.Test.YtkcdddpbmbhelaaRec
import Derived.OpenShut
import Derived.WideShapes
namespace Go.Proofs.Ytkcdddpbmbhelaa
open Go.RowKit Go.ChangeShapes Go.WideShapes

theorem row_intsW {w : World} {a : Option Addr} {len cap : Nat} {zs : List Int} (h : IsRow .i64 w a len cap zs) (hs : ∀ x, a = some x → x.spot = none ∧ x.block < w.heap.size) :
    Ints w (.slice a len cap) (zs.take len) ∧ (∀ k, (Value.slice a len cap).ownBlock = some k → k < w.heap.size) ∧ (zs.take len).length ≤ maxLen ∧ ∀ n ∈ zs.take len, (Lit.int .i64 n).wf = true := by
  rcases h with ⟨rfl, rfl, rfl, rfl⟩ | ⟨x, rfl, hl, hm, hz, hc, hw⟩
  · exact ⟨.inl ⟨rfl, rfl⟩, by simp [Value.ownBlock], Nat.zero_le _, by simp⟩
  · obtain ⟨hsp, hb⟩ := hs x rfl
    obtain ⟨b, off, sp⟩ := x
    simp only at hsp hb
    subst hsp
    have hlen : (zs.take len).length = len := by simp; omega
    refine ⟨.inr ⟨b, off, cap, by rw [hlen], by omega, fun i hi => ?_⟩, fun k hk => ?_, by omega, fun n hn => hw n (List.mem_of_mem_take hn)⟩
    · rw [hlen] at hi
      have := hc i (by omega)
      rw [addr_add] at this
      rw [this]
      simp [hi]
    · simp [Value.ownBlock] at hk
      omega

/-- What is known of a ledger that came in. -/
structure CameL (w : World) (L : Led) (V : Nat → Value) : Prop where
  is : LedIs w L V
  low : ∀ j, j < 4 → ∀ q, (V j).ownBlock = some q → q < w.heap.size
  len : ∀ j, j < 4 → (L.t j).bs.length ≤ maxLen
  wf : ∀ j, j < 4 → ∀ n ∈ (L.t j).bs, (Lit.int .i64 n).wf = true
  ep : ∀ j, j < 4 → (Lit.int .i64 (L.t j).ep).wf = true
  sz : ∀ j, j < 4 → (Lit.int .i64 (L.t j).sz).wf = true
  sp : ∀ j, j < 4 → (Lit.int .i64 (L.t j).sp).wf = true
  gen : (Lit.int .i64 L.gen).wf = true
  eps : (Lit.int .i64 L.eps).wf = true

def of4T {α : Type} (x y z u : α) : Nat → α
  | 0 => x
  | 1 => y
  | 2 => z
  | _ => u

section
variable {H : Type} {enc : TypeId × Value → H} {w : World} {base b0 : Nat} {held : Bool}

/-- One tenant out of its five cells. -/
theorem open_ten {n : Nat} {c0 c1 c2 c3 c4 : Value} {y : DataW H × List MemPlace} (hs : Value.okWide Try.prog w .any b0 22 c4) (h : DataW.trod enc Try.prog w base (fun _ => true) held n 24 [c0, c1, c2, c3, c4] = some y) :
    ∃ (x : Ten), [c0, c1, c2, c3, c4] = (tenC x c4).toList ∧ Ints w c4 x.bs ∧ (∀ q, c4.ownBlock = some q → q < w.heap.size) ∧ x.bs.length ≤ maxLen ∧ (∀ n ∈ x.bs, (Lit.int .i64 n).wf = true) ∧
      (Lit.int .i64 x.ep).wf = true ∧ (Lit.int .i64 x.sz).wf = true ∧ (Lit.int .i64 x.sp).wf = true := by
  obtain ⟨xs, m, _, _, _, hl, hat⟩ := DataW.trod_struct Try.underlying24 h
  have k0 : DataW.trod enc Try.prog w base (fun _ => true) held m 4 (([c0, c1, c2, c3, c4].drop 0).take (Try.prog.cellsOf 4)) = xs[0]? := hat 0 _ rfl
  have k1 : DataW.trod enc Try.prog w base (fun _ => true) held m 3 (([c0, c1, c2, c3, c4].drop 1).take (Try.prog.cellsOf 3)) = xs[1]? := hat 1 _ rfl
  have k2 : DataW.trod enc Try.prog w base (fun _ => true) held m 3 (([c0, c1, c2, c3, c4].drop 2).take (Try.prog.cellsOf 3)) = xs[2]? := hat 2 _ rfl
  have k3 : DataW.trod enc Try.prog w base (fun _ => true) held m 3 (([c0, c1, c2, c3, c4].drop 3).take (Try.prog.cellsOf 3)) = xs[3]? := hat 3 _ rfl
  have k4 : DataW.trod enc Try.prog w base (fun _ => true) held m 22 (([c0, c1, c2, c3, c4].drop 4).take (Try.prog.cellsOf 22)) = xs[4]? := hat 4 _ rfl
  have hl5 : xs.length = 5 := hl
  rw [show Try.prog.cellsOf 4 = 1 by kernel_rfl] at k0
  rw [show Try.prog.cellsOf 3 = 1 by kernel_rfl] at k1 k2 k3
  rw [show Try.prog.cellsOf 22 = 1 by kernel_rfl] at k4
  rw [List.getElem?_eq_getElem (by omega)] at k0 k1 k2 k3 k4
  obtain ⟨b, e0, _⟩ := DataW.trod_bool Try.underlying4 k0
  obtain ⟨n1, e1, _, w1⟩ := DataW.trod_int Try.underlying3 k1
  obtain ⟨n2, e2, _, w2⟩ := DataW.trod_int Try.underlying3 k2
  obtain ⟨n3, e3, _, w3⟩ := DataW.trod_int Try.underlying3 k3
  obtain ⟨a4, l4, p4, rfl⟩ := okWide_slice Try.underlying22 hs
  simp at e0 e1 e2 e3
  obtain ⟨zs, hz⟩ := row_of (d := (xs[4]).1) (p := (xs[4]).2) (a := a4) (len := l4) (cap := p4) Try.underlying22 Try.underlying3 (by kernel_rfl) ⟨m, k4⟩
  obtain ⟨r1, r2, r3, r4⟩ := row_intsW hz (fun x hx => by cases hx; exact slice_good Try.underlying22 hs)
  exact ⟨⟨b, n1, n2, n3, zs.take l4⟩, by simp [tenC, e0, e1, e2, e3], r1, r2, r3, r4, w1, w2, w3⟩

theorem open_led {v : Value} {d : DataW H} {p : List MemPlace} (hv : Value.okWide Try.prog w .any b0 27 v) (h : DataW.Trod enc Try.prog w base (fun _ => true) held 27 v d p) : ∃ (L : Led) (V : Nat → Value), v = .agg (ledC L V) ∧ CameL w L V := by
  simp only [Value.okWide, Try.underlying27] at hv
  obtain ⟨cs, rfl, hsz, ts, h1, _, hall⟩ := hv
  rw [show Try.prog.cellTypes Try.prog.depth 27 = some [3, 3, 4, 3, 3, 3, 22, 4, 3, 3, 3, 22, 4, 3, 3, 3, 22, 4, 3, 3, 3, 22] by kernel_rfl] at h1
  obtain rfl := Option.some.inj h1
  rw [show Try.prog.cellsOf 27 = 22 by kernel_rfl] at hsz
  obtain ⟨l⟩ := cs
  obtain ⟨c0, c1, c2, c3, c4, c5, c6, c7, c8, c9, c10, c11, c12, c13, c14, c15, c16, c17, c18, c19, c20, c21, rfl⟩ : ∃ c0 c1 c2 c3 c4 c5 c6 c7 c8 c9 c10 c11 c12 c13 c14 c15 c16 c17 c18 c19 c20 c21, l = [c0, c1, c2, c3, c4, c5, c6, c7, c8, c9, c10, c11, c12, c13, c14, c15, c16, c17, c18, c19, c20, c21] := by
    match l, (show l.length = 22 by simpa using hsz) with
    | [a0, a1, a2, a3, a4, a5, a6, a7, a8, a9, a10, a11, a12, a13, a14, a15, a16, a17, a18, a19, a20, a21], _ => exact ⟨a0, a1, a2, a3, a4, a5, a6, a7, a8, a9, a10, a11, a12, a13, a14, a15, a16, a17, a18, a19, a20, a21, rfl⟩
  have sl : ∀ (i : Nat) (v : Value), #[c0, c1, c2, c3, c4, c5, c6, c7, c8, c9, c10, c11, c12, c13, c14, c15, c16, c17, c18, c19, c20, c21][i]? = some v → (i = 6 ∨ i = 11 ∨ i = 16 ∨ i = 21) → Value.okWide Try.prog w .any b0 22 v := by
    intro i v hi hk
    obtain ⟨u, hu, hw⟩ := hall i v hi
    have hus : 22 = u := by rcases hk with rfl | rfl | rfl | rfl <;> simpa using hu
    subst hus
    simpa only [Value.okWide, Try.underlying22] using hw
  have s0 := sl 6 c6 rfl (by omega)
  have s1 := sl 11 c11 rfl (by omega)
  have s2 := sl 16 c16 rfl (by omega)
  have s3 := sl 21 c21 rfl (by omega)
  obtain ⟨fuel, hf⟩ := h
  obtain ⟨xs, m, _, _, _, hl, hat⟩ := DataW.trod_struct Try.underlying27 hf
  have hl3 : xs.length = 3 := hl
  have k0 : DataW.trod enc Try.prog w base (fun _ => true) held m 3 (([c0, c1, c2, c3, c4, c5, c6, c7, c8, c9, c10, c11, c12, c13, c14, c15, c16, c17, c18, c19, c20, c21].drop 0).take (Try.prog.cellsOf 3)) = xs[0]? := hat 0 _ rfl
  have k1 : DataW.trod enc Try.prog w base (fun _ => true) held m 3 (([c0, c1, c2, c3, c4, c5, c6, c7, c8, c9, c10, c11, c12, c13, c14, c15, c16, c17, c18, c19, c20, c21].drop 1).take (Try.prog.cellsOf 3)) = xs[1]? := hat 1 _ rfl
  have k2 : DataW.trod enc Try.prog w base (fun _ => true) held m 25 (([c0, c1, c2, c3, c4, c5, c6, c7, c8, c9, c10, c11, c12, c13, c14, c15, c16, c17, c18, c19, c20, c21].drop 2).take (Try.prog.cellsOf 25)) = xs[2]? := hat 2 _ rfl
  rw [show Try.prog.cellsOf 3 = 1 by kernel_rfl] at k0 k1
  rw [show Try.prog.cellsOf 25 = 20 by kernel_rfl] at k2
  rw [List.getElem?_eq_getElem (by omega)] at k0 k1 k2
  obtain ⟨g, e0, _, w0⟩ := DataW.trod_int Try.underlying3 k0
  obtain ⟨e, e1, _, w1⟩ := DataW.trod_int Try.underlying3 k1
  obtain ⟨ys, m2, _, _, _, hyl, hy⟩ := DataW.trod_array Try.underlying25 k2
  have hy0 := hy 0 (by omega)
  have hy1 := hy 1 (by omega)
  have hy2 := hy 2 (by omega)
  have hy3 := hy 3 (by omega)
  rw [show Try.prog.cellsOf 24 = 5 by kernel_rfl] at hy0 hy1 hy2 hy3
  rw [List.getElem?_eq_getElem (by omega)] at hy0 hy1 hy2 hy3
  obtain ⟨x0, q0, i0, o0, n0, f0, p0, z0, r0⟩ := open_ten (c0 := c2) (c1 := c3) (c2 := c4) (c3 := c5) (c4 := c6) s0 hy0
  obtain ⟨x1, q1, i1, o1, n1, f1, p1, z1, r1⟩ := open_ten (c0 := c7) (c1 := c8) (c2 := c9) (c3 := c10) (c4 := c11) s1 hy1
  obtain ⟨x2, q2, i2, o2, n2, f2, p2, z2, r2⟩ := open_ten (c0 := c12) (c1 := c13) (c2 := c14) (c3 := c15) (c4 := c16) s2 hy2
  obtain ⟨x3, q3, i3, o3, n3, f3, p3, z3, r3⟩ := open_ten (c0 := c17) (c1 := c18) (c2 := c19) (c3 := c20) (c4 := c21) s3 hy3
  simp [Value.cells] at e0 e1
  simp [tenC] at q0 q1 q2 q3
  refine ⟨⟨g, e, of4T x0 x1 x2 x3⟩, of4T c6 c11 c16 c21, ?_, ?_⟩
  · simp [ledC, of4T, e0, e1, q0, q1, q2, q3]
  · have four : ∀ {p : Nat → Prop}, p 0 → p 1 → p 2 → p 3 → ∀ j, j < 4 → p j := fun a b c d j hj => by
      have e : j = 0 ∨ j = 1 ∨ j = 2 ∨ j = 3 := by omega
      rcases e with rfl | rfl | rfl | rfl
      · exact a
      · exact b
      · exact c
      · exact d
    exact ⟨four i0 i1 i2 i3, four (p := fun j => ∀ q, (of4T c6 c11 c16 c21 j).ownBlock = some q → q < w.heap.size) o0 o1 o2 o3, four (p := fun j => (of4T x0 x1 x2 x3 j).bs.length ≤ maxLen) n0 n1 n2 n3, four (p := fun j => ∀ n ∈ (of4T x0 x1 x2 x3 j).bs, (Lit.int .i64 n).wf = true) f0 f1 f2 f3,
      four (p := fun j => (Lit.int .i64 (of4T x0 x1 x2 x3 j).ep).wf = true) p0 p1 p2 p3, four (p := fun j => (Lit.int .i64 (of4T x0 x1 x2 x3 j).sz).wf = true) z0 z1 z2 z3, four (p := fun j => (Lit.int .i64 (of4T x0 x1 x2 x3 j).sp).wf = true) r0 r1 r2 r3, w0, w1⟩
end

end Go.Proofs.Ytkcdddpbmbhelaa
