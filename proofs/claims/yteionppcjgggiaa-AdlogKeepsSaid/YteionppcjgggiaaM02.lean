/-
  Texts put together: EZ RX KR WA UA EB AT EC.
-/
import Derived.Test.YteionppcjgggiaaM01
import Derived.OpenShut
import Derived.WideShapes
import Derived.SliceStrings
import Derived.Test.YteionppcjgggiaaRows
import Derived.WalkKit
import Derived.WalkSpells
import Derived.WalkLawsBesides
import Derived.BigQuiet
import Derived.Deep.QuietTactic
import Derived.Lib.Hide
import Derived.Laws.LoneSync
import Derived.RegionCalls
import Derived.Below
import Derived.Maps.AppendAt
import Derived.Deep.AppendLies
/-
  A ledger that came in.
-/
namespace Go.Proofs.Yteionppcjgggiaa
set_option linter.unusedVariables false
set_option linter.unusedSimpArgs false
set_option maxRecDepth 100000
open Go.RowKit Go.ChangeShapes Go.WideShapes

theorem row_intsW {w : World} {a : Option Addr} {len cap : Nat} {zs : List Int} (h : IsRow .i64 w a len cap zs) (hs : ∀ x, a = some x → x.spot = none ∧ x.block < w.heap.size) :
    Ints w (.slice a len cap) (zs.take len) ∧ (∀ k, (Value.slice a len cap).ownBlock = some k → k < w.heap.size) ∧ (zs.take len).length ≤ maxLen ∧ ∀ n ∈ zs.take len, (Lit.int .i64 n).wf = true := by
  rcases h with ⟨rfl, rfl, rfl, rfl⟩ | ⟨x, rfl, hl, hm, hz, hc, hw⟩
  · exact ⟨.inl ⟨rfl, rfl⟩, by simp [Value.ownBlock], Nat.zero_le _, by simp⟩
  · obtain ⟨hsp, hb⟩ := hs x rfl
    obtain ⟨b, off, sp⟩ := x
    simp only at hsp hb
    subst hsp
    have hlen : (zs.take len).length = len := by simp; omega
    refine ⟨.inr (.inl ⟨b, off, cap, by rw [hlen], by omega, fun i hi => ?_⟩), fun k hk => ?_, by omega, fun n hn => hw n (List.mem_of_mem_take hn)⟩
    · rw [hlen] at hi
      have := hc i (by omega)
      rw [addr_add] at this
      rw [this]
      simp [hi]
    · simp [Value.ownBlock] at hk
      omega

/-- What is known of a ledger that came in. -/
structure CameL (w : World) (L : Led) (V : Nat → Value) : Prop where
  is : LedIs w L V
  low : ∀ j, j < 4 → ∀ q, (V j).ownBlock = some q → q < w.heap.size
  len : ∀ j, j < 4 → (L.t j).bs.length ≤ maxLen
  wf : ∀ j, j < 4 → ∀ n ∈ (L.t j).bs, (Lit.int .i64 n).wf = true
  ep : ∀ j, j < 4 → (Lit.int .i64 (L.t j).ep).wf = true
  sz : ∀ j, j < 4 → (Lit.int .i64 (L.t j).sz).wf = true
  sp : ∀ j, j < 4 → (Lit.int .i64 (L.t j).sp).wf = true
  gen : (Lit.int .i64 L.gen).wf = true
  eps : (Lit.int .i64 L.eps).wf = true

def of4T {α : Type} (x y z u : α) : Nat → α
  | 0 => x
  | 1 => y
  | 2 => z
  | _ => u

section
variable {H : Type} {enc : TypeId × Value → H} {w : World} {base b0 : Nat} {held : Bool}

set_option maxRecDepth 100000 in
/-- One tenant out of its five cells. -/
theorem open_ten {n : Nat} {c0 c1 c2 c3 c4 : Value} {y : DataW H × List MemPlace} (hs : Value.okWide Try.prog w .any b0 29 c4) (h : DataW.trod enc Try.prog w base (fun _ => true) held n 31 [c0, c1, c2, c3, c4] = some y) :
    ∃ (x : Ten), [c0, c1, c2, c3, c4] = (tenC x c4).toList ∧ Ints w c4 x.bs ∧ (∀ q, c4.ownBlock = some q → q < w.heap.size) ∧ x.bs.length ≤ maxLen ∧ (∀ n ∈ x.bs, (Lit.int .i64 n).wf = true) ∧
      (Lit.int .i64 x.ep).wf = true ∧ (Lit.int .i64 x.sz).wf = true ∧ (Lit.int .i64 x.sp).wf = true := by
  obtain ⟨xs, m, _, _, _, hl, hat⟩ := DataW.trod_struct Try.underlying31 h
  have k0 : DataW.trod enc Try.prog w base (fun _ => true) held m 4 (([c0, c1, c2, c3, c4].drop 0).take (Try.prog.cellsOf 4)) = xs[0]? := hat 0 _ rfl
  have k1 : DataW.trod enc Try.prog w base (fun _ => true) held m 3 (([c0, c1, c2, c3, c4].drop 1).take (Try.prog.cellsOf 3)) = xs[1]? := hat 1 _ rfl
  have k2 : DataW.trod enc Try.prog w base (fun _ => true) held m 3 (([c0, c1, c2, c3, c4].drop 2).take (Try.prog.cellsOf 3)) = xs[2]? := hat 2 _ rfl
  have k3 : DataW.trod enc Try.prog w base (fun _ => true) held m 3 (([c0, c1, c2, c3, c4].drop 3).take (Try.prog.cellsOf 3)) = xs[3]? := hat 3 _ rfl
  have k4 : DataW.trod enc Try.prog w base (fun _ => true) held m 29 (([c0, c1, c2, c3, c4].drop 4).take (Try.prog.cellsOf 29)) = xs[4]? := hat 4 _ rfl
  have hl5 : xs.length = 5 := hl
  rw [show Try.prog.cellsOf 4 = 1 by kernel_rfl] at k0
  rw [show Try.prog.cellsOf 3 = 1 by kernel_rfl] at k1 k2 k3
  rw [show Try.prog.cellsOf 29 = 1 by kernel_rfl] at k4
  rw [List.getElem?_eq_getElem (by omega)] at k0 k1 k2 k3 k4
  obtain ⟨b, e0, _⟩ := DataW.trod_bool Try.underlying4 k0
  obtain ⟨n1, e1, _, w1⟩ := DataW.trod_int Try.underlying3 k1
  obtain ⟨n2, e2, _, w2⟩ := DataW.trod_int Try.underlying3 k2
  obtain ⟨n3, e3, _, w3⟩ := DataW.trod_int Try.underlying3 k3
  obtain ⟨a4, l4, p4, rfl⟩ := okWide_slice Try.underlying29 hs
  simp at e0 e1 e2 e3
  obtain ⟨zs, hz⟩ := row_of (d := (xs[4]).1) (p := (xs[4]).2) (a := a4) (len := l4) (cap := p4) Try.underlying29 Try.underlying3 (by kernel_rfl) ⟨m, k4⟩
  obtain ⟨r1, r2, r3, r4⟩ := row_intsW hz (fun x hx => by cases hx; exact slice_good Try.underlying29 hs)
  exact ⟨⟨b, n1, n2, n3, zs.take l4⟩, by simp [tenC, e0, e1, e2, e3], r1, r2, r3, r4, w1, w2, w3⟩

set_option maxRecDepth 100000 in
theorem open_led {v : Value} {d : DataW H} {p : List MemPlace} (hv : Value.okWide Try.prog w .any b0 34 v) (h : DataW.Trod enc Try.prog w base (fun _ => true) held 34 v d p) : ∃ (L : Led) (V : Nat → Value), v = .agg (ledC L V) ∧ CameL w L V := by
  simp only [Value.okWide, Try.underlying34] at hv
  obtain ⟨cs, rfl, hsz, ts, h1, _, hall⟩ := hv
  rw [show Try.prog.cellTypes Try.prog.depth 34 = some [3, 3, 4, 3, 3, 3, 29, 4, 3, 3, 3, 29, 4, 3, 3, 3, 29, 4, 3, 3, 3, 29] by kernel_rfl] at h1
  obtain rfl := Option.some.inj h1
  rw [show Try.prog.cellsOf 34 = 22 by kernel_rfl] at hsz
  obtain ⟨l⟩ := cs
  obtain ⟨c0, c1, c2, c3, c4, c5, c6, c7, c8, c9, c10, c11, c12, c13, c14, c15, c16, c17, c18, c19, c20, c21, rfl⟩ : ∃ c0 c1 c2 c3 c4 c5 c6 c7 c8 c9 c10 c11 c12 c13 c14 c15 c16 c17 c18 c19 c20 c21, l = [c0, c1, c2, c3, c4, c5, c6, c7, c8, c9, c10, c11, c12, c13, c14, c15, c16, c17, c18, c19, c20, c21] := by
    match l, (show l.length = 22 by simpa using hsz) with
    | [a0, a1, a2, a3, a4, a5, a6, a7, a8, a9, a10, a11, a12, a13, a14, a15, a16, a17, a18, a19, a20, a21], _ => exact ⟨a0, a1, a2, a3, a4, a5, a6, a7, a8, a9, a10, a11, a12, a13, a14, a15, a16, a17, a18, a19, a20, a21, rfl⟩
  have sl : ∀ (i : Nat) (v : Value), #[c0, c1, c2, c3, c4, c5, c6, c7, c8, c9, c10, c11, c12, c13, c14, c15, c16, c17, c18, c19, c20, c21][i]? = some v → (i = 6 ∨ i = 11 ∨ i = 16 ∨ i = 21) → Value.okWide Try.prog w .any b0 29 v := by
    intro i v hi hk
    obtain ⟨u, hu, hw⟩ := hall i v hi
    have hus : 29 = u := by rcases hk with rfl | rfl | rfl | rfl <;> simpa using hu
    subst hus
    simpa only [Value.okWide, Try.underlying29] using hw
  have s0 := sl 6 c6 rfl (by omega)
  have s1 := sl 11 c11 rfl (by omega)
  have s2 := sl 16 c16 rfl (by omega)
  have s3 := sl 21 c21 rfl (by omega)
  obtain ⟨fuel, hf⟩ := h
  obtain ⟨xs, m, _, _, _, hl, hat⟩ := DataW.trod_struct Try.underlying34 hf
  have hl3 : xs.length = 3 := hl
  have k0 : DataW.trod enc Try.prog w base (fun _ => true) held m 3 (([c0, c1, c2, c3, c4, c5, c6, c7, c8, c9, c10, c11, c12, c13, c14, c15, c16, c17, c18, c19, c20, c21].drop 0).take (Try.prog.cellsOf 3)) = xs[0]? := hat 0 _ rfl
  have k1 : DataW.trod enc Try.prog w base (fun _ => true) held m 3 (([c0, c1, c2, c3, c4, c5, c6, c7, c8, c9, c10, c11, c12, c13, c14, c15, c16, c17, c18, c19, c20, c21].drop 1).take (Try.prog.cellsOf 3)) = xs[1]? := hat 1 _ rfl
  have k2 : DataW.trod enc Try.prog w base (fun _ => true) held m 32 (([c0, c1, c2, c3, c4, c5, c6, c7, c8, c9, c10, c11, c12, c13, c14, c15, c16, c17, c18, c19, c20, c21].drop 2).take (Try.prog.cellsOf 32)) = xs[2]? := hat 2 _ rfl
  rw [show Try.prog.cellsOf 3 = 1 by kernel_rfl] at k0 k1
  rw [show Try.prog.cellsOf 32 = 20 by kernel_rfl] at k2
  rw [List.getElem?_eq_getElem (by omega)] at k0 k1 k2
  obtain ⟨g, e0, _, w0⟩ := DataW.trod_int Try.underlying3 k0
  obtain ⟨e, e1, _, w1⟩ := DataW.trod_int Try.underlying3 k1
  obtain ⟨ys, m2, _, _, _, hyl, hy⟩ := DataW.trod_array Try.underlying32 k2
  have hy0 := hy 0 (by omega)
  have hy1 := hy 1 (by omega)
  have hy2 := hy 2 (by omega)
  have hy3 := hy 3 (by omega)
  rw [show Try.prog.cellsOf 31 = 5 by kernel_rfl] at hy0 hy1 hy2 hy3
  rw [List.getElem?_eq_getElem (by omega)] at hy0 hy1 hy2 hy3
  obtain ⟨x0, q0, i0, o0, n0, f0, p0, z0, r0⟩ := open_ten (c0 := c2) (c1 := c3) (c2 := c4) (c3 := c5) (c4 := c6) s0 hy0
  obtain ⟨x1, q1, i1, o1, n1, f1, p1, z1, r1⟩ := open_ten (c0 := c7) (c1 := c8) (c2 := c9) (c3 := c10) (c4 := c11) s1 hy1
  obtain ⟨x2, q2, i2, o2, n2, f2, p2, z2, r2⟩ := open_ten (c0 := c12) (c1 := c13) (c2 := c14) (c3 := c15) (c4 := c16) s2 hy2
  obtain ⟨x3, q3, i3, o3, n3, f3, p3, z3, r3⟩ := open_ten (c0 := c17) (c1 := c18) (c2 := c19) (c3 := c20) (c4 := c21) s3 hy3
  simp at e0 e1
  simp [tenC] at q0 q1 q2 q3
  refine ⟨⟨g, e, of4T x0 x1 x2 x3⟩, of4T c6 c11 c16 c21, ?_, ?_⟩
  · simp [ledC, of4T, e0, e1, q0, q1, q2, q3]
  · have four : ∀ {p : Nat → Prop}, p 0 → p 1 → p 2 → p 3 → ∀ j, j < 4 → p j := fun a b c d j hj => by
      have e : j = 0 ∨ j = 1 ∨ j = 2 ∨ j = 3 := by omega
      rcases e with rfl | rfl | rfl | rfl
      · exact a
      · exact b
      · exact c
      · exact d
    exact ⟨four i0 i1 i2 i3, four (p := fun j => ∀ q, (of4T c6 c11 c16 c21 j).ownBlock = some q → q < w.heap.size) o0 o1 o2 o3, four (p := fun j => (of4T x0 x1 x2 x3 j).bs.length ≤ maxLen) n0 n1 n2 n3, four (p := fun j => ∀ n ∈ (of4T x0 x1 x2 x3 j).bs, (Lit.int .i64 n).wf = true) f0 f1 f2 f3,
      four (p := fun j => (Lit.int .i64 (of4T x0 x1 x2 x3 j).ep).wf = true) p0 p1 p2 p3, four (p := fun j => (Lit.int .i64 (of4T x0 x1 x2 x3 j).sz).wf = true) z0 z1 z2 z3, four (p := fun j => (Lit.int .i64 (of4T x0 x1 x2 x3 j).sp).wf = true) r0 r1 r2 r3, w0, w1⟩
end

end Go.Proofs.Yteionppcjgggiaa

/-
  Slices that came in: of strings; of structs with bytes among their fields (and integers, bools, strings): their cells.
-/
namespace Go.Proofs.Yteionppcjgggiaa
set_option linter.unusedVariables false
set_option linter.unusedSimpArgs false
set_option maxRecDepth 100000
open Go.RowKit Go.ChangeShapes Go.WideShapes Go.Deep

/-- What a field may be. -/
inductive FX where
  | int (k : IntKind)
  | bool
  | str
  | byts
def FitsX (w : World) : FX → Value → Prop
  | .int k, v => ∃ n, v = .int k n ∧ (Lit.int k n).wf = true
  | .bool, v => ∃ b, v = .bool b
  | .str, v => ∃ s : ByteArray, v = .string s ∧ s.size ≤ maxLen
  | .byts, v => ∃ a len cap zs, v = .slice a len cap ∧ IsRow .u8 w a len cap zs
def TypeFX (P : Program) (t : TypeId) : FX → Prop
  | .int k => P.underlying t = some (.int k)
  | .bool => P.underlying t = some .bool
  | .str => P.underlying t = some .string
  | .byts => ∃ e, P.underlying t = some (.slice e) ∧ P.underlying e = some (.int .u8) ∧ P.cellsOf e = 1

/-- A slice of structs: nil, or its cells. -/
def IsRecX (ks : List FX) (w : World) (a : Option Addr) (len cap : Nat) : Prop :=
  (a = none ∧ len = 0 ∧ cap = 0) ∨
  ∃ x, a = some x ∧ len ≤ cap ∧ cap ≤ maxLen ∧ ∀ i, i < len → ∀ j k, ks[j]? = some k → ∃ v, w.cell? (x.add (i * ks.length + j)) = some v ∧ FitsX w k v
/-- A slice of strings: nil, or its cells. -/
def IsStrs (w : World) (a : Option Addr) (len cap : Nat) (ss : List ByteArray) : Prop :=
  (a = none ∧ len = 0 ∧ cap = 0 ∧ ss = []) ∨
  ∃ x, a = some x ∧ len ≤ cap ∧ cap ≤ maxLen ∧ ss.length = cap ∧ (∀ i, i < ss.length → w.cell? (x.add i) = some (.string (ss.getD i ByteArray.empty))) ∧ ∀ s ∈ ss, s.size ≤ maxLen

section
variable {H : Type} {enc : TypeId × Value → H} {P : Program} {w : World} {base : Nat} {held : Bool}

theorem fitsX_of {t : TypeId} {k : FX} (hk : TypeFX P t k) {n : Nat} {v : Value} {y : DataW H × List MemPlace} (h : DataW.trod enc P w base (fun _ => true) held n t [v] = some y) : FitsX w k v := by
  match k, hk with
  | .int k, hk =>
    obtain ⟨m, h1, _, h2⟩ := DataW.trod_int hk h
    simp at h1
    exact ⟨m, h1, h2⟩
  | .bool, hk =>
    obtain ⟨b, h1, _⟩ := DataW.trod_bool hk h
    simp at h1
    exact ⟨b, h1⟩
  | .str, hk =>
    obtain ⟨s, h1, _, h2⟩ := DataW.trod_string hk h
    simp at h1
    exact ⟨s, h1, h2⟩
  | .byts, hk =>
    obtain ⟨e, ht, he, hc⟩ := hk
    rcases open_ints ht he hc h with ⟨hcs, _⟩ | ⟨x, l, c, zs, hcs, _, hl, hm, hz, _, hcell, hwz⟩
    · simp at hcs
      exact ⟨none, 0, 0, [], hcs, .inl ⟨rfl, rfl, rfl, rfl⟩⟩
    · simp at hcs
      exact ⟨some x, l, c, zs, hcs, .inr ⟨_, rfl, hl, hm, by simpa using hz, hcell, hwz⟩⟩

theorem open_recX {t e : TypeId} {fs : Array Field} {ks : List FX} {a : Option Addr} {len cap : Nat} {fuel : Nat} {x : DataW H × List MemPlace} (ht : P.underlying t = some (.slice e)) (he : P.underlying e = some (.struct fs))
    (hone : oneCellFields P fs = true) (hC : P.cellsOf e = fs.size) (hl : ks.length = fs.size) (hks : ∀ (j : Nat) (k : FX), ks[j]? = some k → ∃ f : Field, fs[j]? = some f ∧ TypeFX P f.type k)
    (h : DataW.trod enc P w base (fun _ => true) held fuel t [.slice a len cap] = some x) : IsRecX ks w a len cap := by
  rcases open_slice ht h with ⟨h0, _⟩ | ⟨b, n, c, m, q, D, Pl, hcs, _, h1, h2, hm, _, hi⟩
  · simp at h0
    exact .inl h0
  · simp at hcs
    obtain ⟨rfl, rfl, rfl⟩ := hcs
    refine .inr ⟨b, rfl, h1, h2, fun i hin j k hj => ?_⟩
    have him : i < m := by rw [hm]; split <;> omega
    obtain ⟨cs, hc, hs⟩ := hi i him
    obtain ⟨f, hf, hk⟩ := hks j k hj
    obtain ⟨ho, h3⟩ := hone_of hone j f hf
    have hjl : j < fs.size := (Array.getElem?_eq_some_iff.1 hf).1
    obtain ⟨ys, q', _, _, hlen, hyl, hall⟩ := DataW.trod_struct he hs
    obtain ⟨_, hcl, hat⟩ := World.cells?_some hc
    have hfj := hall j f hf
    rw [ho, h3] at hfj
    have hjc : j < cs.length := by omega
    have hd : (cs.drop j).take 1 = [cs[j]] := by rw [List.drop_eq_getElem_cons hjc]; rfl
    rw [hd, List.getElem?_eq_getElem (by omega)] at hfj
    refine ⟨cs[j], ?_, fitsX_of hk hfj⟩
    have hcell := hat j (by omega)
    rw [Go.Deep.add_add] at hcell
    rw [hl, ← hC, hcell, List.getElem?_eq_getElem hjc]

theorem open_strs7 {t e : TypeId} {a : Option Addr} {len cap : Nat} {fuel : Nat} {x : DataW H × List MemPlace} (ht : P.underlying t = some (.slice e)) (he : P.underlying e = some .string) (hc : P.cellsOf e = 1)
    (h : DataW.trod enc P w base (fun _ => true) held fuel t [.slice a len cap] = some x) : ∃ ss, IsStrs w a len cap ss := by
  rcases open_strings ht he hc h with ⟨hcs, _⟩ | ⟨b, l, c, ss, hcs, _, hl, hm, hz, _, hcell, hw⟩
  · simp at hcs
    obtain ⟨rfl, rfl, rfl⟩ := hcs
    exact ⟨[], .inl ⟨rfl, rfl, rfl, rfl⟩⟩
  · simp at hcs
    obtain ⟨rfl, rfl, rfl⟩ := hcs
    exact ⟨ss, .inr ⟨b, rfl, hl, hm, by simpa using hz, hcell, hw⟩⟩
end

end Go.Proofs.Yteionppcjgggiaa

/-
  Slices of ledgers that came in.
-/
namespace Go.Proofs.Yteionppcjgggiaa
set_option linter.unusedVariables false
set_option linter.unusedSimpArgs false
set_option maxRecDepth 100000
open Go.RowKit Go.ChangeShapes Go.WideShapes Go.Deep

theorem cell_spot {w : World} {a : Addr} {v : Value} (h : w.cell? a = some v) : a.spot = none := by
  unfold World.cell? at h
  split at h
  · split at h
    · cases h
    · rename_i hs; simpa using hs
  · cases h
theorem add_zero (a : Addr) : a.add 0 = a := by unfold Addr.add; simp
theorem row_ints0 {w : World} {a : Option Addr} {len cap : Nat} {zs : List Int} (h : IsRow .i64 w a len cap zs) :
    Ints w (.slice a len cap) (zs.take len) ∧ (0 < (zs.take len).length → ∀ q, (Value.slice a len cap).ownBlock = some q → q < w.heap.size) ∧ (zs.take len).length ≤ maxLen ∧ ∀ n ∈ zs.take len, (Lit.int .i64 n).wf = true := by
  rcases h with ⟨rfl, rfl, rfl, rfl⟩ | ⟨x, rfl, hl, hm, hz, hc, hw⟩
  · exact ⟨.inl ⟨rfl, rfl⟩, by simp, Nat.zero_le _, by simp⟩
  · have hlen : (zs.take len).length = len := by simp; omega
    have hwf : ∀ n ∈ zs.take len, (Lit.int .i64 n).wf = true := fun n hn => hw n (List.mem_of_mem_take hn)
    by_cases h0 : len = 0
    · subst h0
      exact ⟨.inr (.inr ⟨x, cap, rfl, by simp⟩), fun hh => by simp at hh, by simp, hwf⟩
    · have hc0 := hc 0 (by omega)
      rw [add_zero] at hc0
      have hsp := cell_spot hc0
      obtain ⟨b, off, sp⟩ := x
      simp only at hsp
      subst hsp
      refine ⟨.inr (.inl ⟨b, off, cap, by rw [hlen], by omega, fun i hi => ?_⟩), fun _ q hq => ?_, by omega, hwf⟩
      · rw [hlen] at hi
        have := hc i (by omega)
        rw [addr_add] at this
        rw [this]
        simp [hi]
      · simp [Value.ownBlock] at hq
        have := World.block_lt_of_cell? w _ hc0
        simp only at this
        omega

/-- What is known of a ledger that lies in memory that came in. -/
structure CameL0 (w : World) (L : Led) (V : Nat → Value) : Prop where
  is : LedIs w L V
  low : ∀ j, j < 4 → 0 < (L.t j).bs.length → ∀ q, (V j).ownBlock = some q → q < w.heap.size
  len : ∀ j, j < 4 → (L.t j).bs.length ≤ maxLen
  wf : ∀ j, j < 4 → ∀ n ∈ (L.t j).bs, (Lit.int .i64 n).wf = true
  ep : ∀ j, j < 4 → (Lit.int .i64 (L.t j).ep).wf = true

section
variable {H : Type} {enc : TypeId × Value → H} {w : World} {base : Nat} {held : Bool}

set_option maxRecDepth 100000 in
theorem open_ten0 {n : Nat} {c0 c1 c2 c3 c4 : Value} {y : DataW H × List MemPlace} (h : DataW.trod enc Try.prog w base (fun _ => true) held n 31 [c0, c1, c2, c3, c4] = some y) :
    ∃ (x : Ten), [c0, c1, c2, c3, c4] = (tenC x c4).toList ∧ Ints w c4 x.bs ∧ (0 < x.bs.length → ∀ q, c4.ownBlock = some q → q < w.heap.size) ∧ x.bs.length ≤ maxLen ∧ (∀ n ∈ x.bs, (Lit.int .i64 n).wf = true) ∧ (Lit.int .i64 x.ep).wf = true := by
  obtain ⟨xs, m, _, _, _, hl, hat⟩ := DataW.trod_struct Try.underlying31 h
  have k0 : DataW.trod enc Try.prog w base (fun _ => true) held m 4 (([c0, c1, c2, c3, c4].drop 0).take (Try.prog.cellsOf 4)) = xs[0]? := hat 0 _ rfl
  have k1 : DataW.trod enc Try.prog w base (fun _ => true) held m 3 (([c0, c1, c2, c3, c4].drop 1).take (Try.prog.cellsOf 3)) = xs[1]? := hat 1 _ rfl
  have k2 : DataW.trod enc Try.prog w base (fun _ => true) held m 3 (([c0, c1, c2, c3, c4].drop 2).take (Try.prog.cellsOf 3)) = xs[2]? := hat 2 _ rfl
  have k3 : DataW.trod enc Try.prog w base (fun _ => true) held m 3 (([c0, c1, c2, c3, c4].drop 3).take (Try.prog.cellsOf 3)) = xs[3]? := hat 3 _ rfl
  have k4 : DataW.trod enc Try.prog w base (fun _ => true) held m 29 (([c0, c1, c2, c3, c4].drop 4).take (Try.prog.cellsOf 29)) = xs[4]? := hat 4 _ rfl
  have hl5 : xs.length = 5 := hl
  rw [show Try.prog.cellsOf 4 = 1 by kernel_rfl] at k0
  rw [show Try.prog.cellsOf 3 = 1 by kernel_rfl] at k1 k2 k3
  rw [show Try.prog.cellsOf 29 = 1 by kernel_rfl] at k4
  rw [List.getElem?_eq_getElem (by omega)] at k0 k1 k2 k3 k4
  obtain ⟨b, e0, _⟩ := DataW.trod_bool Try.underlying4 k0
  obtain ⟨n1, e1, _, w1⟩ := DataW.trod_int Try.underlying3 k1
  obtain ⟨n2, e2, _, w2⟩ := DataW.trod_int Try.underlying3 k2
  obtain ⟨n3, e3, _, w3⟩ := DataW.trod_int Try.underlying3 k3
  simp at e0 e1 e2 e3
  obtain ⟨a4, l4, p4, zs, hv, hr⟩ : ∃ a len cap zs, c4 = .slice a len cap ∧ IsRow .i64 w a len cap zs := by
    rcases open_ints Try.underlying29 Try.underlying3 (by kernel_rfl) k4 with ⟨hcs, _⟩ | ⟨x, l, c, zs, hcs, _, hl, hm, hz, _, hcell, hwz⟩
    · simp at hcs
      exact ⟨none, 0, 0, [], hcs, .inl ⟨rfl, rfl, rfl, rfl⟩⟩
    · simp at hcs
      exact ⟨some x, l, c, zs, hcs, .inr ⟨_, rfl, hl, hm, by simpa using hz, hcell, hwz⟩⟩
  subst hv
  obtain ⟨r1, r2, r3, r4⟩ := row_ints0 hr
  exact ⟨⟨b, n1, n2, n3, zs.take l4⟩, by simp [tenC, e0, e1, e2, e3], r1, r2, r3, r4, w1⟩

set_option maxRecDepth 100000 in
theorem open_led0 {n : Nat} {l : List Value} {y : DataW H × List MemPlace} (hlen : l.length = 22) (hf : DataW.trod enc Try.prog w base (fun _ => true) held n 34 l = some y) : ∃ (L : Led) (V : Nat → Value), l = (ledC L V).toList ∧ CameL0 w L V := by
  obtain ⟨c0, c1, c2, c3, c4, c5, c6, c7, c8, c9, c10, c11, c12, c13, c14, c15, c16, c17, c18, c19, c20, c21, rfl⟩ : ∃ c0 c1 c2 c3 c4 c5 c6 c7 c8 c9 c10 c11 c12 c13 c14 c15 c16 c17 c18 c19 c20 c21, l = [c0, c1, c2, c3, c4, c5, c6, c7, c8, c9, c10, c11, c12, c13, c14, c15, c16, c17, c18, c19, c20, c21] := by
    match l, hlen with
    | [a0, a1, a2, a3, a4, a5, a6, a7, a8, a9, a10, a11, a12, a13, a14, a15, a16, a17, a18, a19, a20, a21], _ => exact ⟨a0, a1, a2, a3, a4, a5, a6, a7, a8, a9, a10, a11, a12, a13, a14, a15, a16, a17, a18, a19, a20, a21, rfl⟩
  obtain ⟨xs, m, _, _, _, hl, hat⟩ := DataW.trod_struct Try.underlying34 hf
  have hl3 : xs.length = 3 := hl
  have k0 : DataW.trod enc Try.prog w base (fun _ => true) held m 3 (([c0, c1, c2, c3, c4, c5, c6, c7, c8, c9, c10, c11, c12, c13, c14, c15, c16, c17, c18, c19, c20, c21].drop 0).take (Try.prog.cellsOf 3)) = xs[0]? := hat 0 _ rfl
  have k1 : DataW.trod enc Try.prog w base (fun _ => true) held m 3 (([c0, c1, c2, c3, c4, c5, c6, c7, c8, c9, c10, c11, c12, c13, c14, c15, c16, c17, c18, c19, c20, c21].drop 1).take (Try.prog.cellsOf 3)) = xs[1]? := hat 1 _ rfl
  have k2 : DataW.trod enc Try.prog w base (fun _ => true) held m 32 (([c0, c1, c2, c3, c4, c5, c6, c7, c8, c9, c10, c11, c12, c13, c14, c15, c16, c17, c18, c19, c20, c21].drop 2).take (Try.prog.cellsOf 32)) = xs[2]? := hat 2 _ rfl
  rw [show Try.prog.cellsOf 3 = 1 by kernel_rfl] at k0 k1
  rw [show Try.prog.cellsOf 32 = 20 by kernel_rfl] at k2
  rw [List.getElem?_eq_getElem (by omega)] at k0 k1 k2
  obtain ⟨g, e0, _, w0⟩ := DataW.trod_int Try.underlying3 k0
  obtain ⟨e, e1, _, w1⟩ := DataW.trod_int Try.underlying3 k1
  obtain ⟨ys, m2, _, _, _, hyl, hy⟩ := DataW.trod_array Try.underlying32 k2
  have hy0 := hy 0 (by omega)
  have hy1 := hy 1 (by omega)
  have hy2 := hy 2 (by omega)
  have hy3 := hy 3 (by omega)
  rw [show Try.prog.cellsOf 31 = 5 by kernel_rfl] at hy0 hy1 hy2 hy3
  rw [List.getElem?_eq_getElem (by omega)] at hy0 hy1 hy2 hy3
  obtain ⟨x0, q0, i0, o0, n0, f0, p0⟩ := open_ten0 (c0 := c2) (c1 := c3) (c2 := c4) (c3 := c5) (c4 := c6) hy0
  obtain ⟨x1, q1, i1, o1, n1, f1, p1⟩ := open_ten0 (c0 := c7) (c1 := c8) (c2 := c9) (c3 := c10) (c4 := c11) hy1
  obtain ⟨x2, q2, i2, o2, n2, f2, p2⟩ := open_ten0 (c0 := c12) (c1 := c13) (c2 := c14) (c3 := c15) (c4 := c16) hy2
  obtain ⟨x3, q3, i3, o3, n3, f3, p3⟩ := open_ten0 (c0 := c17) (c1 := c18) (c2 := c19) (c3 := c20) (c4 := c21) hy3
  simp at e0 e1
  simp [tenC] at q0 q1 q2 q3
  refine ⟨⟨g, e, of4T x0 x1 x2 x3⟩, of4T c6 c11 c16 c21, ?_, ?_⟩
  · simp [ledC, of4T, e0, e1, q0, q1, q2, q3]
  · have four : ∀ {p : Nat → Prop}, p 0 → p 1 → p 2 → p 3 → ∀ j, j < 4 → p j := fun a b c d j hj => by
      have e : j = 0 ∨ j = 1 ∨ j = 2 ∨ j = 3 := by omega
      rcases e with rfl | rfl | rfl | rfl
      · exact a
      · exact b
      · exact c
      · exact d
    exact ⟨four i0 i1 i2 i3, four (p := fun j => 0 < (of4T x0 x1 x2 x3 j).bs.length → ∀ q, (of4T c6 c11 c16 c21 j).ownBlock = some q → q < w.heap.size) o0 o1 o2 o3, four (p := fun j => (of4T x0 x1 x2 x3 j).bs.length ≤ maxLen) n0 n1 n2 n3,
      four (p := fun j => ∀ n ∈ (of4T x0 x1 x2 x3 j).bs, (Lit.int .i64 n).wf = true) f0 f1 f2 f3, four (p := fun j => (Lit.int .i64 (of4T x0 x1 x2 x3 j).ep).wf = true) p0 p1 p2 p3⟩

/-- A slice of ledgers: nil, or its cells. -/
def IsLeds (w : World) (a : Option Addr) (len cap : Nat) (Ls : Nat → Led) (Vs : Nat → Nat → Value) : Prop :=
  len ≤ maxLen ∧ ∀ i, i < len → (∃ b off, a = some ⟨b, off, none⟩ ∧ w.rangeAt b (off + i * 22) (ledC (Ls i) (Vs i)).toList ∧ b < w.heap.size) ∧ CameL0 w (Ls i) (Vs i)
theorem open_leds {a : Option Addr} {len cap : Nat} {fuel : Nat} {x : DataW H × List MemPlace} (h : DataW.trod enc Try.prog w base (fun _ => true) held fuel 22 [.slice a len cap] = some x) : ∃ Ls Vs, IsLeds w a len cap Ls Vs := by
  rcases open_slice Try.underlying22 h with ⟨h0, _⟩ | ⟨b, n, c, m, q, D, Pl, hcs, _, h1, h2, hm, _, hi⟩
  · simp at h0
    obtain ⟨rfl, rfl, rfl⟩ := h0
    exact ⟨fun _ => noLed, fun _ _ => nilS, Nat.zero_le _, fun i hi => by omega⟩
  · simp at hcs
    obtain ⟨rfl, rfl, rfl⟩ := hcs
    have key : ∀ i, ∃ (LV : Led × (Nat → Value)), i < len → (∃ b' off, some b = some ⟨b', off, none⟩ ∧ w.rangeAt b' (off + i * 22) (ledC LV.1 LV.2).toList ∧ b' < w.heap.size) ∧ CameL0 w LV.1 LV.2 := fun i => by
      by_cases hin : i < len
      · have him : i < m := by rw [hm]; split <;> omega
        obtain ⟨cs, hc, hs⟩ := hi i him
        obtain ⟨_, hcl, hat⟩ := World.cells?_some hc
        rw [show Try.prog.cellsOf 34 = 22 by kernel_rfl] at hcl hat
        obtain ⟨L, V, hl, hC⟩ := open_led0 hcl hs
        refine ⟨(L, V), fun _ => ⟨?_, hC⟩⟩
        have h00 := hat 0 (by omega)
        have hsp : b.spot = none := by
          have e : ((b.add (i * 22)).add 0) = b.add (i * 22) := add_zero _
          rw [e, hl] at h00
          by_cases h0 : i = 0
          · subst h0
            rw [Nat.zero_mul, add_zero] at h00
            exact cell_spot (h00.trans (show (ledC L V).toList[0]? = some (.int .i64 L.gen) from rfl))
          · have hi0 := hi 0 (by omega)
            obtain ⟨cs0, hc0, _⟩ := hi0
            obtain ⟨_, hcl0, hat0⟩ := World.cells?_some hc0
            rw [show Try.prog.cellsOf 34 = 22 by kernel_rfl] at hcl0 hat0
            have h000 := hat0 0 (by omega)
            rw [Nat.zero_mul, add_zero, add_zero] at h000
            exact cell_spot (h000.trans (List.getElem?_eq_getElem (by omega)))
        obtain ⟨b', off, sp⟩ := b
        simp only at hsp
        subst hsp
        refine ⟨b', off, rfl, fun j v hv => ?_, ?_⟩
        · have hj : j < cs.length := by rw [hl]; exact (List.getElem?_eq_some_iff.1 hv).1
          have hcell := hat j (by omega)
          rw [Go.Deep.add_add, addr_add] at hcell
          rw [Nat.add_assoc, hcell, hl]
          exact hv
        · have hcell := hat 0 (by omega)
          rw [Go.Deep.add_add, addr_add] at hcell
          have := World.block_lt_of_cell? w _ (hcell.trans (List.getElem?_eq_getElem (by omega)))
          exact this
      · exact ⟨(noLed, fun _ => nilS), fun h => absurd h hin⟩
    refine ⟨fun i => (Classical.choose (key i)).1, fun i => (Classical.choose (key i)).2, by omega, fun i hi => Classical.choose_spec (key i) hi⟩

/-- A slice of Booleans. -/
def IsBools (w : World) (a : Option Addr) (len _cap : Nat) (bs : Nat → Bool) : Prop :=
  len ≤ maxLen ∧ ∀ i, i < len → ∃ b off, a = some ⟨b, off, none⟩ ∧ w.cell? ⟨b, off + i, none⟩ = some (.bool (bs i)) ∧ b < w.heap.size
theorem open_bools0 {t e : TypeId} {a : Option Addr} {len cap : Nat} {fuel : Nat} {x : DataW H × List MemPlace} (ht : Try.prog.underlying t = some (.slice e)) (he : Try.prog.underlying e = some .bool) (hc1 : Try.prog.cellsOf e = 1)
    (h : DataW.trod enc Try.prog w base (fun _ => true) held fuel t [.slice a len cap] = some x) : ∃ bs, IsBools w a len cap bs := by
  rcases open_slice ht h with ⟨h0, _⟩ | ⟨b, n, c, m, q, D, Pl, hcs, _, h1, h2, hm, _, hi⟩
  · simp at h0
    obtain ⟨rfl, rfl, rfl⟩ := h0
    exact ⟨fun _ => false, Nat.zero_le _, fun i hi => by omega⟩
  · simp at hcs
    obtain ⟨rfl, rfl, rfl⟩ := hcs
    have key : ∀ i, ∃ (u : Bool), i < len → ∃ b' off, some b = some ⟨b', off, none⟩ ∧ w.cell? ⟨b', off + i, none⟩ = some (.bool u) ∧ b' < w.heap.size := fun i => by
      by_cases hin : i < len
      · have him : i < m := by rw [hm]; split <;> omega
        have hat : ∀ i, i < m → ∃ u, w.cell? (b.add i) = some (.bool u) := fun i him => by
          obtain ⟨cs, hc, hs⟩ := hi i him
          obtain ⟨_, hcl, hat⟩ := World.cells?_some hc
          rw [hc1] at hcl hat
          obtain ⟨v, rfl⟩ : ∃ v, cs = [v] := by match cs, hcl with | [v], _ => exact ⟨v, rfl⟩
          obtain ⟨u, hu, _⟩ := DataW.trod_bool he hs
          simp at hu
          have h00 := hat 0 (by omega)
          rw [add_zero, Nat.mul_one] at h00
          exact ⟨u, by rw [h00, hu]; rfl⟩
        have hsp : b.spot = none := by
          obtain ⟨u, hu⟩ := hat 0 (by omega)
          rw [add_zero] at hu
          exact cell_spot hu
        obtain ⟨u, hu⟩ := hat i him
        obtain ⟨b', off, sp⟩ := b
        simp only at hsp
        subst hsp
        rw [addr_add] at hu
        exact ⟨u, fun _ => ⟨b', off, rfl, hu, World.block_lt_of_cell? w _ hu⟩⟩
      · exact ⟨false, fun h => absurd h hin⟩
    exact ⟨fun i => Classical.choose (key i), by omega, fun i hi => Classical.choose_spec (key i) hi⟩
end

end Go.Proofs.Yteionppcjgggiaa

/-
  The walks of the small functions of package word that make no memory: isSize, Fits (and the document's), stopped.
-/
namespace Go.Proofs.Yteionppcjgggiaa
set_option linter.unusedVariables false
set_option linter.unusedSimpArgs false
set_option maxRecDepth 100000
open Go.RowKit

theorem ret_bool {a b : Bool} (h : a = b) : Ending.returned (.bool a) = .returned (.bool b) := by rw [h]
theorem ret_int {k : IntKind} {a b : Int} (h : a = b) : Ending.returned (.int k a) = .returned (.int k b) := by rw [h]

def sizeB (n : Int) : Bool := decide (n = 1 ∨ n = 2 ∨ n = 4)

set_option maxHeartbeats 400000 in
theorem isSize_any (n : Int) (w : World) :
    Calls Try.prog 81 #[.int .i64 n] w fun e w' => e = .returned (.bool (sizeB n)) ∧ w = w' := by
  by_cases h1 : n = 1
  · subst h1
    go_enter Try.func81, Try.ntmps81
    go_wp2
    go_ret
    exact ⟨ret_bool (by simp [sizeB]), rfl⟩
  · by_cases h2 : n = 2
    · subst h2
      go_enter Try.func81, Try.ntmps81
      go_wp2
      go_ret
      exact ⟨ret_bool (by simp [sizeB]), rfl⟩
    · have e1 : (n == 1) = false := by simpa using h1
      have e2 : (n == 2) = false := by simpa using h2
      go_enter Try.func81, Try.ntmps81
      go_wp2
      go_ret
      refine ⟨ret_bool ?_, rfl⟩
      rw [Bool.eq_iff_iff]
      simp [sizeB]
      omega

/-- Whether a number can be written by so many bytes. -/
def fitsB (v n : Int) : Bool := decide (0 ≤ v ∧ ((n = 1 ∧ v ≤ 255) ∨ (n = 2 ∧ v ≤ 65535) ∨ (n = 4 ∧ v ≤ 4294967295)))

theorem fits_u64 (v : Int) (h0 : 0 ≤ v) (h1 : v ≤ 9223372036854775807) : IntKind.u64.wrap v = v := by
  simp [IntKind.wrap, IntKind.bits, IntKind.signed]
  omega

set_option maxHeartbeats 400000 in
theorem fits_any (v n : Int) (w : World) (hv9 : v ≤ 9223372036854775807) :
    Calls Try.prog 60 #[.int .i64 v, .int .i64 n] w fun e w' => e = .returned (.bool (fitsB v n)) ∧ w = w' := by
  by_cases hs : sizeB n = true
  · have hn : n = 1 ∨ n = 2 ∨ n = 4 := by simpa [sizeB] using hs
    by_cases hv : 0 ≤ v
    · have hu := fits_u64 v hv hv9
      rcases hn with rfl | rfl | rfl
      all_goals
        go_enter Try.func60, Try.ntmps60
        go_wp2_with (go_at_call 81; refine (isSize_any _ _).mono ?_; rintro e w' ⟨rfl, rfl⟩)
        go_ret
        refine ⟨ret_bool ?_, rfl⟩
        rw [Bool.eq_iff_iff]
        simp [fitsB]
        omega
    · have hv0 : decide (0 ≤ v) = false := by simpa using hv
      go_enter Try.func60, Try.ntmps60
      go_wp2_with (go_at_call 81; refine (isSize_any _ _).mono ?_; rintro e w' ⟨rfl, rfl⟩)
      go_ret
      refine ⟨ret_bool ?_, rfl⟩
      simp [fitsB]
      omega
  · have hs' : sizeB n = false := by simpa using hs
    go_enter Try.func60, Try.ntmps60
    go_wp2_with (go_at_call 81; refine (isSize_any _ _).mono ?_; rintro e w' ⟨rfl, rfl⟩)
    go_ret
    refine ⟨ret_bool ?_, rfl⟩
    have hn : ¬ (n = 1 ∨ n = 2 ∨ n = 4) := by simpa [sizeB] using hs'
    rw [Bool.eq_iff_iff]
    simp [fitsB]
    omega


end Go.Proofs.Yteionppcjgggiaa

/-
  Package rule: within, isPages, Check, Data, Total, Bound, Most (layer 9), for sizes that may be; fixed; the law RuleRoom walked.
-/
namespace Go.Proofs.Yteionppcjgggiaa
set_option linter.unusedVariables false
set_option linter.unusedSimpArgs false
set_option maxRecDepth 100000
open Go.RowKit

def inB (v l m : Int) : Bool := decide (l ≤ v ∧ v ≤ m)

set_option maxHeartbeats 400000 in
theorem ruleWithin_any (v l m : Int) (w : World) :
    Calls Try.prog 102 #[.int .i64 v, .int .i64 l, .int .i64 m] w fun e w' => e = .returned (.bool (inB v l m)) ∧ w = w' := by
  by_cases h0 : l ≤ v
  · have e0 : decide (l ≤ v) = true := by simpa using h0
    go_enter Try.func102, Try.ntmps102
    go_wp2
    go_ret
    exact ⟨ret_bool (by simp [inB, h0]), rfl⟩
  · have e0 : decide (l ≤ v) = false := by simpa using h0
    go_enter Try.func102, Try.ntmps102
    go_wp2
    go_ret
    exact ⟨ret_bool (by simp [inB]; omega), rfl⟩

theorem rulePages_any (p : Int) (w : World) :
    Calls Try.prog 95 #[.int .i64 p] w fun e w' => e = .returned (.bool (inB p 2 16)) ∧ w = w' := by
  go_enter Try.func95, Try.ntmps95
  go_wp2_with (go_at_call 102; refine (ruleWithin_any _ _ _ _).mono ?_; rintro e w' ⟨rfl, rfl⟩)
  go_ret
  exact ⟨rfl, rfl⟩

def roomE (s r : Int) : Int := if inB s 1 64 = true ∧ inB r 0 8 = true then 0 else 5

set_option maxHeartbeats 400000 in
theorem ruleCheck_any (s r : Int) (w : World) :
    Calls Try.prog 94 #[.int .i64 s, .int .i64 r] w fun e w' => e = .returned (.int .i64 (roomE s r)) ∧ w = w' := by
  unfold roomE
  generalize h1 : inB s 1 64 = b1
  generalize h2 : inB r 0 8 = b2
  have W1 := Lib.hid h1
  have W2 := Lib.hid h2
  clear h1 h2
  cases b1 <;> cases b2
  all_goals
    go_enter Try.func94, Try.ntmps94
    go_wp2_with (go_at_call 102; refine (ruleWithin_any _ _ _ _).mono ?_; rintro e w' ⟨rfl, rfl⟩; first | rw [W1.out] | rw [W2.out])
    go_ret
    exact ⟨rfl, rfl⟩

set_option maxHeartbeats 400000 in
theorem ruleData_any (s p : Int) (w : World) (hs : 1 ≤ s ∧ s ≤ 64) (hp : 2 ≤ p ∧ p ≤ 16) :
    Calls Try.prog 96 #[.int .i64 s, .int .i64 p] w fun e w' => e = .returned (.int .i64 (s / p + 2)) ∧ w = w' := by
  have C := ruleCheck_any s 0
  have P := rulePages_any p
  rw [show roomE s 0 = 0 by simp [roomE, inB]; omega] at C
  rw [show inB p 2 16 = true by simp [inB]; omega] at P
  obtain ⟨s0, s1⟩ := hs
  obtain ⟨p0, p1⟩ := hp
  have q0 : 0 ≤ s / p := Int.ediv_nonneg (by omega) (by omega)
  have q1 : s / p ≤ 64 := Int.le_trans (Int.ediv_le_self _ (by omega)) s1
  go_enter Try.func96, Try.ntmps96
  go_wp2_with (first
    | (go_at_call 94; refine (C _).mono ?_; rintro e w' ⟨rfl, rfl⟩)
    | (go_at_call 95; refine (P _).mono ?_; rintro e w' ⟨rfl, rfl⟩))
  go_ret
  exact ⟨rfl, rfl⟩

set_option maxHeartbeats 400000 in
theorem ruleTotal_any (s r p : Int) (w : World) (hs : 1 ≤ s ∧ s ≤ 64) (hr : 0 ≤ r ∧ r ≤ 8) (hp : 2 ≤ p ∧ p ≤ 16) :
    Calls Try.prog 77 #[.int .i64 s, .int .i64 r, .int .i64 p] w fun e w' => e = .returned (.int .i64 (s / p + 2 + r)) ∧ w = w' := by
  have C := ruleCheck_any s r
  have P := rulePages_any p
  have D := fun w => ruleData_any s p w hs hp
  rw [show roomE s r = 0 by simp [roomE, inB]; omega] at C
  rw [show inB p 2 16 = true by simp [inB]; omega] at P
  obtain ⟨s0, s1⟩ := hs
  obtain ⟨p0, p1⟩ := hp
  obtain ⟨r0, r1⟩ := hr
  have q0 : 0 ≤ s / p := Int.ediv_nonneg (by omega) (by omega)
  have q1 : s / p ≤ 64 := Int.le_trans (Int.ediv_le_self _ (by omega)) s1
  go_enter Try.func77, Try.ntmps77
  go_wp2_with (first
    | (go_at_call 94; refine (C _).mono ?_; rintro e w' ⟨rfl, rfl⟩)
    | (go_at_call 95; refine (P _).mono ?_; rintro e w' ⟨rfl, rfl⟩)
    | (go_at_call 96; refine (D _).mono ?_; rintro e w' ⟨rfl, rfl⟩))
  go_ret
  exact ⟨rfl, rfl⟩

/-- The greatest size that so many blocks serve. -/
def MostIs (b r p : Int) (k : Nat) : Prop := k ≤ 64 ∧ (∀ j : Nat, k < j → j ≤ 64 → b < (j : Int) / p + 2 + r) ∧ (k = 0 ∨ (k : Int) / p + 2 + r ≤ b)

theorem room_facts {s p : Int} (s0 : 1 ≤ s) (s1 : s ≤ 64) (p0 : 2 ≤ p) (p1 : p ≤ 16) :
    0 ≤ s / p ∧ s / p ≤ 32 ∧ s < (s / p + 2 - 1) * p ∧ (s / p + 2 - 1) * p ≤ 528 := by
  have q0 : 0 ≤ s / p := Int.ediv_nonneg (by omega) (by omega)
  have q2 : s / p ≤ s / 2 := by
    rw [Int.le_ediv_iff_mul_le (by decide)]
    have h1 : s / p * 2 ≤ s / p * p := Int.mul_le_mul_of_nonneg_left p0 q0
    have h2 := Int.ediv_mul_le s (show p ≠ 0 by omega)
    omega
  have q3 : s < (s / p + 1) * p := Int.lt_ediv_add_one_mul_self s (by omega)
  have q4 : (s / p + 1) * p ≤ 33 * 16 := Int.mul_le_mul (by omega) p1 (by omega) (by omega)
  rw [show s / p + 2 - 1 = s / p + 1 by omega]
  omega

theorem most_le {s p : Int} {k : Nat} (s0 : 1 ≤ s) (s1 : s ≤ 64) (h : MostIs (s / p + 2) 0 p k) : s ≤ (k : Int) := by
  rcases Int.lt_or_le (k : Int) s with h1 | h1
  · have := h.2.1 s.toNat (by omega) (by omega)
    rw [Int.toNat_of_nonneg (by omega)] at this
    omega
  · exact h1

end Go.Proofs.Yteionppcjgggiaa

/-
  Package ledger: within, isTenant, isPlace, missing; the document's there and room.
-/
namespace Go.Proofs.Yteionppcjgggiaa
set_option linter.unusedVariables false
set_option linter.unusedSimpArgs false
set_option maxRecDepth 100000
open Go.RowKit

set_option maxHeartbeats 400000 in
theorem within10_any (v l m : Int) (w : World) :
    Calls Try.prog 53 #[.int .i64 v, .int .i64 l, .int .i64 m] w fun e w' => e = .returned (.bool (inB v l m)) ∧ w = w' := by
  by_cases h0 : l ≤ v
  · have e0 : decide (l ≤ v) = true := by simpa using h0
    go_enter Try.func53, Try.ntmps53
    go_wp2
    go_ret
    exact ⟨ret_bool (by simp [inB, h0]), rfl⟩
  · have e0 : decide (l ≤ v) = false := by simpa using h0
    go_enter Try.func53, Try.ntmps53
    go_wp2
    go_ret
    exact ⟨ret_bool (by simp [inB]; omega), rfl⟩

/-- What is wrong with asking for a tenant. -/
def missT (L : Led) (t : Int) : Int := if inB t 0 3 = true then (if (L.t t.toNat).th = true then 0 else 6) else 5

def rightB (s r p : Int) : Bool := inB s 1 64 && inB r 0 8 && inB p 2 16

theorem rightB_no {s r p : Int} (h : ¬ (1 ≤ s ∧ s ≤ 64 ∧ 0 ≤ r ∧ r ≤ 8 ∧ 2 ≤ p ∧ p ≤ 16)) : rightB s r p = false := by
  cases hr : rightB s r p
  · rfl
  · exact (h (by simp [rightB, inB] at hr; omega)).elim
theorem rightB_yes {s r p : Int} (h : 1 ≤ s ∧ s ≤ 64 ∧ 0 ≤ r ∧ r ≤ 8 ∧ 2 ≤ p ∧ p ≤ 16) : rightB s r p = true := by
  simp [rightB, inB]
  omega
set_option maxHeartbeats 800000 in
theorem ref9Right_any (s r p : Int) (w : World) :
    Calls Try.prog 45 #[.int .i64 s, .int .i64 r, .int .i64 p] w fun e w' => e = .returned (.bool (rightB s r p)) ∧ w = w' := by
  obtain ⟨b, hb⟩ : ∃ b, rightB s r p = b := ⟨_, rfl⟩
  rw [hb]
  have HB := Lib.hid hb
  clear hb
  have ways : s < 1 ∨ (1 ≤ s ∧ 64 < s) ∨ (1 ≤ s ∧ s ≤ 64 ∧ r < 0) ∨ (1 ≤ s ∧ s ≤ 64 ∧ 0 ≤ r ∧ 8 < r) ∨ (1 ≤ s ∧ s ≤ 64 ∧ 0 ≤ r ∧ r ≤ 8 ∧ p < 2) ∨ (1 ≤ s ∧ s ≤ 64 ∧ 0 ≤ r ∧ r ≤ 8 ∧ 2 ≤ p ∧ 16 < p) ∨ (1 ≤ s ∧ s ≤ 64 ∧ 0 ≤ r ∧ r ≤ 8 ∧ 2 ≤ p ∧ p ≤ 16) := by omega
  rcases ways with h | ⟨h1, h⟩ | ⟨h1, h2, h⟩ | ⟨h1, h2, h3, h⟩ | ⟨h1, h2, h3, h4, h⟩ | ⟨h1, h2, h3, h4, h5, h⟩ | ⟨h1, h2, h3, h4, h5, h⟩
  · have e1 : decide (1 ≤ s) = false := by simpa using h
    obtain rfl : b = false := HB.out.symm.trans (rightB_no (by omega))
    go_enter Try.func45, Try.ntmps45
    go_wp2
    go_ret
    exact ⟨rfl, rfl⟩
  · have e1 : decide (1 ≤ s) = true := by simpa using h1
    have e2 : decide (s ≤ 64) = false := by simpa using h
    obtain rfl : b = false := HB.out.symm.trans (rightB_no (by omega))
    go_enter Try.func45, Try.ntmps45
    go_wp2
    go_ret
    exact ⟨rfl, rfl⟩
  · have e1 : decide (1 ≤ s) = true := by simpa using h1
    have e2 : decide (s ≤ 64) = true := by simpa using h2
    have e3 : decide (0 ≤ r) = false := by simpa using h
    obtain rfl : b = false := HB.out.symm.trans (rightB_no (by omega))
    go_enter Try.func45, Try.ntmps45
    go_wp2
    go_ret
    exact ⟨rfl, rfl⟩
  · have e1 : decide (1 ≤ s) = true := by simpa using h1
    have e2 : decide (s ≤ 64) = true := by simpa using h2
    have e3 : decide (0 ≤ r) = true := by simpa using h3
    have e4 : decide (r ≤ 8) = false := by simpa using h
    obtain rfl : b = false := HB.out.symm.trans (rightB_no (by omega))
    go_enter Try.func45, Try.ntmps45
    go_wp2
    go_ret
    exact ⟨rfl, rfl⟩
  · have e1 : decide (1 ≤ s) = true := by simpa using h1
    have e2 : decide (s ≤ 64) = true := by simpa using h2
    have e3 : decide (0 ≤ r) = true := by simpa using h3
    have e4 : decide (r ≤ 8) = true := by simpa using h4
    have e5 : decide (2 ≤ p) = false := by simpa using h
    obtain rfl : b = false := HB.out.symm.trans (rightB_no (by omega))
    go_enter Try.func45, Try.ntmps45
    go_wp2
    go_ret
    exact ⟨rfl, rfl⟩
  · have e1 : decide (1 ≤ s) = true := by simpa using h1
    have e2 : decide (s ≤ 64) = true := by simpa using h2
    have e3 : decide (0 ≤ r) = true := by simpa using h3
    have e4 : decide (r ≤ 8) = true := by simpa using h4
    have e5 : decide (2 ≤ p) = true := by simpa using h5
    have e6 : decide (p ≤ 16) = false := by simpa using h
    obtain rfl : b = false := HB.out.symm.trans (rightB_no (by omega))
    go_enter Try.func45, Try.ntmps45
    go_wp2
    go_ret
    exact ⟨rfl, rfl⟩
  · have e1 : decide (1 ≤ s) = true := by simpa using h1
    have e2 : decide (s ≤ 64) = true := by simpa using h2
    have e3 : decide (0 ≤ r) = true := by simpa using h3
    have e4 : decide (r ≤ 8) = true := by simpa using h4
    have e5 : decide (2 ≤ p) = true := by simpa using h5
    have e6 : decide (p ≤ 16) = true := by simpa using h
    obtain rfl : b = true := HB.out.symm.trans (rightB_yes (by omega))
    go_enter Try.func45, Try.ntmps45
    go_wp2
    go_ret
    exact ⟨rfl, rfl⟩

theorem roomE_right (s r : Int) : roomE s r = if rightB s r 2 = true then 0 else 5 := by
  have e : (inB s 1 64 = true ∧ inB r 0 8 = true) ↔ rightB s r 2 = true := by simp [rightB, inB]
  unfold roomE
  by_cases h : rightB s r 2 = true
  · rw [if_pos h, if_pos (e.2 h)]
  · rw [if_neg h, if_neg (fun x => h (e.1 x))]

end Go.Proofs.Yteionppcjgggiaa

/-
  Atomic numbers; nothing but one block is turned.
-/
namespace Go.Proofs.Yteionppcjgggiaa
set_option linter.unusedVariables false
set_option linter.unusedSimpArgs false
set_option maxRecDepth 100000
open Go.RowKit

/-- Nothing but block b is turned. -/
theorem gb_refl (w : World) (r : Option Nat) : w.grownBy w r := ⟨rfl, rfl, rfl, Nat.le_refl _, fun _ _ _ => rfl⟩
theorem gb_set {w w' : World} {b : Nat} (h : w.grownBy w' (some b)) (o : Nat) (v : Value) : w.grownBy (w'.setCell ⟨b, o, none⟩ v) (some b) :=
  ⟨h.os, h.tape, h.output, by have := h.size; simpa [World.setCell] using this, fun k hk hne => (Below.heap_setCell w' ⟨b, o, none⟩ v k (fun e => hne (by simp [e]))).trans (h.block k hk hne)⟩
theorem gb_drew {w w' : World} {r : Option Nat} (h : w.grownBy w' r) : w.grownBy w'.drew r := ⟨h.os, h.tape, h.output, h.size, h.block⟩
theorem gb_trans {w w1 w2 : World} {r : Option Nat} (h : w.grownBy w1 r) (h2 : w1.grownBy w2 r) : w.grownBy w2 r :=
  ⟨h2.os.trans h.os, h2.tape.trans h.tape, h2.output.trans h.output, Nat.le_trans h.size h2.size, fun k hk hne => (h2.block k (Nat.lt_of_lt_of_le hk h.size) hne).trans (h.block k hk hne)⟩
theorem ne_off {b o p : Nat} (h : o ≠ p) : (⟨b, o, none⟩ : Addr) ≠ ⟨b, p, none⟩ := fun e => h (by simpa using congrArg Addr.off e)

theorem load64 (b o : Nat) (x : Int) (w : World) (h : w.cell? ⟨b, o, none⟩ = some (.int .i64 x)) :
    Calls Try.prog 84 #[.pointer (some ⟨b, o, none⟩)] w fun e w' => e = .returned (.int .i64 x) ∧ w = w' := by
  have hl := run_call_load (P := Try.prog) Try.func99 (by kernel_rfl) (by kernel_rfl) (by kernel_rfl) .i64 (by kernel_rfl) h
  go_enter Try.func84, Try.ntmps84
  go_wp2
  go_ret
  exact ⟨rfl, rfl⟩

theorem store64 (b o : Nat) (x : Int) (u : Value) (w : World) (h : w.cell? ⟨b, o, none⟩ = some u) (f : w.frozen? ⟨b, o, none⟩ = false) :
    Calls Try.prog 25 #[.pointer (some ⟨b, o, none⟩), .int .i64 x] w fun e w' => e = .returned (.tuple #[]) ∧ w.setCell ⟨b, o, none⟩ (.int .i64 x) = w' := by
  have hl := run_call_store (P := Try.prog) (k := .i64) (y := x) Try.func47 (by kernel_rfl) (by kernel_rfl) (by kernel_rfl) (by kernel_rfl) h f
  go_enter Try.func25, Try.ntmps25
  go_wp2
  go_end0
  exact ⟨rfl, rfl⟩

theorem add64 (b o : Nat) (x : Int) (w : World) (h : w.cell? ⟨b, o, none⟩ = some (.int .i64 x)) (f : w.frozen? ⟨b, o, none⟩ = false) (h0 : 0 ≤ x) (h1 : x < 1000000) :
    Calls Try.prog 83 #[.pointer (some ⟨b, o, none⟩), .int .i64 1] w fun e w' => e = .returned (.int .i64 (x + 1)) ∧ w.setCell ⟨b, o, none⟩ (.int .i64 (x + 1)) = w' := by
  have hl := run_call_add (P := Try.prog) (x := x) (y := 1) (s := x + 1) Try.func98 (by kernel_rfl) (by kernel_rfl) (by kernel_rfl) .i64 (by kernel_rfl) h f (by simp [go_sem, IntWalk.i64_in (x + 1) (by omega)])
  go_enter Try.func83, Try.ntmps83
  go_wp2
  go_ret
  exact ⟨rfl, rfl⟩

theorem b32_any (x : Bool) (w : World) :
    Calls Try.prog 49 #[.bool x] w fun e w' => e = .returned (.int .u32 (if x then 1 else 0)) ∧ w = w' := by
  cases x
  all_goals
    go_enter Try.func49, Try.ntmps49
    go_wp2
    go_ret
    exact ⟨rfl, rfl⟩

theorem loadB (b o : Nat) (x : Bool) (w : World) (h : w.cell? ⟨b, o, none⟩ = some (.int .u32 (if x then 1 else 0))) :
    Calls Try.prog 88 #[.pointer (some ⟨b, o, none⟩)] w fun e w' => e = .returned (.bool x) ∧ w = w' := by
  have hl := run_call_load (P := Try.prog) Try.func101 (by kernel_rfl) (by kernel_rfl) (by kernel_rfl) .u32 (by kernel_rfl) h
  cases x
  all_goals
    go_enter Try.func88, Try.ntmps88
    go_wp2
    go_ret
    exact ⟨rfl, rfl⟩

theorem storeB (b o : Nat) (x : Bool) (u : Value) (w : World) (h : w.cell? ⟨b, o, none⟩ = some u) (f : w.frozen? ⟨b, o, none⟩ = false) :
    Calls Try.prog 26 #[.pointer (some ⟨b, o, none⟩), .bool x] w fun e w' => e = .returned (.tuple #[]) ∧ (w.setCell ⟨b, o, none⟩ (.int .u32 (if x then 1 else 0))).drew = w' := by
  have hl := run_call_store (P := Try.prog) (w := w.drew) (k := .u32) (y := if x then 1 else 0) Try.func48 (by kernel_rfl) (by kernel_rfl) (by kernel_rfl) (by kernel_rfl) h f
  cases x
  all_goals
    simp only [if_true, if_false, Bool.false_eq_true] at hl
    go_enter Try.func26, Try.ntmps26
    go_region_calls
    all_goals
      go_wp2
      go_end0
      exact ⟨rfl, rfl⟩

end Go.Proofs.Yteionppcjgggiaa

/-
  Package ledger: Twin; the document's Twin.
-/
namespace Go.Proofs.Yteionppcjgggiaa
set_option linter.unusedVariables false
set_option linter.unusedSimpArgs false
set_option maxRecDepth 100000
open Go.RowKit

attribute [local go_sem] Try.eqNilInts

/-- The cells of a ledger that is nothing yet, as the walk writes them. -/
@[reducible] def zeroC : Array Value :=
  #[.int .i64 0, .int .i64 0, .bool false, .int .i64 0, .int .i64 0, .int .i64 0, .slice none 0 0, .bool false, .int .i64 0, .int .i64 0, .int .i64 0, .slice none 0 0,
    .bool false, .int .i64 0, .int .i64 0, .int .i64 0, .slice none 0 0, .bool false, .int .i64 0, .int .i64 0, .int .i64 0, .slice none 0 0]
theorem zeroC_is : zeroC = ledC noLed (fun _ => nilS) := rfl

/-- A slice of ints of the call's own. -/
abbrev OwnI (B : Nat) (w : World) (v : Value) (xs : List Int) : Prop := w.ownsRow B 3 1 v xs.length (xs.map (Value.int .i64))

theorem ints_one (w : World) (x : Int) (T : TypeId) : Ints (w.alloc (.cells #[.int .i64 x] T)) (.slice (some ⟨w.heap.size, 0, none⟩) 1 1) [x] :=
  .inr (.inl ⟨w.heap.size, 0, 1, rfl, by simp, fun i hi => by
    obtain rfl : i = 0 := by simp at hi; exact hi
    simp⟩)

/-- append of a slice that reads as ints to a row of the call's own. -/
theorem append_ints {w : World} {ops : Array Oper} {rest : List Oper} {o : Oper} {a : Act} {Q : Exit → Act → World → Prop} (hgd : o.guard = none) (s x : Operand)
    (ho : o.op = .call { callee := .builtin .append, args := #[s, x], argTypes := #[29, 29] }) (base : Nat)
    (v : Value) (xs : List Int) (hs : a.eval s = v) (hown : OwnI base w v xs) (src : Value) (ys : List Int) (hx : a.eval x = src) (hb : Ints w src ys)
    (h63 : xs.length + ys.length ≤ 16777216) (hbase : base ≤ w.heap.size)
    (h : ∀ v' w', OwnI base w' v' (xs ++ ys) → w.grownBy w' v.ownBlock → (v'.ownBlock = v.ownBlock ∨ v'.ownBlock = some w.heap.size) → wpList Try.prog ops Q rest (a.put o.dst v') w') : wpList Try.prog ops Q (o :: rest) a w := by
  obtain ⟨i0, hi, hz0, hz1, hz2⟩ := info_parts Try.infoInt
  rcases hb.two with ⟨rfl, rfl⟩ | ⟨sa, cap, rfl, _, hc⟩
  · refine wpList_append_own_none hgd s x 29 ho base 3 i0 1 Try.underlying29 hi v _ _ hs hown hx ?_
    exact h v w (by simpa using hown) ⟨rfl, rfl, rfl, Nat.le_refl _, fun _ _ _ => rfl⟩ (.inl rfl)
  · refine wpList_append_own_at w hgd s x 29 ho base 3 i0 (.int .i64 0) 1 8 Try.underlying29 hi hz0 hz1 hz2 rfl (by decide) v _ _ hs hown sa ys.length cap (ys.map (Value.int .i64)) hx (by simp) ?_ (ints_oneCell _ _) (by unfold maxLen; omega) (by omega) hbase ?_
    · intro j u hj
      rw [List.getElem?_map] at hj
      by_cases h : j < ys.length
      · rw [List.getElem?_eq_getElem h] at hj
        rw [hc j h, ← hj]
        simp [List.getElem?_eq_getElem h, List.getD_eq_getElem?_getD]
      · rw [List.getElem?_eq_none (by omega)] at hj
        cases hj
    · intro v' w' h1 h2 _ h4
      refine h v' w' ?_ h2 h4
      unfold OwnI
      rw [List.length_append, List.map_append]
      exact h1

/-- A copy of its own. -/
def ClonedO (w : World) (xs : List Int) (e : Ending) (w' : World) : Prop := ∃ v', e = .returned v' ∧ OwnI w.heap.size w' v' xs ∧ w.grownBy w' none

theorem cloneO_any (v : Value) (xs : List Int) (w : World) (hb : Ints w v xs) (hm : xs.length ≤ 1048576) :
    Calls Try.prog 29 #[v] w (ClonedO w xs) := by
  obtain ⟨i0, hi, hz0, hz1, hz2⟩ := info_parts Try.infoInt
  rcases hb.two with ⟨rfl, rfl⟩ | ⟨sa, cap, rfl, _, hc⟩
  · go_enter Try.func29, Try.ntmps29
    go_wp2
    go_ret
    exact ⟨_, rfl, ⟨rfl, .inl ⟨rfl, rfl⟩⟩, ⟨rfl, rfl, rfl, Nat.le_refl _, fun _ _ _ => rfl⟩⟩
  · have hown := World.ownsRow_made (base := w.heap.size) (e := 3) (size := 1) w #[] 0 (Nat.le_refl _) (Nat.zero_le _) rfl
    have HC := Lib.hid hc
    clear hc
    go_enter Try.func29, Try.ntmps29
    go_wp2_with (at_builtin; go_loud (refine wpList_append_own _ rfl _ _ 29 rfl w.heap.size 3 i0 (.int .i64 0) 1 8 Try.underlying29 hi hz0 hz1 hz2 rfl (by decide) _ _ _ rfl hown sa xs.length cap (xs.map (Value.int .i64)) rfl (by simp) ?c1 ?c2 ?c3 ?c4 ?c5 ?_))
    case c1 =>
      intro j u hj
      rw [List.getElem?_map] at hj
      by_cases h : j < xs.length
      · rw [List.getElem?_eq_getElem h] at hj
        have h2 := HC.out j h
        rw [World.cell?_alloc_old _ _ _ (Nat.ne_of_lt (World.block_lt_of_cell? w _ h2)), h2, ← hj]
        simp [List.getElem?_eq_getElem h, List.getD_eq_getElem?_getD]
      · rw [List.getElem?_eq_none (by omega)] at hj
        cases hj
    case c2 => exact ints_oneCell _ _
    case c3 => unfold maxLen; omega
    case c4 => omega
    case c5 => simp
    intro v' w1 hown' hgrow _
    have hown2 : w1.ownsRow w.heap.size 3 1 v' xs.length (xs.map (Value.int .i64)) := by simpa using hown'
    go_wp2
    go_ret
    exact ⟨v', rfl, hown2, grown_trans (World.grownBy_alloc w _ none) hgrow (fun k hk h => by simp [Value.ownBlock] at hk; omega)⟩

theorem own_lt {B : Nat} {w : World} {v : Value} {xs : List Int} (h : OwnI B w v xs) : ∀ p, v.ownBlock = some p → B ≤ p ∧ p < w.heap.size := h.lt
/-- What was done to a row of the call's own. -/
theorem ext_own {w w1 w2 : World} {B : Nat} {v : Value} {xs : List Int} (h1 : w.grownBy w1 none) (ho : OwnI B w1 v xs) (hB : w.heap.size ≤ B) (h2 : w1.grownBy w2 v.ownBlock) : w.grownBy w2 none :=
  grown_trans h1 h2 (fun p hp hlt => by have := own_lt ho p hp; omega)

/-- The first k tenants' slices are the call's own, each in a block of its own. -/
structure Owned (B : Nat) (w : World) (L : Led) (V : Nat → Value) (k : Nat) : Prop where
  own : ∀ j, j < k → OwnI B w (V j) (L.t j).bs
  apart : ∀ i j, i < k → j < k → i ≠ j → ∀ p, (V i).ownBlock = some p → (V j).ownBlock ≠ some p
theorem own_kept {B : Nat} {w w' : World} {v : Value} {xs : List Int} {r : Option Nat} (h : OwnI B w v xs) (hg : w.grownBy w' r) (hne : ∀ p, v.ownBlock = some p → some p ≠ r) : OwnI B w' v xs := by
  obtain ⟨h1, h2⟩ := h
  refine ⟨h1, ?_⟩
  rcases h2 with h2 | ⟨g, cap, cur, rfl, hB, hh, hc, hr⟩
  · exact .inl h2
  · have hlt : g < w.heap.size := (Array.getElem?_eq_some_iff.1 hh).1
    exact .inr ⟨g, cap, cur, rfl, hB, (hg.block g hlt (hne g rfl)).trans hh, hc, hr⟩
theorem Owned.is {B : Nat} {w : World} {L : Led} {V : Nat → Value} (h : Owned B w L V 4) : LedIs w L V := fun j hj => owns_ints rfl (h.own j hj)
theorem Owned.kept {B k : Nat} {w w' : World} {L : Led} {V : Nat → Value} {r : Option Nat} (h : Owned B w L V k) (hg : w.grownBy w' r) (hne : ∀ j, j < k → ∀ p, (V j).ownBlock = some p → some p ≠ r) : Owned B w' L V k :=
  ⟨fun j hj => own_kept (h.own j hj) hg (hne j hj), h.apart⟩
theorem Owned.le {B B' k : Nat} {w : World} {L : Led} {V : Nat → Value} (h : Owned B w L V k) (hB : B' ≤ B) : Owned B' w L V k :=
  ⟨fun j hj => ownsRow_le (h.own j hj) hB, h.apart⟩

/-- One tenant's slice more. -/
theorem Owned.next {B k : Nat} {w w1 : World} {L : Led} {V : Nat → Value} {v : Value} (h : Owned B w L V k) (hB : B ≤ w.heap.size) (hg : w.grownBy w1 none) (ho : OwnI w.heap.size w1 v (L.t k).bs) {g : Nat} (hgB : g < B) (o : Nat) (u : Value) :
    Owned B (w1.setCell ⟨g, o, none⟩ u) L (updV V k v) (k + 1) := by
  have hs : w1.grownBy (w1.setCell ⟨g, o, none⟩ u) (some g) := gb_set (gb_refl w1 (some g)) o u
  refine ⟨fun j hj => ?_, fun i j hi hj hij p hp hq => ?_⟩
  · unfold updV
    by_cases e : j = k
    · subst e
      rw [if_pos rfl]
      exact own_kept (ownsRow_le ho hB) hs (fun p hp e => by have := own_lt ho p hp; injection e with e; omega)
    · rw [if_neg e]
      have h1 := own_kept (h.own j (by omega)) hg (by simp)
      exact own_kept h1 hs (fun p hp e => by have := own_lt h1 p hp; injection e with e; omega)
  · unfold updV at hp hq
    by_cases ei : i = k
    · subst ei
      rw [if_pos rfl] at hp
      rw [if_neg (Ne.symm hij)] at hq
      have := own_lt ho p hp
      have := own_lt (h.own j (by omega)) p hq
      omega
    · rw [if_neg ei] at hp
      by_cases ej : j = k
      · subst ej
        rw [if_pos rfl] at hq
        have := own_lt ho p hq
        have := own_lt (h.own i (by omega)) p hp
        omega
      · rw [if_neg ej] at hq
        exact h.apart i j (by omega) (by omega) hij p hp hq

/-- A ledger in new memory. -/
def TwinP (w : World) (L : Led) (e : Ending) (w' : World) : Prop := ∃ V', e = .returned (.agg (ledC L V')) ∧ Owned w.heap.size w' L V' 4 ∧ Ext w w'

/-- A twin that is being made: the first k tenants are done. -/
structure Twining (w : World) (g : Nat) (L : Led) (V V' : Nat → Value) (k : Nat) (wr : World) : Prop where
  blk : Blk wr g 34 (ledC L V')
  rest : ∀ j, k ≤ j → V' j = V j
  own : Owned (g + 2) wr L V' k
  ext : Ext w wr
  out : ∃ C, Blk wr (g + 1) 34 C ∧ C.size = 22
  at_ : g = w.heap.size

theorem Twining.next {w wr w1 : World} {g k : Nat} {L : Led} {V V' : Nat → Value} {v : Value} (h : Twining w g L V V' k wr) (hk : k < 4) (hg : wr.grownBy w1 none) (ho : OwnI wr.heap.size w1 v (L.t k).bs) :
    Twining w g L V (updV V' k v) (k + 1) (w1.setCell ⟨g, 2 + k * 5 + 4, none⟩ v) := by
  obtain ⟨C, hC, hCs⟩ := h.out
  have hlt := h.blk.lt
  have hlt2 := hC.lt
  have hsz := hg.size
  have hs : w1.grownBy (w1.setCell ⟨g, 2 + k * 5 + 4, none⟩ v) (some g) := gb_set (gb_refl w1 (some g)) _ v
  refine ⟨?_, fun j hj => ?_, ?_, ?_, ⟨C, ?_, hCs⟩, h.at_⟩
  · have := (h.blk.ext hg).set (2 + k * 5 + 4) v
    rw [led_setV L V' hk] at this
    exact this
  · unfold updV
    rw [if_neg (by omega)]
    exact h.rest j (by omega)
  · exact h.own.next (by omega) hg ho (by omega) _ _
  · exact grown_trans (ext_trans h.ext hg) hs (fun p hp hlt3 => by injection hp with hp; have := h.at_; omega)
  · exact (hC.ext hg).far (by show g + 1 ≠ g; omega) v

theorem results_cell_row2 {P : Program} {fn : Func} {p t : Tmp} {ty : TypeId} {tmps : Array Value} {w : World} {g : Nat} {bt : TypeId} {cs : Array Value} {v : Value} {d : TypeDesc} (h : fn.results = #[.cell p ty, .tmp t])
    (hp : tmps.getD p undef = .pointer (some ⟨g, 0, none⟩)) (hv : tmps.getD t undef = v) (hg : w.heap[g]? = some (.cells cs bt (0, 0)))
    (hu : P.underlying ty = some d) (hd : (match d with | .struct _ | .array _ _ => true | _ => false) = true) (hi : (P.info? ty).map (·.size) = some cs.size) :
    (results fn tmps).run P w = .ok (.tuple #[.agg cs, v]) w := by
  have hp' : tmps[p]?.getD undef = .pointer (some ⟨g, 0, none⟩) := by simpa using hp
  have hv' : tmps[t]?.getD undef = v := by simpa using hv
  simp [results, h, hp', hv', asAddr, run_loadVar_row w g bt ty cs (0, 0) d hg hu hd hi]

end Go.Proofs.Yteionppcjgggiaa
