/-
  Layer 17: pages that are found: rows of them in memory; the document's Mine, counting, has.
-/
import Derived.Test.YtigfohofbpjldaaQA
import Derived.Test.YtigfohofbpjldaaLine
import Derived.Test.YtigfohofbpjldaaEA
import Derived.Test.YtigfohofbpjldaaDA
import Derived.Test.YtigfohofbpjldaaTA
import Derived.Lib.Hide
import Derived.Outline
import Derived.Deep.DeepCutAuto
import Derived.Deep.Cut
import Derived.Deep.CutBlock
import Derived.Deep.LoopGhost
namespace Go.Proofs.Ytigfohofbpjldaa
set_option linter.unusedVariables false
set_option linter.unusedSimpArgs false
set_option maxRecDepth 100000
open Go.RowKit

structure Fnd where
  bk : Int
  pg : Int
  torn : Bool
  te : Int
  ep : Int
  pl : Int
  sq : Int
  kd : Int
  cp : Bool
  dt : ByteArray
def noF : Fnd := ⟨0, 0, false, 0, 0, 0, 0, 0, false, ⟨#[]⟩⟩
def fndC (f : Fnd) : Array Value := #[.int .i64 f.bk, .int .i64 f.pg, .bool f.torn, .int .i64 f.te, .int .i64 f.ep, .int .i64 f.pl, .int .i64 f.sq, .int .i64 f.kd, .bool f.cp, .string f.dt]
def fndsL (L : List Fnd) : List Value := L.flatMap fun f => (fndC f).toList
theorem fndsL_snoc (L : List Fnd) (f : Fnd) : fndsL (L ++ [f]) = fndsL L ++ (fndC f).toList := by simp [fndsL]
theorem fndsL_len (L : List Fnd) : (fndsL L).length = L.length * 10 := by
  unfold fndsL
  induction L with
  | nil => rfl
  | cons c r ih => rw [List.flatMap_cons, List.length_append, ih, List.length_cons]; simp [fndC]; omega
theorem fndsL_at : ∀ (L : List Fnd) (j i : Nat), i < 10 → j < L.length → (fndsL L)[j * 10 + i]? = (fndC (L.getD j noF)).toList[i]?
  | [], j, i, _, h => by simp at h
  | c :: r, 0, i, hi, _ => by
    show ((fndC c).toList ++ fndsL r)[0 * 10 + i]? = _
    rw [Nat.zero_mul, Nat.zero_add, List.getElem?_append_left (by show i < 10; exact hi)]
    rfl
  | c :: r, j + 1, i, hi, h => by
    show ((fndC c).toList ++ fndsL r)[(j + 1) * 10 + i]? = _
    have hl : (fndC c).toList.length = 10 := rfl
    rw [List.getElem?_append_right (by omega), hl, show (j + 1) * 10 + i - 10 = j * 10 + i by omega, fndsL_at r j i hi (by simpa using h)]
    simp

/-- A slice that reads as these. -/
def RowF (w : World) (v : Value) (L : List Fnd) : Prop := ∃ ao cap, v = .slice ao L.length cap ∧ ∀ i, i < L.length → ∃ b off, ao = some ⟨b, off, none⟩ ∧ w.rangeAt b (off + i * 10) (fndC (L.getD i noF)).toList
theorem RowF.kept {w w' : World} {v : Value} {L : List Fnd} {r : Option Nat} (h : RowF w v L) (hg : w.grownBy w' r) (hne : ∀ k, v.ownBlock = some k → some k ≠ r) : RowF w' v L := by
  obtain ⟨ao, cap, rfl, hc⟩ := h
  refine ⟨ao, cap, rfl, fun i hi => ?_⟩
  obtain ⟨b, off, rfl, hr⟩ := hc i hi
  exact ⟨b, off, rfl, fun j u hj => hg.cell (hr j u hj) (hne b rfl)⟩
theorem RowF.ext {w w' : World} {v : Value} {L : List Fnd} (h : RowF w v L) (hg : w.grownBy w' none) : RowF w' v L := h.kept hg (by simp)
theorem RowF.owns {w : World} {B : Nat} {T : TypeId} {v : Value} {L : List Fnd} (h : w.ownsRow B T 10 v L.length (fndsL L)) : RowF w v L := by
  rcases h.2 with ⟨rfl, h0⟩ | ⟨g, cap, cur, rfl, _⟩
  · exact ⟨none, 0, by rw [h0], fun i hi => by omega⟩
  · refine ⟨_, cap, rfl, fun i hi => ⟨g, 0, rfl, fun j u hj => ?_⟩⟩
    have hl : (fndC (L.getD i noF)).toList.length = 10 := rfl
    have hj10 : j < 10 := by rw [← hl]; exact (List.getElem?_eq_some_iff.1 hj).1
    rw [← fndsL_at L i j hj10 hi] at hj
    have h1 := h.cells (g := g) rfl _ _ hj
    rw [addr_add, ← Nat.add_assoc] at h1
    exact h1

theorem Try.sizeFnd : (Try.prog.info? 36).map (·.size) = some 10 := by kernel_rfl
theorem Try.sizeTag17 : (Try.prog.info? 34).map (·.size) = some 6 := by kernel_rfl
theorem Try.infoFnd : (Try.prog.info? 36).map (fun i => (i.zero, i.size, i.bytes)) = some (some (.agg #[.int .i64 0, .int .i64 0, .bool false, .int .i64 0, .int .i64 0, .int .i64 0, .int .i64 0, .int .i64 0, .bool false, .string ⟨#[]⟩]), 10, 88) := by kernel_rfl
def tagC17 (f : Fnd) : Array Value := #[.int .i64 f.te, .int .i64 f.ep, .int .i64 f.pl, .int .i64 f.sq, .int .i64 f.kd, .bool f.cp]
section
variable {ops : Array Oper} {rest : List Oper} {o : Oper} {a : Act} {w : World} {Q : Exit → Act → World → Prop}
theorem fnd_load (hwt : Region.wanted o (yielded ops a.tmps) = true) (x : Operand) (ho : o.op = .load 36 x) {b off : Nat} (hx : a.eval x = .pointer (some ⟨b, off, none⟩)) {f : Fnd} (hr : w.rangeAt b off (fndC f).toList)
    (h : wpList Try.prog ops Q rest (a.put o.dst (.agg (fndC f))) w) : wpList Try.prog ops Q (o :: rest) a w :=
  wpList_want hwt fun K hK => wp_load_mid _ x ho b off hx _ _ hr Try.underlying36 rfl (by rw [Try.sizeFnd]; rfl) (hK _ _ (by simpa using h))
theorem fnd_load_lit (hwt : Region.wanted o (yielded ops a.tmps) = true) (x : Operand) (ho : o.op = .load 36 x) {b off : Nat} (hx : a.eval x = .pointer (some ⟨b, off, none⟩)) {f : Fnd} (hr : w.rangeAt b off (fndC f).toList)
    (h : wpList Try.prog ops Q rest (a.put o.dst (.agg #[.int .i64 f.bk, .int .i64 f.pg, .bool f.torn, .int .i64 f.te, .int .i64 f.ep, .int .i64 f.pl, .int .i64 f.sq, .int .i64 f.kd, .bool f.cp, .string f.dt])) w) : wpList Try.prog ops Q (o :: rest) a w := fnd_load hwt x ho hx hr h
theorem fnd_store (x y : Operand) (ho : o.op = .store 36 x y) {g : Nat} (hx : a.eval x = .pointer (some ⟨g, 0, none⟩)) {f : Fnd} (hy : a.eval y = .agg (fndC f)) {old : Array Value} (hg : Blk w g 36 old) (hold : old.size = 10) (hwt : Region.wanted o (yielded ops a.tmps) = true)
    (h : ∀ w', Blk w' g 36 (fndC f) → w.grownBy w' (some g) → w'.heap.size = w.heap.size → wpList Try.prog ops Q rest (a.put o.dst undef) w') : wpList Try.prog ops Q (o :: rest) a w :=
  wpList_store_part hwt _ x y ho g 0 10 _ hx hy _ old _ hg rfl Try.sizeFnd (by omega) (by simp [fndC, Value.oneCell']) (by
    have h1 : (fndC f).toList.length = 10 := rfl
    rw [h1, List.drop_of_length_le (by simp; omega)]
    simp) h
theorem tag_load17 (hwt : Region.wanted o (yielded ops a.tmps) = true) (x : Operand) (ho : o.op = .load 34 x) {g : Nat} (hx : a.eval x = .pointer (some ⟨g, 3, none⟩)) {f : Fnd} (hg : Blk w g 36 (fndC f))
    (h : wpList Try.prog ops Q rest (a.put o.dst (.agg (tagC17 f))) w) : wpList Try.prog ops Q (o :: rest) a w :=
  wpList_load_part hwt _ x ho g 3 6 hx _ _ _ _ _ hg (show (fndC f).extract 3 (3 + 6) = tagC17 f from rfl) rfl Try.underlying34 rfl Try.sizeTag17 h
end
theorem Blk.range17 {w : World} {g : Nat} {t : TypeId} {f : Fnd} (h : Blk w g t (fndC f)) : w.rangeAt g 0 (fndC f).toList := by
  have := World.rangeAt_of_block h 0 10
  exact this
theorem g17_new {w w1 w2 : World} {g : Nat} (h : w.grownBy w1 none) (h2 : w1.grownBy w2 (some g)) (hg : w.heap.size ≤ g) : w.grownBy w2 none :=
  ⟨h2.os.trans h.os, h2.tape.trans h.tape, h2.output.trans h.output, Nat.le_trans h.size h2.size, fun k hk hne => (h2.block k (Nat.lt_of_lt_of_le hk h.size) (fun e => by injection e with e; omega)).trans (h.block k hk hne)⟩
/-- A page's cells in a block of its own. -/
structure FCells (w : World) (g : Nat) (f : Fnd) : Prop where
  blk : Blk w g 36 (fndC f)
  bk : w.cell? ⟨g, 0, none⟩ = some (.int .i64 f.bk)
  pg : w.cell? ⟨g, 1, none⟩ = some (.int .i64 f.pg)
  torn : w.cell? ⟨g, 2, none⟩ = some (.bool f.torn)
  te : w.cell? ⟨g, 3, none⟩ = some (.int .i64 f.te)
  ep : w.cell? ⟨g, 4, none⟩ = some (.int .i64 f.ep)
  pl : w.cell? ⟨g, 5, none⟩ = some (.int .i64 f.pl)
  sq : w.cell? ⟨g, 6, none⟩ = some (.int .i64 f.sq)
theorem FCells.of {w : World} {g : Nat} {f : Fnd} (h : Blk w g 36 (fndC f)) : FCells w g f := ⟨h, h.cell 0, h.cell 1, h.cell 2, h.cell 3, h.cell 4, h.cell 5, h.cell 6⟩

/-- Is a page a tenant's? -/
def mineF (tn ep : Int) (f : Fnd) : Bool := !f.torn && (f.te == tn && f.ep == ep)
theorem mine17_any (f : Fnd) (tn ep : Int) (w : World) : Calls Try.prog 13 #[.agg (fndC f), .int .i64 tn, .int .i64 ep] w fun e w' => e = .returned (.bool (mineF tn ep f)) ∧ w.grownBy w' none := by
  have HE := Lib.hid (World.grownBy_alloc w (.cells (fndC f) 36) none)
  have hc := FCells.of (Blk.new w 36 (fndC f))
  have c2 := hc.torn
  have c3 := hc.te
  have c4 := hc.ep
  clear hc
  obtain ⟨m, hm⟩ : ∃ m, mineF tn ep f = m := ⟨_, rfl⟩
  rw [hm]
  unfold mineF at hm
  have HM := Lib.hid hm
  clear hm
  cases ht : f.torn
  · rw [ht] at c2
    by_cases h1 : f.te = tn
    · have b1 : (f.te == tn) = true := by simpa using h1
      have b2 : (f.ep == ep) = (f.ep == ep) := rfl
      obtain ⟨z, hz⟩ : ∃ z, (f.ep == ep) = z := ⟨_, rfl⟩
      have HZ := Lib.hid hz
      have HB := Lib.hid (And.intro ht b1)
      clear b2 h1 ht
      cases z
      · clear HZ
        go_enter Try.func13, Try.ntmps13
        go_wp2
        go_ret
        refine ⟨?_, HE.out⟩
        rw [← HM.out, HB.out.1, HB.out.2, hz]
        rfl
      · clear HZ
        go_enter Try.func13, Try.ntmps13
        go_wp2
        go_ret
        refine ⟨?_, HE.out⟩
        rw [← HM.out, HB.out.1, HB.out.2, hz]
        rfl
    · have b1 : (f.te == tn) = false := by simpa using h1
      have HB := Lib.hid (And.intro ht b1)
      clear h1 ht
      go_enter Try.func13, Try.ntmps13
      go_wp2
      go_ret
      refine ⟨?_, HE.out⟩
      rw [← HM.out, HB.out.1, HB.out.2]
      rfl
  · rw [ht] at c2
    have HB := Lib.hid ht
    clear ht
    go_enter Try.func13, Try.ntmps13
    go_wp2
    go_ret
    refine ⟨?_, HE.out⟩
    rw [← HM.out, HB.out]
    rfl

/-- Is a number there? -/
theorem has17_any (v : Value) (xs : List Int) (n : Int) (w : World) (hb : Ints w v xs) (hm : xs.length ≤ 9223372036854775807) :
    Calls Try.prog 28 #[v, .int .i64 n] w fun e w' => e = .returned (.bool (xs.contains n)) ∧ w = w' := by
  obtain ⟨ao, cap, b, off, rfl, hc⟩ := hb.form
  obtain ⟨z, hz⟩ : ∃ z, xs.contains n = z := ⟨_, rfl⟩
  rw [hz]
  have HC := Lib.hid (And.intro hc hz)
  clear hc hb hz
  go_enter Try.func28, Try.ntmps28
  go_wp2
  go_loopw [9] (fun i wr => ∃ k : Nat, k ≤ xs.length ∧ i = .int .i64 k ∧ (∀ j, j < k → xs.getD j 0 ≠ n) ∧ w = wr) (fun i _ => xs.length - (intOf i).toNat)
  case atStart => exact ⟨0, by omega, rfl, fun j hj => by omega, rfl⟩
  case round =>
    obtain ⟨k, hk, rfl, hnot, rfl⟩ := hrel
    have NOT := Lib.hid hnot
    clear hnot
    by_cases hlt : k < xs.length
    · obtain ⟨rfl, hcell⟩ := HC.out.1 k hlt
      obtain ⟨x, hx⟩ : ∃ x, xs.getD k 0 = x := ⟨_, rfl⟩
      rw [hx] at hcell
      have HX := Lib.hid hx
      clear hx
      by_cases he : x = n
      · have hne : (x == n) = true := by simpa using he
        have HE := Lib.hid he
        clear he
        go_wp2
        go_ret
        refine ⟨?_, rfl⟩
        have h1 := HX.out
        rw [List.getD_eq_getElem?_getD, List.getElem?_eq_getElem hlt] at h1
        simp only [Option.getD_some] at h1
        have h2 : xs.contains n = true := by rw [List.contains_iff_mem, ← HE.out, ← h1]; exact List.getElem_mem hlt
        show Ending.returned (.bool true) = .returned (.bool z)
        rw [← HC.out.2, h2]
      · have hne : (x == n) = false := by simpa using he
        have HE := Lib.hid he
        clear he
        go_wp2
        go_roundw
        case rel =>
          refine ⟨k + 1, by omega, by go_num, fun j hj => ?_, trivial⟩
          by_cases e : j = k
          · subst e; rw [HX.out]; exact HE.out
          · exact NOT.out j (by omega)
        case measure => simp [intOf]; omega
    · obtain rfl : k = xs.length := by omega
      go_wp2
      go_ret
      refine ⟨?_, rfl⟩
      have h2 : xs.contains n = false := by
        rw [Bool.eq_false_iff]
        intro h3
        rw [List.contains_iff_mem] at h3
        obtain ⟨j, hj, hjn⟩ := List.mem_iff_getElem.1 h3
        refine NOT.out j hj ?_
        rw [List.getD_eq_getElem?_getD, List.getElem?_eq_getElem hj]
        exact hjn
      show Ending.returned (.bool false) = .returned (.bool z)
      rw [← HC.out.2, h2]

end Go.Proofs.Ytigfohofbpjldaa
