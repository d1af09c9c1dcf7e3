/-
  Texts put together: QF OA OB OC OD.
-/
import Derived.Test.YtfibpgfjlmlpaaaGreatDoorM10
import Derived.ChangeKeysEq
import Derived.Test.YtfibpgfjlmlpaaaGreatDoorM08
/-
  Layer 14: the document's table: Clear, Set.
-/
namespace Go.Proofs.YtfibpgfjlmlpaaaGreatDoor
set_option linter.unusedVariables false
set_option linter.unusedSimpArgs false
set_option linter.unusedVariables false
set_option linter.unusedSimpArgs false
set_option maxRecDepth 100000
open Go.RowKit

theorem clear_snoc (rs : List R14) (c : R14) (pl : Int) : clearN (rs ++ [c]) pl = if c.pl = pl then clearN rs pl else clearN rs pl ++ [c] := by
  unfold clearN
  rw [List.filter_append]
  by_cases h : c.pl = pl
  · rw [if_pos h]; simp [h]
  · rw [if_neg h]; simp [h]
theorem ret_bool14 {a b : Bool} (h : a = b) : Ending.returned (.bool a) = .returned (.bool b) := by rw [h]
theorem g14_set {w w1 w2 : World} {q : Nat} (h : w.grownBy w1 none) (h2 : w1.grownBy w2 (some q)) : w.grownBy w2 (some q) :=
  ⟨h2.os.trans h.os, h2.tape.trans h.tape, h2.output.trans h.output, Nat.le_trans h.size h2.size, fun k hk hne => (h2.block k (Nat.lt_of_lt_of_le hk h.size) hne).trans (h.block k hk (by simp))⟩
theorem g14_set1 (w : World) (q i : Nat) (v : Value) : w.grownBy (w.setCell ⟨q, i, none⟩ v) (some q) :=
  ⟨rfl, rfl, rfl, by simp [World.setCell], fun k _ hne => heap_setCell_other w ⟨q, i, none⟩ k v (fun e => hne (by rw [e]))⟩
theorem set_own14 {w w1 w2 w3 : World} {q : Nat} {v : Value} (h : w.grownBy w1 (some q)) (h2 : w1.grownBy w2 none) (h3 : w2.grownBy w3 v.ownBlock) (hv : ∀ k, v.ownBlock = some k → w.heap.size ≤ k) : w.grownBy w3 (some q) :=
  ⟨h3.os.trans (h2.os.trans h.os), h3.tape.trans (h2.tape.trans h.tape), h3.output.trans (h2.output.trans h.output), Nat.le_trans h.size (Nat.le_trans h2.size h3.size), fun k hk hne =>
    (h3.block k (Nat.lt_of_lt_of_le hk (Nat.le_trans h.size h2.size)) (fun e => by have := hv k e.symm; omega)).trans ((h2.block k (Nat.lt_of_lt_of_le hk h.size) (by simp)).trans (h.block k hk hne))⟩
theorem set_chain14 {w w1 w2 : World} {q : Nat} (h : w.grownBy w1 (some q)) (h2 : w1.grownBy w2 (some q)) : w.grownBy w2 (some q) :=
  ⟨h2.os.trans h.os, h2.tape.trans h.tape, h2.output.trans h.output, Nat.le_trans h.size h2.size, fun k hk hne => (h2.block k (Nat.lt_of_lt_of_le hk h.size) hne).trans (h.block k hk hne)⟩
theorem g14_own {w w1 w2 : World} {v : Value} (h : w.grownBy w1 none) (h2 : w1.grownBy w2 v.ownBlock) (hg : ∀ k, v.ownBlock = some k → w.heap.size ≤ k) : w.grownBy w2 none :=
  ⟨h2.os.trans h.os, h2.tape.trans h.tape, h2.output.trans h.output, Nat.le_trans h.size h2.size, fun k hk hne => (h2.block k (Nat.lt_of_lt_of_le hk h.size) (fun e => by have := hg k e.symm; omega)).trans (h.block k hk hne)⟩

/-! ### Set -/
def setE (B P : Int) (rs : List R14) (pl bk pg : Int) : Int := if pl < 0 ∨ 63 < pl ∨ bk < 0 ∨ B ≤ bk ∨ pg < 0 ∨ P ≤ pg then 5 else if 0 ≤ placeN rs bk pg ∧ placeN rs bk pg ≠ pl then 7 else 0
def setR (B P : Int) (rs : List R14) (pl bk pg : Int) : List R14 := if setE B P rs pl bk pg = 0 then clearN rs pl ++ [⟨pl, bk, pg⟩] else rs

end Go.Proofs.YtfibpgfjlmlpaaaGreatDoor

/-
  Layer 14: the program's table in memory: its cells; has, isPlace, Place, Worth, At.
-/
namespace Go.Proofs.YtfibpgfjlmlpaaaGreatDoor
set_option linter.unusedVariables false
set_option linter.unusedSimpArgs false
set_option linter.unusedVariables false
set_option linter.unusedSimpArgs false
set_option maxRecDepth 100000
open Go.RowKit

/-- The cells of a table: blocks, pages, whose each page is, worths, places' pages. -/
structure TabC (cs : Array Value) (B P : Nat) (R : Nat → Nat → Int) (W : Nat → Int) (S : Nat → Bool × Int × Int) : Prop where
  size : cs.size = 1282
  b : cs[0]? = some (.int .i64 B)
  p : cs[1]? = some (.int .i64 P)
  row : ∀ b p, b < 64 → p < 16 → cs[2 + b * 16 + p]? = some (.int .i64 (R b p))
  wor : ∀ b, b < 64 → cs[1026 + b]? = some (.int .i64 (W b))
  th : ∀ q, q < 64 → cs[1090 + q * 3]? = some (.bool (S q).1)
  bk : ∀ q, q < 64 → cs[1090 + q * 3 + 1]? = some (.int .i64 (S q).2.1)
  pg : ∀ q, q < 64 → cs[1090 + q * 3 + 2]? = some (.int .i64 (S q).2.2)

def upd2 (R : Nat → Nat → Int) (b p : Nat) (x : Int) : Nat → Nat → Int := fun i j => if i = b ∧ j = p then x else R i j
def upd1 {α : Type} (W : Nat → α) (b : Nat) (x : α) : Nat → α := fun i => if i = b then x else W i

section
variable {cs : Array Value} {B P : Nat} {R : Nat → Nat → Int} {W : Nat → Int} {S : Nat → Bool × Int × Int}
theorem TabC.setRow (h : TabC cs B P R W S) {b p : Nat} (hb : b < 64) (hp : p < 16) (x : Int) : TabC (cs.setIfInBounds (2 + b * 16 + p) (.int .i64 x)) B P (upd2 R b p x) W S where
  size := by rw [Array.size_setIfInBounds]; exact h.size
  b := by rw [Array.getElem?_setIfInBounds_ne (by omega)]; exact h.b
  p := by rw [Array.getElem?_setIfInBounds_ne (by omega)]; exact h.p
  row := fun i j hi hj => by
    unfold upd2
    by_cases e : i = b ∧ j = p
    · obtain ⟨rfl, rfl⟩ := e
      rw [if_pos ⟨rfl, rfl⟩, Array.getElem?_setIfInBounds_self_of_lt (by rw [h.size]; omega)]
    · rw [if_neg e, Array.getElem?_setIfInBounds_ne (by omega)]
      exact h.row i j hi hj
  wor := fun i hi => by rw [Array.getElem?_setIfInBounds_ne (by omega)]; exact h.wor i hi
  th := fun i hi => by rw [Array.getElem?_setIfInBounds_ne (by omega)]; exact h.th i hi
  bk := fun i hi => by rw [Array.getElem?_setIfInBounds_ne (by omega)]; exact h.bk i hi
  pg := fun i hi => by rw [Array.getElem?_setIfInBounds_ne (by omega)]; exact h.pg i hi
theorem TabC.setWor (h : TabC cs B P R W S) {b : Nat} (hb : b < 64) (x : Int) : TabC (cs.setIfInBounds (1026 + b) (.int .i64 x)) B P R (upd1 W b x) S where
  size := by rw [Array.size_setIfInBounds]; exact h.size
  b := by rw [Array.getElem?_setIfInBounds_ne (by omega)]; exact h.b
  p := by rw [Array.getElem?_setIfInBounds_ne (by omega)]; exact h.p
  row := fun i j hi hj => by rw [Array.getElem?_setIfInBounds_ne (by omega)]; exact h.row i j hi hj
  wor := fun i hi => by
    unfold upd1
    by_cases e : i = b
    · subst e
      rw [if_pos rfl, Array.getElem?_setIfInBounds_self_of_lt (by rw [h.size]; omega)]
    · rw [if_neg e, Array.getElem?_setIfInBounds_ne (by omega)]
      exact h.wor i hi
  th := fun i hi => by rw [Array.getElem?_setIfInBounds_ne (by omega)]; exact h.th i hi
  bk := fun i hi => by rw [Array.getElem?_setIfInBounds_ne (by omega)]; exact h.bk i hi
  pg := fun i hi => by rw [Array.getElem?_setIfInBounds_ne (by omega)]; exact h.pg i hi
theorem TabC.setB (h : TabC cs B P R W S) (n : Nat) : TabC (cs.setIfInBounds 0 (.int .i64 n)) n P R W S where
  size := by rw [Array.size_setIfInBounds]; exact h.size
  b := by rw [Array.getElem?_setIfInBounds_self_of_lt (by rw [h.size]; omega)]
  p := by rw [Array.getElem?_setIfInBounds_ne (by omega)]; exact h.p
  row := fun i j hi hj => by rw [Array.getElem?_setIfInBounds_ne (by omega)]; exact h.row i j hi hj
  wor := fun i hi => by rw [Array.getElem?_setIfInBounds_ne (by omega)]; exact h.wor i hi
  th := fun i hi => by rw [Array.getElem?_setIfInBounds_ne (by omega)]; exact h.th i hi
  bk := fun i hi => by rw [Array.getElem?_setIfInBounds_ne (by omega)]; exact h.bk i hi
  pg := fun i hi => by rw [Array.getElem?_setIfInBounds_ne (by omega)]; exact h.pg i hi
def spotC (s : Bool × Int × Int) : Array Value := #[.bool s.1, .int .i64 s.2.1, .int .i64 s.2.2]
theorem TabC.setSpot (h : TabC cs B P R W S) {q : Nat} (hq : q < 64) (s : Bool × Int × Int) : TabC (cs.toList.take (1090 + q * 3) ++ (spotC s).toList ++ cs.toList.drop (1090 + q * 3 + (spotC s).toList.length)).toArray B P R W (upd1 S q s) := by
  have hl : (spotC s).toList.length = 3 := rfl
  have key : ∀ i, (cs.toList.take (1090 + q * 3) ++ (spotC s).toList ++ cs.toList.drop (1090 + q * 3 + (spotC s).toList.length)).toArray[i]? = if 1090 + q * 3 ≤ i ∧ i < 1090 + q * 3 + 3 then (spotC s).toList[i - (1090 + q * 3)]? else cs[i]? := by
    intro i
    have hs := h.size
    have ht : (cs.toList.take (1090 + q * 3)).length = 1090 + q * 3 := by simp; omega
    rw [List.getElem?_toArray, List.append_assoc]
    by_cases h1 : i < 1090 + q * 3
    · rw [List.getElem?_append_left (by omega), if_neg (by omega), List.getElem?_take, if_pos h1, Array.getElem?_toList]
    · rw [List.getElem?_append_right (by omega), ht]
      by_cases h2 : i < 1090 + q * 3 + 3
      · rw [if_pos (by omega), List.getElem?_append_left (by omega)]
      · rw [if_neg (by omega), List.getElem?_append_right (by omega), hl, List.getElem?_drop, Array.getElem?_toList]
        congr 1
        omega
  have hs := h.size
  refine ⟨by simp [spotC, hs]; omega, ?_, ?_, fun i j hi hj => ?_, fun i hi => ?_, fun i hi => ?_, fun i hi => ?_, fun i hi => ?_⟩
  · rw [key, if_neg (by omega)]; exact h.b
  · rw [key, if_neg (by omega)]; exact h.p
  · rw [key, if_neg (by omega)]; exact h.row i j hi hj
  · rw [key, if_neg (by omega)]; exact h.wor i hi
  · rw [key]
    unfold upd1
    by_cases e : i = q
    · subst e
      rw [if_pos rfl, if_pos (by omega), show 1090 + i * 3 - (1090 + i * 3) = 0 by omega]
      rfl
    · rw [if_neg e, if_neg (by omega)]; exact h.th i hi
  · rw [key]
    unfold upd1
    by_cases e : i = q
    · subst e
      rw [if_pos rfl, if_pos (by omega), show 1090 + i * 3 + 1 - (1090 + i * 3) = 1 by omega]
      rfl
    · rw [if_neg e, if_neg (by omega)]; exact h.bk i hi
  · rw [key]
    unfold upd1
    by_cases e : i = q
    · subst e
      rw [if_pos rfl, if_pos (by omega), show 1090 + i * 3 + 2 - (1090 + i * 3) = 2 by omega]
      rfl
    · rw [if_neg e, if_neg (by omega)]; exact h.pg i hi
theorem TabC.spot (h : TabC cs B P R W S) {q : Nat} (hq : q < 64) {s : Bool × Int × Int} (hs : S q = s) : cs.extract (1090 + q * 3) (1090 + q * 3 + 3) = spotC s := by
  subst hs
  have hz := h.size
  refine Array.ext_getElem? fun i => ?_
  rw [Array.getElem?_extract]
  have hm : min (1090 + q * 3 + 3) cs.size = 1090 + q * 3 + 3 := by omega
  rw [hm]
  by_cases hi : i < 3
  · rw [if_pos (by omega)]
    obtain rfl | rfl | rfl : i = 0 ∨ i = 1 ∨ i = 2 := by omega
    · exact h.th q hq
    · exact h.bk q hq
    · exact h.pg q hq
  · rw [if_neg (by omega), Array.getElem?_eq_none (by simp [spotC]; omega)]
end

/-- A table at t. -/
structure TabS (w : World) (t : Nat) (B P : Nat) (R : Nat → Nat → Int) (W : Nat → Int) (S : Nat → Bool × Int × Int) : Prop where
  bl : B ≤ 64
  pl : 2 ≤ P ∧ P ≤ 16
  is : ∃ cs, Blk w t 147 cs ∧ TabC cs B P R W S
section
variable {w w' : World} {t B P : Nat} {R : Nat → Nat → Int} {W : Nat → Int} {S : Nat → Bool × Int × Int}
theorem TabS.lt (h : TabS w t B P R W S) : t < w.heap.size := by obtain ⟨_, h1, _⟩ := h.is; exact h1.lt
theorem TabS.b (h : TabS w t B P R W S) : w.cell? ⟨t, 0, none⟩ = some (.int .i64 B) := by obtain ⟨_, h1, h2⟩ := h.is; exact (h1.cell 0).trans h2.b
theorem TabS.p (h : TabS w t B P R W S) : w.cell? ⟨t, 1, none⟩ = some (.int .i64 P) := by obtain ⟨_, h1, h2⟩ := h.is; exact (h1.cell 1).trans h2.p
theorem TabS.row (h : TabS w t B P R W S) {b p : Nat} (hb : b < 64) (hp : p < 16) : w.cell? ⟨t, 2 + b * 16 + p, none⟩ = some (.int .i64 (R b p)) := by obtain ⟨_, h1, h2⟩ := h.is; exact (h1.cell _).trans (h2.row b p hb hp)
theorem TabS.wor (h : TabS w t B P R W S) {b : Nat} (hb : b < 64) : w.cell? ⟨t, 1026 + b, none⟩ = some (.int .i64 (W b)) := by obtain ⟨_, h1, h2⟩ := h.is; exact (h1.cell _).trans (h2.wor b hb)
theorem TabS.free (h : TabS w t B P R W S) (i : Nat) : w.frozen? ⟨t, i, none⟩ = false := by obtain ⟨_, h1, _⟩ := h.is; exact h1.free i
theorem TabS.kept {r : Option Nat} (h : TabS w t B P R W S) (hg : w.grownBy w' r) (hne : some t ≠ r) : TabS w' t B P R W S := by obtain ⟨cs, h1, h2⟩ := h.is; exact ⟨h.bl, h.pl, cs, h1.kept hg hne, h2⟩
theorem TabS.ext (h : TabS w t B P R W S) (hg : w.grownBy w' none) : TabS w' t B P R W S := h.kept hg (by simp)
theorem TabS.range (h : TabS w t B P R W S) {q : Nat} (hq : q < 64) {s : Bool × Int × Int} (hs : S q = s) : w.rangeAt t (1090 + q * 3) (spotC s).toList := by
  obtain ⟨cs, h1, h2⟩ := h.is
  have := h1.range14 (1090 + q * 3) 3 (by rw [h2.spot hq hs]; rfl)
  rw [h2.spot hq hs] at this
  exact this
theorem TabS.setRow (h : TabS w t B P R W S) {b p : Nat} (hb : b < 64) (hp : p < 16) (x : Int) : TabS (w.setCell ⟨t, 2 + b * 16 + p, none⟩ (.int .i64 x)) t B P (upd2 R b p x) W S := by
  obtain ⟨cs, h1, h2⟩ := h.is
  exact ⟨h.bl, h.pl, _, h1.set _ _, h2.setRow hb hp x⟩
theorem TabS.setWor (h : TabS w t B P R W S) {b : Nat} (hb : b < 64) (x : Int) : TabS (w.setCell ⟨t, 1026 + b, none⟩ (.int .i64 x)) t B P R (upd1 W b x) S := by
  obtain ⟨cs, h1, h2⟩ := h.is
  exact ⟨h.bl, h.pl, _, h1.set _ _, h2.setWor hb x⟩
theorem TabS.setB (h : TabS w t B P R W S) {n : Nat} (hn : n ≤ 64) : TabS (w.setCell ⟨t, 0, none⟩ (.int .i64 n)) t n P R W S := by
  obtain ⟨cs, h1, h2⟩ := h.is
  exact ⟨hn, h.pl, _, h1.set _ _, h2.setB n⟩

theorem isPlace_is (q : Int) (w : World) : Calls Tryz.prog 77 #[.int .i64 q] w fun e w' => e = .returned (.bool (decide (0 ≤ q) && decide (q < 64))) ∧ w = w' := by
  by_cases h : 0 ≤ q
  · have hb : decide (0 ≤ q) = true := by simpa using h
    rw [hb]
    go_enter Tryz.func77, Tryz.ntmps77
    go_wp2
    go_ret
    exact ⟨by simp, rfl⟩
  · have hb : decide (0 ≤ q) = false := by simpa using h
    rw [hb]
    go_enter Tryz.func77, Tryz.ntmps77
    go_wp2
    go_ret
    exact ⟨by simp, rfl⟩
/-- Whether there is such a page. -/
def hasN (B P : Nat) (b p : Int) : Bool := decide (0 ≤ b) && decide (b < B) && decide (0 ≤ p) && decide (p < P)
theorem hasN_true {B P : Nat} {b p : Int} (h : hasN B P b p = true) : 0 ≤ b ∧ b < B ∧ 0 ≤ p ∧ p < P := by
  unfold hasN at h
  simp at h
  omega
theorem hasT_is (h : TabS w t B P R W S) (b p : Int) : Calls Tryz.prog 116 #[.pointer (some ⟨t, 0, none⟩), .int .i64 b, .int .i64 p] w fun e w' => e = .returned (.bool (hasN B P b p)) ∧ w = w' := by
  have c0 := h.b
  have c1 := h.p
  clear h
  unfold hasN
  by_cases h1 : 0 ≤ b
  · have hb1 : decide (0 ≤ b) = true := by simpa using h1
    rw [hb1]
    by_cases h2 : b < B
    · have hb2 : decide (b < B) = true := by simpa using h2
      rw [hb2]
      by_cases h3 : 0 ≤ p
      · have hb3 : decide (0 ≤ p) = true := by simpa using h3
        rw [hb3]
        go_enter Tryz.func116, Tryz.ntmps116
        go_wp2
        go_ret
        exact ⟨by simp, rfl⟩
      · have hb3 : decide (0 ≤ p) = false := by simpa using h3
        rw [hb3]
        go_enter Tryz.func116, Tryz.ntmps116
        go_wp2
        go_ret
        exact ⟨by simp, rfl⟩
    · have hb2 : decide (b < B) = false := by simpa using h2
      rw [hb2]
      go_enter Tryz.func116, Tryz.ntmps116
      go_wp2
      go_ret
      exact ⟨by simp, rfl⟩
  · have hb1 : decide (0 ≤ b) = false := by simpa using h1
    rw [hb1]
    go_enter Tryz.func116, Tryz.ntmps116
    go_wp2
    go_ret
    exact ⟨by simp, rfl⟩
theorem has_none (b p : Int) (w : World) : Calls Tryz.prog 116 #[.pointer none, .int .i64 b, .int .i64 p] w fun e w' => e = .returned (.bool false) ∧ w = w' := by
  go_enter Tryz.func116, Tryz.ntmps116
  go_wp2
  go_ret
  exact ⟨rfl, rfl⟩
theorem place_no (h : TabS w t B P R W S) (b p : Int) (hn : hasN B P b p = false) : Calls Tryz.prog 127 #[.pointer (some ⟨t, 0, none⟩), .int .i64 b, .int .i64 p] w fun e w' => e = .returned (.int .i64 (-1)) ∧ w = w' := by
  have HAS := hasT_is h b p
  rw [hn] at HAS
  clear h hn
  go_enter Tryz.func127, Tryz.ntmps127
  go_wp2_with (go_at_call 116; refine HAS.mono ?_; rintro e w1 ⟨rfl, rfl⟩)
  go_ret
  exact ⟨rfl, rfl⟩
theorem place_yes (h : TabS w t B P R W S) (b p : Nat) (hb : b < B) (hp : p < P) : Calls Tryz.prog 127 #[.pointer (some ⟨t, 0, none⟩), .int .i64 b, .int .i64 p] w fun e w' => e = .returned (.int .i64 (R b p)) ∧ w = w' := by
  have HAS := hasT_is h b p
  have hh : hasN B P b p = true := by unfold hasN; simp; omega
  have hb2 : b < 64 := by have := h.bl; omega
  have hp2 : p < 16 := by have := h.pl.2; omega
  have c2 := h.row hb2 hp2
  rw [hh] at HAS
  clear h hh
  go_enter Tryz.func127, Tryz.ntmps127
  go_wp2_with (go_at_call 116; refine HAS.mono ?_; rintro e w1 ⟨rfl, rfl⟩)
  go_ret
  exact ⟨rfl, rfl⟩
theorem worth_no (h : TabS w t B P R W S) (b : Int) (hn : hasN B P b 0 = false) : Calls Tryz.prog 82 #[.pointer (some ⟨t, 0, none⟩), .int .i64 b] w fun e w' => e = .returned (.int .i64 0) ∧ w = w' := by
  have HAS := hasT_is h b 0
  rw [hn] at HAS
  clear h hn
  go_enter Tryz.func82, Tryz.ntmps82
  go_wp2_with (go_at_call 116; refine HAS.mono ?_; rintro e w1 ⟨rfl, rfl⟩)
  go_ret
  exact ⟨rfl, rfl⟩
theorem worth_yes (h : TabS w t B P R W S) (b : Nat) (hb : b < B) : Calls Tryz.prog 82 #[.pointer (some ⟨t, 0, none⟩), .int .i64 b] w fun e w' => e = .returned (.int .i64 (W b)) ∧ w = w' := by
  have HAS := hasT_is h b 0
  have hh : hasN B P b 0 = true := by unfold hasN; have := h.pl; simp; omega
  have hb2 : b < 64 := by have := h.bl; omega
  have c2 := h.wor hb2
  rw [hh] at HAS
  clear h hh
  go_enter Tryz.func82, Tryz.ntmps82
  go_wp2_with (go_at_call 116; refine HAS.mono ?_; rintro e w1 ⟨rfl, rfl⟩)
  go_ret
  exact ⟨rfl, rfl⟩
end

end Go.Proofs.YtfibpgfjlmlpaaaGreatDoor

/-
  Layer 14: the program's table: At, Clear, Set.
-/
namespace Go.Proofs.YtfibpgfjlmlpaaaGreatDoor
set_option linter.unusedVariables false
set_option linter.unusedSimpArgs false
set_option linter.unusedVariables false
set_option linter.unusedSimpArgs false
set_option maxRecDepth 100000
open Go.RowKit

theorem Tryz.sizeSpot : (Tryz.prog.info? 141).map (·.size) = some 3 := by kernel_rfl
section
variable {ops : Array Oper} {rest : List Oper} {o : Oper} {a : Act} {w : World} {Q : Exit → Act → World → Prop}
theorem spot_load (hwt : Region.wanted o (yielded ops a.tmps) = true) (x : Operand) (ho : o.op = .load 141 x) {b off : Nat} (hx : a.eval x = .pointer (some ⟨b, off, none⟩)) {s : Bool × Int × Int} (hr : w.rangeAt b off (spotC s).toList)
    (h : wpList Tryz.prog ops Q rest (a.put o.dst (.agg (spotC s))) w) : wpList Tryz.prog ops Q (o :: rest) a w :=
  wpList_want hwt fun K hK => wp_load_mid _ x ho b off hx _ _ hr Tryz.underlying141 rfl (by rw [Tryz.sizeSpot]; rfl) (hK _ _ (by simpa using h))
theorem spot_store (x y : Operand) (ho : o.op = .store 141 x y) {g : Nat} (hx : a.eval x = .pointer (some ⟨g, 0, none⟩)) {c : Bool × Int × Int} (hy : a.eval y = .agg (spotC c)) {old : Array Value} (hg : Blk w g 141 old) (hold : old.size = 3) (hwt : Region.wanted o (yielded ops a.tmps) = true)
    (h : ∀ w', Blk w' g 141 (spotC c) → w.grownBy w' (some g) → w'.heap.size = w.heap.size → wpList Tryz.prog ops Q rest (a.put o.dst undef) w') : wpList Tryz.prog ops Q (o :: rest) a w :=
  wpList_store_part hwt _ x y ho g 0 3 _ hx hy _ old _ hg rfl Tryz.sizeSpot (by omega) (by simp [spotC, Value.oneCell']) (by
    have h1 : (spotC c).toList.length = 3 := rfl
    rw [h1, List.drop_of_length_le (by simp; omega)]
    simp) h
theorem tab_store (x y : Operand) (ho : o.op = .store 141 x y) {t q : Nat} {B P : Nat} {R : Nat → Nat → Int} {W : Nat → Int} {S : Nat → Bool × Int × Int} (hq : q < 64) (hx : a.eval x = .pointer (some ⟨t, 1090 + q * 3, none⟩)) {s : Bool × Int × Int} (hy : a.eval y = .agg (spotC s)) (hs : TabS w t B P R W S) (hwt : Region.wanted o (yielded ops a.tmps) = true)
    (h : ∀ w', TabS w' t B P R W (upd1 S q s) → w.grownBy w' (some t) → wpList Tryz.prog ops Q rest (a.put o.dst undef) w') : wpList Tryz.prog ops Q (o :: rest) a w := by
  obtain ⟨cs, h1, h2⟩ := hs.is
  exact wpList_store_part hwt _ x y ho t (1090 + q * 3) 3 _ hx hy _ _ _ h1 rfl Tryz.sizeSpot (by rw [h2.size]; omega) (by simp [spotC, Value.oneCell']) rfl fun w' h3 h4 _ => h w' ⟨hs.bl, hs.pl, _, h3, h2.setSpot hq s⟩ h4
end

theorem grown_trans14 {w w1 w2 : World} (h : w.grownBy w1 none) (h2 : w1.grownBy w2 (some w.heap.size)) : w.grownBy w2 none := grown_trans13 h h2
theorem drew_any14 {w w' : World} {r : Option Nat} (h : w.grownBy w' r) : w.grownBy w'.drew r := ⟨h.os, h.tape, h.output, h.size, h.block⟩
section
variable {w : World} {t B P : Nat} {R : Nat → Nat → Int} {W : Nat → Int} {S : Nat → Bool × Int × Int}
theorem at_no (q : Int) (hq : ¬ (0 ≤ q ∧ q < 64)) : Calls Tryz.prog 45 #[.pointer (some ⟨t, 0, none⟩), .int .i64 q] w fun e w' => e = .returned (.tuple #[.int .i64 0, .int .i64 0, .bool false]) ∧ w = w' := by
  have IS := isPlace_is q w
  rw [show (decide (0 ≤ q) && decide (q < 64)) = false by simp; omega] at IS
  clear hq
  go_enter Tryz.func45, Tryz.ntmps45
  go_wp2_with (go_at_call 77; refine IS.mono ?_; rintro e w1 ⟨rfl, rfl⟩)
  refine bodyPost_ret (v := .tuple #[.int .i64 0, .int .i64 0, .bool false]) (by simp [results, Tryz.results45, go_sem]) rfl ?_
  exact ⟨rfl, rfl⟩
theorem at_none (q : Int) (w : World) : Calls Tryz.prog 45 #[.pointer none, .int .i64 q] w fun e w' => e = .returned (.tuple #[.int .i64 0, .int .i64 0, .bool false]) ∧ w = w' := by
  go_enter Tryz.func45, Tryz.ntmps45
  go_wp2
  refine bodyPost_ret (v := .tuple #[.int .i64 0, .int .i64 0, .bool false]) (by simp [results, Tryz.results45, go_sem]) rfl ?_
  exact ⟨rfl, rfl⟩
set_option maxHeartbeats 800000 in
theorem at_yes (h : TabS w t B P R W S) (q : Nat) (hq : q < 64) (s : Bool × Int × Int) (hs : S q = s) : Calls Tryz.prog 45 #[.pointer (some ⟨t, 0, none⟩), .int .i64 q] w fun e w' => e = .returned (.tuple #[.int .i64 s.2.1, .int .i64 s.2.2, .bool s.1]) ∧ w.grownBy w' none := by
  have IS := isPlace_is q w
  rw [show (decide (0 ≤ (q : Int)) && decide ((q : Int) < 64)) = true by simp; omega] at IS
  have hr := h.range hq hs
  have hb1 := Blk.new w 141 #[.bool false, .int .i64 0, .int .i64 0]
  have HE := Lib.hid (World.grownBy_alloc w (.cells #[.bool false, .int .i64 0, .int .i64 0] 141) none)
  clear h hs
  go_enter Tryz.func45, Tryz.ntmps45
  go_wp2_with (first
    | (go_at_call 77; refine IS.mono ?_; rintro e w1 ⟨rfl, rfl⟩)
    | (refine spot_load rfl _ rfl rfl hr ?_; clear hr)
    | (refine spot_store (c := s) _ _ rfl rfl rfl hb1 rfl rfl ?_; intro w6 hb6 hg6 hs6; have c0 := (hb6.cell 0).trans (show (spotC s)[0]? = some (.bool s.1) from rfl); have c1 := (hb6.cell 1).trans (show (spotC s)[1]? = some (.int .i64 s.2.1) from rfl); have c2 := (hb6.cell 2).trans (show (spotC s)[2]? = some (.int .i64 s.2.2) from rfl); have HE6 := Lib.hid (grown_trans14 HE.out hg6); clear hb6 hg6 hs6))
  go_quiet (fail)
  rename_i nq
  go_wp2
  refine bodyPost_ret (v := .tuple #[.int .i64 s.2.1, .int .i64 s.2.2, .bool s.1]) (by simp [results, Tryz.results45, go_sem]) rfl ?_
  exact ⟨rfl, drew14 HE6.out nq⟩

theorem clear_no (q : Int) (hq : ¬ (0 ≤ q ∧ q < 64)) : Calls Tryz.prog 128 #[.pointer (some ⟨t, 0, none⟩), .int .i64 q] w fun e w' => e = .returned (.bool false) ∧ w = w' := by
  have AT := at_no (w := w) (t := t) q hq
  clear hq
  go_enter Tryz.func128, Tryz.ntmps128
  go_wp2_with (go_at_call 45; refine AT.mono ?_; rintro e w1 ⟨rfl, rfl⟩)
  go_ret
  exact ⟨rfl, rfl⟩
theorem clear_none (q : Int) (w : World) : Calls Tryz.prog 128 #[.pointer none, .int .i64 q] w fun e w' => e = .returned (.bool false) ∧ w = w' := by
  have AT := at_none q w
  go_enter Tryz.func128, Tryz.ntmps128
  go_wp2_with (go_at_call 45; refine AT.mono ?_; rintro e w1 ⟨rfl, rfl⟩)
  go_ret
  exact ⟨rfl, rfl⟩
theorem clear_off (h : TabS w t B P R W S) (q : Nat) (hq : q < 64) (hs : S q = (false, 0, 0)) : Calls Tryz.prog 128 #[.pointer (some ⟨t, 0, none⟩), .int .i64 q] w fun e w' => e = .returned (.bool false) ∧ w.grownBy w' none := by
  have AT := at_yes h q hq _ hs
  clear h hs
  go_enter Tryz.func128, Tryz.ntmps128
  go_wp2_with (go_at_call 45; refine AT.mono ?_; rintro e w1 ⟨rfl, hE1⟩)
  go_ret
  exact ⟨rfl, hE1⟩
set_option maxHeartbeats 1600000 in
theorem clear_on (h : TabS w t B P R W S) (q : Nat) (hq : q < 64) (b p : Nat) (hb : b < 64) (hp : p < 16) (hs : S q = (true, (b : Int), (p : Int))) (x : Nat) (hx : W b = ((x + 1 : Nat) : Int)) (hx2 : x ≤ 1000000) :
    Calls Tryz.prog 128 #[.pointer (some ⟨t, 0, none⟩), .int .i64 q] w fun e w' => e = .returned (.bool true) ∧ TabS w' t B P (upd2 R b p (-1)) (upd1 W b x) (upd1 S q (false, 0, 0)) ∧ w.grownBy w' (some t) := by
  have AT := at_yes h q hq _ hs
  have HT := Lib.hid h
  have HX := Lib.hid hx
  clear h hs hx
  go_enter Tryz.func128, Tryz.ntmps128
  go_wp2_with (first
    | (go_at_call 45; refine AT.mono ?_; rintro e w1 ⟨rfl, hE1⟩; have HT1 := Lib.hid (HT.out.ext hE1); have c2 := HT1.out.row hb hp; have f2 := HT1.out.free (2 + b * 16 + p); have HG1 := Lib.hid hE1; clear hE1 HT))
  have HT2 := Lib.hid ((HT1.out.setRow hb hp (-1)).ext (Ext.drew _))
  have HG2 := Lib.hid (show w.grownBy (w1.setCell ⟨t, 2 + b * 16 + p, none⟩ (.int .i64 (-1))).drew (some t) from drew_any14 (g14_set HG1.out (g14_set1 w1 t _ _)))
  obtain ⟨w2, hw2⟩ : ∃ v, (w1.setCell ⟨t, 2 + b * 16 + p, none⟩ (.int .i64 (-1))).drew = v := ⟨_, rfl⟩
  clear c2 f2 AT
  refine region_line [(0, true), (1, true), (2, true), (3, true), (4, true), (7, true), (8, true), (5, false), (6, true), (9, true), (10, false)] (fun _ => True) (by kernel_rfl) (by kernel_rfl) (fun _ _ _ d _ h => by cases d <;> exact h) trivial ?_
  rw [hw2] at HT2 HG2 ⊢
  clear hw2
  iterate 7 (refine line_read (a' := ?_) rfl (by kernel_rfl) (by kernel_rfl) trivial (fun x0 hx K hK => ?_) ?_; rotate_left; · (go_wp2; exact hK))
  refine line_act (by rfl) (fun K hK => ?_)
  have c3 := HT2.out.wor hb
  rw [HX.out] at c3
  have f3 := HT2.out.free (1026 + b)
  go_wp2
  refine hK _ _ (fun _ => True) trivial (fun x hx => hx) ?_
  clear hK K c3 f3
  iterate 2 (refine line_read (a' := ?_) rfl (by kernel_rfl) (by kernel_rfl) trivial (fun x0 hx K hK => ?_) ?_; rotate_left; · (go_wp2; exact hK))
  refine line_act (by rfl) (fun K hK => ?_)
  have c3 := HT2.out.wor hb
  have f3 := HT2.out.free (1026 + b)
  go_wp2
  refine hK _ _ (fun _ => True) trivial (fun x hx => hx) ?_
  clear hK K c3 f3
  refine line_end ?_
  have HT3 := HT2.out.setWor hb (x : Int)
  have HG3 := Lib.hid (set_chain14 HG2.out (g14_set1 w2 t (1026 + b) (.int .i64 x)))
  go_wp2_with (refine tab_store (s := (false, 0, 0)) _ _ rfl hq rfl rfl HT3 rfl ?_; intro w6 ht6 hg6)
  go_ret
  exact ⟨rfl, ht6, set_chain14 HG3.out hg6⟩
end

end Go.Proofs.YtfibpgfjlmlpaaaGreatDoor

/-
  Layer 14: rows of the document's table, and what the program's cells must be; how both change.
-/
namespace Go.Proofs.YtfibpgfjlmlpaaaGreatDoor
set_option linter.unusedVariables false
set_option linter.unusedSimpArgs false
set_option linter.unusedVariables false
set_option linter.unusedSimpArgs false
set_option maxRecDepth 100000
open Go.RowKit

theorem nodup_inj {α β : Type} {f : α → β} : ∀ {rs : List α}, (rs.map f).Nodup → ∀ {r s : α}, r ∈ rs → s ∈ rs → f r = f s → r = s
  | [], _, r, _, hr, _, _ => by cases hr
  | x :: xs, h, r, s, hr, hs, e => by
    rw [List.map_cons, List.nodup_cons] at h
    rcases List.mem_cons.1 hr with rfl | hr2
    · rcases List.mem_cons.1 hs with rfl | hs2
      · rfl
      · exact absurd (List.mem_map.2 ⟨s, hs2, e.symm⟩) h.1
    · rcases List.mem_cons.1 hs with rfl | hs2
      · exact absurd (List.mem_map.2 ⟨r, hr2, e⟩) h.1
      · exact nodup_inj h.2 hr2 hs2 e

theorem placeN_none {rs : List R14} {b p : Int} (h : ∀ r ∈ rs, ¬ (r.bk = b ∧ r.pg = p)) : placeN rs b p = -1 := by
  unfold placeN
  rw [List.find?_eq_none.2 (fun r hr => by simpa using h r hr)]
theorem placeN_some {rs : List R14} {r : R14} (hn : (rs.map fun r => (r.bk, r.pg)).Nodup) (hr : r ∈ rs) : placeN rs r.bk r.pg = r.pl := by
  unfold placeN
  cases hf : rs.find? (fun s => s.bk == r.bk && s.pg == r.pg) with
  | none => have := List.find?_eq_none.1 hf r hr; simp at this
  | some s =>
    have h1 := List.mem_of_find?_eq_some hf
    have h2 := List.find?_some hf
    simp at h2
    obtain rfl := nodup_inj hn h1 hr (by simp [h2])
    rfl
theorem atN_none {rs : List R14} {q : Int} (h : ∀ r ∈ rs, r.pl ≠ q) : atN rs q = (0, 0, false) := by
  unfold atN
  rw [List.find?_eq_none.2 (fun r hr => by simpa using h r hr)]
theorem atN_some {rs : List R14} {r : R14} (hn : (rs.map (·.pl)).Nodup) (hr : r ∈ rs) : atN rs r.pl = (r.bk, r.pg, true) := by
  unfold atN
  cases hf : rs.find? (fun s => s.pl == r.pl) with
  | none => have := List.find?_eq_none.1 hf r hr; simp at this
  | some s =>
    have h1 := List.mem_of_find?_eq_some hf
    have h2 := List.find?_some hf
    simp at h2
    obtain rfl := nodup_inj hn h1 hr h2
    rfl
theorem mem_clear {rs : List R14} {q : Int} {r : R14} : r ∈ clearN rs q ↔ r ∈ rs ∧ r.pl ≠ q := by
  unfold clearN
  rw [List.mem_filter]
  simp
theorem clear_same {rs : List R14} {q : Int} (h : ∀ r ∈ rs, r.pl ≠ q) : clearN rs q = rs := by
  unfold clearN
  rw [List.filter_eq_self]
  intro r hr
  simpa using h r hr
theorem clear_len {rs : List R14} {r : R14} (hn : (rs.map (·.pl)).Nodup) (hr : r ∈ rs) : (clearN rs r.pl).length + 1 = rs.length := by
  induction rs with
  | nil => cases hr
  | cons x xs ih =>
    rw [List.map_cons, List.nodup_cons] at hn
    by_cases e : x.pl = r.pl
    · have hxs : ∀ s ∈ xs, s.pl ≠ r.pl := fun s hs h => hn.1 (List.mem_map.2 ⟨s, hs, h.trans e.symm⟩)
      have h1 : clearN (x :: xs) r.pl = clearN xs r.pl := by unfold clearN; rw [List.filter_cons, if_neg (by simpa using e)]
      rw [h1, clear_same hxs]
      rfl
    · have h1 : clearN (x :: xs) r.pl = x :: clearN xs r.pl := by unfold clearN; rw [List.filter_cons, if_pos (by simpa using e)]
      have hr2 : r ∈ xs := by
        rcases List.mem_cons.1 hr with rfl | h
        · exact absurd rfl e
        · exact h
      rw [h1, List.length_cons, List.length_cons, ih hn.2 hr2]
theorem clear_worth {rs : List R14} {r : R14} (hn : (rs.map (·.pl)).Nodup) (hr : r ∈ rs) (b : Int) : worthN (clearN rs r.pl) b + (if r.bk = b then 1 else 0) = worthN rs b := by
  induction rs with
  | nil => cases hr
  | cons x xs ih =>
    rw [List.map_cons, List.nodup_cons] at hn
    have hw : ∀ ys : List R14, worthN (x :: ys) b = worthN ys b + if x.bk = b then 1 else 0 := fun ys => by
      unfold worthN
      rw [List.filter_cons]
      by_cases hb : x.bk = b
      · rw [if_pos (by simpa using hb), if_pos hb, List.length_cons]
      · rw [if_neg (by simpa using hb), if_neg hb, Nat.add_zero]
    by_cases e : x.pl = r.pl
    · have hxs : ∀ s ∈ xs, s.pl ≠ r.pl := fun s hs h => hn.1 (List.mem_map.2 ⟨s, hs, h.trans e.symm⟩)
      have h1 : clearN (x :: xs) r.pl = clearN xs r.pl := by unfold clearN; rw [List.filter_cons, if_neg (by simpa using e)]
      have hx : r = x := by
        rcases List.mem_cons.1 hr with h | h
        · exact h
        · exact absurd rfl (hxs r h)
      subst hx
      rw [h1, clear_same hxs, hw]
    · have h1 : clearN (x :: xs) r.pl = x :: clearN xs r.pl := by unfold clearN; rw [List.filter_cons, if_pos (by simpa using e)]
      have hr2 : r ∈ xs := by
        rcases List.mem_cons.1 hr with rfl | h
        · exact absurd rfl e
        · exact h
      rw [h1, hw, hw, ← ih hn.2 hr2]
      omega
theorem worth_snoc14 (rs : List R14) (r : R14) (b : Int) : worthN (rs ++ [r]) b = worthN rs b + if r.bk = b then 1 else 0 := by
  unfold worthN
  rw [List.filter_append, List.length_append]
  congr 1
  by_cases hb : r.bk = b
  · rw [if_pos hb]; simp [hb]
  · rw [if_neg hb]; simp [hb]
theorem place_snoc14 {rs : List R14} {r : R14} (h : ∀ s ∈ rs, ¬ (s.bk = r.bk ∧ s.pg = r.pg)) (b p : Int) : placeN (rs ++ [r]) b p = if b = r.bk ∧ p = r.pg then r.pl else placeN rs b p := by
  unfold placeN
  rw [List.find?_append]
  by_cases e : b = r.bk ∧ p = r.pg
  · obtain ⟨rfl, rfl⟩ := e
    rw [if_pos ⟨rfl, rfl⟩, List.find?_eq_none.2 (fun s hs => by simpa using h s hs)]
    simp
  · rw [if_neg e]
    have h1 : (r.bk == b && r.pg == p) = false := by
      rw [Bool.eq_false_iff]
      intro h2
      simp at h2
      exact e ⟨h2.1.symm, h2.2.symm⟩
    rw [List.find?_cons, h1]
    simp
theorem at_snoc14 {rs : List R14} {r : R14} (h : ∀ s ∈ rs, s.pl ≠ r.pl) (q : Int) : atN (rs ++ [r]) q = if q = r.pl then (r.bk, r.pg, true) else atN rs q := by
  unfold atN
  rw [List.find?_append]
  by_cases e : q = r.pl
  · subst e
    rw [if_pos rfl, List.find?_eq_none.2 (fun s hs => by simpa using h s hs)]
    simp
  · rw [if_neg e]
    have h1 : (r.pl == q) = false := by simpa using fun h2 => e (Eq.symm h2)
    rw [List.find?_cons, h1]
    simp

/-- What the program's cells are, by the document's rows. -/
structure Inv14 (B P : Nat) (R : Nat → Nat → Int) (W : Nat → Int) (S : Nat → Bool × Int × Int) (rs : List R14) : Prop where
  ok : ∀ r ∈ rs, 0 ≤ r.pl ∧ r.pl < 64 ∧ 0 ≤ r.bk ∧ r.bk < B ∧ 0 ≤ r.pg ∧ r.pg < P
  pls : (rs.map (·.pl)).Nodup
  pgs : (rs.map fun r => (r.bk, r.pg)).Nodup
  row : ∀ b p : Nat, b < B → p < 16 → R b p = placeN rs b p
  wor : ∀ b : Nat, b < 64 → W b = (worthN rs b : Int)
  spo : ∀ q : Nat, q < 64 → S q = ((atN rs q).2.2, (atN rs q).1, (atN rs q).2.1)
section
variable {B P : Nat} {R : Nat → Nat → Int} {W : Nat → Int} {S : Nat → Bool × Int × Int} {rs : List R14}
theorem Inv14.none (B P : Nat) (R : Nat → Nat → Int) (h : ∀ b p : Nat, b < B → p < 16 → R b p = -1) : Inv14 B P R (fun _ => 0) (fun _ => (false, 0, 0)) [] :=
  ⟨fun r hr => (by cases hr), List.nodup_nil, List.nodup_nil, h, fun _ _ => rfl, fun _ _ => rfl⟩
theorem Inv14.more (h : Inv14 B P R W S rs) (n : Nat) (hn : B ≤ n) {R' : Nat → Nat → Int} (h1 : ∀ b p : Nat, b < B → p < 16 → R' b p = R b p) (h2 : ∀ b p : Nat, B ≤ b → b < n → p < 16 → R' b p = -1) : Inv14 n P R' W S rs where
  ok := fun r hr => by have := h.ok r hr; omega
  pls := h.pls
  pgs := h.pgs
  row := fun b p hb hp => by
    by_cases e : b < B
    · rw [h1 b p e hp, h.row b p e hp]
    · rw [h2 b p (by omega) hb hp, placeN_none (fun r hr he => by have := h.ok r hr; omega)]
  wor := h.wor
  spo := h.spo
theorem nodup_clear {β : Type} {f : R14 → β} (h : (rs.map f).Nodup) (q : Int) : ((clearN rs q).map f).Nodup := h.sublist (List.filter_sublist.map f)
/-- A place's page goes. -/
theorem Inv14.clear (h : Inv14 B P R W S rs) {r : R14} (hr : r ∈ rs) {q b p : Nat} (hq : r.pl = q) (hb : r.bk = b) (hp : r.pg = p) {x : Nat} (hx : W b = ((x + 1 : Nat) : Int)) :
    Inv14 B P (upd2 R b p (-1)) (upd1 W b x) (upd1 S q (false, 0, 0)) (clearN rs q) where
  ok := fun s hs => h.ok s (mem_clear.1 hs).1
  pls := nodup_clear h.pls _
  pgs := nodup_clear h.pgs _
  row := fun i j hi hj => by
    unfold upd2
    by_cases e : i = b ∧ j = p
    · obtain ⟨rfl, rfl⟩ := e
      rw [if_pos ⟨rfl, rfl⟩, placeN_none]
      intro s hs he
      obtain ⟨h1, h2⟩ := mem_clear.1 hs
      obtain rfl := nodup_inj h.pgs h1 hr (by simp [he, hb, hp])
      exact h2 hq
    · rw [if_neg e, h.row i j hi hj]
      by_cases hex : ∃ s ∈ rs, s.bk = i ∧ s.pg = j
      · obtain ⟨s, hs, h1, h2⟩ := hex
        have hne : s.pl ≠ q := fun hq2 => by
          obtain rfl := nodup_inj h.pls hs hr (hq2.trans hq.symm)
          omega
        rw [← h1, ← h2, placeN_some h.pgs hs, placeN_some (nodup_clear h.pgs _) (mem_clear.2 ⟨hs, hne⟩)]
      · rw [placeN_none (fun s hs he => hex ⟨s, hs, he⟩), placeN_none (fun s hs he => hex ⟨s, (mem_clear.1 hs).1, he⟩)]
  wor := fun i hi => by
    have hc := clear_worth h.pls hr (i : Int)
    rw [hq] at hc
    have hw := h.wor i hi
    unfold upd1
    by_cases e : i = b
    · subst e
      rw [if_pos hb] at hc
      rw [if_pos rfl]
      omega
    · rw [if_neg (by omega)] at hc
      rw [if_neg e]
      omega
  spo := fun i hi => by
    unfold upd1
    by_cases e : i = q
    · subst e
      rw [if_pos rfl, atN_none (fun s hs => (mem_clear.1 hs).2)]
    · rw [if_neg e, h.spo i hi]
      by_cases hex : ∃ s ∈ rs, s.pl = i
      · obtain ⟨s, hs, h1⟩ := hex
        rw [← h1, atN_some h.pls hs, atN_some (nodup_clear h.pls _) (mem_clear.2 ⟨hs, by omega⟩)]
      · rw [atN_none (fun s hs he => hex ⟨s, hs, he⟩), atN_none (fun s hs he => hex ⟨s, (mem_clear.1 hs).1, he⟩)]
/-- A page is given to a place that has none. -/
theorem Inv14.put (h : Inv14 B P R W S rs) {q b p : Nat} (hq : q < 64) (hb : b < B) (hp : p < P) (h1 : ∀ s ∈ rs, s.pl ≠ q) (h2 : ∀ s ∈ rs, ¬ (s.bk = b ∧ s.pg = p)) {x : Nat} (hx : W b = (x : Int)) :
    Inv14 B P (upd2 R b p q) (upd1 W b ((x + 1 : Nat) : Int)) (upd1 S q (true, (b : Int), (p : Int))) (rs ++ [⟨q, b, p⟩]) where
  ok := fun s hs => by
    rcases List.mem_append.1 hs with h3 | h3
    · exact h.ok s h3
    · obtain rfl := List.mem_singleton.1 h3
      refine ⟨?_, ?_, ?_, ?_, ?_, ?_⟩ <;> simp <;> omega
  pls := by
    rw [List.map_append]
    refine List.nodup_append.2 ⟨h.pls, by simp, fun a ha c hc e => ?_⟩
    obtain ⟨s, hs, rfl⟩ := List.mem_map.1 ha
    simp at hc
    exact h1 s hs (e.trans hc)
  pgs := by
    rw [List.map_append]
    refine List.nodup_append.2 ⟨h.pgs, by simp, fun a ha c hc e => ?_⟩
    obtain ⟨s, hs, rfl⟩ := List.mem_map.1 ha
    simp at hc
    have := e.trans hc
    simp at this
    exact h2 s hs this
  row := fun i j hi hj => by
    rw [place_snoc14 h2]
    unfold upd2
    by_cases e : i = b ∧ j = p
    · obtain ⟨rfl, rfl⟩ := e
      rw [if_pos ⟨rfl, rfl⟩, if_pos ⟨rfl, rfl⟩]
    · rw [if_neg e, if_neg (by simpa [Int.ofNat_inj] using e)]
      exact h.row i j hi hj
  wor := fun i hi => by
    rw [worth_snoc14]
    have hw := h.wor i hi
    unfold upd1
    by_cases e : i = b
    · subst e
      rw [if_pos rfl, if_pos rfl]
      omega
    · rw [if_neg e, if_neg (by simp; omega)]
      exact hw
  spo := fun i hi => by
    rw [at_snoc14 h1]
    unfold upd1
    by_cases e : i = q
    · subst e
      rw [if_pos rfl, if_pos rfl]
    · rw [if_neg e, if_neg (by simp; omega)]
      exact h.spo i hi
/-- What a place's page is. -/
theorem Inv14.spot_no (h : Inv14 B P R W S rs) {q : Nat} (hq : q < 64) (hn : ∀ r ∈ rs, r.pl ≠ q) : S q = (false, 0, 0) := by rw [h.spo q hq, atN_none hn]
theorem Inv14.spot_yes (h : Inv14 B P R W S rs) {q : Nat} (hq : q < 64) {r : R14} (hr : r ∈ rs) (hp : r.pl = q) : S q = (true, r.bk, r.pg) := by rw [h.spo q hq, ← hp, atN_some h.pls hr]

/-- Numbers up to n, together. -/
def sumN (f : Nat → Nat) : Nat → Nat
  | 0 => 0
  | n + 1 => sumN f n + f n
theorem sumN_add (f g : Nat → Nat) : ∀ n, sumN (fun i => f i + g i) n = sumN f n + sumN g n
  | 0 => rfl
  | n + 1 => by simp only [sumN]; rw [sumN_add f g n]; omega
theorem sumN_one (b : Nat) : ∀ n, sumN (fun i => if b = i then 1 else 0) n = if b < n then 1 else 0
  | 0 => rfl
  | n + 1 => by
    simp only [sumN]
    rw [sumN_one b n]
    by_cases h : b < n
    · rw [if_pos h, if_neg (by omega), if_pos (by omega)]
    · by_cases h2 : b = n
      · rw [if_neg h, if_pos h2, if_pos (by omega)]
      · rw [if_neg h, if_neg h2, if_neg (by omega)]
theorem sumN_worth : ∀ (rs : List R14) (n : Nat), (∀ r ∈ rs, 0 ≤ r.bk ∧ r.bk < n) → sumN (fun i => worthN rs i) n = rs.length
  | [], n, h => by
    clear h
    show sumN (fun _ => 0) n = 0
    induction n with
    | zero => rfl
    | succ n ih => simp only [sumN]; rw [ih]
  | r :: rs, n, h => by
    have h1 : (fun i : Nat => worthN (r :: rs) i) = fun i : Nat => worthN rs (i : Int) + (if r.bk.toNat = i then 1 else 0) := by
      funext i
      have := h r (by simp)
      unfold worthN
      rw [List.filter_cons]
      by_cases hb : r.bk = i
      · rw [if_pos (by simpa using hb), if_pos (by omega), List.length_cons]
      · rw [if_neg (by simpa using hb), if_neg (by omega), Nat.add_zero]
    have := h r (by simp)
    rw [h1, sumN_add, sumN_worth rs n (fun s hs => h s (by simp [hs])), sumN_one, if_pos (by omega), List.length_cons]
theorem sumN_le (f : Nat → Nat) (n : Nat) : ∀ m, n ≤ m → sumN f n ≤ sumN f m
  | 0, h => by obtain rfl : n = 0 := by omega
               exact Nat.le_refl _
  | m + 1, h => by
    by_cases e : n = m + 1
    · subst e; exact Nat.le_refl _
    · have := sumN_le f n m (by omega)
      simp only [sumN]
      omega
theorem sumN_same {f g : Nat → Nat} : ∀ n, (∀ i, i < n → f i = g i) → sumN f n = sumN g n
  | 0, _ => rfl
  | n + 1, h => by simp only [sumN]; rw [sumN_same n (fun i hi => h i (by omega)), h n (by omega)]
end

end Go.Proofs.YtfibpgfjlmlpaaaGreatDoor

/-
  Layer 14: the program's table, by the document's rows: Place, Worth, At, Clear, Set.
-/
namespace Go.Proofs.YtfibpgfjlmlpaaaGreatDoor
set_option linter.unusedVariables false
set_option linter.unusedSimpArgs false
set_option linter.unusedVariables false
set_option linter.unusedSimpArgs false
set_option maxRecDepth 100000
open Go.RowKit

/-- A table at t, and the document's rows. -/
def TabA (w : World) (t B P : Nat) (rs : List R14) : Prop := ∃ R W S, TabS w t B P R W S ∧ Inv14 B P R W S rs
theorem grown_any14 {w w1 : World} {r : Option Nat} (h : w.grownBy w1 none) : w.grownBy w1 r := ⟨h.os, h.tape, h.output, h.size, fun k hk _ => h.block k hk (by simp)⟩
section
variable {w w' : World} {t B P : Nat} {rs : List R14}
theorem TabA.kept {r : Option Nat} (h : TabA w t B P rs) (hg : w.grownBy w' r) (hne : some t ≠ r) : TabA w' t B P rs := by obtain ⟨R, W, S, h1, h2⟩ := h; exact ⟨R, W, S, h1.kept hg hne, h2⟩
theorem TabA.ext (h : TabA w t B P rs) (hg : w.grownBy w' none) : TabA w' t B P rs := h.kept hg (by simp)
theorem TabA.lt (h : TabA w t B P rs) : t < w.heap.size := by obtain ⟨R, W, S, h1, _⟩ := h; exact h1.lt
theorem TabA.bl (h : TabA w t B P rs) : B ≤ 64 := by obtain ⟨R, W, S, h1, _⟩ := h; exact h1.bl

theorem tabPlace (h : TabA w t B P rs) (b p : Int) : Calls Tryz.prog 127 #[.pointer (some ⟨t, 0, none⟩), .int .i64 b, .int .i64 p] w fun e w' => e = .returned (.int .i64 (placeN rs b p)) ∧ w = w' := by
  obtain ⟨R, W, S, hT, hI⟩ := h
  by_cases hh : hasN B P b p = true
  · obtain ⟨h1, h2, h3, h4⟩ := hasN_true hh
    obtain ⟨b, rfl⟩ := Int.eq_ofNat_of_zero_le h1
    obtain ⟨p, rfl⟩ := Int.eq_ofNat_of_zero_le h3
    have := hT.pl
    have hr := hI.row b p (by omega) (by omega)
    rw [← hr]
    exact place_yes hT b p (by omega) (by omega)
  · have hh2 : hasN B P b p = false := by simpa using hh
    rw [placeN_none (fun r hr he => by
      have := hI.ok r hr
      unfold hasN at hh
      simp at hh
      omega)]
    exact place_no hT b p hh2
theorem tabWorth (h : TabA w t B P rs) (b : Int) : Calls Tryz.prog 82 #[.pointer (some ⟨t, 0, none⟩), .int .i64 b] w fun e w' => e = .returned (.int .i64 (worthN rs b)) ∧ w = w' := by
  obtain ⟨R, W, S, hT, hI⟩ := h
  by_cases hh : 0 ≤ b ∧ b < B
  · obtain ⟨b, rfl⟩ := Int.eq_ofNat_of_zero_le hh.1
    have := hT.bl
    rw [← hI.wor b (by omega)]
    exact worth_yes hT b (by omega)
  · have hh2 : hasN B P b 0 = false := by unfold hasN; simp; omega
    have hw : worthN rs b = 0 := by
      unfold worthN
      rw [List.length_eq_zero_iff, List.filter_eq_nil_iff]
      intro r hr he
      have := hI.ok r hr
      simp at he
      omega
    rw [hw]
    exact worth_no hT b hh2
theorem tabAt (h : TabA w t B P rs) (q : Int) : Calls Tryz.prog 45 #[.pointer (some ⟨t, 0, none⟩), .int .i64 q] w fun e w' => e = .returned (.tuple #[.int .i64 (atN rs q).1, .int .i64 (atN rs q).2.1, .bool (atN rs q).2.2]) ∧ w.grownBy w' none := by
  obtain ⟨R, W, S, hT, hI⟩ := h
  by_cases hh : 0 ≤ q ∧ q < 64
  · obtain ⟨q, rfl⟩ := Int.eq_ofNat_of_zero_le hh.1
    exact at_yes hT q (by omega) _ (hI.spo q (by omega))
  · rw [atN_none (fun r hr he => by have := hI.ok r hr; omega)]
    exact (at_no q hh).mono fun e w' ⟨h1, h2⟩ => ⟨h1, by subst h2; exact Ext.refl w⟩
theorem tabClear (h : TabA w t B P rs) (q : Int) (hl : rs.length ≤ 1000000) : Calls Tryz.prog 128 #[.pointer (some ⟨t, 0, none⟩), .int .i64 q] w fun e w' => e = .returned (.bool (decide ((clearN rs q).length < rs.length))) ∧ TabA w' t B P (clearN rs q) ∧ w.grownBy w' (some t) := by
  obtain ⟨R, W, S, hT, hI⟩ := h
  by_cases hh : 0 ≤ q ∧ q < 64
  · obtain ⟨q, rfl⟩ := Int.eq_ofNat_of_zero_le hh.1
    by_cases hex : ∃ r ∈ rs, r.pl = q
    · obtain ⟨r, hr, hq⟩ := hex
      have hok := hI.ok r hr
      obtain ⟨b, hb⟩ := Int.eq_ofNat_of_zero_le hok.2.2.1
      obtain ⟨p, hp⟩ := Int.eq_ofNat_of_zero_le hok.2.2.2.2.1
      have hsp := hI.spot_yes (q := q) (by omega) hr hq
      rw [hb, hp] at hsp
      have hcl := clear_len hI.pls hr
      have hcw := clear_worth hI.pls hr (b : Int)
      rw [if_pos hb, hq] at hcw
      rw [hq] at hcl
      have hbl := hT.bl
      have hpl := hT.pl
      have hw := hI.wor b (by omega)
      rw [← hcw] at hw
      have hle : worthN (clearN rs q) b ≤ rs.length := by
        have h1 : worthN (clearN rs q) b ≤ (clearN rs q).length := List.length_filter_le _ _
        omega
      refine (clear_on hT q (by omega) b p (by omega) (by omega) hsp _ hw (by omega)).mono fun e w' ⟨h1, h2, h3⟩ => ⟨?_, ⟨_, _, _, h2, hI.clear hr hq hb hp hw⟩, h3⟩
      rw [h1, decide_eq_true (by omega)]
    · have hn : ∀ r ∈ rs, r.pl ≠ q := fun r hr he => hex ⟨r, hr, he⟩
      rw [clear_same hn, decide_eq_false (Nat.lt_irrefl _)]
      exact (clear_off hT q (by omega) (hI.spot_no (by omega) hn)).mono fun e w' ⟨h1, h2⟩ => ⟨h1, ⟨R, W, S, hT.ext h2, hI⟩, grown_any14 h2⟩
  · have hn : ∀ r ∈ rs, r.pl ≠ q := fun r hr he => by have := hI.ok r hr; omega
    rw [clear_same hn, decide_eq_false (Nat.lt_irrefl _)]
    exact (clear_no q hh).mono fun e w' ⟨h1, h2⟩ => ⟨h1, by subst h2; exact ⟨R, W, S, hT, hI⟩, by subst h2; exact grown_any14 (Ext.refl w)⟩

/-- Set: what is refused. -/
theorem set_range (h : TabA w t B P rs) (q b p : Int) (hn : (decide (0 ≤ q) && decide (q < 64)) = false ∨ hasN B P b p = false) : Calls Tryz.prog 98 #[.pointer (some ⟨t, 0, none⟩), .int .i64 q, .int .i64 b, .int .i64 p] w fun e w' => e = .returned (.int .i64 5) ∧ w = w' := by
  have IS := isPlace_is q w
  by_cases h1 : (decide (0 ≤ q) && decide (q < 64)) = false
  · rw [h1] at IS
    clear hn h h1
    go_enter Tryz.func98, Tryz.ntmps98
    go_wp2_with (go_at_call 77; refine IS.mono ?_; rintro e w1 ⟨rfl, rfl⟩)
    go_ret
    exact ⟨rfl, rfl⟩
  · have h2 : hasN B P b p = false := hn.resolve_left h1
    obtain ⟨R, W, S, hT, hI⟩ := h
    have HAS := hasT_is hT b p
    rw [show (decide (0 ≤ q) && decide (q < 64)) = true by simpa using h1] at IS
    rw [h2] at HAS
    clear hn hT hI h1 h2
    go_enter Tryz.func98, Tryz.ntmps98
    go_wp2_with (first
      | (go_at_call 77; refine IS.mono ?_; rintro e w1 ⟨rfl, rfl⟩)
      | (go_at_call 116; refine HAS.mono ?_; rintro e w1 ⟨rfl, rfl⟩))
    go_ret
    exact ⟨rfl, rfl⟩
theorem set_none (q b p : Int) (w : World) : Calls Tryz.prog 98 #[.pointer none, .int .i64 q, .int .i64 b, .int .i64 p] w fun e w' => e = .returned (.int .i64 1) ∧ w = w' := by
  go_enter Tryz.func98, Tryz.ntmps98
  go_wp2
  go_ret
  exact ⟨rfl, rfl⟩
theorem set_twice (h : TabA w t B P rs) (q : Int) (b p : Int) (h1 : (decide (0 ≤ q) && decide (q < 64)) = true) (h2 : hasN B P b p = true) (x : Int) (hx : placeN rs b p = x) (hx1 : x ≠ -1) (hx2 : x ≠ q) :
    Calls Tryz.prog 98 #[.pointer (some ⟨t, 0, none⟩), .int .i64 q, .int .i64 b, .int .i64 p] w fun e w' => e = .returned (.int .i64 7) ∧ w = w' := by
  have IS := isPlace_is q w
  have PL := tabPlace h b p
  obtain ⟨R, W, S, hT, hI⟩ := h
  have HAS := hasT_is hT b p
  rw [h1] at IS
  rw [h2] at HAS
  rw [hx] at PL
  have b1 : (x != -1) = true := by simpa using hx1
  have b2 : (x != q) = true := by simpa using hx2
  clear hT hI h1 h2 hx hx1 hx2
  go_enter Tryz.func98, Tryz.ntmps98
  go_wp2_with (first
    | (go_at_call 77; refine IS.mono ?_; rintro e w1 ⟨rfl, rfl⟩)
    | (go_at_call 116; refine HAS.mono ?_; rintro e w1 ⟨rfl, rfl⟩)
    | (go_at_call 127; refine PL.mono ?_; rintro e w1 ⟨rfl, rfl⟩))
  go_ret
  exact ⟨rfl, rfl⟩

/-- Behind the clearing: the page is given. -/
def SetOk (w : World) (t : Nat) (rs : List R14) (q b p : Nat) (B P : Nat) (w' : World) : Prop := TabA w' t B P (clearN rs q ++ [⟨q, b, p⟩]) ∧ w.grownBy w' (some t)

set_option maxHeartbeats 1600000 in
theorem set_ok (h : TabA w t B P rs) (q b p : Nat) (hl : rs.length ≤ 1000000) (hq : q < 64) (hb : b < B) (hp : p < P) (x : Int) (hx : placeN rs b p = x) (hx1 : x = -1 ∨ x = q) :
    Calls Tryz.prog 98 #[.pointer (some ⟨t, 0, none⟩), .int .i64 q, .int .i64 b, .int .i64 p] w fun e w' => e = .returned (.int .i64 0) ∧ SetOk w t rs q b p B P w' := by
  have IS := isPlace_is q w
  have PL := tabPlace h b p
  have CL := tabClear h q hl
  have hbl := h.bl
  have hb64 : b < 64 := by omega
  obtain ⟨R, W, S, hT, hI⟩ := h
  have hp16 : p < 16 := by have := hT.pl; omega
  have HAS := hasT_is hT b p
  rw [show (decide (0 ≤ (q : Int)) && decide ((q : Int) < 64)) = true by simp; omega] at IS
  rw [show hasN B P (b : Int) (p : Int) = true by unfold hasN; simp; omega] at HAS
  rw [hx] at PL
  -- whose the page is, if not this place's
  have hfree : ∀ s ∈ clearN rs q, ¬ (s.bk = b ∧ s.pg = p) := fun s hs he => by
    obtain ⟨h1, h2⟩ := mem_clear.1 hs
    have h3 := placeN_some hI.pgs h1
    rw [he.1, he.2, hx] at h3
    have := hI.ok s h1
    omega
  have HF := Lib.hid hfree
  have HX := Lib.hid hx1
  obtain ⟨g0, hg0⟩ : ∃ z, decide ((clearN rs q).length < rs.length) = z := ⟨_, rfl⟩
  rw [hg0] at CL
  have hxc : ((x != -1) && (x != (q : Int))) = false := by
    rcases hx1 with rfl | rfl
    · rfl
    · simp
  obtain ⟨x1, hx1'⟩ : ∃ z, (x != -1) = z := ⟨_, rfl⟩
  obtain ⟨x2, hx2'⟩ : ∃ z, (x != (q : Int)) = z := ⟨_, rfl⟩
  rw [hx1', hx2'] at hxc
  clear hx hx1 hT hI hfree hg0
  have hcase : x1 = false ∨ (x1 = true ∧ x2 = false) := by cases x1 <;> simp_all
  clear hxc
  go_enter Tryz.func98, Tryz.ntmps98
  rcases hcase with rfl | ⟨rfl, rfl⟩
  all_goals
    go_wp2_with (first
      | (go_at_call 77; refine IS.mono ?_; rintro e w1 ⟨rfl, rfl⟩)
      | (go_at_call 116; refine HAS.mono ?_; rintro e w1 ⟨rfl, rfl⟩)
      | (go_at_call 127; refine PL.mono ?_; rintro e w1 ⟨rfl, rfl⟩)
      | (go_at_call 128; refine CL.mono ?_; rintro e w1 ⟨rfl, hA1, hg1⟩; obtain ⟨R, W, S, hT, hI⟩ := hA1; have HT1 := Lib.hid hT; have HI1 := Lib.hid hI; have HG1 := Lib.hid hg1; have c2 := hT.row hb64 hp16; have f2 := hT.free (2 + b * 16 + p); clear hT hI hg1))
    have HT2 := Lib.hid ((HT1.out.setRow hb64 hp16 q).ext (Ext.drew _))
    have HG2 := Lib.hid (show w.grownBy (w1.setCell ⟨t, 2 + b * 16 + p, none⟩ (.int .i64 q)).drew (some t) from drew_any14 (set_chain14 HG1.out (g14_set1 w1 t _ _)))
    obtain ⟨w2, hw2⟩ : ∃ v, (w1.setCell ⟨t, 2 + b * 16 + p, none⟩ (.int .i64 q)).drew = v := ⟨_, rfl⟩
    clear c2 f2 IS HAS PL CL HT1 HG1
    refine region_line [(0, true), (1, true), (2, true), (3, true), (4, true), (7, true), (8, true), (5, false), (6, true), (9, true), (10, false)] (fun _ => True) (by kernel_rfl) (by kernel_rfl) (fun _ _ _ d _ h => by cases d <;> exact h) trivial ?_
    rw [hw2] at HT2 HG2 ⊢
    clear hw2
    iterate 7 (refine line_read (a' := ?_) rfl (by kernel_rfl) (by kernel_rfl) trivial (fun x0 hx K hK => ?_) ?_; rotate_left; · (go_wp2; exact hK))
    refine line_act (by rfl) (fun K hK => ?_)
    obtain ⟨y, hy⟩ : ∃ y : Nat, W b = (y : Int) := ⟨_, HI1.out.wor b hb64⟩
    have hyl : y ≤ 1000000 := by
      have h1 := HI1.out.wor b hb64
      have h2 : worthN (clearN rs q) b ≤ (clearN rs q).length := List.length_filter_le _ _
      have h3 : (clearN rs q).length ≤ rs.length := List.length_filter_le _ _
      omega
    have HY := Lib.hid hy
    have c3 := HT2.out.wor hb64
    rw [hy] at c3
    clear hy
    go_wp2
    refine hK _ _ (fun _ => True) trivial (fun x hx => hx) ?_
    clear hK K c3
    iterate 2 (refine line_read (a' := ?_) rfl (by kernel_rfl) (by kernel_rfl) trivial (fun x0 hx K hK => ?_) ?_; rotate_left; · (go_wp2; exact hK))
    refine line_act (by rfl) (fun K hK => ?_)
    have c3 := HT2.out.wor hb64
    have f3 := HT2.out.free (1026 + b)
    go_wp2
    refine hK _ _ (fun _ => True) trivial (fun x hx => hx) ?_
    clear hK K c3 f3
    refine line_end ?_
    have HT3 := HT2.out.setWor hb64 ((y + 1 : Nat) : Int)
    have HG3 := Lib.hid (set_chain14 HG2.out (g14_set1 w2 t (1026 + b) (.int .i64 ((y + 1 : Nat) : Int))))
    clear HT2 HG2
    rw [show ((y + 1 : Nat) : Int) = (y : Int) + 1 by omega] at HT3 HG3
    go_wp2_with (refine tab_store (s := (true, (b : Int), (p : Int))) _ _ rfl hq rfl rfl HT3 rfl ?_; intro w6 ht6 hg6)
    go_ret
    refine ⟨rfl, ⟨_, _, _, ht6, ?_⟩, set_chain14 HG3.out hg6⟩
    have hI := HI1.out.put (q := q) hq hb hp (fun s hs => (mem_clear.1 hs).2) HF.out HY.out
    rw [show ((y + 1 : Nat) : Int) = (y : Int) + 1 by omega] at hI
    exact hI
end

end Go.Proofs.YtfibpgfjlmlpaaaGreatDoor
