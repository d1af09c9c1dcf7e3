/-
  Layer 14: the program's table in memory: its cells; has, isPlace, Place, Worth, At.
-/
import Derived.Test.YtdnjpoioojahkaaQF
import Derived.ChangeKeysEq
namespace Go.Proofs.Ytdnjpoioojahkaa
set_option linter.unusedVariables false
set_option linter.unusedSimpArgs false
set_option maxRecDepth 100000
open Go.RowKit

/-- The cells of a table: blocks, pages, whose each page is, worths, places' pages. -/
structure TabC (cs : Array Value) (B P : Nat) (R : Nat → Nat → Int) (W : Nat → Int) (S : Nat → Bool × Int × Int) : Prop where
  size : cs.size = 1282
  b : cs[0]? = some (.int .i64 B)
  p : cs[1]? = some (.int .i64 P)
  row : ∀ b p, b < 64 → p < 16 → cs[2 + b * 16 + p]? = some (.int .i64 (R b p))
  wor : ∀ b, b < 64 → cs[1026 + b]? = some (.int .i64 (W b))
  th : ∀ q, q < 64 → cs[1090 + q * 3]? = some (.bool (S q).1)
  bk : ∀ q, q < 64 → cs[1090 + q * 3 + 1]? = some (.int .i64 (S q).2.1)
  pg : ∀ q, q < 64 → cs[1090 + q * 3 + 2]? = some (.int .i64 (S q).2.2)

def upd2 (R : Nat → Nat → Int) (b p : Nat) (x : Int) : Nat → Nat → Int := fun i j => if i = b ∧ j = p then x else R i j
def upd1 {α : Type} (W : Nat → α) (b : Nat) (x : α) : Nat → α := fun i => if i = b then x else W i

section
variable {cs : Array Value} {B P : Nat} {R : Nat → Nat → Int} {W : Nat → Int} {S : Nat → Bool × Int × Int}
theorem TabC.setRow (h : TabC cs B P R W S) {b p : Nat} (hb : b < 64) (hp : p < 16) (x : Int) : TabC (cs.setIfInBounds (2 + b * 16 + p) (.int .i64 x)) B P (upd2 R b p x) W S where
  size := by rw [Array.size_setIfInBounds]; exact h.size
  b := by rw [Array.getElem?_setIfInBounds_ne (by omega)]; exact h.b
  p := by rw [Array.getElem?_setIfInBounds_ne (by omega)]; exact h.p
  row := fun i j hi hj => by
    unfold upd2
    by_cases e : i = b ∧ j = p
    · obtain ⟨rfl, rfl⟩ := e
      rw [if_pos ⟨rfl, rfl⟩, Array.getElem?_setIfInBounds_self_of_lt (by rw [h.size]; omega)]
    · rw [if_neg e, Array.getElem?_setIfInBounds_ne (by omega)]
      exact h.row i j hi hj
  wor := fun i hi => by rw [Array.getElem?_setIfInBounds_ne (by omega)]; exact h.wor i hi
  th := fun i hi => by rw [Array.getElem?_setIfInBounds_ne (by omega)]; exact h.th i hi
  bk := fun i hi => by rw [Array.getElem?_setIfInBounds_ne (by omega)]; exact h.bk i hi
  pg := fun i hi => by rw [Array.getElem?_setIfInBounds_ne (by omega)]; exact h.pg i hi
theorem TabC.setWor (h : TabC cs B P R W S) {b : Nat} (hb : b < 64) (x : Int) : TabC (cs.setIfInBounds (1026 + b) (.int .i64 x)) B P R (upd1 W b x) S where
  size := by rw [Array.size_setIfInBounds]; exact h.size
  b := by rw [Array.getElem?_setIfInBounds_ne (by omega)]; exact h.b
  p := by rw [Array.getElem?_setIfInBounds_ne (by omega)]; exact h.p
  row := fun i j hi hj => by rw [Array.getElem?_setIfInBounds_ne (by omega)]; exact h.row i j hi hj
  wor := fun i hi => by
    unfold upd1
    by_cases e : i = b
    · subst e
      rw [if_pos rfl, Array.getElem?_setIfInBounds_self_of_lt (by rw [h.size]; omega)]
    · rw [if_neg e, Array.getElem?_setIfInBounds_ne (by omega)]
      exact h.wor i hi
  th := fun i hi => by rw [Array.getElem?_setIfInBounds_ne (by omega)]; exact h.th i hi
  bk := fun i hi => by rw [Array.getElem?_setIfInBounds_ne (by omega)]; exact h.bk i hi
  pg := fun i hi => by rw [Array.getElem?_setIfInBounds_ne (by omega)]; exact h.pg i hi
theorem TabC.setB (h : TabC cs B P R W S) (n : Nat) : TabC (cs.setIfInBounds 0 (.int .i64 n)) n P R W S where
  size := by rw [Array.size_setIfInBounds]; exact h.size
  b := by rw [Array.getElem?_setIfInBounds_self_of_lt (by rw [h.size]; omega)]
  p := by rw [Array.getElem?_setIfInBounds_ne (by omega)]; exact h.p
  row := fun i j hi hj => by rw [Array.getElem?_setIfInBounds_ne (by omega)]; exact h.row i j hi hj
  wor := fun i hi => by rw [Array.getElem?_setIfInBounds_ne (by omega)]; exact h.wor i hi
  th := fun i hi => by rw [Array.getElem?_setIfInBounds_ne (by omega)]; exact h.th i hi
  bk := fun i hi => by rw [Array.getElem?_setIfInBounds_ne (by omega)]; exact h.bk i hi
  pg := fun i hi => by rw [Array.getElem?_setIfInBounds_ne (by omega)]; exact h.pg i hi
def spotC (s : Bool × Int × Int) : Array Value := #[.bool s.1, .int .i64 s.2.1, .int .i64 s.2.2]
theorem TabC.setSpot (h : TabC cs B P R W S) {q : Nat} (hq : q < 64) (s : Bool × Int × Int) : TabC (cs.toList.take (1090 + q * 3) ++ (spotC s).toList ++ cs.toList.drop (1090 + q * 3 + (spotC s).toList.length)).toArray B P R W (upd1 S q s) := by
  have hl : (spotC s).toList.length = 3 := rfl
  have key : ∀ i, (cs.toList.take (1090 + q * 3) ++ (spotC s).toList ++ cs.toList.drop (1090 + q * 3 + (spotC s).toList.length)).toArray[i]? = if 1090 + q * 3 ≤ i ∧ i < 1090 + q * 3 + 3 then (spotC s).toList[i - (1090 + q * 3)]? else cs[i]? := by
    intro i
    have hs := h.size
    have ht : (cs.toList.take (1090 + q * 3)).length = 1090 + q * 3 := by simp; omega
    rw [List.getElem?_toArray, List.append_assoc]
    by_cases h1 : i < 1090 + q * 3
    · rw [List.getElem?_append_left (by omega), if_neg (by omega), List.getElem?_take, if_pos h1, Array.getElem?_toList]
    · rw [List.getElem?_append_right (by omega), ht]
      by_cases h2 : i < 1090 + q * 3 + 3
      · rw [if_pos (by omega), List.getElem?_append_left (by omega)]
      · rw [if_neg (by omega), List.getElem?_append_right (by omega), hl, List.getElem?_drop, Array.getElem?_toList]
        congr 1
        omega
  have hs := h.size
  refine ⟨by simp [spotC, hs]; omega, ?_, ?_, fun i j hi hj => ?_, fun i hi => ?_, fun i hi => ?_, fun i hi => ?_, fun i hi => ?_⟩
  · rw [key, if_neg (by omega)]; exact h.b
  · rw [key, if_neg (by omega)]; exact h.p
  · rw [key, if_neg (by omega)]; exact h.row i j hi hj
  · rw [key, if_neg (by omega)]; exact h.wor i hi
  · rw [key]
    unfold upd1
    by_cases e : i = q
    · subst e
      rw [if_pos rfl, if_pos (by omega), show 1090 + i * 3 - (1090 + i * 3) = 0 by omega]
      rfl
    · rw [if_neg e, if_neg (by omega)]; exact h.th i hi
  · rw [key]
    unfold upd1
    by_cases e : i = q
    · subst e
      rw [if_pos rfl, if_pos (by omega), show 1090 + i * 3 + 1 - (1090 + i * 3) = 1 by omega]
      rfl
    · rw [if_neg e, if_neg (by omega)]; exact h.bk i hi
  · rw [key]
    unfold upd1
    by_cases e : i = q
    · subst e
      rw [if_pos rfl, if_pos (by omega), show 1090 + i * 3 + 2 - (1090 + i * 3) = 2 by omega]
      rfl
    · rw [if_neg e, if_neg (by omega)]; exact h.pg i hi
theorem TabC.spot (h : TabC cs B P R W S) {q : Nat} (hq : q < 64) {s : Bool × Int × Int} (hs : S q = s) : cs.extract (1090 + q * 3) (1090 + q * 3 + 3) = spotC s := by
  subst hs
  have hz := h.size
  refine Array.ext_getElem? fun i => ?_
  rw [Array.getElem?_extract]
  have hm : min (1090 + q * 3 + 3) cs.size = 1090 + q * 3 + 3 := by omega
  rw [hm]
  by_cases hi : i < 3
  · rw [if_pos (by omega)]
    obtain rfl | rfl | rfl : i = 0 ∨ i = 1 ∨ i = 2 := by omega
    · exact h.th q hq
    · exact h.bk q hq
    · exact h.pg q hq
  · rw [if_neg (by omega), Array.getElem?_eq_none (by simp [spotC]; omega)]
end

/-- A table at t. -/
structure TabS (w : World) (t : Nat) (B P : Nat) (R : Nat → Nat → Int) (W : Nat → Int) (S : Nat → Bool × Int × Int) : Prop where
  bl : B ≤ 64
  pl : 2 ≤ P ∧ P ≤ 16
  is : ∃ cs, Blk w t 69 cs ∧ TabC cs B P R W S
section
variable {w w' : World} {t B P : Nat} {R : Nat → Nat → Int} {W : Nat → Int} {S : Nat → Bool × Int × Int}
theorem TabS.lt (h : TabS w t B P R W S) : t < w.heap.size := by obtain ⟨_, h1, _⟩ := h.is; exact h1.lt
theorem TabS.b (h : TabS w t B P R W S) : w.cell? ⟨t, 0, none⟩ = some (.int .i64 B) := by obtain ⟨_, h1, h2⟩ := h.is; exact (h1.cell 0).trans h2.b
theorem TabS.p (h : TabS w t B P R W S) : w.cell? ⟨t, 1, none⟩ = some (.int .i64 P) := by obtain ⟨_, h1, h2⟩ := h.is; exact (h1.cell 1).trans h2.p
theorem TabS.row (h : TabS w t B P R W S) {b p : Nat} (hb : b < 64) (hp : p < 16) : w.cell? ⟨t, 2 + b * 16 + p, none⟩ = some (.int .i64 (R b p)) := by obtain ⟨_, h1, h2⟩ := h.is; exact (h1.cell _).trans (h2.row b p hb hp)
theorem TabS.wor (h : TabS w t B P R W S) {b : Nat} (hb : b < 64) : w.cell? ⟨t, 1026 + b, none⟩ = some (.int .i64 (W b)) := by obtain ⟨_, h1, h2⟩ := h.is; exact (h1.cell _).trans (h2.wor b hb)
theorem TabS.free (h : TabS w t B P R W S) (i : Nat) : w.frozen? ⟨t, i, none⟩ = false := by obtain ⟨_, h1, _⟩ := h.is; exact h1.free i
theorem TabS.kept {r : Option Nat} (h : TabS w t B P R W S) (hg : w.grownBy w' r) (hne : some t ≠ r) : TabS w' t B P R W S := by obtain ⟨cs, h1, h2⟩ := h.is; exact ⟨h.bl, h.pl, cs, h1.kept hg hne, h2⟩
theorem TabS.ext (h : TabS w t B P R W S) (hg : w.grownBy w' none) : TabS w' t B P R W S := h.kept hg (by simp)
theorem TabS.range (h : TabS w t B P R W S) {q : Nat} (hq : q < 64) {s : Bool × Int × Int} (hs : S q = s) : w.rangeAt t (1090 + q * 3) (spotC s).toList := by
  obtain ⟨cs, h1, h2⟩ := h.is
  have := h1.range14 (1090 + q * 3) 3 (by rw [h2.spot hq hs]; rfl)
  rw [h2.spot hq hs] at this
  exact this
theorem TabS.setRow (h : TabS w t B P R W S) {b p : Nat} (hb : b < 64) (hp : p < 16) (x : Int) : TabS (w.setCell ⟨t, 2 + b * 16 + p, none⟩ (.int .i64 x)) t B P (upd2 R b p x) W S := by
  obtain ⟨cs, h1, h2⟩ := h.is
  exact ⟨h.bl, h.pl, _, h1.set _ _, h2.setRow hb hp x⟩
theorem TabS.setWor (h : TabS w t B P R W S) {b : Nat} (hb : b < 64) (x : Int) : TabS (w.setCell ⟨t, 1026 + b, none⟩ (.int .i64 x)) t B P R (upd1 W b x) S := by
  obtain ⟨cs, h1, h2⟩ := h.is
  exact ⟨h.bl, h.pl, _, h1.set _ _, h2.setWor hb x⟩
theorem TabS.setB (h : TabS w t B P R W S) {n : Nat} (hn : n ≤ 64) : TabS (w.setCell ⟨t, 0, none⟩ (.int .i64 n)) t n P R W S := by
  obtain ⟨cs, h1, h2⟩ := h.is
  exact ⟨hn, h.pl, _, h1.set _ _, h2.setB n⟩

theorem isPlace_is (q : Int) (w : World) : Calls Try.prog 33 #[.int .i64 q] w fun e w' => e = .returned (.bool (decide (0 ≤ q) && decide (q < 64))) ∧ w = w' := by
  by_cases h : 0 ≤ q
  · have hb : decide (0 ≤ q) = true := by simpa using h
    rw [hb]
    go_enter Try.func33, Try.ntmps33
    go_wp2
    go_ret
    exact ⟨by simp, rfl⟩
  · have hb : decide (0 ≤ q) = false := by simpa using h
    rw [hb]
    go_enter Try.func33, Try.ntmps33
    go_wp2
    go_ret
    exact ⟨by simp, rfl⟩
/-- Whether there is such a page. -/
def hasN (B P : Nat) (b p : Int) : Bool := decide (0 ≤ b) && decide (b < B) && decide (0 ≤ p) && decide (p < P)
theorem hasN_true {B P : Nat} {b p : Int} (h : hasN B P b p = true) : 0 ≤ b ∧ b < B ∧ 0 ≤ p ∧ p < P := by
  unfold hasN at h
  simp at h
  omega
theorem has_is (h : TabS w t B P R W S) (b p : Int) : Calls Try.prog 34 #[.pointer (some ⟨t, 0, none⟩), .int .i64 b, .int .i64 p] w fun e w' => e = .returned (.bool (hasN B P b p)) ∧ w = w' := by
  have c0 := h.b
  have c1 := h.p
  clear h
  unfold hasN
  by_cases h1 : 0 ≤ b
  · have hb1 : decide (0 ≤ b) = true := by simpa using h1
    rw [hb1]
    by_cases h2 : b < B
    · have hb2 : decide (b < B) = true := by simpa using h2
      rw [hb2]
      by_cases h3 : 0 ≤ p
      · have hb3 : decide (0 ≤ p) = true := by simpa using h3
        rw [hb3]
        go_enter Try.func34, Try.ntmps34
        go_wp2
        go_ret
        exact ⟨by simp, rfl⟩
      · have hb3 : decide (0 ≤ p) = false := by simpa using h3
        rw [hb3]
        go_enter Try.func34, Try.ntmps34
        go_wp2
        go_ret
        exact ⟨by simp, rfl⟩
    · have hb2 : decide (b < B) = false := by simpa using h2
      rw [hb2]
      go_enter Try.func34, Try.ntmps34
      go_wp2
      go_ret
      exact ⟨by simp, rfl⟩
  · have hb1 : decide (0 ≤ b) = false := by simpa using h1
    rw [hb1]
    go_enter Try.func34, Try.ntmps34
    go_wp2
    go_ret
    exact ⟨by simp, rfl⟩
theorem has_none (b p : Int) (w : World) : Calls Try.prog 34 #[.pointer none, .int .i64 b, .int .i64 p] w fun e w' => e = .returned (.bool false) ∧ w = w' := by
  go_enter Try.func34, Try.ntmps34
  go_wp2
  go_ret
  exact ⟨rfl, rfl⟩
theorem place_no (h : TabS w t B P R W S) (b p : Int) (hn : hasN B P b p = false) : Calls Try.prog 22 #[.pointer (some ⟨t, 0, none⟩), .int .i64 b, .int .i64 p] w fun e w' => e = .returned (.int .i64 (-1)) ∧ w = w' := by
  have HAS := has_is h b p
  rw [hn] at HAS
  clear h hn
  go_enter Try.func22, Try.ntmps22
  go_wp2_with (go_at_call 34; refine HAS.mono ?_; rintro e w1 ⟨rfl, rfl⟩)
  go_ret
  exact ⟨rfl, rfl⟩
theorem place_yes (h : TabS w t B P R W S) (b p : Nat) (hb : b < B) (hp : p < P) : Calls Try.prog 22 #[.pointer (some ⟨t, 0, none⟩), .int .i64 b, .int .i64 p] w fun e w' => e = .returned (.int .i64 (R b p)) ∧ w = w' := by
  have HAS := has_is h b p
  have hh : hasN B P b p = true := by unfold hasN; simp; omega
  have hb2 : b < 64 := by have := h.bl; omega
  have hp2 : p < 16 := by have := h.pl.2; omega
  have c2 := h.row hb2 hp2
  rw [hh] at HAS
  clear h hh
  go_enter Try.func22, Try.ntmps22
  go_wp2_with (go_at_call 34; refine HAS.mono ?_; rintro e w1 ⟨rfl, rfl⟩)
  go_ret
  exact ⟨rfl, rfl⟩
theorem worth_no (h : TabS w t B P R W S) (b : Int) (hn : hasN B P b 0 = false) : Calls Try.prog 23 #[.pointer (some ⟨t, 0, none⟩), .int .i64 b] w fun e w' => e = .returned (.int .i64 0) ∧ w = w' := by
  have HAS := has_is h b 0
  rw [hn] at HAS
  clear h hn
  go_enter Try.func23, Try.ntmps23
  go_wp2_with (go_at_call 34; refine HAS.mono ?_; rintro e w1 ⟨rfl, rfl⟩)
  go_ret
  exact ⟨rfl, rfl⟩
theorem worth_yes (h : TabS w t B P R W S) (b : Nat) (hb : b < B) : Calls Try.prog 23 #[.pointer (some ⟨t, 0, none⟩), .int .i64 b] w fun e w' => e = .returned (.int .i64 (W b)) ∧ w = w' := by
  have HAS := has_is h b 0
  have hh : hasN B P b 0 = true := by unfold hasN; have := h.pl; simp; omega
  have hb2 : b < 64 := by have := h.bl; omega
  have c2 := h.wor hb2
  rw [hh] at HAS
  clear h hh
  go_enter Try.func23, Try.ntmps23
  go_wp2_with (go_at_call 34; refine HAS.mono ?_; rintro e w1 ⟨rfl, rfl⟩)
  go_ret
  exact ⟨rfl, rfl⟩
end

end Go.Proofs.Ytdnjpoioojahkaa
