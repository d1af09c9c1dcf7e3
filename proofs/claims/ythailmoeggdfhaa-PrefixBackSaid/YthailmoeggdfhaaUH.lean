/-
  Layer 24: from the slices that came in to rows of texts and of changes.
-/
import Derived.Test.YthailmoeggdfhaaUG
namespace Go.Proofs.Ythailmoeggdfhaa
set_option linter.unusedVariables false
set_option linter.unusedSimpArgs false
set_option maxRecDepth 100000
open Go.RowKit

theorem txR_of {w : World} {a : Option Addr} {len cap : Nat} {z : List ByteArray} (h : IsStrs w a len cap z) (hs : ∀ x, a = some x → x.spot = none) : TxR w a (z.take len) ∧ (z.take len).length = len ∧ Sl a len cap := by
  rcases h with ⟨rfl, rfl, rfl, rfl⟩ | ⟨x, rfl, hl, hm, hz, hc, hw⟩
  · exact ⟨fun i hi => by simp at hi, rfl, ⟨fun _ => ⟨rfl, rfl⟩, fun z hz => by (cases hz), Nat.le_refl _, by decide⟩⟩
  · unfold maxLen at hm
    have hlen : (z.take len).length = len := by simp; omega
    have hsp := hs x rfl
    obtain ⟨b, off, sp⟩ := x
    simp only at hsp
    subst hsp
    refine ⟨fun i hi => ⟨b, off, rfl, ?_⟩, hlen, ⟨fun h => by (cases h), hs, hl, by omega⟩⟩
    rw [hlen] at hi
    have h1 := hc i (by omega)
    rw [addr_add] at h1
    rw [h1, List.getD_eq_getElem?_getD, List.getD_eq_getElem?_getD, List.getElem?_take, if_pos hi]
theorem list_of24 {α : Type} (P : Nat → α → Prop) (d : α) : ∀ n, (∀ i, i < n → ∃ y, P i y) → ∃ X : List α, X.length = n ∧ ∀ i, i < n → P i (X.getD i d) := by
  intro n
  induction n with
  | zero => exact fun _ => ⟨[], rfl, fun i hi => by omega⟩
  | succ n ih =>
    intro h
    obtain ⟨X, h1, h2⟩ := ih fun i hi => h i (by omega)
    obtain ⟨y, hy⟩ := h n (by omega)
    refine ⟨X ++ [y], by simp [h1], fun i hi => ?_⟩
    by_cases e : i < n
    · rw [List.getD_eq_getElem?_getD, List.getElem?_append_left (by omega), ← List.getD_eq_getElem?_getD]
      exact h2 i e
    · obtain rfl : i = n := by omega
      rw [List.getD_eq_getElem?_getD, List.getElem?_append_right (by omega), h1, Nat.sub_self]
      exact hy
theorem chT_of {w : World} {a : Option Addr} {len cap : Nat} (h : IsRecX [.int .i64, .str] w a len cap) (hs : ∀ x, a = some x → x.spot = none) : ∃ X : List (Int × ByteArray), X.length = len ∧ ChT w a X ∧ Sl a len cap := by
  rcases h with ⟨rfl, rfl, rfl⟩ | ⟨x, rfl, hl, hm, hc⟩
  · exact ⟨[], rfl, fun i hi => by simp at hi, ⟨fun _ => ⟨rfl, rfl⟩, fun z hz => by (cases hz), Nat.le_refl _, by decide⟩⟩
  · unfold maxLen at hm
    have hsp := hs x rfl
    obtain ⟨b, off, sp⟩ := x
    simp only at hsp
    subst hsp
    obtain ⟨X, h1, h2⟩ := list_of24 (fun i (y : Int × ByteArray) => w.rangeAt b (off + i * 2) (ch24C y).toList) (0, ByteArray.empty) len (fun i hi => by
      obtain ⟨v0, c0, n, rfl, _⟩ := hc i hi 0 (.int .i64) rfl
      obtain ⟨v1, c1, s, rfl, _⟩ := hc i hi 1 .str rfl
      refine ⟨(n, s), fun j u hj => ?_⟩
      rw [addr_add] at c0 c1
      match j, hj with
      | 0, hj => cases hj; exact c0
      | 1, hj => cases hj; rw [Nat.add_assoc]; exact c1
      | j + 2, hj => simp [ch24C] at hj)
    exact ⟨X, h1, fun i hi => ⟨b, off, rfl, h2 i (by omega)⟩, ⟨fun h => by (cases h), hs, hl, by omega⟩⟩

end Go.Proofs.Ythailmoeggdfhaa
