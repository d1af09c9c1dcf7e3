/-
  Package draws: slices of ints; Contains, ContainsFunc, Clone.
-/
import Derived.Test.YthailmoeggdfhaaBY
import Derived.Test.YthailmoeggdfhaaLine
import Derived.Below
import Derived.Laws.LoneSync
namespace Go.Proofs.Ythailmoeggdfhaa
set_option linter.unusedVariables false
set_option linter.unusedSimpArgs false
set_option maxRecDepth 100000
open Go.RowKit

/-- The slice value v reads as the ints xs: nil; its cells; or none of them, at whatever address. -/
def Ints (w : World) (v : Value) (xs : List Int) : Prop :=
  (v = .slice none 0 0 ∧ xs = []) ∨ (∃ b off cap, v = .slice (some ⟨b, off, none⟩) xs.length cap ∧ xs.length ≤ cap ∧ ∀ i, i < xs.length → w.cell? ⟨b, off + i, none⟩ = some (.int .i64 (xs.getD i 0))) ∨
    ∃ a cap, v = .slice (some a) 0 cap ∧ xs = []
theorem Ints.cells {w : World} {xs : List Int} {b off cap : Nat} (hc : xs.length ≤ cap) (h : ∀ i, i < xs.length → w.cell? ⟨b, off + i, none⟩ = some (.int .i64 (xs.getD i 0))) : Ints w (.slice (some ⟨b, off, none⟩) xs.length cap) xs := .inr (.inl ⟨b, off, cap, rfl, hc, h⟩)

theorem Ints.form {w : World} {v : Value} {xs : List Int} (h : Ints w v xs) : ∃ ao cap b off, v = .slice ao xs.length cap ∧ ∀ k, k < xs.length → ao = some ⟨b, off, none⟩ ∧ w.cell? ⟨b, off + k, none⟩ = some (.int .i64 (xs.getD k 0)) := by
  rcases h with ⟨rfl, rfl⟩ | ⟨b, off, cap, rfl, _, hc⟩ | ⟨a, cap, rfl, rfl⟩
  · exact ⟨none, 0, 0, 0, rfl, fun k hk => by simp at hk⟩
  · exact ⟨_, cap, b, off, rfl, fun k hk => ⟨rfl, hc k hk⟩⟩
  · exact ⟨_, cap, 0, 0, rfl, fun k hk => by simp at hk⟩
/-- nil, or cells at some address. -/
theorem Ints.two {w : World} {v : Value} {xs : List Int} (h : Ints w v xs) : (v = .slice none 0 0 ∧ xs = []) ∨ ∃ a cap, v = .slice (some a) xs.length cap ∧ xs.length ≤ cap ∧ ∀ i, i < xs.length → w.cell? (a.add i) = some (.int .i64 (xs.getD i 0)) := by
  rcases h with h | ⟨b, off, cap, rfl, h2, h3⟩ | ⟨a, cap, rfl, rfl⟩
  · exact .inl h
  · exact .inr ⟨_, cap, rfl, h2, fun i hi => by rw [addr_add]; exact h3 i hi⟩
  · exact .inr ⟨a, cap, rfl, Nat.zero_le _, fun i hi => by simp at hi⟩
theorem Ints.kept {w w' : World} {v : Value} {xs : List Int} {r : Option Nat} (h : Ints w v xs) (hg : w.grownBy w' r) (hne : ∀ k, v.ownBlock = some k → some k ≠ r) : Ints w' v xs := by
  rcases h with h | ⟨b, off, cap, rfl, h2, h3⟩ | h
  · exact .inl h
  · exact .inr (.inl ⟨b, off, cap, rfl, h2, fun i hi => hg.cell (h3 i hi) (hne b rfl)⟩)
  · exact .inr (.inr h)

def lowB (xs : List Int) : Bool := xs.any fun n => decide (n < 1)

theorem Try.infoInt : (Try.prog.info? 3).map (fun i => (i.zero, i.size, i.bytes)) = some (some (.int .i64 0), 1, 8) := by kernel_rfl
theorem Try.eqNilInts (w : World) (a : Option Addr) (n c : Nat) : (binOp .eql 30 (.slice a n c) (.slice none 0 0)).run Try.prog w = .ok (.bool a.isNone) w := Lib.run_eql_slice_nil w 30 3 a n c 0 0 Try.underlying30
attribute [local go_sem] Try.eqNilInts

/-- A copy in new memory. -/
def Cloned (w : World) (xs : List Int) (e : Ending) (w' : World) : Prop := ∃ v', e = .returned v' ∧ Ints w' v' xs ∧ w.grownBy w' none ∧ (∀ k, v'.ownBlock = some k → w.heap.size ≤ k ∧ k < w'.heap.size)

theorem owns_ints {w : World} {B : Nat} {v : Value} {xs : List Int} {n : Nat} (hn : n = xs.length) (h : w.ownsRow B 3 1 v n (xs.map (Value.int .i64))) : Ints w v xs := by
  subst hn
  rcases h.2 with ⟨h2, h3⟩ | ⟨g, cap, cur, rfl, hg, hh, hc, _⟩
  · exact .inl ⟨h2, List.length_eq_zero_iff.1 h3⟩
  · refine .inr (.inl ⟨g, 0, cap, rfl, hc, fun i hi => ?_⟩)
    rw [Nat.zero_add, h.cellAt i (by omega), List.getElem?_map, List.getElem?_eq_getElem hi, List.getD_eq_getElem?_getD, List.getElem?_eq_getElem hi]
    rfl

end Go.Proofs.Ythailmoeggdfhaa
