/-
  The document's Swap.
-/
import Derived.Test.YtkcdddpbmbhelaaEL
namespace Go.Proofs.Ytkcdddpbmbhelaa
open Go.RowKit

theorem ints_at {w : World} {a : Option Addr} {c : Nat} {xs : List Int} (h : Ints w (.slice a xs.length c) xs) {i : Nat} (hi : i < xs.length) : ∃ b off, a = some ⟨b, off, none⟩ ∧ w.cell? ⟨b, off + i, none⟩ = some (.int .i64 (xs.getD i 0)) := by
  rcases h with ⟨h1, h2⟩ | ⟨b, off, cap, h1, _, h3⟩
  · rw [h2] at hi; simp at hi
  · simp at h1
    exact ⟨b, off, h1.1, h3 i hi⟩

end Go.Proofs.Ytkcdddpbmbhelaa
