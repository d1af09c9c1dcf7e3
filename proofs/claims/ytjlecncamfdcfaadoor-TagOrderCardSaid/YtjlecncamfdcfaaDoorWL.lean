/-
  word.Read; the laws' fixed facts.
-/
import Derived.Test.YtjlecncamfdcfaaDoorWK
namespace Go.Proofs.YtjlecncamfdcfaaDoor
open Go.RowKit

/-- What Read left: a reader in a new block br; its bytes lie in block c. -/
def ReadPost (w : World) (xs : List Int) (e : Ending) (w' : World) : Prop :=
  ∃ br c, e = .returned (.pointer (some ⟨br, 0, none⟩)) ∧ RdIs 60 w' br c xs 0 ∧ w.grownBy w' none ∧ w.heap.size ≤ br ∧ br < w'.heap.size ∧ c < w'.heap.size

theorem Owns.bts {w : World} {B : Nat} {v : Value} {xs : List Int} {n : Nat} (hn : n = xs.length) (h : w.ownsRow B 5 1 v n (xs.map (Value.int .u8))) : Bts w v xs := by
  subst hn
  obtain ⟨h1, h2⟩ := h
  rcases h2 with ⟨h2, h3⟩ | ⟨g, cap, cur, rfl, hg, hh, hc, _, hs, ht⟩
  · exact .inl ⟨h2, List.eq_nil_of_length_eq_zero h3⟩
  · refine .inr ⟨g, 0, cap, rfl, hc, fun i hi => ?_⟩
    have : (⟨g, 0 + i, none⟩ : Addr) = ⟨g, i, none⟩ := by rw [Nat.zero_add]
    rw [this, cell_of_row w g i cur 5 (0, 0) hh]
    have hi' : (cur.toList.take (xs.length * 1))[i]? = (xs.map (Value.int .u8))[i]? := by rw [ht]
    rw [List.getElem?_take, if_pos (by omega)] at hi'
    rw [Array.getElem?_toList] at hi'
    rw [hi']
    simp [List.getD_eq_getElem?_getD, hi]

theorem owns_shape {w : World} {B : Nat} {v : Value} {n : Nat} {xs : List Value} {T : TypeId} (h : w.ownsRow B T 1 v n xs) : ∃ ao cap, v = .slice ao n cap := by
  rcases h.2 with ⟨h2, h3⟩ | ⟨g, cap, cur, rfl, _⟩
  · subst h3; exact ⟨none, 0, h2⟩
  · exact ⟨_, _, rfl⟩

set_option maxRecDepth 100000 in
set_option maxHeartbeats 400000 in
theorem read_any (v0 : Value) (xs : List Int) (w : World) (hb : Bts w v0 xs) (hm : xs.length ≤ 140737488351232) (h0 : 0 < w.heap.size) :
    Calls Tryd.prog 21 #[v0] w (ReadPost w xs) := by
  rcases hb with ⟨rfl, rfl⟩ | ⟨b, off, cap, rfl, h2, h3⟩
  · go_enter Tryd.func21, Tryd.ntmps21
    go_wp2_with (first | (go_at_call 32; refine (clone_nil _).mono ?_; rintro e w' ⟨rfl, rfl⟩))
    go_ret
    exact ⟨w.heap.size, 0, rfl, ⟨_, heap_alloc_new w _, .inl ⟨rfl, rfl⟩, by simp [Value.ownBlock], by omega⟩, World.grownBy_alloc _ _ none, Nat.le_refl _, by simp, by simp⟩
  · go_enter Tryd.func21, Tryd.ntmps21
    go_wp2_with (first | (go_at_call 32; refine (clone_some b off cap xs _ h3 (by omega)).mono ?_; rintro e w1 ⟨v', rfl, hown, hgr⟩; obtain ⟨ao, cp, rfl⟩ := owns_shape hown))
    go_ret
    have hv := Owns.bts rfl hown
    have hlt := hown.lt
    have hs := hgr.size
    have hga := World.grownBy_alloc w1 (.cells #[.slice ao xs.length cp, .int .i64 0] 60) none
    cases hao : (Value.slice ao xs.length cp).ownBlock with
    | none => exact ⟨w1.heap.size, 0, rfl, ⟨_, heap_alloc_new w1 _, hv.kept hga (fun k hk e => by cases e), by rw [hao]; simp, by omega⟩, grown_trans hgr hga (fun k hk => by cases hk), hs, by simp, by simp⟩
    | some c =>
      have hc := hlt c hao
      exact ⟨w1.heap.size, c, rfl, ⟨_, heap_alloc_new w1 _, hv.kept hga (fun k hk e => by cases e), by rw [hao]; simp, by omega⟩, grown_trans hgr hga (fun k hk => by cases hk), hs, by simp, by simp; omega⟩

end Go.Proofs.YtjlecncamfdcfaaDoor
