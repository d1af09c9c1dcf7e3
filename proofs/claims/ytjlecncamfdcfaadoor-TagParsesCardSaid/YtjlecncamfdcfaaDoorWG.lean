/-
  Readers: how one stands in memory (RdIs); stopped, take, Left, Done.
-/
import Derived.Test.YtjlecncamfdcfaaDoorWF
namespace Go.Proofs.YtjlecncamfdcfaaDoor
open Go.RowKit

/-- Block br is a reader whose bytes left are xs (they lie in block c, if anywhere), whose error is e. -/
def RdIs (T : TypeId) (w : World) (br c : Nat) (xs : List Int) (e : Int) : Prop :=
  ∃ v, w.heap[br]? = some (.cells #[v, .int .i64 e] T (0, 0)) ∧ Bts w v xs ∧ (∀ k, v.ownBlock = some k → k = c) ∧ c ≠ br

theorem two_cell0 {w : World} {b : Nat} {x y : Value} {T : TypeId} (h : w.heap[b]? = some (.cells #[x, y] T (0, 0))) : w.cell? ⟨b, 0, none⟩ = some x := by simp [World.cell?, h]
theorem two_cell1 {w : World} {b : Nat} {x y : Value} {T : TypeId} (h : w.heap[b]? = some (.cells #[x, y] T (0, 0))) : w.cell? ⟨b, 1, none⟩ = some y := by simp [World.cell?, h]
theorem two_free {w : World} {b o : Nat} {x y : Value} {T : TypeId} (h : w.heap[b]? = some (.cells #[x, y] T (0, 0))) : w.frozen? ⟨b, o, none⟩ = false := by simp [World.frozen?, h]
theorem two_set0 {w : World} {b : Nat} {x y u : Value} {T : TypeId} (h : w.heap[b]? = some (.cells #[x, y] T (0, 0))) : (w.setCell ⟨b, 0, none⟩ u).heap[b]? = some (.cells #[u, y] T (0, 0)) := by
  simp [World.setCell, Array.getElem?_modify, h]
theorem two_set1 {w : World} {b : Nat} {x y u : Value} {T : TypeId} (h : w.heap[b]? = some (.cells #[x, y] T (0, 0))) : (w.setCell ⟨b, 1, none⟩ u).heap[b]? = some (.cells #[x, u] T (0, 0)) := by
  simp [World.setCell, Array.getElem?_modify, h]
theorem grown_set (w : World) (a : Addr) (u : Value) : w.grownBy (w.setCell a u) (some a.block) :=
  ⟨rfl, rfl, rfl, by simp [World.setCell], fun k _ hk => Below.heap_setCell _ _ _ _ (fun e => hk (by rw [e]))⟩

theorem Bts.kept {w w' : World} {v : Value} {xs : List Int} {r : Option Nat} (h : Bts w v xs) (hg : w.grownBy w' r) (hne : ∀ k, v.ownBlock = some k → some k ≠ r) : Bts w' v xs := by
  rcases h with h | ⟨b, off, cap, rfl, h2, h3⟩
  · exact .inl h
  · exact .inr ⟨b, off, cap, rfl, h2, fun i hi => hg.cell (h3 i hi) (hne b rfl)⟩

theorem RdIs.kept {T : TypeId} {w w' : World} {br c : Nat} {xs : List Int} {e : Int} {r : Option Nat} (h : RdIs T w br c xs e) (hg : w.grownBy w' r) (h1 : some br ≠ r) (h2 : some c ≠ r) : RdIs T w' br c xs e := by
  obtain ⟨v, hb, hv, hc, hne⟩ := h
  exact ⟨v, (hg.block br (Array.getElem?_eq_some_iff.1 hb).1 h1).trans hb, hv.kept hg (fun k hk => by rw [hc k hk]; exact h2), hc, hne⟩

set_option maxHeartbeats 400000 in
theorem stopped_nil (w : World) : Calls Tryd.prog 37 #[.pointer none] w fun e w' => e = .returned (.bool true) ∧ w = w' := by
  go_enter Tryd.func37, Tryd.ntmps37
  go_wp2
  go_ret
  exact ⟨rfl, rfl⟩

set_option maxHeartbeats 400000 in
theorem stopped_any (br : Nat) (v : Value) (e : Int) (w : World) (hr : w.heap[br]? = some (.cells #[v, .int .i64 e] 60 (0, 0))) :
    Calls Tryd.prog 37 #[.pointer (some ⟨br, 0, none⟩)] w fun e' w' => e' = .returned (.bool (e != 0)) ∧ w = w' := by
  have h1 := two_cell1 hr
  go_enter Tryd.func37, Tryd.ntmps37
  go_wp2
  go_ret
  exact ⟨rfl, rfl⟩

theorem Bts.take {w : World} {b off cap n : Nat} {xs : List Int} (_h2 : xs.length ≤ cap) (h3 : ∀ i, i < xs.length → w.cell? ⟨b, off + i, none⟩ = some (.int .u8 (xs.getD i 0))) (hn : n ≤ xs.length) : Bts w (.slice (some ⟨b, off, none⟩) n n) (xs.take n) := by
  refine .inr ⟨b, off, n, by simp [Nat.min_eq_left hn], by simp; omega, fun i hi => ?_⟩
  have hi' : i < min n xs.length := by simpa using hi
  have hi2 : i < n := by omega
  rw [h3 i (by omega)]
  simp [hi2]

theorem Bts.drop {w : World} {b off cap n : Nat} {xs : List Int} (h2 : xs.length ≤ cap) (h3 : ∀ i, i < xs.length → w.cell? ⟨b, off + i, none⟩ = some (.int .u8 (xs.getD i 0))) (hn : n ≤ xs.length) : Bts w (.slice (some ⟨b, off + n, none⟩) (xs.length - n) (cap - n)) (xs.drop n) := by
  refine .inr ⟨b, off + n, cap - n, by simp, by simp; omega, fun i hi => ?_⟩
  simp at hi
  have := h3 (n + i) (by omega)
  rw [← Nat.add_assoc] at this
  rw [this]
  simp [List.getElem?_drop]

theorem Bts.empty {w : World} {b off n : Nat} {xs : List Int} (hn : xs.length ≤ n) : Bts w (.slice (some ⟨b, off, none⟩) 0 0) (xs.drop n) := by
  rw [List.drop_eq_nil_of_le hn]
  exact .inr ⟨b, off, 0, rfl, Nat.le_refl _, fun i hi => by simp at hi⟩

/-- What a reading of bytes left behind. -/
def Took (w : World) (br c : Nat) (xs : List Int) (n : Nat) (e : Ending) (w' : World) : Prop :=
  ∃ t, e = .returned t ∧ Bts w' t (xs.take n) ∧ (∀ k, t.ownBlock = some k → k = c) ∧ RdIs 60 w' br c (xs.drop n) 0 ∧ w.grownBy w' (some br)

set_option maxHeartbeats 400000 in
theorem take_short (br : Nat) (v : Value) (xs : List Int) (n : Nat) (w : World) (hr : w.heap[br]? = some (.cells #[v, .int .i64 0] 60 (0, 0))) (hv : Bts w v xs) (hn : xs.length < n) (hn9 : n ≤ 65535) :
    Calls Tryd.prog 39 #[.pointer (some ⟨br, 0, none⟩), .int .i64 n] w fun e' w' => e' = .returned (.slice none 0 0) ∧ w.setCell ⟨br, 1, none⟩ (.int .i64 2) = w' := by
  have h0 := two_cell0 hr
  have h1 := two_cell1 hr
  have hf := fun o => two_free (o := o) hr
  rcases hv with ⟨rfl, hx⟩ | ⟨b, off, cap, rfl, h2, h3⟩
  · have hx0 : 0 < n := by omega
    clear hx
    go_enter Tryd.func39, Tryd.ntmps39
    go_wp2
    go_ret
    exact ⟨rfl, rfl⟩
  · go_enter Tryd.func39, Tryd.ntmps39
    go_wp2
    go_ret
    exact ⟨rfl, rfl⟩

set_option maxHeartbeats 400000 in
theorem take_long (br c : Nat) (v : Value) (xs : List Int) (n : Nat) (w : World) (hr : w.heap[br]? = some (.cells #[v, .int .i64 0] 60 (0, 0))) (hv : Bts w v xs) (hc : ∀ k, v.ownBlock = some k → k = c) (hne : c ≠ br) (hn : n ≤ xs.length) (hn9 : n ≤ 65535) :
    Calls Tryd.prog 39 #[.pointer (some ⟨br, 0, none⟩), .int .i64 n] w (Took w br c xs n) := by
  have h0 := two_cell0 hr
  have h1 := two_cell1 hr
  have hf := fun o => two_free (o := o) hr
  rcases hv with ⟨rfl, hx⟩ | ⟨b, off, cap, rfl, h2, h3⟩
  · subst hx
    have hn0 : n = 0 := by simpa using hn
    subst hn0
    go_enter Tryd.func39, Tryd.ntmps39
    go_wp2
    go_ret
    exact ⟨_, rfl, .inl ⟨rfl, rfl⟩, by simp [Value.ownBlock], ⟨_, two_set0 hr, .inl ⟨rfl, rfl⟩, by simp [Value.ownBlock], hne⟩, grown_set w ⟨br, 0, none⟩ _⟩
  · obtain rfl : b = c := hc b rfl
    clear hc
    have hT := Bts.take h2 h3 hn
    have hD := Bts.drop h2 h3 hn
    have hE := fun (hcn : cap = n) => Bts.empty (w := w) (b := b) (off := off) (xs := xs) (n := n) (by omega)
    have hg := fun u => grown_set w ⟨br, 0, none⟩ u
    have hs0 := fun u => two_set0 (u := u) hr
    have HH := Lib.hid (And.intro hT (And.intro hD (And.intro hE (And.intro hg hs0))))
    clear hT hD hE hg hs0 h3
    go_enter Tryd.func39, Tryd.ntmps39
    go_wp2
    · have hcn : cap = n := by assumption
      go_ret
      obtain ⟨hT, hD, hE, hg, hs0⟩ := HH.out
      have hl : xs.length = n := by omega
      exact ⟨_, rfl, hT.kept (hg _) (fun k hk e => hne (by simp [Value.ownBlock] at hk e; omega)), by simp [Value.ownBlock], ⟨_, hs0 _, by simpa [hl] using (hE hcn).kept (hg _) (fun k hk e => hne (by simp [Value.ownBlock] at hk e; omega)), by simp [Value.ownBlock], hne⟩, hg _⟩
    · go_ret
      obtain ⟨hT, hD, hE, hg, hs0⟩ := HH.out
      exact ⟨_, rfl, hT.kept (hg _) (fun k hk e => hne (by simp [Value.ownBlock] at hk e; omega)), by simp [Value.ownBlock], ⟨_, hs0 _, hD.kept (hg _) (fun k hk e => hne (by simp [Value.ownBlock] at hk e; omega)), by simp [Value.ownBlock], hne⟩, hg _⟩

end Go.Proofs.YtjlecncamfdcfaaDoor
