/-
  Package draws: slices of ints; Contains, ContainsFunc, Clone.
-/
import Derived.Test.YtkcdddpbmbhelaaBY
import Derived.Test.YtkcdddpbmbhelaaLine
import Derived.Below
import Derived.Laws.LoneSync
namespace Go.Proofs.Ytkcdddpbmbhelaa
open Go.RowKit

/-- The slice value v reads as the ints xs. -/
def Ints (w : World) (v : Value) (xs : List Int) : Prop :=
  (v = .slice none 0 0 ∧ xs = []) ∨ ∃ b off cap, v = .slice (some ⟨b, off, none⟩) xs.length cap ∧ xs.length ≤ cap ∧ ∀ i, i < xs.length → w.cell? ⟨b, off + i, none⟩ = some (.int .i64 (xs.getD i 0))

theorem Ints.form {w : World} {v : Value} {xs : List Int} (h : Ints w v xs) : ∃ ao cap b off, v = .slice ao xs.length cap ∧ ∀ k, k < xs.length → ao = some ⟨b, off, none⟩ ∧ w.cell? ⟨b, off + k, none⟩ = some (.int .i64 (xs.getD k 0)) := by
  rcases h with ⟨rfl, rfl⟩ | ⟨b, off, cap, rfl, _, hc⟩
  · exact ⟨none, 0, 0, 0, rfl, fun k hk => by simp at hk⟩
  · exact ⟨_, cap, b, off, rfl, fun k hk => ⟨rfl, hc k hk⟩⟩
theorem Ints.kept {w w' : World} {v : Value} {xs : List Int} {r : Option Nat} (h : Ints w v xs) (hg : w.grownBy w' r) (hne : ∀ k, v.ownBlock = some k → some k ≠ r) : Ints w' v xs := by
  rcases h with h | ⟨b, off, cap, rfl, h2, h3⟩
  · exact .inl h
  · exact .inr ⟨b, off, cap, rfl, h2, fun i hi => hg.cell (h3 i hi) (hne b rfl)⟩

theorem index_any (v : Value) (xs : List Int) (n : Int) (w : World) (hb : Ints w v xs) (hm : xs.length ≤ 9223372036854775807) :
    Calls Try.prog 42 #[v, .int .i64 n] w fun e w' => ∃ r : Int, e = .returned (.int .i64 r) ∧ w = w' ∧ ((0 ≤ r ∧ n ∈ xs) ∨ (r < 0 ∧ n ∉ xs)) := by
  obtain ⟨ao, cap, b, off, rfl, hc⟩ := hb.form
  have HC := Lib.hid hc
  clear hc hb
  go_enter Try.func42, Try.ntmps42
  go_wp2
  go_loopw [8] (fun i wr => ∃ k : Nat, k ≤ xs.length ∧ i = .int .i64 k ∧ (∀ j, j < k → xs.getD j 0 ≠ n) ∧ w = wr) (fun i _ => xs.length - (intOf i).toNat)
  case atStart => exact ⟨0, by omega, rfl, fun j hj => by omega, rfl⟩
  case round =>
    obtain ⟨k, hk, rfl, hnot, rfl⟩ := hrel
    have NOT := Lib.hid hnot
    clear hnot
    by_cases hlt : k < xs.length
    · obtain ⟨rfl, hcell⟩ := HC.out k hlt
      obtain ⟨x, hx⟩ : ∃ x, xs.getD k 0 = x := ⟨_, rfl⟩
      rw [hx] at hcell
      have HX := Lib.hid hx
      clear hx
      by_cases he : n = x
      · subst he
        go_wp2
        go_ret
        refine ⟨_, rfl, rfl, .inl ⟨by omega, ?_⟩⟩
        have := HX.out
        rw [List.getD_eq_getElem?_getD, List.getElem?_eq_getElem hlt] at this
        simp only [Option.getD_some] at this
        rw [← this]
        exact List.getElem_mem hlt
      · have hne : (n == x) = false := by simpa using he
        clear he
        go_wp2
        go_roundw
        case rel =>
          refine ⟨k + 1, by omega, by go_num, fun j hj => ?_, trivial⟩
          by_cases e : j = k
          · subst e; rw [HX.out]; intro h; subst h; simp at hne
          · exact NOT.out j (by omega)
        case measure => simp [intOf]; omega
    · obtain rfl : k = xs.length := by omega
      go_wp2
      go_ret
      refine ⟨_, rfl, rfl, .inr ⟨by omega, fun hmem => ?_⟩⟩
      obtain ⟨j, hj, hjn⟩ := List.mem_iff_getElem.1 hmem
      refine NOT.out j hj ?_
      rw [List.getD_eq_getElem?_getD, List.getElem?_eq_getElem hj]
      exact hjn

theorem contains_any (v : Value) (xs : List Int) (n : Int) (w : World) (hb : Ints w v xs) (hm : xs.length ≤ 9223372036854775807) :
    Calls Try.prog 30 #[v, .int .i64 n] w fun e w' => e = .returned (.bool (decide (n ∈ xs))) ∧ w = w' := by
  have I := index_any v xs n w hb hm
  obtain ⟨ao, cap, b, off, rfl, hc⟩ := hb.form
  clear hc hb
  go_enter Try.func30, Try.ntmps30
  go_wp2_with (go_at_call 42; refine I.mono ?_; rintro e w' ⟨r, rfl, rfl, hr⟩; have HR := Lib.hid hr; clear hr)
  go_ret
  rcases HR.out with ⟨h1, h2⟩ | ⟨h1, h2⟩
  · exact ⟨by simp [h1, h2], rfl⟩
  · exact ⟨by simp [h2]; omega, rfl⟩

def lowB (xs : List Int) : Bool := xs.any fun n => decide (n < 1)

theorem Try.infoInt : (Try.prog.info? 3).map (fun i => (i.zero, i.size, i.bytes)) = some (some (.int .i64 0), 1, 8) := by kernel_rfl
theorem Try.eqNilInts (w : World) (a : Option Addr) (n c : Nat) : (binOp .eql 22 (.slice a n c) (.slice none 0 0)).run Try.prog w = .ok (.bool a.isNone) w := Lib.run_eql_slice_nil w 22 3 a n c 0 0 Try.underlying22
attribute [local go_sem] Try.eqNilInts

/-- A copy in new memory. -/
def Cloned (w : World) (xs : List Int) (e : Ending) (w' : World) : Prop := ∃ v', e = .returned v' ∧ Ints w' v' xs ∧ w.grownBy w' none ∧ (∀ k, v'.ownBlock = some k → w.heap.size ≤ k ∧ k < w'.heap.size)

theorem owns_ints {w : World} {B : Nat} {v : Value} {xs : List Int} {n : Nat} (hn : n = xs.length) (h : w.ownsRow B 3 1 v n (xs.map (Value.int .i64))) : Ints w v xs := by
  subst hn
  rcases h.2 with ⟨h2, h3⟩ | ⟨g, cap, cur, rfl, hg, hh, hc, _⟩
  · exact .inl ⟨h2, List.length_eq_zero_iff.1 h3⟩
  · refine .inr ⟨g, 0, cap, rfl, hc, fun i hi => ?_⟩
    rw [Nat.zero_add, h.cellAt i (by omega), List.getElem?_map, List.getElem?_eq_getElem hi, List.getD_eq_getElem?_getD, List.getElem?_eq_getElem hi]
    rfl

theorem clonei_any (v : Value) (xs : List Int) (w : World) (hb : Ints w v xs) (hm : xs.length ≤ 64) :
    Calls Try.prog 23 #[v] w (Cloned w xs) := by
  obtain ⟨i0, hi, hz0, hz1, hz2⟩ := info_parts Try.infoInt
  rcases hb with ⟨rfl, rfl⟩ | ⟨b, off, cap, rfl, _, hc⟩
  · go_enter Try.func23, Try.ntmps23
    go_wp2
    go_ret
    exact ⟨_, rfl, .inl ⟨rfl, rfl⟩, ⟨rfl, rfl, rfl, Nat.le_refl _, fun _ _ _ => rfl⟩, fun k hk => by simp [Value.ownBlock] at hk⟩
  · have hown := World.ownsRow_made (base := w.heap.size) (e := 3) (size := 1) w #[] 0 (Nat.le_refl _) (Nat.zero_le _) rfl
    have HC := Lib.hid hc
    clear hc
    go_enter Try.func23, Try.ntmps23
    go_wp2_with (at_builtin; go_loud (refine wpList_append_own _ rfl _ _ 22 rfl w.heap.size 3 i0 (.int .i64 0) 1 8 Try.underlying22 hi hz0 hz1 hz2 rfl (by decide) _ _ _ rfl hown ⟨b, off, none⟩ xs.length cap (xs.map (Value.int .i64)) rfl (by simp) ?c1 ?c2 ?c3 ?c4 ?c5 ?_))
    case c1 =>
      intro j u hj
      rw [List.getElem?_map] at hj
      rw [addr_add]
      by_cases h : j < xs.length
      · rw [List.getElem?_eq_getElem h] at hj
        have h2 := HC.out j h
        rw [World.cell?_alloc_old _ _ _ (Nat.ne_of_lt (World.block_lt_of_cell? w _ h2)), h2, ← hj]
        simp [List.getElem?_eq_getElem h, List.getD_eq_getElem?_getD]
      · rw [List.getElem?_eq_none (by omega)] at hj
        cases hj
    case c2 => exact ints_oneCell _ _
    case c3 => unfold maxLen; omega
    case c4 => omega
    case c5 => simp
    intro v' w1 hown' hgrow _
    have hown2 : w1.ownsRow w.heap.size 3 1 v' xs.length (xs.map (Value.int .i64)) := by simpa using hown'
    go_wp2
    go_ret
    exact ⟨v', rfl, owns_ints rfl hown2, grown_trans (World.grownBy_alloc w _ none) hgrow (fun k hk h => by simp [Value.ownBlock] at hk; omega), hown2.lt⟩

end Go.Proofs.Ytkcdddpbmbhelaa
