/-
  The document's own Put and Text (layer 1): the same bytes as word's.
-/
import Derived.Test.YtjlecncamfdcfaaDoorWD
namespace Go.Proofs.YtjlecncamfdcfaaDoor
open Go.RowKit

theorem owns_copy {w : World} : (w.alloc (.cells #[] 5)).ownsRow w.heap.size 5 1 (.slice (some ⟨w.heap.size, 0, none⟩) 0 0) 0 [] :=
  World.ownsRow_made (base := w.heap.size) (e := 5) (size := 1) w #[] 0 (Nat.le_refl _) (Nat.zero_le _) rfl

theorem put_step {w wr w1 : World} {xs : List Int} {v : Int} {k : Nat} {o v' : Value} (o1 : Obj) (hgr : w.grownBy wr none) (hown : wr.ownsRow w.heap.size 5 1 o (xs.length + k) ((xs ++ leB v k).map (Value.int .u8)))
    (hown1 : w1.ownsRow w.heap.size 5 1 v' (xs.length + k + 1) (xs.map (Value.int .u8) ++ ((leB v k).map (Value.int .u8) ++ [Value.int .u8 (v / 256 ^ k % 256)]))) (hgr1 : (wr.alloc o1).grownBy w1 o.ownBlock) :
    w1.ownsRow w.heap.size 5 1 v' (xs.length + (k + 1)) ((xs ++ leB v (k + 1)).map (Value.int .u8)) ∧ w.grownBy w1 none :=
  ⟨by simpa [leB_succ, Nat.add_assoc] using hown1, grown_trans (grown_trans hgr (World.grownBy_alloc _ _ none) (fun k hk => by cases hk)) hgr1 (fun k hk h => by have := hown.lt k hk; omega)⟩

theorem div_step {v : Int} (k : Nat) : v / 256 ^ k / 256 = v / 256 ^ (k + 1) := by rw [Int.ediv_ediv_of_nonneg (Int.le_of_lt (p256 k)), ← Int.pow_succ]

set_option maxHeartbeats 800000 in
theorem refPut_fits (v0 : Value) (xs : List Int) (v : Int) (n : Nat) (w : World) (h0 : Bts w v0 xs) (hm : xs.length ≤ 140737488350000) (hf : fitsB v n = true) :
    Calls Tryd.prog 19 #[v0, .int .i64 v, .int .i64 n] w (Made w.heap.size w (xs ++ leB v n)) := by
  have hv0 : 0 ≤ v ∧ v ≤ 9223372036854775807 := by simp [fitsB] at hf; omega
  have hn4 : n = 1 ∨ n = 2 ∨ n = 4 := by simp [fitsB] at hf; omega
  obtain ⟨i0, hi, hz0, hz1, hz2⟩ := info_parts Tryd.infoU8
  have hown0 := @owns_copy w
  rcases h0 with ⟨rfl, hx⟩ | ⟨b, off, cap, rfl, h2, h3⟩
  · have HX := Lib.hid hx
    clear hx
    go_enter Tryd.func19, Tryd.ntmps19
    go_wp2_with (first | (at_builtin; refine wpList_append_own_none rfl _ _ 25 rfl w.heap.size 5 i0 1 Tryd.underlying25 hi _ _ _ rfl hown0 rfl ?_) | (go_at_call 35; refine (refFits_any _ _ _).mono ?_; rintro e w' ⟨rfl, rfl⟩))
    go_loopw [1, 7, 8] (fun a o i wr => ∃ k : Nat, k ≤ n ∧ i = .int .i64 k ∧ a = .int .i64 (v / 256 ^ k) ∧ wr.ownsRow w.heap.size 5 1 o (xs.length + k) ((xs ++ leB v k).map (Value.int .u8)) ∧ w.grownBy wr none) (fun _ _ i _ => n - (intOf i).toNat)
    case atStart => exact ⟨0, Nat.zero_le _, rfl, by simp, by rw [HX.out]; exact hown0, World.grownBy_alloc _ _ none⟩
    case round =>
      obtain ⟨k, hk, rfl, rfl, hown, hgr⟩ := hrel
      have hpos : 0 ≤ v / 256 ^ k := Int.ediv_nonneg hv0.1 (Int.le_of_lt (p256 k))
      have hle : v / 256 ^ k ≤ 9223372036854775807 := Int.le_trans (Int.ediv_le_self _ hv0.1) hv0.2
      by_cases hlt : k < n
      · go_wp2_with (at_builtin; refine wpList_append_own _ rfl _ _ 25 rfl w.heap.size 5 i0 (.int .u8 0) 1 1 Tryd.underlying25 hi hz0 hz1 hz2 rfl (by decide) _ _ _ rfl (hown.alloc _) ⟨wr.heap.size, 0, none⟩ 1 1 [.int .u8 (v / 256 ^ k % 256)] rfl rfl (bytes_new _ _ _) (one_oneCell _ _) (by unfold maxLen; omega) (by omega) (grown_alloc_size hgr _) ?_)
        intro v' w1 hown1 hgr1 _
        have R := put_step _ hgr hown hown1 hgr1
        have E := Lib.hid (div_step (v := v) k)
        clear hown hown1 hgr1
        go_wp2
        go_roundw
        case rel => exact ⟨k + 1, by omega, by go_num, by rw [← E.out], R.1, R.2⟩
        case measure => simp [intOf]; omega
      · have hkn : k = n := by omega
        subst hkn
        go_wp2
        go_ret
        exact ⟨_, rfl, by simpa [leB_len] using hown, hgr⟩
  · have hcs := cells_of h3
    go_enter Tryd.func19, Tryd.ntmps19
    go_wp2_with (first | (at_builtin; refine wpList_append_own _ rfl _ _ 25 rfl w.heap.size 5 i0 (.int .u8 0) 1 1 Tryd.underlying25 hi hz0 hz1 hz2 rfl (by decide) _ _ _ rfl hown0 ⟨b, off, none⟩ xs.length cap (xs.map (Value.int .u8)) rfl (by simp) ?c1 ?c2 ?c3 ?c4 ?c5 ?_) | (go_at_call 35; refine (refFits_any _ _ _).mono ?_; rintro e w' ⟨rfl, rfl⟩))
    case c1 => exact fun j u hj => cell_past (hcs j u hj) _
    case c2 => exact ints_oneCell _ _
    case c3 => unfold maxLen; omega
    case c4 => omega
    case c5 => simp
    intro va wa hown1 hgr1 _
    have hgr0 : w.grownBy wa none := grown_trans (World.grownBy_alloc w _ none) hgr1 (fun k hk h => by simp [Value.ownBlock] at hk; omega)
    clear hgr1
    go_wp2_with (go_at_call 35; refine (refFits_any _ _ _).mono ?_; rintro e w' ⟨rfl, rfl⟩)
    go_loopw [1, 7, 8] (fun a o i wr => ∃ k : Nat, k ≤ n ∧ i = .int .i64 k ∧ a = .int .i64 (v / 256 ^ k) ∧ wr.ownsRow w.heap.size 5 1 o (xs.length + k) ((xs ++ leB v k).map (Value.int .u8)) ∧ w.grownBy wr none) (fun _ _ i _ => n - (intOf i).toNat)
    case atStart => exact ⟨0, Nat.zero_le _, rfl, by simp, by simpa [leB] using hown1, hgr0⟩
    case round =>
      obtain ⟨k, hk, rfl, rfl, hown, hgr⟩ := hrel
      have hpos : 0 ≤ v / 256 ^ k := Int.ediv_nonneg hv0.1 (Int.le_of_lt (p256 k))
      have hle : v / 256 ^ k ≤ 9223372036854775807 := Int.le_trans (Int.ediv_le_self _ hv0.1) hv0.2
      by_cases hlt : k < n
      · go_wp2_with (at_builtin; refine wpList_append_own _ rfl _ _ 25 rfl w.heap.size 5 i0 (.int .u8 0) 1 1 Tryd.underlying25 hi hz0 hz1 hz2 rfl (by decide) _ _ _ rfl (hown.alloc _) ⟨wr.heap.size, 0, none⟩ 1 1 [.int .u8 (v / 256 ^ k % 256)] rfl rfl (bytes_new _ _ _) (one_oneCell _ _) (by unfold maxLen; omega) (by omega) (grown_alloc_size hgr _) ?_)
        intro v' w1 hown1 hgr1 _
        have R := put_step _ hgr hown hown1 hgr1
        have E := Lib.hid (div_step (v := v) k)
        clear hown hown1 hgr1
        go_wp2
        go_roundw
        case rel => exact ⟨k + 1, by omega, by go_num, by rw [← E.out], R.1, R.2⟩
        case measure => simp [intOf]; omega
      · have hkn : k = n := by omega
        subst hkn
        go_wp2
        go_ret
        exact ⟨_, rfl, by simpa [leB_len] using hown, hgr⟩

theorem refPut_any (v0 : Value) (xs : List Int) (v n : Int) (w : World) (hb : Bts w v0 xs) (hm : xs.length ≤ 140737488350000) :
    Calls Tryd.prog 19 #[v0, .int .i64 v, .int .i64 n] w (Made w.heap.size w (putL xs v n)) := by
  by_cases hf : fitsB v n = true
  · have hn : n = (n.toNat : Int) := by simp [fitsB] at hf; omega
    have hp : putL xs v n = xs ++ leB v n.toNat := by simp [putL, hf]
    rw [hp]
    rw [hn] at hf ⊢
    exact refPut_fits v0 xs v n.toNat w hb hm hf
  · have hf' : fitsB v n = false := by simpa using hf
    have hp : putL xs v n = xs := by simp [putL, hf']
    obtain ⟨i0, hi, hz0, hz1, hz2⟩ := info_parts Tryd.infoU8
    have hown0 := @owns_copy w
    rw [hp]
    clear hp
    rcases hb with ⟨rfl, rfl⟩ | ⟨b, off, cap, rfl, h2, h3⟩
    · go_enter Tryd.func19, Tryd.ntmps19
      go_wp2_with (first | (at_builtin; refine wpList_append_own_none rfl _ _ 25 rfl w.heap.size 5 i0 1 Tryd.underlying25 hi _ _ _ rfl hown0 rfl ?_) | (go_at_call 35; refine (refFits_any _ _ _).mono ?_; rintro e w' ⟨rfl, rfl⟩))
      go_ret
      exact ⟨_, rfl, hown0, World.grownBy_alloc _ _ none⟩
    · have hcs := cells_of h3
      go_enter Tryd.func19, Tryd.ntmps19
      go_wp2_with (first | (at_builtin; refine wpList_append_own _ rfl _ _ 25 rfl w.heap.size 5 i0 (.int .u8 0) 1 1 Tryd.underlying25 hi hz0 hz1 hz2 rfl (by decide) _ _ _ rfl hown0 ⟨b, off, none⟩ xs.length cap (xs.map (Value.int .u8)) rfl (by simp) ?c1 ?c2 ?c3 ?c4 ?c5 ?_) | (go_at_call 35; refine (refFits_any _ _ _).mono ?_; rintro e w' ⟨rfl, rfl⟩))
      case c1 => exact fun j u hj => cell_past (hcs j u hj) _
      case c2 => exact ints_oneCell _ _
      case c3 => unfold maxLen; omega
      case c4 => omega
      case c5 => simp
      intro va wa hown1 hgr1 _
      have hgr0 : w.grownBy wa none := grown_trans (World.grownBy_alloc w _ none) hgr1 (fun k hk h => by simp [Value.ownBlock] at hk; omega)
      go_wp2_with (go_at_call 35; refine (refFits_any _ _ _).mono ?_; rintro e w' ⟨rfl, rfl⟩)
      go_ret
      exact ⟨_, rfl, by simpa using hown1, hgr0⟩

end Go.Proofs.YtjlecncamfdcfaaDoor
