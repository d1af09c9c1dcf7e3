/-
  The document's own Text (layer 1): the same bytes as word's.
-/
import Derived.Test.YtdfcfjncflfppaaWE
namespace Go.Proofs.Ytdfcfjncflfppaa
open Go.RowKit

set_option maxRecDepth 100000 in
set_option maxHeartbeats 400000 in
theorem refText_any (v0 : Value) (xs : List Int) (s : ByteArray) (w : World) (hb : Bts w v0 xs) (hm : xs.length ≤ 140737488200000) (hs9 : s.size ≤ 9223372036854775807) :
    Calls Try.prog 26 #[v0, .string s] w (Made w.heap.size w (textL xs s)) := by
  obtain ⟨i0, hi, hz0, hz1, hz2⟩ := info_parts Try.infoU8
  have hown0 := @owns_copy w
  by_cases hf : s.size ≤ 65535
  · have ht : textL xs s = xs ++ leB s.size 2 ++ byt s := by simp [textL, hf]
    have hft : fitsB s.size 2 = true := by simp [fitsB]; omega
    have hp : putL xs s.size 2 = xs ++ leB s.size 2 := by simp [putL, hft]
    rw [ht]
    have HP := Lib.hid hp
    clear hp ht
    have hconv := fun (w : World) => run_bytes_of_string (P := Try.prog) w 9 22 5 s Try.underlying9 Try.underlying22 Try.underlying5
    go_enter Try.func26, Try.ntmps26
    go_wp2_with (first | (go_at_call 24; refine (refPut_any v0 xs _ _ _ hb (by omega)).mono ?_; rintro e w1 ⟨v1, rfl, hown, hgr⟩) | (at_builtin; go_loud (refine wpList_append_own _ rfl _ _ 22 rfl w.heap.size 5 i0 (.int .u8 0) 1 1 Try.underlying22 hi hz0 hz1 hz2 rfl (by decide) _ _ _ rfl (hown.alloc _).drew ⟨w1.heap.size, 0, none⟩ s.size _ ((byt s).map (Value.int .u8)) rfl (by simp [byt_len]) (row_cells _ _ _ _ _) (ints_oneCell _ _) ?c1 ?c2 ?c3 ?_)))
    case c1 => rw [HP.out]; simp [leB_len]; unfold maxLen; omega
    case c2 => rw [HP.out]; simp [leB_len]; omega
    case c3 => simpa using Nat.le_trans hgr.size (Nat.le_succ _)
    intro v' w2 hown2 hgr2 _
    have hlt := hown.lt
    go_wp2
    go_ret
    refine ⟨v', rfl, ?_, grown_trans (grown_drew (grown_alloc hgr _)) hgr2 (fun k hk h => by have := hlt k hk; omega)⟩
    rw [HP.out, ← List.map_append] at hown2
    simpa [byt_len, Nat.add_assoc] using hown2
  · have ht : textL xs s = xs := by simp [textL, hf]
    rw [ht]
    clear ht
    rcases hb with ⟨rfl, rfl⟩ | ⟨b, off, cap, rfl, h2, h3⟩
    · go_enter Try.func26, Try.ntmps26
      go_wp2_with (at_builtin; refine wpList_append_own_none rfl _ _ 22 rfl w.heap.size 5 i0 1 Try.underlying22 hi _ _ _ rfl hown0 rfl ?_)
      go_ret
      exact ⟨_, rfl, hown0, World.grownBy_alloc _ _ none⟩
    · have hcs := cells_of h3
      go_enter Try.func26, Try.ntmps26
      go_wp2_with (at_builtin; refine wpList_append_own _ rfl _ _ 22 rfl w.heap.size 5 i0 (.int .u8 0) 1 1 Try.underlying22 hi hz0 hz1 hz2 rfl (by decide) _ _ _ rfl hown0 ⟨b, off, none⟩ xs.length cap (xs.map (Value.int .u8)) rfl (by simp) ?c1 ?c2 ?c3 ?c4 ?c5 ?_)
      case c1 => exact fun j u hj => cell_past (hcs j u hj) _
      case c2 => exact ints_oneCell _ _
      case c3 => unfold maxLen; omega
      case c4 => omega
      case c5 => simp
      intro va wa hown1 hgr1 _
      have hgr0 : w.grownBy wa none := grown_trans (World.grownBy_alloc w _ none) hgr1 (fun k hk h => by simp [Value.ownBlock] at hk; omega)
      go_wp2
      go_ret
      exact ⟨_, rfl, by simpa using hown1, hgr0⟩

end Go.Proofs.Ytdfcfjncflfppaa
