/-
  The document's row of all places (layer 4): the walk.
-/
import Derived.Test.YtlbgakhoillpcaaGC
namespace Go.Proofs.Ytlbgakhoillpcaa
open Go.RowKit

def AllRel (c d b p : Nat) (w : World) (n : Nat) (o : Value) (wr : World) : Prop :=
  wr.ownsRow (w.heap.size + 1) 47 4 o n (plcs c d p n) ∧ (w.alloc (fourObj c d b p 45)).grownBy wr none

theorem all_step {c d b p : Nat} {w : World} {n : Nat} {o v' : Value} {wr w1 : World} (o1 : Obj) (h : AllRel c d b p w n o wr) {new : List Value}
    (hown1 : w1.ownsRow (w.heap.size + 1) 47 4 v' (n + 1) (plcs c d p n ++ new)) (hgr1 : (wr.alloc o1).grownBy w1 o.ownBlock) (hn : plc c d p n = new) {m : Nat} (hm : m = n + 1) : AllRel c d b p w m v' w1 := by
  subst hm hn
  refine ⟨by rw [plcs_succ]; exact hown1, grown_trans (grown_trans h.2 (World.grownBy_alloc _ o1 none) (fun k hk => by cases hk)) hgr1 (fun k hk hl => ?_)⟩
  have := h.1.lt k hk
  simp at hl
  omega

theorem all_is {c d b p : Nat} {w : World} {n m : Nat} {o : Value} {wr : World} (h : AllRel c d b p w n o wr) (hn : n = m) : AllRel c d b p w m o wr := hn ▸ h

theorem box_of {c d b p : Nat} {w : World} {n : Nat} {o : Value} {wr : World} (h : AllRel c d b p w n o wr) :
    wr.cell? ⟨w.heap.size, 0, none⟩ = some (.int .i64 c) ∧ wr.cell? ⟨w.heap.size, 1, none⟩ = some (.int .i64 d) ∧ wr.cell? ⟨w.heap.size, 2, none⟩ = some (.int .i64 b) ∧ wr.cell? ⟨w.heap.size, 3, none⟩ = some (.int .i64 p) := by
  have := (box4_new w c d b p 45).grown h.2 (by simp) (by simp)
  exact ⟨this.c0, this.c1, this.c2, this.c3⟩

set_option maxHeartbeats 1000000 in
theorem refAll_any (c d b p : Nat) (w : World) (h : geoE c d b p = 0) :
    Calls Try.prog 26 #[four c d b p] w (MadeAll c d p (at4 c d p b 0 0 0) w) := by
  obtain ⟨g1, g2, g3, g4, g5, g6⟩ := geo_ok h
  have n6 : c * d * b ≤ 64 := by exact_mod_cast g6
  have n1 : c ≤ 64 := by omega
  have n2 : d ≤ 64 := by omega
  have n3 : b ≤ 64 := by omega
  have n4 : p ≤ 16 := by omega
  clear g1 g2 g3 g4 g5 g6 h
  have H6 := Lib.hid n6
  clear n6
  obtain ⟨i0, hi, hz0, hz1, hz2⟩ := info_parts Try.infoPlace
  unfold four
  go_enter Try.func26, Try.ntmps26
  go_wp2
  go_loopw [3, 4] (fun o i wr => ∃ k : Nat, k ≤ b ∧ i = .int .i64 k ∧ AllRel c d b p w (at4 c d p k 0 0 0) o wr) (fun _ i _ => b - (intOf i).toNat)
  case atStart => exact ⟨0, Nat.zero_le _, rfl, ⟨by simp [at4, plcs], .inl ⟨rfl, by simp [at4]⟩⟩, ⟨rfl, rfl, rfl, Nat.le_refl _, fun _ _ _ => rfl⟩⟩
  case round =>
    obtain ⟨k1, hk1, rfl, hA⟩ := hrel
    obtain ⟨b0, b1, b2, b3⟩ := box_of hA
    by_cases hlt : k1 < b
    · go_wp2
      go_loopw [3, 5] (fun o i wr => ∃ k : Nat, k ≤ d ∧ i = .int .i64 k ∧ AllRel c d b p w (at4 c d p k1 k 0 0) o wr) (fun _ i _ => d - (intOf i).toNat)
      case atStart => exact ⟨0, Nat.zero_le _, rfl, hA⟩
      case round =>
        clear hA b0 b1 b2 b3
        obtain ⟨k2, hk2, rfl, hA⟩ := hrel
        obtain ⟨b0, b1, b2, b3⟩ := box_of hA
        by_cases hlt2 : k2 < d
        · go_wp2
          go_loopw [3, 6] (fun o i wr => ∃ k : Nat, k ≤ c ∧ i = .int .i64 k ∧ AllRel c d b p w (at4 c d p k1 k2 k 0) o wr) (fun _ i _ => c - (intOf i).toNat)
          case atStart => exact ⟨0, Nat.zero_le _, rfl, hA⟩
          case round =>
            clear hA b0 b1 b2 b3
            obtain ⟨k3, hk3, rfl, hA⟩ := hrel
            obtain ⟨b0, b1, b2, b3⟩ := box_of hA
            by_cases hlt3 : k3 < c
            · go_wp2
              go_loopw [3, 7] (fun o i wr => ∃ k : Nat, k ≤ p ∧ i = .int .i64 k ∧ AllRel c d b p w (at4 c d p k1 k2 k3 k) o wr) (fun _ i _ => p - (intOf i).toNat)
              case atStart => exact ⟨0, Nat.zero_le _, rfl, hA⟩
              case round =>
                clear hA b0 b1 b2 b3
                obtain ⟨k4, hk4, rfl, hA⟩ := hrel
                obtain ⟨b0, b1, b2, b3⟩ := box_of hA
                by_cases hlt4 : k4 < p
                · have hlt' := at4_lt (c := c) hlt4 hlt3 hlt2 hlt n4 H6.out
                  obtain ⟨t, ht⟩ : ∃ t, at4 c d p k1 k2 k3 k4 = t := ⟨_, rfl⟩
                  have hpl := plc_at (c := c) (d := d) (p := p) (i := k1) hlt4 hlt3 hlt2
                  have hts := at4_l c d p k1 k2 k3 k4
                  rw [ht] at hlt' hA hpl hts
                  have T := Lib.hid hts
                  have PL := Lib.hid hpl
                  obtain ⟨hown, hgr⟩ := hA
                  clear ht hts hpl
                  go_wp2_with (at_builtin; refine wpList_append_own _ rfl _ _ 49 rfl (w.heap.size + 1) 47 i0 (.agg #[.int .i64 0, .int .i64 0, .int .i64 0, .int .i64 0]) 4 32 Try.underlying49 hi hz0 hz1 hz2 rfl (by decide) _ t _ rfl (hown.alloc _) ⟨_, 0, none⟩ 1 1 [.int .i64 k3, .int .i64 k2, .int .i64 k1, .int .i64 k4] rfl rfl (four_new _ _ _ _ _ _) (four_oneCell _ _ _ _) (by unfold maxLen; omega) (by omega) (by have := hgr.size; simp at this ⊢; omega) ?_)
                  intro v' w1 hown1 hgr1 _
                  have R := all_step _ ⟨hown, hgr⟩ hown1 hgr1 PL.out T.out
                  clear hown hgr hown1 hgr1 b0 b1 b2 b3
                  go_wp2
                  go_roundw
                  case rel => exact ⟨k4 + 1, by omega, by go_num, R⟩
                  case measure => simp [intOf]; omega
                · have hk : k4 = p := by omega
                  subst hk
                  have R := all_is hA (at4_k c d k4 k1 k2 k3)
                  clear hA
                  go_wp2
                  go_roundw
                  case rel => exact ⟨k3 + 1, by omega, by go_num, R⟩
                  case measure => simp [intOf]; omega
            · have hk : k3 = c := by omega
              subst hk
              have R := all_is hA (at4_j k3 d p k1 k2)
              clear hA
              go_wp2
              go_roundw
              case rel => exact ⟨k2 + 1, by omega, by go_num, R⟩
              case measure => simp [intOf]; omega
        · have hk : k2 = d := by omega
          subst hk
          have R := all_is hA (at4_i c k2 p k1)
          clear hA
          go_wp2
          go_roundw
          case rel => exact ⟨k1 + 1, by omega, by go_num, R⟩
          case measure => simp [intOf]; omega
    · have hk : k1 = b := by omega
      subst hk
      go_wp2
      go_ret
      exact ⟨_, rfl, ownsRow_le hA.1 (Nat.le_succ _), grown_trans (World.grownBy_alloc w _ none) hA.2 (fun k hk => by cases hk)⟩

end Go.Proofs.Ytlbgakhoillpcaa
