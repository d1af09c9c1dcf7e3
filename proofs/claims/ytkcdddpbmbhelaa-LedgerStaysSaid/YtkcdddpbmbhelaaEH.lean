/-
  Package ledger: Destroy, Resize.
-/
import Derived.Test.YtkcdddpbmbhelaaEG
namespace Go.Proofs.Ytkcdddpbmbhelaa
open Go.RowKit

theorem missT_ok {L : Led} {t : Int} (h : missT L t = 0) : ∃ k : Nat, t = k ∧ k < 4 ∧ (L.t k).th = true := by
  unfold missT at h
  by_cases ht : inB t 0 3 = true
  · rw [if_pos ht] at h
    refine ⟨t.toNat, by simp [inB] at ht; omega, by simp [inB] at ht; omega, ?_⟩
    by_cases hth : (L.t t.toNat).th = true
    · exact hth
    · rw [if_neg hth] at h; simp at h
  · rw [if_neg ht] at h; simp at h

structure Laid3 (w w1 : World) (L : Led) (V : Nat → Value) (v1 : Value) : Prop where
  led : Blk w1 w.heap.size 27 (ledC L V)
  c1 : w1.cell? ⟨w.heap.size + 1, 0, none⟩ = some v1
  out : Blk w1 (w.heap.size + 2) 27 zeroC
  size : w1.heap.size = w.heap.size + 3
  ext : Ext w w1
theorem laid3 (w : World) (L : Led) (V : Nat → Value) (v1 : Value) (t1 : TypeId) :
    Laid3 w (((w.alloc (.cells (ledC L V) 27)).alloc (.cells #[v1] t1)).alloc (.cells zeroC 27)) L V v1 := by
  refine ⟨((Blk.new w _ _).alloc _).alloc _, ?_, Blk.newAt _ _ (by simp) _ _, by simp, ?_⟩
  · exact ((Blk.newAt (w.alloc _) (w.heap.size + 1) (by simp) t1 #[v1]).alloc _).cell 0
  · exact grown_alloc (grown_alloc (World.grownBy_alloc w _ none) _) _

structure Laid5 (w w1 : World) (L : Led) (V : Nat → Value) (v1 v2 v3 : Value) : Prop where
  led : Blk w1 w.heap.size 27 (ledC L V)
  c1 : w1.cell? ⟨w.heap.size + 1, 0, none⟩ = some v1
  c2 : w1.cell? ⟨w.heap.size + 2, 0, none⟩ = some v2
  c3 : w1.cell? ⟨w.heap.size + 3, 0, none⟩ = some v3
  out : Blk w1 (w.heap.size + 4) 27 zeroC
  size : w1.heap.size = w.heap.size + 5
  ext : Ext w w1
theorem laid5 (w : World) (L : Led) (V : Nat → Value) (v1 v2 v3 : Value) (t1 t2 t3 : TypeId) :
    Laid5 w (((((w.alloc (.cells (ledC L V) 27)).alloc (.cells #[v1] t1)).alloc (.cells #[v2] t2)).alloc (.cells #[v3] t3)).alloc (.cells zeroC 27)) L V v1 v2 v3 := by
  refine ⟨((((Blk.new w _ _).alloc _).alloc _).alloc _).alloc _, ?_, ?_, ?_, Blk.newAt _ _ (by simp) _ _, by simp, ?_⟩
  · exact ((((Blk.newAt (w.alloc _) (w.heap.size + 1) (by simp) t1 #[v1]).alloc _).alloc _).alloc _).cell 0
  · exact (((Blk.newAt ((w.alloc _).alloc _) (w.heap.size + 2) (by simp) t2 #[v2]).alloc _).alloc _).cell 0
  · exact ((Blk.newAt (((w.alloc _).alloc _).alloc _) (w.heap.size + 3) (by simp) t3 #[v3]).alloc _).cell 0
  · exact grown_alloc (grown_alloc (grown_alloc (grown_alloc (World.grownBy_alloc w _ none) _) _) _) _

set_option maxHeartbeats 1600000 in
theorem destroy_any (L : Led) (V : Nat → Value) (t : Int) (w : World) (hL : LedIs w L V) (hm : ∀ j, j < 4 → (L.t j).bs.length ≤ 1048576) :
    Calls Try.prog 10 #[.agg (ledC L V), .int .i64 t] w (ChangeP w (destroyS L t)) := by
  have hW := laid3 w L V (.int .i64 t) 3
  obtain ⟨w1, hw1⟩ : ∃ v, ((w.alloc (.cells (ledC L V) 27)).alloc (.cells #[.int .i64 t] 3)).alloc (.cells zeroC 27) = v := ⟨_, rfl⟩
  rw [hw1] at hW
  have HW := Lib.hid hW
  have HL := Lib.hid hL
  have c1 := hW.c1
  have hbo := hW.out
  have hbl := hW.led
  have hn := (noLed_is w).slices
  have lo : w.heap.size ≤ w.heap.size + 2 := by omega
  clear hW hL
  have M := fun w => missing10_any L V t w
  unfold destroyS
  by_cases ht : missT L t = 0
  · rw [if_pos ht]
    rw [ht] at M
    obtain ⟨k, rfl, hk, _⟩ := missT_ok ht
    simp only [Int.toNat_natCast]
    clear ht
    have D := fun w2 (hE2 : Ext w1 w2) => changedDestroy_any L V w2 (.pointer (some ⟨w.heap.size + 1, 0, none⟩)) (updT (bump L) k noTen) ((HL.out.ext HW.out.ext).ext hE2) hm
      (fun w3 b V1 hE hR => destroyDo_done _ k hR (hE.cell (hE2.cell HW.out.c1 (by simp)) (by simp)) (by have := HW.out.size; have := hE2.size; omega) hk)
    go_enter Try.func10, Try.ntmps10
    go_wp2_with (first
      | (refine led_load _ rfl rfl hbl rfl ?_)
      | (go_at_call 24; refine (M _).mono ?_; rintro e w2 ⟨rfl, hE2⟩; have hbo2 := hbo.ext hE2; have hbl2 := hbl.ext hE2; have c1' := hE2.cell c1 (by simp))
      | (refine led_load _ rfl rfl hbl2 rfl ?_)
      | (go_at_call 21; refine (D _ hE2).mono ?_; rintro e w3 ⟨V', rfl, hI3, hl3, hE3⟩; have hbo3 := hbo2.ext hE3)
      | (refine led_store _ _ rfl rfl rfl hbo3 rfl hI3.slices rfl ?_; intro w5 hb5 hg5 hs5))
    refine bodyPost_ret (v := .tuple #[.agg (ledC (changedS L (updT (bump L) k noTen)).1 V'), .int .i64 (changedS L (updT (bump L) k noTen)).2]) (results_cell_row2 (fn := Try.f10) rfl rfl rfl hb5 Try.underlying27 rfl Try.sizeLed) rfl ?_
    exact change_yes (ext_trans HW.out.ext hE2) hI3 hl3 hE3 hg5 lo (by have := HW.out.size; have := hE2.size; omega)
  · rw [if_neg ht]
    have hne : (missT L t != 0) = true := by simpa using ht
    obtain ⟨n, hnn⟩ : ∃ n, missT L t = n := ⟨_, rfl⟩
    rw [hnn] at M hne ⊢
    clear ht hnn
    go_enter Try.func10, Try.ntmps10
    go_wp2_with (first
      | (refine led_load _ rfl rfl hbl rfl ?_)
      | (go_at_call 24; refine (M _).mono ?_; rintro e w2 ⟨rfl, hE2⟩; have hbo2 := hbo.ext hE2; have hbl2 := hbl.ext hE2)
      | (refine led_store (L := noLed) (V := fun _ => nilS) _ _ rfl rfl rfl hbo2 rfl hn rfl ?_; intro w5 hb5 hg5 hs5))
    refine bodyPost_ret (v := .tuple #[.agg (ledC noLed fun _ => nilS), .int .i64 n]) (results_cell_row2 (fn := Try.f10) rfl rfl rfl hb5 Try.underlying27 rfl Try.sizeLed) rfl ?_
    exact change_no (ext_trans HW.out.ext hE2) hg5 lo

end Go.Proofs.Ytkcdddpbmbhelaa
