/-
  The document's next, Create, Destroy.
-/
import Derived.Test.YtkaiijlgmfeblaaEI
namespace Go.Proofs.Ytkaiijlgmfeblaa
open Go.RowKit

structure Laid2 (w w1 : World) (L : Led) (V : Nat → Value) : Prop where
  led : Blk w1 w.heap.size 27 (ledC L V)
  out : Blk w1 (w.heap.size + 1) 27 zeroC
  size : w1.heap.size = w.heap.size + 2
  ext : Ext w w1
theorem laid2 (w : World) (L : Led) (V : Nat → Value) : Laid2 w ((w.alloc (.cells (ledC L V) 27)).alloc (.cells zeroC 27)) L V :=
  ⟨(Blk.new w _ _).alloc _, Blk.newAt _ _ (by simp) _ _, by simp, grown_alloc (World.grownBy_alloc w _ none) _⟩

/-- The ledger in new memory, with one change more. -/
def NextP (w : World) (L : Led) (e : Ending) (w' : World) : Prop := ∃ V', e = .returned (.tuple #[.agg (ledC (bump L) V'), .int .i64 0]) ∧ Owned w.heap.size w' (bump L) V' 4 ∧ Ext w w'
def NoneP (w : World) (n : Int) (e : Ending) (w' : World) : Prop := e = .returned (.tuple #[.agg (ledC noLed fun _ => nilS), .int .i64 n]) ∧ Ext w w'

set_option maxHeartbeats 800000 in
theorem next10_no (L : Led) (V : Nat → Value) (w : World) (hgen : L.gen = 2147483647) :
    Calls Try.prog 29 #[.agg (ledC L V)] w (NoneP w 4) := by
  have hW := laid2 w L V
  have c0 := (hW.led.cell 0).trans (led_gen L V)
  rw [hgen] at c0
  have hbo := hW.out
  have hn := (noLed_is w).slices
  have HE := Lib.hid hW.ext
  clear hW hgen
  go_enter Try.func29, Try.ntmps29
  go_wp2_with (refine led_store (L := noLed) (V := fun _ => nilS) _ _ rfl rfl rfl hbo rfl hn rfl ?_; intro w5 hb5 hg5 hs5)
  refine bodyPost_ret (v := .tuple #[.agg (ledC noLed fun _ => nilS), .int .i64 4]) (results_cell_row2 (fn := Try.f29) rfl rfl rfl hb5 Try.underlying27 rfl Try.sizeLed) rfl ⟨rfl, ?_⟩
  exact grown_trans HE.out hg5 (fun p hp hlt => by injection hp with hp; omega)

set_option maxHeartbeats 1600000 in
theorem next10_yes (L : Led) (V : Nat → Value) (w : World) (hL : LedIs w L V) (hm : ∀ j, j < 4 → (L.t j).bs.length ≤ 1048576) (hgen : L.gen ≠ 2147483647) :
    Calls Try.prog 29 #[.agg (ledC L V)] w (NextP w L) := by
  have hW := laid2 w L V
  obtain ⟨w1, hw1⟩ : ∃ v, (w.alloc (.cells (ledC L V) 27)).alloc (.cells zeroC 27) = v := ⟨_, rfl⟩
  rw [hw1] at hW
  have c0 := (hW.led.cell 0).trans (led_gen L V)
  have hne : (L.gen == 2147483647) = false := by simpa using hgen
  have T := refTwin10_any L V w1 (hL.ext hW.ext) hm
  have HW := Lib.hid hW
  have hbl := hW.led
  have hn := (noLed_is w).slices
  clear hW hgen hL
  go_enter Try.func29, Try.ntmps29
  go_wp2_with (first
    | (refine led_load _ rfl rfl hbl rfl ?_)
    | (go_at_call 7; refine T.mono ?_; rintro e w2 ⟨V1, rfl, hO, hE2⟩; have hBm := Blk.new w2 27 zeroC; have hS1 : ∀ j, j < 4 → SliceV (V1 j) := hO.is.slices)
    | (refine led_store _ _ rfl rfl rfl hBm rfl hS1 rfl ?_; intro w3 hb3 hg3 hs3; clear hBm; have c3 := (hb3.cell 0).trans (led_gen L V1); have f3 := hb3.free 0; have hR3 := Lib.hid (change_mid HW.out.ext HW.out.size HW.out.out hO hE2 hb3 hg3); have hb4 := hR3.out.2.1.blk; have hb5 := hR3.out.2.2; clear hO hE2 hb3 hg3 hs3)
    | (refine led_load _ rfl rfl hb4 rfl ?_)
    | (refine led_store _ _ rfl rfl rfl hb5 rfl hS1 rfl ?_; intro w6 hb6 hg6 hs6))
  refine bodyPost_ret (v := .tuple #[.agg (ledC (bump L) V1), .int .i64 0]) (results_cell_row2 (fn := Try.f29) rfl rfl rfl hb6 Try.underlying27 rfl Try.sizeLed) rfl ⟨V1, rfl, ?_, ?_⟩
  · exact (hR3.out.2.1.own.kept hg6 (fun j hj p hp e => by have := own_lt (hR3.out.2.1.own.own j hj) p hp; injection e with e; omega)).le (by omega)
  · exact grown_trans hR3.out.1 hg6 (fun p hp hlt => by injection hp with hp; omega)

/-- The copy that is worked on, when it has been laid. -/
theorem out_mid {B : Nat} {w w3 w4 : World} {L : Led} {V' : Nat → Value} (hE : Ext w w3) (hO : Owned B w3 L V' 4) (hB : B ≤ w3.heap.size) (hb : Blk w4 w3.heap.size 27 (ledC L V')) (hg : (w3.alloc (.cells zeroC 27)).grownBy w4 (some w3.heap.size)) :
    Ext w w4 ∧ Ext w3 w4 ∧ Ready B w4 w3.heap.size L V' := by
  have e : w3.grownBy w4 none := grown_trans (World.grownBy_alloc w3 (.cells zeroC 27) none) hg (fun k hk h => by injection hk with hk; omega)
  exact ⟨ext_trans hE e, e, hb, hO.kept e (by simp), fun j hj p hp => by have := own_lt (hO.own j hj) p hp; omega, hB⟩

/-- The end: what was worked on is handed back. -/
theorem change_end {B : Nat} {w w4 w5 w6 : World} {L2 : Led} {V2 : Nat → Value} (hE : Ext w w4) (hI5 : LedIs w5 L2 V2) (hl5 : ∀ j, j < 4 → ∀ p, (V2 j).ownBlock = some p → B ≤ p ∧ p < w5.heap.size) (hbel : Below B w4 w5) (hB : w.heap.size + 2 ≤ B)
    (hg6 : w5.grownBy w6 (some (w.heap.size + 1))) : ChangeP w (L2, 0) (.returned (.tuple #[.agg (ledC L2 V2), .int .i64 0])) w6 := by
  refine ⟨V2, rfl, hI5.kept hg6 (fun j hj p hp e => by have := hl5 j hj p hp; injection e with e; omega), fun j hj p hp => by have := hl5 j hj p hp; have := hg6.size; omega, ?_⟩
  have q3 := (below_ext hE).trans (hbel.mono (by omega))
  exact ext_below (q3.grown hg6 (by have := hbel.size; have := hE.size; omega) (fun k hk => by injection hk with hk; omega))

end Go.Proofs.Ytkaiijlgmfeblaa
