/-
  Package ledger: changed; Create, Destroy, Resize, Swap.
-/
import Derived.Test.YtkcdddpbmbhelaaEE
namespace Go.Proofs.Ytkcdddpbmbhelaa
open Go.RowKit

/-- What a change comes to: a ledger in new memory, and an error. -/
def ChangeP (w : World) (R : Led × Int) (e : Ending) (w' : World) : Prop :=
  ∃ V', e = .returned (.tuple #[.agg (ledC R.1 V'), .int .i64 R.2]) ∧ LedIs w' R.1 V' ∧ (∀ j, j < 4 → ∀ p, (V' j).ownBlock = some p → w.heap.size ≤ p ∧ p < w'.heap.size) ∧ Ext w w'

theorem noLed_blocks (B C : Nat) : ∀ j, j < 4 → ∀ p, ((fun _ => nilS : Nat → Value) j).ownBlock = some p → B ≤ p ∧ p < C := fun j _ p hp => by simp [Value.ownBlock] at hp

/-- One more change. -/
def bump (L : Led) : Led := { L with gen := inc L.gen }
def changedS (L L2 : Led) : Led × Int := if L.gen = 2147483647 then (noLed, 4) else (L2, 0)

/-- A twin that stands, counted. -/
theorem ready_of {w w2 w3 : World} {L : Led} {V : Nat → Value} (hO : Owned (w.heap.size + 2) w2 L V 4) (hg : w2.grownBy w3 none) (hlo : w.heap.size + 2 ≤ w2.heap.size) (hb : Blk w3 w2.heap.size 27 (ledC (bump L) V)) :
    Ready (w.heap.size + 2) w3 w2.heap.size (bump L) V := by
  have h1 : Owned (w.heap.size + 2) w3 L V 4 := hO.kept hg (by simp)
  exact ⟨hb, ⟨h1.own, h1.apart⟩, fun j hj p hp => by have := own_lt (hO.own j hj) p hp; omega, hlo⟩

theorem below_ext {w w' : World} (h : Ext w w') : Below w.heap.size w w' := ⟨h.os, h.tape, h.output, h.size, fun k hk => h.block k hk (by simp)⟩
theorem ext_below {w w' : World} (h : Below w.heap.size w w') : Ext w w' := ⟨h.os, h.tape, h.output, h.size, fun k hk _ => h.block k hk⟩
theorem Blk.below {w w' : World} {g B : Nat} {t : TypeId} {cs : Array Value} (h : Blk w g t cs) (hb : Below B w w') (hg : g < B) : Blk w' g t cs := (hb.block g hg).trans h

/-- Behind the twin's laying and the count. -/
theorem change_mid {w w1 w2 w3 : World} {L : Led} {V1 : Nat → Value} {C : Array Value} (hE : w.grownBy w1 none) (hz : w1.heap.size = w.heap.size + 2) (hb : Blk w1 (w.heap.size + 1) 27 C) (hO : Owned w1.heap.size w2 L V1 4) (hE2 : Ext w1 w2)
    (hb3 : Blk w3 w2.heap.size 27 (ledC L V1)) (hg3 : (w2.alloc (.cells zeroC 27)).grownBy w3 (some w2.heap.size)) :
    Ext w (w3.setCell ⟨w2.heap.size, 0, none⟩ (.int .i64 (wrap64 (L.gen + 1)))) ∧ Ready (w.heap.size + 2) (w3.setCell ⟨w2.heap.size, 0, none⟩ (.int .i64 (wrap64 (L.gen + 1)))) w2.heap.size (bump L) V1 ∧
      Blk (w3.setCell ⟨w2.heap.size, 0, none⟩ (.int .i64 (wrap64 (L.gen + 1)))) (w.heap.size + 1) 27 C := by
  have hs2 := hE2.size
  have g4 : w3.grownBy (w3.setCell ⟨w2.heap.size, 0, none⟩ (.int .i64 (wrap64 (L.gen + 1)))) (some w2.heap.size) := gb_set (gb_refl w3 _) _ _
  have e2 : w2.grownBy (w3.setCell ⟨w2.heap.size, 0, none⟩ (.int .i64 (wrap64 (L.gen + 1)))) none :=
    grown_trans (grown_trans (World.grownBy_alloc w2 (.cells zeroC 27) none) hg3 (fun k hk h => by injection hk with hk; omega)) g4 (fun k hk h => by injection hk with hk; omega)
  have b4 := hb3.set 0 (.int .i64 (wrap64 (L.gen + 1)))
  rw [led_setGen] at b4
  rw [hz] at hO
  exact ⟨ext_trans (ext_trans hE hE2) e2, ready_of hO e2 (by omega) b4, (hb.ext hE2).ext e2⟩

/- forms begin -/
set_option maxHeartbeats 1600000 in
theorem changedCreate_any (L : Led) (V : Nat → Value) (w : World) (c0 c1 c2 c3 : Value) (L2 : Led) (hL : LedIs w L V) (hm : ∀ j, j < 4 → (L.t j).bs.length ≤ 1048576)
    (hdo : ∀ w1 b V1, Ext w w1 → Ready (w.heap.size + 2) w1 b (bump L) V1 → Calls Try.prog 22 #[.pointer (some ⟨b, 0, none⟩), c0, c1, c2, c3] w1 (DoneP (w.heap.size + 2) b L2 w1)) :
    Calls Try.prog 21 #[.agg (ledC L V), .func (.func 22) #[] #[c0, c1, c2, c3]] w (ChangeP w (changedS L L2)) := by
  have hE := grown_alloc (World.grownBy_alloc w (.cells (ledC L V) 27) none) (.cells zeroC 27)
  have hB0 := (Blk.new w 27 (ledC L V)).alloc (.cells zeroC 27)
  have hB1 := Blk.newAt (w.alloc (.cells (ledC L V) 27)) (w.heap.size + 1) (by simp) 27 zeroC
  have hz : ((w.alloc (.cells (ledC L V) 27)).alloc (.cells zeroC 27)).heap.size = w.heap.size + 2 := by simp
  unfold changedS
  by_cases hgen : L.gen = 2147483647
  · rw [if_pos hgen]
    have c0 := (hB0.cell 0).trans (led_gen L V)
    rw [hgen] at c0
    have HE := Lib.hid hE
    have HZ := Lib.hid hz
    clear hdo hgen hE hz hB0
    go_enter Try.func21, Try.ntmps21
    go_wp2_with (refine led_store (L := noLed) (V := fun _ => nilS) _ _ rfl rfl rfl hB1 rfl (noLed_is w).slices rfl ?_; intro w5 hb5 hg5 hs5)
    refine bodyPost_ret (v := .tuple #[.agg (ledC noLed fun _ => nilS), .int .i64 4]) (results_cell_row2 (fn := Try.f21) rfl rfl rfl hb5 Try.underlying27 rfl Try.sizeLed) rfl ⟨_, rfl, noLed_is _, noLed_blocks _ _, ?_⟩
    exact grown_trans HE.out hg5 (fun p hp hlt => by injection hp with hp; omega)
  · rw [if_neg hgen]
    have c0 := (hB0.cell 0).trans (led_gen L V)
    have hne : (L.gen == 2147483647) = false := by simpa using hgen
    have T := twin10_any L V _ (hL.ext hE) hm
    have HE := Lib.hid hE
    have HZ := Lib.hid hz
    have HB := Lib.hid hB1
    clear hgen hE hz hB1
    go_enter Try.func21, Try.ntmps21
    go_wp2_with (first
      | (refine led_load _ rfl rfl hB0 rfl ?_)
      | (go_at_call 41; refine T.mono ?_; rintro e w2 ⟨V1, rfl, hO, hE2⟩; have hBm := Blk.new w2 27 zeroC; have hS1 : ∀ j, j < 4 → SliceV (V1 j) := hO.is.slices)
      | (refine led_store _ _ rfl rfl rfl hBm rfl hS1 rfl ?_; intro w3 hb3 hg3 hs3; clear hBm; have c3 := (hb3.cell 0).trans (led_gen L V1); have f3 := hb3.free 0; have hR3 := Lib.hid (change_mid HE.out HZ.out HB.out hO hE2 hb3 hg3); clear hO hE2 hb3 hg3 hs3)
      | (go_at_call 22; refine (hdo _ _ V1 hR3.out.1 hR3.out.2.1).mono ?_; rintro e w5 ⟨rfl, V2, hb5, hI5, hl5, hbel5⟩; have hb1 := (hR3.out.2.2.below hbel5 (by omega)))
      | (refine led_load _ rfl rfl hb5 rfl ?_)
      | (refine led_store _ _ rfl rfl rfl hb1 rfl hI5.slices rfl ?_; intro w6 hb6 hg6 hs6))
    refine bodyPost_ret (v := .tuple #[.agg (ledC L2 V2), .int .i64 0]) (results_cell_row2 (fn := Try.f21) rfl rfl rfl hb6 Try.underlying27 rfl Try.sizeLed) rfl ⟨_, rfl, hI5.kept hg6 (fun j hj p hp e => by have := hl5 j hj p hp; injection e with e; omega), fun j hj p hp => by have := hl5 j hj p hp; omega, ?_⟩
    have q1 := hR3.out.1
    have q2 := below_ext q1
    have q3 := q2.trans (hbel5.mono (by omega))
    have q4 : Below w.heap.size _ w6 := q3.grown hg6 (by have := hbel5.size; have := q1.size; omega) (fun k hk => by injection hk with hk; omega)
    exact ext_below q4


set_option maxHeartbeats 1600000 in
theorem changedDestroy_any (L : Led) (V : Nat → Value) (w : World) (c0 : Value) (L2 : Led) (hL : LedIs w L V) (hm : ∀ j, j < 4 → (L.t j).bs.length ≤ 1048576)
    (hdo : ∀ w1 b V1, Ext w w1 → Ready (w.heap.size + 2) w1 b (bump L) V1 → Calls Try.prog 25 #[.pointer (some ⟨b, 0, none⟩), c0] w1 (DoneP (w.heap.size + 2) b L2 w1)) :
    Calls Try.prog 21 #[.agg (ledC L V), .func (.func 25) #[] #[c0]] w (ChangeP w (changedS L L2)) := by
  have hE := grown_alloc (World.grownBy_alloc w (.cells (ledC L V) 27) none) (.cells zeroC 27)
  have hB0 := (Blk.new w 27 (ledC L V)).alloc (.cells zeroC 27)
  have hB1 := Blk.newAt (w.alloc (.cells (ledC L V) 27)) (w.heap.size + 1) (by simp) 27 zeroC
  have hz : ((w.alloc (.cells (ledC L V) 27)).alloc (.cells zeroC 27)).heap.size = w.heap.size + 2 := by simp
  unfold changedS
  by_cases hgen : L.gen = 2147483647
  · rw [if_pos hgen]
    have c0 := (hB0.cell 0).trans (led_gen L V)
    rw [hgen] at c0
    have HE := Lib.hid hE
    have HZ := Lib.hid hz
    clear hdo hgen hE hz hB0
    go_enter Try.func21, Try.ntmps21
    go_wp2_with (refine led_store (L := noLed) (V := fun _ => nilS) _ _ rfl rfl rfl hB1 rfl (noLed_is w).slices rfl ?_; intro w5 hb5 hg5 hs5)
    refine bodyPost_ret (v := .tuple #[.agg (ledC noLed fun _ => nilS), .int .i64 4]) (results_cell_row2 (fn := Try.f21) rfl rfl rfl hb5 Try.underlying27 rfl Try.sizeLed) rfl ⟨_, rfl, noLed_is _, noLed_blocks _ _, ?_⟩
    exact grown_trans HE.out hg5 (fun p hp hlt => by injection hp with hp; omega)
  · rw [if_neg hgen]
    have c0 := (hB0.cell 0).trans (led_gen L V)
    have hne : (L.gen == 2147483647) = false := by simpa using hgen
    have T := twin10_any L V _ (hL.ext hE) hm
    have HE := Lib.hid hE
    have HZ := Lib.hid hz
    have HB := Lib.hid hB1
    clear hgen hE hz hB1
    go_enter Try.func21, Try.ntmps21
    go_wp2_with (first
      | (refine led_load _ rfl rfl hB0 rfl ?_)
      | (go_at_call 41; refine T.mono ?_; rintro e w2 ⟨V1, rfl, hO, hE2⟩; have hBm := Blk.new w2 27 zeroC; have hS1 : ∀ j, j < 4 → SliceV (V1 j) := hO.is.slices)
      | (refine led_store _ _ rfl rfl rfl hBm rfl hS1 rfl ?_; intro w3 hb3 hg3 hs3; clear hBm; have c3 := (hb3.cell 0).trans (led_gen L V1); have f3 := hb3.free 0; have hR3 := Lib.hid (change_mid HE.out HZ.out HB.out hO hE2 hb3 hg3); clear hO hE2 hb3 hg3 hs3)
      | (go_at_call 25; refine (hdo _ _ V1 hR3.out.1 hR3.out.2.1).mono ?_; rintro e w5 ⟨rfl, V2, hb5, hI5, hl5, hbel5⟩; have hb1 := (hR3.out.2.2.below hbel5 (by omega)))
      | (refine led_load _ rfl rfl hb5 rfl ?_)
      | (refine led_store _ _ rfl rfl rfl hb1 rfl hI5.slices rfl ?_; intro w6 hb6 hg6 hs6))
    refine bodyPost_ret (v := .tuple #[.agg (ledC L2 V2), .int .i64 0]) (results_cell_row2 (fn := Try.f21) rfl rfl rfl hb6 Try.underlying27 rfl Try.sizeLed) rfl ⟨_, rfl, hI5.kept hg6 (fun j hj p hp e => by have := hl5 j hj p hp; injection e with e; omega), fun j hj p hp => by have := hl5 j hj p hp; omega, ?_⟩
    have q1 := hR3.out.1
    have q2 := below_ext q1
    have q3 := q2.trans (hbel5.mono (by omega))
    have q4 : Below w.heap.size _ w6 := q3.grown hg6 (by have := hbel5.size; have := q1.size; omega) (fun k hk => by injection hk with hk; omega)
    exact ext_below q4


set_option maxHeartbeats 1600000 in
theorem changedSwap_any (L : Led) (V : Nat → Value) (w : World) (c0 c1 c2 c3 : Value) (L2 : Led) (hL : LedIs w L V) (hm : ∀ j, j < 4 → (L.t j).bs.length ≤ 1048576)
    (hdo : ∀ w1 b V1, Ext w w1 → Ready (w.heap.size + 2) w1 b (bump L) V1 → Calls Try.prog 27 #[.pointer (some ⟨b, 0, none⟩), c0, c1, c2, c3] w1 (DoneP (w.heap.size + 2) b L2 w1)) :
    Calls Try.prog 21 #[.agg (ledC L V), .func (.func 27) #[] #[c0, c1, c2, c3]] w (ChangeP w (changedS L L2)) := by
  have hE := grown_alloc (World.grownBy_alloc w (.cells (ledC L V) 27) none) (.cells zeroC 27)
  have hB0 := (Blk.new w 27 (ledC L V)).alloc (.cells zeroC 27)
  have hB1 := Blk.newAt (w.alloc (.cells (ledC L V) 27)) (w.heap.size + 1) (by simp) 27 zeroC
  have hz : ((w.alloc (.cells (ledC L V) 27)).alloc (.cells zeroC 27)).heap.size = w.heap.size + 2 := by simp
  unfold changedS
  by_cases hgen : L.gen = 2147483647
  · rw [if_pos hgen]
    have c0 := (hB0.cell 0).trans (led_gen L V)
    rw [hgen] at c0
    have HE := Lib.hid hE
    have HZ := Lib.hid hz
    clear hdo hgen hE hz hB0
    go_enter Try.func21, Try.ntmps21
    go_wp2_with (refine led_store (L := noLed) (V := fun _ => nilS) _ _ rfl rfl rfl hB1 rfl (noLed_is w).slices rfl ?_; intro w5 hb5 hg5 hs5)
    refine bodyPost_ret (v := .tuple #[.agg (ledC noLed fun _ => nilS), .int .i64 4]) (results_cell_row2 (fn := Try.f21) rfl rfl rfl hb5 Try.underlying27 rfl Try.sizeLed) rfl ⟨_, rfl, noLed_is _, noLed_blocks _ _, ?_⟩
    exact grown_trans HE.out hg5 (fun p hp hlt => by injection hp with hp; omega)
  · rw [if_neg hgen]
    have c0 := (hB0.cell 0).trans (led_gen L V)
    have hne : (L.gen == 2147483647) = false := by simpa using hgen
    have T := twin10_any L V _ (hL.ext hE) hm
    have HE := Lib.hid hE
    have HZ := Lib.hid hz
    have HB := Lib.hid hB1
    clear hgen hE hz hB1
    go_enter Try.func21, Try.ntmps21
    go_wp2_with (first
      | (refine led_load _ rfl rfl hB0 rfl ?_)
      | (go_at_call 41; refine T.mono ?_; rintro e w2 ⟨V1, rfl, hO, hE2⟩; have hBm := Blk.new w2 27 zeroC; have hS1 : ∀ j, j < 4 → SliceV (V1 j) := hO.is.slices)
      | (refine led_store _ _ rfl rfl rfl hBm rfl hS1 rfl ?_; intro w3 hb3 hg3 hs3; clear hBm; have c3 := (hb3.cell 0).trans (led_gen L V1); have f3 := hb3.free 0; have hR3 := Lib.hid (change_mid HE.out HZ.out HB.out hO hE2 hb3 hg3); clear hO hE2 hb3 hg3 hs3)
      | (go_at_call 27; refine (hdo _ _ V1 hR3.out.1 hR3.out.2.1).mono ?_; rintro e w5 ⟨rfl, V2, hb5, hI5, hl5, hbel5⟩; have hb1 := (hR3.out.2.2.below hbel5 (by omega)))
      | (refine led_load _ rfl rfl hb5 rfl ?_)
      | (refine led_store _ _ rfl rfl rfl hb1 rfl hI5.slices rfl ?_; intro w6 hb6 hg6 hs6))
    refine bodyPost_ret (v := .tuple #[.agg (ledC L2 V2), .int .i64 0]) (results_cell_row2 (fn := Try.f21) rfl rfl rfl hb6 Try.underlying27 rfl Try.sizeLed) rfl ⟨_, rfl, hI5.kept hg6 (fun j hj p hp e => by have := hl5 j hj p hp; injection e with e; omega), fun j hj p hp => by have := hl5 j hj p hp; omega, ?_⟩
    have q1 := hR3.out.1
    have q2 := below_ext q1
    have q3 := q2.trans (hbel5.mono (by omega))
    have q4 : Below w.heap.size _ w6 := q3.grown hg6 (by have := hbel5.size; have := q1.size; omega) (fun k hk => by injection hk with hk; omega)
    exact ext_below q4

/- forms end -/

end Go.Proofs.Ytkcdddpbmbhelaa
