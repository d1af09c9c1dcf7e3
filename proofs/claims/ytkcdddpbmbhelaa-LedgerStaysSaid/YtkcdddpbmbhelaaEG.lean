/-
  Package ledger: Create, Destroy, Resize, Swap.
-/
import Derived.Test.YtkcdddpbmbhelaaEF
namespace Go.Proofs.Ytkcdddpbmbhelaa
open Go.RowKit

def createS (L : Led) (t s r : Int) (xs : List Int) : Led × Int :=
  if inB t 0 3 = true then
    if (L.t t.toNat).th = true then (noLed, 7)
    else if roomE s r = 0 then (if L.eps = 2147483647 then (noLed, 4) else changedS L (createL (bump L) t.toNat s r xs))
    else (noLed, roomE s r)
  else (noLed, 5)
def destroyS (L : Led) (t : Int) : Led × Int := if missT L t = 0 then changedS L (updT (bump L) t.toNat noTen) else (noLed, missT L t)
def resizeS (L : Led) (t s : Int) (xs : List Int) : Led × Int :=
  if missT L t = 0 then (if roomE s 0 = 0 then changedS L (resizeL (bump L) t.toNat s xs) else (noLed, roomE s 0)) else (noLed, missT L t)
def swapS (L : Led) (a i b j : Int) : Led × Int :=
  if missT L a = 0 then
    if missT L b = 0 then
      if a = b then (noLed, 1)
      else if inB i 0 ((L.t a.toNat).bs.length - 1) = true ∧ inB j 0 ((L.t b.toNat).bs.length - 1) = true then changedS L (swapL (bump L) a.toNat i.toNat b.toNat j.toNat)
      else (noLed, 5)
    else (noLed, missT L b)
  else (noLed, missT L a)

/-- Nothing was changed: an error is told. -/
theorem change_no {w w1 w2 : World} {g : Nat} {n : Int} (hE : Ext w w1) (hg : w1.grownBy w2 (some g)) (hlo : w.heap.size ≤ g) : ChangeP w (noLed, n) (.returned (.tuple #[.agg (ledC noLed fun _ => nilS), .int .i64 n])) w2 :=
  ⟨_, rfl, noLed_is _, noLed_blocks _ _, grown_trans hE hg (fun p hp hlt => by injection hp with hp; omega)⟩
/-- What was changed is handed on. -/
theorem change_yes {w w1 w2 w3 : World} {g : Nat} {R : Led × Int} {V' : Nat → Value} (hE : Ext w w1) (hI : LedIs w2 R.1 V') (hl : ∀ j, j < 4 → ∀ p, (V' j).ownBlock = some p → w1.heap.size ≤ p ∧ p < w2.heap.size) (hE2 : Ext w1 w2)
    (hg : w2.grownBy w3 (some g)) (hlo : w.heap.size ≤ g) (hg1 : g < w1.heap.size) : ChangeP w R (.returned (.tuple #[.agg (ledC R.1 V'), .int .i64 R.2])) w3 :=
  ⟨V', rfl, hI.kept hg (fun j hj p hp e => by have := hl j hj p hp; injection e with e; omega), fun j hj p hp => by have := hl j hj p hp; have := hE.size; have := hg.size; omega,
    grown_trans (ext_trans hE hE2) hg (fun p hp hlt => by injection hp with hp; omega)⟩

/-- What lies in memory when Create begins. -/
structure Laid6 (w w1 : World) (L : Led) (V : Nat → Value) (v1 v2 v3 v4 : Value) : Prop where
  led : Blk w1 w.heap.size 27 (ledC L V)
  c1 : w1.cell? ⟨w.heap.size + 1, 0, none⟩ = some v1
  c2 : w1.cell? ⟨w.heap.size + 2, 0, none⟩ = some v2
  c3 : w1.cell? ⟨w.heap.size + 3, 0, none⟩ = some v3
  c4 : w1.cell? ⟨w.heap.size + 4, 0, none⟩ = some v4
  out : Blk w1 (w.heap.size + 5) 27 zeroC
  size : w1.heap.size = w.heap.size + 6
  ext : Ext w w1
theorem laid6 (w : World) (L : Led) (V : Nat → Value) (v1 v2 v3 v4 : Value) (t1 t2 t3 t4 : TypeId) :
    Laid6 w ((((((w.alloc (.cells (ledC L V) 27)).alloc (.cells #[v1] t1)).alloc (.cells #[v2] t2)).alloc (.cells #[v3] t3)).alloc (.cells #[v4] t4)).alloc (.cells zeroC 27)) L V v1 v2 v3 v4 := by
  refine ⟨(((((Blk.new w _ _).alloc _).alloc _).alloc _).alloc _).alloc _, ?_, ?_, ?_, ?_, Blk.newAt _ _ (by simp) _ _, by simp, ?_⟩
  · exact (((((Blk.newAt (w.alloc _) (w.heap.size + 1) (by simp) t1 #[v1]).alloc _).alloc _).alloc _).alloc _).cell 0
  · exact ((((Blk.newAt ((w.alloc _).alloc _) (w.heap.size + 2) (by simp) t2 #[v2]).alloc _).alloc _).alloc _).cell 0
  · exact (((Blk.newAt (((w.alloc _).alloc _).alloc _) (w.heap.size + 3) (by simp) t3 #[v3]).alloc _).alloc _).cell 0
  · exact ((Blk.newAt ((((w.alloc _).alloc _).alloc _).alloc _) (w.heap.size + 4) (by simp) t4 #[v4]).alloc _).cell 0
  · exact grown_alloc (grown_alloc (grown_alloc (grown_alloc (grown_alloc (World.grownBy_alloc w _ none) _) _) _) _) _

set_option maxHeartbeats 1600000 in
theorem create_any (L : Led) (V : Nat → Value) (t s r : Int) (gv : Value) (xs : List Int) (w : World) (hL : LedIs w L V) (hm : ∀ j, j < 4 → (L.t j).bs.length ≤ 1048576) (hI : Ints w gv xs) (hx : xs.length ≤ 1048576) (hgo : ∀ p, gv.ownBlock = some p → p < w.heap.size) :
    Calls Try.prog 8 #[.agg (ledC L V), .int .i64 t, .int .i64 s, .int .i64 r, gv] w (ChangeP w (createS L t s r xs)) := by
  obtain ⟨ga, gc, _, _, rfl, _⟩ := hI.form
  have hW := laid6 w L V (.int .i64 t) (.int .i64 s) (.int .i64 r) (.slice ga xs.length gc) 3 3 3 22
  obtain ⟨w1, hw1⟩ : ∃ v, (((((w.alloc (.cells (ledC L V) 27)).alloc (.cells #[.int .i64 t] 3)).alloc (.cells #[.int .i64 s] 3)).alloc (.cells #[.int .i64 r] 3)).alloc (.cells #[.slice ga xs.length gc] 22)).alloc (.cells zeroC 27) = v := ⟨_, rfl⟩
  rw [hw1] at hW
  have HW := Lib.hid hW
  have HL := Lib.hid hL
  have HI := Lib.hid hI
  have c1 := hW.c1
  have c2 := hW.c2
  have c3 := hW.c3
  have c4 := hW.c4
  have hbo := hW.out
  have hbl := hW.led
  have hn := (noLed_is w).slices
  have lo : w.heap.size ≤ w.heap.size + 5 := by omega
  clear hW hL hI
  by_cases ht : inB t 0 3 = true
  · obtain ⟨k, rfl⟩ : ∃ k : Nat, t = k := ⟨t.toNat, by simp [inB] at ht; omega⟩
    have hk : k < 4 := by simp [inB] at ht; omega
    have T := fun w => isTenant_any k w
    rw [ht] at T
    unfold createS
    rw [if_pos ht]
    simp only [Int.toNat_natCast]
    have ct := (hbl.cell _).trans (led_th L V hk)
    by_cases hth : (L.t k).th = true
    · rw [if_pos hth]
      rw [hth] at ct
      clear hth ht
      go_enter Try.func8, Try.ntmps8
      go_wp2_with (first
        | (go_at_call 19; refine (T _).mono ?_; rintro e w' ⟨rfl, rfl⟩)
        | (refine led_store (L := noLed) (V := fun _ => nilS) _ _ rfl rfl rfl hbo rfl hn rfl ?_; intro w5 hb5 hg5 hs5))
      refine bodyPost_ret (v := .tuple #[.agg (ledC noLed fun _ => nilS), .int .i64 7]) (results_cell_row2 (fn := Try.f8) rfl rfl rfl hb5 Try.underlying27 rfl Try.sizeLed) rfl ?_
      exact change_no HW.out.ext hg5 lo
    · rw [if_neg hth]
      have hth' : (L.t k).th = false := by simpa using hth
      rw [hth'] at ct
      have C := fun w => ruleCheck_any s r w
      clear hth hth' ht
      by_cases hroom : roomE s r = 0
      · rw [if_pos hroom]
        rw [hroom] at C
        clear hroom
        by_cases heps : L.eps = 2147483647
        · rw [if_pos heps]
          have ce := (hbl.cell 1).trans (led_eps L V)
          rw [heps] at ce
          clear heps
          go_enter Try.func8, Try.ntmps8
          go_wp2_with (first
            | (go_at_call 19; refine (T _).mono ?_; rintro e w' ⟨rfl, rfl⟩)
            | (go_at_call 20; refine (C _).mono ?_; rintro e w' ⟨rfl, rfl⟩)
            | (refine led_store (L := noLed) (V := fun _ => nilS) _ _ rfl rfl rfl hbo rfl hn rfl ?_; intro w5 hb5 hg5 hs5))
          refine bodyPost_ret (v := .tuple #[.agg (ledC noLed fun _ => nilS), .int .i64 4]) (results_cell_row2 (fn := Try.f8) rfl rfl rfl hb5 Try.underlying27 rfl Try.sizeLed) rfl ?_
          exact change_no HW.out.ext hg5 lo
        · rw [if_neg heps]
          have ce := (hbl.cell 1).trans (led_eps L V)
          have hne : (L.eps == 2147483647) = false := by simpa using heps
          clear heps
          have D := changedCreate_any L V w1 (.pointer (some ⟨w.heap.size + 2, 0, none⟩)) (.pointer (some ⟨w.heap.size + 3, 0, none⟩)) (.pointer (some ⟨w.heap.size + 4, 0, none⟩)) (.pointer (some ⟨w.heap.size + 1, 0, none⟩)) (createL (bump L) k s r xs) (HL.out.ext HW.out.ext) hm
            (fun w2 b V1 hE hR => createDo_done _ _ _ _ k s r _ xs hR (hE.cell HW.out.c2 (by simp)) (hE.cell HW.out.c3 (by simp)) (hE.cell HW.out.c4 (by simp)) (hE.cell HW.out.c1 (by simp)) (by have := HW.out.size; omega) (by have := HW.out.size; omega) (by have := HW.out.size; omega) (by have := HW.out.size; omega)
              ((HI.out.kept HW.out.ext (by simp)).kept hE (by simp)) hx hk (fun p hp => by have := hgo p hp; have := HW.out.size; omega))
          go_enter Try.func8, Try.ntmps8
          go_wp2_with (first
            | (go_at_call 19; refine (T _).mono ?_; rintro e w' ⟨rfl, rfl⟩)
            | (go_at_call 20; refine (C _).mono ?_; rintro e w' ⟨rfl, rfl⟩)
            | (refine led_load _ rfl rfl hbl rfl ?_)
            | (go_at_call 21; refine D.mono ?_; rintro e w2 ⟨V', rfl, hI2, hl2, hE2⟩; have hbo2 := hbo.ext hE2)
            | (refine led_store _ _ rfl rfl rfl hbo2 rfl hI2.slices rfl ?_; intro w5 hb5 hg5 hs5))
          refine bodyPost_ret (v := .tuple #[.agg (ledC (changedS L (createL (bump L) k s r xs)).1 V'), .int .i64 (changedS L (createL (bump L) k s r xs)).2]) (results_cell_row2 (fn := Try.f8) rfl rfl rfl hb5 Try.underlying27 rfl Try.sizeLed) rfl ?_
          exact change_yes HW.out.ext hI2 hl2 hE2 hg5 lo (by have := HW.out.size; omega)
      · rw [if_neg hroom]
        have h5 : roomE s r = 5 := by unfold roomE at hroom ⊢; split <;> simp_all
        rw [h5] at C ⊢
        clear hroom h5
        go_enter Try.func8, Try.ntmps8
        go_wp2_with (first
          | (go_at_call 19; refine (T _).mono ?_; rintro e w' ⟨rfl, rfl⟩)
          | (go_at_call 20; refine (C _).mono ?_; rintro e w' ⟨rfl, rfl⟩)
          | (refine led_store (L := noLed) (V := fun _ => nilS) _ _ rfl rfl rfl hbo rfl hn rfl ?_; intro w5 hb5 hg5 hs5))
        refine bodyPost_ret (v := .tuple #[.agg (ledC noLed fun _ => nilS), .int .i64 5]) (results_cell_row2 (fn := Try.f8) rfl rfl rfl hb5 Try.underlying27 rfl Try.sizeLed) rfl ?_
        exact change_no HW.out.ext hg5 lo
  · have ht : inB t 0 3 = false := by simpa using ht
    have T := fun w => isTenant_any t w
    rw [ht] at T
    unfold createS
    rw [ht]
    simp only [Bool.false_eq_true, if_false]
    clear ht
    go_enter Try.func8, Try.ntmps8
    go_wp2_with (first
      | (go_at_call 19; refine (T _).mono ?_; rintro e w' ⟨rfl, rfl⟩)
      | (refine led_store (L := noLed) (V := fun _ => nilS) _ _ rfl rfl rfl hbo rfl hn rfl ?_; intro w5 hb5 hg5 hs5))
    refine bodyPost_ret (v := .tuple #[.agg (ledC noLed fun _ => nilS), .int .i64 5]) (results_cell_row2 (fn := Try.f8) rfl rfl rfl hb5 Try.underlying27 rfl Try.sizeLed) rfl ?_
    exact change_no HW.out.ext hg5 lo

end Go.Proofs.Ytkcdddpbmbhelaa
