/-
  Texts put together: EF EG EH EI EJ EK EL EM EN EO EP EQ ER.
-/
import Derived.Test.YtfgifgglcafadaaGreatDoorM09
import Derived.Maps.OwnSet
import Derived.Maps.OwnOps
namespace Go.Proofs.YtfgifgglcafadaaGreatDoor
set_option linter.unusedVariables false
set_option linter.unusedSimpArgs false
set_option linter.unusedVariables false
set_option linter.unusedSimpArgs false
set_option maxRecDepth 100000
open Go.RowKit
def ChangeP (w : World) (R : Led × Int) (e : Ending) (w' : World) : Prop :=
 ∃ V', e = .returned (.tuple #[.agg (ledC R.1 V'), .int .i64 R.2]) ∧ LedIs w' R.1 V' ∧ (∀ j, j < 4 → ∀ p, (V' j).ownBlock = some p → w.heap.size ≤ p ∧ p < w'.heap.size) ∧ Ext w w'
theorem noLed_blocks (B C : Nat) : ∀ j, j < 4 → ∀ p, ((fun _ => nilS : Nat → Value) j).ownBlock = some p → B ≤ p ∧ p < C := fun j _ p hp => by simp [Value.ownBlock] at hp
def bump (L : Led) : Led := { L with gen := inc L.gen }
def changedS (L L2 : Led) : Led × Int := if L.gen = 2147483647 then (noLed, 4) else (L2, 0)
theorem ready_of {w w2 w3 : World} {L : Led} {V : Nat → Value} (hO : Owned (w.heap.size + 2) w2 L V 4) (hg : w2.grownBy w3 none) (hlo : w.heap.size + 2 ≤ w2.heap.size) (hb : Blk w3 w2.heap.size 56 (ledC (bump L) V)) :
   Ready (w.heap.size + 2) w3 w2.heap.size (bump L) V := by
 have h1 : Owned (w.heap.size + 2) w3 L V 4 := hO.kept hg (by simp)
 exact ⟨hb, ⟨h1.own, h1.apart⟩, fun j hj p hp => by have := own_lt (hO.own j hj) p hp; omega, hlo⟩
theorem below_ext {w w' : World} (h : Ext w w') : Below w.heap.size w w' := ⟨h.os, h.tape, h.output, h.size, fun k hk => h.block k hk (by simp)⟩
theorem ext_below {w w' : World} (h : Below w.heap.size w w') : Ext w w' := ⟨h.os, h.tape, h.output, h.size, fun k hk _ => h.block k hk⟩
theorem Blk.below {w w' : World} {g B : Nat} {t : TypeId} {cs : Array Value} (h : Blk w g t cs) (hb : Below B w w') (hg : g < B) : Blk w' g t cs := (hb.block g hg).trans h
theorem change_mid {w w1 w2 w3 : World} {L : Led} {V1 : Nat → Value} {C : Array Value} (hE : w.grownBy w1 none) (hz : w1.heap.size = w.heap.size + 2) (hb : Blk w1 (w.heap.size + 1) 56 C) (hO : Owned w1.heap.size w2 L V1 4) (hE2 : Ext w1 w2)
   (hb3 : Blk w3 w2.heap.size 56 (ledC L V1)) (hg3 : (w2.alloc (.cells zeroC 56)).grownBy w3 (some w2.heap.size)) :
   Ext w (w3.setCell ⟨w2.heap.size, 0, none⟩ (.int .i64 (wrap64 (L.gen + 1)))) ∧ Ready (w.heap.size + 2) (w3.setCell ⟨w2.heap.size, 0, none⟩ (.int .i64 (wrap64 (L.gen + 1)))) w2.heap.size (bump L) V1 ∧
     Blk (w3.setCell ⟨w2.heap.size, 0, none⟩ (.int .i64 (wrap64 (L.gen + 1)))) (w.heap.size + 1) 56 C := by
 have hs2 := hE2.size
 have g4 : w3.grownBy (w3.setCell ⟨w2.heap.size, 0, none⟩ (.int .i64 (wrap64 (L.gen + 1)))) (some w2.heap.size) := gb_set (gb_refl w3 _) _ _
 have e2 : w2.grownBy (w3.setCell ⟨w2.heap.size, 0, none⟩ (.int .i64 (wrap64 (L.gen + 1)))) none :=
   grown_trans (grown_trans (World.grownBy_alloc w2 (.cells zeroC 56) none) hg3 (fun k hk h => by injection hk with hk; omega)) g4 (fun k hk h => by injection hk with hk; omega)
 have b4 := hb3.set 0 (.int .i64 (wrap64 (L.gen + 1)))
 rw [led_setGen] at b4
 rw [hz] at hO
 exact ⟨ext_trans (ext_trans hE hE2) e2, ready_of hO e2 (by omega) b4, (hb.ext hE2).ext e2⟩
set_option maxHeartbeats 1600000 in
theorem changedCreate_any (L : Led) (V : Nat → Value) (w : World) (c0 c1 c2 c3 : Value) (L2 : Led) (hL : LedIs w L V) (hm : ∀ j, j < 4 → (L.t j).bs.length ≤ 1048576)
   (hdo : ∀ w1 b V1, Ext w w1 → Ready (w.heap.size + 2) w1 b (bump L) V1 → Calls Tryz.prog 138 #[.pointer (some ⟨b, 0, none⟩), c0, c1, c2, c3] w1 (DoneP (w.heap.size + 2) b L2 w1)) :
   Calls Tryz.prog 137 #[.agg (ledC L V), .func (.func 138) #[] #[c0, c1, c2, c3]] w (ChangeP w (changedS L L2)) := by
 have hE := grown_alloc (World.grownBy_alloc w (.cells (ledC L V) 56) none) (.cells zeroC 56)
 have hB0 := (Blk.new w 56 (ledC L V)).alloc (.cells zeroC 56)
 have hB1 := Blk.newAt (w.alloc (.cells (ledC L V) 56)) (w.heap.size + 1) (by simp) 56 zeroC
 have hz : ((w.alloc (.cells (ledC L V) 56)).alloc (.cells zeroC 56)).heap.size = w.heap.size + 2 := by simp
 unfold changedS
 by_cases hgen : L.gen = 2147483647
 · rw [if_pos hgen]
   have c0 := (hB0.cell 0).trans (led_gen L V)
   rw [hgen] at c0
   have HE := Lib.hid hE
   have HZ := Lib.hid hz
   clear hdo hgen hE hz hB0
   go_enter Tryz.func137, Tryz.ntmps137
   go_wp2_with (refine led_store (L := noLed) (V := fun _ => nilS) _ _ rfl rfl rfl hB1 rfl (noLed_is w).slices rfl ?_; intro w5 hb5 hg5 hs5)
   refine bodyPost_ret (v := .tuple #[.agg (ledC noLed fun _ => nilS), .int .i64 4]) (results_cell_row2 (fn := Tryz.f137) rfl rfl rfl hb5 Tryz.underlying56 rfl Tryz.sizeLed) rfl ⟨_, rfl, noLed_is _, noLed_blocks _ _, ?_⟩
   exact grown_trans HE.out hg5 (fun p hp hlt => by injection hp with hp; omega)
 · rw [if_neg hgen]
   have c0 := (hB0.cell 0).trans (led_gen L V)
   have hne : (L.gen == 2147483647) = false := by simpa using hgen
   have T := twin10_any L V _ (hL.ext hE) hm
   have HE := Lib.hid hE
   have HZ := Lib.hid hz
   have HB := Lib.hid hB1
   clear hgen hE hz hB1
   go_enter Tryz.func137, Tryz.ntmps137
   go_wp2_with (first
     | (refine led_load _ rfl rfl hB0 rfl ?_)
     | (go_at_call 71; refine T.mono ?_; rintro e w2 ⟨V1, rfl, hO, hE2⟩; have hBm := Blk.new w2 56 zeroC; have hS1 : ∀ j, j < 4 → SliceV (V1 j) := hO.is.slices)
     | (refine led_store _ _ rfl rfl rfl hBm rfl hS1 rfl ?_; intro w3 hb3 hg3 hs3; clear hBm; have c3 := (hb3.cell 0).trans (led_gen L V1); have f3 := hb3.free 0; have hR3 := Lib.hid (change_mid HE.out HZ.out HB.out hO hE2 hb3 hg3); clear hO hE2 hb3 hg3 hs3)
     | (go_at_call 138; refine (hdo _ _ V1 hR3.out.1 hR3.out.2.1).mono ?_; rintro e w5 ⟨rfl, V2, hb5, hI5, hl5, hbel5⟩; have hb1 := (hR3.out.2.2.below hbel5 (by omega)))
     | (refine led_load _ rfl rfl hb5 rfl ?_)
     | (refine led_store _ _ rfl rfl rfl hb1 rfl hI5.slices rfl ?_; intro w6 hb6 hg6 hs6))
   refine bodyPost_ret (v := .tuple #[.agg (ledC L2 V2), .int .i64 0]) (results_cell_row2 (fn := Tryz.f137) rfl rfl rfl hb6 Tryz.underlying56 rfl Tryz.sizeLed) rfl ⟨_, rfl, hI5.kept hg6 (fun j hj p hp e => by have := hl5 j hj p hp; injection e with e; omega), fun j hj p hp => by have := hl5 j hj p hp; omega, ?_⟩
   have q1 := hR3.out.1
   have q2 := below_ext q1
   have q3 := q2.trans (hbel5.mono (by omega))
   have q4 : Below w.heap.size _ w6 := q3.grown hg6 (by have := hbel5.size; have := q1.size; omega) (fun k hk => by injection hk with hk; omega)
   exact ext_below q4
end Go.Proofs.YtfgifgglcafadaaGreatDoor

namespace Go.Proofs.YtfgifgglcafadaaGreatDoor
set_option linter.unusedVariables false
set_option linter.unusedSimpArgs false
set_option linter.unusedVariables false
set_option linter.unusedSimpArgs false
set_option maxRecDepth 100000
open Go.RowKit
def createS (L : Led) (t s r : Int) (xs : List Int) : Led × Int :=
 if inB t 0 3 = true then
   if (L.t t.toNat).th = true then (noLed, 7)
   else if roomE s r = 0 then (if L.eps = 2147483647 then (noLed, 4) else changedS L (createL (bump L) t.toNat s r xs))
   else (noLed, roomE s r)
 else (noLed, 5)
theorem change_no {w w1 w2 : World} {g : Nat} {n : Int} (hE : Ext w w1) (hg : w1.grownBy w2 (some g)) (hlo : w.heap.size ≤ g) : ChangeP w (noLed, n) (.returned (.tuple #[.agg (ledC noLed fun _ => nilS), .int .i64 n])) w2 :=
 ⟨_, rfl, noLed_is _, noLed_blocks _ _, grown_trans hE hg (fun p hp hlt => by injection hp with hp; omega)⟩
theorem change_yes {w w1 w2 w3 : World} {g : Nat} {R : Led × Int} {V' : Nat → Value} (hE : Ext w w1) (hI : LedIs w2 R.1 V') (hl : ∀ j, j < 4 → ∀ p, (V' j).ownBlock = some p → w1.heap.size ≤ p ∧ p < w2.heap.size) (hE2 : Ext w1 w2)
   (hg : w2.grownBy w3 (some g)) (hlo : w.heap.size ≤ g) (hg1 : g < w1.heap.size) : ChangeP w R (.returned (.tuple #[.agg (ledC R.1 V'), .int .i64 R.2])) w3 :=
 ⟨V', rfl, hI.kept hg (fun j hj p hp e => by have := hl j hj p hp; injection e with e; omega), fun j hj p hp => by have := hl j hj p hp; have := hE.size; have := hg.size; omega,
   grown_trans (ext_trans hE hE2) hg (fun p hp hlt => by injection hp with hp; omega)⟩
structure Laid6 (w w1 : World) (L : Led) (V : Nat → Value) (v1 v2 v3 v4 : Value) : Prop where
 led : Blk w1 w.heap.size 56 (ledC L V)
 c1 : w1.cell? ⟨w.heap.size + 1, 0, none⟩ = some v1
 c2 : w1.cell? ⟨w.heap.size + 2, 0, none⟩ = some v2
 c3 : w1.cell? ⟨w.heap.size + 3, 0, none⟩ = some v3
 c4 : w1.cell? ⟨w.heap.size + 4, 0, none⟩ = some v4
 out : Blk w1 (w.heap.size + 5) 56 zeroC
 size : w1.heap.size = w.heap.size + 6
 ext : Ext w w1
theorem laid6 (w : World) (L : Led) (V : Nat → Value) (v1 v2 v3 v4 : Value) (t1 t2 t3 t4 : TypeId) :
   Laid6 w ((((((w.alloc (.cells (ledC L V) 56)).alloc (.cells #[v1] t1)).alloc (.cells #[v2] t2)).alloc (.cells #[v3] t3)).alloc (.cells #[v4] t4)).alloc (.cells zeroC 56)) L V v1 v2 v3 v4 := by
 refine ⟨(((((Blk.new w _ _).alloc _).alloc _).alloc _).alloc _).alloc _, ?_, ?_, ?_, ?_, Blk.newAt _ _ (by simp) _ _, by simp, ?_⟩
 · exact (((((Blk.newAt (w.alloc _) (w.heap.size + 1) (by simp) t1 #[v1]).alloc _).alloc _).alloc _).alloc _).cell 0
 · exact ((((Blk.newAt ((w.alloc _).alloc _) (w.heap.size + 2) (by simp) t2 #[v2]).alloc _).alloc _).alloc _).cell 0
 · exact (((Blk.newAt (((w.alloc _).alloc _).alloc _) (w.heap.size + 3) (by simp) t3 #[v3]).alloc _).alloc _).cell 0
 · exact ((Blk.newAt ((((w.alloc _).alloc _).alloc _).alloc _) (w.heap.size + 4) (by simp) t4 #[v4]).alloc _).cell 0
 · exact grown_alloc (grown_alloc (grown_alloc (grown_alloc (grown_alloc (World.grownBy_alloc w _ none) _) _) _) _) _
set_option maxHeartbeats 1600000 in
theorem create_any (L : Led) (V : Nat → Value) (t s r : Int) (gv : Value) (xs : List Int) (w : World) (hL : LedIs w L V) (hm : ∀ j, j < 4 → (L.t j).bs.length ≤ 1048576) (hI : Ints w gv xs) (hx : xs.length ≤ 1048576) (hgo : ∀ p, gv.ownBlock = some p → p < w.heap.size) :
   Calls Tryz.prog 100 #[.agg (ledC L V), .int .i64 t, .int .i64 s, .int .i64 r, gv] w (ChangeP w (createS L t s r xs)) := by
 obtain ⟨ga, gc, _, _, rfl, _⟩ := hI.form
 have hW := laid6 w L V (.int .i64 t) (.int .i64 s) (.int .i64 r) (.slice ga xs.length gc) 3 3 3 24
 obtain ⟨w1, hw1⟩ : ∃ v, (((((w.alloc (.cells (ledC L V) 56)).alloc (.cells #[.int .i64 t] 3)).alloc (.cells #[.int .i64 s] 3)).alloc (.cells #[.int .i64 r] 3)).alloc (.cells #[.slice ga xs.length gc] 24)).alloc (.cells zeroC 56) = v := ⟨_, rfl⟩
 rw [hw1] at hW
 have HW := Lib.hid hW
 have HL := Lib.hid hL
 have HI := Lib.hid hI
 have c1 := hW.c1
 have c2 := hW.c2
 have c3 := hW.c3
 have c4 := hW.c4
 have hbo := hW.out
 have hbl := hW.led
 have hn := (noLed_is w).slices
 have lo : w.heap.size ≤ w.heap.size + 5 := by omega
 clear hW hL hI
 by_cases ht : inB t 0 3 = true
 · obtain ⟨k, rfl⟩ : ∃ k : Nat, t = k := ⟨t.toNat, by simp [inB] at ht; omega⟩
   have hk : k < 4 := by simp [inB] at ht; omega
   have T := fun w => isTenant_any k w
   rw [ht] at T
   unfold createS
   rw [if_pos ht]
   simp only [Int.toNat_natCast]
   have ct := (hbl.cell _).trans (led_th L V hk)
   by_cases hth : (L.t k).th = true
   · rw [if_pos hth]
     rw [hth] at ct
     clear hth ht
     go_enter Tryz.func100, Tryz.ntmps100
     go_wp2_with (first
       | (go_at_call 135; refine (T _).mono ?_; rintro e w' ⟨rfl, rfl⟩)
       | (refine led_store (L := noLed) (V := fun _ => nilS) _ _ rfl rfl rfl hbo rfl hn rfl ?_; intro w5 hb5 hg5 hs5))
     refine bodyPost_ret (v := .tuple #[.agg (ledC noLed fun _ => nilS), .int .i64 7]) (results_cell_row2 (fn := Tryz.f100) rfl rfl rfl hb5 Tryz.underlying56 rfl Tryz.sizeLed) rfl ?_
     exact change_no HW.out.ext hg5 lo
   · rw [if_neg hth]
     have hth' : (L.t k).th = false := by simpa using hth
     rw [hth'] at ct
     have C := fun w => ruleCheck_any s r w
     clear hth hth' ht
     by_cases hroom : roomE s r = 0
     · rw [if_pos hroom]
       rw [hroom] at C
       clear hroom
       by_cases heps : L.eps = 2147483647
       · rw [if_pos heps]
         have ce := (hbl.cell 1).trans (led_eps L V)
         rw [heps] at ce
         clear heps
         go_enter Tryz.func100, Tryz.ntmps100
         go_wp2_with (first
           | (go_at_call 135; refine (T _).mono ?_; rintro e w' ⟨rfl, rfl⟩)
           | (go_at_call 136; refine (C _).mono ?_; rintro e w' ⟨rfl, rfl⟩)
           | (refine led_store (L := noLed) (V := fun _ => nilS) _ _ rfl rfl rfl hbo rfl hn rfl ?_; intro w5 hb5 hg5 hs5))
         refine bodyPost_ret (v := .tuple #[.agg (ledC noLed fun _ => nilS), .int .i64 4]) (results_cell_row2 (fn := Tryz.f100) rfl rfl rfl hb5 Tryz.underlying56 rfl Tryz.sizeLed) rfl ?_
         exact change_no HW.out.ext hg5 lo
       · rw [if_neg heps]
         have ce := (hbl.cell 1).trans (led_eps L V)
         have hne : (L.eps == 2147483647) = false := by simpa using heps
         clear heps
         have D := changedCreate_any L V w1 (.pointer (some ⟨w.heap.size + 2, 0, none⟩)) (.pointer (some ⟨w.heap.size + 3, 0, none⟩)) (.pointer (some ⟨w.heap.size + 4, 0, none⟩)) (.pointer (some ⟨w.heap.size + 1, 0, none⟩)) (createL (bump L) k s r xs) (HL.out.ext HW.out.ext) hm
           (fun w2 b V1 hE hR => createDo_done _ _ _ _ k s r _ xs hR (hE.cell HW.out.c2 (by simp)) (hE.cell HW.out.c3 (by simp)) (hE.cell HW.out.c4 (by simp)) (hE.cell HW.out.c1 (by simp)) (by have := HW.out.size; omega) (by have := HW.out.size; omega) (by have := HW.out.size; omega) (by have := HW.out.size; omega)
             ((HI.out.kept HW.out.ext (by simp)).kept hE (by simp)) hx hk (fun p hp => by have := hgo p hp; have := HW.out.size; omega))
         go_enter Tryz.func100, Tryz.ntmps100
         go_wp2_with (first
           | (go_at_call 135; refine (T _).mono ?_; rintro e w' ⟨rfl, rfl⟩)
           | (go_at_call 136; refine (C _).mono ?_; rintro e w' ⟨rfl, rfl⟩)
           | (refine led_load _ rfl rfl hbl rfl ?_)
           | (go_at_call 137; refine D.mono ?_; rintro e w2 ⟨V', rfl, hI2, hl2, hE2⟩; have hbo2 := hbo.ext hE2)
           | (refine led_store _ _ rfl rfl rfl hbo2 rfl hI2.slices rfl ?_; intro w5 hb5 hg5 hs5))
         refine bodyPost_ret (v := .tuple #[.agg (ledC (changedS L (createL (bump L) k s r xs)).1 V'), .int .i64 (changedS L (createL (bump L) k s r xs)).2]) (results_cell_row2 (fn := Tryz.f100) rfl rfl rfl hb5 Tryz.underlying56 rfl Tryz.sizeLed) rfl ?_
         exact change_yes HW.out.ext hI2 hl2 hE2 hg5 lo (by have := HW.out.size; omega)
     · rw [if_neg hroom]
       have h5 : roomE s r = 5 := by unfold roomE at hroom ⊢; split <;> simp_all
       rw [h5] at C ⊢
       clear hroom h5
       go_enter Tryz.func100, Tryz.ntmps100
       go_wp2_with (first
         | (go_at_call 135; refine (T _).mono ?_; rintro e w' ⟨rfl, rfl⟩)
         | (go_at_call 136; refine (C _).mono ?_; rintro e w' ⟨rfl, rfl⟩)
         | (refine led_store (L := noLed) (V := fun _ => nilS) _ _ rfl rfl rfl hbo rfl hn rfl ?_; intro w5 hb5 hg5 hs5))
       refine bodyPost_ret (v := .tuple #[.agg (ledC noLed fun _ => nilS), .int .i64 5]) (results_cell_row2 (fn := Tryz.f100) rfl rfl rfl hb5 Tryz.underlying56 rfl Tryz.sizeLed) rfl ?_
       exact change_no HW.out.ext hg5 lo
 · have ht : inB t 0 3 = false := by simpa using ht
   have T := fun w => isTenant_any t w
   rw [ht] at T
   unfold createS
   rw [ht]
   simp only [Bool.false_eq_true, if_false]
   clear ht
   go_enter Tryz.func100, Tryz.ntmps100
   go_wp2_with (first
     | (go_at_call 135; refine (T _).mono ?_; rintro e w' ⟨rfl, rfl⟩)
     | (refine led_store (L := noLed) (V := fun _ => nilS) _ _ rfl rfl rfl hbo rfl hn rfl ?_; intro w5 hb5 hg5 hs5))
   refine bodyPost_ret (v := .tuple #[.agg (ledC noLed fun _ => nilS), .int .i64 5]) (results_cell_row2 (fn := Tryz.f100) rfl rfl rfl hb5 Tryz.underlying56 rfl Tryz.sizeLed) rfl ?_
   exact change_no HW.out.ext hg5 lo
end Go.Proofs.YtfgifgglcafadaaGreatDoor

namespace Go.Proofs.YtfgifgglcafadaaGreatDoor
set_option linter.unusedVariables false
set_option linter.unusedSimpArgs false
set_option linter.unusedVariables false
set_option linter.unusedSimpArgs false
set_option maxRecDepth 100000
open Go.RowKit
end Go.Proofs.YtfgifgglcafadaaGreatDoor

namespace Go.Proofs.YtfgifgglcafadaaGreatDoor
set_option linter.unusedVariables false
set_option linter.unusedSimpArgs false
set_option linter.unusedVariables false
set_option linter.unusedSimpArgs false
set_option maxRecDepth 100000
open Go.RowKit
end Go.Proofs.YtfgifgglcafadaaGreatDoor

namespace Go.Proofs.YtfgifgglcafadaaGreatDoor
set_option linter.unusedVariables false
set_option linter.unusedSimpArgs false
set_option linter.unusedVariables false
set_option linter.unusedSimpArgs false
set_option maxRecDepth 100000
open Go.RowKit
end Go.Proofs.YtfgifgglcafadaaGreatDoor

namespace Go.Proofs.YtfgifgglcafadaaGreatDoor
set_option linter.unusedVariables false
set_option linter.unusedSimpArgs false
set_option linter.unusedVariables false
set_option linter.unusedSimpArgs false
set_option maxRecDepth 100000
open Go.RowKit
end Go.Proofs.YtfgifgglcafadaaGreatDoor

namespace Go.Proofs.YtfgifgglcafadaaGreatDoor
set_option linter.unusedVariables false
set_option linter.unusedSimpArgs false
set_option linter.unusedVariables false
set_option linter.unusedSimpArgs false
set_option maxRecDepth 100000
open Go.RowKit
end Go.Proofs.YtfgifgglcafadaaGreatDoor

namespace Go.Proofs.YtfgifgglcafadaaGreatDoor
set_option linter.unusedVariables false
set_option linter.unusedSimpArgs false
set_option linter.unusedVariables false
set_option linter.unusedSimpArgs false
set_option maxRecDepth 100000
open Go.RowKit
end Go.Proofs.YtfgifgglcafadaaGreatDoor

namespace Go.Proofs.YtfgifgglcafadaaGreatDoor
set_option linter.unusedVariables false
set_option linter.unusedSimpArgs false
set_option linter.unusedVariables false
set_option linter.unusedSimpArgs false
set_option maxRecDepth 100000
open Go.RowKit
@[reducible] def zeroTC : Array Value := #[.bool false, .int .i64 0, .int .i64 0, .int .i64 0, .slice none 0 0]
def tenB (x y : Ten) : Bool := x.th == y.th && x.ep == y.ep && x.sz == y.sz && x.sp == y.sp && x.bs == y.bs
theorem beqNe_nat' {a b : Nat} (h : a ≠ b) : ((a : Int) != (b : Int)) = true := by simp; omega
theorem ten_th (x : Ten) (v : Value) : (tenC x v)[0]? = some (.bool x.th) := rfl
theorem ten_ep (x : Ten) (v : Value) : (tenC x v)[1]? = some (.int .i64 x.ep) := rfl
theorem ten_sz (x : Ten) (v : Value) : (tenC x v)[2]? = some (.int .i64 x.sz) := rfl
theorem ten_sp (x : Ten) (v : Value) : (tenC x v)[3]? = some (.int .i64 x.sp) := rfl
theorem ten_bs (x : Ten) (v : Value) : (tenC x v)[4]? = some v := rfl
set_option maxHeartbeats 3200000 in
theorem same10_eq (A : Led) (VA VB : Nat → Value) (w : World) (hA : LedIs w A VA) (hB : LedIs w A VB) (hm : ∀ j, j < 4 → (A.t j).bs.length ≤ 9223372036854775807) :
   Calls Tryz.prog 33 #[.agg (ledC A VA), .agg (ledC A VB)] w fun e w' => e = .returned (.bool true) ∧ Ext w w' := by
 have hb0 := (Blk.new w 56 (ledC A VA)).alloc (.cells (ledC A VB) 56)
 have hb1 := Blk.newAt (w.alloc (.cells (ledC A VA) 56)) (w.heap.size + 1) (by simp) 56 (ledC A VB)
 have hE := grown_alloc (World.grownBy_alloc w (.cells (ledC A VA) 56) none) (.cells (ledC A VB) 56)
 obtain ⟨w1, hw1⟩ : ∃ v, (w.alloc (.cells (ledC A VA) 56)).alloc (.cells (ledC A VB) 56) = v := ⟨_, rfl⟩
 rw [hw1] at hb0 hb1 hE
 have a0 := (hb0.cell 0).trans (led_gen A VA)
 have a1 := (hb0.cell 1).trans (led_eps A VA)
 have b0 := (hb1.cell 0).trans (led_gen A VB)
 have b1 := (hb1.cell 1).trans (led_eps A VB)
 have HA := Lib.hid (hA.ext hE)
 have HB := Lib.hid (hB.ext hE)
 have HE := Lib.hid hE
 have H1 := Lib.hid hb1
 clear hA hB hE hb1
 go_enter Tryz.func33, Tryz.ntmps33
 go_wp2_with (refine tens_load _ rfl rfl hb0 rfl ?_)
 clear hw1 a0 a1 b0 b1 hb0
 go_loopw [23] (fun i wr => ∃ k : Nat, k ≤ 4 ∧ i = .int .i64 k ∧ Ext w1 wr) (fun i _ => 4 - (intOf i).toNat)
 case atStart => exact ⟨0, by omega, rfl, Ext.refl w1⟩
 case round =>
   obtain ⟨k, hk, rfl, hE1⟩ := hrel
   obtain ⟨wo, rfl⟩ : ∃ wo : World, wo = wr := ⟨_, rfl⟩
   by_cases hlt : k < 4
   · have hix := tens_at A VA hlt
     have hbB := H1.out.ext hE1
     have hIx := (HA.out k hlt).kept hE1 (by simp)
     have hIy := (HB.out k hlt).kept hE1 (by simp)
     have hSx := hIx.slice
     have hSy := hIy.slice
     obtain ⟨ax, cx, bx, ox, hVx, hcx⟩ := hIx.form
     obtain ⟨ay, cy, by_, oy, hVy, hcy⟩ := hIy.form
     have HVx := Lib.hid hVx
     have HVy := Lib.hid hVy
     have HCx := Lib.hid hcx
     have HCy := Lib.hid hcy
     have hmx := hm k hlt
     clear hIx hIy hVx hVy hcx hcy
     have hBn6 := Blk.new wo 53 zeroTC
     obtain ⟨x, hx⟩ : ∃ x, A.t k = x := ⟨_, rfl⟩
     obtain ⟨vx, hvx⟩ : ∃ v, VA k = v := ⟨_, rfl⟩
     obtain ⟨vy, hvy⟩ : ∃ v, VB k = v := ⟨_, rfl⟩
     have hpart : (ledC A VB).extract (2 + k * 5) (2 + k * 5 + 5) = tenC x vy := by rw [← hx, ← hvy]; exact led_ten A VB hlt
     have HPART := Lib.hid hpart
     rw [hx, hvx] at hix
     rw [hx, hvx] at HVx
     rw [hx, hvy] at HVy
     rw [hx] at HCx HCy hmx
     rw [hvx] at hSx
     rw [hvy] at hSy
     clear hx hvx hvy hpart
     obtain ⟨xt, xe, xs, xp, xb⟩ := x
     obtain ⟨nx, hnx⟩ : ∃ n, xb.length = n := ⟨_, rfl⟩
     simp only [] at HVx HVy HCx HCy hmx
     have hny := hnx
     go_wp2_with (first
       | (refine ten_store _ _ rfl rfl rfl hBn6 rfl hSx rfl ?_; intro w6 hb6 hg6 hs6; clear hBn6 hs6; have hE6 := grown_trans (World.grownBy_alloc wo (.cells zeroTC 53) none) hg6 (fun p hp hlt => by injection hp with hp; omega); have hb6B := hbB.ext hE6; have hBn7 := Blk.new w6 53 zeroTC)
       | (refine wpList_load_part rfl _ _ rfl _ (2 + k * 5) 5 rfl _ _ _ _ _ hb6B HPART.out rfl Tryz.underlying53 rfl Tryz.sizeTen ?_)
       | (refine ten_store _ _ rfl rfl rfl hBn7 rfl hSy rfl ?_; intro w7 hb7 hg7 hs7; clear hBn7; have hE7 := grown_trans (World.grownBy_alloc w6 (.cells zeroTC 53) none) hg7 (fun p hp hlt => by injection hp with hp; omega); have hb6x := hb6.ext hE7; have HE7 := Lib.hid (ext_trans hE1 (ext_trans hE6 hE7)); have HEx := Lib.hid (ext_trans hE6 hE7); have x0 : w7.cell? ⟨wo.heap.size, 0, none⟩ = some (.bool xt) := (hb6x.cell 0).trans (ten_th _ _); have x1 : w7.cell? ⟨wo.heap.size, 1, none⟩ = some (.int .i64 xe) := (hb6x.cell 1).trans (ten_ep _ _); have x2 : w7.cell? ⟨wo.heap.size, 2, none⟩ = some (.int .i64 xs) := (hb6x.cell 2).trans (ten_sz _ _); have x3 : w7.cell? ⟨wo.heap.size, 3, none⟩ = some (.int .i64 xp) := (hb6x.cell 3).trans (ten_sp _ _); have x4 := (hb6x.cell 4).trans (ten_bs _ _); have y0 := (hb7.cell 0).trans (ten_th _ _); have y1 := (hb7.cell 1).trans (ten_ep _ _); have y2 := (hb7.cell 2).trans (ten_sz _ _); have y3 := (hb7.cell 3).trans (ten_sp _ _); have y4 := (hb7.cell 4).trans (ten_bs _ _); simp only [] at y0 y1 y2 y3; rw [HVx.out] at x4; rw [HVy.out] at y4; rw [hnx] at x4; rw [hny] at y4; clear hE6 hE7 hb6 hb6B hb6x hb7 hg6 hg7 hs7)
       | (refine wpList_pass rfl ?_ ?_; (simp only [Act.put, List.setIfInBounds_toArray, List.set_cons_succ, List.set_cons_zero]; rfl)))
     obtain ⟨g6, hg6'⟩ : ∃ g, wo.heap.size = g := ⟨_, rfl⟩
     obtain ⟨g7, hg7'⟩ : ∃ g, w6.heap.size = g := ⟨_, rfl⟩
     rw [hg6'] at x0 x1 x2 x3 x4 ⊢
     rw [hg7'] at y0 y1 y2 y3 y4 ⊢
     have HX4 := Lib.hid x4
     have HY4 := Lib.hid y4
     have HE1 := Lib.hid hE1
     clear x0 x1 x2 x3 x4 y0 y1 y2 y3 y4 hg6' hg7' hE1 hbB hix
     go_loopw [69] (fun i wr => ∃ n : Nat, n ≤ nx ∧ i = .int .i64 n ∧ Ext w7 wr) (fun i _ => nx - (intOf i).toNat)
     case atStart => exact ⟨0, by omega, rfl, Ext.refl w7⟩
     case round =>
       obtain ⟨n, hn, rfl, hE8⟩ := hrel
       have hx4 := hE8.cell HX4.out (by simp)
       have hy4 := hE8.cell HY4.out (by simp)
       by_cases hltn : n < nx
       · obtain ⟨rfl, cx8⟩ := HCx.out n (by rw [hnx]; exact hltn)
         obtain ⟨rfl, cy8⟩ := HCy.out n (by rw [hnx]; exact hltn)
         have cx9 := hE8.cell ((HEx.out.cell cx8 (by simp))) (by simp)
         have cy9 := hE8.cell ((HEx.out.cell cy8 (by simp))) (by simp)
         obtain ⟨ex, hex⟩ : ∃ e, xb.getD n 0 = e := ⟨_, rfl⟩
         rw [hex] at cx9 cy9
         let S : World → Prop := fun z => z.cell? ⟨g6, 4, none⟩ = some (.slice (some ⟨bx, ox, none⟩) nx cx) ∧ z.cell? ⟨g7, 4, none⟩ = some (.slice (some ⟨by_, oy, none⟩) nx cy) ∧ z.cell? ⟨bx, ox + n, none⟩ = some (.int .i64 ex) ∧ z.cell? ⟨by_, oy + n, none⟩ = some (.int .i64 ex)
         have hS : S wr.drew := ⟨hx4, hy4, cx9, cy9⟩
         have HE8 := Lib.hid (ext_trans hE8 (Ext.drew wr))
         clear hx4 hy4 cx8 cy8 cx9 cy9 hex hE8
         go_wp2
         refine region_line [(0, true), (1, true), (2, true), (3, true), (4, true), (5, true), (6, true), (7, true), (8, true), (9, true), (10, true)] S (by kernel_rfl) (by kernel_rfl) (fun _ _ _ d _ h => by cases d <;> exact h) hS ?_
         repeat (refine line_read (a' := ?_) rfl (by kernel_rfl) (by kernel_rfl) hS (fun x hx K hK => ?_) ?_; rotate_left; · (obtain ⟨x1, x2, x3, x4⟩ := hx; go_wp2; exact hK))
         refine line_end ?_
         go_wp2
         go_roundw
         case rel => exact ⟨n + 1, by omega, by go_num, HE8.out⟩
         case measure => simp [intOf]; omega
       · obtain rfl : n = nx := by omega
         have HE9 := Lib.hid hE8
         clear hx4 hy4 hE8
         go_wp2
         go_roundw
         case rel => exact ⟨k + 1, by omega, by go_num, ext_trans HE7.out HE9.out⟩
         case measure => simp [intOf]; omega
   · obtain rfl : k = 4 := by omega
     go_wp2
     go_ret
     exact ⟨rfl, ext_trans HE.out hE1⟩
end Go.Proofs.YtfgifgglcafadaaGreatDoor

namespace Go.Proofs.YtfgifgglcafadaaGreatDoor
set_option linter.unusedVariables false
set_option linter.unusedSimpArgs false
set_option linter.unusedVariables false
set_option linter.unusedSimpArgs false
set_option maxRecDepth 100000
open Go.RowKit
def firstB (p : Nat → Bool) : Int := if p 0 = true then 0 else if p 1 = true then 1 else if p 2 = true then 2 else if p 3 = true then 3 else -1
theorem firstB_at {p : Nat → Bool} {k : Nat} (hk : k < 4) (h : p k = true) (hb : ∀ j, j < k → p j = false) : firstB p = k := by
 obtain rfl | rfl | rfl | rfl : k = 0 ∨ k = 1 ∨ k = 2 ∨ k = 3 := by omega
 · simp [firstB, h]
 · simp [firstB, h, hb 0 (by omega)]
 · simp [firstB, h, hb 0 (by omega), hb 1 (by omega)]
 · simp [firstB, h, hb 0 (by omega), hb 1 (by omega), hb 2 (by omega)]
theorem firstB_no {p : Nat → Bool} (hb : ∀ j, j < 4 → p j = false) : firstB p = -1 := by
 simp [firstB, hb 0 (by omega), hb 1 (by omega), hb 2 (by omega), hb 3 (by omega)]
end Go.Proofs.YtfgifgglcafadaaGreatDoor

namespace Go.Proofs.YtfgifgglcafadaaGreatDoor
set_option linter.unusedVariables false
set_option linter.unusedSimpArgs false
set_option linter.unusedVariables false
set_option linter.unusedSimpArgs false
set_option maxRecDepth 100000
open Go.RowKit Go.Maps
def takenTo (L : Led) : Nat → List Int
 | 0 => []
 | k + 1 => takenTo L k ++ (L.t k).bs
def takenL (L : Led) : List Int := takenTo L 4
theorem takenTo_len {L : Led} (hm : ∀ j, j < 4 → (L.t j).bs.length ≤ 1048576) : ∀ k, k ≤ 4 → (takenTo L k).length ≤ k * 1048576
 | 0, _ => by simp [takenTo]
 | k + 1, h => by
   have h1 := takenTo_len hm k (by omega)
   have h2 := hm k (by omega)
   simp only [takenTo, List.length_append]
   omega
def WfL (xs : List Int) : Prop := ∀ n ∈ xs, (Lit.int .i64 n).wf = true
theorem takenTo_wf {L : Led} (h : ∀ j, j < 4 → WfL (L.t j).bs) : ∀ k, k ≤ 4 → WfL (takenTo L k)
 | 0, _ => fun n hn => by simp [takenTo] at hn
 | k + 1, hk => fun n hn => by
   simp only [takenTo, List.mem_append] at hn
   rcases hn with hn | hn
   · exact takenTo_wf h k (by omega) n hn
   · exact h k (by omega) n hn
set_option maxHeartbeats 800000 in
theorem taken10_any (L : Led) (V : Nat → Value) (w : World) (hL : LedIs w L V) (hm : ∀ j, j < 4 → (L.t j).bs.length ≤ 1048576) :
   Calls Tryz.prog 168 #[.agg (ledC L V)] w fun e w' => ∃ v, e = .returned v ∧ OwnI w.heap.size w' v (takenL L) ∧ Ext w w' := by
 have hb := Blk.new w 56 (ledC L V)
 have hE0 := World.grownBy_alloc w (.cells (ledC L V) 56) none
 obtain ⟨w1, hw1⟩ : ∃ v, w.alloc (.cells (ledC L V) 56) = v := ⟨_, rfl⟩
 rw [hw1] at hb hE0
 have HL := Lib.hid (hL.ext hE0)
 have HE0 := Lib.hid hE0
 clear hL hE0
 go_enter Tryz.func168, Tryz.ntmps168
 go_wp2_with (refine tens_load _ rfl rfl hb rfl ?_)
 clear hw1 hb
 go_loopw [3, 8] (fun x i wr => ∃ (k : Nat) (v : Value), k ≤ 4 ∧ v = x ∧ i = .int .i64 k ∧ OwnI w1.heap.size wr v (takenTo L k) ∧ Ext w1 wr) (fun _ i _ => 4 - (intOf i).toNat)
 case atStart => exact ⟨0, _, by omega, rfl, rfl, World.ownsRow_nil w1 _ _ _, Ext.refl w1⟩
 case round =>
   obtain ⟨k, v, hk, hvx, rfl, hO, hE1⟩ := hrel
   subst hvx
   have HO := Lib.hid hO
   have HE1 := Lib.hid hE1
   by_cases hlt : k < 4
   · have hix := tens_at L V hlt
     have hI := (HL.out k hlt).kept hE1 (by simp)
     have hS := hI.slice
     obtain ⟨ao, cp, _, _, hv, _⟩ := hI.form
     have HV := Lib.hid hv
     have HI := Lib.hid hI
     have hBn := Blk.new wr 53 zeroTC
     have HT := Lib.hid (And.intro (takenTo_len hm k hk) (hm k hlt))
     clear hI hv hE1 hO hm
     go_wp2_with (first
       | (refine ten_store _ _ rfl rfl rfl hBn rfl hS rfl ?_; intro w6 hb6 hg6 hs6; clear hBn hs6; have c4 := (hb6.cell 4).trans (ten_bs _ _); rw [HV.out] at c4; have HG6 := Lib.hid (grown_trans (World.grownBy_alloc wr (.cells zeroTC 53) none) hg6 (fun p hp hlt => by injection hp with hp; omega)); clear hg6 hb6)
       | (at_builtin; go_loud (refine append_ints rfl _ _ rfl w1.heap.size v (takenTo L k) rfl (own_kept HO.out HG6.out (by simp)) _ (L.t k).bs rfl ?_ ?_ ?_ ?_); (have hq := HI.out.kept HG6.out (by simp); rw [HV.out] at hq; exact hq); (have hq := HT.out; omega); (have hq := HE1.out.size; have hq2 := HG6.out.size; omega); intro v7 w7 ho7 hg7 _; have HO7 := Lib.hid ho7; have HE7 := Lib.hid (ext_own (ext_trans HE1.out HG6.out) (own_kept HO.out HG6.out (by simp)) (Nat.le_refl _) hg7); clear ho7 hg7 c4))
     go_roundw
     case rel => exact ⟨k + 1, _, by omega, rfl, by go_num, HO7.out, HE7.out⟩
     case measure => simp [intOf]; omega
   · obtain rfl : k = 4 := by omega
     clear hE1 hO
     go_wp2
     go_ret
     exact ⟨_, rfl, ownsRow_le HO.out HE0.out.size, ext_trans HE0.out HE1.out⟩
theorem Tryz.keyedInt : Keyed Tryz.prog 3 := int_keyed Tryz.underlying3
theorem Tryz.zeroUnit (w : World) : (zeroValue 118).run Tryz.prog w = .ok (.agg #[]) w := by kernel_rfl
def setD (xs : List Int) : DataW Unit := setOf (.agg []) (xs.map (Lit.int .i64))
theorem setD_snoc (xs : List Int) (x : Int) : setD (xs ++ [x]) = (setD xs).put (.int .i64 x) (.agg []) := by
 unfold setD
 rw [List.map_append]
 exact setOf_snoc _ _ _
abbrev SetAt (w : World) (b n : Nat) (xs : List Int) : Prop := w.ownsMap Tryz.prog 3 (unitElem (H := Unit)) b n (setD xs)
theorem take_snocI {xs : List Int} {k : Nat} (h : k < xs.length) : xs.take (k + 1) = xs.take k ++ [xs.getD k 0] := by
 rw [List.take_succ_eq_append_getElem h, List.getD_eq_getElem?_getD, List.getElem?_eq_getElem h]
 rfl
theorem Tryz.mapHint (n : Int) (w : World) : (Instr.makeMap 218 (some (.int .i64 n))).run Tryz.prog w = .ok (.map (some w.heap.size)) (w.alloc (.map #[] 0)) := by kernel_rfl
set_option maxHeartbeats 800000 in
theorem set10_any (v : Value) (xs : List Int) (w : World) (hI : Ints w v xs) (hm : xs.length ≤ 16777216) (hwf : WfL xs) :
   Calls Tryz.prog 167 #[v] w fun e w' => ∃ b, e = .returned (.map (some b)) ∧ SetAt w' b xs.length xs ∧ w.heap.size ≤ b ∧ Ext w w' := by
 obtain ⟨ao, cp, bb, oo, rfl, hc⟩ := hI.form
 have HC := Lib.hid hc
 have HWF := Lib.hid hwf
 have hmm := Tryz.mapHint xs.length
 have hmade : SetAt (w.alloc (.map #[] 0)) w.heap.size 0 [] := World.ownsMap_made w Tryz.prog 3 unitElem
 have hE0 := World.grownBy_alloc w (.map #[] 0) none
 obtain ⟨w1, hw1⟩ : ∃ v, w.alloc (.map #[] 0) = v := ⟨_, rfl⟩
 rw [hw1] at hmade hE0
 have HM := Lib.hid hmade
 have HE0 := Lib.hid hE0
 clear hI hc hwf hmade hE0
 go_enter Tryz.func167, Tryz.ntmps167
 go_wp2
 clear hw1 hmm
 obtain ⟨mb, hmb⟩ : ∃ b, w.heap.size = b := ⟨_, rfl⟩
 rw [hmb] at HM ⊢
 have HMB := Lib.hid hmb
 clear hmb
 go_loopw [11] (fun i wr => ∃ k : Nat, k ≤ xs.length ∧ i = .int .i64 k ∧ SetAt wr mb k (xs.take k) ∧ w1.grownBy wr (some mb)) (fun i _ => xs.length - (intOf i).toNat)
 case atStart => exact ⟨0, by omega, rfl, HM.out, gb_refl w1 _⟩
 case round =>
   obtain ⟨k, hk, rfl, hown, hG⟩ := hrel
   have HG := Lib.hid hG
   by_cases hlt : k < xs.length
   · obtain ⟨rfl, cx⟩ := HC.out k hlt
     have hbbw : bb < w.heap.size := World.block_lt_of_cell? w _ cx
     have cx1 := hG.cell (HE0.out.cell cx (by simp)) (fun e => absurd (Option.some.inj e) (by show bb ≠ mb; rw [← HMB.out]; omega))
     obtain ⟨x, hx⟩ : ∃ x, xs.getD k 0 = x := ⟨_, rfl⟩
     rw [hx] at cx1
     have hwx : (Lit.int .i64 x).wf = true := by
       refine HWF.out x ?_
       rw [← hx, List.getD_eq_getElem?_getD, List.getElem?_eq_getElem hlt]
       exact List.getElem_mem hlt
     have HX := Lib.hid hx
     have HW := Lib.hid hwx
     have HOW := Lib.hid hown
     clear cx hx hwx hG hown
     go_wp2_with (at_mapUpdate; go_loud (refine wpList_mapUpdate_own _ rfl _ _ _ 218 rfl 3 118 Tryz.keyedInt Tryz.underlying218 unitElem mb k _ rfl HOW.out (by unfold maxLen; omega) _ _ _ rfl rfl (keyOf_int_mk Tryz.underlying3 HW.out) _ [] unitElem_mk ?_); intro w2 hown2 hgrow2; have HO2 := Lib.hid hown2; have HG2 := Lib.hid hgrow2; clear hown2 hgrow2)
     go_roundw
     case rel =>
       refine ⟨k + 1, by omega, by go_num, ?_, gb_trans HG.out HG2.out⟩
       have h := HO2.out
       rw [← setD_snoc, ← HX.out, ← take_snocI hlt] at h
       exact h
     case measure => simp [intOf]; omega
   · obtain rfl : k = xs.length := by omega
     rw [List.take_length] at hown
     have HOW := Lib.hid hown
     clear hown hG
     go_wp2
     go_ret
     exact ⟨mb, rfl, HOW.out, by rw [HMB.out]; exact Nat.le_refl _, grown_trans HE0.out HG.out (fun p hp hlt => by injection hp with hp; have := HMB.out; omega)⟩
theorem set_has {xs : List Int} {x : Int} : Maps.has (setD xs) (.int .i64 x) = decide (x ∈ xs) := by
 unfold setD
 rw [has_setOf _ _ _ (fun y hy => by obtain ⟨n, _, rfl⟩ := List.mem_map.1 hy; trivial)]
 rw [Bool.eq_iff_iff]
 simp [List.any_map, Lit.sameKey]
end Go.Proofs.YtfgifgglcafadaaGreatDoor

namespace Go.Proofs.YtfgifgglcafadaaGreatDoor
set_option linter.unusedVariables false
set_option linter.unusedSimpArgs false
set_option linter.unusedVariables false
set_option linter.unusedSimpArgs false
set_option maxRecDepth 100000
open Go.RowKit
set_option maxHeartbeats 800000 in
theorem equalI_any (a b : Value) (xs ys : List Int) (w : World) (hA : Ints w a xs) (hB : Ints w b ys) (hm : xs.length ≤ 9223372036854775807) :
   Calls Tryz.prog 309 #[a, b] w fun e w' => e = .returned (.bool (xs == ys)) ∧ Ext w w' := by
 obtain ⟨aa, ca, ba, oa, rfl, hca⟩ := hA.form
 obtain ⟨ab, cb, bb, ob, rfl, hcb⟩ := hB.form
 have HA := Lib.hid hca
 have HB := Lib.hid hcb
 obtain ⟨na, hna⟩ : ∃ n, xs.length = n := ⟨_, rfl⟩
 obtain ⟨nb, hnb⟩ : ∃ n, ys.length = n := ⟨_, rfl⟩
 rw [hna] at hm
 rw [hna, hnb]
 have HNA := Lib.hid hna
 have HNB := Lib.hid hnb
 clear hA hB hca hcb hna hnb
 by_cases hl : na = nb
 · subst hl
   go_enter Tryz.func309, Tryz.ntmps309
   go_wp2
   go_loopw [13] (fun i wr => ∃ k : Nat, k ≤ na ∧ i = .int .i64 k ∧ (∀ j, j < k → xs.getD j 0 = ys.getD j 0) ∧ Ext w wr) (fun i _ => na - (intOf i).toNat)
   case atStart => exact ⟨0, by omega, rfl, fun j hj => by omega, Ext.refl w⟩
   case round =>
     obtain ⟨k, hk, rfl, hall, hE⟩ := hrel
     have ALL := Lib.hid hall
     clear hall
     by_cases hlt : k < na
     · obtain ⟨rfl, cx⟩ := HA.out k (by rw [HNA.out]; exact hlt)
       obtain ⟨rfl, cy⟩ := HB.out k (by rw [HNB.out]; exact hlt)
       have cx1 := hE.cell cx (by simp)
       have cy1 := hE.cell cy (by simp)
       obtain ⟨x, hx⟩ : ∃ x, xs.getD k 0 = x := ⟨_, rfl⟩
       obtain ⟨y, hy⟩ : ∃ y, ys.getD k 0 = y := ⟨_, rfl⟩
       rw [hx] at cx1
       rw [hy] at cy1
       have HXY := Lib.hid (And.intro hx hy)
       let S : World → Prop := fun z => z.cell? ⟨ba, oa + k, none⟩ = some (.int .i64 x) ∧ z.cell? ⟨bb, ob + k, none⟩ = some (.int .i64 y)
       have hS : S wr.drew := ⟨cx1, cy1⟩
       have HE := Lib.hid (ext_trans hE (Ext.drew wr))
       clear hx hy cx cy cx1 cy1 hE
       by_cases hxy : x = y
       · subst hxy
         go_wp2
         refine region_line [(0, true), (1, true), (2, true), (3, true), (4, true), (5, true), (6, true), (7, true), (8, true)] S (by kernel_rfl) (by kernel_rfl) (fun _ _ _ d _ h => by cases d <;> exact h) hS ?_
         repeat (refine line_read (a' := ?_) rfl (by kernel_rfl) (by kernel_rfl) hS (fun x hx K hK => ?_) ?_; rotate_left; · (obtain ⟨x1, x2⟩ := hx; go_wp2; exact hK))
         refine line_end ?_
         go_wp2
         go_roundw
         case rel =>
           refine ⟨k + 1, by omega, by go_num, fun j hj => ?_, HE.out⟩
           by_cases e : j = k
           · subst e; rw [HXY.out.1, HXY.out.2]
           · exact ALL.out j (by omega)
         case measure => simp [intOf]; omega
       · have hq : (x == y) = false := by simpa using hxy
         have hq2 : (x != y) = true := by simpa using hxy
         have HNE := Lib.hid hxy
         clear hxy
         go_wp2
         refine region_line [(0, true), (1, true), (2, true), (3, true), (4, true), (5, true), (6, true), (7, true), (8, true)] S (by kernel_rfl) (by kernel_rfl) (fun _ _ _ d _ h => by cases d <;> exact h) hS ?_
         repeat (refine line_read (a' := ?_) rfl (by kernel_rfl) (by kernel_rfl) hS (fun x hx K hK => ?_) ?_; rotate_left; · (obtain ⟨x1, x2⟩ := hx; go_wp2; exact hK))
         refine line_end ?_
         go_wp2
         go_ret
         refine ⟨ret_bool ?_, HE.out⟩
         have : xs ≠ ys := fun e => HNE.out (by rw [← HXY.out.1, ← HXY.out.2, e])
         simp [this]
     · obtain rfl : k = na := by omega
       have HE := Lib.hid hE
       clear hE
       go_wp2
       go_ret
       refine ⟨ret_bool ?_, HE.out⟩
       have : xs = ys := List.ext_getElem (HNA.out.trans HNB.out.symm) (fun m h1 h2 => by
         have := ALL.out m (by have := HNA.out; omega)
         simpa [List.getD_eq_getElem?_getD, h1, h2] using this)
       simp [this]
 · have hlne : ((na : Int) != (nb : Int)) = true := beqNe_nat' hl
   have HL := Lib.hid hl
   clear hl
   go_enter Tryz.func309, Tryz.ntmps309
   go_wp2
   go_ret
   refine ⟨ret_bool ?_, Ext.refl w⟩
   have : xs ≠ ys := fun e => HL.out (by rw [← HNA.out, ← HNB.out, e])
   simp [this]
set_option maxHeartbeats 1600000 in
theorem alike_any (x y : Ten) (u v : Value) (w : World) (hU : Ints w u x.bs) (hV : Ints w v y.bs) (hm : x.bs.length ≤ 9223372036854775807) :
   Calls Tryz.prog 284 #[.agg (tenC x u), .agg (tenC y v)] w fun e w' => e = .returned (.bool (tenB x y)) ∧ Ext w w' := by
 have hb0 := (Blk.new w 53 (tenC x u)).alloc (.cells (tenC y v) 53)
 have hb1 := Blk.newAt (w.alloc (.cells (tenC x u) 53)) (w.heap.size + 1) (by simp) 53 (tenC y v)
 have hE := grown_alloc (World.grownBy_alloc w (.cells (tenC x u) 53) none) (.cells (tenC y v) 53)
 have Q := equalI_any u v x.bs y.bs _ (hU.kept hE (by simp)) (hV.kept hE (by simp)) hm
 obtain ⟨au, cu, _, _, hu, _⟩ := hU.form
 obtain ⟨av, cv, _, _, hv, _⟩ := hV.form
 have HE := Lib.hid hE
 clear hE hU hV
 obtain ⟨xt, xe, xs, xp, xb⟩ := x
 obtain ⟨yt, ye, ys, yp, yb⟩ := y
 have x0 := (hb0.cell 0).trans (ten_th _ _)
 have x1 := (hb0.cell 1).trans (ten_ep _ _)
 have x2 := (hb0.cell 2).trans (ten_sz _ _)
 have x3 := (hb0.cell 3).trans (ten_sp _ _)
 have x4 := (hb0.cell 4).trans (ten_bs _ _)
 have y0 := (hb1.cell 0).trans (ten_th _ _)
 have y1 := (hb1.cell 1).trans (ten_ep _ _)
 have y2 := (hb1.cell 2).trans (ten_sz _ _)
 have y3 := (hb1.cell 3).trans (ten_sp _ _)
 have y4 := (hb1.cell 4).trans (ten_bs _ _)
 obtain ⟨w1, hw1⟩ : ∃ v', (w.alloc (.cells (tenC ⟨xt, xe, xs, xp, xb⟩ u) 53)).alloc (.cells (tenC ⟨yt, ye, ys, yp, yb⟩ v) 53) = v' := ⟨_, rfl⟩
 simp only [] at x0 x1 x2 x3 x4 y0 y1 y2 y3 y4 Q HE hu hv
 rw [hw1] at x0 x1 x2 x3 x4 y0 y1 y2 y3 y4 Q HE
 rw [hu] at x4 hw1 ⊢
 rw [hv] at y4 hw1 ⊢
 rw [hu, hv] at Q
 clear hb0 hb1 hu hv
 obtain ⟨q, hq⟩ : ∃ q, (xb == yb) = q := ⟨_, rfl⟩
 rw [hq] at Q
 have fin : tenB ⟨xt, xe, xs, xp, xb⟩ ⟨yt, ye, ys, yp, yb⟩ = (xt == yt && xe == ye && xs == ys && xp == yp && q) := by rw [← hq]; rfl
 rw [fin]
 clear hq fin
 by_cases h0 : xt = yt
 · subst h0
   by_cases h1 : xe = ye
   · subst h1
     by_cases h2 : xs = ys
     · subst h2
       by_cases h3 : xp = yp
       · subst h3
         go_enter Tryz.func284, Tryz.ntmps284
         go_wp2_with (go_at_call 309; refine Q.mono ?_; rintro e w' ⟨rfl, hE2⟩; have HE2 := Lib.hid hE2; clear hE2)
         go_ret
         exact ⟨ret_bool (by simp), ext_trans HE.out HE2.out⟩
       · have hq : (xp == yp) = false := by simpa using h3
         have H3 := Lib.hid h3
         clear h3
         go_enter Tryz.func284, Tryz.ntmps284
         go_wp2
         go_ret
         exact ⟨ret_bool (by simp), HE.out⟩
     · have hq : (xs == ys) = false := by simpa using h2
       have H3 := Lib.hid h2
       clear h2
       go_enter Tryz.func284, Tryz.ntmps284
       go_wp2
       go_ret
       exact ⟨ret_bool (by simp), HE.out⟩
   · have hq : (xe == ye) = false := by simpa using h1
     have H3 := Lib.hid h1
     clear h1
     go_enter Tryz.func284, Tryz.ntmps284
     go_wp2
     go_ret
     exact ⟨ret_bool (by simp), HE.out⟩
 · cases xt <;> cases yt
   · exact absurd rfl h0
   · clear h0
     go_enter Tryz.func284, Tryz.ntmps284
     go_wp2
     go_ret
     exact ⟨ret_bool (by simp), HE.out⟩
   · clear h0
     go_enter Tryz.func284, Tryz.ntmps284
     go_wp2
     go_ret
     exact ⟨ret_bool (by simp), HE.out⟩
   · exact absurd rfl h0
end Go.Proofs.YtfgifgglcafadaaGreatDoor

namespace Go.Proofs.YtfgifgglcafadaaGreatDoor
set_option linter.unusedVariables false
set_option linter.unusedSimpArgs false
set_option linter.unusedVariables false
set_option linter.unusedSimpArgs false
set_option maxRecDepth 100000
open Go.RowKit
def totS (s r p : Int) : Int := if rightB s r p = true then s / p + 2 + r else 0
theorem totS_bd (s r p : Int) : 0 ≤ totS s r p ∧ totS s r p ≤ 74 := by
 unfold totS
 split
 · rename_i h
   simp [rightB, inB] at h
   obtain ⟨⟨⟨s0, s1⟩, r0, r1⟩, p0, p1⟩ := h
   have q0 : 0 ≤ s / p := Int.ediv_nonneg (by omega) (by omega)
   have q1 : s / p ≤ 64 := Int.le_trans (Int.ediv_le_self _ (by omega)) s1
   omega
 · omega
set_option maxHeartbeats 800000 in
theorem ruleTotal_all (s r p : Int) (w : World) :
   Calls Tryz.prog 140 #[.int .i64 s, .int .i64 r, .int .i64 p] w fun e w' => e = .returned (.int .i64 (totS s r p)) ∧ w = w' := by
 unfold totS
 by_cases hv : rightB s r p = true
 · rw [if_pos hv]
   simp [rightB, inB] at hv
   obtain ⟨⟨hs, hr⟩, hp⟩ := hv
   exact ruleTotal_any s r p w hs hr hp
 · rw [if_neg hv]
   have C := ruleCheck_any s r
   have P := rulePages_any p
   by_cases h0 : roomE s r = 0
   · rw [h0] at C
     have hpg : inB p 2 16 = false := by
       cases hh : inB p 2 16
       · rfl
       · refine absurd ?_ hv
         unfold roomE at h0
         split at h0
         · rename_i h
           simp only [rightB, h.1, h.2, hh, Bool.and_self]
         · simp at h0
     rw [hpg] at P
     clear hv h0 hpg
     go_enter Tryz.func140, Tryz.ntmps140
     go_wp2_with (first
       | (go_at_call 136; refine (C _).mono ?_; rintro e w' ⟨rfl, rfl⟩)
       | (go_at_call 170; refine (P _).mono ?_; rintro e w' ⟨rfl, rfl⟩))
     go_ret
     exact ⟨rfl, rfl⟩
   · have h5 : roomE s r = 5 := by unfold roomE at h0 ⊢; split <;> simp_all
     rw [h5] at C
     clear hv h0 h5
     go_enter Tryz.func140, Tryz.ntmps140
     go_wp2_with (go_at_call 136; refine (C _).mono ?_; rintro e w' ⟨rfl, rfl⟩)
     go_ret
     exact ⟨rfl, rfl⟩
def outB (n b : Int) : Bool := decide (b < 2 ∨ n ≤ b)
theorem rightDo_any (b n : Int) (xb : Nat) (w : World) (hx : w.cell? ⟨xb, 0, none⟩ = some (.int .i64 n)) :
   Calls Tryz.prog 285 #[.int .i64 b, .pointer (some ⟨xb, 0, none⟩)] w fun e w' => e = .returned (.bool (outB n b)) ∧ w = w' := by
 by_cases h : b < 2
 · have e : decide (b < 2) = true := by simpa using h
   go_enter Tryz.func285, Tryz.ntmps285
   go_wp2
   go_ret
   exact ⟨ret_bool (by simp [outB, h]), rfl⟩
 · have e : decide (b < 2) = false := by simpa using h
   go_enter Tryz.func285, Tryz.ntmps285
   go_wp2
   go_ret
   exact ⟨ret_bool (by simp [outB]; omega), rfl⟩
set_option maxHeartbeats 800000 in
theorem indexRight_any (v : Value) (xs : List Int) (n : Int) (xb : Nat) (w : World) (hb : Ints w v xs) (hm : xs.length ≤ 9223372036854775807) (hx : w.cell? ⟨xb, 0, none⟩ = some (.int .i64 n)) :
   Calls Tryz.prog 129 #[v, .func (.func 285) #[] #[.pointer (some ⟨xb, 0, none⟩)]] w fun e w' => ∃ r : Int, e = .returned (.int .i64 r) ∧ w = w' ∧ ((0 ≤ r ∧ xs.any (outB n) = true) ∨ (r < 0 ∧ xs.any (outB n) = false)) := by
 obtain ⟨ao, cap, b, off, rfl, hc⟩ := hb.form
 have HC := Lib.hid hc
 clear hc hb
 go_enter Tryz.func129, Tryz.ntmps129
 go_wp2
 go_loopw [8] (fun i wr => ∃ k : Nat, k ≤ xs.length ∧ i = .int .i64 k ∧ (∀ j, j < k → outB n (xs.getD j 0) = false) ∧ w = wr) (fun i _ => xs.length - (intOf i).toNat)
 case atStart => exact ⟨0, by omega, rfl, fun j hj => by omega, rfl⟩
 case round =>
   obtain ⟨k, hk, rfl, hnot, rfl⟩ := hrel
   have NOT := Lib.hid hnot
   clear hnot
   by_cases hlt : k < xs.length
   · obtain ⟨rfl, hcell⟩ := HC.out k hlt
     obtain ⟨x, hx'⟩ : ∃ x, xs.getD k 0 = x := ⟨_, rfl⟩
     rw [hx'] at hcell
     have HX := Lib.hid hx'
     have D := rightDo_any x n xb w hx
     obtain ⟨p, hp⟩ : ∃ p, outB n x = p := ⟨_, rfl⟩
     rw [hp] at D
     have HP := Lib.hid hp
     clear hx' hp
     cases p
     · go_wp2_with (go_at_call 285; refine D.mono ?_; rintro e w' ⟨rfl, rfl⟩)
       go_roundw
       case rel =>
         refine ⟨k + 1, by omega, by go_num, fun j hj => ?_, trivial⟩
         by_cases e : j = k
         · subst e; rw [HX.out]; exact HP.out
         · exact NOT.out j (by omega)
       case measure => simp [intOf]; omega
     · go_wp2_with (go_at_call 285; refine D.mono ?_; rintro e w' ⟨rfl, rfl⟩)
       go_ret
       refine ⟨_, rfl, rfl, .inl ⟨by omega, ?_⟩⟩
       have h1 := HX.out
       rw [List.getD_eq_getElem?_getD, List.getElem?_eq_getElem hlt] at h1
       simp only [Option.getD_some] at h1
       exact List.any_eq_true.2 ⟨x, by rw [← h1]; exact List.getElem_mem hlt, HP.out⟩
   · obtain rfl : k = xs.length := by omega
     go_wp2
     go_ret
     refine ⟨_, rfl, rfl, .inr ⟨by omega, ?_⟩⟩
     rw [List.any_eq_false]
     intro y hmem
     obtain ⟨j, hj, hjn⟩ := List.mem_iff_getElem.1 hmem
     have h1 := NOT.out j hj
     rw [List.getD_eq_getElem?_getD, List.getElem?_eq_getElem hj] at h1
     simp only [Option.getD_some] at h1
     rw [← hjn, h1]
     simp
theorem containsRight_any (v : Value) (xs : List Int) (n : Int) (xb : Nat) (w : World) (hb : Ints w v xs) (hm : xs.length ≤ 9223372036854775807) (hx : w.cell? ⟨xb, 0, none⟩ = some (.int .i64 n)) :
   Calls Tryz.prog 85 #[v, .func (.func 285) #[] #[.pointer (some ⟨xb, 0, none⟩)]] w fun e w' => e = .returned (.bool (xs.any (outB n))) ∧ w = w' := by
 have I := indexRight_any v xs n xb w hb hm hx
 obtain ⟨ao, cap, b, off, rfl, hc⟩ := hb.form
 clear hc hb
 go_enter Tryz.func85, Tryz.ntmps85
 go_wp2_with (go_at_call 129; refine I.mono ?_; rintro e w' ⟨r, rfl, rfl, hr⟩; have HR := Lib.hid hr; clear hr)
 go_ret
 rcases HR.out with ⟨h1, h2⟩ | ⟨h1, h2⟩
 · exact ⟨ret_bool (by rw [h2]; simp; omega), rfl⟩
 · exact ⟨ret_bool (by rw [h2]; simp; omega), rfl⟩
def rightT (x : Ten) (newest blocks pages : Int) : Bool :=
 if x.th = true then decide (totS x.sz x.sp pages ≠ 0) && inB x.ep 1 newest && decide (totS x.sz x.sp pages ≤ x.bs.length) && decide ((x.bs.length : Int) + 2 ≤ blocks) && !x.bs.any (outB blocks)
 else tenB x noTen
set_option maxHeartbeats 1600000 in
theorem isRight_any (x : Ten) (v : Value) (m n p : Int) (w : World) (hI : Ints w v x.bs) (hm : x.bs.length ≤ 1048576) :
   Calls Tryz.prog 252 #[.agg (tenC x v), .int .i64 m, .int .i64 n, .int .i64 p] w fun e w' => e = .returned (.bool (rightT x m n p)) ∧ Ext w w' := by
 have hb0 := (Blk.new w 53 (tenC x v)).alloc (.cells #[.int .i64 n] 3)
 have hx := (Blk.newAt (w.alloc (.cells (tenC x v) 53)) (w.heap.size + 1) (by simp) 3 #[.int .i64 n]).cell 0
 have hE := grown_alloc (World.grownBy_alloc w (.cells (tenC x v) 53) none) (.cells #[.int .i64 n] 3)
 have hI1 := hI.kept hE (by simp)
 have A := alike_any x noTen v nilS _ hI1 (.inl ⟨rfl, rfl⟩) (by omega)
 have T := ruleTotal_all x.sz x.sp p
 have W := within10_any x.ep 1 m
 have F := containsRight_any v x.bs n (w.heap.size + 1) _ hI1 (by omega) hx
 obtain ⟨av, cv, _, _, hv, _⟩ := hI.form
 have HE := Lib.hid hE
 have htb := totS_bd x.sz x.sp p
 clear hE hI hI1
 obtain ⟨xt, xe, xs, xp, xb⟩ := x
 have x0 := (hb0.cell 0).trans (ten_th _ _)
 have x1 := (hb0.cell 1).trans (ten_ep _ _)
 have x2 := (hb0.cell 2).trans (ten_sz _ _)
 have x3 := (hb0.cell 3).trans (ten_sp _ _)
 have x4 := (hb0.cell 4).trans (ten_bs _ _)
 simp only [] at x0 x1 x2 x3 x4 A T W F hv hm htb
 obtain ⟨w1, hw1⟩ : ∃ v', (w.alloc (.cells (tenC ⟨xt, xe, xs, xp, xb⟩ v) 53)).alloc (.cells #[.int .i64 n] 3) = v' := ⟨_, rfl⟩
 rw [hw1] at x0 x1 x2 x3 x4 A F HE hx hb0
 rw [hv] at x4 hw1 A F hb0 ⊢
 clear hv
 unfold rightT
 simp only []
 obtain ⟨t, ht⟩ : ∃ t, totS xs xp p = t := ⟨_, rfl⟩
 obtain ⟨q, hq⟩ : ∃ q, inB xe 1 m = q := ⟨_, rfl⟩
 obtain ⟨f, hf⟩ : ∃ f, xb.any (outB n) = f := ⟨_, rfl⟩
 obtain ⟨a, ha⟩ : ∃ a, tenB ⟨xt, xe, xs, xp, xb⟩ noTen = a := ⟨_, rfl⟩
 obtain ⟨k, hk⟩ : ∃ k, xb.length = k := ⟨_, rfl⟩
 rw [ht] at T htb ⊢
 rw [hq] at W ⊢
 rw [hf] at F ⊢
 rw [ha] at A ⊢
 rw [hk] at hm x4 hw1 A F hb0 ⊢
 clear ht hq hf ha hk
 cases xt
 · simp only [Bool.false_eq_true, if_false]
   go_enter Tryz.func252, Tryz.ntmps252
   go_wp2_with (first
     | (refine ten_load _ rfl rfl hb0 rfl ?_)
     | (go_at_call 284; refine A.mono ?_; rintro e w' ⟨rfl, hE2⟩; have HE2 := Lib.hid hE2; clear hE2))
   go_ret
   exact ⟨rfl, ext_trans HE.out HE2.out⟩
 · simp only [if_true]
   obtain ⟨tb0, tb1⟩ := htb
   by_cases h0 : t = 0
   · subst h0
     go_enter Tryz.func252, Tryz.ntmps252
     go_wp2_with (go_at_call 140; refine (T _).mono ?_; rintro e w' ⟨rfl, rfl⟩)
     go_ret
     exact ⟨ret_bool (by simp), HE.out⟩
   · have e0 : (t == 0) = false := by simpa using h0
     have H0 := Lib.hid h0
     clear h0
     cases q
     · go_enter Tryz.func252, Tryz.ntmps252
       go_wp2_with (first
         | (go_at_call 140; refine (T _).mono ?_; rintro e w' ⟨rfl, rfl⟩)
         | (go_at_call 165; refine (W _).mono ?_; rintro e w' ⟨rfl, rfl⟩))
       go_ret
       exact ⟨ret_bool (by simp), HE.out⟩
     · by_cases h1 : (k : Int) < t
       · have e1 : decide ((k : Int) < t) = true := by simpa using h1
         go_enter Tryz.func252, Tryz.ntmps252
         go_wp2_with (first
           | (go_at_call 140; refine (T _).mono ?_; rintro e w' ⟨rfl, rfl⟩)
           | (go_at_call 165; refine (W _).mono ?_; rintro e w' ⟨rfl, rfl⟩))
         go_ret
         exact ⟨ret_bool (by simp; omega), HE.out⟩
       · have e1 : decide ((k : Int) < t) = false := by simpa using h1
         by_cases h2 : n < (k : Int) + 2
         · have e2 : decide (n < (k : Int) + 2) = true := by simpa using h2
           go_enter Tryz.func252, Tryz.ntmps252
           go_wp2_with (first
             | (go_at_call 140; refine (T _).mono ?_; rintro e w' ⟨rfl, rfl⟩)
             | (go_at_call 165; refine (W _).mono ?_; rintro e w' ⟨rfl, rfl⟩))
           go_ret
           exact ⟨ret_bool (by simp; omega), HE.out⟩
         · have e2 : decide (n < (k : Int) + 2) = false := by simpa using h2
           have h2' : ¬ n < (k : Int) + 2 := h2
           have HF := Lib.hid (And.intro h1 h2)
           go_enter Tryz.func252, Tryz.ntmps252
           go_wp2_with (first
             | (go_at_call 140; refine (T _).mono ?_; rintro e w' ⟨rfl, rfl⟩)
             | (go_at_call 165; refine (W _).mono ?_; rintro e w' ⟨rfl, rfl⟩)
             | (go_at_call 85; refine F.mono ?_; rintro e w' ⟨rfl, rfl⟩))
           go_ret
           refine ⟨ret_bool ?_, HE.out⟩
           have g1 : t ≤ (k : Int) := by have := HF.out.1; omega
           have g2 : (k : Int) + 2 ≤ n := by have := HF.out.2; omega
           simp [H0.out, g1, g2]
end Go.Proofs.YtfgifgglcafadaaGreatDoor
