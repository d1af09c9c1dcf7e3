/-
  Layer 10's fixed; the law LedgerChanges.
-/
import Derived.Test.YtkcdddpbmbhelaaES
namespace Go.Proofs.Ytkcdddpbmbhelaa
open Go.RowKit

def ledOne : Led := ⟨1, 1, fun j => if j = 0 then ⟨true, 1, 3, 0, [2, 3]⟩ else noTen⟩
def ledTwo : Led := ⟨2, 1, fun _ => noTen⟩
theorem led_ext {A B : Led} (hg : A.gen = B.gen) (he : A.eps = B.eps) (ht : ∀ j, A.t j = B.t j) : A = B := by
  cases A; cases B; simp at hg he; subst hg; subst he; congr; funext j; exact ht j
theorem inc_zero : inc 0 = 1 := by unfold inc wrap64; omega
theorem inc_one : inc 1 = 2 := by unfold inc wrap64; omega
theorem create_one : createS noLed 0 3 0 [2, 3] = (ledOne, 0) := by
  have h : createL (bump noLed) 0 3 0 [2, 3] = ledOne := led_ext inc_zero inc_zero (fun j => by simp only [createL, updT, ledOne, bump, noLed]; split <;> first | rfl | rw [inc_zero])
  show changedS noLed (createL (bump noLed) 0 3 0 [2, 3]) = _
  rw [h]
  rfl
theorem create_two : createS ledOne 0 3 0 [] = (noLed, 7) := rfl
theorem destroy_one : destroyS ledOne 0 = (ledTwo, 0) := by
  have h : updT (bump ledOne) 0 noTen = ledTwo := led_ext inc_one rfl (fun j => by simp only [updT, ledTwo, bump, ledOne]; split <;> simp_all)
  show changedS ledOne (updT (bump ledOne) 0 noTen) = _
  rw [h]
  rfl
theorem one_good : GoodL ledOne := by
  refine ⟨fun j _ => ?_, fun j _ n hn => ?_, fun j _ => ?_⟩
  · simp only [ledOne]; split <;> simp [noTen]
  · simp only [ledOne] at hn
    split at hn
    · simp at hn; rcases hn with rfl | rfl <;> decide
    · simp [noTen] at hn
  · simp only [ledOne]; split
    · decide
    · simp only [noTen]; decide
theorem one_len : ∀ j, j < 4 → (ledOne.t j).bs.length ≤ 9223372036854775807 := fun j hj => by have := one_good.len j hj; omega
theorem two_len : ∀ j, j < 4 → (ledTwo.t j).bs.length ≤ 9223372036854775807 := fun j _ => by simp [ledTwo, noTen]
theorem noLed_len : ∀ j, j < 4 → (noLed.t j).bs.length ≤ 1048576 := fun j _ => by simp [noLed, noTen]

theorem fx_owner1 : ownerS ledOne 2 = 0 := by decide
theorem fx_owner2 : ownerS ledTwo 2 = -1 := by decide
theorem fx_free : (freeL ledOne 5).length = 1 := by decide
theorem fx_right : rightL ledOne 5 4 = true := by decide

theorem ints_two (w : World) (x y : Int) (T : TypeId) : Ints (w.alloc (.cells #[.int .i64 x, .int .i64 y] T)) (.slice (some ⟨w.heap.size, 0, none⟩) 2 2) [x, y] :=
  .inr ⟨w.heap.size, 0, 2, rfl, by simp, fun i hi => by
    have : i = 0 ∨ i = 1 := by simp at hi; omega
    rcases this with rfl | rfl <;> simp⟩

set_option maxHeartbeats 3200000 in
theorem fixed10_any (w : World) : Calls Try.prog 4 #[] w fun e w' => e = .returned (.bool true) ∧ Ext w w' := by
  have hE0 := World.grownBy_alloc w (.cells #[.int .i64 2, .int .i64 3] 3) none
  have C1 := create_any noLed (fun _ => nilS) 0 3 0 (.slice (some ⟨w.heap.size, 0, none⟩) 2 2) [2, 3] _ (noLed_is _) noLed_len (ints_two w 2 3 3) (by simp) (fun p hp => by simp [Value.ownBlock] at hp; subst hp; simp)
  rw [create_one] at C1
  have HE0 := Lib.hid hE0
  clear hE0
  go_enter Try.func4, Try.ntmps4
  go_wp2_with (first
    | (go_at_call 8; have hx := hb3; refine (C2 _ HI3.out).mono ?_; rintro e w4 ⟨V2, rfl, hI4, hl4, hE4⟩; clear hx; have hB4 := Blk.new w4 27 zeroC; have HE4 := Lib.hid (ext_trans HE3.out hE4); have hb4 := hb3.ext hE4; have HI4 := Lib.hid (HI3.out.ext hE4); clear hE4 hb3)
    | (go_at_call 8; refine C1.mono ?_; rintro e w2 ⟨V1, rfl, hI1, hl1, hE2⟩; have hB1 := Blk.new w2 27 zeroC; have HE2 := Lib.hid (ext_trans HE0.out hE2); clear hE2)
    | (refine led_store (L := ledOne) _ _ rfl rfl rfl hB1 rfl hI1.slices rfl ?_; intro w3 hb3 hg3 hs3; clear hB1 hs3; have e3 := grown_trans (World.grownBy_alloc w2 (.cells zeroC 27) none) hg3 (fun p hp hlt => by injection hp with hp; omega); have HE3 := Lib.hid (ext_trans HE2.out e3); have HI3 := Lib.hid (hI1.ext e3); clear hg3 e3 hI1 hl1; have C2 := fun w (h : LedIs w ledOne V1) => create_any ledOne V1 0 3 0 nilS [] w h one_good.len (.inl ⟨rfl, rfl⟩) (by simp) (fun p hp => by simp [Value.ownBlock] at hp); rw [create_two] at C2)
    | (refine led_load _ rfl rfl hb3 rfl ?_)
    | (refine led_store (L := noLed) _ _ rfl rfl rfl hB4 rfl hI4.slices rfl ?_; intro w5 hb5x hg5 hs5; clear hB4 hs5 hb5x; have e5 := grown_trans (World.grownBy_alloc w4 (.cells zeroC 27) none) hg5 (fun p hp hlt => by injection hp with hp; omega); have HE5 := Lib.hid (ext_trans HE4.out e5); have hb5 := hb4.ext e5; have HI5 := Lib.hid (HI4.out.ext e5); have D5 := destroy_any ledOne V1 0 w5 HI5.out one_good.len; rw [destroy_one] at D5; clear hg5 e5 hI4 hl4 hb4)
    | (refine led_load _ rfl rfl hb5 rfl ?_)
    | (go_at_call 10; refine D5.mono ?_; rintro e w6 ⟨V3, rfl, hI6, hl6, hE6⟩; have hB6 := Blk.new w6 27 zeroC; have HE6 := Lib.hid (ext_trans HE5.out hE6); have hb6 := hb5.ext hE6; have HI6 := Lib.hid (HI5.out.ext hE6); clear hE6 hb5 D5)
    | (refine led_store (L := ledTwo) _ _ rfl rfl rfl hB6 rfl hI6.slices rfl ?_; intro w7 hm7 hg7 hs7; clear hB6 hs7; have e7 := grown_trans (World.grownBy_alloc w6 (.cells zeroC 27) none) hg7 (fun p hp hlt => by injection hp with hp; omega); have HE7 := Lib.hid (ext_trans HE6.out e7); have hl7 := hb6.ext e7; have HI7 := Lib.hid (HI6.out.ext e7); have HM7 := Lib.hid (hI6.ext e7); have O7 := owner10_any ledOne V1 2 w7 HI7.out one_len; rw [fx_owner1] at O7; clear hg7 e7 hI6 hl6 hb6)
    | (refine led_load _ rfl rfl hl7 rfl ?_)
    | (go_at_call 12; refine O7.mono ?_; rintro e w8 ⟨rfl, hE8⟩; have HE8 := Lib.hid (ext_trans HE7.out hE8); have hl8 := hl7.ext hE8; have hm8 := hm7.ext hE8; have HI8 := Lib.hid (HI7.out.ext hE8); have HM8 := Lib.hid (HM7.out.ext hE8); have O8 := owner10_any ledTwo V3 2 w8 HM8.out two_len; rw [fx_owner2] at O8; clear hE8 hl7 hm7 O7)
    | (refine led_load _ rfl rfl hm8 rfl ?_)
    | (go_at_call 12; refine O8.mono ?_; rintro e w9 ⟨rfl, hE9⟩; have HE9 := Lib.hid (ext_trans HE8.out hE9); have hl9 := hl8.ext hE9; have hm9 := hm8.ext hE9; have HI9 := Lib.hid (HI8.out.ext hE9); have cl0 := (hl9.cell 0).trans (led_gen _ _); have cm0 := (hm9.cell 0).trans (led_gen _ _); have cl3 : w9.cell? ⟨w2.heap.size, 3, none⟩ = some (.int .i64 1) := (hl9.cell 3); have F9 := free10_any ledOne V1 5 w9 HI9.out one_good.len one_good.wf (by decide) (by decide); clear hE9 hl8 hm8 O8)
    | (refine led_load _ rfl rfl hl9 rfl ?_)
    | (go_at_call 7; refine F9.mono ?_; rintro e w10 ⟨v10, rfl, ho10, hE10⟩; have HE10 := Lib.hid (ext_trans HE9.out hE10); have hl10 := hl9.ext hE10; have HI10 := Lib.hid (HI9.out.ext hE10); obtain ⟨a10, c10, _, _, rfl, _⟩ := (owns_ints rfl ho10).form; rw [fx_free]; have K10 := check10_any ledOne V1 5 4 w10 HI10.out one_good; rw [fx_right] at K10; clear hE10 ho10 hl9 cl0 cm0 cl3 F9)
    | (refine led_load _ rfl rfl hl10 rfl ?_)
    | (go_at_call 13; refine K10.mono ?_; rintro e w11 ⟨rfl, hE11⟩; have HE11 := Lib.hid (ext_trans HE10.out hE11); clear hE11))
  go_ret
  exact ⟨rfl, HE11.out⟩

end Go.Proofs.Ytkcdddpbmbhelaa
