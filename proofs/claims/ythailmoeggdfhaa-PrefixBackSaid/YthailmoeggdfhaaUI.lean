/-
  Layer 24: the law's fixed, over the contracts.
-/
import Derived.Test.YthailmoeggdfhaaUH
namespace Go.Proofs.Ythailmoeggdfhaa
set_option linter.unusedVariables false
set_option linter.unusedSimpArgs false
set_option maxRecDepth 100000
open Go.RowKit

theorem txR_two {w : World} {g : Nat} {x y : ByteArray} (h : Blk w g 9 #[.string x, .string y]) : TxR w (some ⟨g, 0, none⟩) [x, y] := fun i hi => by
  refine ⟨g, 0, rfl, ?_⟩
  rw [Nat.zero_add]
  match i, hi with
  | 0, _ => exact (h.cell 0).trans rfl
  | 1, _ => exact (h.cell 1).trans rfl
  | i + 2, hi => simp at hi; omega
theorem chT_three {w : World} {g : Nat} {x y z : Int × ByteArray} (h : Blk w g 28 #[.int .i64 x.1, .string x.2, .int .i64 y.1, .string y.2, .int .i64 z.1, .string z.2]) : ChT w (some ⟨g, 0, none⟩) [x, y, z] := fun i hi => by
  refine ⟨g, 0, rfl, fun j u hj => ?_⟩
  rw [Nat.zero_add]
  match i, hi, j, hj with
  | 0, _, 0, hj => exact (h.cell 0).trans hj
  | 0, _, 1, hj => exact (h.cell 1).trans hj
  | 1, _, 0, hj => exact (h.cell 2).trans hj
  | 1, _, 1, hj => exact (h.cell 3).trans hj
  | 2, _, 0, hj => exact (h.cell 4).trans hj
  | 2, _, 1, hj => exact (h.cell 5).trans hj
  | 0, _, j + 2, hj => simp [ch24C] at hj
  | 1, _, j + 2, hj => simp [ch24C] at hj
  | 2, _, j + 2, hj => simp [ch24C] at hj
  | i + 3, hi, _, _ => simp at hi; omega
theorem sl_two (g n cap : Nat) (h : n ≤ cap) (hc : cap ≤ 9223372036854775807) : Sl (some ⟨g, 0, none⟩) n cap := ⟨fun h => by (cases h), fun z hz => by injection hz with hz; rw [← hz], h, hc⟩
def fxX : List (Int × ByteArray) := [(0, ⟨#[97]⟩), (1, ⟨#[98]⟩), (0, ⟨#[97]⟩)]
theorem fx_one : allN fxX [⟨#[]⟩, ⟨#[]⟩] [⟨#[97]⟩, ⟨#[98]⟩] (fxX.length + 1) = [2, 3] := by decide
theorem fx_two : allN fxX [⟨#[]⟩, ⟨#[]⟩] [⟨#[]⟩, ⟨#[98]⟩] (fxX.length + 1) = [] := by decide
theorem fx_tx (wx : World) (n : Nat) (hn : wx.heap.size = n) (x y : ByteArray) : TxR ((wx.alloc (.cells #[.string ⟨#[]⟩, .string ⟨#[]⟩] 9)).alloc (.cells #[.string x, .string y] 9)) (some ⟨n, 0, none⟩) [⟨#[]⟩, ⟨#[]⟩] ∧ TxR ((wx.alloc (.cells #[.string ⟨#[]⟩, .string ⟨#[]⟩] 9)).alloc (.cells #[.string x, .string y] 9)) (some ⟨n + 1, 0, none⟩) [x, y] := by
  subst hn
  exact ⟨txR_two ((Blk.new wx _ _).alloc _), txR_two (Blk.newAt _ _ (by simp) _ _)⟩
theorem fx_ch {wx : World} {g : Nat} (h : ChT wx (some ⟨g, 0, none⟩) fxX) (x y : ByteArray) : ChT ((wx.alloc (.cells #[.string ⟨#[]⟩, .string ⟨#[]⟩] 9)).alloc (.cells #[.string x, .string y] 9)) (some ⟨g, 0, none⟩) fxX :=
  (h.ext (World.grownBy_alloc wx _ none)).ext (World.grownBy_alloc _ _ none)
theorem fx_ext {w wx w' : World} (h : w.grownBy wx none) {x y : ByteArray} (h2 : ((wx.alloc (.cells #[.string ⟨#[]⟩, .string ⟨#[]⟩] 9)).alloc (.cells #[.string x, .string y] 9)).grownBy w' none) : w.grownBy w' none :=
  ext_trans (ext_trans (ext_trans h (World.grownBy_alloc wx _ none)) (World.grownBy_alloc _ _ none)) h2

set_option maxHeartbeats 1600000 in
theorem fix24_of (AC : AftC) (FC : FinC) (LC : LonC) : Fix24 := fun w => by
  obtain ⟨k2, hk2⟩ : ∃ z : Int, z = 2 := ⟨_, rfl⟩
  obtain ⟨k3, hk3⟩ : ∃ z : Int, z = 3 := ⟨_, rfl⟩
  have t2 : (k2 == 2) = true := by simp [hk2]
  have t3 : (k3 == 3) = true := by simp [hk3]
  have F1 := Lib.hid (fun (wx : World) (g n : Nat) (hn : wx.heap.size = n) (hX : ChT wx (some ⟨g, 0, none⟩) fxX) => show Calls Try.prog 8 #[.slice (some ⟨n, 0, none⟩) 2 2, .slice (some ⟨g, 0, none⟩) 3 3, .slice (some ⟨n + 1, 0, none⟩) 2 2] ((wx.alloc (.cells #[.string ⟨#[]⟩, .string ⟨#[]⟩] 9)).alloc (.cells #[.string ⟨#[97]⟩, .string ⟨#[98]⟩] 9)) (fun e w' => e = .returned (.tuple #[.int .i64 k2, .bool true]) ∧ ((wx.alloc (.cells #[.string ⟨#[]⟩, .string ⟨#[]⟩] 9)).alloc (.cells #[.string ⟨#[97]⟩, .string ⟨#[98]⟩] 9)).grownBy w' none) from by
    have := FC _ (some ⟨n, 0, none⟩) (some ⟨g, 0, none⟩) (some ⟨n + 1, 0, none⟩) 2 3 2 [⟨#[]⟩, ⟨#[]⟩] [⟨#[97]⟩, ⟨#[98]⟩] fxX (fx_tx wx n hn _ _).1 (sl_two _ _ _ (by decide) (by decide)) (fx_ch hX _ _) (sl_two _ _ _ (by decide) (by decide)) (fx_tx wx n hn _ _).2 (sl_two _ _ _ (by decide) (by decide)) (by decide) (by decide) (by decide)
    rw [fx_one] at this
    rw [hk2]
    exact this)
  have F2 := Lib.hid (fun (wx : World) (g n : Nat) (hn : wx.heap.size = n) (hX : ChT wx (some ⟨g, 0, none⟩) fxX) => show Calls Try.prog 9 #[.slice (some ⟨n, 0, none⟩) 2 2, .slice (some ⟨g, 0, none⟩) 3 3, .slice (some ⟨n + 1, 0, none⟩) 2 2] ((wx.alloc (.cells #[.string ⟨#[]⟩, .string ⟨#[]⟩] 9)).alloc (.cells #[.string ⟨#[97]⟩, .string ⟨#[98]⟩] 9)) (fun e w' => e = .returned (.tuple #[.int .i64 k3, .bool true]) ∧ ((wx.alloc (.cells #[.string ⟨#[]⟩, .string ⟨#[]⟩] 9)).alloc (.cells #[.string ⟨#[97]⟩, .string ⟨#[98]⟩] 9)).grownBy w' none) from by
    have := LC _ (some ⟨n, 0, none⟩) (some ⟨g, 0, none⟩) (some ⟨n + 1, 0, none⟩) 2 3 2 [⟨#[]⟩, ⟨#[]⟩] [⟨#[97]⟩, ⟨#[98]⟩] fxX (fx_tx wx n hn _ _).1 (sl_two _ _ _ (by decide) (by decide)) (fx_ch hX _ _) (sl_two _ _ _ (by decide) (by decide)) (fx_tx wx n hn _ _).2 (sl_two _ _ _ (by decide) (by decide)) (by decide) (by decide) (by decide)
    rw [fx_one] at this
    rw [hk3]
    exact this)
  have F3 := Lib.hid (fun (wx : World) (g n : Nat) (hn : wx.heap.size = n) (hX : ChT wx (some ⟨g, 0, none⟩) fxX) => show Calls Try.prog 8 #[.slice (some ⟨n, 0, none⟩) 2 2, .slice (some ⟨g, 0, none⟩) 3 3, .slice (some ⟨n + 1, 0, none⟩) 2 2] ((wx.alloc (.cells #[.string ⟨#[]⟩, .string ⟨#[]⟩] 9)).alloc (.cells #[.string ⟨#[]⟩, .string ⟨#[98]⟩] 9)) (fun e w' => e = .returned (.tuple #[.int .i64 0, .bool false]) ∧ ((wx.alloc (.cells #[.string ⟨#[]⟩, .string ⟨#[]⟩] 9)).alloc (.cells #[.string ⟨#[]⟩, .string ⟨#[98]⟩] 9)).grownBy w' none) from by
    have := FC _ (some ⟨n, 0, none⟩) (some ⟨g, 0, none⟩) (some ⟨n + 1, 0, none⟩) 2 3 2 [⟨#[]⟩, ⟨#[]⟩] [⟨#[]⟩, ⟨#[98]⟩] fxX (fx_tx wx n hn _ _).1 (sl_two _ _ _ (by decide) (by decide)) (fx_ch hX _ _) (sl_two _ _ _ (by decide) (by decide)) (fx_tx wx n hn _ _).2 (sl_two _ _ _ (by decide) (by decide)) (by decide) (by decide) (by decide)
    rw [fx_two] at this
    exact this)
  have F4 := Lib.hid (fun (wx : World) (g : Nat) (hX : ChT wx (some ⟨g, 0, none⟩) fxX) => show Calls Try.prog 11 #[.slice none 0 0, .slice (some ⟨g, 0, none⟩) 3 3] wx (fun e w' => ∃ a' c', e = .returned (.slice a' 0 c') ∧ Sl a' 0 c' ∧ TxR w' a' (aftR fxX []) ∧ wx.grownBy w' none) from
    AC wx none (some ⟨g, 0, none⟩) 0 3 [] fxX (fun i hi => by simp at hi) ⟨fun _ => ⟨rfl, rfl⟩, fun z hz => by (cases hz), Nat.le_refl _, by decide⟩ hX (sl_two _ _ _ (by decide) (by decide)) (by decide) (by decide))
  clear hk2 hk3 AC FC LC
  go_enter Try.func5, Try.ntmps5
  go_upto_region 2 with fail
  have HX0 := Lib.hid (show ChT (w.alloc (.cells #[.int .i64 0, .string ⟨#[97]⟩, .int .i64 1, .string ⟨#[98]⟩, .int .i64 0, .string ⟨#[97]⟩] 28)) (some ⟨w.heap.size, 0, none⟩) fxX from chT_three (Blk.new w _ _))
  have HE0 := Lib.hid (World.grownBy_alloc w (.cells #[.int .i64 0, .string ⟨#[97]⟩, .int .i64 1, .string ⟨#[98]⟩, .int .i64 0, .string ⟨#[97]⟩] 28) none)
  have R1 := F1.out _ w.heap.size (w.heap.size + 1) (by simp) HX0.out
  go_upto_region 3 with (go_at_call 8; refine R1.mono ?_; rintro e w1 ⟨rfl, hE1⟩; have HX1 := Lib.hid ((fx_ch HX0.out _ _).ext hE1); have HE1 := Lib.hid (fx_ext HE0.out hE1); clear hE1)
  clear R1
  have R2 := F2.out _ w.heap.size w1.heap.size rfl HX1.out
  go_upto_region 4 with (go_at_call 9; refine R2.mono ?_; rintro e w2 ⟨rfl, hE2⟩; have HX2 := Lib.hid ((fx_ch HX1.out _ _).ext hE2); have HE2 := Lib.hid (fx_ext HE1.out hE2); clear hE2)
  clear R2
  have R3 := F3.out _ w.heap.size w2.heap.size rfl HX2.out
  go_upto_region 5 with (go_at_call 8; refine R3.mono ?_; rintro e w3 ⟨rfl, hE3⟩; have HX3 := Lib.hid ((fx_ch HX2.out _ _).ext hE3); have HE3 := Lib.hid (fx_ext HE2.out hE3); clear hE3)
  clear R3
  have R4 := F4.out _ w.heap.size HX3.out
  go_wp2_with (go_at_call 11; refine R4.mono ?_; rintro e w4 ⟨a4, c4, rfl, s4, t4, hE4⟩; have HE4 := Lib.hid (ext_trans HE3.out hE4); clear s4 t4 hE4)
  go_ret
  exact ⟨rfl, HE4.out⟩

end Go.Proofs.Ythailmoeggdfhaa
