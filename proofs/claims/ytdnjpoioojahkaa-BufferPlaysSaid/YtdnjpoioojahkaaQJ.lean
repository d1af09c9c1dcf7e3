/-
  Layer 13: the program's buffer: Put, Last, All, and of nil.
-/
import Derived.Test.YtdnjpoioojahkaaQI
import Derived.Test.YtdnjpoioojahkaaQD
import Derived.Test.YtdnjpoioojahkaaTree
namespace Go.Proofs.Ytdnjpoioojahkaa
set_option linter.unusedVariables false
set_option linter.unusedSimpArgs false
set_option maxRecDepth 100000
open Go.RowKit

section
variable {w : World} {b : Nat} {rs : List Chg} {f c : Nat}
theorem grown_two13 {w w1 w2 : World} {r : Option Nat} (h : w.grownBy w1 none) (h2 : w1.grownBy w2 r) : w.grownBy w2 r :=
  ⟨h2.os.trans h.os, h2.tape.trans h.tape, h2.output.trans h.output, Nat.le_trans h.size h2.size, fun k hk hne => (h2.block k (Nat.lt_of_lt_of_le hk h.size) hne).trans (h.block k hk (by simp))⟩
theorem grown_any13 {w w1 : World} {r : Option Nat} (h : w.grownBy w1 none) : w.grownBy w1 r := ⟨h.os, h.tape, h.output, h.size, fun k hk _ => h.block k hk (by simp)⟩

/-- A change that may not be. -/
theorem put_bad (h : BufS w b rs f c) (x : Chg) (hd : x.dt.size ≤ 9223372036854775807) (hne : chkE x.pl x.kd x.dt ≠ 0) :
    Calls Try.prog 10 #[.pointer (some ⟨b, 0, none⟩), chgV x] w fun e w' => e = .returned (.int .i64 (chkE x.pl x.kd x.dt)) ∧ w.grownBy w' none := by
  obtain ⟨r, hr⟩ : ∃ r, chkE x.pl x.kd x.dt = r := ⟨_, rfl⟩
  have CHK := fun wx => chk_is x.pl x.kd x.dt wx hd
  rw [hr] at CHK hne
  rw [hr, chgV_is]
  have hne2 : (r != 0) = true := by simpa using hne
  have HE := Lib.hid (World.grownBy_alloc w (.cells (chgC x) 28) none)
  have hb1 := Blk.new w 28 (chgC x)
  clear hne hr h
  go_enter Try.func10, Try.ntmps10
  go_upto_region 1 with fail
  go_wp2_with (first
    | (refine chg_load_want rfl _ rfl rfl (hb1.range 0 3 rfl) ?_)
    | (go_at_call 31; refine (CHK _).mono ?_; rintro e w2 ⟨rfl, hE2⟩; have HE2 := Lib.hid hE2; clear hE2))
  go_ret
  exact ⟨rfl, ext13_trans HE.out HE2.out⟩
/-- No more may come. -/
theorem put_full (h : BufS w b rs f 4) (x : Chg) (hd : x.dt.size ≤ 9223372036854775807) (hne : chkE x.pl x.kd x.dt = 0) :
    Calls Try.prog 10 #[.pointer (some ⟨b, 0, none⟩), chgV x] w fun e w' => e = .returned (.int .i64 8) ∧ w.grownBy w' none := by
  obtain ⟨r, hr⟩ : ∃ r, chkE x.pl x.kd x.dt = r := ⟨_, rfl⟩
  have CHK := fun wx => chk_is x.pl x.kd x.dt wx hd
  rw [hr] at CHK hne
  rw [chgV_is]
  have hne2 : (r != 0) = false := by simpa using hne
  have HE := Lib.hid (World.grownBy_alloc w (.cells (chgC x) 28) none)
  have hb1 := Blk.new w 28 (chgC x)
  have hs1 := h.ext HE.out
  clear hne hr h
  go_enter Try.func10, Try.ntmps10
  go_upto_region 1 with fail
  go_wp2_with (first
    | (refine chg_load_want rfl _ rfl rfl (hb1.range 0 3 rfl) ?_)
    | (go_at_call 31; refine (CHK _).mono ?_; rintro e w2 ⟨rfl, hE2⟩; have hs2 := hs1.ext hE2; have HE2 := Lib.hid hE2; clear hE2 hs1)
    | (go_at_call 15; refine (full_is hs2).mono ?_; rintro e w3 ⟨rfl, rfl⟩))
  go_ret
  exact ⟨rfl, ext13_trans HE.out HE2.out⟩
set_option maxHeartbeats 1600000 in
theorem put_ok (h : BufS w b rs f c) (hc : c < 4) (x : Chg) (hd : x.dt.size ≤ 9223372036854775807) (hne : chkE x.pl x.kd x.dt = 0) :
    Calls Try.prog 10 #[.pointer (some ⟨b, 0, none⟩), chgV x] w fun e w' => e = .returned (.int .i64 0) ∧ BufS w' b (rs.set ((f + c) % 4) x) f (c + 1) ∧ w.grownBy w' (some b) := by
  obtain ⟨r, hr⟩ : ∃ r, chkE x.pl x.kd x.dt = r := ⟨_, rfl⟩
  have CHK := fun wx => chk_is x.pl x.kd x.dt wx hd
  rw [hr] at CHK hne
  rw [chgV_is]
  have hne2 : (r != 0) = false := by simpa using hne
  have HE := Lib.hid (World.grownBy_alloc w (.cells (chgC x) 28) none)
  have hb1 := Blk.new w 28 (chgC x)
  obtain ⟨g, hg⟩ : ∃ g, (f + c) % 4 = g := ⟨_, rfl⟩
  rw [hg]
  have hg4 : g < 4 := by omega
  have hlt := Lib.hid h.blk.lt
  have hs1 := h.ext HE.out
  have hg := Lib.hid hg
  have full : decide (c = 4) = false := decide_eq_false (by omega)
  clear hne hr h
  obtain ⟨L, hL⟩ : ∃ z, w.heap.size = z := ⟨_, rfl⟩
  obtain ⟨w1, hw1⟩ : ∃ v, w.alloc (.cells (chgC x) 28) = v := ⟨_, rfl⟩
  rw [hw1] at HE hb1 hs1
  rw [hL] at hb1 hlt
  go_enter Try.func10, Try.ntmps10
  go_upto_region 1 with fail
  clear hL hw1
  go_wp2_with (first
    | (refine chg_load_want rfl _ rfl rfl (hb1.range 0 3 rfl) ?_)
    | (go_at_call 31; refine (CHK _).mono ?_; rintro e w2 ⟨rfl, hE2⟩; have hs2 := hs1.ext hE2; have hb2 := hb1.ext hE2; have HE2 := Lib.hid (ext13_trans HE.out hE2); clear hE2 hs1 hb1)
    | (go_at_call 15; refine (full_is hs2).mono ?_; rintro e w3 ⟨rfl, rfl⟩; rw [full]))
  clear CHK full
  have hS : (fun x0 : World => ∃ rs', BufS x0 b rs' f c ∧ Blk x0 L 28 (chgC x)) w2.drew := ⟨rs, hs2.ext (Ext.drew w2), hb2.ext (Ext.drew w2)⟩
  have hs2 : BufS w2.drew b rs f c := hs2.ext (Ext.drew w2)
  have hb2 : Blk w2.drew L 28 (chgC x) := hb2.ext (Ext.drew w2)
  refine region_line [(0, true), (1, true), (2, true), (3, true), (4, true), (5, true), (7, true), (8, true), (9, true), (6, false), (10, true), (11, false)] (fun x0 : World => ∃ rs', BufS x0 b rs' f c ∧ Blk x0 L 28 (chgC x)) (by kernel_rfl) (by kernel_rfl) (fun _ _ _ d _ h => by cases d <;> exact h) hS ?_
  iterate 6 (refine line_read (a' := ?_) rfl (by kernel_rfl) (by kernel_rfl) hS (fun x hx K hK => ?_) ?_; rotate_left; · obtain ⟨_, hx, _⟩ := hx; have c1 := hx.count; clear hx; go_wp2; exact hK)
  refine line_read (a' := ?_) rfl (by kernel_rfl) (by kernel_rfl) hS (fun x hx K hK => ?_) ?_
  rotate_left
  · obtain ⟨_, _, hx⟩ := hx
    refine chg_load_want rfl _ rfl rfl (hx.range 0 3 rfl) ?_
    clear hx
    go_wp2
    exact hK
  iterate 2 (refine line_read (a' := ?_) rfl (by kernel_rfl) (by kernel_rfl) hS (fun x hx K hK => ?_) ?_; rotate_left; · clear hx; go_wp2; exact hK)
  refine line_act (by rfl) (fun K hK => ?_)
  have AT := at_is hs2 (i := c) (by omega)
  rw [hg.out] at AT
  go_wp2_with (go_at_call 32; refine AT.mono ?_; rintro e w7 ⟨rfl, rfl⟩)
  clear AT
  refine hK _ _ _ hS (fun x hx => hx) ?_
  clear hK K
  refine line_read (a' := ?_) rfl (by kernel_rfl) (by kernel_rfl) hS (fun x hx K hK => ?_) ?_
  rotate_left
  · clear hx
    go_wp2
    exact hK
  refine line_act (by rfl) (fun K hK => ?_)
  go_wp2_with (first
    | (refine ring_store (c := x) _ _ rfl hg4 rfl rfl hs2 rfl ?_; intro w6 hs6 hg6))
  have hb6 : Blk w6 L 28 (chgC x) := hb2.kept hg6 (fun e => by injection e with e; have := hlt.out; omega)
  refine hK _ _ _ (show (fun x0 : World => ∃ rs', BufS x0 b rs' f c ∧ Blk x0 L 28 (chgC x)) w6 from ⟨_, hs6, hb6⟩) (fun x hx => hx) ?_
  clear hK K
  refine line_end ?_
  have c13 := hs6.count
  have f13 := hs6.blk.free 13
  have HG := Lib.hid (grown_two13 HE2.out (grown_of_drew13 hg6))
  have HF := Lib.hid (hs6.setCount (g := c + 1) (by omega))
  clear hs6 hg6 hS hb6 hb2 hs2
  go_wp2
  go_ret
  refine ⟨rfl, ?_, gb_set HG.out _ _⟩
  have := HF.out
  rw [show ((c + 1 : Nat) : Int) = (c : Int) + 1 by omega] at this
  exact this
end

theorem none_put (w : World) (c : Chg) : Calls Try.prog 10 #[.pointer none, chgV c] w fun e w' => e = .returned (.int .i64 1) ∧ w.grownBy w' none := by
  rw [chgV_is]
  go_enter Try.func10, Try.ntmps10
  go_wp2
  go_ret
  exact ⟨rfl, World.grownBy_alloc w _ none⟩
theorem none_len (w : World) : Calls Try.prog 14 #[.pointer none] w fun e w' => e = .returned (.int .i64 0) ∧ w = w' := by
  go_enter Try.func14, Try.ntmps14
  go_wp2
  go_ret
  exact ⟨rfl, rfl⟩
theorem none_full (w : World) : Calls Try.prog 15 #[.pointer none] w fun e w' => e = .returned (.bool true) ∧ w.grownBy w' none := by
  go_enter Try.func15, Try.ntmps15
  go_wp2
  go_ret
  exact ⟨rfl, Ext.refl w⟩
theorem none_drop (w : World) : Calls Try.prog 11 #[.pointer none] w fun e w' => e = .returned (.bool false) ∧ w.grownBy w' none := by
  have LEN := none_len w
  obtain ⟨z0, hz0⟩ : ∃ z : Int, z = 0 := ⟨_, rfl⟩
  rw [← hz0] at LEN
  have hz : (z0 == 0) = true := by rw [hz0]; rfl
  clear hz0
  go_enter Try.func11, Try.ntmps11
  go_wp2_with (go_at_call 14; refine LEN.mono ?_; rintro e w2 ⟨rfl, rfl⟩)
  go_ret
  exact ⟨rfl, Ext.refl w⟩
theorem none_first (w : World) : Calls Try.prog 12 #[.pointer none] w fun e w' => e = .returned (.tuple #[chgV noChg, .bool false]) ∧ w.grownBy w' none := by
  have hb1 := Blk.new w 28 #[.int .i64 0, .int .i64 0, .string ⟨#[]⟩]
  have LEN := fun wx => none_len wx
  have hE := World.grownBy_alloc w (.cells #[.int .i64 0, .int .i64 0, .string ⟨#[]⟩] 28) none
  obtain ⟨z0, hz0⟩ : ∃ z : Int, z = 0 := ⟨_, rfl⟩
  rw [← hz0] at LEN
  have hz : (z0 == 0) = true := by rw [hz0]; rfl
  have HE := Lib.hid hE
  clear hz0 hE
  go_enter Try.func12, Try.ntmps12
  go_wp2_with (first
    | (go_at_call 14; refine (LEN _).mono ?_; rintro e w2 ⟨rfl, rfl⟩)
    | (refine chg_store (c := noChg) _ _ rfl rfl rfl hb1 rfl rfl ?_; intro w6 hb6 hg6 hs6))
  refine bodyPost_ret (v := .tuple #[.agg (chgC noChg), .bool false]) (results_cell_two (fn := Try.f12) rfl rfl rfl hb6 Try.underlying28 rfl Try.sizeChg) rfl ?_
  exact ⟨rfl, g13_new HE.out hg6 (Nat.le_refl _)⟩
theorem none_all (w : World) : Calls Try.prog 13 #[.pointer none] w fun e w' => ∃ v, e = .returned v ∧ w'.ownsRow w.heap.size 28 3 v 0 [] ∧ w.grownBy w' none := by
  have LEN := fun wx => none_len wx
  go_enter Try.func13, Try.ntmps13
  go_wp2_with (first
    | (go_at_call 14; refine (LEN _).mono ?_; rintro e w2 ⟨rfl, rfl⟩))
  clear LEN
  go_loopw [3, 7] (fun s i wr => s = .slice none 0 0 ∧ i = .int .i64 0 ∧ w = wr) (fun _ _ _ => 0)
  case atStart => exact ⟨rfl, rfl, rfl⟩
  case round =>
    obtain ⟨rfl, rfl, rfl⟩ := hrel
    go_wp2
    go_ret
    exact ⟨_, rfl, ⟨by simp, .inl ⟨rfl, rfl⟩⟩, Ext.refl w⟩

theorem none_last (w : World) (p : Int) : Calls Try.prog 16 #[.pointer none, .int .i64 p] w fun e w' => e = .returned (.tuple #[chgV noChg, .bool false]) ∧ w.grownBy w' none := by
  have LEN := fun wx => none_len wx
  have hE1 := World.grownBy_alloc w (.cells #[.int .i64 0, .int .i64 0, .string ⟨#[]⟩] 28) none
  have hb1 := (Blk.new w 28 (chgC noChg)).alloc (.cells #[.int .i64 0, .int .i64 0, .string ⟨#[]⟩] 28)
  have hb2 := Blk.newAt (w.alloc (.cells #[.int .i64 0, .int .i64 0, .string ⟨#[]⟩] 28)) (w.heap.size + 1) (by simp) 28 (chgC noChg)
  have hE := ext13_trans hE1 (World.grownBy_alloc (w.alloc (.cells #[.int .i64 0, .int .i64 0, .string ⟨#[]⟩] 28)) (.cells #[.int .i64 0, .int .i64 0, .string ⟨#[]⟩] 28) none)
  have HE := Lib.hid hE
  clear hE hE1
  go_enter Try.func16, Try.ntmps16
  go_wp2_with (first
    | (go_at_call 14; refine (LEN _).mono ?_; rintro e w2 ⟨rfl, rfl⟩))
  clear LEN
  obtain ⟨w2, hw2⟩ : ∃ v, (w.alloc (.cells #[.int .i64 0, .int .i64 0, .string ⟨#[]⟩] 28)).alloc (.cells #[.int .i64 0, .int .i64 0, .string ⟨#[]⟩] 28) = v := ⟨_, rfl⟩
  rw [show (w.alloc (.cells (chgC noChg) 28)).alloc (.cells #[.int .i64 0, .int .i64 0, .string ⟨#[]⟩] 28) = w2 from hw2] at hb1
  rw [show (w.alloc (.cells #[.int .i64 0, .int .i64 0, .string ⟨#[]⟩] 28)).alloc (.cells (chgC noChg) 28) = w2 from hw2] at hb2
  rw [hw2] at HE
  try rw [hw2]
  go_loopw [7, 12] (fun s i wr => s = .bool false ∧ i = .int .i64 0 ∧ w2 = wr) (fun _ _ _ => 0)
  case atStart => exact ⟨rfl, rfl, rfl⟩
  case round =>
    obtain ⟨rfl, rfl, rfl⟩ := hrel
    go_wp2_with (first
      | (refine chg_load_want rfl _ rfl rfl (hb2.range 0 3 rfl) ?_)
      | (refine chg_store (c := noChg) _ _ rfl rfl rfl hb1 rfl rfl ?_; intro w6 hb6 hg6 hs6))
    refine bodyPost_ret (v := .tuple #[.agg (chgC noChg), .bool false]) (results_cell_two (fn := Try.f16) rfl rfl rfl hb6 Try.underlying28 rfl Try.sizeChg) rfl ?_
    exact ⟨rfl, g13_new HE.out hg6 (Nat.le_refl _)⟩

end Go.Proofs.Ytdnjpoioojahkaa
