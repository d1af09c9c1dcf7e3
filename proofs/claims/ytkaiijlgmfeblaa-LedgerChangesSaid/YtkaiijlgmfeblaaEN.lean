/-
  The document's Same.
-/
import Derived.Test.YtkaiijlgmfeblaaEM
namespace Go.Proofs.Ytkaiijlgmfeblaa
open Go.RowKit

@[reducible] def zeroTC : Array Value := #[.bool false, .int .i64 0, .int .i64 0, .int .i64 0, .slice none 0 0]

def tenB (x y : Ten) : Bool := x.th == y.th && x.ep == y.ep && x.sz == y.sz && x.sp == y.sp && x.bs == y.bs
def sameB (A B : Led) : Bool := A.gen == B.gen && A.eps == B.eps && tenB (A.t 0) (B.t 0) && tenB (A.t 1) (B.t 1) && tenB (A.t 2) (B.t 2) && tenB (A.t 3) (B.t 3)
theorem tenB_refl (x : Ten) : tenB x x = true := by simp [tenB]
theorem sameB_refl (A : Led) : sameB A A = true := by simp [sameB, tenB_refl]
theorem sameB_gen {A B : Led} (h : A.gen ≠ B.gen) : sameB A B = false := by simp [sameB, h]
theorem sameB_eps {A B : Led} (h : A.eps ≠ B.eps) : sameB A B = false := by simp [sameB, h]
theorem sameB_ten {A B : Led} {k : Nat} (hk : k < 4) (h : tenB (A.t k) (B.t k) = false) : sameB A B = false := by
  obtain rfl | rfl | rfl | rfl : k = 0 ∨ k = 1 ∨ k = 2 ∨ k = 3 := by omega
  all_goals simp [sameB, h]
theorem sameB_all {A B : Led} (hg : A.gen = B.gen) (he : A.eps = B.eps) (h : ∀ k, k < 4 → tenB (A.t k) (B.t k) = true) : sameB A B = true := by
  simp [sameB, hg, he, h 0 (by omega), h 1 (by omega), h 2 (by omega), h 3 (by omega)]
theorem tenB_els {x y : Ten} (h0 : x.th = y.th) (h1 : x.ep = y.ep) (h2 : x.sz = y.sz) (h3 : x.sp = y.sp) (hl : x.bs.length = y.bs.length) (h : ∀ m, m < x.bs.length → x.bs.getD m 0 = y.bs.getD m 0) : tenB x y = true := by
  have : x.bs = y.bs := List.ext_getElem hl (fun m h1 h2 => by
    have := h m h1
    simpa [List.getD_eq_getElem?_getD, h1, h2] using this)
  simp [tenB, h0, h1, h2, h3, this]
theorem tenB_el {x y : Ten} {m : Nat} (hm : m < x.bs.length) (hm2 : m < y.bs.length) (h : x.bs.getD m 0 ≠ y.bs.getD m 0) : tenB x y = false := by
  have : x.bs ≠ y.bs := fun e => h (by rw [e])
  simp [tenB, this]
theorem tenB_len {x y : Ten} (h : x.bs.length ≠ y.bs.length) : tenB x y = false := by
  have : x.bs ≠ y.bs := fun e => h (by rw [e])
  simp [tenB, this]

theorem beqNe_nat {a b : Nat} (h : a = b) : ((a : Int) != (b : Int)) = false := by subst h; simp
theorem beqNe_nat' {a b : Nat} (h : a ≠ b) : ((a : Int) != (b : Int)) = true := by simp; omega

theorem ten_th (x : Ten) (v : Value) : (tenC x v)[0]? = some (.bool x.th) := rfl
theorem ten_ep (x : Ten) (v : Value) : (tenC x v)[1]? = some (.int .i64 x.ep) := rfl
theorem ten_sz (x : Ten) (v : Value) : (tenC x v)[2]? = some (.int .i64 x.sz) := rfl
theorem ten_sp (x : Ten) (v : Value) : (tenC x v)[3]? = some (.int .i64 x.sp) := rfl
theorem ten_bs (x : Ten) (v : Value) : (tenC x v)[4]? = some v := rfl
theorem tenB_th {x y : Ten} (h : x.th ≠ y.th) : tenB x y = false := by simp [tenB, h]
theorem tenB_ep {x y : Ten} (h : x.ep ≠ y.ep) : tenB x y = false := by simp [tenB, h]
theorem tenB_sz {x y : Ten} (h : x.sz ≠ y.sz) : tenB x y = false := by simp [tenB, h]
theorem tenB_sp {x y : Ten} (h : x.sp ≠ y.sp) : tenB x y = false := by simp [tenB, h]

set_option maxHeartbeats 3200000 in
theorem same10_eq (A : Led) (VA VB : Nat → Value) (w : World) (hA : LedIs w A VA) (hB : LedIs w A VB) (hm : ∀ j, j < 4 → (A.t j).bs.length ≤ 9223372036854775807) :
    Calls Try.prog 10 #[.agg (ledC A VA), .agg (ledC A VB)] w fun e w' => e = .returned (.bool true) ∧ Ext w w' := by
  have hb0 := (Blk.new w 27 (ledC A VA)).alloc (.cells (ledC A VB) 27)
  have hb1 := Blk.newAt (w.alloc (.cells (ledC A VA) 27)) (w.heap.size + 1) (by simp) 27 (ledC A VB)
  have hE := grown_alloc (World.grownBy_alloc w (.cells (ledC A VA) 27) none) (.cells (ledC A VB) 27)
  obtain ⟨w1, hw1⟩ : ∃ v, (w.alloc (.cells (ledC A VA) 27)).alloc (.cells (ledC A VB) 27) = v := ⟨_, rfl⟩
  rw [hw1] at hb0 hb1 hE
  have a0 := (hb0.cell 0).trans (led_gen A VA)
  have a1 := (hb0.cell 1).trans (led_eps A VA)
  have b0 := (hb1.cell 0).trans (led_gen A VB)
  have b1 := (hb1.cell 1).trans (led_eps A VB)
  have HA := Lib.hid (hA.ext hE)
  have HB := Lib.hid (hB.ext hE)
  have HE := Lib.hid hE
  have H1 := Lib.hid hb1
  clear hA hB hE hb1
  go_enter Try.func10, Try.ntmps10
  go_wp2_with (refine tens_load _ rfl rfl hb0 rfl ?_)
  clear hw1 a0 a1 b0 b1 hb0
  go_loopw [23] (fun i wr => ∃ k : Nat, k ≤ 4 ∧ i = .int .i64 k ∧ Ext w1 wr) (fun i _ => 4 - (intOf i).toNat)
  case atStart => exact ⟨0, by omega, rfl, Ext.refl w1⟩
  case round =>
    obtain ⟨k, hk, rfl, hE1⟩ := hrel
    obtain ⟨wo, rfl⟩ : ∃ wo : World, wo = wr := ⟨_, rfl⟩
    by_cases hlt : k < 4
    · have hix := tens_at A VA hlt
      have hbB := H1.out.ext hE1
      have hIx := (HA.out k hlt).kept hE1 (by simp)
      have hIy := (HB.out k hlt).kept hE1 (by simp)
      have hSx := hIx.slice
      have hSy := hIy.slice
      obtain ⟨ax, cx, bx, ox, hVx, hcx⟩ := hIx.form
      obtain ⟨ay, cy, by_, oy, hVy, hcy⟩ := hIy.form
      have HVx := Lib.hid hVx
      have HVy := Lib.hid hVy
      have HCx := Lib.hid hcx
      have HCy := Lib.hid hcy
      have hmx := hm k hlt
      clear hIx hIy hVx hVy hcx hcy
      have hBn6 := Blk.new wo 24 zeroTC
      obtain ⟨x, hx⟩ : ∃ x, A.t k = x := ⟨_, rfl⟩
      obtain ⟨vx, hvx⟩ : ∃ v, VA k = v := ⟨_, rfl⟩
      obtain ⟨vy, hvy⟩ : ∃ v, VB k = v := ⟨_, rfl⟩
      have hpart : (ledC A VB).extract (2 + k * 5) (2 + k * 5 + 5) = tenC x vy := by rw [← hx, ← hvy]; exact led_ten A VB hlt
      have HPART := Lib.hid hpart
      rw [hx, hvx] at hix
      rw [hx, hvx] at HVx
      rw [hx, hvy] at HVy
      rw [hx] at HCx HCy hmx
      rw [hvx] at hSx
      rw [hvy] at hSy
      clear hx hvx hvy hpart
      obtain ⟨xt, xe, xs, xp, xb⟩ := x
      obtain ⟨nx, hnx⟩ : ∃ n, xb.length = n := ⟨_, rfl⟩
      simp only [] at HVx HVy HCx HCy hmx
      have hny := hnx
      go_wp2_with (first
        | (refine ten_store _ _ rfl rfl rfl hBn6 rfl hSx rfl ?_; intro w6 hb6 hg6 hs6; clear hBn6 hs6; have hE6 := grown_trans (World.grownBy_alloc wo (.cells zeroTC 24) none) hg6 (fun p hp hlt => by injection hp with hp; omega); have hb6B := hbB.ext hE6; have hBn7 := Blk.new w6 24 zeroTC)
        | (refine wpList_load_part rfl _ _ rfl _ (2 + k * 5) 5 rfl _ _ _ _ _ hb6B HPART.out rfl Try.underlying24 rfl Try.sizeTen ?_)
        | (refine ten_store _ _ rfl rfl rfl hBn7 rfl hSy rfl ?_; intro w7 hb7 hg7 hs7; clear hBn7; have hE7 := grown_trans (World.grownBy_alloc w6 (.cells zeroTC 24) none) hg7 (fun p hp hlt => by injection hp with hp; omega); have hb6x := hb6.ext hE7; have HE7 := Lib.hid (ext_trans hE1 (ext_trans hE6 hE7)); have HEx := Lib.hid (ext_trans hE6 hE7); have x0 : w7.cell? ⟨wo.heap.size, 0, none⟩ = some (.bool xt) := (hb6x.cell 0).trans (ten_th _ _); have x1 : w7.cell? ⟨wo.heap.size, 1, none⟩ = some (.int .i64 xe) := (hb6x.cell 1).trans (ten_ep _ _); have x2 : w7.cell? ⟨wo.heap.size, 2, none⟩ = some (.int .i64 xs) := (hb6x.cell 2).trans (ten_sz _ _); have x3 : w7.cell? ⟨wo.heap.size, 3, none⟩ = some (.int .i64 xp) := (hb6x.cell 3).trans (ten_sp _ _); have x4 := (hb6x.cell 4).trans (ten_bs _ _); have y0 := (hb7.cell 0).trans (ten_th _ _); have y1 := (hb7.cell 1).trans (ten_ep _ _); have y2 := (hb7.cell 2).trans (ten_sz _ _); have y3 := (hb7.cell 3).trans (ten_sp _ _); have y4 := (hb7.cell 4).trans (ten_bs _ _); simp only [] at y0 y1 y2 y3; rw [HVx.out] at x4; rw [HVy.out] at y4; rw [hnx] at x4; rw [hny] at y4; clear hE6 hE7 hb6 hb6B hb6x hb7 hg6 hg7 hs7)
        | (refine wpList_pass rfl ?_ ?_; (simp only [Act.put, List.setIfInBounds_toArray, List.set_cons_succ, List.set_cons_zero]; rfl)))
      obtain ⟨g6, hg6'⟩ : ∃ g, wo.heap.size = g := ⟨_, rfl⟩
      obtain ⟨g7, hg7'⟩ : ∃ g, w6.heap.size = g := ⟨_, rfl⟩
      rw [hg6'] at x0 x1 x2 x3 x4 ⊢
      rw [hg7'] at y0 y1 y2 y3 y4 ⊢
      have HX4 := Lib.hid x4
      have HY4 := Lib.hid y4
      have HE1 := Lib.hid hE1
      clear x0 x1 x2 x3 x4 y0 y1 y2 y3 y4 hg6' hg7' hE1 hbB hix
      go_loopw [69] (fun i wr => ∃ n : Nat, n ≤ nx ∧ i = .int .i64 n ∧ Ext w7 wr) (fun i _ => nx - (intOf i).toNat)
      case atStart => exact ⟨0, by omega, rfl, Ext.refl w7⟩
      case round =>
        obtain ⟨n, hn, rfl, hE8⟩ := hrel
        have hx4 := hE8.cell HX4.out (by simp)
        have hy4 := hE8.cell HY4.out (by simp)
        by_cases hltn : n < nx
        · obtain ⟨rfl, cx8⟩ := HCx.out n (by rw [hnx]; exact hltn)
          obtain ⟨rfl, cy8⟩ := HCy.out n (by rw [hnx]; exact hltn)
          have cx9 := hE8.cell ((HEx.out.cell cx8 (by simp))) (by simp)
          have cy9 := hE8.cell ((HEx.out.cell cy8 (by simp))) (by simp)
          obtain ⟨ex, hex⟩ : ∃ e, xb.getD n 0 = e := ⟨_, rfl⟩
          rw [hex] at cx9 cy9
          let S : World → Prop := fun z => z.cell? ⟨g6, 4, none⟩ = some (.slice (some ⟨bx, ox, none⟩) nx cx) ∧ z.cell? ⟨g7, 4, none⟩ = some (.slice (some ⟨by_, oy, none⟩) nx cy) ∧ z.cell? ⟨bx, ox + n, none⟩ = some (.int .i64 ex) ∧ z.cell? ⟨by_, oy + n, none⟩ = some (.int .i64 ex)
          have hS : S wr.drew := ⟨hx4, hy4, cx9, cy9⟩
          have HE8 := Lib.hid (ext_trans hE8 (Ext.drew wr))
          clear hx4 hy4 cx8 cy8 cx9 cy9 hex hE8
          go_wp2
          refine region_line [(0, true), (1, true), (2, true), (3, true), (4, true), (5, true), (6, true), (7, true), (8, true), (9, true), (10, true)] S (by kernel_rfl) (by kernel_rfl) (fun _ _ _ d _ h => by cases d <;> exact h) hS ?_
          repeat (refine line_read (a' := ?_) rfl (by kernel_rfl) (by kernel_rfl) hS (fun x hx K hK => ?_) ?_; rotate_left; · (obtain ⟨x1, x2, x3, x4⟩ := hx; go_wp2; exact hK))
          refine line_end ?_
          go_wp2
          go_roundw
          case rel => exact ⟨n + 1, by omega, by go_num, HE8.out⟩
          case measure => simp [intOf]; omega
        · obtain rfl : n = nx := by omega
          have HE9 := Lib.hid hE8
          clear hx4 hy4 hE8
          go_wp2
          go_roundw
          case rel => exact ⟨k + 1, by omega, by go_num, ext_trans HE7.out HE9.out⟩
          case measure => simp [intOf]; omega
    · obtain rfl : k = 4 := by omega
      go_wp2
      go_ret
      exact ⟨rfl, ext_trans HE.out hE1⟩

end Go.Proofs.Ytkaiijlgmfeblaa
