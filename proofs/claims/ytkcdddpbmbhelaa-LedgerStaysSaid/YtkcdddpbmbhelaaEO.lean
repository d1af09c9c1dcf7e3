/-
  Package ledger: Owner; the law's few.
-/
import Derived.Test.YtkcdddpbmbhelaaEN
namespace Go.Proofs.Ytkcdddpbmbhelaa
open Go.RowKit

/-- Which of the four is the first. -/
def firstB (p : Nat → Bool) : Int := if p 0 = true then 0 else if p 1 = true then 1 else if p 2 = true then 2 else if p 3 = true then 3 else -1
theorem firstB_at {p : Nat → Bool} {k : Nat} (hk : k < 4) (h : p k = true) (hb : ∀ j, j < k → p j = false) : firstB p = k := by
  obtain rfl | rfl | rfl | rfl : k = 0 ∨ k = 1 ∨ k = 2 ∨ k = 3 := by omega
  · simp [firstB, h]
  · simp [firstB, h, hb 0 (by omega)]
  · simp [firstB, h, hb 0 (by omega), hb 1 (by omega)]
  · simp [firstB, h, hb 0 (by omega), hb 1 (by omega), hb 2 (by omega)]
theorem firstB_no {p : Nat → Bool} (hb : ∀ j, j < 4 → p j = false) : firstB p = -1 := by
  simp [firstB, hb 0 (by omega), hb 1 (by omega), hb 2 (by omega), hb 3 (by omega)]

def ownerS (L : Led) (x : Int) : Int := firstB fun j => decide (x ∈ (L.t j).bs)

theorem ownerDo_any (x : Ten) (v : Value) (xb : Nat) (n : Int) (w : World) (hI : Ints w v x.bs) (hm : x.bs.length ≤ 9223372036854775807) (hx : w.cell? ⟨xb, 0, none⟩ = some (.int .i64 n)) :
    Calls Try.prog 29 #[.agg (tenC x v), .pointer (some ⟨xb, 0, none⟩)] w fun e w' => e = .returned (.bool (decide (n ∈ x.bs))) ∧ Ext w w' := by
  have hE := World.grownBy_alloc w (.cells (tenC x v) 24) none
  have hb := Blk.new w 24 (tenC x v)
  have c4 := (hb.cell 4).trans (ten_bs x v)
  have cx := hE.cell hx (by simp)
  have C := contains_any v x.bs n _ (hI.kept hE (by simp)) hm
  obtain ⟨ao, cp, _, _, rfl, _⟩ := hI.form
  have HE := Lib.hid hE
  clear hE hb hI hx
  go_enter Try.func29, Try.ntmps29
  go_wp2_with (go_at_call 30; refine C.mono ?_; rintro e w' ⟨rfl, rfl⟩)
  go_ret
  exact ⟨rfl, HE.out⟩

set_option maxHeartbeats 800000 in
theorem indexOwner_any (L : Led) (V : Nat → Value) (b xb : Nat) (n : Int) (w : World) (hb : Blk w b 27 (ledC L V)) (hL : LedIs w L V) (hm : ∀ j, j < 4 → (L.t j).bs.length ≤ 9223372036854775807) (hx : w.cell? ⟨xb, 0, none⟩ = some (.int .i64 n)) :
    Calls Try.prog 28 #[.slice (some ⟨b, 2, none⟩) 4 4, .func (.func 29) #[] #[.pointer (some ⟨xb, 0, none⟩)]] w fun e w' => e = .returned (.int .i64 (ownerS L n)) ∧ Ext w w' := by
  have HB := Lib.hid hb
  have HL := Lib.hid hL
  have HX := Lib.hid hx
  clear hb hL hx
  go_enter Try.func28, Try.ntmps28
  go_wp2
  go_loopw [8] (fun i wr => ∃ k : Nat, k ≤ 4 ∧ i = .int .i64 k ∧ (∀ j, j < k → decide (n ∈ (L.t j).bs) = false) ∧ Ext w wr) (fun i _ => 4 - (intOf i).toNat)
  case atStart => exact ⟨0, by omega, rfl, fun j hj => by omega, Ext.refl w⟩
  case round =>
    obtain ⟨k, hk, rfl, hnot, hE⟩ := hrel
    have NOT := Lib.hid hnot
    clear hnot
    by_cases hlt : k < 4
    · have hb1 := HB.out.ext hE
      have D := ownerDo_any (L.t k) (V k) xb n wr ((HL.out k hlt).kept hE (by simp)) (hm k hlt) (hE.cell HX.out (by simp))
      obtain ⟨p, hp⟩ : ∃ p, decide (n ∈ (L.t k).bs) = p := ⟨_, rfl⟩
      rw [hp] at D
      have HP := Lib.hid hp
      have HE := Lib.hid hE
      clear hp hE hm
      cases p
      · go_wp2_with (first
          | (refine ten_load_in _ rfl hlt rfl hb1 rfl ?_)
          | (go_at_call 29; refine D.mono ?_; rintro e w2 ⟨rfl, hE2⟩; have HE2 := Lib.hid (ext_trans HE.out hE2); clear hE2))
        go_roundw
        case rel =>
          refine ⟨k + 1, by omega, by go_num, fun j hj => ?_, HE2.out⟩
          by_cases e : j = k
          · subst e; exact HP.out
          · exact NOT.out j (by omega)
        case measure => simp [intOf]; omega
      · have HO := Lib.hid (firstB_at (p := fun j => decide (n ∈ (L.t j).bs)) hlt HP.out NOT.out)
        go_wp2_with (first
          | (refine ten_load_in _ rfl hlt rfl hb1 rfl ?_)
          | (go_at_call 29; refine D.mono ?_; rintro e w2 ⟨rfl, hE2⟩; have HE2 := Lib.hid (ext_trans HE.out hE2); clear hE2))
        go_ret
        exact ⟨ret_int (by unfold ownerS; rw [HO.out]), HE2.out⟩
    · obtain rfl : k = 4 := by omega
      have HO := Lib.hid (firstB_no (p := fun j => decide (n ∈ (L.t j).bs)) NOT.out)
      go_wp2
      go_ret
      exact ⟨ret_int (by unfold ownerS; rw [HO.out]), hE⟩

theorem owner10_any (L : Led) (V : Nat → Value) (n : Int) (w : World) (hL : LedIs w L V) (hm : ∀ j, j < 4 → (L.t j).bs.length ≤ 9223372036854775807) :
    Calls Try.prog 12 #[.agg (ledC L V), .int .i64 n] w fun e w' => e = .returned (.int .i64 (ownerS L n)) ∧ Ext w w' := by
  have hb := (Blk.new w 27 (ledC L V)).alloc (.cells #[.int .i64 n] 3)
  have hx := (Blk.newAt (w.alloc (.cells (ledC L V) 27)) (w.heap.size + 1) (by simp) 3 #[.int .i64 n]).cell 0
  have hE := grown_alloc (World.grownBy_alloc w (.cells (ledC L V) 27) none) (.cells #[.int .i64 n] 3)
  have I := indexOwner_any L V w.heap.size (w.heap.size + 1) n _ hb (hL.ext hE) hm hx
  have HE := Lib.hid hE
  clear hb hx hE hL
  go_enter Try.func12, Try.ntmps12
  go_wp2_with (go_at_call 28; refine I.mono ?_; rintro e w' ⟨rfl, hE2⟩; have HE2 := Lib.hid hE2; clear hE2)
  go_ret
  exact ⟨rfl, ext_trans HE.out HE2.out⟩

def fewB (L : Led) : Bool := decide ((L.t 0).bs.length ≤ 80) && decide ((L.t 1).bs.length ≤ 80) && decide ((L.t 2).bs.length ≤ 80) && decide ((L.t 3).bs.length ≤ 80)
theorem fewB_le {L : Led} (h : fewB L = true) : ∀ j, j < 4 → (L.t j).bs.length ≤ 80 := by
  simp [fewB] at h
  intro j hj
  obtain rfl | rfl | rfl | rfl : j = 0 ∨ j = 1 ∨ j = 2 ∨ j = 3 := by omega
  all_goals omega
theorem fewB_no {L : Led} {k : Nat} (hk : k < 4) (h : 80 < (L.t k).bs.length) : fewB L = false := by
  obtain rfl | rfl | rfl | rfl : k = 0 ∨ k = 1 ∨ k = 2 ∨ k = 3 := by omega
  all_goals simp [fewB]; omega
theorem fewB_yes {L : Led} (h : ∀ j, j < 4 → (L.t j).bs.length ≤ 80) : fewB L = true := by
  simp [fewB, h 0 (by omega), h 1 (by omega), h 2 (by omega), h 3 (by omega)]

set_option maxHeartbeats 800000 in
theorem few10_any (L : Led) (V : Nat → Value) (w : World) (hL : LedIs w L V) :
    Calls Try.prog 5 #[.agg (ledC L V)] w fun e w' => e = .returned (.bool (fewB L)) ∧ Ext w w' := by
  have hb := Blk.new w 27 (ledC L V)
  have hE0 := World.grownBy_alloc w (.cells (ledC L V) 27) none
  obtain ⟨w1, hw1⟩ : ∃ v, w.alloc (.cells (ledC L V) 27) = v := ⟨_, rfl⟩
  rw [hw1] at hb hE0
  have HL := Lib.hid (hL.ext hE0)
  have HE0 := Lib.hid hE0
  clear hL hE0
  go_enter Try.func5, Try.ntmps5
  go_wp2_with (refine tens_load _ rfl rfl hb rfl ?_)
  clear hw1 hb
  go_loopw [7] (fun i wr => ∃ k : Nat, k ≤ 4 ∧ i = .int .i64 k ∧ (∀ j, j < k → (L.t j).bs.length ≤ 80) ∧ Ext w1 wr) (fun i _ => 4 - (intOf i).toNat)
  case atStart => exact ⟨0, by omega, rfl, fun j hj => by omega, Ext.refl w1⟩
  case round =>
    obtain ⟨k, hk, rfl, hall, hE1⟩ := hrel
    have ALL := Lib.hid hall
    have HE1 := Lib.hid hE1
    clear hall
    by_cases hlt : k < 4
    · have hix := tens_at L V hlt
      have hI := (HL.out k hlt).kept hE1 (by simp)
      have hS := hI.slice
      obtain ⟨ao, cp, _, _, hv, _⟩ := hI.form
      have HV := Lib.hid hv
      have hBn := Blk.new wr 24 zeroTC
      obtain ⟨n, hn⟩ : ∃ n, (L.t k).bs.length = n := ⟨_, rfl⟩
      have HN := Lib.hid hn
      clear hI hv hn hE1
      by_cases hbig : 80 < n
      · have hbig' : (80 : Int) < (n : Int) := by omega
        go_wp2_with (refine ten_store _ _ rfl rfl rfl hBn rfl hS rfl ?_; intro w6 hb6 hg6 hs6; clear hBn hs6; have c4 := (hb6.cell 4).trans (ten_bs _ _); rw [HV.out, HN.out] at c4; have HG6 := Lib.hid (grown_trans (World.grownBy_alloc wr (.cells zeroTC 24) none) hg6 (fun p hp hlt => by injection hp with hp; omega)); clear hg6 hb6)
        go_ret
        exact ⟨ret_bool (fewB_no hlt (by rw [HN.out]; exact hbig)).symm, ext_trans HE0.out (ext_trans HE1.out HG6.out)⟩
      · have hbig' : ¬ (80 : Int) < (n : Int) := by omega
        go_wp2_with (refine ten_store _ _ rfl rfl rfl hBn rfl hS rfl ?_; intro w6 hb6 hg6 hs6; clear hBn hs6; have c4 := (hb6.cell 4).trans (ten_bs _ _); rw [HV.out, HN.out] at c4; have HG6 := Lib.hid (grown_trans (World.grownBy_alloc wr (.cells zeroTC 24) none) hg6 (fun p hp hlt => by injection hp with hp; omega)); clear hg6 hb6)
        go_roundw
        case rel =>
          refine ⟨k + 1, by omega, by go_num, fun j hj => ?_, ext_trans HE1.out HG6.out⟩
          by_cases e : j = k
          · subst e; rw [HN.out]; omega
          · exact ALL.out j (by omega)
        case measure => simp [intOf]; omega
    · obtain rfl : k = 4 := by omega
      clear hE1
      go_wp2
      go_ret
      exact ⟨ret_bool (fewB_yes ALL.out).symm, ext_trans HE0.out HE1.out⟩

end Go.Proofs.Ytkcdddpbmbhelaa
