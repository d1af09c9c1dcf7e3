/-
  The document's Has, Data, Total.
-/
import Derived.Test.YtkcdddpbmbhelaaEV
namespace Go.Proofs.Ytkcdddpbmbhelaa
open Go.RowKit

theorem has10_any (v : Value) (xs : List Int) (n : Int) (w : World) (hb : Ints w v xs) (hm : xs.length ≤ 9223372036854775807) :
    Calls Try.prog 14 #[v, .int .i64 n] w fun e w' => e = .returned (.bool (decide (n ∈ xs))) ∧ w = w' := by
  obtain ⟨ao, cap, b, off, rfl, hc⟩ := hb.form
  have HC := Lib.hid hc
  clear hc hb
  go_enter Try.func14, Try.ntmps14
  go_wp2
  go_loopw [9] (fun i wr => ∃ k : Nat, k ≤ xs.length ∧ i = .int .i64 k ∧ (∀ j, j < k → xs.getD j 0 ≠ n) ∧ w = wr) (fun i _ => xs.length - (intOf i).toNat)
  case atStart => exact ⟨0, by omega, rfl, fun j hj => by omega, rfl⟩
  case round =>
    obtain ⟨k, hk, rfl, hnot, rfl⟩ := hrel
    have NOT := Lib.hid hnot
    clear hnot
    by_cases hlt : k < xs.length
    · obtain ⟨rfl, hcell⟩ := HC.out k hlt
      obtain ⟨x, hx⟩ : ∃ x, xs.getD k 0 = x := ⟨_, rfl⟩
      rw [hx] at hcell
      have HX := Lib.hid hx
      clear hx
      by_cases he : x = n
      · subst he
        go_wp2
        go_ret
        refine ⟨ret_bool ?_, rfl⟩
        have := HX.out
        rw [List.getD_eq_getElem?_getD, List.getElem?_eq_getElem hlt] at this
        simp only [Option.getD_some] at this
        have hmem : x ∈ xs := by rw [← this]; exact List.getElem_mem hlt
        simp [hmem]
      · have hne : (x == n) = false := by simpa using he
        clear he
        go_wp2
        go_roundw
        case rel =>
          refine ⟨k + 1, by omega, by go_num, fun j hj => ?_, trivial⟩
          by_cases e : j = k
          · subst e; rw [HX.out]; intro h; subst h; simp at hne
          · exact NOT.out j (by omega)
        case measure => simp [intOf]; omega
    · obtain rfl : k = xs.length := by omega
      go_wp2
      go_ret
      refine ⟨ret_bool ?_, rfl⟩
      have hno : n ∉ xs := fun hmem => by
        obtain ⟨j, hj, hjn⟩ := List.mem_iff_getElem.1 hmem
        refine NOT.out j hj ?_
        rw [List.getD_eq_getElem?_getD, List.getElem?_eq_getElem hj]
        exact hjn
      simp [hno]

theorem mul_bd {k : Nat} {p : Int} (hk : k ≤ 64) (hp : 2 ≤ p ∧ p ≤ 16) : 0 ≤ ((k : Int) + 1) * p ∧ ((k : Int) + 1) * p ≤ 1040 := by
  constructor
  · exact Int.mul_nonneg (by omega) (by omega)
  · have := Int.mul_le_mul (a := (k : Int) + 1) (b := p) (c := 65) (d := 16) (by omega) (by omega) (by omega) (by omega)
    omega
theorem div_at {k : Nat} {s p : Int} (hp : 2 ≤ p) (h1 : (k : Int) * p ≤ s) (h2 : s < ((k : Int) + 1) * p) : s / p = k := by
  have e1 : (k : Int) ≤ s / p := (Int.le_ediv_iff_mul_le (by omega)).2 h1
  have e2 : s / p < (k : Int) + 1 := (Int.ediv_lt_iff_lt_mul (by omega)).2 h2
  omega
theorem mul_le_k {k : Nat} {s p : Int} (hp : 2 ≤ p) (hs : s ≤ 64) (h1 : (k : Int) * p ≤ s) : k ≤ 64 := by
  have := Int.mul_le_mul_of_nonneg_left hp (show 0 ≤ (k : Int) by omega)
  omega

set_option maxHeartbeats 800000 in
theorem data09_any (s p : Int) (w : World) (hs : 1 ≤ s ∧ s ≤ 64) (hp : 2 ≤ p ∧ p ≤ 16) :
    Calls Try.prog 38 #[.int .i64 s, .int .i64 p] w fun e w' => e = .returned (.int .i64 (s / p + 2)) ∧ w = w' := by
  have R := fun w => ref9Right_any s 0 p w
  rw [rightB_yes ⟨hs.1, hs.2, by decide, by decide, hp.1, hp.2⟩] at R
  go_enter Try.func38, Try.ntmps38
  go_wp2_with (go_at_call 37; refine (R _).mono ?_; rintro e w' ⟨rfl, rfl⟩)
  go_loopw [5] (fun i wr => ∃ k : Nat, (k : Int) * p ≤ s ∧ i = .int .i64 k ∧ w = wr) (fun i _ => 65 - (intOf i).toNat)
  case atStart => exact ⟨0, by simp; omega, rfl, rfl⟩
  case round =>
    obtain ⟨k, hk, rfl, rfl⟩ := hrel
    have h64 := mul_le_k hp.1 hs.2 hk
    obtain ⟨m0, m1⟩ := mul_bd h64 hp
    by_cases h : ((k : Int) + 1) * p ≤ s
    · have HH := Lib.hid h
      have h65 := mul_le_k (k := k + 1) hp.1 hs.2 (by simpa using h)
      go_wp2
      go_roundw
      case rel => exact ⟨k + 1, by simpa using HH.out, by go_num, trivial⟩
      case measure => simp [intOf]; omega
    · have HD := Lib.hid (div_at hp.1 hk (by omega))
      go_wp2
      go_ret
      exact ⟨ret_int (by rw [HD.out]), rfl⟩

theorem total09_any (s r p : Int) (w : World) :
    Calls Try.prog 15 #[.int .i64 s, .int .i64 r, .int .i64 p] w fun e w' => e = .returned (.int .i64 (totS s r p)) ∧ w = w' := by
  have R := fun w => ref9Right_any s r p w
  unfold totS
  by_cases hv : rightB s r p = true
  · rw [if_pos hv]
    rw [hv] at R
    simp [rightB, inB] at hv
    obtain ⟨⟨⟨s0, s1⟩, r0, r1⟩, p0, p1⟩ := hv
    have D := fun w => data09_any s p w ⟨s0, s1⟩ ⟨p0, p1⟩
    have q0 : 0 ≤ s / p := Int.ediv_nonneg (by omega) (by omega)
    have q1 : s / p ≤ 64 := Int.le_trans (Int.ediv_le_self _ (by omega)) s1
    go_enter Try.func15, Try.ntmps15
    go_wp2_with (first
      | (go_at_call 37; refine (R _).mono ?_; rintro e w' ⟨rfl, rfl⟩)
      | (go_at_call 38; refine (D _).mono ?_; rintro e w' ⟨rfl, rfl⟩))
    go_ret
    exact ⟨rfl, rfl⟩
  · rw [if_neg hv]
    rw [Bool.not_eq_true] at hv
    rw [hv] at R
    clear hv
    go_enter Try.func15, Try.ntmps15
    go_wp2_with (go_at_call 37; refine (R _).mono ?_; rintro e w' ⟨rfl, rfl⟩)
    go_ret
    exact ⟨rfl, rfl⟩

end Go.Proofs.Ytkcdddpbmbhelaa
