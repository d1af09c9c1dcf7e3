/-
  Package nand: what only reads: has, missing, lacks, Next, Bad, Blank, Erases, Blocks.
-/
import Derived.Test.YtaobamnfgpllcaaNA
namespace Go.Proofs.Ytaobamnfgpllcaa
open Go.RowKit

def hasB (S : NShape) (n : Int) : Bool := decide (0 ≤ n ∧ n < S.all)
def missE (S : NShape) (n : Int) : Int := if hasB S n then 0 else 5
def lackE (S : NShape) (n m : Int) : Int := if hasB S n then (if 0 ≤ m ∧ m < S.pg then 0 else 5) else 5
def nextN (f : Nat → Pg) : Nat → Nat
  | 0 => 0
  | n + 1 => if (f n).st = 0 then nextN f n else n + 1
theorem nextN_le (f : Nat → Pg) : ∀ n, nextN f n ≤ n
  | 0 => Nat.le_refl _
  | n + 1 => by unfold nextN; split; exact Nat.le_succ_of_le (nextN_le f n); exact Nat.le_refl _

section
variable {w : World} {S : NShape} {V : Nat → Value} {zs : Nat → List Int} {s : NS}

theorem has_is (h : FixAt w S) (n : Int) :
    Calls Try.prog 24 #[.pointer (some ⟨S.nb, 0, none⟩), .int .i64 n] w fun e w' => e = .returned (.bool (hasB S n)) ∧ w = w' := by
  have c := h.cl
  clear h
  by_cases h0 : 0 ≤ n
  · have e0 : decide (0 ≤ n) = true := by simpa using h0
    go_enter Try.func24, Try.ntmps24
    go_wp2
    go_ret
    exact ⟨ret_bool (by simp [hasB, h0]), rfl⟩
  · have e0 : decide (0 ≤ n) = false := by simpa using h0
    go_enter Try.func24, Try.ntmps24
    go_wp2
    go_ret
    exact ⟨ret_bool (by simp [hasB]; omega), rfl⟩

theorem missing_is (h : FixAt w S) (n : Int) :
    Calls Try.prog 26 #[.pointer (some ⟨S.nb, 0, none⟩), .int .i64 n] w fun e w' => e = .returned (.int .i64 (missE S n)) ∧ w = w' := by
  have H := has_is h n
  clear h
  unfold missE
  cases hh : hasB S n
  all_goals
    rw [hh] at H
    clear hh
    go_enter Try.func26, Try.ntmps26
    go_wp2_with (go_at_call 24; refine H.mono ?_; rintro e w' ⟨rfl, rfl⟩)
    go_ret
    exact ⟨rfl, rfl⟩

theorem lacks_is (h : FixAt w S) (n m : Int) :
    Calls Try.prog 19 #[.pointer (some ⟨S.nb, 0, none⟩), .int .i64 n, .int .i64 m] w fun e w' => e = .returned (.int .i64 (lackE S n m)) ∧ w = w' := by
  have H := missing_is h n
  unfold missE at H
  unfold lackE
  cases hh : hasB S n
  · rw [hh] at H
    clear hh h
    go_enter Try.func19, Try.ntmps19
    go_wp2_with (go_at_call 26; refine H.mono ?_; rintro e w' ⟨rfl, rfl⟩)
    go_ret
    exact ⟨rfl, rfl⟩
  · have hn : 0 ≤ n ∧ n < S.all := by simpa [hasB] using hh
    obtain ⟨i, rfl⟩ : ∃ i : Nat, n = i := ⟨n.toNat, by omega⟩
    have hi : i < S.all := by omega
    have c := h.cl
    have c2 := h.rows i hi
    rw [hh] at H
    clear hh h hn
    by_cases h0 : m < 0
    · have e0 : decide (m < 0) = true := by simpa using h0
      have HE : Hid ((if 0 ≤ m ∧ m < S.pg then (0 : Int) else 5) = 5) := Lib.hid (if_neg (by omega))
      go_enter Try.func19, Try.ntmps19
      go_wp2_with (go_at_call 26; refine H.mono ?_; rintro e w' ⟨rfl, rfl⟩)
      go_ret
      exact ⟨ret_int (by simp [HE.out]), rfl⟩
    · have e0 : decide (m < 0) = false := by simpa using h0
      by_cases h1 : m < S.pg
      · have HE : Hid ((if 0 ≤ m ∧ m < S.pg then (0 : Int) else 5) = 0) := Lib.hid (if_pos (by omega))
        have h1' : ¬ (S.pg : Int) ≤ m := by omega
        go_enter Try.func19, Try.ntmps19
        go_wp2_with (go_at_call 26; refine H.mono ?_; rintro e w' ⟨rfl, rfl⟩)
        go_ret
        exact ⟨ret_int (by simp [HE.out]), rfl⟩
      · have HE : Hid ((if 0 ≤ m ∧ m < S.pg then (0 : Int) else 5) = 5) := Lib.hid (if_neg (by omega))
        have h1' : (S.pg : Int) ≤ m := by omega
        go_enter Try.func19, Try.ntmps19
        go_wp2_with (go_at_call 26; refine H.mono ?_; rintro e w' ⟨rfl, rfl⟩)
        go_ret
        exact ⟨ret_int (by simp [HE.out]), rfl⟩

theorem next_none7 (h : FixAt w S) (n : Int) (hn : hasB S n = false) :
    Calls Try.prog 8 #[.pointer (some ⟨S.nb, 0, none⟩), .int .i64 n] w fun e w' => e = .returned (.int .i64 0) ∧ w = w' := by
  have H := has_is h n
  rw [hn] at H
  clear h hn
  go_enter Try.func8, Try.ntmps8
  go_wp2_with (go_at_call 24; refine H.mono ?_; rintro e w' ⟨rfl, rfl⟩)
  go_ret
  exact ⟨rfl, rfl⟩

theorem next7_is (h : FixAt w S) {f : Nat → Pg} {i : Nat} (hi : i < S.all) (hf : RowAt w S.T (S.row i) S.pg f) (hR : Roles S) :
    Calls Try.prog 8 #[.pointer (some ⟨S.nb, 0, none⟩), .int .i64 (i : Int)] w fun e w' => e = .returned (.int .i64 (nextN f S.pg : Nat)) ∧ w = w' := by
  have H := has_is h i
  have hh : hasB S i = true := by simp [hasB]; omega
  rw [hh] at H
  have c := h.cl
  have c2 := h.rows i hi
  have hb := hR.bds
  have HC := Lib.hid hf.st
  clear h hh hf hR
  generalize S.row i = r at *
  generalize S.pg = pg at *
  generalize S.all = al at *
  go_enter Try.func8, Try.ntmps8
  go_wp2_with (go_at_call 24; refine H.mono ?_; rintro e w' ⟨rfl, rfl⟩)
  go_loop [5] (fun n => ∃ k : Nat, k ≤ pg ∧ n = .int .i64 k ∧ nextN f pg = nextN f k) (fun n => (intOf n).toNat)
  case atStart => exact ⟨pg, Nat.le_refl _, rfl, rfl⟩
  case round =>
    obtain ⟨k, hk, rfl, hr⟩ := hrel
    have HR := Lib.hid hr
    clear hr
    match k with
    | 0 =>
      go_wp2
      go_ret
      exact ⟨ret_int (by rw [HR.out]; rfl), rfl⟩
    | k + 1 =>
      have hc := HC.out k (by omega)
      obtain ⟨x, hx⟩ : ∃ x, (f k).st = x := ⟨_, rfl⟩
      rw [hx] at hc
      have HX := Lib.hid hx
      clear hx
      by_cases hz : x = 0
      · subst hz
        go_wp2
        go_round
        case rel => exact ⟨k, by omega, by go_num, by rw [HR.out, nextN, HX.out, if_pos rfl]⟩
        case measure => simp [intOf]
      · have hz' : (x == 0) = false := by simpa using hz
        have HZ := Lib.hid hz
        clear hz
        go_wp2
        go_ret
        exact ⟨ret_int (by rw [HR.out, nextN, HX.out, if_neg HZ.out]; rfl), rfl⟩

theorem bad7_is (h : NandAt w S V zs s) {i : Nat} (hi : i < S.all) :
    Calls Try.prog 14 #[.pointer (some ⟨S.nb, 0, none⟩), .int .i64 (i : Int)] w fun e w' => e = .returned (.bool (s.mr i)) ∧ w = w' := by
  have H := has_is h.fix i
  have hh : hasB S i = true := by simp [hasB]; omega
  rw [hh] at H
  have c := h.fix.cm
  have c2 := h.mks i hi
  clear h hh
  go_enter Try.func14, Try.ntmps14
  go_wp2_with (go_at_call 24; refine H.mono ?_; rintro e w' ⟨rfl, rfl⟩)
  go_ret
  exact ⟨rfl, rfl⟩

theorem erases7_is (h : NandAt w S V zs s) {i : Nat} (hi : i < S.all) :
    Calls Try.prog 13 #[.pointer (some ⟨S.nb, 0, none⟩), .int .i64 (i : Int)] w fun e w' => e = .returned (.int .i64 (s.er i)) ∧ w = w' := by
  have H := has_is h.fix i
  have hh : hasB S i = true := by simp [hasB]; omega
  rw [hh] at H
  have c := h.fix.ce
  have c2 := h.ers i hi
  clear h hh
  go_enter Try.func13, Try.ntmps13
  go_wp2_with (go_at_call 24; refine H.mono ?_; rintro e w' ⟨rfl, rfl⟩)
  go_ret
  exact ⟨rfl, rfl⟩

theorem blocks7_is (h : FixAt w S) :
    Calls Try.prog 15 #[.pointer (some ⟨S.nb, 0, none⟩)] w fun e w' => e = .returned (.int .i64 S.all) ∧ w = w' := by
  have c := h.cl
  clear h
  go_enter Try.func15, Try.ntmps15
  go_wp2
  go_ret
  exact ⟨rfl, rfl⟩

theorem blank7_is (h : NandAt w S V zs s) (hR : Roles S) {i : Nat} (hi : i < S.all) :
    Calls Try.prog 12 #[.pointer (some ⟨S.nb, 0, none⟩), .int .i64 (i : Int)] w fun e w' => e = .returned (.bool (decide (nextN (s.L i) S.pg = 0))) ∧ w = w' := by
  have H := has_is h.fix i
  have hh : hasB S i = true := by simp [hasB]; omega
  rw [hh] at H
  have N := next7_is h.fix hi (h.row i hi) hR
  clear h hh hR
  generalize nextN (s.L i) S.pg = n at *
  go_enter Try.func12, Try.ntmps12
  go_wp2_with (first
    | (go_at_call 24; refine H.mono ?_; rintro e w' ⟨rfl, rfl⟩)
    | (go_at_call 8; refine N.mono ?_; rintro e w' ⟨rfl, rfl⟩))
  go_ret
  exact ⟨ret_bool (by rw [Bool.eq_iff_iff]; simp), rfl⟩
end

end Go.Proofs.Ytaobamnfgpllcaa
