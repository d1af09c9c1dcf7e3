/-
  Layer 13: changes; what a buffer answers (its contracts); the document's Check.
-/
import Derived.Test.YtdnjpoioojahkaaQA
import Derived.Test.YtdnjpoioojahkaaLine
import Derived.Test.YtdnjpoioojahkaaEA
import Derived.Lib.Hide
namespace Go.Proofs.Ytdnjpoioojahkaa
set_option linter.unusedVariables false
set_option linter.unusedSimpArgs false
set_option maxRecDepth 100000
open Go.RowKit

/-! ### a change -/
structure Chg where
  pl : Int
  kd : Int
  dt : ByteArray
def noChg : Chg := ⟨0, 0, ⟨#[]⟩⟩
def chgC (c : Chg) : Array Value := #[.int .i64 c.pl, .int .i64 c.kd, .string c.dt]
def chgsL (row : List Chg) : List Value := row.flatMap fun c => (chgC c).toList
theorem chgsL_len (row : List Chg) : (chgsL row).length = row.length * 3 := by
  unfold chgsL
  induction row with
  | nil => rfl
  | cons c r ih => rw [List.flatMap_cons, List.length_append, ih, List.length_cons]; simp [chgC]; omega

/-- What is wrong with a change. -/
def chkE (pl kd : Int) (dt : ByteArray) : Int :=
  if (kd ≠ 1 ∧ kd ≠ 2) ∨ pl < 0 ∨ 63 < pl ∨ (kd = 2 ∧ dt.size ≠ 0) then 1 else if 16 < dt.size then 3 else 0

theorem ret_int13 {a b : Int} (h : a = b) : Ending.returned (.int .i64 a) = .returned (.int .i64 b) := by rw [h]
theorem str_none {s : ByteArray} : s.toList.isEmpty = decide (s.size = 0) := by
  rw [ByteArray.toList_eq]
  by_cases h : s.size = 0
  · have : s.data.toList = [] := List.eq_nil_of_length_eq_zero (by simpa using h)
    simp [h, this]
  · rw [decide_eq_false h, Bool.eq_false_iff]
    intro e
    rw [List.isEmpty_iff] at e
    exact h (by have := congrArg List.length e; simpa using this)
theorem check13_any (pl kd : Int) (dt : ByteArray) (w : World) (hd : dt.size ≤ 9223372036854775807) :
    Calls Try.prog 9 #[.int .i64 pl, .int .i64 kd, .string dt] w fun e w' => e = .returned (.int .i64 (chkE pl kd dt)) ∧ w = w' := by
  have hz := str_none (s := dt)
  obtain ⟨r, hr⟩ : ∃ r, chkE pl kd dt = r := ⟨_, rfl⟩
  rw [hr]
  unfold chkE at hr
  obtain ⟨n, hn⟩ : ∃ n, dt.size = n := ⟨_, rfl⟩
  have HD := Lib.hid (show (dt.size : Int) = n by rw [hn])
  rw [hn] at hz hd hr
  have HR := Lib.hid hr
  clear hr
  by_cases kk : kd ≠ 1 ∧ kd ≠ 2
  · have b1 : (kd != 1) = true := by simp [kk.1]
    have b2 : (kd != 2) = true := by simp [kk.2]
    have HK := Lib.hid kk
    clear kk hz
    go_enter Try.func9, Try.ntmps9
    go_wp2
    go_ret
    exact ⟨ret_int13 (by rw [← HR.out, if_pos (.inl HK.out)]), rfl⟩
  by_cases k1 : kd = 1
  · have b1 : (kd != 1) = false := by simp [k1]
    have b2 : (kd == 2) = false := by simp [k1]
    have HK := Lib.hid (And.intro k1 kk)
    clear k1 kk hz
    by_cases hp : pl < 0
    · have b3 : decide (pl < 0) = true := by simpa using hp
      have HP := Lib.hid hp
      clear hp
      go_enter Try.func9, Try.ntmps9
      go_wp2
      go_ret
      exact ⟨ret_int13 (by rw [← HR.out, if_pos (.inr (.inl HP.out))]), rfl⟩
    · have b3 : decide (pl < 0) = false := by simpa using hp
      have HP := Lib.hid hp
      clear hp
      by_cases hq : 63 < pl
      · have b4 : decide (63 < pl) = true := by simpa using hq
        have HQ := Lib.hid hq
        clear hq
        go_enter Try.func9, Try.ntmps9
        go_wp2
        go_ret
        exact ⟨ret_int13 (by rw [← HR.out, if_pos (.inr (.inr (.inl HQ.out)))]), rfl⟩
      · have b4 : decide (63 < pl) = false := by simpa using hq
        have HQ := Lib.hid hq
        clear hq
        have HN := Lib.hid (show ¬ ((kd ≠ 1 ∧ kd ≠ 2) ∨ pl < 0 ∨ 63 < pl ∨ (kd = 2 ∧ n ≠ 0)) from fun h => by
          have h1 := HK.out.1; have h2 := HK.out.2; have h3 := HP.out; have h4 := HQ.out
          rcases h with h | h | h | h
          · exact h2 h
          · exact h3 h
          · exact h4 h
          · omega)
        by_cases hl : 16 < n
        · have b5 : (16 : Int) < n := by omega
          have HL := Lib.hid hl
          clear hl
          go_enter Try.func9, Try.ntmps9
          go_wp2
          go_ret
          exact ⟨ret_int13 (by rw [← HR.out, if_neg HN.out, if_pos HL.out]), rfl⟩
        · have b5 : ¬ (16 : Int) < n := by omega
          have HL := Lib.hid hl
          clear hl
          go_enter Try.func9, Try.ntmps9
          go_wp2
          go_ret
          exact ⟨ret_int13 (by rw [← HR.out, if_neg HN.out, if_neg HL.out]), rfl⟩
  · have k2 : kd = 2 := by omega
    have b1 : (kd != 1) = true := by simp [k2]
    have b2 : (kd != 2) = false := by simp [k2]
    have b22 : (kd == 2) = true := by simp [k2]
    have HK := Lib.hid (And.intro k2 kk)
    clear k1 kk k2
    by_cases hp : pl < 0
    · have b3 : decide (pl < 0) = true := by simpa using hp
      have HP := Lib.hid hp
      clear hp hz
      go_enter Try.func9, Try.ntmps9
      go_wp2
      go_ret
      exact ⟨ret_int13 (by rw [← HR.out, if_pos (.inr (.inl HP.out))]), rfl⟩
    · have b3 : decide (pl < 0) = false := by simpa using hp
      have HP := Lib.hid hp
      clear hp
      by_cases hq : 63 < pl
      · have b4 : decide (63 < pl) = true := by simpa using hq
        have HQ := Lib.hid hq
        clear hq hz
        go_enter Try.func9, Try.ntmps9
        go_wp2
        go_ret
        exact ⟨ret_int13 (by rw [← HR.out, if_pos (.inr (.inr (.inl HQ.out)))]), rfl⟩
      · have b4 : decide (63 < pl) = false := by simpa using hq
        have HQ := Lib.hid hq
        clear hq
        by_cases hl : n = 0
        · rw [decide_eq_true hl] at hz
          have HN := Lib.hid (show ¬ ((kd ≠ 1 ∧ kd ≠ 2) ∨ pl < 0 ∨ 63 < pl ∨ (kd = 2 ∧ n ≠ 0)) from fun h => by
            have h1 := HK.out.1; have h2 := HK.out.2; have h3 := HP.out; have h4 := HQ.out
            rcases h with h | h | h | h
            · exact h2 h
            · exact h3 h
            · exact h4 h
            · omega)
          have b5 : ¬ (16 : Int) < n := by omega
          have HL := Lib.hid (show ¬ 16 < n by omega)
          clear hl
          go_enter Try.func9, Try.ntmps9
          go_wp2
          go_ret
          exact ⟨ret_int13 (by rw [← HR.out, if_neg HN.out, if_neg HL.out]), rfl⟩
        · rw [decide_eq_false hl] at hz
          have HL := Lib.hid hl
          clear hl
          go_enter Try.func9, Try.ntmps9
          go_wp2
          go_ret
          exact ⟨ret_int13 (by rw [← HR.out, if_pos (.inr (.inr (.inr ⟨HK.out.1, HL.out⟩)))]), rfl⟩

end Go.Proofs.Ytdnjpoioojahkaa
