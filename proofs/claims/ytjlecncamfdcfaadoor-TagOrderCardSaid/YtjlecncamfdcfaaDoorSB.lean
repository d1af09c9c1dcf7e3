/-
  Package sum: shift, worked, Of; the document's Of.
-/
import Derived.Test.YtjlecncamfdcfaaDoorSA
import Derived.Test.YtjlecncamfdcfaaDoorBY
import Derived.Laws.BitsAllLaws
namespace Go.Proofs.YtjlecncamfdcfaaDoor
open Go.RowKit

theorem shift8 (r : Nat) (w : World) (hr : r < 4294967296) :
    Calls Tryd.prog 42 #[.int .u32 (r : Int), .int .i64 8] w fun e w' => e = .returned (.int .u32 ((shN r 8 : Nat) : Int)) ∧ w = w' := by
  go_enter Tryd.func42, Tryd.ntmps42
  go_wp2
  go_loopw [0, 7] (fun v i wr => ∃ k : Nat, k ≤ 8 ∧ i = .int .i64 k ∧ v = .int .u32 ((shN r k : Nat) : Int) ∧ w = wr) (fun _ i _ => 8 - (intOf i).toNat)
  case atStart => exact ⟨0, by omega, rfl, rfl, rfl⟩
  case round =>
    obtain ⟨k, hk, rfl, rfl, rfl⟩ := hrel
    by_cases hlt : k < 8
    · have hs := shN_lt hr k
      have hsk : shN r (k + 1) = stp (shN r k) := rfl
      generalize shN r k = s at *
      have hx : bits .xor .u32 ((s : Int) / 2) 2197175160 = ((s / 2 ^^^ 2197175160 : Nat) : Int) := by
        have := u32_xor_nat (s / 2) 2197175160 (by omega) (by omega)
        simpa using this
      have ha : bits .and .u32 (s : Int) 1 = ((s % 2 : Nat) : Int) := by
        have := u32_and_nat s 1 hs (by omega)
        rw [Nat.and_one_is_mod] at this
        simpa using this
      unfold stp at hsk
      by_cases ho : s % 2 = 1
      · rw [if_pos ho] at hsk
        rw [ho] at ha
        have HS := Lib.hid hsk
        clear hsk ho
        go_wp2
        go_roundw
        case rel => exact ⟨k + 1, by omega, by go_num, by rw [HS.out], trivial⟩
        case measure => simp [intOf]; omega
      · have ho : s % 2 = 0 := by omega
        rw [if_neg (by omega)] at hsk
        rw [ho] at ha
        have HS := Lib.hid hsk
        clear hsk ho
        go_wp2
        go_roundw
        case rel => exact ⟨k + 1, by omega, by go_num, by rw [HS.out]; simp, trivial⟩
        case measure => simp [intOf]; omega
    · obtain rfl : k = 8 := by omega
      go_wp2
      go_ret
      exact ⟨rfl, rfl⟩

theorem not32 {x : Nat} (h : x < 4294967296) : 4294967295 ^^^ x = 4294967295 - x := by
  have e : 4294967295 - x = 2 ^ 32 - (x + 1) := by omega
  rw [e]
  apply Nat.eq_of_testBit_eq
  intro i
  rw [Nat.testBit_xor, Nat.testBit_two_pow_sub_succ (n := 32) h, show 4294967295 = 2 ^ 32 - 1 from rfl, Nat.testBit_two_pow_sub_one]
  by_cases hi : i < 32
  · simp [hi]
  · have hx : x.testBit i = false := Nat.testBit_lt_two_pow (Nat.lt_of_lt_of_le h (Nat.pow_le_pow_right (n := 2) (i := 32) (by omega) (by omega)))
    simp [hi, hx]
theorem notU (x y : Nat) (h : x < 4294967296) (hy : 4294967295 - x = y) : bits .xor .u32 IntKind.u32.max (x : Int) = (y : Int) := by
  have e := u32_xor_nat 4294967295 x (by omega) h
  rw [not32 h, hy] at e
  rw [show IntKind.u32.max = ((4294967295 : Nat) : Int) from rfl, e]

theorem Bts.sform {w : World} {v : Value} {xs : List Int} (h : Bts w v xs) : ∃ ao cap b off, v = .slice ao xs.length cap ∧ ∀ k, k < xs.length → ao = some ⟨b, off, none⟩ ∧ w.cell? ⟨b, off + k, none⟩ = some (.int .u8 (xs.getD k 0)) := by
  rcases h with ⟨rfl, rfl⟩ | ⟨b, off, cap, rfl, _, hc⟩
  · exact ⟨none, 0, 0, 0, rfl, fun k hk => by simp at hk⟩
  · exact ⟨_, cap, b, off, rfl, fun k hk => ⟨rfl, hc k hk⟩⟩

theorem crcR_take {r : Nat} {xs : List Int} {k d : Nat} (hk : k < xs.length) (hd : xs.getD k 0 = (d : Int)) : crcR r (xs.take (k + 1)) = shN (crcR r (xs.take k) ^^^ d) 8 := by
  rw [List.take_add_one, List.getElem?_eq_getElem hk, Option.toList_some, crcR_snoc]
  rw [List.getD_eq_getElem?_getD, List.getElem?_eq_getElem hk] at hd
  simp only [Option.getD_some] at hd
  rw [hd]
  rfl

set_option maxHeartbeats 400000 in
theorem worked_any (s : Nat) (v : Value) (xs : List Int) (w : World) (hs : s < 4294967296) (hb : Bts w v xs) (hB : ∀ x ∈ xs, 0 ≤ x ∧ x < 256) (hm : xs.length ≤ 9223372036854775807) :
    Calls Tryd.prog 41 #[.int .u32 (s : Int), v] w fun e w' => e = .returned (.int .u32 ((crcOn s xs : Nat) : Int)) ∧ w = w' := by
  obtain ⟨t, ht⟩ : ∃ t, 4294967295 - s = t := ⟨_, rfl⟩
  have hn := notU s t hs ht
  have htl : t < 4294967296 := by omega
  obtain ⟨ao, cap, b, off, rfl, hc⟩ := hb.sform
  have HC := Lib.hid hc
  have HB := Lib.hid hB
  have hgo : crcOn s xs = 4294967295 - crcR t xs := by rw [← ht]; rfl
  rw [hgo]
  obtain ⟨g, hg⟩ : ∃ g, crcR t xs = g := ⟨_, rfl⟩
  have hgl : g < 4294967296 := by rw [← hg]; exact crcR_lt htl hB
  obtain ⟨z, hz⟩ : ∃ z, 4294967295 - g = z := ⟨_, rfl⟩
  have hn2 := notU g z hgl hz
  rw [hg, hz]
  have HG := Lib.hid hg
  clear hb hc hB ht hgo hg hz
  go_enter Tryd.func41, Tryd.ntmps41
  go_wp2
  go_loopw [5, 12] (fun v i wr => ∃ k : Nat, k ≤ xs.length ∧ i = .int .i64 k ∧ v = .int .u32 ((crcR t (xs.take k) : Nat) : Int) ∧ w = wr) (fun _ i _ => xs.length - (intOf i).toNat)
  case atStart => exact ⟨0, by omega, rfl, rfl, rfl⟩
  case round =>
    obtain ⟨k, hk, rfl, rfl, rfl⟩ := hrel
    by_cases hlt : k < xs.length
    · have hd : 0 ≤ xs.getD k 0 ∧ xs.getD k 0 < 256 := by
        rw [List.getD_eq_getElem?_getD, List.getElem?_eq_getElem hlt]
        exact HB.out _ (List.getElem_mem hlt)
      obtain ⟨rfl, hcell⟩ := HC.out k hlt
      obtain ⟨d, hde⟩ := Int.eq_ofNat_of_zero_le hd.1
      have hd2 : d < 256 := by omega
      have hst := crcR_take (r := t) hlt hde
      have hrl := crcR_lt (r := t) (xs := xs.take k) htl (fun x hx => HB.out x (List.mem_of_mem_take hx))
      rw [hde] at hcell
      generalize crcR t (xs.take k) = r at *
      obtain ⟨y, hy⟩ : ∃ y, r ^^^ d = y := ⟨_, rfl⟩
      have hyl : y < 4294967296 := by rw [← hy]; exact xor_byte_lt hrl hd2
      have hx : bits .xor .u32 (r : Int) (d : Int) = (y : Int) := by rw [← hy]; exact u32_xor_nat r d hrl (by omega)
      rw [hy] at hst
      have hw : IntKind.u32.wrap (d : Int) = (d : Int) := by simp [IntKind.wrap, IntKind.bits, IntKind.signed]; omega
      have SH := fun w => shift8 y w hyl
      have HS := Lib.hid hst
      generalize shN y 8 = q at *
      clear hst hy hd hde hrl
      go_wp2_with (go_at_call 42; refine (SH _).mono ?_; rintro e w' ⟨rfl, rfl⟩)
      go_roundw
      case rel => exact ⟨k + 1, by omega, by go_num, by rw [HS.out], trivial⟩
      case measure => simp [intOf]; omega
    · obtain rfl : k = xs.length := by omega
      have e : crcR t (xs.take xs.length) = g := by rw [List.take_length]; exact HG.out
      rw [e]
      clear e
      go_wp2
      go_ret
      exact ⟨rfl, rfl⟩

theorem sumOf_any (v : Value) (xs : List Int) (w : World) (hb : Bts w v xs) (hB : ∀ x ∈ xs, 0 ≤ x ∧ x < 256) (hm : xs.length ≤ 9223372036854775807) :
    Calls Tryd.prog 34 #[v] w fun e w' => e = .returned (.int .u32 ((crcOf xs : Nat) : Int)) ∧ w = w' := by
  have W := worked_any 0 v xs w (by omega) hb hB hm
  rw [show crcOn 0 xs = crcOf xs from rfl] at W
  generalize crcOf xs = g at *
  clear hb hB hm
  go_enter Tryd.func34, Tryd.ntmps34
  go_wp2_with (go_at_call 41; refine W.mono ?_; rintro e w' ⟨rfl, rfl⟩)
  go_ret
  exact ⟨rfl, rfl⟩

set_option maxHeartbeats 1000000 in
theorem refOf_any (v : Value) (xs : List Int) (w : World) (hb : Bts w v xs) (hB : ∀ x ∈ xs, 0 ≤ x ∧ x < 256) (hm : xs.length ≤ 9223372036854775807) :
    Calls Tryd.prog 26 #[v] w fun e w' => e = .returned (.int .u32 ((crcOf xs : Nat) : Int)) ∧ w = w' := by
  obtain ⟨ao, cap, b, off, rfl, hc⟩ := hb.sform
  have HC := Lib.hid hc
  have HB := Lib.hid hB
  have hgo : crcOf xs = 4294967295 - crcR 4294967295 xs := rfl
  rw [hgo]
  obtain ⟨g, hg⟩ : ∃ g, crcR 4294967295 xs = g := ⟨_, rfl⟩
  have hgl : g < 4294967296 := by rw [← hg]; exact crcR_lt (by omega) hB
  obtain ⟨z, hz⟩ : ∃ z, 4294967295 - g = z := ⟨_, rfl⟩
  have hn2 := notU g z hgl hz
  rw [hg, hz]
  have HG := Lib.hid hg
  clear hb hc hB hgo hg hz
  go_enter Tryd.func26, Tryd.ntmps26
  go_wp2
  go_loopw [3, 11] (fun v i wr => ∃ k : Nat, k ≤ xs.length ∧ i = .int .i64 k ∧ v = .int .u32 ((crcR 4294967295 (xs.take k) : Nat) : Int) ∧ w = wr) (fun _ i _ => xs.length - (intOf i).toNat)
  case atStart => exact ⟨0, by omega, rfl, rfl, rfl⟩
  case round =>
    obtain ⟨k, hk, rfl, rfl, rfl⟩ := hrel
    by_cases hlt : k < xs.length
    · have hd : 0 ≤ xs.getD k 0 ∧ xs.getD k 0 < 256 := by
        rw [List.getD_eq_getElem?_getD, List.getElem?_eq_getElem hlt]
        exact HB.out _ (List.getElem_mem hlt)
      obtain ⟨rfl, hcell⟩ := HC.out k hlt
      obtain ⟨d, hde⟩ := Int.eq_ofNat_of_zero_le hd.1
      have hd2 : d < 256 := by omega
      have hst := crcR_take (r := 4294967295) hlt hde
      have hrl := crcR_lt (r := 4294967295) (xs := xs.take k) (by omega) (fun x hx => HB.out x (List.mem_of_mem_take hx))
      rw [hde] at hcell
      generalize crcR 4294967295 (xs.take k) = r at *
      have HS := Lib.hid hst
      clear hst hde
      go_wp2
      go_loopw [3, 5, 6] (fun v c i wr => ∃ j x y : Nat, j ≤ 8 ∧ i = .int .i64 j ∧ v = .int .u32 (x : Int) ∧ c = .int .u8 (y : Int) ∧ x < 4294967296 ∧ y = d / 2 ^ j ∧ x ^^^ y = shN (r ^^^ d) j ∧ w = wr) (fun _ _ i _ => 8 - (intOf i).toNat)
      case atStart => exact ⟨0, r, d, by omega, rfl, rfl, rfl, hrl, by simp, rfl, rfl⟩
      case round =>
        obtain ⟨j, x, y, hj, rfl, rfl, rfl, hxl, hy, hxy, rfl⟩ := hrel
        have hyl : y < 256 := by rw [hy]; exact Nat.lt_of_le_of_lt (Nat.div_le_self _ _) hd2
        by_cases hlt8 : j < 8
        · have hs := half_step hxy
          have hy2 : y / 2 = d / 2 ^ (j + 1) := by rw [hy, Nat.div_div_eq_div_mul, Nat.pow_succ]
          have HY := Lib.hid hy2
          have hq : (y : Int).tdiv 2 % 256 = ((y / 2 : Nat) : Int) := by rw [Int.tdiv_eq_ediv_of_nonneg (by omega)]; omega
          have hx : bits .xor .u32 ((x : Int) / 2) 2197175160 = ((x / 2 ^^^ 2197175160 : Nat) : Int) := by
            have := u32_xor_nat (x / 2) 2197175160 (by omega) (by omega)
            simpa using this
          by_cases ho : x % 2 = y % 2
          · rw [if_neg (by omega)] at hs
            have HX := Lib.hid hs
            have hne : ((x : Int) % 2 != (y : Int) % 2) = false := by simp; omega
            clear hxy hy hs hy2 ho hx
            go_wp2
            go_roundw
            case rel => exact ⟨j + 1, x / 2, y / 2, by omega, by go_num, by simp, rfl, by omega, HY.out, HX.out, trivial⟩
            case measure => simp [intOf]; omega
          · rw [if_pos ho] at hs
            have HX := Lib.hid hs
            have hne : ((x : Int) % 2 != (y : Int) % 2) = true := by simp; omega
            have hl2 : x / 2 ^^^ 2197175160 < 4294967296 := Nat.xor_lt_two_pow (n := 32) (by omega) (by decide)
            clear hxy hy hs hy2 ho
            go_wp2
            go_roundw
            case rel => exact ⟨j + 1, _, y / 2, by omega, by go_num, rfl, rfl, hl2, HY.out, HX.out, trivial⟩
            case measure => simp [intOf]; omega
        · obtain rfl : j = 8 := by omega
          have hy0 : y = 0 := by rw [hy]; omega
          rw [hy0, Nat.xor_zero] at hxy
          have HX := Lib.hid hxy
          clear hxy hy hy0
          go_wp2
          go_roundw
          case rel => exact ⟨k + 1, by omega, by go_num, by rw [HS.out, HX.out], trivial⟩
          case measure => simp [intOf]; omega
    · obtain rfl : k = xs.length := by omega
      have e : crcR 4294967295 (xs.take xs.length) = g := by rw [List.take_length]; exact HG.out
      rw [e]
      clear e
      go_wp2
      go_ret
      exact ⟨rfl, rfl⟩

theorem lit_bts (w : World) (xs : List Int) (T : TypeId) (fr : Nat × Nat) (g : Nat) (hg : g = w.heap.size) : Bts (w.alloc (.cells (xs.map (Value.int .u8)).toArray T fr)) (.slice (some ⟨g, 0, none⟩) xs.length xs.length) xs := by
  subst hg
  refine .inr ⟨w.heap.size, 0, xs.length, rfl, Nat.le_refl _, fun i hi => ?_⟩
  rw [Nat.zero_add, World.cell?_alloc_mark]
  simp [List.getD_eq_getElem?_getD, List.getElem?_eq_getElem hi]

theorem bytes_of {xs : List Int} (h : (xs.all fun x => decide (0 ≤ x ∧ x < 256)) = true) : ∀ x ∈ xs, 0 ≤ x ∧ x < 256 := by simpa using h

end Go.Proofs.YtjlecncamfdcfaaDoor
