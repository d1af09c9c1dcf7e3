/-
  Texts put together: SA SB FA FB FC FD SN FE.
-/
import Derived.Test.YtnfhibigidkhkaaDoorM01
import Derived.Lib.Hide
import Derived.Laws.BitsAllLaws
import Derived.Test.YtnfhibigidkhkaaDoorM06
/-
  Sums: what the register comes to, as numbers; it is linear, and nothing but 0 comes to 0.
-/
namespace Go.Proofs.YtnfhibigidkhkaaDoor
set_option linter.unusedVariables false
set_option linter.unusedSimpArgs false
set_option linter.unusedVariables false
set_option linter.unusedSimpArgs false
set_option maxRecDepth 100000

/-- One step of the register. -/
def stp (r : Nat) : Nat := if r % 2 = 1 then (r / 2) ^^^ 2197175160 else r / 2
/-- So many steps. -/
def shN (r : Nat) : Nat → Nat
  | 0 => r
  | k + 1 => stp (shN r k)
/-- The register behind bytes. -/
def crcR (r : Nat) (xs : List Int) : Nat := xs.foldl (fun r c => shN (r ^^^ c.toNat) 8) r
/-- The sum that goes on. -/
def crcOn (s : Nat) (xs : List Int) : Nat := 4294967295 - crcR (4294967295 - s) xs
/-- The sum of bytes. -/
def crcOf (xs : List Int) : Nat := 4294967295 - crcR 4294967295 xs

theorem stp_lt {r : Nat} (h : r < 4294967296) : stp r < 4294967296 := by
  unfold stp
  split
  · exact Nat.xor_lt_two_pow (n := 32) (by omega) (by decide)
  · omega
theorem shN_lt {r : Nat} (h : r < 4294967296) : ∀ k, shN r k < 4294967296
  | 0 => h
  | k + 1 => stp_lt (shN_lt h k)
theorem xor_byte_lt {r c : Nat} (h : r < 4294967296) (hc : c < 256) : r ^^^ c < 4294967296 := Nat.xor_lt_two_pow (n := 32) h (by omega)
theorem crcR_lt : ∀ {xs : List Int} {r : Nat}, r < 4294967296 → (∀ x ∈ xs, 0 ≤ x ∧ x < 256) → crcR r xs < 4294967296
  | [], _, h, _ => h
  | c :: l, r, h, hB => by
    have := hB c (by simp)
    exact crcR_lt (xs := l) (shN_lt (xor_byte_lt h (by omega)) 8) (fun x hx => hB x (by simp [hx]))
theorem crcR_snoc (r : Nat) (xs : List Int) (c : Int) : crcR r (xs ++ [c]) = shN (crcR r xs ^^^ c.toNat) 8 := by simp [crcR]
theorem crcR_append (r : Nat) (xs ys : List Int) : crcR r (xs ++ ys) = crcR (crcR r xs) ys := by simp [crcR]

theorem xor_mod2 (a b : Nat) : (a ^^^ b) % 2 = (a + b) % 2 := by
  have h := Nat.xor_mod_two_pow (a := a) (b := b) (n := 1)
  rw [Nat.pow_one] at h
  have ha : a % 2 = 0 ∨ a % 2 = 1 := by omega
  have hb : b % 2 = 0 ∨ b % 2 = 1 := by omega
  rcases ha with ha | ha <;> rcases hb with hb | hb <;> rw [h, ha, hb, Nat.add_mod, ha, hb] <;> decide
theorem xor_div2 (a b : Nat) : (a ^^^ b) / 2 = a / 2 ^^^ b / 2 := by
  have h := Nat.shiftRight_xor_distrib (a := a) (b := b) (i := 1)
  simpa [Nat.shiftRight_eq_div_pow] using h
theorem stp_xor (a b : Nat) : stp (a ^^^ b) = stp a ^^^ stp b := by
  unfold stp
  rw [xor_mod2, xor_div2]
  have ha : a % 2 = 0 ∨ a % 2 = 1 := by omega
  have hb : b % 2 = 0 ∨ b % 2 = 1 := by omega
  rcases ha with ha | ha <;> rcases hb with hb | hb
  · rw [if_neg (by omega), if_neg (by omega), if_neg (by omega)]
  · rw [if_pos (by omega), if_neg (by omega), if_pos (by omega), Nat.xor_assoc]
  · rw [if_pos (by omega), if_pos (by omega), if_neg (by omega), Nat.xor_assoc, Nat.xor_assoc, Nat.xor_comm (b / 2)]
  · rw [if_neg (by omega), if_pos (by omega), if_pos (by omega), Nat.xor_assoc, Nat.xor_comm 2197175160, Nat.xor_assoc, Nat.xor_self, Nat.xor_zero]
theorem shN_xor (a b : Nat) : ∀ k, shN (a ^^^ b) k = shN a k ^^^ shN b k
  | 0 => rfl
  | k + 1 => by simp only [shN, shN_xor a b k, stp_xor]
theorem xor_eq0 {a b : Nat} (h : a ^^^ b = 0) : a = b := by
  have h2 : (a ^^^ b) ^^^ b = b := by rw [h, Nat.zero_xor]
  rwa [Nat.xor_assoc, Nat.xor_self, Nat.xor_zero] at h2
theorem stp_zero {r : Nat} (h : r < 4294967296) (h0 : stp r = 0) : r = 0 := by
  unfold stp at h0
  split at h0
  · have := xor_eq0 h0
    omega
  · omega
theorem shN_zero {r : Nat} (h : r < 4294967296) : ∀ k, shN r k = 0 → r = 0
  | 0, h0 => h0
  | k + 1, h0 => shN_zero h k (stp_zero (shN_lt h k) h0)
theorem shN_inj {a b : Nat} (ha : a < 4294967296) (hb : b < 4294967296) {k : Nat} (h : shN a k = shN b k) : a = b := by
  refine xor_eq0 (shN_zero (Nat.xor_lt_two_pow (n := 32) ha hb) k ?_)
  rw [shN_xor, h, Nat.xor_self]
theorem crcR_inj : ∀ {xs : List Int} {a b : Nat}, a < 4294967296 → b < 4294967296 → (∀ x ∈ xs, 0 ≤ x ∧ x < 256) → crcR a xs = crcR b xs → a = b
  | [], _, _, _, _, _, h => h
  | c :: l, a, b, ha, hb, hB, h => by
    have hc := hB c (by simp)
    have h2 := crcR_inj (xs := l) (shN_lt (xor_byte_lt ha (show c.toNat < 256 by omega)) 8) (shN_lt (xor_byte_lt hb (show c.toNat < 256 by omega)) 8) (fun x hx => hB x (by simp [hx])) h
    have h3 := shN_inj (xor_byte_lt ha (by omega)) (xor_byte_lt hb (by omega)) h2
    have h4 : (a ^^^ c.toNat) ^^^ c.toNat = (b ^^^ c.toNat) ^^^ c.toNat := by rw [h3]
    rwa [Nat.xor_assoc, Nat.xor_self, Nat.xor_zero, Nat.xor_assoc, Nat.xor_self, Nat.xor_zero] at h4
theorem crcOf_lt (xs : List Int) : crcOf xs < 4294967296 := by unfold crcOf; omega
theorem crcOf_inj {xs ys : List Int} (hx : ∀ x ∈ xs, 0 ≤ x ∧ x < 256) (hy : ∀ x ∈ ys, 0 ≤ x ∧ x < 256) (h : crcOf xs = crcOf ys) : crcR 4294967295 xs = crcR 4294967295 ys := by
  have h1 := crcR_lt (r := 4294967295) (by decide) hx
  have h2 := crcR_lt (r := 4294967295) (by decide) hy
  unfold crcOf at h
  omega

/-- The document's way: both numbers are halved. -/
theorem half_step {v c s : Nat} (h : v ^^^ c = s) : (if v % 2 ≠ c % 2 then (v / 2) ^^^ 2197175160 else v / 2) ^^^ (c / 2) = stp s := by
  subst h
  unfold stp
  rw [xor_mod2, xor_div2]
  by_cases hd : v % 2 = c % 2
  · rw [if_neg (by omega), if_neg (by omega)]
  · rw [if_pos hd, if_pos (by omega), Nat.xor_assoc, Nat.xor_comm 2197175160, Nat.xor_assoc]

end Go.Proofs.YtnfhibigidkhkaaDoor

/-
  Package sum: shift, worked, Of; the document's Of.
-/
namespace Go.Proofs.YtnfhibigidkhkaaDoor
set_option linter.unusedVariables false
set_option linter.unusedSimpArgs false
set_option linter.unusedVariables false
set_option linter.unusedSimpArgs false
set_option maxRecDepth 100000
open Go.RowKit

theorem shift8 (r : Nat) (w : World) (hr : r < 4294967296) :
    Calls Tryd.prog 73 #[.int .u32 (r : Int), .int .i64 8] w fun e w' => e = .returned (.int .u32 ((shN r 8 : Nat) : Int)) ∧ w = w' := by
  go_enter Tryd.func73, Tryd.ntmps73
  go_wp2
  go_loopw [0, 7] (fun v i wr => ∃ k : Nat, k ≤ 8 ∧ i = .int .i64 k ∧ v = .int .u32 ((shN r k : Nat) : Int) ∧ w = wr) (fun _ i _ => 8 - (intOf i).toNat)
  case atStart => exact ⟨0, by omega, rfl, rfl, rfl⟩
  case round =>
    obtain ⟨k, hk, rfl, rfl, rfl⟩ := hrel
    by_cases hlt : k < 8
    · have hs := shN_lt hr k
      have hsk : shN r (k + 1) = stp (shN r k) := rfl
      generalize shN r k = s at *
      have hx : bits .xor .u32 ((s : Int) / 2) 2197175160 = ((s / 2 ^^^ 2197175160 : Nat) : Int) := by
        have := u32_xor_nat (s / 2) 2197175160 (by omega) (by omega)
        simpa using this
      have ha : bits .and .u32 (s : Int) 1 = ((s % 2 : Nat) : Int) := by
        have := u32_and_nat s 1 hs (by omega)
        rw [Nat.and_one_is_mod] at this
        simpa using this
      unfold stp at hsk
      by_cases ho : s % 2 = 1
      · rw [if_pos ho] at hsk
        rw [ho] at ha
        have HS := Lib.hid hsk
        clear hsk ho
        go_wp2
        go_roundw
        case rel => exact ⟨k + 1, by omega, by go_num, by rw [HS.out], trivial⟩
        case measure => simp [intOf]; omega
      · have ho : s % 2 = 0 := by omega
        rw [if_neg (by omega)] at hsk
        rw [ho] at ha
        have HS := Lib.hid hsk
        clear hsk ho
        go_wp2
        go_roundw
        case rel => exact ⟨k + 1, by omega, by go_num, by rw [HS.out]; simp, trivial⟩
        case measure => simp [intOf]; omega
    · obtain rfl : k = 8 := by omega
      go_wp2
      go_ret
      exact ⟨rfl, rfl⟩

theorem not32 {x : Nat} (h : x < 4294967296) : 4294967295 ^^^ x = 4294967295 - x := by
  have e : 4294967295 - x = 2 ^ 32 - (x + 1) := by omega
  rw [e]
  apply Nat.eq_of_testBit_eq
  intro i
  rw [Nat.testBit_xor, Nat.testBit_two_pow_sub_succ (n := 32) h, show 4294967295 = 2 ^ 32 - 1 from rfl, Nat.testBit_two_pow_sub_one]
  by_cases hi : i < 32
  · simp [hi]
  · have hx : x.testBit i = false := Nat.testBit_lt_two_pow (Nat.lt_of_lt_of_le h (Nat.pow_le_pow_right (n := 2) (i := 32) (by omega) (by omega)))
    simp [hi, hx]
theorem notU (x y : Nat) (h : x < 4294967296) (hy : 4294967295 - x = y) : bits .xor .u32 IntKind.u32.max (x : Int) = (y : Int) := by
  have e := u32_xor_nat 4294967295 x (by omega) h
  rw [not32 h, hy] at e
  rw [show IntKind.u32.max = ((4294967295 : Nat) : Int) from rfl, e]

theorem Bts.sform {w : World} {v : Value} {xs : List Int} (h : Bts w v xs) : ∃ ao cap b off, v = .slice ao xs.length cap ∧ ∀ k, k < xs.length → ao = some ⟨b, off, none⟩ ∧ w.cell? ⟨b, off + k, none⟩ = some (.int .u8 (xs.getD k 0)) := by
  rcases h with ⟨rfl, rfl⟩ | ⟨b, off, cap, rfl, _, hc⟩
  · exact ⟨none, 0, 0, 0, rfl, fun k hk => by simp at hk⟩
  · exact ⟨_, cap, b, off, rfl, fun k hk => ⟨rfl, hc k hk⟩⟩

theorem crcR_take {r : Nat} {xs : List Int} {k d : Nat} (hk : k < xs.length) (hd : xs.getD k 0 = (d : Int)) : crcR r (xs.take (k + 1)) = shN (crcR r (xs.take k) ^^^ d) 8 := by
  rw [List.take_add_one, List.getElem?_eq_getElem hk, Option.toList_some, crcR_snoc]
  rw [List.getD_eq_getElem?_getD, List.getElem?_eq_getElem hk] at hd
  simp only [Option.getD_some] at hd
  rw [hd]
  rfl

set_option maxHeartbeats 400000 in
theorem worked_any (s : Nat) (v : Value) (xs : List Int) (w : World) (hs : s < 4294967296) (hb : Bts w v xs) (hB : ∀ x ∈ xs, 0 ≤ x ∧ x < 256) (hm : xs.length ≤ 9223372036854775807) :
    Calls Tryd.prog 72 #[.int .u32 (s : Int), v] w fun e w' => e = .returned (.int .u32 ((crcOn s xs : Nat) : Int)) ∧ w = w' := by
  obtain ⟨t, ht⟩ : ∃ t, 4294967295 - s = t := ⟨_, rfl⟩
  have hn := notU s t hs ht
  have htl : t < 4294967296 := by omega
  obtain ⟨ao, cap, b, off, rfl, hc⟩ := hb.sform
  have HC := Lib.hid hc
  have HB := Lib.hid hB
  have hgo : crcOn s xs = 4294967295 - crcR t xs := by rw [← ht]; rfl
  rw [hgo]
  obtain ⟨g, hg⟩ : ∃ g, crcR t xs = g := ⟨_, rfl⟩
  have hgl : g < 4294967296 := by rw [← hg]; exact crcR_lt htl hB
  obtain ⟨z, hz⟩ : ∃ z, 4294967295 - g = z := ⟨_, rfl⟩
  have hn2 := notU g z hgl hz
  rw [hg, hz]
  have HG := Lib.hid hg
  clear hb hc hB ht hgo hg hz
  go_enter Tryd.func72, Tryd.ntmps72
  go_wp2
  go_loopw [5, 12] (fun v i wr => ∃ k : Nat, k ≤ xs.length ∧ i = .int .i64 k ∧ v = .int .u32 ((crcR t (xs.take k) : Nat) : Int) ∧ w = wr) (fun _ i _ => xs.length - (intOf i).toNat)
  case atStart => exact ⟨0, by omega, rfl, rfl, rfl⟩
  case round =>
    obtain ⟨k, hk, rfl, rfl, rfl⟩ := hrel
    by_cases hlt : k < xs.length
    · have hd : 0 ≤ xs.getD k 0 ∧ xs.getD k 0 < 256 := by
        rw [List.getD_eq_getElem?_getD, List.getElem?_eq_getElem hlt]
        exact HB.out _ (List.getElem_mem hlt)
      obtain ⟨rfl, hcell⟩ := HC.out k hlt
      obtain ⟨d, hde⟩ := Int.eq_ofNat_of_zero_le hd.1
      have hd2 : d < 256 := by omega
      have hst := crcR_take (r := t) hlt hde
      have hrl := crcR_lt (r := t) (xs := xs.take k) htl (fun x hx => HB.out x (List.mem_of_mem_take hx))
      rw [hde] at hcell
      generalize crcR t (xs.take k) = r at *
      obtain ⟨y, hy⟩ : ∃ y, r ^^^ d = y := ⟨_, rfl⟩
      have hyl : y < 4294967296 := by rw [← hy]; exact xor_byte_lt hrl hd2
      have hx : bits .xor .u32 (r : Int) (d : Int) = (y : Int) := by rw [← hy]; exact u32_xor_nat r d hrl (by omega)
      rw [hy] at hst
      have hw : IntKind.u32.wrap (d : Int) = (d : Int) := by simp [IntKind.wrap, IntKind.bits, IntKind.signed]; omega
      have SH := fun w => shift8 y w hyl
      have HS := Lib.hid hst
      generalize shN y 8 = q at *
      clear hst hy hd hde hrl
      go_wp2_with (go_at_call 73; refine (SH _).mono ?_; rintro e w' ⟨rfl, rfl⟩)
      go_roundw
      case rel => exact ⟨k + 1, by omega, by go_num, by rw [HS.out], trivial⟩
      case measure => simp [intOf]; omega
    · obtain rfl : k = xs.length := by omega
      have e : crcR t (xs.take xs.length) = g := by rw [List.take_length]; exact HG.out
      rw [e]
      clear e
      go_wp2
      go_ret
      exact ⟨rfl, rfl⟩

theorem sumOf_any (v : Value) (xs : List Int) (w : World) (hb : Bts w v xs) (hB : ∀ x ∈ xs, 0 ≤ x ∧ x < 256) (hm : xs.length ≤ 9223372036854775807) :
    Calls Tryd.prog 71 #[v] w fun e w' => e = .returned (.int .u32 ((crcOf xs : Nat) : Int)) ∧ w = w' := by
  have W := worked_any 0 v xs w (by omega) hb hB hm
  rw [show crcOn 0 xs = crcOf xs from rfl] at W
  generalize crcOf xs = g at *
  clear hb hB hm
  go_enter Tryd.func71, Tryd.ntmps71
  go_wp2_with (go_at_call 72; refine W.mono ?_; rintro e w' ⟨rfl, rfl⟩)
  go_ret
  exact ⟨rfl, rfl⟩

set_option maxHeartbeats 1000000 in
theorem refOf_any (v : Value) (xs : List Int) (w : World) (hb : Bts w v xs) (hB : ∀ x ∈ xs, 0 ≤ x ∧ x < 256) (hm : xs.length ≤ 9223372036854775807) :
    Calls Tryd.prog 50 #[v] w fun e w' => e = .returned (.int .u32 ((crcOf xs : Nat) : Int)) ∧ w = w' := by
  obtain ⟨ao, cap, b, off, rfl, hc⟩ := hb.sform
  have HC := Lib.hid hc
  have HB := Lib.hid hB
  have hgo : crcOf xs = 4294967295 - crcR 4294967295 xs := rfl
  rw [hgo]
  obtain ⟨g, hg⟩ : ∃ g, crcR 4294967295 xs = g := ⟨_, rfl⟩
  have hgl : g < 4294967296 := by rw [← hg]; exact crcR_lt (by omega) hB
  obtain ⟨z, hz⟩ : ∃ z, 4294967295 - g = z := ⟨_, rfl⟩
  have hn2 := notU g z hgl hz
  rw [hg, hz]
  have HG := Lib.hid hg
  clear hb hc hB hgo hg hz
  go_enter Tryd.func50, Tryd.ntmps50
  go_wp2
  go_loopw [3, 11] (fun v i wr => ∃ k : Nat, k ≤ xs.length ∧ i = .int .i64 k ∧ v = .int .u32 ((crcR 4294967295 (xs.take k) : Nat) : Int) ∧ w = wr) (fun _ i _ => xs.length - (intOf i).toNat)
  case atStart => exact ⟨0, by omega, rfl, rfl, rfl⟩
  case round =>
    obtain ⟨k, hk, rfl, rfl, rfl⟩ := hrel
    by_cases hlt : k < xs.length
    · have hd : 0 ≤ xs.getD k 0 ∧ xs.getD k 0 < 256 := by
        rw [List.getD_eq_getElem?_getD, List.getElem?_eq_getElem hlt]
        exact HB.out _ (List.getElem_mem hlt)
      obtain ⟨rfl, hcell⟩ := HC.out k hlt
      obtain ⟨d, hde⟩ := Int.eq_ofNat_of_zero_le hd.1
      have hd2 : d < 256 := by omega
      have hst := crcR_take (r := 4294967295) hlt hde
      have hrl := crcR_lt (r := 4294967295) (xs := xs.take k) (by omega) (fun x hx => HB.out x (List.mem_of_mem_take hx))
      rw [hde] at hcell
      generalize crcR 4294967295 (xs.take k) = r at *
      have HS := Lib.hid hst
      clear hst hde
      go_wp2
      go_loopw [3, 5, 6] (fun v c i wr => ∃ j x y : Nat, j ≤ 8 ∧ i = .int .i64 j ∧ v = .int .u32 (x : Int) ∧ c = .int .u8 (y : Int) ∧ x < 4294967296 ∧ y = d / 2 ^ j ∧ x ^^^ y = shN (r ^^^ d) j ∧ w = wr) (fun _ _ i _ => 8 - (intOf i).toNat)
      case atStart => exact ⟨0, r, d, by omega, rfl, rfl, rfl, hrl, by simp, rfl, rfl⟩
      case round =>
        obtain ⟨j, x, y, hj, rfl, rfl, rfl, hxl, hy, hxy, rfl⟩ := hrel
        have hyl : y < 256 := by rw [hy]; exact Nat.lt_of_le_of_lt (Nat.div_le_self _ _) hd2
        by_cases hlt8 : j < 8
        · have hs := half_step hxy
          have hy2 : y / 2 = d / 2 ^ (j + 1) := by rw [hy, Nat.div_div_eq_div_mul, Nat.pow_succ]
          have HY := Lib.hid hy2
          have hq : (y : Int).tdiv 2 % 256 = ((y / 2 : Nat) : Int) := by rw [Int.tdiv_eq_ediv_of_nonneg (by omega)]; omega
          have hx : bits .xor .u32 ((x : Int) / 2) 2197175160 = ((x / 2 ^^^ 2197175160 : Nat) : Int) := by
            have := u32_xor_nat (x / 2) 2197175160 (by omega) (by omega)
            simpa using this
          by_cases ho : x % 2 = y % 2
          · rw [if_neg (by omega)] at hs
            have HX := Lib.hid hs
            have hne : ((x : Int) % 2 != (y : Int) % 2) = false := by simp; omega
            clear hxy hy hs hy2 ho hx
            go_wp2
            go_roundw
            case rel => exact ⟨j + 1, x / 2, y / 2, by omega, by go_num, by simp, rfl, by omega, HY.out, HX.out, trivial⟩
            case measure => simp [intOf]; omega
          · rw [if_pos ho] at hs
            have HX := Lib.hid hs
            have hne : ((x : Int) % 2 != (y : Int) % 2) = true := by simp; omega
            have hl2 : x / 2 ^^^ 2197175160 < 4294967296 := Nat.xor_lt_two_pow (n := 32) (by omega) (by decide)
            clear hxy hy hs hy2 ho
            go_wp2
            go_roundw
            case rel => exact ⟨j + 1, _, y / 2, by omega, by go_num, rfl, rfl, hl2, HY.out, HX.out, trivial⟩
            case measure => simp [intOf]; omega
        · obtain rfl : j = 8 := by omega
          have hy0 : y = 0 := by rw [hy]; omega
          rw [hy0, Nat.xor_zero] at hxy
          have HX := Lib.hid hxy
          clear hxy hy hy0
          go_wp2
          go_roundw
          case rel => exact ⟨k + 1, by omega, by go_num, by rw [HS.out, HX.out], trivial⟩
          case measure => simp [intOf]; omega
    · obtain rfl : k = xs.length := by omega
      have e : crcR 4294967295 (xs.take xs.length) = g := by rw [List.take_length]; exact HG.out
      rw [e]
      clear e
      go_wp2
      go_ret
      exact ⟨rfl, rfl⟩

theorem lit_bts (w : World) (xs : List Int) (T : TypeId) (fr : Nat × Nat) (g : Nat) (hg : g = w.heap.size) : Bts (w.alloc (.cells (xs.map (Value.int .u8)).toArray T fr)) (.slice (some ⟨g, 0, none⟩) xs.length xs.length) xs := by
  subst hg
  refine .inr ⟨w.heap.size, 0, xs.length, rfl, Nat.le_refl _, fun i hi => ?_⟩
  rw [Nat.zero_add, World.cell?_alloc_mark]
  simp [List.getD_eq_getElem?_getD, List.getElem?_eq_getElem hi]

theorem bytes_of {xs : List Int} (h : (xs.all fun x => decide (0 ≤ x ∧ x < 256)) = true) : ∀ x ∈ xs, 0 ≤ x ∧ x < 256 := by simpa using h

end Go.Proofs.YtnfhibigidkhkaaDoor

/-
  Package frame: Make; the document's Make.
-/
namespace Go.Proofs.YtnfhibigidkhkaaDoor
set_option linter.unusedVariables false
set_option linter.unusedSimpArgs false
set_option linter.unusedVariables false
set_option linter.unusedSimpArgs false
set_option maxRecDepth 100000
open Go.RowKit

/-- append of a slice that reads as bytes to a row of the call's own. -/
theorem wpList_append_bts {w : World} {ops : Array Oper} {rest : List Oper} {o : Oper} {a : Act} {Q : Exit → Act → World → Prop} (hgd : o.guard = none) (s x : Operand)
    (ho : o.op = .call { callee := .builtin .append, args := #[s, x], argTypes := #[34, 34] }) (base : Nat)
    (v : Value) (n : Nat) (zs : List Value) (hs : a.eval s = v) (hown : w.ownsRow base 5 1 v n zs) (src : Value) (xs : List Int) (hx : a.eval x = src) (hb : Bts w src xs)
    (h63 : n + xs.length ≤ 140737488350000) (hbase : base ≤ w.heap.size)
    (h : ∀ v' w', w'.ownsRow base 5 1 v' (n + xs.length) (zs ++ xs.map (Value.int .u8)) → w.grownBy w' v.ownBlock → wpList Tryd.prog ops Q rest (a.put o.dst v') w') : wpList Tryd.prog ops Q (o :: rest) a w := by
  obtain ⟨i0, hi, hz0, hz1, hz2⟩ := info_parts Tryd.infoU8
  rcases hb with ⟨rfl, rfl⟩ | ⟨b, off, cap, rfl, _, hc⟩
  · refine wpList_append_own_none hgd s x 34 ho base 5 i0 1 Tryd.underlying34 hi v n zs hs hown hx ?_
    refine h v w ?_ ⟨rfl, rfl, rfl, Nat.le_refl _, fun _ _ _ => rfl⟩
    simpa using hown
  · refine wpList_append_own w hgd s x 34 ho base 5 i0 (.int .u8 0) 1 1 Tryd.underlying34 hi hz0 hz1 hz2 rfl (by decide) v n zs hs hown ⟨b, off, none⟩ xs.length cap (xs.map (Value.int .u8)) hx (by simp) (cells_of hc) (ints_oneCell _ _) (by unfold maxLen; omega) (by omega) hbase ?_
    intro v' w' h1 h2 _
    exact h v' w' h1 h2

/-- A frame's head and body; the frame. -/
def hdL (k : Int) (xs : List Int) : List Int := leB k 1 ++ (leB xs.length 2 ++ xs)
def frL (k : Int) (xs : List Int) : List Int := hdL k xs ++ leB (crcOf (hdL k xs)) 4
def mkE (k : Int) (xs : List Int) : Int := if 0 ≤ k ∧ k ≤ 255 then (if xs.length ≤ 65535 then 0 else 3) else 1
def mkL (k : Int) (xs : List Int) : List Int := if mkE k xs = 0 then frL k xs else []

theorem leB_byts (v : Int) (n : Nat) : Byts (leB v n) := by
  intro x hx
  simp only [leB, List.mem_map, List.mem_range] at hx
  obtain ⟨k, _, rfl⟩ := hx
  omega
theorem byts_append {xs ys : List Int} (h : Byts xs) (h2 : Byts ys) : Byts (xs ++ ys) := fun x hx => by
  rcases List.mem_append.1 hx with h' | h'
  · exact h x h'
  · exact h2 x h'
theorem hdL_byts {k : Int} {xs : List Int} (h : Byts xs) : Byts (hdL k xs) := byts_append (leB_byts _ _) (byts_append (leB_byts _ _) h)
theorem hdL_len (k : Int) (xs : List Int) : (hdL k xs).length = xs.length + 3 := by simp [hdL, leB_len]; omega
theorem frL_len (k : Int) (xs : List Int) : (frL k xs).length = xs.length + 7 := by simp [frL, hdL_len, leB_len]
theorem frL_byts {k : Int} {xs : List Int} (h : Byts xs) : Byts (frL k xs) := byts_append (hdL_byts h) (leB_byts _ _)

theorem byt_str {xs : List Int} (h : Byts xs) : byt (strOfNums xs) = xs := by
  apply List.ext_getElem?
  intro i
  simp only [byt, strOfNums_data, List.getElem?_map]
  cases hi : xs[i]? with
  | none => simp
  | some n =>
    have hn := h n (List.mem_of_getElem? hi)
    simp
    omega
theorem str_size (xs : List Int) : (strOfNums xs).size = xs.length := by
  show (strOfNums xs).data.size = _
  rw [← Array.length_toList, strOfNums_data, List.length_map]

/-- A frame, or why there is none. -/
def MadeE (w : World) (ys : List Int) (err : Int) (e : Ending) (w' : World) : Prop :=
  ∃ v', e = .returned (.tuple #[v', .int .i64 err]) ∧ w'.ownsRow w.heap.size 5 1 v' ys.length (ys.map (Value.int .u8)) ∧ w.grownBy w' none
theorem owns_nil (w : World) (B : Nat) : w.ownsRow B 5 1 (.slice none 0 0) 0 [] := ⟨rfl, .inl ⟨rfl, rfl⟩⟩

theorem put_one {k : Int} (h0 : 0 ≤ k) (h1 : k ≤ 255) : putL [] k 1 = leB k 1 := by
  have : fitsB k 1 = true := by simp [fitsB]; omega
  simp [putL, this]

set_option maxRecDepth 100000 in
set_option maxHeartbeats 800000 in
theorem refMake_any (k : Int) (v : Value) (xs : List Int) (w : World) (hb : Bts w v xs) (hB : Byts xs) (hm : xs.length ≤ 140737488200000) :
    Calls Tryd.prog 37 #[.int .i64 k, v] w (MadeE w (mkL k xs) (mkE k xs)) := by
  by_cases hk1 : 0 ≤ k ∧ k ≤ 255
  · by_cases hl : xs.length ≤ 65535
    · have e0 : mkE k xs = 0 := by unfold mkE; rw [if_pos hk1, if_pos hl]
      have e1 : mkL k xs = frL k xs := by unfold mkL; rw [if_pos e0]
      rw [e0, e1]
      have hp2 : putL (leB k 1) (xs.length : Nat) 2 = leB k 1 ++ leB xs.length 2 := by
        have : fitsB ((xs.length : Nat) : Int) 2 = true := by simp [fitsB]; omega
        simp [putL, this]
      have hcb := hdL_byts (k := k) hB
      have hcl := hdL_len k xs
      have hdf : hdL k xs = leB k 1 ++ leB xs.length 2 ++ xs := by simp [hdL]
      have hfr : frL k xs = hdL k xs ++ leB (crcOf (hdL k xs)) 4 := rfl
      have hcr := crcOf_lt (hdL k xs)
      have hpl : (leB k 1 ++ leB xs.length 2).length = 3 := by simp [leB_len]
      rw [hfr]
      generalize hdL k xs = h at *
      obtain ⟨ao, cap, b, off, rfl, _⟩ := hb.sform
      have hput : putL h (crcOf h : Nat) 4 = h ++ leB (crcOf h : Nat) 4 := by
        have : fitsB ((crcOf h : Nat) : Int) 4 = true := by simp [fitsB]; omega
        simp [putL, this]
      have hwr : IntKind.i64.wrap ((crcOf h : Nat) : Int) = ((crcOf h : Nat) : Int) := IntWalk.i64_in _ ⟨by omega, by omega⟩
      have SO := fun v w hb => refOf_any v h w hb hcb (by omega)
      have HP2 := Lib.hid hp2
      have HP := Lib.hid hput
      have HK := Lib.hid hk1
      have HD := Lib.hid hdf
      have HL := Lib.hid hpl
      have hk2 : ¬ k < 0 := by omega
      have hk3 : ¬ 255 < k := by omega
      have hl2 : ¬ (65535 : Int) < (xs.length : Int) := by omega
      generalize crcOf h = c at *
      have HC := Lib.hid hcl
      have HB := Lib.hid hb
      clear hB hp2 hput hcb hk1 e0 e1 hfr hcl hdf hb hpl
      go_enter Tryd.func37, Tryd.ntmps37
      go_wp2_with (first
        | (go_at_call 36; refine (refPut_is (Owns.bts rfl hown2) (by simp [leB_len]) HP2.out).mono ?_; rintro e w3 ⟨v3, rfl, hown3, hg3⟩)
        | (go_at_call 36; refine (refPut_is (v0 := .slice none 0 0) (xs := []) (.inl ⟨rfl, rfl⟩) (by simp) (put_one HK.out.1 HK.out.2)).mono ?_; rintro e w2 ⟨v2, rfl, hown2, hg2⟩)
        | (at_builtin; go_loud (refine wpList_append_bts rfl _ _ rfl w2.heap.size _ _ _ rfl hown3 _ xs rfl ((HB.out.kept hg2 (by simp)).kept hg3 (by simp)) ?c1 ?c2 ?_)))
      case c1 => rw [HL.out]; omega
      case c2 => exact hg3.size
      intro v4 w4 hown4 hg4
      have hlt4 := hown3.lt
      have hg5 := grown_trans (grown_trans hg2 hg3 (by simp)) hg4 (fun k hk h => by have := hlt4 k hk; have := hg2.size; omega)
      have hown4 : w4.ownsRow w2.heap.size 5 1 v4 h.length (h.map (Value.int .u8)) := by rw [HD.out]; simpa [List.map_append, Nat.add_assoc, List.append_assoc] using hown4
      go_wp2_with (first
        | (go_at_call 50; refine (SO _ _ (Owns.bts rfl hown4)).mono ?_; rintro e w' ⟨rfl, rfl⟩)
        | (go_at_call 36; refine (refPut_is (Owns.bts rfl hown4) (by rw [HC.out]; omega) HP.out).mono ?_; rintro e w5 ⟨v5, rfl, hown5, hg6⟩))
      have hgr := grown_trans hg5 hg6 (by simp)
      have hz5 := hg5.size
      refine bodyPost_ret (v := .tuple #[v5, .int .i64 0]) (by simp [results, Tryd.results37, go_sem]) rfl ⟨v5, rfl, ownsRow_le hown5 hz5, hgr⟩
    · have e0 : mkE k xs = 3 := by unfold mkE; rw [if_pos hk1, if_neg hl]
      have e1 : mkL k xs = [] := by unfold mkL; rw [if_neg (by rw [e0]; decide)]
      rw [e0, e1]
      obtain ⟨ao, cap, b, off, rfl, _⟩ := hb.sform
      have hl2 : (65535 : Int) < (xs.length : Int) := by omega
      have hk2 : ¬ k < 0 := by omega
      have hk3 : ¬ 255 < k := by omega
      clear hb hB e0 e1 hk1 hl
      go_enter Tryd.func37, Tryd.ntmps37
      go_wp2
      refine bodyPost_ret (v := .tuple #[.slice none 0 0, .int .i64 3]) (by simp [results, Tryd.results37, go_sem]) rfl ⟨_, rfl, owns_nil _ _, Ext.refl _⟩
  · have e0 : mkE k xs = 1 := by unfold mkE; rw [if_neg hk1]
    have e1 : mkL k xs = [] := by unfold mkL; rw [if_neg (by rw [e0]; decide)]
    rw [e0, e1]
    obtain ⟨ao, cap, b, off, rfl, _⟩ := hb.sform
    have hk2 : k < 0 ∨ (¬ k < 0 ∧ 255 < k) := by omega
    clear hb hB e0 e1 hk1
    rcases hk2 with h | ⟨h, h2⟩
    all_goals
      go_enter Tryd.func37, Tryd.ntmps37
      go_wp2
      refine bodyPost_ret (v := .tuple #[.slice none 0 0, .int .i64 1]) (by simp [results, Tryd.results37, go_sem]) rfl ⟨_, rfl, owns_nil _ _, Ext.refl _⟩

end Go.Proofs.YtnfhibigidkhkaaDoor

/-
  Package frame: Open.
-/
namespace Go.Proofs.YtnfhibigidkhkaaDoor
set_option linter.unusedVariables false
set_option linter.unusedSimpArgs false
set_option linter.unusedVariables false
set_option linter.unusedSimpArgs false
set_option maxRecDepth 100000
open Go.RowKit

/-- What the frame at the beginning says. -/
def opN (xs : List Int) : Nat := (leV ((xs.drop 1).take 2)).toNat
def opE (xs : List Int) : Int := if xs.length < opN xs + 7 then 2 else if leV ((xs.drop (opN xs + 3)).take 4) = (crcOf (xs.take (opN xs + 3)) : Nat) then 0 else 14
def opK (xs : List Int) : Int := if opE xs = 0 then leV (xs.take 1) else 0
def opB (xs : List Int) : List Int := if opE xs = 0 then (xs.drop 3).take (opN xs) else []
def opM (xs : List Int) : Int := if opE xs = 0 then opN xs + 7 else 0

theorem opN_lt {xs : List Int} (h : Byts xs) : opN xs < 65536 := by
  have hb : Byts ((xs.drop 1).take 2) := fun x hx => h x (List.mem_of_mem_drop (List.mem_of_mem_take hx))
  have h1 := leV_bd _ hb
  have h2 : ((xs.drop 1).take 2).length ≤ 2 := by simp; omega
  have h3 : (256 : Int) ^ ((xs.drop 1).take 2).length ≤ 256 ^ 2 := by
    have : ((xs.drop 1).take 2).length = 0 ∨ ((xs.drop 1).take 2).length = 1 ∨ ((xs.drop 1).take 2).length = 2 := by omega
    rcases this with e | e | e <;> rw [e] <;> decide
  unfold opN
  omega

theorem Bts.pre {w : World} {b off cap n : Nat} {xs : List Int} (h2 : xs.length ≤ cap) (h3 : ∀ i, i < xs.length → w.cell? ⟨b, off + i, none⟩ = some (.int .u8 (xs.getD i 0))) (hn : n ≤ xs.length) : Bts w (.slice (some ⟨b, off, none⟩) n cap) (xs.take n) := by
  refine .inr ⟨b, off, cap, by simp [Nat.min_eq_left hn], by simp; omega, fun i hi => ?_⟩
  have hi2 : i < n := by simp at hi; omega
  rw [h3 i (by omega)]
  simp [List.getD_eq_getElem?_getD, hi2]
theorem Bts.mid {w : World} {b off m n c : Nat} {xs : List Int} (h3 : ∀ i, i < xs.length → w.cell? ⟨b, off + i, none⟩ = some (.int .u8 (xs.getD i 0))) (hn : m + n ≤ xs.length) (hc : n ≤ c) : Bts w (.slice (some ⟨b, off + m, none⟩) n c) ((xs.drop m).take n) := by
  have hl : ((xs.drop m).take n).length = n := by simp; omega
  refine .inr ⟨b, off + m, c, by rw [hl], by omega, fun i hi => ?_⟩
  rw [hl] at hi
  rw [Nat.add_assoc, h3 (m + i) (by omega)]
  simp [List.getD_eq_getElem?_getD, List.getElem?_drop, hi]

/-- What Open answers. -/
def OpenP (w : World) (xs : List Int) (e : Ending) (w' : World) : Prop :=
  ∃ v', e = .returned (.tuple #[.int .i64 (opK xs), v', .int .i64 (opM xs), .int .i64 (opE xs)]) ∧ w'.ownsRow w.heap.size 5 1 v' (opB xs).length ((opB xs).map (Value.int .u8)) ∧ w.grownBy w' none

theorem open_short {xs : List Int} (h : xs.length < opN xs + 7) : opE xs = 2 ∧ opK xs = 0 ∧ opB xs = [] ∧ opM xs = 0 := by
  have e : opE xs = 2 := by unfold opE; rw [if_pos h]
  refine ⟨e, ?_, ?_, ?_⟩
  · unfold opK; rw [if_neg (by rw [e]; decide)]
  · unfold opB; rw [if_neg (by rw [e]; decide)]
  · unfold opM; rw [if_neg (by rw [e]; decide)]
theorem open_spoilt {xs : List Int} (h : ¬ xs.length < opN xs + 7) (h2 : leV ((xs.drop (opN xs + 3)).take 4) ≠ (crcOf (xs.take (opN xs + 3)) : Nat)) : opE xs = 14 ∧ opK xs = 0 ∧ opB xs = [] ∧ opM xs = 0 := by
  have e : opE xs = 14 := by unfold opE; rw [if_neg h, if_neg h2]
  refine ⟨e, ?_, ?_, ?_⟩
  · unfold opK; rw [if_neg (by rw [e]; decide)]
  · unfold opB; rw [if_neg (by rw [e]; decide)]
  · unfold opM; rw [if_neg (by rw [e]; decide)]
theorem open_whole {xs : List Int} (h : ¬ xs.length < opN xs + 7) (h2 : leV ((xs.drop (opN xs + 3)).take 4) = (crcOf (xs.take (opN xs + 3)) : Nat)) : opE xs = 0 ∧ opK xs = leV (xs.take 1) ∧ opB xs = (xs.drop 3).take (opN xs) ∧ opM xs = opN xs + 7 := by
  have e : opE xs = 0 := by unfold opE; rw [if_neg h, if_pos h2]
  refine ⟨e, ?_, ?_, ?_⟩
  · unfold opK; rw [if_pos e]
  · unfold opB; rw [if_pos e]
  · unfold opM; rw [if_pos e]

theorem num_ok {n : Int} {xs : List Int} (hs : sizeB n = true) (hn : n ≤ (xs.length : Int)) : numV n xs 0 = leV (xs.take n.toNat) ∧ numX n xs 0 = xs.drop n.toNat ∧ numE n xs 0 = 0 := by
  refine ⟨?_, ?_, ?_⟩
  · unfold numV; rw [if_pos ⟨rfl, hs, hn⟩]
  · unfold numX; rw [if_pos ⟨rfl, hs, hn⟩]
  · unfold numE; rw [if_pos rfl, if_pos hs, if_pos hn]

theorem clone_bts {w w5 : World} {b off n cap : Nat} {xs : List Int} (h : Bts w (.slice (some ⟨b, off, none⟩) n cap) xs) (hE : Ext w w5) (hn : xs.length = n) (hm : n ≤ 140737488351232) :
    Calls Tryd.prog 19 #[.slice (some ⟨b, off, none⟩) n cap] w5 (Made w5.heap.size w5 xs) := by
  subst hn
  rcases h with ⟨h, _⟩ | ⟨b', off', c', h, _, hc⟩
  · simp at h
  · simp only [Value.slice.injEq, Option.some.injEq, Addr.mk.injEq, and_true, true_and] at h
    obtain ⟨⟨rfl, rfl⟩, rfl⟩ := h
    exact clone_some b off cap xs w5 (fun i hi => hE.cell (hc i hi) (by simp)) hm

set_option maxRecDepth 100000 in
set_option maxHeartbeats 1600000 in
theorem open_any (v : Value) (xs : List Int) (w : World) (hb : Bts w v xs) (hB : Byts xs) (hm : xs.length ≤ 140737488351232) :
    Calls Tryd.prog 65 #[v] w (OpenP w xs) := by
  by_cases h3 : xs.length < 3
  · obtain ⟨e1, e2, e3, e4⟩ := open_short (xs := xs) (by omega)
    unfold OpenP
    rw [e1, e2, e3, e4]
    obtain ⟨ao, cap, b, off, rfl, _⟩ := hb.sform
    have h3' : (xs.length : Int) < 3 := by omega
    clear hb hB e1 e2 e3 e4
    go_enter Tryd.func65, Tryd.ntmps65
    go_wp2
    refine bodyPost_ret (v := .tuple #[.int .i64 0, .slice none 0 0, .int .i64 0, .int .i64 2]) (by simp [results, Tryd.results65, go_sem]) rfl ⟨_, rfl, owns_nil _ _, Ext.refl _⟩
  · obtain ⟨b, off, cap, rfl, hcap, hc⟩ : ∃ b off cap, v = .slice (some ⟨b, off, none⟩) xs.length cap ∧ xs.length ≤ cap ∧ ∀ i, i < xs.length → w.cell? ⟨b, off + i, none⟩ = some (.int .u8 (xs.getD i 0)) := by
      rcases hb with ⟨_, rfl⟩ | h
      · simp at h3
      · exact h
    have hbw : b < w.heap.size := World.block_lt_of_cell? w _ (hc 0 (by omega))
    have hn := opN_lt hB
    have b3 : Bts w (.slice (some ⟨b, off, none⟩) 3 cap) (xs.take 3) := Bts.pre hcap hc (by omega)
    have B3 : Byts (xs.take 3) := fun x hx => hB x (List.mem_of_mem_take hx)
    have B3' : Byts ((xs.take 3).drop 1) := fun x hx => B3 x (List.mem_of_mem_drop hx)
    have l3 : (xs.take 3).length = 3 := by simp; omega
    obtain ⟨v1, x1, y1⟩ := num_ok (n := 1) (xs := xs.take 3) rfl (by omega)
    obtain ⟨v2, x2, y2⟩ := num_ok (n := 2) (xs := (xs.take 3).drop 1) rfl (by simp; omega)
    have lb : 0 ≤ leV ((xs.drop 1).take 2) := (leV_bd _ (fun x hx => hB x (List.mem_of_mem_drop (List.mem_of_mem_take hx)))).1
    have v1 : numV 1 (xs.take 3) 0 = leV (xs.take 1) := by rw [v1, show (1 : Int).toNat = 1 from rfl, List.take_take]; rfl
    have v2 : numV 2 ((xs.take 3).drop 1) 0 = (opN xs : Nat) := by
      rw [v2, show (2 : Int).toNat = 2 from rfl, List.drop_take, List.take_take]
      show leV ((xs.drop 1).take 2) = _
      unfold opN
      omega
    have x1 : numX 1 (xs.take 3) 0 = (xs.take 3).drop 1 := x1
    have RD := fun v hb => read_any (.slice (some ⟨b, off, none⟩) 3 cap) (xs.take 3) v hb (by omega)
    have H1 := Lib.hid (And.intro v1 (And.intro x1 y1))
    have H2 := Lib.hid (And.intro v2 (And.intro x2 y2))
    have HB3 := Lib.hid (And.intro B3 B3')
    have HB := Lib.hid hB
    have Hb3 := Lib.hid b3
    have hn3 : ¬ (xs.length : Int) < 3 := by omega
    have HC := Lib.hid hc
    obtain ⟨kk, hkk⟩ : ∃ kk, leV (xs.take 1) = kk := ⟨_, rfl⟩
    have HK := Lib.hid hkk
    clear v1 x1 y1 v2 x2 y2 B3 B3' b3 hB hb hc lb hkk l3
    by_cases h7 : xs.length < opN xs + 7
    · obtain ⟨e1, e2, e3, e4⟩ := open_short (xs := xs) h7
      unfold OpenP
      rw [e1, e2, e3, e4]
      clear e1 e2 e3 e4
      generalize opN xs = n at *
      have h7' : (xs.length : Int) < n + 7 := by omega
      go_enter Tryd.func65, Tryd.ntmps65
      go_wp2_with (first
        | (go_at_call 53; refine (number_is hR2 HB3.out.2 H2.out.1 H2.out.2.1 H2.out.2.2).mono ?_; rintro e w3 ⟨rfl, hR3, hg3⟩)
        | (go_at_call 53; refine (number_is hR1 HB3.out.1 (H1.out.1.trans HK.out) H1.out.2.1 H1.out.2.2).mono ?_; rintro e w2 ⟨rfl, hR2, hg2⟩)
        | (go_at_call 52; refine (RD _ Hb3.out (by omega)).mono ?_; rintro e w1 ⟨br, c, rfl, hR1, hg1, hl1, hl2, hl3⟩))
      have hgr := grown_trans (grown_trans hg1 hg2 (fun k hk h => by cases hk; omega)) hg3 (fun k hk h => by cases hk; omega)
      refine bodyPost_ret (v := .tuple #[.int .i64 0, .slice none 0 0, .int .i64 0, .int .i64 2]) (by simp [results, Tryd.results65, go_sem]) rfl ⟨_, rfl, owns_nil _ _, hgr⟩
    · obtain ⟨V, hV⟩ : ∃ V, leV ((xs.drop (opN xs + 3)).take 4) = V := ⟨_, rfl⟩
      obtain ⟨C, hCc⟩ : ∃ C, crcOf (xs.take (opN xs + 3)) = C := ⟨_, rfl⟩
      have hCl : C < 4294967296 := by rw [← hCc]; exact crcOf_lt _
      have l4 : ((xs.drop (opN xs + 3)).take 4).length = 4 := by simp; omega
      have B4 : Byts ((xs.drop (opN xs + 3)).take 4) := fun x hx => HB.out x (List.mem_of_mem_drop (List.mem_of_mem_take hx))
      obtain ⟨v4, x4, y4⟩ := num_ok (n := 4) (xs := (xs.drop (opN xs + 3)).take 4) rfl (by rw [l4]; decide)
      rw [show (4 : Int).toNat = 4 from rfl, List.take_take, show min 4 4 = 4 from rfl, hV] at v4
      have SO := fun v w' hbb => sumOf_any v (xs.take (opN xs + 3)) w' hbb (fun x hx => HB.out x (List.mem_of_mem_take hx)) (by simp; omega)
      rw [hCc] at SO
      have b4 : ∀ c, 4 ≤ c → Bts w (.slice (some ⟨b, off + (3 + opN xs), none⟩) 4 c) ((xs.drop (opN xs + 3)).take 4) := fun c h => by rw [Nat.add_comm 3]; exact Bts.mid HC.out (by omega) h
      have b5 : Bts w (.slice (some ⟨b, off, none⟩) (3 + opN xs) cap) (xs.take (opN xs + 3)) := by rw [Nat.add_comm 3]; exact Bts.pre hcap HC.out (by omega)
      have b6 : ∀ c, opN xs ≤ c → Bts w (.slice (some ⟨b, off + 3, none⟩) (opN xs) c) ((xs.drop 3).take (opN xs)) := fun c h => Bts.mid HC.out (by omega) h
      have H4 := Lib.hid (And.intro v4 (And.intro x4 y4))
      have HB4 := Lib.hid B4
      have HL4 := Lib.hid l4
      have K4 := Lib.hid b4
      have K5 := Lib.hid b5
      have K6 := Lib.hid b6
      have hwr : IntKind.i64.wrap (C : Int) = (C : Int) := IntWalk.i64_in _ ⟨by omega, by omega⟩
      clear v4 x4 y4 l4 B4 b4 b5 b6
      have h7' : ¬ (xs.length : Int) < opN xs + 7 := by omega
      have hlen : opN xs + 7 ≤ xs.length := by omega
      by_cases hVC : V = (C : Int)
      · obtain ⟨e1, e2, e3, e4⟩ := open_whole (xs := xs) h7 (by rw [hV, hCc]; exact hVC)
        unfold OpenP
        rw [e1, e2, e3, e4, HK.out]
        have hne : (V != (C : Int)) = false := by simpa using hVC
        have l6 : ((xs.drop 3).take (opN xs)).length = opN xs := by simp; omega
        have HL6 := Lib.hid l6
        clear l6
        clear e1 e2 e3 e4 hV hCc hVC h7
        generalize (xs.drop (opN xs + 3)).take 4 = zs at *
        generalize xs.take (opN xs + 3) = hs at *
        generalize (xs.drop 3).take (opN xs) = bs at *
        generalize opN xs = n at *
        go_enter Tryd.func65, Tryd.ntmps65
        go_wp2_with (first
          | (go_at_call 53; refine (number_is hR2 HB3.out.2 H2.out.1 H2.out.2.1 H2.out.2.2).mono ?_; rintro e w3 ⟨rfl, hR3, hg3⟩)
          | (go_at_call 53; refine (number_is hR1 HB3.out.1 (H1.out.1.trans HK.out) H1.out.2.1 H1.out.2.2).mono ?_; rintro e w2 ⟨rfl, hR2, hg2⟩)
          | (go_at_call 52; refine (RD _ Hb3.out (by omega)).mono ?_; rintro e w1 ⟨br, c, rfl, hR1, hg1, hl1, hl2, hl3⟩))
        have hgr := grown_trans (grown_trans hg1 hg2 (fun k hk h => by cases hk; omega)) hg3 (fun k hk h => by cases hk; omega)
        have hE3 : Ext w w3.drew := Ext.next hgr _ (Ext.drew w3)
        refine region_line [(0, true), (1, true), (2, true), (3, true), (6, true), (7, true), (8, true), (4, false), (5, false), (9, false), (10, true), (11, true)] (Ext w) (by kernel_rfl) (by kernel_rfl) (fun _ _ _ d _ h => by cases d <;> exact h) hE3 ?_
        repeat (refine line_read (a' := ?_) rfl (by kernel_rfl) (by kernel_rfl) hE3 (fun x hx K hK => ?_) ?_; rotate_left; · go_wp2; exact hK)
        refine line_act (by rfl) (fun K hK => ?_)
        go_wp2_with (go_at_call 52; refine (read_any _ zs _ ((K4.out _ (by omega)).kept hE3 (by simp)) (by rw [HL4.out]; omega) (by have := hE3.size; omega)).mono ?_; rintro e w4 ⟨br2, c2, rfl, hR4, hg4, hm1, hm2, hm3⟩)
        have hE4 : Ext w w4 := Ext.next hE3 _ hg4
        refine hK _ _ (Ext w) hE4 (fun x hx => hx) ?_
        clear hK K
        refine line_act (by rfl) (fun K hK => ?_)
        go_wp2_with (go_at_call 53; refine (number_is hR4 HB4.out H4.out.1 H4.out.2.1 H4.out.2.2).mono ?_; rintro e w5 ⟨rfl, hR5, hg5⟩)
        have hz3 := hE3.size
        have hE5 : Ext w w5 := grown_trans hE4 hg5 (fun k hk h => by cases hk; omega)
        refine hK _ _ (Ext w) hE5 (fun x hx => hx) ?_
        clear hK K
        refine line_act (by rfl) (fun K hK => ?_)
        go_wp2_with (go_at_call 71; refine (SO _ _ (K5.out.kept hE5 (by simp))).mono ?_; rintro e w' ⟨rfl, rfl⟩)
        refine hK _ _ (Ext w) hE5 (fun x hx => hx) ?_
        clear hK K
        repeat (refine line_read (a' := ?_) rfl (by kernel_rfl) (by kernel_rfl) hE5 (fun x hx K hK => ?_) ?_; rotate_left; · go_wp2; exact hK)
        refine line_end ?_
        go_wp2_with (go_at_call 19; refine (clone_bts (K6.out (cap - 3) (by omega)) hE5 HL6.out (by omega)).mono ?_; rintro e w6 ⟨v6, rfl, hown6, hg6⟩)
        refine bodyPost_ret (v := .tuple #[.int .i64 kk, v6, .int .i64 (n + 7), .int .i64 0]) (by simp [results, Tryd.results65, go_sem]; omega) rfl ⟨_, rfl, ownsRow_le hown6 hE5.size, Ext.next hE5 _ hg6⟩
      · obtain ⟨e1, e2, e3, e4⟩ := open_spoilt (xs := xs) h7 (by rw [hV, hCc]; exact hVC)
        unfold OpenP
        rw [e1, e2, e3, e4]
        have hne : (V != (C : Int)) = true := by simpa using hVC
        clear e1 e2 e3 e4 hV hCc hVC h7
        generalize (xs.drop (opN xs + 3)).take 4 = zs at *
        generalize xs.take (opN xs + 3) = hs at *
        generalize (xs.drop 3).take (opN xs) = bs at *
        generalize opN xs = n at *
        go_enter Tryd.func65, Tryd.ntmps65
        go_wp2_with (first
          | (go_at_call 53; refine (number_is hR2 HB3.out.2 H2.out.1 H2.out.2.1 H2.out.2.2).mono ?_; rintro e w3 ⟨rfl, hR3, hg3⟩)
          | (go_at_call 53; refine (number_is hR1 HB3.out.1 (H1.out.1.trans HK.out) H1.out.2.1 H1.out.2.2).mono ?_; rintro e w2 ⟨rfl, hR2, hg2⟩)
          | (go_at_call 52; refine (RD _ Hb3.out (by omega)).mono ?_; rintro e w1 ⟨br, c, rfl, hR1, hg1, hl1, hl2, hl3⟩))
        have hgr := grown_trans (grown_trans hg1 hg2 (fun k hk h => by cases hk; omega)) hg3 (fun k hk h => by cases hk; omega)
        have hE3 : Ext w w3.drew := Ext.next hgr _ (Ext.drew w3)
        refine region_line [(0, true), (1, true), (2, true), (3, true), (6, true), (7, true), (8, true), (4, false), (5, false), (9, false), (10, true), (11, true)] (Ext w) (by kernel_rfl) (by kernel_rfl) (fun _ _ _ d _ h => by cases d <;> exact h) hE3 ?_
        repeat (refine line_read (a' := ?_) rfl (by kernel_rfl) (by kernel_rfl) hE3 (fun x hx K hK => ?_) ?_; rotate_left; · go_wp2; exact hK)
        refine line_act (by rfl) (fun K hK => ?_)
        go_wp2_with (go_at_call 52; refine (read_any _ zs _ ((K4.out _ (by omega)).kept hE3 (by simp)) (by rw [HL4.out]; omega) (by have := hE3.size; omega)).mono ?_; rintro e w4 ⟨br2, c2, rfl, hR4, hg4, hm1, hm2, hm3⟩)
        have hE4 : Ext w w4 := Ext.next hE3 _ hg4
        refine hK _ _ (Ext w) hE4 (fun x hx => hx) ?_
        clear hK K
        refine line_act (by rfl) (fun K hK => ?_)
        go_wp2_with (go_at_call 53; refine (number_is hR4 HB4.out H4.out.1 H4.out.2.1 H4.out.2.2).mono ?_; rintro e w5 ⟨rfl, hR5, hg5⟩)
        have hz3 := hE3.size
        have hE5 : Ext w w5 := grown_trans hE4 hg5 (fun k hk h => by cases hk; omega)
        refine hK _ _ (Ext w) hE5 (fun x hx => hx) ?_
        clear hK K
        refine line_act (by rfl) (fun K hK => ?_)
        go_wp2_with (go_at_call 71; refine (SO _ _ (K5.out.kept hE5 (by simp))).mono ?_; rintro e w' ⟨rfl, rfl⟩)
        refine hK _ _ (Ext w) hE5 (fun x hx => hx) ?_
        clear hK K
        repeat (refine line_read (a' := ?_) rfl (by kernel_rfl) (by kernel_rfl) hE5 (fun x hx K hK => ?_) ?_; rotate_left; · go_wp2; exact hK)
        refine line_end ?_
        go_wp2
        refine bodyPost_ret (v := .tuple #[.int .i64 0, .slice none 0 0, .int .i64 0, .int .i64 14]) (by simp [results, Tryd.results65, go_sem]) rfl ⟨_, rfl, owns_nil _ _, hE5⟩

end Go.Proofs.YtnfhibigidkhkaaDoor

/-
  The document's Open (layer 3).
-/
namespace Go.Proofs.YtnfhibigidkhkaaDoor
set_option linter.unusedVariables false
set_option linter.unusedSimpArgs false
set_option linter.unusedVariables false
set_option linter.unusedSimpArgs false
set_option maxRecDepth 100000
open Go.RowKit

theorem leB_cons (v : Int) (n : Nat) : leB v (n + 1) = (v % 256) :: leB (v / 256) n := by
  simp only [leB, List.range_succ_eq_map, List.map_cons, List.map_map, Int.pow_zero, Int.ediv_one]
  congr 1
  apply List.map_congr_left
  intro k _
  simp only [Function.comp, Nat.succ_eq_add_one]
  rw [Int.pow_succ, Int.mul_comm, Int.ediv_ediv_of_nonneg (by decide)]
theorem leB_leV : ∀ {ys : List Int}, Byts ys → leB (leV ys) ys.length = ys
  | [], _ => by simp [leB]
  | b :: l, h => by
    have hb := h b (by simp)
    have hl := leV_bd l (fun x hx => h x (by simp [hx]))
    rw [List.length_cons, leB_cons]
    simp only [leV]
    rw [show (b + 256 * leV l) % 256 = b by omega, show (b + 256 * leV l) / 256 = leV l by omega, leB_leV (fun x hx => h x (by simp [hx]))]
theorem leV_leB : ∀ (n : Nat) {v : Int}, 0 ≤ v → v < 256 ^ n → leV (leB v n) = v
  | 0, v, h0, h1 => by simp [leB, leV]; simp at h1; omega
  | n + 1, v, h0, h1 => by
    rw [leB_cons]
    simp only [leV]
    have h2 : v / 256 < 256 ^ n := by rw [Int.pow_succ] at h1; omega
    rw [leV_leB n (by omega) h2]
    omega
theorem take_split {xs : List Int} (m n : Nat) : xs.take (m + n) = xs.take m ++ (xs.drop m).take n := by rw [List.take_add]

theorem head_eq {xs : List Int} (hB : Byts xs) (h : opN xs + 7 ≤ xs.length) : hdL (leV (xs.take 1)) ((xs.drop 3).take (opN xs)) = xs.take (opN xs + 3) := by
  have b1 : Byts (xs.take 1) := fun x hx => hB x (List.mem_of_mem_take hx)
  have b2 : Byts ((xs.drop 1).take 2) := fun x hx => hB x (List.mem_of_mem_drop (List.mem_of_mem_take hx))
  have l1 : (xs.take 1).length = 1 := by simp; omega
  have l2 : ((xs.drop 1).take 2).length = 2 := by simp; omega
  have l3 : ((xs.drop 3).take (opN xs)).length = opN xs := by simp; omega
  have e1 := leB_leV b1
  have e2 := leB_leV b2
  rw [l1] at e1
  rw [l2] at e2
  have h0 := (leV_bd _ b2).1
  have hn : ((opN xs : Nat) : Int) = leV ((xs.drop 1).take 2) := by unfold opN; omega
  unfold hdL
  rw [l3, hn, e1, e2, Nat.add_comm (opN xs) 3, take_split 3, show xs.take 3 = xs.take 1 ++ (xs.drop 1).take 2 from take_split 1 2, List.append_assoc]

theorem frame_eq {xs : List Int} (hB : Byts xs) (h : opN xs + 7 ≤ xs.length) : frL (leV (xs.take 1)) ((xs.drop 3).take (opN xs)) = xs.take (opN xs + 7) ↔ leV ((xs.drop (opN xs + 3)).take 4) = (crcOf (xs.take (opN xs + 3)) : Nat) := by
  unfold frL
  rw [head_eq hB h, show opN xs + 7 = opN xs + 3 + 4 from rfl, take_split (opN xs + 3) 4]
  have b4 : Byts ((xs.drop (opN xs + 3)).take 4) := fun x hx => hB x (List.mem_of_mem_drop (List.mem_of_mem_take hx))
  have l4 : ((xs.drop (opN xs + 3)).take 4).length = 4 := by simp; omega
  have hc := crcOf_lt (xs.take (opN xs + 3))
  generalize crcOf (xs.take (opN xs + 3)) = C at *
  generalize (xs.drop (opN xs + 3)).take 4 = zs at *
  constructor
  · intro e
    have e := List.append_cancel_left e
    rw [← e]
    exact leV_leB 4 (by omega) (by show (C : Int) < 4294967296; omega)
  · intro e
    have e2 := leB_leV b4
    rw [l4, e] at e2
    rw [e2]
theorem str_beq {xs ys : List Int} (hx : Byts xs) (hy : Byts ys) : ((strOfNums xs).toList == (strOfNums ys).toList) = decide (xs = ys) := by
  by_cases h : xs = ys
  · subst h; simp
  · simp only [h, decide_false, beq_eq_false_iff_ne, ne_eq]
    intro e
    rw [ByteArray.toList_eq, ByteArray.toList_eq] at e
    have e2 : byt (strOfNums xs) = byt (strOfNums ys) := by unfold byt; rw [e]
    rw [byt_str hx, byt_str hy] at e2
    exact h e2
theorem str_inj {xs ys : List Int} (hx : Byts xs) (hy : Byts ys) (h : strOfNums xs = strOfNums ys) : xs = ys := by rw [← byt_str hx, ← byt_str hy, h]

end Go.Proofs.YtnfhibigidkhkaaDoor

/-
  The document's Open (layer 3), of three bytes and more.
-/
namespace Go.Proofs.YtnfhibigidkhkaaDoor
set_option linter.unusedVariables false
set_option linter.unusedSimpArgs false
set_option linter.unusedVariables false
set_option linter.unusedSimpArgs false
set_option maxRecDepth 100000
open Go.RowKit

end Go.Proofs.YtnfhibigidkhkaaDoor

/-
  Sums: bytes of which some within 32 neighbouring bits are turned have another register.
-/
namespace Go.Proofs.YtnfhibigidkhkaaDoor
set_option linter.unusedVariables false
set_option linter.unusedSimpArgs false
set_option linter.unusedVariables false
set_option linter.unusedSimpArgs false
set_option maxRecDepth 100000

theorem stp_double (m : Nat) : stp (2 * m) = m := by unfold stp; rw [if_neg (by omega)]; omega
theorem shN_pow (e j : Nat) : ∀ k, shN (e * 2 ^ (k + j)) k = e * 2 ^ j
  | 0 => by simp [shN]
  | k + 1 => by
    have h := shN_pow e (j + 1) k
    show stp (shN (e * 2 ^ (k + 1 + j)) k) = _
    rw [show k + 1 + j = k + (j + 1) by omega, h, Nat.pow_succ, show e * (2 ^ j * 2) = 2 * (e * 2 ^ j) by rw [← Nat.mul_assoc]; omega, stp_double]
theorem shN_256 (e : Nat) : shN (e * 256) 8 = e := by simpa using shN_pow e 0 8
theorem shN_back {z e : Nat} (hz : z < 4294967296) (he : e * 256 < 4294967296) (h : shN z 8 = e) : z = e * 256 :=
  shN_inj hz he (k := 8) (by rw [h, shN_256])
theorem xor_back {a b c : Nat} (h : a ^^^ b = c) : a = c ^^^ b := by rw [← h, Nat.xor_assoc, Nat.xor_self, Nat.xor_zero]

/-- Four bytes, one behind the other, come to 0 only if all are 0. -/
theorem four_zero {a b c d : Nat} (ha : a < 256) (hb : b < 256) (hc : c < 256) (hd : d < 256) (h : shN (shN (shN (shN a 8 ^^^ b) 8 ^^^ c) 8 ^^^ d) 8 = 0) : a = 0 ∧ b = 0 ∧ c = 0 ∧ d = 0 := by
  have l1 : shN a 8 < 4294967296 := shN_lt (by omega) 8
  have l2 := xor_byte_lt l1 hb
  have l3 := shN_lt l2 8
  have l4 := xor_byte_lt l3 hc
  have l5 := shN_lt l4 8
  have l6 := xor_byte_lt l5 hd
  have h1 := xor_eq0 (shN_zero l6 8 h)
  have h2 := xor_back (shN_back l4 (by omega) h1)
  have m2 : d * 256 ^^^ c < 65536 := Nat.xor_lt_two_pow (n := 16) (by omega) (by omega)
  have h3 := xor_back (shN_back l2 (by omega) h2)
  have m3 : (d * 256 ^^^ c) * 256 ^^^ b < 16777216 := Nat.xor_lt_two_pow (n := 24) (by omega) (by omega)
  have h4 := shN_back (show a < 4294967296 by omega) (by omega) h3
  have small : ∀ q u : Nat, u = q * 256 → u < 256 → q = 0 ∧ u = 0 := fun q u h1 h2 => by omega
  obtain ⟨h5, ha0⟩ := small _ _ h4 ha
  obtain ⟨h7, hb0⟩ := small _ _ (xor_eq0 h5).symm hb
  obtain ⟨hd0, hc0⟩ := small _ _ (xor_eq0 h7).symm hc
  exact ⟨ha0, hb0, hc0, hd0⟩

theorem take_all {xs ys : List Int} {n : Nat} (hl : ys.length = xs.length) (hn : n ≤ xs.length) (h : ∀ j, j < n → ys.getD j 0 = xs.getD j 0) : ys.take n = xs.take n := by
  apply List.ext_getElem
  · simp; omega
  · intro i h1 h2
    have hi : i < n := by simp at h1; omega
    have := h i hi
    rw [List.getD_eq_getElem?_getD, List.getD_eq_getElem?_getD, List.getElem?_eq_getElem (by omega), List.getElem?_eq_getElem (by omega)] at this
    simpa using this

theorem crcR_next {r : Nat} {xs : List Int} {k d : Nat} (hk : k < xs.length) (hd : xs.getD k 0 = (d : Int)) : crcR r (xs.take (k + 1)) = shN (crcR r (xs.take k) ^^^ d) 8 := by
  rw [List.take_add_one, List.getElem?_eq_getElem hk, Option.toList_some, crcR_snoc]
  rw [List.getD_eq_getElem?_getD, List.getElem?_eq_getElem hk] at hd
  simp only [Option.getD_some] at hd
  rw [hd]
  rfl

theorem xor_xor {a b x y : Nat} : (a ^^^ x) ^^^ (b ^^^ y) = (a ^^^ b) ^^^ (x ^^^ y) := by
  rw [Nat.xor_assoc, ← Nat.xor_assoc x, Nat.xor_comm x b, Nat.xor_assoc b, ← Nat.xor_assoc]

theorem getD_byte {xs : List Int} (hB : ∀ x ∈ xs, 0 ≤ x ∧ x < 256) {k : Nat} (hk : k < xs.length) : ∃ d : Nat, xs.getD k 0 = (d : Int) ∧ d < 256 := by
  have h := hB _ (List.getElem_mem hk)
  rw [List.getD_eq_getElem?_getD, List.getElem?_eq_getElem hk]
  obtain ⟨d, hd⟩ := Int.eq_ofNat_of_zero_le h.1
  exact ⟨d, hd, by rw [hd] at h; omega⟩

end Go.Proofs.YtnfhibigidkhkaaDoor

/-
  Package frame: Whole, and the document's; what is made is opened.
-/
namespace Go.Proofs.YtnfhibigidkhkaaDoor
set_option linter.unusedVariables false
set_option linter.unusedSimpArgs false
set_option linter.unusedVariables false
set_option linter.unusedSimpArgs false
set_option maxRecDepth 100000
open Go.RowKit

def whE (xs : List Int) (kind : Int) : Int := if opE xs = 0 then (if opM xs = xs.length ∧ opK xs = kind then 0 else 2) else opE xs
def whB (xs : List Int) (kind : Int) : List Int := if whE xs kind = 0 then opB xs else []

set_option maxRecDepth 100000 in
set_option maxHeartbeats 800000 in
theorem whole_any (v : Value) (xs : List Int) (kind : Int) (w : World) (hb : Bts w v xs) (hB : Byts xs) (hm : xs.length ≤ 140737488351232) :
    Calls Tryd.prog 51 #[v, .int .i64 kind] w (MadeE w (whB xs kind) (whE xs kind)) := by
  have O := fun w' hb => open_any v xs w' hb hB hm
  obtain ⟨er, her⟩ : ∃ e, opE xs = e := ⟨_, rfl⟩
  obtain ⟨kk, hkk⟩ : ∃ e, opK xs = e := ⟨_, rfl⟩
  obtain ⟨mm, hmm⟩ : ∃ e, opM xs = e := ⟨_, rfl⟩
  have HBts := Lib.hid hb
  obtain ⟨ao, cap, b, off, rfl, _⟩ := hb.sform
  unfold OpenP at O
  rw [her, hkk, hmm] at O
  unfold MadeE
  unfold whB whE
  rw [her, hkk, hmm]
  generalize opB xs = bs at *
  clear her hkk hmm hb hB
  by_cases h0 : er = 0
  · subst h0
    rw [if_pos rfl]
    by_cases hc : mm = xs.length ∧ kk = kind
    · obtain ⟨h1, rfl⟩ := hc
      rw [if_pos ⟨h1, rfl⟩, if_pos rfl]
      have h1' : (mm != (xs.length : Int)) = false := by simpa using h1
      clear h1
      go_enter Tryd.func51, Tryd.ntmps51
      go_wp2_with (go_at_call 65; refine (O _ HBts.out).mono ?_; rintro e w2 ⟨v2, rfl, hown2, hg2⟩)
      refine bodyPost_ret (v := .tuple #[v2, .int .i64 0]) (by simp [results, Tryd.results51, go_sem]) rfl ⟨v2, rfl, hown2, hg2⟩
    · rw [if_neg hc, if_neg (by decide)]
      have part : mm ≠ xs.length ∨ (mm = xs.length ∧ kk ≠ kind) := by omega
      clear hc
      rcases part with h1 | ⟨h1, h2⟩
      · have h1' : (mm != (xs.length : Int)) = true := by simpa using h1
        clear h1
        go_enter Tryd.func51, Tryd.ntmps51
        go_wp2_with (go_at_call 65; refine (O _ HBts.out).mono ?_; rintro e w2 ⟨v2, rfl, hown2, hg2⟩)
        refine bodyPost_ret (v := .tuple #[.slice none 0 0, .int .i64 2]) (by simp [results, Tryd.results51, go_sem]) rfl ⟨_, rfl, owns_nil _ _, hg2⟩
      · have h1' : (mm != (xs.length : Int)) = false := by simpa using h1
        have h2' : (kk != kind) = true := by simpa using h2
        clear h1 h2
        go_enter Tryd.func51, Tryd.ntmps51
        go_wp2_with (go_at_call 65; refine (O _ HBts.out).mono ?_; rintro e w2 ⟨v2, rfl, hown2, hg2⟩)
        refine bodyPost_ret (v := .tuple #[.slice none 0 0, .int .i64 2]) (by simp [results, Tryd.results51, go_sem]) rfl ⟨_, rfl, owns_nil _ _, hg2⟩
  · rw [if_neg h0, if_neg h0]
    have h0' : (er != 0) = true := by simpa using h0
    clear h0
    go_enter Tryd.func51, Tryd.ntmps51
    go_wp2_with (go_at_call 65; refine (O _ HBts.out).mono ?_; rintro e w2 ⟨v2, rfl, hown2, hg2⟩)
    refine bodyPost_ret (v := .tuple #[.slice none 0 0, .int .i64 er]) (by simp [results, Tryd.results51, go_sem]) rfl ⟨_, rfl, owns_nil _ _, hg2⟩

/-- What is made is opened, whatever stands behind. -/
theorem open_back {k : Int} {body rest : List Int} (h0 : 0 ≤ k) (h1 : k ≤ 255) (hl : body.length ≤ 65535) :
    opN (frL k body ++ rest) = body.length ∧ opE (frL k body ++ rest) = 0 ∧ opK (frL k body ++ rest) = k ∧ opB (frL k body ++ rest) = body ∧ opM (frL k body ++ rest) = body.length + 7 := by
  have e1 : frL k body ++ rest = leB k 1 ++ (leB body.length 2 ++ (body ++ (leB (crcOf (hdL k body)) 4 ++ rest))) := by simp [frL, hdL]
  have e2 : frL k body ++ rest = hdL k body ++ (leB (crcOf (hdL k body)) 4 ++ rest) := by simp [frL]
  have hn : opN (frL k body ++ rest) = body.length := by
    unfold opN
    rw [e1, List.drop_left' (leB_len k 1), List.take_left' (leB_len _ 2), leV_leB 2 (by omega) (by show _ < (65536 : Int); omega)]
    omega
  have hlen : (frL k body ++ rest).length = body.length + 7 + rest.length := by rw [List.length_append, frL_len]
  have he : opE (frL k body ++ rest) = 0 := by
    unfold opE
    rw [hn, if_neg (by omega)]
    rw [e2, List.drop_left' (hdL_len k body), List.take_left' (leB_len _ 4), List.take_left' (hdL_len k body), leV_leB 4 (by omega) (by have := crcOf_lt (hdL k body); show _ < (4294967296 : Int); omega), if_pos rfl]
  refine ⟨hn, he, ?_, ?_, ?_⟩
  · unfold opK
    rw [if_pos he, e1, List.take_left' (leB_len k 1), leV_leB 1 h0 (by show _ < (256 : Int); omega)]
  · unfold opB
    rw [if_pos he, hn, e1, show 3 = 1 + 2 from rfl, ← List.drop_drop, List.drop_left' (leB_len k 1), List.drop_left' (leB_len _ 2), List.take_left' rfl]
  · unfold opM
    rw [if_pos he, hn]

theorem getD_set {ys : List Int} {i j : Nat} {v : Int} (hi : i < ys.length) : (ys.set i v).getD j 0 = if j = i then v else ys.getD j 0 := by
  rw [List.getD_eq_getElem?_getD, List.getD_eq_getElem?_getD, List.getElem?_set]
  by_cases h : i = j
  · subst h; simp [hi]
  · have h2 : ¬ j = i := fun e => h e.symm
    simp [h, h2]

end Go.Proofs.YtnfhibigidkhkaaDoor
