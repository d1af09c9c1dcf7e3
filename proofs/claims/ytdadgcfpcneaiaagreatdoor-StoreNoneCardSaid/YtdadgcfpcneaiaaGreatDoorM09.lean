/-
  Texts put together: WM SA SB FA FB.
-/
import Derived.Test.YtdadgcfpcneaiaaGreatDoorM08
import Derived.Test.YtdadgcfpcneaiaaGreatDoorM01
import Derived.Lib.Hide
import Derived.Laws.BitsAllLaws
/-
  The laws' fixed facts (layer 1) hold.
-/
namespace Go.Proofs.YtdadgcfpcneaiaaGreatDoor
set_option linter.unusedVariables false
set_option linter.unusedSimpArgs false
set_option linter.unusedVariables false
set_option linter.unusedSimpArgs false
set_option maxRecDepth 100000
open Go.RowKit

theorem flag_is {br c : Nat} {xs : List Int} {e0 : Int} {w : World} (hR : RdIs 204 w br c xs e0) (hB : Byts xs) {b : Bool} {e1 : Int} {x1 : List Int} (h1 : flagB xs e0 = b) (h2 : numX 1 xs e0 = x1) (h3 : flagE xs e0 = e1) :
    Calls Tryz.prog 140 #[.pointer (some ⟨br, 0, none⟩)] w fun e w' => e = .returned (.bool b) ∧ RdIs 204 w' br c x1 e1 ∧ w.grownBy w' (some br) := by
  subst h1 h2 h3
  exact flag_any br c xs e0 w hR hB

theorem done_is {br c : Nat} {xs : List Int} {e0 : Int} {w : World} (hR : RdIs 204 w br c xs e0) {e1 : Int} (h1 : doneE xs e0 = e1) :
    Calls Tryz.prog 141 #[.pointer (some ⟨br, 0, none⟩)] w fun e w' => e = .returned (.int .i64 e1) ∧ RdIs 204 w' br c xs e1 ∧ w.grownBy w' (some br) := by
  subst h1
  exact done_any br c xs e0 w hR

/-- A call answers true; what was there stands, and there is more. -/
def TruePost (w : World) (e : Ending) (w' : World) : Prop := e = .returned (.bool true) ∧ Below w.heap.size w w' ∧ w.heap.size < w'.heap.size

theorem bgrow {w w1 w2 : World} {r : Option Nat} (h : Below w.heap.size w w1) (hg : w1.grownBy w2 r) (hr : ∀ k, r = some k → w.heap.size ≤ k) : Below w.heap.size w w2 :=
  Below.grown h hg h.size hr

theorem byts_cons {a : Int} {l : List Int} (h1 : 0 ≤ a) (h2 : a < 256) (h3 : Byts l) : Byts (a :: l) := by
  intro x hx
  simp at hx
  rcases hx with rfl | hx
  · exact ⟨h1, h2⟩
  · exact h3 x hx
theorem byts_nil : Byts [] := fun x hx => by simp at hx

theorem leB_258 : leB 258 2 = [2, 1] := by decide

theorem put258 : strOfNums (putL [] 258 2) = ⟨#[2, 1]⟩ := by decide
theorem fits256 : fitsB 256 1 = false := by decide

theorem Bts.below {w w' : World} {v : Value} {xs : List Int} {B : Nat} (h : Bts w v xs) (hb : Below B w w') (hv : ∀ k, v.ownBlock = some k → k < B) : Bts w' v xs := by
  rcases h with h | ⟨b, off, cap, rfl, h2, h3⟩
  · exact .inl h
  · exact .inr ⟨b, off, cap, rfl, h2, fun i hi => (hb.cell (by exact hv b rfl)).trans (h3 i hi)⟩

def LawPost (w : World) (e : Ending) (w' : World) : Prop := e = .returned (.bool true) ∧ Below w.heap.size w w'

theorem put_is {v0 : Value} {xs : List Int} {v n : Int} {w : World} (hb : Bts w v0 xs) (hm : xs.length ≤ 140737488350000) (hv9 : v ≤ 9223372036854775807) {ys : List Int} (h : putL xs v n = ys) :
    Calls Tryz.prog 170 #[v0, .int .i64 v, .int .i64 n] w (Made w.heap.size w ys) := by subst h; exact put_any v0 xs v n w hb hm hv9
theorem text_is {v0 : Value} {xs : List Int} {s : ByteArray} {w : World} (hb : Bts w v0 xs) (hm : xs.length ≤ 140737488200000) (hs9 : s.size ≤ 9223372036854775807) {ys : List Int} (h : textL xs s = ys) :
    Calls Tryz.prog 181 #[v0, .string s] w (Made w.heap.size w ys) := by subst h; exact text_any v0 xs s w hb hm hs9
theorem fits_is {v n : Int} {w : World} (hv9 : v ≤ 9223372036854775807) {b : Bool} (h : fitsB v n = b) :
    Calls Tryz.prog 180 #[.int .i64 v, .int .i64 n] w fun e w' => e = .returned (.bool b) ∧ w = w' := by subst h; exact fits_any v n w hv9
theorem convert_is {w : World} {v : Value} {xs : List Int} {s : ByteArray} (h : Bts w v xs) (hs : strOfNums xs = s) : (convert 54 9 v).run Tryz.prog w = .ok (.string s) w := by subst hs; exact convert_bts h

end Go.Proofs.YtdadgcfpcneaiaaGreatDoor

/-
  Sums: what the register comes to, as numbers; it is linear, and nothing but 0 comes to 0.
-/
namespace Go.Proofs.YtdadgcfpcneaiaaGreatDoor
set_option linter.unusedVariables false
set_option linter.unusedSimpArgs false
set_option linter.unusedVariables false
set_option linter.unusedSimpArgs false
set_option maxRecDepth 100000

/-- One step of the register. -/
def stp (r : Nat) : Nat := if r % 2 = 1 then (r / 2) ^^^ 2197175160 else r / 2
/-- So many steps. -/
def shN (r : Nat) : Nat → Nat
  | 0 => r
  | k + 1 => stp (shN r k)
/-- The register behind bytes. -/
def crcR (r : Nat) (xs : List Int) : Nat := xs.foldl (fun r c => shN (r ^^^ c.toNat) 8) r
/-- The sum that goes on. -/
def crcOn (s : Nat) (xs : List Int) : Nat := 4294967295 - crcR (4294967295 - s) xs
/-- The sum of bytes. -/
def crcOf (xs : List Int) : Nat := 4294967295 - crcR 4294967295 xs

theorem stp_lt {r : Nat} (h : r < 4294967296) : stp r < 4294967296 := by
  unfold stp
  split
  · exact Nat.xor_lt_two_pow (n := 32) (by omega) (by decide)
  · omega
theorem shN_lt {r : Nat} (h : r < 4294967296) : ∀ k, shN r k < 4294967296
  | 0 => h
  | k + 1 => stp_lt (shN_lt h k)
theorem xor_byte_lt {r c : Nat} (h : r < 4294967296) (hc : c < 256) : r ^^^ c < 4294967296 := Nat.xor_lt_two_pow (n := 32) h (by omega)
theorem crcR_lt : ∀ {xs : List Int} {r : Nat}, r < 4294967296 → (∀ x ∈ xs, 0 ≤ x ∧ x < 256) → crcR r xs < 4294967296
  | [], _, h, _ => h
  | c :: l, r, h, hB => by
    have := hB c (by simp)
    exact crcR_lt (xs := l) (shN_lt (xor_byte_lt h (by omega)) 8) (fun x hx => hB x (by simp [hx]))
theorem crcR_snoc (r : Nat) (xs : List Int) (c : Int) : crcR r (xs ++ [c]) = shN (crcR r xs ^^^ c.toNat) 8 := by simp [crcR]
theorem crcR_append (r : Nat) (xs ys : List Int) : crcR r (xs ++ ys) = crcR (crcR r xs) ys := by simp [crcR]

theorem xor_mod2 (a b : Nat) : (a ^^^ b) % 2 = (a + b) % 2 := by
  have h := Nat.xor_mod_two_pow (a := a) (b := b) (n := 1)
  rw [Nat.pow_one] at h
  have ha : a % 2 = 0 ∨ a % 2 = 1 := by omega
  have hb : b % 2 = 0 ∨ b % 2 = 1 := by omega
  rcases ha with ha | ha <;> rcases hb with hb | hb <;> rw [h, ha, hb, Nat.add_mod, ha, hb] <;> decide
theorem xor_div2 (a b : Nat) : (a ^^^ b) / 2 = a / 2 ^^^ b / 2 := by
  have h := Nat.shiftRight_xor_distrib (a := a) (b := b) (i := 1)
  simpa [Nat.shiftRight_eq_div_pow] using h
theorem stp_xor (a b : Nat) : stp (a ^^^ b) = stp a ^^^ stp b := by
  unfold stp
  rw [xor_mod2, xor_div2]
  have ha : a % 2 = 0 ∨ a % 2 = 1 := by omega
  have hb : b % 2 = 0 ∨ b % 2 = 1 := by omega
  rcases ha with ha | ha <;> rcases hb with hb | hb
  · rw [if_neg (by omega), if_neg (by omega), if_neg (by omega)]
  · rw [if_pos (by omega), if_neg (by omega), if_pos (by omega), Nat.xor_assoc]
  · rw [if_pos (by omega), if_pos (by omega), if_neg (by omega), Nat.xor_assoc, Nat.xor_assoc, Nat.xor_comm (b / 2)]
  · rw [if_neg (by omega), if_pos (by omega), if_pos (by omega), Nat.xor_assoc, Nat.xor_comm 2197175160, Nat.xor_assoc, Nat.xor_self, Nat.xor_zero]
theorem shN_xor (a b : Nat) : ∀ k, shN (a ^^^ b) k = shN a k ^^^ shN b k
  | 0 => rfl
  | k + 1 => by simp only [shN, shN_xor a b k, stp_xor]
theorem xor_eq0 {a b : Nat} (h : a ^^^ b = 0) : a = b := by
  have h2 : (a ^^^ b) ^^^ b = b := by rw [h, Nat.zero_xor]
  rwa [Nat.xor_assoc, Nat.xor_self, Nat.xor_zero] at h2
theorem stp_zero {r : Nat} (h : r < 4294967296) (h0 : stp r = 0) : r = 0 := by
  unfold stp at h0
  split at h0
  · have := xor_eq0 h0
    omega
  · omega
theorem shN_zero {r : Nat} (h : r < 4294967296) : ∀ k, shN r k = 0 → r = 0
  | 0, h0 => h0
  | k + 1, h0 => shN_zero h k (stp_zero (shN_lt h k) h0)
theorem shN_inj {a b : Nat} (ha : a < 4294967296) (hb : b < 4294967296) {k : Nat} (h : shN a k = shN b k) : a = b := by
  refine xor_eq0 (shN_zero (Nat.xor_lt_two_pow (n := 32) ha hb) k ?_)
  rw [shN_xor, h, Nat.xor_self]
theorem crcR_inj : ∀ {xs : List Int} {a b : Nat}, a < 4294967296 → b < 4294967296 → (∀ x ∈ xs, 0 ≤ x ∧ x < 256) → crcR a xs = crcR b xs → a = b
  | [], _, _, _, _, _, h => h
  | c :: l, a, b, ha, hb, hB, h => by
    have hc := hB c (by simp)
    have h2 := crcR_inj (xs := l) (shN_lt (xor_byte_lt ha (show c.toNat < 256 by omega)) 8) (shN_lt (xor_byte_lt hb (show c.toNat < 256 by omega)) 8) (fun x hx => hB x (by simp [hx])) h
    have h3 := shN_inj (xor_byte_lt ha (by omega)) (xor_byte_lt hb (by omega)) h2
    have h4 : (a ^^^ c.toNat) ^^^ c.toNat = (b ^^^ c.toNat) ^^^ c.toNat := by rw [h3]
    rwa [Nat.xor_assoc, Nat.xor_self, Nat.xor_zero, Nat.xor_assoc, Nat.xor_self, Nat.xor_zero] at h4
theorem crcOf_lt (xs : List Int) : crcOf xs < 4294967296 := by unfold crcOf; omega
theorem crcOf_inj {xs ys : List Int} (hx : ∀ x ∈ xs, 0 ≤ x ∧ x < 256) (hy : ∀ x ∈ ys, 0 ≤ x ∧ x < 256) (h : crcOf xs = crcOf ys) : crcR 4294967295 xs = crcR 4294967295 ys := by
  have h1 := crcR_lt (r := 4294967295) (by decide) hx
  have h2 := crcR_lt (r := 4294967295) (by decide) hy
  unfold crcOf at h
  omega

/-- The document's way: both numbers are halved. -/
theorem half_step {v c s : Nat} (h : v ^^^ c = s) : (if v % 2 ≠ c % 2 then (v / 2) ^^^ 2197175160 else v / 2) ^^^ (c / 2) = stp s := by
  subst h
  unfold stp
  rw [xor_mod2, xor_div2]
  by_cases hd : v % 2 = c % 2
  · rw [if_neg (by omega), if_neg (by omega)]
  · rw [if_pos hd, if_pos (by omega), Nat.xor_assoc, Nat.xor_comm 2197175160, Nat.xor_assoc]

end Go.Proofs.YtdadgcfpcneaiaaGreatDoor

/-
  Package sum: shift, worked, Of; the document's Of.
-/
namespace Go.Proofs.YtdadgcfpcneaiaaGreatDoor
set_option linter.unusedVariables false
set_option linter.unusedSimpArgs false
set_option linter.unusedVariables false
set_option linter.unusedSimpArgs false
set_option maxRecDepth 100000
open Go.RowKit

theorem shift8 (r : Nat) (w : World) (hr : r < 4294967296) :
    Calls Tryz.prog 185 #[.int .u32 (r : Int), .int .i64 8] w fun e w' => e = .returned (.int .u32 ((shN r 8 : Nat) : Int)) ∧ w = w' := by
  go_enter Tryz.func185, Tryz.ntmps185
  go_wp2
  go_loopw [0, 7] (fun v i wr => ∃ k : Nat, k ≤ 8 ∧ i = .int .i64 k ∧ v = .int .u32 ((shN r k : Nat) : Int) ∧ w = wr) (fun _ i _ => 8 - (intOf i).toNat)
  case atStart => exact ⟨0, by omega, rfl, rfl, rfl⟩
  case round =>
    obtain ⟨k, hk, rfl, rfl, rfl⟩ := hrel
    by_cases hlt : k < 8
    · have hs := shN_lt hr k
      have hsk : shN r (k + 1) = stp (shN r k) := rfl
      generalize shN r k = s at *
      have hx : bits .xor .u32 ((s : Int) / 2) 2197175160 = ((s / 2 ^^^ 2197175160 : Nat) : Int) := by
        have := u32_xor_nat (s / 2) 2197175160 (by omega) (by omega)
        simpa using this
      have ha : bits .and .u32 (s : Int) 1 = ((s % 2 : Nat) : Int) := by
        have := u32_and_nat s 1 hs (by omega)
        rw [Nat.and_one_is_mod] at this
        simpa using this
      unfold stp at hsk
      by_cases ho : s % 2 = 1
      · rw [if_pos ho] at hsk
        rw [ho] at ha
        have HS := Lib.hid hsk
        clear hsk ho
        go_wp2
        go_roundw
        case rel => exact ⟨k + 1, by omega, by go_num, by rw [HS.out], trivial⟩
        case measure => simp [intOf]; omega
      · have ho : s % 2 = 0 := by omega
        rw [if_neg (by omega)] at hsk
        rw [ho] at ha
        have HS := Lib.hid hsk
        clear hsk ho
        go_wp2
        go_roundw
        case rel => exact ⟨k + 1, by omega, by go_num, by rw [HS.out]; simp, trivial⟩
        case measure => simp [intOf]; omega
    · obtain rfl : k = 8 := by omega
      go_wp2
      go_ret
      exact ⟨rfl, rfl⟩

theorem not32 {x : Nat} (h : x < 4294967296) : 4294967295 ^^^ x = 4294967295 - x := by
  have e : 4294967295 - x = 2 ^ 32 - (x + 1) := by omega
  rw [e]
  apply Nat.eq_of_testBit_eq
  intro i
  rw [Nat.testBit_xor, Nat.testBit_two_pow_sub_succ (n := 32) h, show 4294967295 = 2 ^ 32 - 1 from rfl, Nat.testBit_two_pow_sub_one]
  by_cases hi : i < 32
  · simp [hi]
  · have hx : x.testBit i = false := Nat.testBit_lt_two_pow (Nat.lt_of_lt_of_le h (Nat.pow_le_pow_right (n := 2) (i := 32) (by omega) (by omega)))
    simp [hi, hx]
theorem notU (x y : Nat) (h : x < 4294967296) (hy : 4294967295 - x = y) : bits .xor .u32 IntKind.u32.max (x : Int) = (y : Int) := by
  have e := u32_xor_nat 4294967295 x (by omega) h
  rw [not32 h, hy] at e
  rw [show IntKind.u32.max = ((4294967295 : Nat) : Int) from rfl, e]

theorem Bts.sform {w : World} {v : Value} {xs : List Int} (h : Bts w v xs) : ∃ ao cap b off, v = .slice ao xs.length cap ∧ ∀ k, k < xs.length → ao = some ⟨b, off, none⟩ ∧ w.cell? ⟨b, off + k, none⟩ = some (.int .u8 (xs.getD k 0)) := by
  rcases h with ⟨rfl, rfl⟩ | ⟨b, off, cap, rfl, _, hc⟩
  · exact ⟨none, 0, 0, 0, rfl, fun k hk => by simp at hk⟩
  · exact ⟨_, cap, b, off, rfl, fun k hk => ⟨rfl, hc k hk⟩⟩

theorem crcR_take {r : Nat} {xs : List Int} {k d : Nat} (hk : k < xs.length) (hd : xs.getD k 0 = (d : Int)) : crcR r (xs.take (k + 1)) = shN (crcR r (xs.take k) ^^^ d) 8 := by
  rw [List.take_add_one, List.getElem?_eq_getElem hk, Option.toList_some, crcR_snoc]
  rw [List.getD_eq_getElem?_getD, List.getElem?_eq_getElem hk] at hd
  simp only [Option.getD_some] at hd
  rw [hd]
  rfl

set_option maxHeartbeats 400000 in
theorem worked_any (s : Nat) (v : Value) (xs : List Int) (w : World) (hs : s < 4294967296) (hb : Bts w v xs) (hB : ∀ x ∈ xs, 0 ≤ x ∧ x < 256) (hm : xs.length ≤ 9223372036854775807) :
    Calls Tryz.prog 184 #[.int .u32 (s : Int), v] w fun e w' => e = .returned (.int .u32 ((crcOn s xs : Nat) : Int)) ∧ w = w' := by
  obtain ⟨t, ht⟩ : ∃ t, 4294967295 - s = t := ⟨_, rfl⟩
  have hn := notU s t hs ht
  have htl : t < 4294967296 := by omega
  obtain ⟨ao, cap, b, off, rfl, hc⟩ := hb.sform
  have HC := Lib.hid hc
  have HB := Lib.hid hB
  have hgo : crcOn s xs = 4294967295 - crcR t xs := by rw [← ht]; rfl
  rw [hgo]
  obtain ⟨g, hg⟩ : ∃ g, crcR t xs = g := ⟨_, rfl⟩
  have hgl : g < 4294967296 := by rw [← hg]; exact crcR_lt htl hB
  obtain ⟨z, hz⟩ : ∃ z, 4294967295 - g = z := ⟨_, rfl⟩
  have hn2 := notU g z hgl hz
  rw [hg, hz]
  have HG := Lib.hid hg
  clear hb hc hB ht hgo hg hz
  go_enter Tryz.func184, Tryz.ntmps184
  go_wp2
  go_loopw [5, 12] (fun v i wr => ∃ k : Nat, k ≤ xs.length ∧ i = .int .i64 k ∧ v = .int .u32 ((crcR t (xs.take k) : Nat) : Int) ∧ w = wr) (fun _ i _ => xs.length - (intOf i).toNat)
  case atStart => exact ⟨0, by omega, rfl, rfl, rfl⟩
  case round =>
    obtain ⟨k, hk, rfl, rfl, rfl⟩ := hrel
    by_cases hlt : k < xs.length
    · have hd : 0 ≤ xs.getD k 0 ∧ xs.getD k 0 < 256 := by
        rw [List.getD_eq_getElem?_getD, List.getElem?_eq_getElem hlt]
        exact HB.out _ (List.getElem_mem hlt)
      obtain ⟨rfl, hcell⟩ := HC.out k hlt
      obtain ⟨d, hde⟩ := Int.eq_ofNat_of_zero_le hd.1
      have hd2 : d < 256 := by omega
      have hst := crcR_take (r := t) hlt hde
      have hrl := crcR_lt (r := t) (xs := xs.take k) htl (fun x hx => HB.out x (List.mem_of_mem_take hx))
      rw [hde] at hcell
      generalize crcR t (xs.take k) = r at *
      obtain ⟨y, hy⟩ : ∃ y, r ^^^ d = y := ⟨_, rfl⟩
      have hyl : y < 4294967296 := by rw [← hy]; exact xor_byte_lt hrl hd2
      have hx : bits .xor .u32 (r : Int) (d : Int) = (y : Int) := by rw [← hy]; exact u32_xor_nat r d hrl (by omega)
      rw [hy] at hst
      have hw : IntKind.u32.wrap (d : Int) = (d : Int) := by simp [IntKind.wrap, IntKind.bits, IntKind.signed]; omega
      have SH := fun w => shift8 y w hyl
      have HS := Lib.hid hst
      generalize shN y 8 = q at *
      clear hst hy hd hde hrl
      go_wp2_with (go_at_call 185; refine (SH _).mono ?_; rintro e w' ⟨rfl, rfl⟩)
      go_roundw
      case rel => exact ⟨k + 1, by omega, by go_num, by rw [HS.out], trivial⟩
      case measure => simp [intOf]; omega
    · obtain rfl : k = xs.length := by omega
      have e : crcR t (xs.take xs.length) = g := by rw [List.take_length]; exact HG.out
      rw [e]
      clear e
      go_wp2
      go_ret
      exact ⟨rfl, rfl⟩

theorem sumOf_any (v : Value) (xs : List Int) (w : World) (hb : Bts w v xs) (hB : ∀ x ∈ xs, 0 ≤ x ∧ x < 256) (hm : xs.length ≤ 9223372036854775807) :
    Calls Tryz.prog 178 #[v] w fun e w' => e = .returned (.int .u32 ((crcOf xs : Nat) : Int)) ∧ w = w' := by
  have W := worked_any 0 v xs w (by omega) hb hB hm
  rw [show crcOn 0 xs = crcOf xs from rfl] at W
  generalize crcOf xs = g at *
  clear hb hB hm
  go_enter Tryz.func178, Tryz.ntmps178
  go_wp2_with (go_at_call 184; refine W.mono ?_; rintro e w' ⟨rfl, rfl⟩)
  go_ret
  exact ⟨rfl, rfl⟩

theorem lit_bts (w : World) (xs : List Int) (T : TypeId) (fr : Nat × Nat) (g : Nat) (hg : g = w.heap.size) : Bts (w.alloc (.cells (xs.map (Value.int .u8)).toArray T fr)) (.slice (some ⟨g, 0, none⟩) xs.length xs.length) xs := by
  subst hg
  refine .inr ⟨w.heap.size, 0, xs.length, rfl, Nat.le_refl _, fun i hi => ?_⟩
  rw [Nat.zero_add, World.cell?_alloc_mark]
  simp [List.getD_eq_getElem?_getD, List.getElem?_eq_getElem hi]

theorem bytes_of {xs : List Int} (h : (xs.all fun x => decide (0 ≤ x ∧ x < 256)) = true) : ∀ x ∈ xs, 0 ≤ x ∧ x < 256 := by simpa using h

end Go.Proofs.YtdadgcfpcneaiaaGreatDoor

/-
  Package frame: Make; the document's Make.
-/
namespace Go.Proofs.YtdadgcfpcneaiaaGreatDoor
set_option linter.unusedVariables false
set_option linter.unusedSimpArgs false
set_option linter.unusedVariables false
set_option linter.unusedSimpArgs false
set_option maxRecDepth 100000
open Go.RowKit

/-- append of a slice that reads as bytes to a row of the call's own. -/
theorem wpList_append_bts {w : World} {ops : Array Oper} {rest : List Oper} {o : Oper} {a : Act} {Q : Exit → Act → World → Prop} (hgd : o.guard = none) (s x : Operand)
    (ho : o.op = .call { callee := .builtin .append, args := #[s, x], argTypes := #[54, 54] }) (base : Nat)
    (v : Value) (n : Nat) (zs : List Value) (hs : a.eval s = v) (hown : w.ownsRow base 5 1 v n zs) (src : Value) (xs : List Int) (hx : a.eval x = src) (hb : Bts w src xs)
    (h63 : n + xs.length ≤ 140737488350000) (hbase : base ≤ w.heap.size)
    (h : ∀ v' w', w'.ownsRow base 5 1 v' (n + xs.length) (zs ++ xs.map (Value.int .u8)) → w.grownBy w' v.ownBlock → wpList Tryz.prog ops Q rest (a.put o.dst v') w') : wpList Tryz.prog ops Q (o :: rest) a w := by
  obtain ⟨i0, hi, hz0, hz1, hz2⟩ := info_parts Tryz.infoU8
  rcases hb with ⟨rfl, rfl⟩ | ⟨b, off, cap, rfl, _, hc⟩
  · refine wpList_append_own_none hgd s x 54 ho base 5 i0 1 Tryz.underlying54 hi v n zs hs hown hx ?_
    refine h v w ?_ ⟨rfl, rfl, rfl, Nat.le_refl _, fun _ _ _ => rfl⟩
    simpa using hown
  · refine wpList_append_own w hgd s x 54 ho base 5 i0 (.int .u8 0) 1 1 Tryz.underlying54 hi hz0 hz1 hz2 rfl (by decide) v n zs hs hown ⟨b, off, none⟩ xs.length cap (xs.map (Value.int .u8)) hx (by simp) (cells_of hc) (ints_oneCell _ _) (by unfold maxLen; omega) (by omega) hbase ?_
    intro v' w' h1 h2 _
    exact h v' w' h1 h2

/-- A frame's head and body; the frame. -/
def hdL (k : Int) (xs : List Int) : List Int := leB k 1 ++ (leB xs.length 2 ++ xs)
def frL (k : Int) (xs : List Int) : List Int := hdL k xs ++ leB (crcOf (hdL k xs)) 4
def mkE (k : Int) (xs : List Int) : Int := if 0 ≤ k ∧ k ≤ 255 then (if xs.length ≤ 65535 then 0 else 3) else 1
def mkL (k : Int) (xs : List Int) : List Int := if mkE k xs = 0 then frL k xs else []

theorem leB_byts (v : Int) (n : Nat) : Byts (leB v n) := by
  intro x hx
  simp only [leB, List.mem_map, List.mem_range] at hx
  obtain ⟨k, _, rfl⟩ := hx
  omega
theorem byts_append {xs ys : List Int} (h : Byts xs) (h2 : Byts ys) : Byts (xs ++ ys) := fun x hx => by
  rcases List.mem_append.1 hx with h' | h'
  · exact h x h'
  · exact h2 x h'
theorem hdL_byts {k : Int} {xs : List Int} (h : Byts xs) : Byts (hdL k xs) := byts_append (leB_byts _ _) (byts_append (leB_byts _ _) h)
theorem hdL_len (k : Int) (xs : List Int) : (hdL k xs).length = xs.length + 3 := by simp [hdL, leB_len]; omega
theorem frL_len (k : Int) (xs : List Int) : (frL k xs).length = xs.length + 7 := by simp [frL, hdL_len, leB_len]
theorem frL_byts {k : Int} {xs : List Int} (h : Byts xs) : Byts (frL k xs) := byts_append (hdL_byts h) (leB_byts _ _)

theorem byt_str {xs : List Int} (h : Byts xs) : byt (strOfNums xs) = xs := by
  apply List.ext_getElem?
  intro i
  simp only [byt, strOfNums_data, List.getElem?_map]
  cases hi : xs[i]? with
  | none => simp
  | some n =>
    have hn := h n (List.mem_of_getElem? hi)
    simp
    omega
theorem str_size (xs : List Int) : (strOfNums xs).size = xs.length := by
  show (strOfNums xs).data.size = _
  rw [← Array.length_toList, strOfNums_data, List.length_map]

/-- A frame, or why there is none. -/
def MadeE (w : World) (ys : List Int) (err : Int) (e : Ending) (w' : World) : Prop :=
  ∃ v', e = .returned (.tuple #[v', .int .i64 err]) ∧ w'.ownsRow w.heap.size 5 1 v' ys.length (ys.map (Value.int .u8)) ∧ w.grownBy w' none
theorem owns_nil (w : World) (B : Nat) : w.ownsRow B 5 1 (.slice none 0 0) 0 [] := ⟨rfl, .inl ⟨rfl, rfl⟩⟩

theorem put_one {k : Int} (h0 : 0 ≤ k) (h1 : k ≤ 255) : putL [] k 1 = leB k 1 := by
  have : fitsB k 1 = true := by simp [fitsB]; omega
  simp [putL, this]

set_option maxRecDepth 100000 in
set_option maxHeartbeats 400000 in
theorem make_any (k : Int) (v : Value) (xs : List Int) (w : World) (hb : Bts w v xs) (hB : Byts xs) (hm : xs.length ≤ 140737488200000) (hk : k ≤ 9223372036854775807) :
    Calls Tryz.prog 171 #[.int .i64 k, v] w (MadeE w (mkL k xs) (mkE k xs)) := by
  by_cases hk1 : 0 ≤ k ∧ k ≤ 255
  · by_cases hl : xs.length ≤ 65535
    · have e0 : mkE k xs = 0 := by unfold mkE; rw [if_pos hk1, if_pos hl]
      have e1 : mkL k xs = frL k xs := by unfold mkL; rw [if_pos e0]
      rw [e0, e1]
      have hfit : fitsB k 1 = true := by simp [fitsB]; omega
      have htx : textL (leB k 1) (strOfNums xs) = hdL k xs := by
        unfold textL
        rw [str_size, if_pos hl, byt_str hB]
        simp [hdL]
      have hcv := fun x (hx : Ext w x) => convert_is (s := strOfNums xs) (hb.kept hx (by simp)) rfl
      have hcb := hdL_byts (k := k) hB
      have hcl := hdL_len k xs
      have hsz := str_size xs
      have hfr : frL k xs = hdL k xs ++ leB (crcOf (hdL k xs)) 4 := rfl
      have hcr := crcOf_lt (hdL k xs)
      rw [hfr]
      generalize hdL k xs = h at *
      obtain ⟨ao, cap, b, off, rfl, _⟩ := hb.sform
      generalize hst : strOfNums xs = s at *
      have hput : putL h (crcOf h : Nat) 4 = h ++ leB (crcOf h : Nat) 4 := by
        have : fitsB ((crcOf h : Nat) : Int) 4 = true := by simp [fitsB]; omega
        simp [putL, this]
      have hwr : IntKind.i64.wrap ((crcOf h : Nat) : Int) = ((crcOf h : Nat) : Int) := IntWalk.i64_in _ ⟨by omega, by omega⟩
      have SO := fun v w hb => sumOf_any v h w hb hcb (by omega)
      have HT := Lib.hid htx
      have HP := Lib.hid hput
      have HF := Lib.hid hfit
      have HK := Lib.hid hk1
      have HS := Lib.hid hsz
      have hl2 : ¬ (65535 : Int) < (xs.length : Int) := by omega
      generalize crcOf h = c at *
      have HC := Lib.hid hcl
      clear hb hB hst htx hput hfit hcb hk1 hsz e0 e1 hfr hcl
      go_enter Tryz.func171, Tryz.ntmps171
      go_wp2_with (go_at_call 180; refine (fits_is hk HF.out).mono ?_; rintro e w' ⟨rfl, rfl⟩)
      have hS := Ext.drew w
      refine region_line [(0, true), (2, true), (3, true), (1, false), (4, false), (5, true)] (Ext w) (by kernel_rfl) (by kernel_rfl) (fun _ _ _ d _ h => by cases d <;> exact h) hS ?_
      repeat (refine line_read (a' := ?_) rfl (by kernel_rfl) (by kernel_rfl) hS (fun x hx K hK => ?_) ?_; rotate_left; · have hcx := hcv x hx; go_wp2; exact hK)
      refine line_act (by rfl) (fun K hK => ?_)
      go_wp2_with (go_at_call 170; refine (put_is (.inl ⟨rfl, rfl⟩) (by simp) hk (put_one HK.out.1 HK.out.2)).mono ?_; rintro e w2 ⟨v2, rfl, hown2, hg2⟩)
      refine hK _ _ (Ext w2) (Ext.refl w2) (fun x hx => Ext.of_drew (Ext.next hg2 x hx)) ?_
      clear hK K hcv
      refine line_act (by rfl) (fun K hK => ?_)
      go_wp2_with (go_at_call 181; refine (text_is (Owns.bts rfl hown2) (by simp [leB_len]) (by rw [HS.out]; omega) HT.out).mono ?_; rintro e w3 ⟨v3, rfl, hown3, hg3⟩)
      refine hK _ _ (Ext w3) (Ext.refl w3) (Ext.next hg3) ?_
      clear hK K
      have hS3 := Ext.refl w3
      repeat (refine line_read (a' := ?_) rfl (by kernel_rfl) (by kernel_rfl) hS3 (fun x hx K hK => ?_) ?_; rotate_left; · go_wp2; exact hK)
      refine line_end ?_
      go_wp2_with (first
        | (go_at_call 178; refine (SO _ _ (Owns.bts rfl hown3)).mono ?_; rintro e w' ⟨rfl, rfl⟩)
        | (go_at_call 170; refine (put_is (Owns.bts rfl hown3) (by rw [HC.out]; omega) (by omega) HP.out).mono ?_; rintro e w4 ⟨v4, rfl, hown4, hg4⟩))
      have hgr := grown_trans (grown_trans (Ext.next hg2 _ hg3) hg4 (by simp)) (Ext.refl w4) (by simp)
      have hz2 := hg2.size
      have hz3 := hg3.size
      refine bodyPost_ret (v := .tuple #[v4, .int .i64 0]) (by simp [results, Tryz.results171, go_sem]) rfl ⟨v4, rfl, ownsRow_le hown4 (by simp at hz2; omega), Ext.of_drew hgr⟩
    · have e0 : mkE k xs = 3 := by unfold mkE; rw [if_pos hk1, if_neg hl]
      have e1 : mkL k xs = [] := by unfold mkL; rw [if_neg (by rw [e0]; decide)]
      rw [e0, e1]
      have HF := Lib.hid (show fitsB k 1 = true by simp [fitsB]; omega)
      obtain ⟨ao, cap, b, off, rfl, _⟩ := hb.sform
      have hl2 : (65535 : Int) < (xs.length : Int) := by omega
      clear hb hB e0 e1 hk1 hl
      go_enter Tryz.func171, Tryz.ntmps171
      go_wp2_with (go_at_call 180; refine (fits_is hk HF.out).mono ?_; rintro e w' ⟨rfl, rfl⟩)
      refine bodyPost_ret (v := .tuple #[.slice none 0 0, .int .i64 3]) (by simp [results, Tryz.results171, go_sem]) rfl ⟨_, rfl, owns_nil _ _, Ext.refl _⟩
  · have e0 : mkE k xs = 1 := by unfold mkE; rw [if_neg hk1]
    have e1 : mkL k xs = [] := by unfold mkL; rw [if_neg (by rw [e0]; decide)]
    rw [e0, e1]
    have HF := Lib.hid (show fitsB k 1 = false by simp [fitsB]; omega)
    obtain ⟨ao, cap, b, off, rfl, _⟩ := hb.sform
    clear hb hB e0 e1 hk1
    go_enter Tryz.func171, Tryz.ntmps171
    go_wp2_with (go_at_call 180; refine (fits_is hk HF.out).mono ?_; rintro e w' ⟨rfl, rfl⟩)
    refine bodyPost_ret (v := .tuple #[.slice none 0 0, .int .i64 1]) (by simp [results, Tryz.results171, go_sem]) rfl ⟨_, rfl, owns_nil _ _, Ext.refl _⟩

end Go.Proofs.YtdadgcfpcneaiaaGreatDoor

/-
  Package frame: Open.
-/
namespace Go.Proofs.YtdadgcfpcneaiaaGreatDoor
set_option linter.unusedVariables false
set_option linter.unusedSimpArgs false
set_option linter.unusedVariables false
set_option linter.unusedSimpArgs false
set_option maxRecDepth 100000
open Go.RowKit

/-- What the frame at the beginning says. -/
def opN (xs : List Int) : Nat := (leV ((xs.drop 1).take 2)).toNat
def opE (xs : List Int) : Int := if xs.length < opN xs + 7 then 2 else if leV ((xs.drop (opN xs + 3)).take 4) = (crcOf (xs.take (opN xs + 3)) : Nat) then 0 else 14
def opK (xs : List Int) : Int := if opE xs = 0 then leV (xs.take 1) else 0
def opB (xs : List Int) : List Int := if opE xs = 0 then (xs.drop 3).take (opN xs) else []
def opM (xs : List Int) : Int := if opE xs = 0 then opN xs + 7 else 0

theorem opN_lt {xs : List Int} (h : Byts xs) : opN xs < 65536 := by
  have hb : Byts ((xs.drop 1).take 2) := fun x hx => h x (List.mem_of_mem_drop (List.mem_of_mem_take hx))
  have h1 := leV_bd _ hb
  have h2 : ((xs.drop 1).take 2).length ≤ 2 := by simp; omega
  have h3 : (256 : Int) ^ ((xs.drop 1).take 2).length ≤ 256 ^ 2 := by
    have : ((xs.drop 1).take 2).length = 0 ∨ ((xs.drop 1).take 2).length = 1 ∨ ((xs.drop 1).take 2).length = 2 := by omega
    rcases this with e | e | e <;> rw [e] <;> decide
  unfold opN
  omega

theorem Bts.pre {w : World} {b off cap n : Nat} {xs : List Int} (h2 : xs.length ≤ cap) (h3 : ∀ i, i < xs.length → w.cell? ⟨b, off + i, none⟩ = some (.int .u8 (xs.getD i 0))) (hn : n ≤ xs.length) : Bts w (.slice (some ⟨b, off, none⟩) n cap) (xs.take n) := by
  refine .inr ⟨b, off, cap, by simp [Nat.min_eq_left hn], by simp; omega, fun i hi => ?_⟩
  have hi2 : i < n := by simp at hi; omega
  rw [h3 i (by omega)]
  simp [List.getD_eq_getElem?_getD, hi2]
theorem Bts.mid {w : World} {b off m n c : Nat} {xs : List Int} (h3 : ∀ i, i < xs.length → w.cell? ⟨b, off + i, none⟩ = some (.int .u8 (xs.getD i 0))) (hn : m + n ≤ xs.length) (hc : n ≤ c) : Bts w (.slice (some ⟨b, off + m, none⟩) n c) ((xs.drop m).take n) := by
  have hl : ((xs.drop m).take n).length = n := by simp; omega
  refine .inr ⟨b, off + m, c, by rw [hl], by omega, fun i hi => ?_⟩
  rw [hl] at hi
  rw [Nat.add_assoc, h3 (m + i) (by omega)]
  simp [List.getD_eq_getElem?_getD, List.getElem?_drop, hi]

/-- What Open answers. -/
def OpenP (w : World) (xs : List Int) (e : Ending) (w' : World) : Prop :=
  ∃ v', e = .returned (.tuple #[.int .i64 (opK xs), v', .int .i64 (opM xs), .int .i64 (opE xs)]) ∧ w'.ownsRow w.heap.size 5 1 v' (opB xs).length ((opB xs).map (Value.int .u8)) ∧ w.grownBy w' none

theorem open_short {xs : List Int} (h : xs.length < opN xs + 7) : opE xs = 2 ∧ opK xs = 0 ∧ opB xs = [] ∧ opM xs = 0 := by
  have e : opE xs = 2 := by unfold opE; rw [if_pos h]
  refine ⟨e, ?_, ?_, ?_⟩
  · unfold opK; rw [if_neg (by rw [e]; decide)]
  · unfold opB; rw [if_neg (by rw [e]; decide)]
  · unfold opM; rw [if_neg (by rw [e]; decide)]
theorem open_spoilt {xs : List Int} (h : ¬ xs.length < opN xs + 7) (h2 : leV ((xs.drop (opN xs + 3)).take 4) ≠ (crcOf (xs.take (opN xs + 3)) : Nat)) : opE xs = 14 ∧ opK xs = 0 ∧ opB xs = [] ∧ opM xs = 0 := by
  have e : opE xs = 14 := by unfold opE; rw [if_neg h, if_neg h2]
  refine ⟨e, ?_, ?_, ?_⟩
  · unfold opK; rw [if_neg (by rw [e]; decide)]
  · unfold opB; rw [if_neg (by rw [e]; decide)]
  · unfold opM; rw [if_neg (by rw [e]; decide)]
theorem open_whole {xs : List Int} (h : ¬ xs.length < opN xs + 7) (h2 : leV ((xs.drop (opN xs + 3)).take 4) = (crcOf (xs.take (opN xs + 3)) : Nat)) : opE xs = 0 ∧ opK xs = leV (xs.take 1) ∧ opB xs = (xs.drop 3).take (opN xs) ∧ opM xs = opN xs + 7 := by
  have e : opE xs = 0 := by unfold opE; rw [if_neg h, if_pos h2]
  refine ⟨e, ?_, ?_, ?_⟩
  · unfold opK; rw [if_pos e]
  · unfold opB; rw [if_pos e]
  · unfold opM; rw [if_pos e]

theorem num_ok {n : Int} {xs : List Int} (hs : sizeB n = true) (hn : n ≤ (xs.length : Int)) : numV n xs 0 = leV (xs.take n.toNat) ∧ numX n xs 0 = xs.drop n.toNat ∧ numE n xs 0 = 0 := by
  refine ⟨?_, ?_, ?_⟩
  · unfold numV; rw [if_pos ⟨rfl, hs, hn⟩]
  · unfold numX; rw [if_pos ⟨rfl, hs, hn⟩]
  · unfold numE; rw [if_pos rfl, if_pos hs, if_pos hn]

theorem clone_bts {w w5 : World} {b off n cap : Nat} {xs : List Int} (h : Bts w (.slice (some ⟨b, off, none⟩) n cap) xs) (hE : Ext w w5) (hn : xs.length = n) (hm : n ≤ 140737488351232) :
    Calls Tryz.prog 135 #[.slice (some ⟨b, off, none⟩) n cap] w5 (Made w5.heap.size w5 xs) := by
  subst hn
  rcases h with ⟨h, _⟩ | ⟨b', off', c', h, _, hc⟩
  · simp at h
  · simp only [Value.slice.injEq, Option.some.injEq, Addr.mk.injEq, and_true, true_and] at h
    obtain ⟨⟨rfl, rfl⟩, rfl⟩ := h
    exact clone_some b off cap xs w5 (fun i hi => hE.cell (hc i hi) (by simp)) hm

set_option maxRecDepth 100000 in
set_option maxHeartbeats 1600000 in
theorem open_any (v : Value) (xs : List Int) (w : World) (hb : Bts w v xs) (hB : Byts xs) (hm : xs.length ≤ 140737488351232) :
    Calls Tryz.prog 159 #[v] w (OpenP w xs) := by
  by_cases h3 : xs.length < 3
  · obtain ⟨e1, e2, e3, e4⟩ := open_short (xs := xs) (by omega)
    unfold OpenP
    rw [e1, e2, e3, e4]
    obtain ⟨ao, cap, b, off, rfl, _⟩ := hb.sform
    have h3' : (xs.length : Int) < 3 := by omega
    clear hb hB e1 e2 e3 e4
    go_enter Tryz.func159, Tryz.ntmps159
    go_wp2
    refine bodyPost_ret (v := .tuple #[.int .i64 0, .slice none 0 0, .int .i64 0, .int .i64 2]) (by simp [results, Tryz.results159, go_sem]) rfl ⟨_, rfl, owns_nil _ _, Ext.refl _⟩
  · obtain ⟨b, off, cap, rfl, hcap, hc⟩ : ∃ b off cap, v = .slice (some ⟨b, off, none⟩) xs.length cap ∧ xs.length ≤ cap ∧ ∀ i, i < xs.length → w.cell? ⟨b, off + i, none⟩ = some (.int .u8 (xs.getD i 0)) := by
      rcases hb with ⟨_, rfl⟩ | h
      · simp at h3
      · exact h
    have hbw : b < w.heap.size := World.block_lt_of_cell? w _ (hc 0 (by omega))
    have hn := opN_lt hB
    have b3 : Bts w (.slice (some ⟨b, off, none⟩) 3 cap) (xs.take 3) := Bts.pre hcap hc (by omega)
    have B3 : Byts (xs.take 3) := fun x hx => hB x (List.mem_of_mem_take hx)
    have B3' : Byts ((xs.take 3).drop 1) := fun x hx => B3 x (List.mem_of_mem_drop hx)
    have l3 : (xs.take 3).length = 3 := by simp; omega
    obtain ⟨v1, x1, y1⟩ := num_ok (n := 1) (xs := xs.take 3) rfl (by omega)
    obtain ⟨v2, x2, y2⟩ := num_ok (n := 2) (xs := (xs.take 3).drop 1) rfl (by simp; omega)
    have lb : 0 ≤ leV ((xs.drop 1).take 2) := (leV_bd _ (fun x hx => hB x (List.mem_of_mem_drop (List.mem_of_mem_take hx)))).1
    have v1 : numV 1 (xs.take 3) 0 = leV (xs.take 1) := by rw [v1, show (1 : Int).toNat = 1 from rfl, List.take_take]; rfl
    have v2 : numV 2 ((xs.take 3).drop 1) 0 = (opN xs : Nat) := by
      rw [v2, show (2 : Int).toNat = 2 from rfl, List.drop_take, List.take_take]
      show leV ((xs.drop 1).take 2) = _
      unfold opN
      omega
    have x1 : numX 1 (xs.take 3) 0 = (xs.take 3).drop 1 := x1
    have RD := fun v hb => read_any (.slice (some ⟨b, off, none⟩) 3 cap) (xs.take 3) v hb (by omega)
    have H1 := Lib.hid (And.intro v1 (And.intro x1 y1))
    have H2 := Lib.hid (And.intro v2 (And.intro x2 y2))
    have HB3 := Lib.hid (And.intro B3 B3')
    have HB := Lib.hid hB
    have Hb3 := Lib.hid b3
    have hn3 : ¬ (xs.length : Int) < 3 := by omega
    have HC := Lib.hid hc
    obtain ⟨kk, hkk⟩ : ∃ kk, leV (xs.take 1) = kk := ⟨_, rfl⟩
    have HK := Lib.hid hkk
    clear v1 x1 y1 v2 x2 y2 B3 B3' b3 hB hb hc lb hkk l3
    by_cases h7 : xs.length < opN xs + 7
    · obtain ⟨e1, e2, e3, e4⟩ := open_short (xs := xs) h7
      unfold OpenP
      rw [e1, e2, e3, e4]
      clear e1 e2 e3 e4
      generalize opN xs = n at *
      have h7' : (xs.length : Int) < n + 7 := by omega
      go_enter Tryz.func159, Tryz.ntmps159
      go_wp2_with (first
        | (go_at_call 138; refine (number_is hR2 HB3.out.2 H2.out.1 H2.out.2.1 H2.out.2.2).mono ?_; rintro e w3 ⟨rfl, hR3, hg3⟩)
        | (go_at_call 138; refine (number_is hR1 HB3.out.1 (H1.out.1.trans HK.out) H1.out.2.1 H1.out.2.2).mono ?_; rintro e w2 ⟨rfl, hR2, hg2⟩)
        | (go_at_call 137; refine (RD _ Hb3.out (by omega)).mono ?_; rintro e w1 ⟨br, c, rfl, hR1, hg1, hl1, hl2, hl3⟩))
      have hgr := grown_trans (grown_trans hg1 hg2 (fun k hk h => by cases hk; omega)) hg3 (fun k hk h => by cases hk; omega)
      refine bodyPost_ret (v := .tuple #[.int .i64 0, .slice none 0 0, .int .i64 0, .int .i64 2]) (by simp [results, Tryz.results159, go_sem]) rfl ⟨_, rfl, owns_nil _ _, hgr⟩
    · obtain ⟨V, hV⟩ : ∃ V, leV ((xs.drop (opN xs + 3)).take 4) = V := ⟨_, rfl⟩
      obtain ⟨C, hCc⟩ : ∃ C, crcOf (xs.take (opN xs + 3)) = C := ⟨_, rfl⟩
      have hCl : C < 4294967296 := by rw [← hCc]; exact crcOf_lt _
      have l4 : ((xs.drop (opN xs + 3)).take 4).length = 4 := by simp; omega
      have B4 : Byts ((xs.drop (opN xs + 3)).take 4) := fun x hx => HB.out x (List.mem_of_mem_drop (List.mem_of_mem_take hx))
      obtain ⟨v4, x4, y4⟩ := num_ok (n := 4) (xs := (xs.drop (opN xs + 3)).take 4) rfl (by rw [l4]; decide)
      rw [show (4 : Int).toNat = 4 from rfl, List.take_take, show min 4 4 = 4 from rfl, hV] at v4
      have SO := fun v w' hbb => sumOf_any v (xs.take (opN xs + 3)) w' hbb (fun x hx => HB.out x (List.mem_of_mem_take hx)) (by simp; omega)
      rw [hCc] at SO
      have b4 : ∀ c, 4 ≤ c → Bts w (.slice (some ⟨b, off + (3 + opN xs), none⟩) 4 c) ((xs.drop (opN xs + 3)).take 4) := fun c h => by rw [Nat.add_comm 3]; exact Bts.mid HC.out (by omega) h
      have b5 : Bts w (.slice (some ⟨b, off, none⟩) (3 + opN xs) cap) (xs.take (opN xs + 3)) := by rw [Nat.add_comm 3]; exact Bts.pre hcap HC.out (by omega)
      have b6 : ∀ c, opN xs ≤ c → Bts w (.slice (some ⟨b, off + 3, none⟩) (opN xs) c) ((xs.drop 3).take (opN xs)) := fun c h => Bts.mid HC.out (by omega) h
      have H4 := Lib.hid (And.intro v4 (And.intro x4 y4))
      have HB4 := Lib.hid B4
      have HL4 := Lib.hid l4
      have K4 := Lib.hid b4
      have K5 := Lib.hid b5
      have K6 := Lib.hid b6
      have hwr : IntKind.i64.wrap (C : Int) = (C : Int) := IntWalk.i64_in _ ⟨by omega, by omega⟩
      clear v4 x4 y4 l4 B4 b4 b5 b6
      have h7' : ¬ (xs.length : Int) < opN xs + 7 := by omega
      have hlen : opN xs + 7 ≤ xs.length := by omega
      by_cases hVC : V = (C : Int)
      · obtain ⟨e1, e2, e3, e4⟩ := open_whole (xs := xs) h7 (by rw [hV, hCc]; exact hVC)
        unfold OpenP
        rw [e1, e2, e3, e4, HK.out]
        have hne : (V != (C : Int)) = false := by simpa using hVC
        have l6 : ((xs.drop 3).take (opN xs)).length = opN xs := by simp; omega
        have HL6 := Lib.hid l6
        clear l6
        clear e1 e2 e3 e4 hV hCc hVC h7
        generalize (xs.drop (opN xs + 3)).take 4 = zs at *
        generalize xs.take (opN xs + 3) = hs at *
        generalize (xs.drop 3).take (opN xs) = bs at *
        generalize opN xs = n at *
        go_enter Tryz.func159, Tryz.ntmps159
        go_wp2_with (first
          | (go_at_call 138; refine (number_is hR2 HB3.out.2 H2.out.1 H2.out.2.1 H2.out.2.2).mono ?_; rintro e w3 ⟨rfl, hR3, hg3⟩)
          | (go_at_call 138; refine (number_is hR1 HB3.out.1 (H1.out.1.trans HK.out) H1.out.2.1 H1.out.2.2).mono ?_; rintro e w2 ⟨rfl, hR2, hg2⟩)
          | (go_at_call 137; refine (RD _ Hb3.out (by omega)).mono ?_; rintro e w1 ⟨br, c, rfl, hR1, hg1, hl1, hl2, hl3⟩))
        have hgr := grown_trans (grown_trans hg1 hg2 (fun k hk h => by cases hk; omega)) hg3 (fun k hk h => by cases hk; omega)
        have hE3 : Ext w w3.drew := Ext.next hgr _ (Ext.drew w3)
        refine region_line [(0, true), (1, true), (2, true), (3, true), (6, true), (7, true), (8, true), (4, false), (5, false), (9, false), (10, true), (11, true)] (Ext w) (by kernel_rfl) (by kernel_rfl) (fun _ _ _ d _ h => by cases d <;> exact h) hE3 ?_
        repeat (refine line_read (a' := ?_) rfl (by kernel_rfl) (by kernel_rfl) hE3 (fun x hx K hK => ?_) ?_; rotate_left; · go_wp2; exact hK)
        refine line_act (by rfl) (fun K hK => ?_)
        go_wp2_with (go_at_call 137; refine (read_any _ zs _ ((K4.out _ (by omega)).kept hE3 (by simp)) (by rw [HL4.out]; omega) (by have := hE3.size; omega)).mono ?_; rintro e w4 ⟨br2, c2, rfl, hR4, hg4, hm1, hm2, hm3⟩)
        have hE4 : Ext w w4 := Ext.next hE3 _ hg4
        refine hK _ _ (Ext w) hE4 (fun x hx => hx) ?_
        clear hK K
        refine line_act (by rfl) (fun K hK => ?_)
        go_wp2_with (go_at_call 138; refine (number_is hR4 HB4.out H4.out.1 H4.out.2.1 H4.out.2.2).mono ?_; rintro e w5 ⟨rfl, hR5, hg5⟩)
        have hz3 := hE3.size
        have hE5 : Ext w w5 := grown_trans hE4 hg5 (fun k hk h => by cases hk; omega)
        refine hK _ _ (Ext w) hE5 (fun x hx => hx) ?_
        clear hK K
        refine line_act (by rfl) (fun K hK => ?_)
        go_wp2_with (go_at_call 178; refine (SO _ _ (K5.out.kept hE5 (by simp))).mono ?_; rintro e w' ⟨rfl, rfl⟩)
        refine hK _ _ (Ext w) hE5 (fun x hx => hx) ?_
        clear hK K
        repeat (refine line_read (a' := ?_) rfl (by kernel_rfl) (by kernel_rfl) hE5 (fun x hx K hK => ?_) ?_; rotate_left; · go_wp2; exact hK)
        refine line_end ?_
        go_wp2_with (go_at_call 135; refine (clone_bts (K6.out (cap - 3) (by omega)) hE5 HL6.out (by omega)).mono ?_; rintro e w6 ⟨v6, rfl, hown6, hg6⟩)
        refine bodyPost_ret (v := .tuple #[.int .i64 kk, v6, .int .i64 (n + 7), .int .i64 0]) (by simp [results, Tryz.results159, go_sem]; omega) rfl ⟨_, rfl, ownsRow_le hown6 hE5.size, Ext.next hE5 _ hg6⟩
      · obtain ⟨e1, e2, e3, e4⟩ := open_spoilt (xs := xs) h7 (by rw [hV, hCc]; exact hVC)
        unfold OpenP
        rw [e1, e2, e3, e4]
        have hne : (V != (C : Int)) = true := by simpa using hVC
        clear e1 e2 e3 e4 hV hCc hVC h7
        generalize (xs.drop (opN xs + 3)).take 4 = zs at *
        generalize xs.take (opN xs + 3) = hs at *
        generalize (xs.drop 3).take (opN xs) = bs at *
        generalize opN xs = n at *
        go_enter Tryz.func159, Tryz.ntmps159
        go_wp2_with (first
          | (go_at_call 138; refine (number_is hR2 HB3.out.2 H2.out.1 H2.out.2.1 H2.out.2.2).mono ?_; rintro e w3 ⟨rfl, hR3, hg3⟩)
          | (go_at_call 138; refine (number_is hR1 HB3.out.1 (H1.out.1.trans HK.out) H1.out.2.1 H1.out.2.2).mono ?_; rintro e w2 ⟨rfl, hR2, hg2⟩)
          | (go_at_call 137; refine (RD _ Hb3.out (by omega)).mono ?_; rintro e w1 ⟨br, c, rfl, hR1, hg1, hl1, hl2, hl3⟩))
        have hgr := grown_trans (grown_trans hg1 hg2 (fun k hk h => by cases hk; omega)) hg3 (fun k hk h => by cases hk; omega)
        have hE3 : Ext w w3.drew := Ext.next hgr _ (Ext.drew w3)
        refine region_line [(0, true), (1, true), (2, true), (3, true), (6, true), (7, true), (8, true), (4, false), (5, false), (9, false), (10, true), (11, true)] (Ext w) (by kernel_rfl) (by kernel_rfl) (fun _ _ _ d _ h => by cases d <;> exact h) hE3 ?_
        repeat (refine line_read (a' := ?_) rfl (by kernel_rfl) (by kernel_rfl) hE3 (fun x hx K hK => ?_) ?_; rotate_left; · go_wp2; exact hK)
        refine line_act (by rfl) (fun K hK => ?_)
        go_wp2_with (go_at_call 137; refine (read_any _ zs _ ((K4.out _ (by omega)).kept hE3 (by simp)) (by rw [HL4.out]; omega) (by have := hE3.size; omega)).mono ?_; rintro e w4 ⟨br2, c2, rfl, hR4, hg4, hm1, hm2, hm3⟩)
        have hE4 : Ext w w4 := Ext.next hE3 _ hg4
        refine hK _ _ (Ext w) hE4 (fun x hx => hx) ?_
        clear hK K
        refine line_act (by rfl) (fun K hK => ?_)
        go_wp2_with (go_at_call 138; refine (number_is hR4 HB4.out H4.out.1 H4.out.2.1 H4.out.2.2).mono ?_; rintro e w5 ⟨rfl, hR5, hg5⟩)
        have hz3 := hE3.size
        have hE5 : Ext w w5 := grown_trans hE4 hg5 (fun k hk h => by cases hk; omega)
        refine hK _ _ (Ext w) hE5 (fun x hx => hx) ?_
        clear hK K
        refine line_act (by rfl) (fun K hK => ?_)
        go_wp2_with (go_at_call 178; refine (SO _ _ (K5.out.kept hE5 (by simp))).mono ?_; rintro e w' ⟨rfl, rfl⟩)
        refine hK _ _ (Ext w) hE5 (fun x hx => hx) ?_
        clear hK K
        repeat (refine line_read (a' := ?_) rfl (by kernel_rfl) (by kernel_rfl) hE5 (fun x hx K hK => ?_) ?_; rotate_left; · go_wp2; exact hK)
        refine line_end ?_
        go_wp2
        refine bodyPost_ret (v := .tuple #[.int .i64 0, .slice none 0 0, .int .i64 0, .int .i64 14]) (by simp [results, Tryz.results159, go_sem]) rfl ⟨_, rfl, owns_nil _ _, hE5⟩

end Go.Proofs.YtdadgcfpcneaiaaGreatDoor
