/-
  Sums: what the register comes to, as numbers; it is linear, and nothing but 0 comes to 0.
-/
import Derived.Test.YtjlecncamfdcfaaDoorRow
import Derived.Lib.Hide
namespace Go.Proofs.YtjlecncamfdcfaaDoor

/-- One step of the register. -/
def stp (r : Nat) : Nat := if r % 2 = 1 then (r / 2) ^^^ 2197175160 else r / 2
/-- So many steps. -/
def shN (r : Nat) : Nat → Nat
  | 0 => r
  | k + 1 => stp (shN r k)
/-- The register behind bytes. -/
def crcR (r : Nat) (xs : List Int) : Nat := xs.foldl (fun r c => shN (r ^^^ c.toNat) 8) r
/-- The sum that goes on. -/
def crcOn (s : Nat) (xs : List Int) : Nat := 4294967295 - crcR (4294967295 - s) xs
/-- The sum of bytes. -/
def crcOf (xs : List Int) : Nat := 4294967295 - crcR 4294967295 xs

theorem stp_lt {r : Nat} (h : r < 4294967296) : stp r < 4294967296 := by
  unfold stp
  split
  · exact Nat.xor_lt_two_pow (n := 32) (by omega) (by decide)
  · omega
theorem shN_lt {r : Nat} (h : r < 4294967296) : ∀ k, shN r k < 4294967296
  | 0 => h
  | k + 1 => stp_lt (shN_lt h k)
theorem xor_byte_lt {r c : Nat} (h : r < 4294967296) (hc : c < 256) : r ^^^ c < 4294967296 := Nat.xor_lt_two_pow (n := 32) h (by omega)
theorem crcR_lt : ∀ {xs : List Int} {r : Nat}, r < 4294967296 → (∀ x ∈ xs, 0 ≤ x ∧ x < 256) → crcR r xs < 4294967296
  | [], _, h, _ => h
  | c :: l, r, h, hB => by
    have := hB c (by simp)
    exact crcR_lt (xs := l) (shN_lt (xor_byte_lt h (by omega)) 8) (fun x hx => hB x (by simp [hx]))
theorem crcR_snoc (r : Nat) (xs : List Int) (c : Int) : crcR r (xs ++ [c]) = shN (crcR r xs ^^^ c.toNat) 8 := by simp [crcR]
theorem crcR_append (r : Nat) (xs ys : List Int) : crcR r (xs ++ ys) = crcR (crcR r xs) ys := by simp [crcR]

theorem xor_mod2 (a b : Nat) : (a ^^^ b) % 2 = (a + b) % 2 := by
  have h := Nat.xor_mod_two_pow (a := a) (b := b) (n := 1)
  rw [Nat.pow_one] at h
  have ha : a % 2 = 0 ∨ a % 2 = 1 := by omega
  have hb : b % 2 = 0 ∨ b % 2 = 1 := by omega
  rcases ha with ha | ha <;> rcases hb with hb | hb <;> rw [h, ha, hb, Nat.add_mod, ha, hb] <;> decide
theorem xor_div2 (a b : Nat) : (a ^^^ b) / 2 = a / 2 ^^^ b / 2 := by
  have h := Nat.shiftRight_xor_distrib (a := a) (b := b) (i := 1)
  simpa [Nat.shiftRight_eq_div_pow] using h
theorem stp_xor (a b : Nat) : stp (a ^^^ b) = stp a ^^^ stp b := by
  unfold stp
  rw [xor_mod2, xor_div2]
  have ha : a % 2 = 0 ∨ a % 2 = 1 := by omega
  have hb : b % 2 = 0 ∨ b % 2 = 1 := by omega
  rcases ha with ha | ha <;> rcases hb with hb | hb
  · rw [if_neg (by omega), if_neg (by omega), if_neg (by omega)]
  · rw [if_pos (by omega), if_neg (by omega), if_pos (by omega), Nat.xor_assoc]
  · rw [if_pos (by omega), if_pos (by omega), if_neg (by omega), Nat.xor_assoc, Nat.xor_assoc, Nat.xor_comm (b / 2)]
  · rw [if_neg (by omega), if_pos (by omega), if_pos (by omega), Nat.xor_assoc, Nat.xor_comm 2197175160, Nat.xor_assoc, Nat.xor_self, Nat.xor_zero]
theorem shN_xor (a b : Nat) : ∀ k, shN (a ^^^ b) k = shN a k ^^^ shN b k
  | 0 => rfl
  | k + 1 => by simp only [shN, shN_xor a b k, stp_xor]
theorem xor_eq0 {a b : Nat} (h : a ^^^ b = 0) : a = b := by
  have h2 : (a ^^^ b) ^^^ b = b := by rw [h, Nat.zero_xor]
  rwa [Nat.xor_assoc, Nat.xor_self, Nat.xor_zero] at h2
theorem stp_zero {r : Nat} (h : r < 4294967296) (h0 : stp r = 0) : r = 0 := by
  unfold stp at h0
  split at h0
  · have := xor_eq0 h0
    omega
  · omega
theorem shN_zero {r : Nat} (h : r < 4294967296) : ∀ k, shN r k = 0 → r = 0
  | 0, h0 => h0
  | k + 1, h0 => shN_zero h k (stp_zero (shN_lt h k) h0)
theorem shN_inj {a b : Nat} (ha : a < 4294967296) (hb : b < 4294967296) {k : Nat} (h : shN a k = shN b k) : a = b := by
  refine xor_eq0 (shN_zero (Nat.xor_lt_two_pow (n := 32) ha hb) k ?_)
  rw [shN_xor, h, Nat.xor_self]
theorem crcR_inj : ∀ {xs : List Int} {a b : Nat}, a < 4294967296 → b < 4294967296 → (∀ x ∈ xs, 0 ≤ x ∧ x < 256) → crcR a xs = crcR b xs → a = b
  | [], _, _, _, _, _, h => h
  | c :: l, a, b, ha, hb, hB, h => by
    have hc := hB c (by simp)
    have h2 := crcR_inj (xs := l) (shN_lt (xor_byte_lt ha (show c.toNat < 256 by omega)) 8) (shN_lt (xor_byte_lt hb (show c.toNat < 256 by omega)) 8) (fun x hx => hB x (by simp [hx])) h
    have h3 := shN_inj (xor_byte_lt ha (by omega)) (xor_byte_lt hb (by omega)) h2
    have h4 : (a ^^^ c.toNat) ^^^ c.toNat = (b ^^^ c.toNat) ^^^ c.toNat := by rw [h3]
    rwa [Nat.xor_assoc, Nat.xor_self, Nat.xor_zero, Nat.xor_assoc, Nat.xor_self, Nat.xor_zero] at h4
theorem crcOf_lt (xs : List Int) : crcOf xs < 4294967296 := by unfold crcOf; omega
theorem crcOf_inj {xs ys : List Int} (hx : ∀ x ∈ xs, 0 ≤ x ∧ x < 256) (hy : ∀ x ∈ ys, 0 ≤ x ∧ x < 256) (h : crcOf xs = crcOf ys) : crcR 4294967295 xs = crcR 4294967295 ys := by
  have h1 := crcR_lt (r := 4294967295) (by decide) hx
  have h2 := crcR_lt (r := 4294967295) (by decide) hy
  unfold crcOf at h
  omega

/-- The document's way: both numbers are halved. -/
theorem half_step {v c s : Nat} (h : v ^^^ c = s) : (if v % 2 ≠ c % 2 then (v / 2) ^^^ 2197175160 else v / 2) ^^^ (c / 2) = stp s := by
  subst h
  unfold stp
  rw [xor_mod2, xor_div2]
  by_cases hd : v % 2 = c % 2
  · rw [if_neg (by omega), if_neg (by omega)]
  · rw [if_pos hd, if_pos (by omega), Nat.xor_assoc, Nat.xor_comm 2197175160, Nat.xor_assoc]

end Go.Proofs.YtjlecncamfdcfaaDoor
