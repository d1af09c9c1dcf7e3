/-
  Sums: bytes of which some within 32 neighbouring bits are turned have another register.
-/
import Derived.Test.YtjlecncamfdcfaaDoorSA
namespace Go.Proofs.YtjlecncamfdcfaaDoor

theorem stp_double (m : Nat) : stp (2 * m) = m := by unfold stp; rw [if_neg (by omega)]; omega
theorem shN_pow (e j : Nat) : ∀ k, shN (e * 2 ^ (k + j)) k = e * 2 ^ j
  | 0 => by simp [shN]
  | k + 1 => by
    have h := shN_pow e (j + 1) k
    show stp (shN (e * 2 ^ (k + 1 + j)) k) = _
    rw [show k + 1 + j = k + (j + 1) by omega, h, Nat.pow_succ, show e * (2 ^ j * 2) = 2 * (e * 2 ^ j) by rw [← Nat.mul_assoc]; omega, stp_double]
theorem shN_256 (e : Nat) : shN (e * 256) 8 = e := by simpa using shN_pow e 0 8
theorem shN_back {z e : Nat} (hz : z < 4294967296) (he : e * 256 < 4294967296) (h : shN z 8 = e) : z = e * 256 :=
  shN_inj hz he (k := 8) (by rw [h, shN_256])
theorem xor_back {a b c : Nat} (h : a ^^^ b = c) : a = c ^^^ b := by rw [← h, Nat.xor_assoc, Nat.xor_self, Nat.xor_zero]

/-- Four bytes, one behind the other, come to 0 only if all are 0. -/
theorem four_zero {a b c d : Nat} (ha : a < 256) (hb : b < 256) (hc : c < 256) (hd : d < 256) (h : shN (shN (shN (shN a 8 ^^^ b) 8 ^^^ c) 8 ^^^ d) 8 = 0) : a = 0 ∧ b = 0 ∧ c = 0 ∧ d = 0 := by
  have l1 : shN a 8 < 4294967296 := shN_lt (by omega) 8
  have l2 := xor_byte_lt l1 hb
  have l3 := shN_lt l2 8
  have l4 := xor_byte_lt l3 hc
  have l5 := shN_lt l4 8
  have l6 := xor_byte_lt l5 hd
  have h1 := xor_eq0 (shN_zero l6 8 h)
  have h2 := xor_back (shN_back l4 (by omega) h1)
  have m2 : d * 256 ^^^ c < 65536 := Nat.xor_lt_two_pow (n := 16) (by omega) (by omega)
  have h3 := xor_back (shN_back l2 (by omega) h2)
  have m3 : (d * 256 ^^^ c) * 256 ^^^ b < 16777216 := Nat.xor_lt_two_pow (n := 24) (by omega) (by omega)
  have h4 := shN_back (show a < 4294967296 by omega) (by omega) h3
  have small : ∀ q u : Nat, u = q * 256 → u < 256 → q = 0 ∧ u = 0 := fun q u h1 h2 => by omega
  obtain ⟨h5, ha0⟩ := small _ _ h4 ha
  obtain ⟨h7, hb0⟩ := small _ _ (xor_eq0 h5).symm hb
  obtain ⟨hd0, hc0⟩ := small _ _ (xor_eq0 h7).symm hc
  exact ⟨ha0, hb0, hc0, hd0⟩

theorem take_all {xs ys : List Int} {n : Nat} (hl : ys.length = xs.length) (hn : n ≤ xs.length) (h : ∀ j, j < n → ys.getD j 0 = xs.getD j 0) : ys.take n = xs.take n := by
  apply List.ext_getElem
  · simp; omega
  · intro i h1 h2
    have hi : i < n := by simp at h1; omega
    have := h i hi
    rw [List.getD_eq_getElem?_getD, List.getD_eq_getElem?_getD, List.getElem?_eq_getElem (by omega), List.getElem?_eq_getElem (by omega)] at this
    simpa using this

theorem crcR_next {r : Nat} {xs : List Int} {k d : Nat} (hk : k < xs.length) (hd : xs.getD k 0 = (d : Int)) : crcR r (xs.take (k + 1)) = shN (crcR r (xs.take k) ^^^ d) 8 := by
  rw [List.take_add_one, List.getElem?_eq_getElem hk, Option.toList_some, crcR_snoc]
  rw [List.getD_eq_getElem?_getD, List.getElem?_eq_getElem hk] at hd
  simp only [Option.getD_some] at hd
  rw [hd]
  rfl

theorem xor_xor {a b x y : Nat} : (a ^^^ x) ^^^ (b ^^^ y) = (a ^^^ b) ^^^ (x ^^^ y) := by
  rw [Nat.xor_assoc, ← Nat.xor_assoc x, Nat.xor_comm x b, Nat.xor_assoc b, ← Nat.xor_assoc]

theorem getD_byte {xs : List Int} (hB : ∀ x ∈ xs, 0 ≤ x ∧ x < 256) {k : Nat} (hk : k < xs.length) : ∃ d : Nat, xs.getD k 0 = (d : Int) ∧ d < 256 := by
  have h := hB _ (List.getElem_mem hk)
  rw [List.getD_eq_getElem?_getD, List.getElem?_eq_getElem hk]
  obtain ⟨d, hd⟩ := Int.eq_ofNat_of_zero_le h.1
  exact ⟨d, hd, by rw [hd] at h; omega⟩

/-- Both registers, one byte on: what they differ by. -/
theorem crcR_diff {r : Nat} {xs ys : List Int} {k x d : Nat} (hl : ys.length = xs.length) (hk : k < xs.length) (hx : xs.getD k 0 = (x : Int)) (hy : ys.getD k 0 = ((x ^^^ d : Nat) : Int)) :
    crcR r (ys.take (k + 1)) ^^^ crcR r (xs.take (k + 1)) = shN ((crcR r (ys.take k) ^^^ crcR r (xs.take k)) ^^^ d) 8 := by
  rw [crcR_next hk hx, crcR_next (by omega) hy, ← shN_xor, xor_xor, Nat.xor_comm x d, Nat.xor_assoc d, Nat.xor_self, Nat.xor_zero]

theorem crcOf_turns {xs ys : List Int} {n : Nat} {d : Nat → Nat} (hl : ys.length = xs.length) (hn : n + 4 ≤ xs.length) (hB : ∀ x ∈ xs, 0 ≤ x ∧ x < 256) (hC : ∀ x ∈ ys, 0 ≤ x ∧ x < 256)
    (hsame : ∀ j, j < xs.length → (j < n ∨ n + 4 ≤ j) → ys.getD j 0 = xs.getD j 0) (hd : ∀ i, i < 4 → ys.getD (n + i) 0 = (((xs.getD (n + i) 0).toNat ^^^ d i : Nat) : Int)) (hd8 : ∀ i, i < 4 → d i < 256)
    (hne : ¬ (d 0 = 0 ∧ d 1 = 0 ∧ d 2 = 0 ∧ d 3 = 0)) : crcOf ys ≠ crcOf xs := by
  intro h
  have h := crcOf_inj hC hB h
  have D0 : crcR 4294967295 (ys.take n) ^^^ crcR 4294967295 (xs.take n) = 0 := by
    rw [take_all hl (by omega) (fun j hj => hsame j (by omega) (.inl hj)), Nat.xor_self]
  have next : ∀ i, i < 4 → crcR 4294967295 (ys.take (n + i + 1)) ^^^ crcR 4294967295 (xs.take (n + i + 1)) = shN ((crcR 4294967295 (ys.take (n + i)) ^^^ crcR 4294967295 (xs.take (n + i))) ^^^ d i) 8 := fun i hi => by
    obtain ⟨x, hx, _⟩ := getD_byte hB (show n + i < xs.length by omega)
    refine crcR_diff hl (by omega) hx ?_
    rw [hd i hi, hx]
    rfl
  have n0 := next 0 (by omega)
  have n1 := next 1 (by omega)
  have n2 := next 2 (by omega)
  have n3 := next 3 (by omega)
  simp only [Nat.add_zero, Nat.add_assoc, Nat.reduceAdd] at n0 n1 n2 n3
  rw [D0, Nat.zero_xor] at n0
  rw [n0] at n1
  rw [n1] at n2
  rw [n2] at n3
  have hall : ∀ k, n + 4 + k ≤ xs.length → crcR 4294967295 (ys.take (n + 4 + k)) = crcR 4294967295 (xs.take (n + 4 + k)) → crcR 4294967295 (ys.take (n + 4)) ^^^ crcR 4294967295 (xs.take (n + 4)) = 0 := by
    intro k
    induction k with
    | zero => intro _ h; rw [Nat.add_zero] at h; rw [h, Nat.xor_self]
    | succ k ih =>
      intro hk h
      refine ih (by omega) ?_
      obtain ⟨x, hx, _⟩ := getD_byte hB (show n + 4 + k < xs.length by omega)
      have hy : ys.getD (n + 4 + k) 0 = ((x ^^^ 0 : Nat) : Int) := by rw [hsame _ (by omega) (.inr (by omega)), hx, Nat.xor_zero]
      have hdf := crcR_diff (r := 4294967295) hl (by omega) hx hy
      rw [Nat.xor_zero, show n + 4 + k + 1 = n + 4 + (k + 1) by omega, h, Nat.xor_self] at hdf
      have l1 := crcR_lt (r := 4294967295) (xs := ys.take (n + 4 + k)) (by omega) (fun x hx => hC x (List.mem_of_mem_take hx))
      have l2 := crcR_lt (r := 4294967295) (xs := xs.take (n + 4 + k)) (by omega) (fun x hx => hB x (List.mem_of_mem_take hx))
      exact xor_eq0 (shN_zero (Nat.xor_lt_two_pow (n := 32) l1 l2) 8 hdf.symm)
  have e := hall (xs.length - (n + 4)) (by omega) (by
    rw [show n + 4 + (xs.length - (n + 4)) = xs.length by omega, List.take_length, List.take_of_length_le (by omega)]
    exact h)
  rw [e] at n3
  exact hne (four_zero (hd8 0 (by omega)) (hd8 1 (by omega)) (hd8 2 (by omega)) (hd8 3 (by omega)) n3.symm)

/-- One byte turned. -/
theorem crcOf_one {xs ys : List Int} {n x d : Nat} (hl : ys.length = xs.length) (hn : n < xs.length) (hB : ∀ x ∈ xs, 0 ≤ x ∧ x < 256) (hC : ∀ x ∈ ys, 0 ≤ x ∧ x < 256)
    (hsame : ∀ j, j < xs.length → j ≠ n → ys.getD j 0 = xs.getD j 0) (hx : xs.getD n 0 = (x : Int)) (hd : ys.getD n 0 = ((x ^^^ d : Nat) : Int)) (hd8 : d < 256)
    (hne : d ≠ 0) : crcOf ys ≠ crcOf xs := by
  intro h
  have h := crcOf_inj hC hB h
  have D0 : crcR 4294967295 (ys.take n) ^^^ crcR 4294967295 (xs.take n) = 0 := by
    rw [take_all hl (by omega) (fun j hj => hsame j (by omega) (by omega)), Nat.xor_self]
  have n0 := crcR_diff (r := 4294967295) hl hn hx hd
  rw [D0, Nat.zero_xor] at n0
  have hall : ∀ k, n + 1 + k ≤ xs.length → crcR 4294967295 (ys.take (n + 1 + k)) = crcR 4294967295 (xs.take (n + 1 + k)) → crcR 4294967295 (ys.take (n + 1)) ^^^ crcR 4294967295 (xs.take (n + 1)) = 0 := by
    intro k
    induction k with
    | zero => intro _ h; rw [Nat.add_zero] at h; rw [h, Nat.xor_self]
    | succ k ih =>
      intro hk h
      refine ih (by omega) ?_
      obtain ⟨x, hx, _⟩ := getD_byte hB (show n + 1 + k < xs.length by omega)
      have hy : ys.getD (n + 1 + k) 0 = ((x ^^^ 0 : Nat) : Int) := by rw [hsame _ (by omega) (by omega), hx, Nat.xor_zero]
      have hdf := crcR_diff (r := 4294967295) hl (by omega) hx hy
      rw [Nat.xor_zero, show n + 1 + k + 1 = n + 1 + (k + 1) by omega, h, Nat.xor_self] at hdf
      have l1 := crcR_lt (r := 4294967295) (xs := ys.take (n + 1 + k)) (by omega) (fun x hx => hC x (List.mem_of_mem_take hx))
      have l2 := crcR_lt (r := 4294967295) (xs := xs.take (n + 1 + k)) (by omega) (fun x hx => hB x (List.mem_of_mem_take hx))
      exact xor_eq0 (shN_zero (Nat.xor_lt_two_pow (n := 32) l1 l2) 8 hdf.symm)
  have e := hall (xs.length - (n + 1)) (by omega) (by
    rw [show n + 1 + (xs.length - (n + 1)) = xs.length by omega, List.take_length, List.take_of_length_le (by omega)]
    exact h)
  rw [e] at n0
  exact hne (shN_zero (by omega) 8 n0.symm)

end Go.Proofs.YtjlecncamfdcfaaDoor
