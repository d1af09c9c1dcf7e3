/-
  Reader.Number: the program's.
-/
import Derived.Test.YtjlecncamfdcfaaDoorWG
namespace Go.Proofs.YtjlecncamfdcfaaDoor
open Go.RowKit

def leV : List Int → Int
  | [] => 0
  | b :: l => b + 256 * leV l
def Byts (xs : List Int) : Prop := ∀ x ∈ xs, 0 ≤ x ∧ x < 256
def numV (n : Int) (xs : List Int) (e : Int) : Int := if e = 0 ∧ sizeB n = true ∧ n ≤ xs.length then leV (xs.take n.toNat) else 0
def numX (n : Int) (xs : List Int) (e : Int) : List Int := if e = 0 ∧ sizeB n = true ∧ n ≤ xs.length then xs.drop n.toNat else xs
def numE (n : Int) (xs : List Int) (e : Int) : Int := if e = 0 then (if sizeB n = true then (if n ≤ xs.length then 0 else 2) else 1) else e

theorem num_short {m : Nat} {xs : List Int} (hs : sizeB m = true) (hn : ¬ m ≤ xs.length) : numV m xs 0 = 0 ∧ numX m xs 0 = xs ∧ numE m xs 0 = 2 := by
  have h : ¬ (m : Int) ≤ (xs.length : Int) := by omega
  exact ⟨if_neg (fun x => h x.2.2), if_neg (fun x => h x.2.2), by unfold numE; rw [if_pos rfl, if_pos hs, if_neg h]⟩

theorem leV_bd : ∀ xs : List Int, Byts xs → 0 ≤ leV xs ∧ leV xs < 256 ^ xs.length
  | [], _ => by simp [leV]
  | b :: l, h => by
    have h1 := h b (by simp)
    have h2 := leV_bd l (fun x hx => h x (by simp [hx]))
    simp only [leV, List.length_cons, Int.pow_succ]
    omega

theorem leV_snoc : ∀ (xs : List Int) (c : Int), leV (xs ++ [c]) = leV xs + c * 256 ^ xs.length
  | [], c => by simp [leV]
  | b :: l, c => by
    simp only [List.cons_append, leV, leV_snoc l c, List.length_cons, Int.pow_succ]
    rw [Int.mul_add, Int.mul_comm (256 ^ l.length) 256, ← Int.mul_assoc, ← Int.mul_assoc, Int.mul_comm c 256, Int.add_assoc]

theorem Bts.pos {w : World} {v : Value} {xs : List Int} {n : Nat} (h : Bts w v xs) (hn : xs.length = n) (h0 : 0 < n) :
    ∃ b off cap, v = .slice (some ⟨b, off, none⟩) n cap ∧ ∀ i, i < n → w.cell? ⟨b, off + i, none⟩ = some (.int .u8 (xs.getD i 0)) := by
  rcases h with ⟨_, rfl⟩ | ⟨b, off, cap, rfl, _, h3⟩
  · simp at hn; omega
  · subst hn; exact ⟨b, off, cap, rfl, h3⟩

theorem wraps_i64 (n : Int) (h0 : 0 ≤ n) (h1 : n < 2 ^ 63) : IntKind.i64.wrap n = n := by rw [IntKind.wrap_i64]; omega

theorem pow_cases (k : Nat) (hk : k < 4) : ∃ p : Int, (2 : Int) ^ (8 * k) = p ∧ (256 : Int) ^ k = p ∧ 1 ≤ p ∧ p ≤ 16777216 := by
  have h : k = 0 ∨ k = 1 ∨ k = 2 ∨ k = 3 := by omega
  rcases h with rfl | rfl | rfl | rfl <;> exact ⟨_, rfl, by decide, by decide, by decide⟩

theorem num_or (V c : Int) (k : Nat) (hk : k < 4) (hc0 : 0 ≤ c) (hc1 : c < 256) (hV0 : 0 ≤ V) (hV1 : V < 256 ^ k) :
    bits .or .i64 V (wrap64 (wrap64 c * 2 ^ (8 * k))) = V + c * 256 ^ k := by
  obtain ⟨p, h1, h2, h3, h4⟩ := pow_cases k hk
  have hcp0 : 0 ≤ c * p := Int.mul_nonneg hc0 (by omega)
  have hcp1 : c * p ≤ 256 * 16777216 := Int.mul_le_mul (by omega) h4 (by omega) (by omega)
  have e1 : wrap64 c = c := IntWalk.wrap64_in _ ⟨by omega, by omega⟩
  have e2 : wrap64 (c * p) = c * p := IntWalk.wrap64_in _ ⟨by omega, by omega⟩
  have hm : c * p % 2 ^ (8 * k) = 0 := by rw [h1]; exact Int.mul_emod_left c p
  rw [e1, h1, e2, h2]
  have hcomm : bits .or .i64 V (c * p) = bits .or .i64 (c * p) V := by simp only [bits, BitVec.or_comm]
  rw [hcomm, bits_join .i64 63 (by decide) wraps_i64 (8 * k) (c * p) V hcp0 hm (by omega) hV0 (by rw [h1]; rw [h2] at hV1; exact hV1) (by rw [h2] at hV1; omega), Int.add_comm]

theorem num_step (ys : List Int) (k : Nat) (hk : k < ys.length) (hy : ys.length ≤ 4) (hB : Byts ys) :
    bits .or .i64 (leV (ys.take k)) (wrap64 (wrap64 (ys.getD k 0) * 2 ^ (8 * k))) = leV (ys.take (k + 1)) := by
  have hb := leV_bd (ys.take k) (fun x hx => hB x (List.mem_of_mem_take hx))
  have hl : (ys.take k).length = k := by simp; omega
  have hg : ys.getD k 0 = ys[k] := by simp [List.getD_eq_getElem?_getD, hk]
  have hc := hB ys[k] (List.getElem_mem hk)
  rw [hl] at hb
  rw [hg, num_or _ _ k (by omega) hc.1 hc.2 hb.1 hb.2, List.take_succ_eq_append_getElem hk, leV_snoc, hl]

/-- What a reading of a number left behind. -/
def NumPost (T : TypeId) (w : World) (br c : Nat) (xs : List Int) (e0 n : Int) (e : Ending) (w' : World) : Prop :=
  e = .returned (.int .i64 (numV n xs e0)) ∧ RdIs T w' br c (numX n xs e0) (numE n xs e0) ∧ w.grownBy w' (some br)

set_option maxHeartbeats 400000 in
theorem number_good (br c : Nat) (v : Value) (xs : List Int) (n : Nat) (w : World) (hr : w.heap[br]? = some (.cells #[v, .int .i64 0] 60 (0, 0))) (hv : Bts w v xs) (hc : ∀ k, v.ownBlock = some k → k = c) (hne : c ≠ br)
    (hB : Byts xs) (hs : n = 1 ∨ n = 2 ∨ n = 4) (hn : n ≤ xs.length) :
    Calls Tryd.prog 22 #[.pointer (some ⟨br, 0, none⟩), .int .i64 n] w fun e w' => e = .returned (.int .i64 (leV (xs.take n))) ∧ RdIs 60 w' br c (xs.drop n) 0 ∧ w.grownBy w' (some br) := by
  have hsz : sizeB n = true := by simp [sizeB]; omega
  have h0 := two_cell0 hr
  have h1 := two_cell1 hr
  have hlen : (xs.take n).length = n := by simp; omega
  have HL := Lib.hid hlen
  clear hlen
  go_enter Tryd.func22, Tryd.ntmps22
  go_wp2_with (first | (go_at_call 37; refine (stopped_any _ _ _ _ hr).mono ?_; rintro e w' ⟨rfl, rfl⟩) | (go_at_call 38; refine (isSize_any _ _).mono ?_; rintro e w' ⟨rfl, rfl⟩) | (go_at_call 39; refine (take_long br c v xs n _ hr hv hc hne hn (by omega)).mono ?_; rintro e w1 ⟨t, rfl, ht, hct, hR, hgr⟩; obtain ⟨b, off, cap, rfl, hcell⟩ := ht.pos HL.out (by omega)))
  have hBy : Byts (xs.take n) := fun x hx => hB x (List.mem_of_mem_take hx)
  have HB := Lib.hid hBy
  have HR := Lib.hid hR
  clear hBy hR hct
  go_loop [5, 20] (fun v i => ∃ k : Nat, k ≤ n ∧ i = .int .i64 k ∧ v = .int .i64 (leV ((xs.take n).take k))) (fun _ i => n - (intOf i).toNat)
  case atStart => exact ⟨0, Nat.zero_le _, rfl, rfl⟩
  case round =>
    obtain ⟨k, hk, rfl, rfl⟩ := hrel
    by_cases hlt : k < n
    · have hce := hcell k hlt
      obtain ⟨c, hcd⟩ : ∃ c, c = (xs.take n).getD k 0 := ⟨_, rfl⟩
      rw [← hcd] at hce
      obtain ⟨V, hV⟩ : ∃ V, V = leV ((xs.take n).take k) := ⟨_, rfl⟩
      rw [← hV]
      have HV := Lib.hid hV
      have HC := Lib.hid hcd
      clear hV hcd hcell
      go_wp2
      go_round
      case rel =>
        refine ⟨k + 1, by omega, by go_num, ?_⟩
        have hl := HL.out
        have := num_step (xs.take n) k (by omega) (by omega) HB.out
        rw [HV.out, HC.out, this]
      case measure => simp [intOf]; omega
    · have hkn : k = n := by omega
      subst hkn
      go_wp2
      go_ret
      exact ⟨ret_int (by rw [List.take_of_length_le (Nat.le_of_eq HL.out)]), HR.out, hgr⟩

set_option maxHeartbeats 400000 in
theorem number_nil (n : Int) (w : World) :
    Calls Tryd.prog 22 #[.pointer none, .int .i64 n] w fun e w' => e = .returned (.int .i64 0) ∧ w = w' := by
  go_enter Tryd.func22, Tryd.ntmps22
  go_wp2_with (go_at_call 37; refine (stopped_nil _).mono ?_; rintro e w' ⟨rfl, rfl⟩)
  go_ret
  exact ⟨rfl, rfl⟩

set_option maxHeartbeats 400000 in
/-- A number is read, of whatever reader. -/
theorem number_any (br c : Nat) (xs : List Int) (e0 n : Int) (w : World) (hR : RdIs 60 w br c xs e0) (hB : Byts xs) :
    Calls Tryd.prog 22 #[.pointer (some ⟨br, 0, none⟩), .int .i64 n] w (NumPost 60 w br c xs e0 n) := by
  obtain ⟨v, hr, hv, hc, hne⟩ := hR
  by_cases he : e0 = 0
  · subst he
    by_cases hs : sizeB n = true
    · have hs' : n = 1 ∨ n = 2 ∨ n = 4 := by simpa [sizeB] using hs
      obtain ⟨m, rfl⟩ : ∃ m : Nat, n = (m : Int) := ⟨n.toNat, by omega⟩
      by_cases hn : m ≤ xs.length
      · refine (number_good br c v xs m w hr hv hc hne hB (by omega) hn).mono fun e w' h => ?_
        have hn' : (m : Int) ≤ (xs.length : Int) := by omega
        simpa [NumPost, numV, numX, numE, hs, hn'] using h
      · have h0 := two_cell0 hr
        have h1 := two_cell1 hr
        have hg := grown_set w ⟨br, 1, none⟩ (.int .i64 2)
        have hset := two_set1 (u := .int .i64 2) hr
        have hn' : ¬ (m : Int) ≤ (xs.length : Int) := by omega
        have HP := Lib.hid (And.intro hg hset)
        clear hg hset
        go_enter Tryd.func22, Tryd.ntmps22
        go_wp2_with (first | (go_at_call 37; refine (stopped_any _ _ _ _ hr).mono ?_; rintro e w' ⟨rfl, rfl⟩) | (go_at_call 38; refine (isSize_any _ _).mono ?_; rintro e w' ⟨rfl, rfl⟩) | (go_at_call 39; refine (take_short br v xs m _ hr hv (by omega) (by omega)).mono ?_; rintro e w1 ⟨rfl, rfl⟩))
        go_loop [5, 20] (fun v i => i = .int .i64 0 ∧ v = .int .i64 0) (fun _ i => 0)
        case atStart => exact ⟨rfl, rfl⟩
        case round =>
          obtain ⟨rfl, rfl⟩ := hrel
          go_wp2
          go_ret
          obtain ⟨hg, hset⟩ := HP.out
          obtain ⟨q1, q2, q3⟩ := num_short hs hn
          refine ⟨ret_int q1.symm, ⟨v, ?_, ?_, hc, hne⟩, hg⟩
          · rw [q3]; exact hset
          · rw [q2]
            exact hv.kept hg (fun k hk e => hne (by rw [← hc k hk]; simpa using e))
    · have hs' : sizeB n = false := by simpa using hs
      have h0 := two_cell0 hr
      have h1 := two_cell1 hr
      have hf := two_free (o := 1) hr
      have hg := grown_set w ⟨br, 1, none⟩ (.int .i64 1)
      have hset := two_set1 (u := .int .i64 1) hr
      have HP := Lib.hid (And.intro hg hset)
      clear hg hset
      go_enter Tryd.func22, Tryd.ntmps22
      go_wp2_with (first | (go_at_call 37; refine (stopped_any _ _ _ _ hr).mono ?_; rintro e w' ⟨rfl, rfl⟩) | (go_at_call 38; refine (isSize_any _ _).mono ?_; rintro e w' ⟨rfl, rfl⟩))
      go_ret
      obtain ⟨hg, hset⟩ := HP.out
      refine ⟨ret_int (by simp [numV, hs']), ⟨v, ?_, ?_, hc, hne⟩, hg⟩
      · simpa [numE, hs'] using hset
      · have : numX n xs 0 = xs := by simp [numX, hs']
        rw [this]
        exact hv.kept hg (fun k hk e => hne (by rw [← hc k hk]; simpa using e))
  · have h0 := two_cell0 hr
    have h1 := two_cell1 hr
    have hne0 : (e0 != 0) = true := by simpa using he
    go_enter Tryd.func22, Tryd.ntmps22
    go_wp2_with (first | (go_at_call 37; refine (stopped_any _ _ _ _ hr).mono ?_; rintro e w' ⟨rfl, rfl⟩))
    go_ret
    exact ⟨ret_int (by simp [numV, he]), ⟨v, by simpa [numE, he] using hr, by simpa [numX, he] using hv, hc, hne⟩, World.grownBy.refl _ _⟩

end Go.Proofs.YtjlecncamfdcfaaDoor
