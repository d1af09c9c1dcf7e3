/-
  word.Put: any number's bytes behind any others.
-/
import Derived.Test.YtjlecncamfdcfaaDoorWB
namespace Go.Proofs.YtjlecncamfdcfaaDoor
open Go.RowKit

def leB (v : Int) (n : Nat) : List Int := (List.range n).map fun k => v / 256 ^ k % 256
theorem leB_succ (v : Int) (n : Nat) : leB v (n + 1) = leB v n ++ [v / 256 ^ n % 256] := by simp [leB, List.range_succ]
theorem leB_len (v : Int) (n : Nat) : (leB v n).length = n := by simp [leB]
theorem p256 (k : Nat) : (0 : Int) < 256 ^ k := Int.pow_pos (by decide)
def putL (xs : List Int) (v n : Int) : List Int := if fitsB v n then xs ++ leB v n.toNat else xs

theorem Bts.le {w : World} {ao : Option Addr} {n cap : Nat} {xs : List Int} (h : Bts w (.slice ao n cap) xs) : n = xs.length ∧ xs.length ≤ cap := by
  rcases h with ⟨h1, h2⟩ | ⟨b, off, c, h1, h2, _⟩
  · simp at h1
    simp [h2, h1]
  · simp at h1
    exact ⟨h1.2.1, by omega⟩

def PutRel (w : World) (ao : Option Addr) (xs : List Int) (v : Int) (k : Nat) (o : Value) (wr : World) : Prop :=
  (k = 0 ∧ o = .slice ao xs.length xs.length ∧ wr = w) ∨
  (0 < k ∧ wr.ownsRow w.heap.size 5 1 o (xs.length + k) ((xs ++ leB v k).map (Value.int .u8)) ∧ w.grownBy wr none)

set_option maxHeartbeats 400000 in
theorem put_fits (ao : Option Addr) (cap : Nat) (xs : List Int) (v : Int) (n : Nat) (w : World) (hb : Bts w (.slice ao xs.length cap) xs) (hm : xs.length ≤ 140737488350000) (hf : fitsB v n = true) :
    Calls Tryd.prog 17 #[.slice ao xs.length cap, .int .i64 v, .int .i64 n] w (Made w.heap.size w (xs ++ leB v n)) := by
  have hv0 : 0 ≤ v ∧ v ≤ 9223372036854775807 := by simp [fitsB] at hf; omega
  have hn4 : n = 1 ∨ n = 2 ∨ n = 4 := by simp [fitsB] at hf; omega
  have hcap := hb.le.2
  obtain ⟨i0, hi, hz0, hz1, hz2⟩ := info_parts Tryd.infoU8
  have hadd : (if xs.length = 0 then ao else Option.map (fun x : Addr => x.add 0) ao) = ao := by
    split
    · rfl
    · cases ao <;> simp [Addr.add]
  go_enter Tryd.func17, Tryd.ntmps17
  go_wp2_with (go_at_call 31; refine (fits_any _ _ _ (by omega)).mono ?_; rintro e w' ⟨rfl, rfl⟩)
  go_loopw [1, 7, 21] (fun a o i wr => ∃ k : Nat, k ≤ n ∧ i = .int .i64 k ∧ a = .int .i64 (v / 256 ^ k) ∧ PutRel w ao xs v k o wr) (fun _ _ i _ => n - (intOf i).toNat)
  case atStart => exact ⟨0, Nat.zero_le _, rfl, by simp, .inl ⟨rfl, rfl, rfl⟩⟩
  case round =>
    obtain ⟨k, hk, rfl, rfl, hrel⟩ := hrel
    have hpos : 0 ≤ v / 256 ^ k := Int.ediv_nonneg hv0.1 (Int.le_of_lt (p256 k))
    by_cases hlt : k < n
    · rcases hrel with ⟨rfl, rfl, rfl⟩ | ⟨h0, hown, hgr⟩
      · go_wp2_with (at_builtin; refine wpList_append_grows _ rfl _ _ 25 rfl 5 i0 (.int .u8 0) 1 1 Tryd.underlying25 hi hz0 hz1 hz2 rfl (by decide) ao xs.length xs.length (xs.map (Value.int .u8)) rfl ?h1 ?h2 ?h3 ⟨wr.heap.size, 0, none⟩ 1 1 [.int .u8 (v % 256)] rfl rfl ?c1 ?c2 ?c3 ?c4 ?c5 ?_)
        case h1 => intro e; rw [e] at hb; have := hb.nil; simp [this]
        case h2 => simp
        case h3 => intro a ha j u hj; subst ha; exact cell_past (hb.cells j u hj) _
        case c1 => exact bytes_new _ _ _
        case c2 => intro u hu; simp at hu; subst hu; rfl
        case c3 => omega
        case c4 => unfold maxLen; omega
        case c5 => omega
        intro v' w1 hown1 hgr1
        go_wp2
        go_roundw
        case rel => exact ⟨1, by omega, by go_num, by simp, .inr ⟨by omega, by simpa [leB_succ, leB] using ownsRow_le hown1 (by simp), grown_trans (World.grownBy_alloc _ _ none) hgr1 (fun k hk => by cases hk)⟩⟩
        case measure => simp [intOf]; omega
      · go_wp2_with (at_builtin; refine wpList_append_own _ rfl _ _ 25 rfl w.heap.size 5 i0 (.int .u8 0) 1 1 Tryd.underlying25 hi hz0 hz1 hz2 rfl (by decide) _ _ _ rfl (hown.alloc _) ⟨wr.heap.size, 0, none⟩ 1 1 [.int .u8 (v / 256 ^ k % 256)] rfl rfl ?d1 ?d2 ?d3 ?d4 ?d5 ?_)
        case d1 => exact bytes_new _ _ _
        case d2 => intro u hu; simp at hu; subst hu; rfl
        case d3 => unfold maxLen; omega
        case d4 => omega
        case d5 => have := hgr.size; simp; omega
        intro v' w1 hown1 hgr1 _
        have e : v / 256 ^ k / 256 = v / 256 ^ (k + 1) := by rw [Int.ediv_ediv_of_nonneg (Int.le_of_lt (p256 k)), ← Int.pow_succ]
        have hlt' := hown.lt
        go_wp2
        go_roundw
        case rel =>
          refine ⟨k + 1, by omega, by go_num, ?_, .inr ⟨by omega, ?_, ?_⟩⟩
          · rw [← e]
          · simpa [leB_succ, Nat.add_assoc] using hown1
          · exact grown_trans (grown_trans hgr (World.grownBy_alloc _ _ none) (fun k hk => by cases hk)) hgr1 (fun k hk h => by have := hlt' k hk; omega)
        case measure => simp [intOf]; omega
    · have hkn : k = n := by omega
      subst hkn
      go_wp2
      go_ret
      rcases hrel with ⟨h0, _, _⟩ | ⟨h0, hown, hgr⟩
      · omega
      · exact ⟨_, rfl, by simpa [leB_len] using hown, hgr⟩

/-- Whatever is put: the bytes, and these behind; in new memory. -/
theorem put_any (v0 : Value) (xs : List Int) (v n : Int) (w : World) (hb : Bts w v0 xs) (hm : xs.length ≤ 140737488350000) (hv9 : v ≤ 9223372036854775807) :
    Calls Tryd.prog 17 #[v0, .int .i64 v, .int .i64 n] w (Made w.heap.size w (putL xs v n)) := by
  by_cases hf : fitsB v n = true
  · have hn : n = (n.toNat : Int) := by simp [fitsB] at hf; omega
    have hp : putL xs v n = xs ++ leB v n.toNat := by simp [putL, hf]
    rw [hp]
    rw [hn] at hf ⊢
    rcases hb with ⟨rfl, rfl⟩ | ⟨b, off, cap, rfl, h2, h3⟩
    · exact put_fits none 0 [] v n.toNat w (.inl ⟨rfl, rfl⟩) hm hf
    · exact put_fits (some ⟨b, off, none⟩) cap xs v n.toNat w (.inr ⟨b, off, cap, rfl, h2, h3⟩) hm hf
  · have hf' : fitsB v n = false := by simpa using hf
    have hp : putL xs v n = xs := by simp [putL, hf']
    rw [hp]
    rcases hb with ⟨rfl, rfl⟩ | ⟨b, off, cap, rfl, h2, h3⟩
    · go_enter Tryd.func17, Tryd.ntmps17
      go_wp2_with (first | (go_at_call 31; refine (fits_any _ _ _ (by omega)).mono ?_; rintro e w' ⟨rfl, rfl⟩) | (go_at_call 32; refine (clone_nil _).mono ?_; rintro e w' ⟨rfl, rfl⟩))
      go_ret
      exact ⟨_, rfl, World.ownsRow_nil _ _ _ _, World.grownBy.refl _ _⟩
    · go_enter Tryd.func17, Tryd.ntmps17
      go_wp2_with (first | (go_at_call 31; refine (fits_any _ _ _ (by omega)).mono ?_; rintro e w' ⟨rfl, rfl⟩) | (go_at_call 32; refine (clone_some b off cap xs _ h3 (by omega)).mono ?_; rintro e w1 ⟨v', rfl, hown, hgr⟩))
      go_ret
      exact ⟨_, rfl, hown, hgr⟩

end Go.Proofs.YtjlecncamfdcfaaDoor
