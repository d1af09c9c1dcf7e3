/-
  Texts put together: ScJ ScK SpA.
-/
import Derived.Test.YtdaifepjmkmpjaaDoorM04
import Derived.Test.YtdaifepjmkmpjaaDoorShelf
/-
  Layer 25's reference: Value.
-/
namespace Go.Proofs.YtdaifepjmkmpjaaDoor
set_option linter.unusedVariables false
set_option linter.unusedSimpArgs false
set_option linter.unusedVariables false
set_option linter.unusedSimpArgs false
set_option maxRecDepth 100000
open Go.RowKit

/-- Digits' value; a sign counts for nothing. -/
def decS (l : List UInt8) : Nat := l.foldl (fun n c => if c = 45 then n else n * 10 + (c.toNat - 48)) 0
theorem decS_snoc (l : List UInt8) (c : UInt8) : decS (l ++ [c]) = if c = 45 then decS l else decS l * 10 + (c.toNat - 48) := by simp [decS, List.foldl_append]
theorem decS_digs : ∀ (l : List UInt8), (∀ c ∈ l, 48 ≤ c.toNat ∧ c.toNat ≤ 57) → decS l = decL l := by
  intro l h
  unfold decS decL
  suffices hs : ∀ (l : List UInt8) (a : Nat), (∀ c ∈ l, 48 ≤ c.toNat ∧ c.toNat ≤ 57) → l.foldl (fun n c => if c = 45 then n else n * 10 + (c.toNat - 48)) a = l.foldl (fun n c => n * 10 + (c.toNat - 48)) a from hs l 0 h
  intro l
  induction l with
  | nil => intro a _; rfl
  | cons c l ih =>
    intro a h
    have hc : c ≠ 45 := by rintro rfl; have := h 45 (by simp); simp at this
    rw [List.foldl_cons, List.foldl_cons, if_neg hc]
    exact ih _ fun d hd => h d (by simp [hd])
theorem decS_neg (l : List UInt8) : decS (45 :: l) = decS l := by unfold decS; rw [List.foldl_cons, if_pos rfl]
theorem decS_num (v : Int) : decS (numL v) = v.natAbs := by
  unfold numL
  split
  · rw [decS_neg, decS_digs _ (digL_dig _), decL_digL]
  · rw [decS_digs _ (digL_dig _), decL_digL]; omega
theorem decS_mono (l r : List UInt8) : decS l ≤ decS (l ++ r) := by
  induction r generalizing l with
  | nil => simp
  | cons c r ih =>
    have h1 := ih (l ++ [c])
    rw [List.append_assoc, List.singleton_append] at h1
    refine Nat.le_trans ?_ h1
    rw [decS_snoc]
    split
    · exact Nat.le_refl _
    · omega
theorem decS_take (l : List UInt8) (k : Nat) : decS (l.take k) ≤ decS l := by
  have := decS_mono (l.take k) (l.drop k)
  rwa [List.take_append_drop] at this
theorem numL_len20 {v : Int} (h : i64B v) : (numL v).length ≤ 20 := by
  have h1 := h.1
  have h2 := h.2
  unfold numL
  split
  · have := digL_len 19 v.natAbs (by omega) (by omega); simp; omega
  · have := digL_len 19 v.toNat (by omega) (by omega); omega
theorem numL_at (v : Int) (k : Nat) (h : k < (numL v).length) : ((numL v)[k] = 45 ∧ k = 0 ∧ v < 0) ∨ (48 ≤ ((numL v)[k]).toNat ∧ ((numL v)[k]).toNat ≤ 57) := by
  by_cases hv : v < 0
  · have e : numL v = 45 :: digL v.natAbs := by unfold numL; rw [if_pos hv]
    match k with
    | 0 => left; refine ⟨?_, rfl, hv⟩; simp only [e]; rfl
    | k + 1 => right; simp only [e, List.getElem_cons_succ]; exact digL_dig _ _ (List.getElem_mem _)
  · have e : numL v = digL v.toNat := by unfold numL; rw [if_neg hv]
    right; simp only [e]; exact digL_dig _ _ (List.getElem_mem _)
/-- What is told of a word: its number, or that it is none. -/
def ValA (s : List UInt8) (w : World) (e : Ending) (w' : World) : Prop := ∃ (n : Int) (ok : Bool), e = .returned (.tuple #[.int .i64 n, .bool ok]) ∧ i64B n ∧ (ok = true → s = numL n) ∧ (∀ m, ValIs s m → ok = true ∧ n = m) ∧ w.grownBy w' none
theorem valA_no {s : List UInt8} {w w' : World} (h : ∀ m, ¬ ValIs s m) (hg : w.grownBy w' none) : ValA s w (.returned (.tuple #[.int .i64 0, .bool false])) w' :=
  ⟨0, false, rfl, by unfold i64B; omega, by simp, fun m hm => absurd hm (h m), hg⟩
/-- Behind k of the bytes. -/
def AccV (s : ByteArray) (k : Nat) (n : Int) : Prop := i64B n ∧ ∀ m, ValIs s.data.toList m → n = -((decS (s.data.toList.take k) : Nat) : Int)
theorem accV_at {s : ByteArray} {m : Int} (h : ValIs s.data.toList m) (k : Nat) (hk : k < s.size) : (s[k] = 45 ∧ k = 0 ∧ m < 0) ∨ (48 ≤ (s[k]).toNat ∧ (s[k]).toNat ≤ 57) := by
  have h1 := h.2
  have h2 := numL_at m k (by rw [← h1]; simpa using hk)
  have h3 : (numL m)[k]'(by rw [← h1]; simpa using hk) = s[k] := by
    simp only [← h1]; rfl
  rw [h3] at h2
  exact h2
theorem accV_dec {s : ByteArray} {m : Int} (h : ValIs s.data.toList m) (k : Nat) : decS (s.data.toList.take k) ≤ m.natAbs := by
  have := decS_take s.data.toList k
  rw [h.2, decS_num] at this
  rw [h.2]; exact this
theorem w64_B (x : Int) : i64B (wrap64 x) := by unfold i64B wrap64; omega
theorem w64_of {x : Int} (h : i64B x) : wrap64 x = x := by unfold i64B at h; unfold wrap64; omega
theorem accV_dig {s : ByteArray} {k c : Nat} {n : Int} (h : AccV s k n) (hk : k < s.size) (hc : (s[k]).toNat = c) (h0 : 48 ≤ c) (h1 : c ≤ 57) : AccV s (k + 1) (wrap64 (wrap64 (n * 10) - ((c : Int) - 48))) := by
  refine ⟨w64_B _, fun m hm => ?_⟩
  have hn := h.2 m hm
  have e := take_snoc25 s k hk
  have hd : decS (s.data.toList.take (k + 1)) = decS (s.data.toList.take k) * 10 + (c - 48) := by
    rw [e, decS_snoc, if_neg (by rintro h; rw [h] at hc; simp at hc; omega), hc]
  have hb := accV_dec hm (k + 1)
  have hm1 := hm.1.1
  have hm2 := hm.1.2
  rw [hd] at hb ⊢
  rw [hn]
  generalize decS (s.data.toList.take k) = q at *
  rw [w64_of (x := -(q : Int) * 10) (by unfold i64B; omega), w64_of (by unfold i64B; omega)]
  omega
theorem accV_sign {s : ByteArray} {n : Int} (h : AccV s 0 n) (hk : 0 < s.size) (hc : (s[0]).toNat = 45) : AccV s 1 n := by
  refine ⟨h.1, fun m hm => ?_⟩
  rw [h.2 m hm, take_snoc25 s 0 hk, decS_snoc, if_pos (UInt8.toNat_inj.1 hc)]
theorem value_end {s : ByteArray} {n z : Int} (h : AccV s s.size n) (hz : ∀ m, ValIs s.data.toList m → z = m) (hb : i64B z) : i64B z ∧ ∀ m, ValIs s.data.toList m → z = m := ⟨hb, hz⟩
theorem value_ret {s : ByteArray} {z : Int} {w w' : World} {l : List UInt8} (h : i64B z ∧ ∀ m, ValIs s.data.toList m → z = m) (hg : w.grownBy w' none) (hl : l = s.toList) : ValA s.data.toList w (.returned (.tuple #[.int .i64 z, .bool ((bs (numL z)).toList == l)])) w' := by
  rw [hl, bs_toList, ByteArray.toList_eq]
  refine ⟨z, _, rfl, h.1, fun h' => (beq_iff_eq.1 h').symm, fun m hm => ?_, hg⟩
  have := h.2 m hm
  subst this
  exact ⟨beq_iff_eq.2 hm.2.symm, rfl⟩
theorem value_ret0 {s : ByteArray} {z : Int} {w w' : World} (h : i64B z ∧ ∀ m, ValIs s.data.toList m → z = m) (hg : w.grownBy w' none) (hl : s.toList = []) : ValA s.data.toList w (.returned (.tuple #[.int .i64 z, .bool (bs (numL z)).toList.isEmpty])) w' := by
  have := value_ret (l := []) h hg hl.symm
  rwa [show ((bs (numL z)).toList == []) = (bs (numL z)).toList.isEmpty by cases (bs (numL z)).toList <;> rfl] at this
set_option maxHeartbeats 1600000 in
theorem value25 (w : World) (s : ByteArray) (hs : s.size ≤ 10000) :
    Calls Tryd.prog 30 #[.string s] w fun e w' => ValA s.data.toList w e w' := by
  go_enter Tryd.func30, Tryd.ntmps30
  go_wp2
  go_loopw [4, 5] (fun acc i wr => ∃ (k : Nat) (n : Int), k ≤ s.size ∧ i = .int .i64 k ∧ acc = .int .i64 n ∧ AccV s k n ∧ w.grownBy wr none) (fun _ i _ => s.size - (intOf i).toNat)
  case atStart => exact ⟨0, 0, Nat.zero_le _, rfl, rfl, ⟨by unfold i64B; omega, fun m _ => by simp [decS]⟩, Ext.refl w⟩
  case round =>
    obtain ⟨k, n, hk, rfl, rfl, hA, hE⟩ := hrel
    have HA := Lib.hid hA
    have HE := Lib.hid hE
    clear hA hE
    by_cases hlt : k < s.size
    · obtain ⟨c, hc⟩ : ∃ c : Nat, (s[k]'hlt).toNat = c := ⟨_, rfl⟩
      have HC := Lib.hid hc
      have hc1 : c < 256 := by rw [← hc]; exact UInt8.toNat_lt _
      have HAT := Lib.hid (fun m hm => accV_at (s := s) (m := m) hm k hlt)
      by_cases h45 : c = 45
      · by_cases hk0 : k = 0
        · subst hk0
          have b1 : ((c : Int) == 45) = true := by rw [beq_iff_eq]; omega
          have HS := Lib.hid (accV_sign HA.out hlt (hc.trans h45))
          clear h45 HA
          go_wp2
          go_roundw
          case rel => exact ⟨1, n, by omega, rfl, rfl, HS.out, HE.out⟩
          case measure => simp [intOf]; omega
        · have b1 : ((c : Int) == 45) = true := by rw [beq_iff_eq]; omega
          have b2 : ((k : Int) == 0) = false := by rw [beq_eq_false_iff_ne]; omega
          have b3 : decide ((c : Int) < 48) = true := by rw [decide_eq_true_eq]; omega
          have HN := Lib.hid (show ∀ m, ¬ ValIs s.data.toList m from fun m hm => by
            rcases accV_at hm k hlt with ⟨_, h, _⟩ | ⟨h, _⟩ <;> omega)
          clear h45 hk0
          go_wp2
          go_ret2
          exact valA_no HN.out HE.out
      · have b1 : ((c : Int) == 45) = false := by rw [beq_eq_false_iff_ne]; omega
        have HN := Lib.hid (show ¬ (48 ≤ c ∧ c ≤ 57 ∧ s.size ≤ 20) → ∀ m, ¬ ValIs s.data.toList m from fun hn m hm => by
            have h20 := numL_len20 hm.1
            have hl : (numL m).length = s.size := by rw [← hm.2]; simp
            rcases accV_at hm k hlt with ⟨h, _, _⟩ | ⟨h, h'⟩
            · rw [h] at hc; exact h45 (by rw [← hc]; rfl)
            · omega)
        by_cases h48 : c < 48
        · have b3 : decide ((c : Int) < 48) = true := by rw [decide_eq_true_eq]; omega
          clear h45
          go_wp2
          go_ret2
          exact valA_no (HN.out (by omega)) HE.out
        · have b3 : decide ((c : Int) < 48) = false := by rw [decide_eq_false_iff_not]; omega
          by_cases h57 : 57 < c
          · have b4 : decide ((57 : Int) < (c : Int)) = true := by rw [decide_eq_true_eq]; omega
            clear h45
            go_wp2
            go_ret2
            exact valA_no (HN.out (by omega)) HE.out
          · have b4 : decide ((57 : Int) < (c : Int)) = false := by rw [decide_eq_false_iff_not]; omega
            by_cases h20 : 20 < s.size
            · have b5 : decide ((20 : Int) < (s.size : Int)) = true := by rw [decide_eq_true_eq]; omega
              clear h45
              go_wp2
              go_ret2
              exact valA_no (HN.out (by omega)) HE.out
            · have b5 : decide ((20 : Int) < (s.size : Int)) = false := by rw [decide_eq_false_iff_not]; omega
              have HD := Lib.hid (accV_dig HA.out hlt hc (by omega) (by omega))
              have u8 : IntKind.u8.wrap ((c : Int) - 48) = (c : Int) - 48 := by rw [IntWalk.u8_in _ (by omega)]
              have h48' : (48 : Int) ≤ (c : Int) := by omega
              have h57' : (c : Int) ≤ 57 := by omega
              clear h45 HA
              go_wp2
              go_roundw
              case rel => exact ⟨k + 1, _, by omega, by go_num, rfl, HD.out, HE.out⟩
              case measure => simp [intOf]; omega
    · obtain rfl : k = s.size := by omega
      by_cases h0 : s.size = 0
      · have hl : s.toList = [] := by rw [ByteArray.toList_eq]; exact List.length_eq_zero_iff.1 (by simpa using h0)
        have HF := Lib.hid (value_end HA.out (z := n) (fun m hm => absurd (congrArg List.length hm.2) (by
          have := numL_ne m; have : 0 < (numL m).length := List.length_pos_iff.2 this
          rw [show s.data.toList.length = s.size by simp]; omega)) HA.out.1)
        have HN := Lib.hid HA.out.1
        have HL := Lib.hid hl
        clear hlt HA
        go_wp2_with (go_at_call 37; refine (number25 _ n HN.out).mono ?_; rintro e w1 ⟨rfl, hg1⟩; have HG := Lib.hid (ext_trans HE.out hg1); clear hg1)
        go_ret2
        exact value_ret0 HF.out HG.out HL.out
      · have hl : s.toList ≠ [] := by rw [ByteArray.toList_eq]; intro h; exact h0 (by have := congrArg List.length h; simpa using this)
        have hl2 : s.toList.isEmpty = false := by simpa using hl
        have hpos : 0 < s.size := by omega
        obtain ⟨c, hc⟩ : ∃ c : Nat, (s[0]'hpos).toNat = c := ⟨_, rfl⟩
        have HC := Lib.hid hc
        by_cases h45 : c = 45
        · have b1 : ((c : Int) == 45) = true := by rw [beq_iff_eq]; omega
          have HF := Lib.hid (value_end HA.out (z := n) (fun m hm => by
            rcases accV_at hm 0 hpos with ⟨_, _, h⟩ | ⟨h, _⟩
            · have hd : decS (s.data.toList.take s.size) = m.natAbs := by rw [List.take_of_length_le (by simp), hm.2, decS_num]
              rw [HA.out.2 m hm, hd]; omega
            · omega) HA.out.1)
          have HN := Lib.hid HA.out.1
          clear hlt HA h45 h0 hl
          go_wp2_with (go_at_call 37; refine (number25 _ n HN.out).mono ?_; rintro e w1 ⟨rfl, hg1⟩; have HG := Lib.hid (ext_trans HE.out hg1); clear hg1)
          go_ret2
          exact value_ret HF.out HG.out rfl
        · have b1 : ((c : Int) == 45) = false := by rw [beq_eq_false_iff_ne]; omega
          obtain ⟨z, hz⟩ : ∃ z, wrap64 (-n) = z := ⟨_, rfl⟩
          have HF := Lib.hid (value_end HA.out (z := z) (fun m hm => by
            rcases accV_at hm 0 hpos with ⟨h, _, _⟩ | ⟨h, _⟩
            · rw [h] at hc; exact absurd (by rw [← hc]; rfl) h45
            · have hd : decS (s.data.toList.take s.size) = m.natAbs := by rw [List.take_of_length_le (by simp), hm.2, decS_num]
              have hm0 : ¬ m < 0 := by
                intro hm0
                have h2 := hm.2
                unfold numL at h2
                rw [if_pos hm0] at h2
                have h3 : s[0]'hpos = 45 := by
                  have h4 : s.data.toList[0]? = some 45 := by rw [h2]; rfl
                  rw [List.getElem?_eq_getElem (by simpa using hpos)] at h4
                  exact Option.some.inj h4
                rw [h3] at hc; exact h45 (by rw [← hc]; rfl)
              rw [← hz, HA.out.2 m hm, hd, w64_of (by have := hm.1; unfold i64B at this ⊢; omega)]; omega) (hz ▸ w64_B _))
          have HN := Lib.hid (show i64B z from hz ▸ w64_B _)
          clear hlt HA h45 h0 hl
          go_wp2_with (go_at_call 37; refine (number25 _ z HN.out).mono ?_; rintro e w1 ⟨rfl, hg1⟩; have HG := Lib.hid (ext_trans HE.out hg1); clear hg1)
          go_ret2
          exact value_ret HF.out HG.out rfl

end Go.Proofs.YtdaifepjmkmpjaaDoor

/-
  Layer 25's reference: Bytes.
-/
namespace Go.Proofs.YtdaifepjmkmpjaaDoor
set_option linter.unusedVariables false
set_option linter.unusedSimpArgs false
set_option linter.unusedVariables false
set_option linter.unusedSimpArgs false
set_option maxRecDepth 100000
open Go.RowKit

/-! ### bytes of the call's own -/
abbrev OwnB (B : Nat) (w : World) (v : Value) (xs : List Int) : Prop := w.ownsRow B 5 1 v xs.length (xs.map (Value.int .u8))
theorem OwnB.bts {w : World} {B : Nat} {v : Value} {xs : List Int} (h : OwnB B w v xs) : Bts w v xs := by
  obtain ⟨h1, h2⟩ := h
  rcases h2 with ⟨h2, h3⟩ | ⟨g, cap, cur, rfl, hg, hh, hc, _, hs, ht⟩
  · exact .inl ⟨h2, List.eq_nil_of_length_eq_zero h3⟩
  · refine .inr ⟨g, 0, cap, rfl, hc, fun i hi => ?_⟩
    have : (⟨g, 0 + i, none⟩ : Addr) = ⟨g, i, none⟩ := by rw [Nat.zero_add]
    rw [this, cell_of_row w g i cur 5 (0, 0) hh]
    have hi' : (cur.toList.take (xs.length * 1))[i]? = (xs.map (Value.int .u8))[i]? := by rw [ht]
    rw [List.getElem?_take, if_pos (by omega)] at hi'
    rw [Array.getElem?_toList] at hi'
    rw [hi']
    simp [List.getD_eq_getElem?_getD, hi]
theorem append_b25 {w : World} {ops : Array Oper} {rest : List Oper} {o : Oper} {a : Act} {Q : Exit → Act → World → Prop} (hgd : o.guard = none) (s x : Operand)
    (ho : o.op = .call { callee := .builtin .append, args := #[s, x], argTypes := #[74, 74] }) (base : Nat)
    (v : Value) (zs : List Int) (hs : a.eval s = v) (hown : OwnB base w v zs) (src : Value) (xs : List Int) (hx : a.eval x = src) (hb : Bts w src xs)
    (h63 : zs.length + xs.length ≤ 16777216) (hbase : base ≤ w.heap.size)
    (h : ∀ v' w', OwnB base w' v' (zs ++ xs) → w.grownBy w' v.ownBlock → wpList Tryd.prog ops Q rest (a.put o.dst v') w') : wpList Tryd.prog ops Q (o :: rest) a w := by
  obtain ⟨i0, hi, hz0, hz1, hz2⟩ := info_parts Tryd.infoU8
  rcases hb with ⟨rfl, rfl⟩ | ⟨b, off, cap, rfl, _, hc⟩
  · refine wpList_append_own_none hgd s x 74 ho base 5 i0 1 Tryd.underlying74 hi v _ _ hs hown hx ?_
    refine h v w ?_ ⟨rfl, rfl, rfl, Nat.le_refl _, fun _ _ _ => rfl⟩
    simpa using hown
  · refine wpList_append_own w hgd s x 74 ho base 5 i0 (.int .u8 0) 1 1 Tryd.underlying74 hi hz0 hz1 hz2 rfl (by decide) v _ _ hs hown ⟨b, off, none⟩ xs.length cap (xs.map (Value.int .u8)) hx (by simp) (cells_of hc) (ints_oneCell _ _) (by unfold maxLen; omega) (by omega) hbase ?_
    intro v' w' h1 h2 _
    refine h v' w' ?_ h2
    unfold OwnB
    rw [List.length_append, List.map_append]
    exact h1
theorem own_le25 {w : World} {B : Nat} {e : TypeId} {sz : Nat} {v : Value} {n : Nat} {xs : List Value} (h : w.ownsRow B e sz v n xs) : ∀ p, v.ownBlock = some p → B ≤ p := fun p hp => (h.lt p hp).1
theorem own_nil25 (w : World) (B : Nat) (e : TypeId) : w.ownsRow B e 1 (.slice none 0 0) 0 [] := ⟨rfl, .inl ⟨rfl, rfl⟩⟩

/-! ### a text's word -/
/-- A small letter's place among the sixteen. -/
def idxH (c : Nat) : Nat := if 48 ≤ c ∧ c ≤ 57 then c - 48 else if 97 ≤ c ∧ c ≤ 102 then c - 87 else 16
def stepH (v c : Nat) : Nat := if idxH c < 16 then v * 16 + idxH c else v
theorem idxH_hexB : ∀ n, n < 16 → idxH (hexB n).toNat = n := by decide
theorem hexS_idx (d : Nat) (hd : d < 16) (c : Nat) : (hexS[d]'hd).toNat = c ↔ d = idxH c := by
  have h1 : (hexS[d]'hd).toNat = (hexB d).toNat := (by decide : ∀ d (h : d < 16), (hexS[d]'h).toNat = (hexB d).toNat) d hd
  rw [h1]
  constructor
  · rintro rfl; exact (idxH_hexB d hd).symm
  · intro h
    unfold idxH at h
    unfold hexB
    split at h
    · rw [UInt8.toNat_ofNat', if_pos (by omega)]; omega
    · split at h
      · rw [UInt8.toNat_ofNat', if_neg (by omega)]; omega
      · omega
/-- Behind d of the sixteen. -/
def stepD (v c d : Nat) : Nat := if idxH c < d then v * 16 + idxH c else v
theorem stepD_16 (v c : Nat) : stepD v c 16 = stepH v c := rfl
theorem stepD_hit {v c d : Nat} (h : d = idxH c) : stepD v c (d + 1) = stepD v c d * 16 + d := by
  unfold stepD
  rw [if_pos (by omega), if_neg (by omega), ← h]
theorem stepD_not {v c d : Nat} (h : d ≠ idxH c) : stepD v c (d + 1) = stepD v c d := by
  unfold stepD
  by_cases e : idxH c < d
  · rw [if_pos (by omega), if_pos e]
  · rw [if_neg (by omega), if_neg e]
theorem stepD_bd (v c d : Nat) (hd : d ≤ 16) : stepD v c d ≤ v * 16 + 15 := by unfold stepD; split <;> omega
theorem stepH_bd (v c : Nat) : stepH v c ≤ v * 16 + 15 := stepD_bd v c 16 (Nat.le_refl _)
/-- The j-th byte that two letters tell. -/
def byteH (l : List UInt8) (j : Nat) : Nat := stepH (stepH 0 (l.getD (2 * j) 0).toNat) (l.getD (2 * j + 1) 0).toNat
def unhL (l : List UInt8) (n : Nat) : List Int := (List.range n).map fun j => (byteH l j : Int)
theorem unhL_succ (l : List UInt8) (n : Nat) : unhL l (n + 1) = unhL l n ++ [(byteH l n : Int)] := by unfold unhL; rw [List.range_succ]; simp
theorem byteH_bd (l : List UInt8) (j : Nat) : byteH l j ≤ 255 := by
  unfold byteH
  have h1 := stepH_bd 0 (l.getD (2 * j) 0).toNat
  have h2 := stepH_bd (stepH 0 (l.getD (2 * j) 0).toNat) (l.getD (2 * j + 1) 0).toNat
  omega
theorem hexL_at : ∀ (d : List UInt8) (j : Nat), j < d.length → (hexL d).getD (2 * j) 0 = hexB ((d.getD j 0).toNat / 16) ∧ (hexL d).getD (2 * j + 1) 0 = hexB ((d.getD j 0).toNat % 16)
  | [], j, h => by simp at h
  | c :: d, 0, _ => by rw [hexL_cons]; exact ⟨rfl, rfl⟩
  | c :: d, j + 1, h => by
    have := hexL_at d j (by simpa using h)
    rw [hexL_cons, show 2 * (j + 1) = 2 * j + 1 + 1 by omega, show 2 * j + 1 + 1 + 1 = 2 * j + 1 + 1 + 1 from rfl]
    simpa [List.getD_eq_getElem?_getD] using this
theorem unhL_hexL (d : List UInt8) : (unhL (hexL d) d.length).map (fun n => UInt8.ofNat n.toNat) = d := by
  apply List.ext_getElem?
  intro j
  by_cases h : j < d.length
  · have h1 := hexL_at d j h
    have hb := (d.getD j 0).toNat_lt
    have e : byteH (hexL d) j = (d.getD j 0).toNat := by
      unfold byteH
      rw [h1.1, h1.2]
      unfold stepH
      rw [idxH_hexB _ (by omega), idxH_hexB _ (by omega), if_pos (by omega), if_pos (by omega)]
      omega
    simp only [unhL, List.getElem?_map, List.getElem?_range h, Option.map_some, e, Int.toNat_natCast, UInt8.ofNat_toNat]
    rw [List.getD_eq_getElem?_getD, List.getElem?_eq_getElem h]; rfl
  · rw [List.getElem?_eq_none (by simp [unhL]; omega), List.getElem?_eq_none (by omega)]
/-- What is told of a text's word. -/
def BytA (s : List UInt8) (w : World) (e : Ending) (w' : World) : Prop := ∃ (d : List UInt8) (ok : Bool), e = .returned (.tuple #[.string (bs d), .bool ok]) ∧ d.length ≤ s.length ∧ (ok = true → s = txtL d) ∧ (∀ c, s = txtL c → ok = true ∧ d = c) ∧ w.grownBy w' none
theorem bytA_dash (w : World) : BytA [45] w (.returned (.tuple #[.string ⟨#[]⟩, .bool true])) w :=
  ⟨[], true, rfl, by simp, fun _ => rfl, fun c hc => ⟨rfl, txtL_inj (hc ▸ rfl : txtL [] = txtL c)⟩, Ext.refl w⟩
theorem str_nums (xs : List Int) : strOfNums xs = bs (xs.map fun n => UInt8.ofNat n.toNat) := rfl
end Go.Proofs.YtdaifepjmkmpjaaDoor

/-
  Package script: what is laid when a call begins; the library's Cut, SplitN, Atoi, Itoa in this text's words; numberOf.
-/
namespace Go.Proofs.YtdaifepjmkmpjaaDoor
set_option linter.unusedVariables false
set_option linter.unusedSimpArgs false
set_option linter.unusedVariables false
set_option linter.unusedSimpArgs false
set_option maxRecDepth 100000
open Go.RowKit

/-! ### what is laid -/
structure Raw25 (w : World) : Prop where
  m : ∃ m, w.cell? ⟨0, 0, none⟩ = some (.int .i64 m)
  t : Lib.TabIs Tryd.prog w "internal/strconv.uint64pow10" .u64 Lib.pow10Tab
  s : ∃ tp p, w.var? Tryd.prog "strconv.ErrSyntax" = some #[.iface tp p]
  r : ∃ tp p, w.var? Tryd.prog "strconv.ErrRange" = some #[.iface tp p]
/-- It is laid, and stays so whatever a call does at its own blocks. -/
def Lib25 (w : World) : Prop := ∀ w', Below w.heap.size w w' → Raw25 w'
theorem below_ext25 {w w' : World} (h : w.grownBy w' none) : Below w.heap.size w w' := ⟨h.os, h.tape, h.output, h.size, fun k hk => h.block k hk (by simp)⟩
theorem ext_below25 {w w' : World} (h : Below w.heap.size w w') : w.grownBy w' none := ⟨h.os, h.tape, h.output, h.size, fun k hk _ => h.block k hk⟩
theorem Lib25.ext {w w' : World} (h : Lib25 w) (hg : w.grownBy w' none) : Lib25 w' := fun w2 h2 => h w2 ((below_ext25 hg).trans (h2.mono hg.size))
theorem Lib25.here {w : World} (h : Lib25 w) : Raw25 w := h w (Below.refl _ _)
theorem Lib25.tab {w : World} (h : Lib25 w) : Lib.TabBelow Tryd.prog w.heap.size w "internal/strconv.uint64pow10" .u64 Lib.pow10Tab := fun w' hb => (h w' hb).t

/-! ### Cut -/
def cutL (c : UInt8) : List UInt8 → List UInt8 × List UInt8 × Bool
  | [] => ([], [], false)
  | x :: l => if x = c then ([], l, true) else (x :: (cutL c l).1, (cutL c l).2.1, (cutL c l).2.2)
theorem lib_cut (c : UInt8) : ∀ l : List UInt8, Lib.cut l [c] = cutL c l ∧ (0 ≤ Lib.index l [c] ↔ (cutL c l).2.2 = true)
  | [] => by simp [Lib.cut, Lib.index, cutL]
  | x :: l => by
    obtain ⟨h1, h2⟩ := lib_cut c l
    have hge := Lib.index_ge l [c]
    have hp : ([c] : List UInt8).isPrefixOf (x :: l) = (c == x) := by simp [List.isPrefixOf]
    have hi : Lib.index (x :: l) [c] = if (c == x) = true then 0 else if Lib.index l [c] == -1 then -1 else Lib.index l [c] + 1 := by
      rw [Lib.index, hp]
    unfold Lib.cut at h1 ⊢
    rw [hi]
    simp only [cutL]
    by_cases e : x = c
    · subst e
      simp
    · have e2 : (c == x) = false := by rw [beq_eq_false_iff_ne]; exact fun h => e h.symm
      rw [if_neg e, e2]
      simp only [Bool.false_eq_true, if_false]
      by_cases hm : Lib.index l [c] = -1
      · rw [if_neg (by omega)] at h1
        have h3 : (cutL c l).2.2 = false := by rw [← Bool.not_eq_true, ← h2]; omega
        rw [← h1]
        simp [hm]
      · rw [if_pos (by omega)] at h1
        have h3 : (cutL c l).2.2 = true := by rw [← h2]; omega
        have h4 : (Lib.index l [c] == -1) = false := by rw [beq_eq_false_iff_ne]; exact hm
        rw [h4, ← h1]
        have h5 : (Lib.index l [c] + 1).toNat = (Lib.index l [c]).toNat + 1 := by omega
        have h6 : (Lib.index l [c] + 1).toNat + [c].length = (Lib.index l [c]).toNat + [c].length + 1 := by omega
        simp only [Bool.false_eq_true, if_false]
        rw [if_pos (by omega), h6, h5]
        simp; omega
theorem cutL_eq {c : UInt8} : ∀ {l : List UInt8}, (cutL c l).2.2 = true → l = (cutL c l).1 ++ c :: (cutL c l).2.1
  | [], h => by cases h
  | x :: l, h => by
    simp only [cutL] at h ⊢
    by_cases e : x = c
    · rw [if_pos e, e]; rfl
    · rw [if_neg e] at h ⊢
      show x :: l = x :: ((cutL c l).1 ++ _)
      rw [← cutL_eq h]
theorem cutL_no {c : UInt8} : ∀ {l : List UInt8}, (cutL c l).2.2 = false → (cutL c l).1 = l ∧ (cutL c l).2.1 = []
  | [], _ => ⟨rfl, rfl⟩
  | x :: l, h => by
    simp only [cutL] at h ⊢
    by_cases e : x = c
    · rw [if_pos e] at h; cases h
    · rw [if_neg e] at h ⊢
      have := cutL_no h
      exact ⟨by show x :: _ = _; rw [this.1], this.2⟩
theorem cutL_mem {c : UInt8} : ∀ {l : List UInt8}, ∀ x ∈ (cutL c l).1, x ≠ c
  | [], x, h => by simp [cutL] at h
  | y :: l, x, h => by
    simp only [cutL] at h
    by_cases e : y = c
    · rw [if_pos e] at h; simp at h
    · rw [if_neg e] at h
      rcases List.mem_cons.1 h with rfl | h
      · exact e
      · exact cutL_mem x h
theorem cutL_app {c : UInt8} : ∀ {n r : List UInt8}, (∀ x ∈ n, x ≠ c) → cutL c (n ++ c :: r) = (n, r, true)
  | [], r, _ => by simp [cutL]
  | x :: n, r, h => by
    have hx : x ≠ c := h x (by simp)
    show cutL c (x :: (n ++ c :: r)) = _
    simp only [cutL]
    rw [if_neg hx, cutL_app (fun y hy => h y (by simp [hy]))]
theorem cutL_plain {c : UInt8} : ∀ {n : List UInt8}, (∀ x ∈ n, x ≠ c) → cutL c n = (n, [], false)
  | [], _ => rfl
  | x :: n, h => by
    simp only [cutL]
    rw [if_neg (h x (by simp)), cutL_plain (fun y hy => h y (by simp [hy]))]
theorem cutL_len (c : UInt8) (l : List UInt8) : (cutL c l).1.length ≤ l.length ∧ (cutL c l).2.1.length ≤ l.length ∧ ((cutL c l).2.2 = true → (cutL c l).2.1.length < l.length) := by
  cases h : (cutL c l).2.2
  · have := cutL_no h
    rw [this.1, this.2]; simp
  · have := congrArg List.length (cutL_eq h)
    simp at this
    omega
theorem spS_out (b : UInt8) (out : List (List UInt8)) : ∀ (r : List UInt8) (x : List UInt8), r.foldl (spS b) (out ++ [x]) = out ++ r.foldl (spS b) [x] := by
  suffices h : ∀ (r : List UInt8) (L : List (List UInt8)), L ≠ [] → r.foldl (spS b) (out ++ L) = out ++ r.foldl (spS b) L from fun r x => h r [x] (by simp)
  intro r
  induction r with
  | nil => intro L _; rfl
  | cons c r ih =>
    intro L hL
    have e : spS b (out ++ L) c = out ++ spS b L c := by
      unfold spS
      split
      · simp
      · obtain ⟨M, z, rfl⟩ : ∃ M z, L = M ++ [z] := ⟨L.dropLast, L.getLast hL, (List.dropLast_concat_getLast hL).symm⟩
        simp [← List.append_assoc]
    have hn : spS b L c ≠ [] := by unfold spS; split <;> simp
    rw [List.foldl_cons, List.foldl_cons, e, ih _ hn]
/-- The words, one by one. -/
theorem split_cut (c : UInt8) (l : List UInt8) : splitL c l = if (cutL c l).2.2 then (cutL c l).1 :: splitL c (cutL c l).2.1 else [(cutL c l).1] := by
  cases h : (cutL c l).2.2
  · have h1 := cutL_no h
    have h2 : ∀ x ∈ l, x ≠ c := fun x hx => cutL_mem x (by rw [h1.1]; exact hx)
    rw [h1.1]
    have := spS_word c l [] [] h2
    simpa [splitL] using this
  · have h1 := cutL_eq h
    have h2 : ∀ x ∈ (cutL c l).1, x ≠ c := fun x hx => cutL_mem x hx
    generalize (cutL c l).1 = n at h1 h2 ⊢
    generalize (cutL c l).2.1 = r at h1 ⊢
    have e := spS_word c n [] [] h2
    simp only [List.nil_append] at e
    have e2 : spS c [n] c = [n] ++ [[]] := by unfold spS; rw [if_pos rfl]
    rw [h1]
    unfold splitL
    rw [List.foldl_append, e, List.foldl_cons, e2, spS_out]
    simp
theorem cut_c (l : List UInt8) (c : UInt8) (sep : ByteArray) (hsep : sep = bs [c]) (w : World) (h : Lib25 w) (hl : l.length ≤ 1000000) :
    Calls Tryd.prog 32 #[.string (bs l), .string sep] w fun e w' => e = .returned (.tuple #[.string (bs (cutL c l).1), .string (bs (cutL c l).2.1), .bool (cutL c l).2.2]) ∧ w.grownBy w' none := by
  subst hsep
  obtain ⟨m, hm⟩ := h.here.m
  refine (Tryd.strings_Cut (bs l) (bs [c]) m w (by rw [bs_size]; omega) hm).mono ?_
  rintro e w' ⟨rfl, n, rfl⟩
  refine ⟨?_, gb_drewN w n⟩
  rw [show (bs l).data.toList = l from rfl, show (bs [c]).data.toList = [c] from rfl, (lib_cut c l).1]
  rfl

/-! ### SplitN -/
def splN (c : UInt8) : Nat → List UInt8 → List (List UInt8)
  | 0, l => [l]
  | k + 1, l => if (cutL c l).2.2 then (cutL c l).1 :: splN c k (cutL c l).2.1 else [l]
theorem lib_splitB (c : UInt8) : ∀ (k : Nat) (l : List UInt8), Lib.splitB (bs [c]) 0 k (bs l) = (splN c k l).map bs
  | 0, l => rfl
  | k + 1, l => by
    have hc := (lib_cut c l).1
    have hix := (lib_cut c l).2
    rcases Lib.indexB_cases (bs l) (bs [c]) with h | ⟨i, h, _⟩
    · rw [Lib.splitB_miss _ _ _ _ h]
      have h' : Lib.index l [c] = -1 := h
      have h3 : (cutL c l).2.2 = false := by rw [← Bool.not_eq_true, ← hix]; omega
      simp [splN, h3]
    · rw [Lib.splitB_hit _ _ _ _ i h]
      have h' : Lib.index l [c] = i := h
      have h3 : (cutL c l).2.2 = true := by rw [← hix]; omega
      have h4 := Lib.cutB_hit (bs l) (bs [c]) i h
      rw [show (bs l).data.toList = l from rfl, show (bs [c]).data.toList = [c] from rfl, hc] at h4
      rw [Nat.add_zero, ← h4.1, ← h4.2.1]
      show bs _ :: Lib.splitB (bs [c]) 0 k (bs _) = _
      rw [lib_splitB c k]
      simp [splN, h3]
theorem splN_big (c : UInt8) : ∀ (k : Nat) (l : List UInt8), l.length ≤ k → splN c k l = splN c l.length l
  | 0, l, h => by rw [List.length_eq_zero_iff.1 (Nat.le_zero.1 h)]; rfl
  | k + 1, [], _ => by simp [splN, cutL]
  | k + 1, x :: l, h => by
    rw [List.length_cons]
    simp only [splN]
    cases hc : (cutL c (x :: l)).2.2
    · rfl
    · have h1 := (cutL_len c (x :: l)).2.2 hc
      simp at h1 h
      simp only [if_true]
      rw [splN_big c k _ (by omega), splN_big c l.length _ (by omega)]
theorem splN_min (c : UInt8) (k : Nat) (l : List UInt8) : splN c (min k l.length) l = splN c k l := by
  rcases Nat.le_total k l.length with h | h
  · rw [Nat.min_eq_left h]
  · rw [Nat.min_eq_right h, splN_big c k l h]
theorem splN_len (c : UInt8) : ∀ (k : Nat) (l : List UInt8), 1 ≤ (splN c k l).length ∧ (splN c k l).length ≤ k + 1
  | 0, l => by simp [splN]
  | k + 1, l => by
    simp only [splN]
    split
    · have := splN_len c k (cutL c l).2.1; simp; omega
    · simp
theorem splN_word (c : UInt8) : ∀ (k : Nat) (l : List UInt8), ∀ w ∈ splN c k l, w.length ≤ l.length
  | 0, l, w, h => by simp [splN] at h; subst h; exact Nat.le_refl _
  | k + 1, l, w, h => by
    simp only [splN] at h
    have := cutL_len c l
    split at h
    · rcases List.mem_cons.1 h with rfl | h
      · exact this.1
      · have := splN_word c k _ w h; omega
    · simp at h; subst h; exact Nat.le_refl _
/-- Words put together again. -/
def joinW (c : UInt8) : List (List UInt8) → List UInt8
  | [] => []
  | w :: ws => w ++ ws.flatMap fun v => c :: v
theorem splN_join (c : UInt8) : ∀ (k : Nat) (l : List UInt8), joinW c (splN c k l) = l
  | 0, l => by simp [splN, joinW]
  | k + 1, l => by
    simp only [splN]
    cases h : (cutL c l).2.2
    · simp [joinW]
    · simp only [if_true]
      have hr := splN_join c k (cutL c l).2.1
      have hn := (splN_len c k (cutL c l).2.1).1
      rw [cutL_eq h]
      have h2 : (cutL c ((cutL c l).1 ++ c :: (cutL c l).2.1)) = cutL c l := by rw [← cutL_eq h]
      rw [h2]
      generalize splN c k (cutL c l).2.1 = ws at hr hn
      cases ws with
      | nil => simp at hn
      | cons w ws =>
        rw [← hr]
        simp [joinW]
theorem splN_words (c : UInt8) : ∀ (ws : List (List UInt8)) (k : Nat), ws ≠ [] → ws.length ≤ k + 1 → (∀ w ∈ ws, ∀ x ∈ w, x ≠ c) → splN c k (joinW c ws) = ws
  | [], _, h, _, _ => absurd rfl h
  | [w], 0, _, _, _ => by simp [joinW, splN]
  | [w], k + 1, _, _, h => by
    have := cutL_plain (h w (by simp))
    simp [joinW, splN, this]
  | w :: v :: ws, 0, _, h, _ => by simp at h
  | w :: v :: ws, k + 1, _, hl, h => by
    have e : joinW c (w :: v :: ws) = w ++ c :: joinW c (v :: ws) := by simp [joinW]
    have hcut := cutL_app (r := joinW c (v :: ws)) (h w (by simp))
    simp only [splN]
    rw [e, hcut]
    simp only [if_true]
    rw [splN_words c (v :: ws) k (by simp) (by simp at hl ⊢; omega) (fun u hu => h u (by simp only [List.mem_cons] at hu ⊢; exact .inr hu))]
theorem cells_spl {w : World} {L : List (List UInt8)} {N : Nat} {T : TypeId} : TxR (w.alloc (.cells (Lib.cellsOf (L.map bs) N) T)) (some ⟨w.heap.size, 0, none⟩) (L.map bs) := fun i hi => by
  refine ⟨w.heap.size, 0, rfl, ?_⟩
  rw [List.length_map] at hi
  rw [cell_of_row _ w.heap.size (0 + i) _ T (0, 0) (heap_alloc_new w _), Nat.zero_add]
  unfold Lib.cellsOf
  rw [List.getElem?_toArray, List.getElem?_append_left (by simpa using hi)]
  simp [List.getD_eq_getElem?_getD, List.getElem?_eq_getElem hi]
theorem splitN_c (l : List UInt8) (c : UInt8) (sep : ByteArray) (hsep : sep = bs [c]) (n : Nat) (hn : 1 ≤ n) (hn2 : n ≤ 100) (w : World) (h : Lib25 w) (hl : l.length ≤ 1000000) :
    Calls Tryd.prog 38 #[.string (bs l), .string sep, .int .i64 (n : Int)] w fun e w' => ∃ cap, e = .returned (.slice (some ⟨w.heap.size, 0, none⟩) (splN c (n - 1) l).length cap) ∧ (splN c (n - 1) l).length ≤ cap ∧ cap ≤ 100 ∧ TxR w' (some ⟨w.heap.size, 0, none⟩) ((splN c (n - 1) l).map bs) ∧ w.grownBy w' none ∧ w.heap.size < w'.heap.size := by
  subst hsep
  obtain ⟨m, hm⟩ := h.here.m
  refine (Tryd.strings_SplitN (bs l) (bs [c]) n m w (by rw [bs_size]; omega) hm (by rw [bs_size]; simp) hn (by omega)).mono ?_
  rintro e w' ⟨rfl, rfl⟩
  have e1 : Lib.splitB (bs [c]) 0 (min n ((bs l).size + 1) - 1) (bs l) = (splN c (n - 1) l).map bs := by
    rw [bs_size, show min n (l.length + 1) - 1 = min (n - 1) l.length by omega, lib_splitB, splN_min]
  have e2 := splN_len c (n - 1) l
  have e3 : (splN c (n - 1) l).length ≤ l.length + 1 := by
    rw [← splN_min]
    have := splN_len c (min (n - 1) l.length) l
    omega
  rw [e1, List.length_map]
  refine ⟨_, rfl, by rw [bs_size]; omega, by omega, cells_spl, World.grownBy_alloc w _ none, by simp⟩

/-! ### numbers -/
theorem dec_dig (v : Nat) : Lib.decDigits v = digL v := by
  induction v using Nat.strongRecOn with
  | ind v ih =>
    rw [Lib.decDigits, digL]
    split
    · rfl
    · rw [ih (v / 10) (by omega)]
theorem itoa_num (n : Int) : Lib.itoa n = numL n := by
  unfold Lib.itoa numL
  rw [dec_dig, dec_dig]
theorem parse_app : ∀ (l r : List UInt8) (a : Nat), Lib.parseUint10 a (l ++ r) = match Lib.parseUint10 a l with
    | .ok u => Lib.parseUint10 u r
    | .syntax => .syntax
    | .range => .range
  | [], r, a => rfl
  | c :: l, r, a => by
    rw [List.cons_append]
    simp only [Lib.parseUint10]
    split
    · split
      · rfl
      · split
        · rfl
        · exact parse_app l r _
    · rfl
theorem parse_dig (v : Nat) (h : v < 18446744073709551616) : Lib.parseUint10 0 (digL v) = .ok v := by
  induction v using Nat.strongRecOn with
  | ind v ih =>
    rw [digL]
    split
    · rename_i h10
      have e : (UInt8.ofNat (48 + v)).toNat = 48 + v := by rw [UInt8.toNat_ofNat']; omega
      simp only [Lib.parseUint10, e]
      rw [if_pos (by omega), if_neg (by omega), if_neg (by omega)]
      congr 1; omega
    · rw [parse_app, ih (v / 10) (by omega) (by omega)]
      have e : (UInt8.ofNat (48 + v % 10)).toNat = 48 + v % 10 := by rw [UInt8.toNat_ofNat']; omega
      simp only [Lib.parseUint10, e]
      rw [if_pos (by omega), if_neg (by omega), if_neg (by omega)]
      congr 1; omega
theorem mag_dig (v : Nat) (h : v < 18446744073709551616) : Lib.parseMag (digL v) = .ok v := by
  unfold Lib.parseMag
  rw [if_neg (digL_ne v), parse_dig v h]
theorem atoi_num {n : Int} (h : i64B n) : Lib.atoiAll (numL n) = .ok n := by
  have h1 := h.1
  have h2 := h.2
  unfold numL
  split
  · rw [Lib.atoiAll_minus, mag_dig _ (by omega)]
    unfold Lib.signed
    simp only
    rw [if_neg (by omega)]
    congr 1; omega
  · obtain ⟨c, r, e, hc⟩ := digL_head n.toNat
    have hd := digL_dig n.toNat c (by rw [e]; simp)
    rw [e, Lib.atoiAll_plain c r (by omega) (by omega), ← e, mag_dig _ (by omega)]
    unfold Lib.signless
    simp only
    rw [if_neg (by omega)]
    congr 1; omega
theorem atoi_ok (l : List UInt8) (n : Int) (ha : Lib.atoiAll l = .ok n) (w : World) (hl : l.length ≤ 1000000) :
    Calls Tryd.prog 64 #[.string (bs l)] w fun e w' => e = .returned (.tuple #[.int .i64 n, .nilIface]) ∧ w.grownBy w' none := by
  refine (Tryd.strconv_Atoi_ok (bs l) (by rw [bs_size]; omega) n ha w).mono ?_
  rintro e w' ⟨rfl, hw⟩
  refine ⟨rfl, ?_⟩
  rcases hw with rfl | ⟨t, rfl⟩
  · exact Ext.refl _
  · exact ext_below25 (Lib.bytesWorld_below _ _ _)
theorem atoi_no (l : List UInt8) (ha : ∀ n, Lib.atoiAll l ≠ .ok n) (w : World) (h : Lib25 w) (hl : l.length ≤ 1000000) :
    Calls Tryd.prog 64 #[.string (bs l)] w fun e w' => ∃ n T p, e = .returned (.tuple #[.int .i64 n, .iface T p]) ∧ w.grownBy w' none := by
  cases hc : Lib.atoiAll l with
  | ok n => exact absurd hc (ha n)
  | «syntax» =>
    obtain ⟨tp, p, hv⟩ := h.here.s
    refine (Tryd.strconv_Atoi_syntax_var (bs l) (by rw [bs_size]; omega) hc tp p w hv).mono ?_
    rintro e w' ⟨N, rfl, -, -, hb⟩
    exact ⟨_, _, _, rfl, ext_below25 hb⟩
  | range =>
    obtain ⟨tp, p, hv⟩ := h.here.r
    refine (Tryd.strconv_Atoi_range_var (bs l) (by rw [bs_size]; omega) hc tp p w hv).mono ?_
    rintro e w' ⟨N, rfl, -, -, hb⟩
    exact ⟨_, _, _, rfl, ext_below25 hb⟩
theorem val_no {l : List UInt8} (h : ∀ n, Lib.atoiAll l ≠ .ok n) : valOf l = none := valOf_none fun n hn => h n (by rw [hn.2]; exact atoi_num hn.1)
theorem grow_ext25 (w : World) (k : Nat) (os : Array Obj) : w.grownBy (Sort.grow (w.drewN k) os) none := ext_below25 (by
  exact Lib.below_grow _ w (Nat.le_refl _) k os)
theorem itoa_c (n : Int) (hn : i64B n) (w : World) (h : Lib25 w) : Calls Tryd.prog 65 #[.int .i64 n] w fun e w' => e = .returned (.string (bs (numL n))) ∧ w.grownBy w' none := by
  refine (Tryd.strconv_Itoa n hn.1 hn.2 w h.here.t).mono ?_
  rintro e w' ⟨rfl, k, os, rfl⟩
  exact ⟨by rw [itoa_num]; rfl, grow_ext25 w k os⟩
theorem bs_eq (a b : List UInt8) : ((bs a).toList == (bs b).toList) = decide (a = b) := by
  rw [bs_toList, bs_toList, Bool.eq_iff_iff]; simp
/-- Which number a word tells. -/
def NumA (l : List UInt8) (w : World) (e : Ending) (w' : World) : Prop := ∃ n ok, e = .returned (.tuple #[.int .i64 n, .bool ok]) ∧ ((ok = true ∧ valOf l = some n) ∨ (ok = false ∧ valOf l = none)) ∧ w.grownBy w' none
theorem numA_no {l : List UInt8} {w w' : World} (h : valOf l = none) (hg : w.grownBy w' none) : NumA l w (.returned (.tuple #[.int .i64 0, .bool false])) w' := ⟨0, false, rfl, .inr ⟨rfl, h⟩, hg⟩
theorem numberOf_c (l : List UInt8) (w : World) (h : Lib25 w) (hl : l.length ≤ 1000000) :
    Calls Tryd.prog 54 #[.string (bs l)] w (NumA l w) := by
  have HL := Lib.hid (And.intro h hl)
  clear h hl
  by_cases hok : ∃ n, Lib.atoiAll l = .ok n
  · obtain ⟨n, ha⟩ := hok
    have hn := Lib.atoiAll_bounds ha
    have HA := Lib.hid (And.intro ha hn)
    have hq : ((bs (numL n)).toList == (bs l).toList) = decide (numL n = l) := bs_eq _ _
    obtain ⟨b, hb⟩ : ∃ b, decide (numL n = l) = b := ⟨_, rfl⟩
    rw [hb] at hq
    have HB := Lib.hid hb
    clear ha hn hb
    go_enter Tryd.func54, Tryd.ntmps54
    cases b
    · go_wp2_with (first
        | (go_at_call 65; refine (itoa_c n HA.out.2 _ (HL.out.1.ext HG1.out)).mono ?_; rintro e w2 ⟨rfl, hg2⟩; have HG2 := Lib.hid (ext_trans HG1.out hg2); clear hg2)
        | (go_at_call 64; refine (atoi_ok l n HA.out.1 _ HL.out.2).mono ?_; rintro e w1 ⟨rfl, hg1⟩; have HG1 := Lib.hid hg1; clear hg1))
      go_ret2
      refine numA_no (valOf_none fun m hm => ?_) HG2.out
      have h1 := atoi_num hm.1
      rw [← hm.2, HA.out.1] at h1
      injection h1 with h1
      have h2 := HB.out
      rw [decide_eq_false_iff_not] at h2
      exact h2 (by rw [h1, ← hm.2])
    · go_wp2_with (first
        | (go_at_call 65; refine (itoa_c n HA.out.2 _ (HL.out.1.ext HG1.out)).mono ?_; rintro e w2 ⟨rfl, hg2⟩; have HG2 := Lib.hid (ext_trans HG1.out hg2); clear hg2)
        | (go_at_call 64; refine (atoi_ok l n HA.out.1 _ HL.out.2).mono ?_; rintro e w1 ⟨rfl, hg1⟩; have HG1 := Lib.hid hg1; clear hg1))
      go_ret2
      exact ⟨n, true, rfl, .inl ⟨rfl, valOf_some ⟨HA.out.2, (of_decide_eq_true HB.out).symm⟩⟩, HG2.out⟩
  · have hno : ∀ n, Lib.atoiAll l ≠ .ok n := fun n hn => hok ⟨n, hn⟩
    have HN := Lib.hid hno
    clear hok hno
    go_enter Tryd.func54, Tryd.ntmps54
    go_wp2_with (first
      | (go_at_call 64; refine (atoi_no l HN.out _ HL.out.1 HL.out.2).mono ?_; rintro e w1 ⟨n, T, p, rfl, hg1⟩; have HG1 := Lib.hid hg1; clear hg1))
    go_ret2
    exact numA_no (val_no HN.out) HG1.out

end Go.Proofs.YtdaifepjmkmpjaaDoor
