/-
  The law SumTurns: the walk.
-/
import Derived.Test.YtbcacigabahjlaaDoorSC
namespace Go.Proofs.YtbcacigabahjlaaDoor
open Go.RowKit

/-- The bytes, some of four turned. -/
structure Turned (xs : List Int) (n k : Nat) (d : Nat → Nat) (ys : List Int) : Prop where
  len : ys.length = xs.length
  same : ∀ j, j < xs.length → (j < n ∨ n + k ≤ j) → ys.getD j 0 = xs.getD j 0
  turn : ∀ i, i < k → ys.getD (n + i) 0 = (((xs.getD (n + i) 0).toNat ^^^ d i : Nat) : Int)
theorem Turned.zero (xs : List Int) (n : Nat) (d : Nat → Nat) : Turned xs n 0 d xs := ⟨rfl, fun _ _ _ => rfl, fun i hi => by omega⟩
theorem getD_set {ys : List Int} {i j : Nat} {v : Int} (hi : i < ys.length) : (ys.set i v).getD j 0 = if j = i then v else ys.getD j 0 := by
  rw [List.getD_eq_getElem?_getD, List.getD_eq_getElem?_getD, List.getElem?_set]
  by_cases h : i = j
  · subst h; simp [hi]
  · have h2 : ¬ j = i := fun e => h e.symm
    simp [h, h2]
theorem Turned.next {xs ys : List Int} {n k : Nat} {d : Nat → Nat} (h : Turned xs n k d ys) (hk : n + k < xs.length) {v : Int} (hv : v = (((xs.getD (n + k) 0).toNat ^^^ d k : Nat) : Int)) : Turned xs n (k + 1) d (ys.set (n + k) v) := by
  have hl := h.len
  refine ⟨by simpa using hl, fun j hj hjn => ?_, fun i hi => ?_⟩
  · rw [getD_set (by omega), if_neg (by omega)]
    exact h.same j hj (by omega)
  · rw [getD_set (by omega)]
    by_cases e : i = k
    · subst e; rw [if_pos rfl]; exact hv
    · rw [if_neg (by omega)]; exact h.turn i (by omega)
theorem Turned.bytes {xs ys : List Int} {n : Nat} {d : Nat → Nat} (h : Turned xs n 4 d ys) (hB : ∀ x ∈ xs, 0 ≤ x ∧ x < 256) (hd : ∀ i, i < 4 → d i < 256) (hn : n + 4 ≤ xs.length) : ∀ x ∈ ys, 0 ≤ x ∧ x < 256 := by
  intro x hx
  obtain ⟨j, hj, rfl⟩ := List.mem_iff_getElem.1 hx
  have hl := h.len
  have e : ys[j] = ys.getD j 0 := by rw [List.getD_eq_getElem?_getD, List.getElem?_eq_getElem hj]; rfl
  rw [e]
  by_cases hc : j < n ∨ n + 4 ≤ j
  · rw [h.same j (by omega) hc]
    obtain ⟨v, hv, hv2⟩ := getD_byte hB (show j < xs.length by omega)
    rw [hv]; omega
  · obtain ⟨i, rfl⟩ : ∃ i, j = n + i := ⟨j - n, by omega⟩
    rw [h.turn i (by omega)]
    obtain ⟨v, hv, hv2⟩ := getD_byte hB (show n + i < xs.length by omega)
    have : (xs.getD (n + i) 0).toNat ^^^ d i < 256 := Nat.xor_lt_two_pow (n := 8) (by rw [hv]; exact hv2) (hd i (by omega))
    omega

/-- The bytes of a number. -/
def dig (y i : Nat) : Nat := y / 256 ^ i % 256
theorem dig_some {y : Nat} (hy : y < 4294967296) (h0 : y ≠ 0) : ¬ (dig y 0 = 0 ∧ dig y 1 = 0 ∧ dig y 2 = 0 ∧ dig y 3 = 0) := by
  simp only [dig, Nat.reducePow]
  omega

theorem map_set8 (zs : List Int) (j : Nat) (v : Int) : (zs.map (Value.int .u8)).set j (.int .u8 v) = (zs.set j v).map (Value.int .u8) := by rw [List.map_set]

theorem owns_shape {w : World} {B : Nat} {v : Value} {zs : List Int} (h : w.ownsRow B 5 1 v zs.length (zs.map (Value.int .u8))) (h0 : 0 < zs.length) :
    ∃ g cap, v = .slice (some ⟨g, 0, none⟩) zs.length cap ∧ B ≤ g ∧ g < w.heap.size := by
  obtain ⟨g, cap, rfl⟩ := Joins.ownsRow_form h h0
  exact ⟨g, cap, rfl, h.lt g rfl⟩

theorem owns_bts {w : World} {B g cap n : Nat} {zs : List Int} (hn : n = zs.length) (h : w.ownsRow B 5 1 (.slice (some ⟨g, 0, none⟩) n cap) n (zs.map (Value.int .u8))) : Bts w (.slice (some ⟨g, 0, none⟩) n cap) zs := by
  subst hn
  refine .inr ⟨g, 0, cap, rfl, ?_, fun i hi => ?_⟩
  · rcases h.2 with ⟨h', _⟩ | ⟨g', cap', cur, h', _, _, hnc, _⟩
    · simp at h'
    · simp only [Value.slice.injEq] at h'
      obtain ⟨_, _, rfl⟩ := h'
      exact hnc
  · rw [Nat.zero_add, h.cellAt i (by omega), List.getElem?_map, List.getElem?_eq_getElem hi, List.getD_eq_getElem?_getD, List.getElem?_eq_getElem hi]
    rfl

set_option maxHeartbeats 1000000 in
theorem sumTurns_good (v : Value) (xs : List Int) (at' y : Nat) (w : World) (hb : Bts w v xs) (hB : ∀ x ∈ xs, 0 ≤ x ∧ x < 256) (hlt : ∀ k, v.ownBlock = some k → k < w.heap.size) (h4 : 4 ≤ xs.length) (hm : xs.length ≤ 2000)
    (ha : at' < 65536) (hy : y < 4294967296) (hy0 : y ≠ 0) :
    Calls Tryd.prog 5 #[v, .int .u16 (at' : Int), .int .u32 (y : Int)] w fun e w' => e = .returned (.bool true) ∧ Below w.heap.size w w' := by
  obtain ⟨i0, hi, hz0, hz1, hz2⟩ := info_parts Tryd.infoU8
  have hn4 : at' % (xs.length - 3) + 4 ≤ xs.length := by have := Nat.mod_lt at' (show xs.length - 3 > 0 by omega); omega
  obtain ⟨n, hn⟩ : ∃ n, at' % (xs.length - 3) = n := ⟨_, rfl⟩
  have hrem : (at' : Int).tmod ((xs.length : Int) - 3) = (n : Int) := by
    rw [Int.tmod_eq_emod_of_nonneg (by omega), show (xs.length : Int) - 3 = ((xs.length - 3 : Nat) : Int) by omega, ← hn]
    exact (Int.natCast_emod _ _).symm
  rw [hn] at hn4
  have O1 := fun w' hbb => sumOf_any v xs w' (hb.below2 (B := w.heap.size) hbb hlt) hB (by omega)
  obtain ⟨ao, cap, b, off, rfl, hc⟩ := hb.shape
  obtain ⟨rfl, hc0⟩ := hc 0 (by omega)
  have hbw : b < w.heap.size := hlt b rfl
  have hcs := cells_of (fun i hi => (hc i hi).2)
  have HB := Lib.hid hB
  have HCS := Lib.hid hcs
  have HY0 := Lib.hid hy0
  have hl1 : ¬ (xs.length : Int) < 4 := by omega
  have hl2 : ¬ (2000 : Int) < xs.length := by omega
  have hyz : ((y : Int) == 0) = false := by simp; omega
  clear hB hb hlt hc hc0 hn hcs hy0
  go_enter Tryd.func5, Tryd.ntmps5
  go_wp2_with (first
    | (go_at_call 6; refine (fixed2_any _).mono ?_; rintro e w1 ⟨rfl, hb1⟩; have hown := World.ownsRow_made (base := w1.heap.size) (e := 5) (size := 1) w1 #[] 0 (Nat.le_refl _) (Nat.zero_le _) rfl)
    | (at_builtin; go_loud (refine wpList_append_own _ rfl _ _ 22 rfl w1.heap.size 5 i0 (.int .u8 0) 1 1 Tryd.underlying22 hi hz0 hz1 hz2 rfl (by decide) _ _ _ rfl hown ⟨b, off, none⟩ xs.length cap (xs.map (Value.int .u8)) rfl (by simp) ?c1 ?c2 ?c3 ?c4 ?c5 ?_)))
  case c1 =>
    intro j u hj
    have := HCS.out j u hj
    rw [addr_add] at this ⊢
    rw [World.cell?_alloc_old _ _ _ (by have := hb1.size; simp; omega), hb1.cell hbw]
    exact this
  case c2 => exact ints_oneCell _ _
  case c3 => unfold maxLen; omega
  case c4 => omega
  case c5 => simp
  · intro v' w2 hown' hgrow _
    obtain ⟨g, cap2, rfl, hg1, hg2⟩ : ∃ g cap2, v' = .slice (some ⟨g, 0, none⟩) xs.length cap2 ∧ w1.heap.size ≤ g ∧ g < w2.heap.size := by
      obtain ⟨g, cap2, rfl⟩ := Joins.ownsRow_form hown' (by omega)
      exact ⟨g, cap2, rfl, hown'.lt g rfl⟩
    have hs1 := hb1.size
    have hb2 : Below w.heap.size w w2 := (hb1.alloc hb1.size (.cells #[] 5)).grown hgrow (by simp; omega) (fun k hk => by simp [Value.ownBlock] at hk; omega)
    clear hown hgrow hi hz0 hz1 hz2 i0
    go_wp2
    go_loopw [33] (fun i wr => ∃ k : Nat, k ≤ 4 ∧ i = .int .i64 k ∧ ∃ ys, Turned xs n k (dig y) ys ∧ wr.ownsRow w1.heap.size 5 1 (.slice (some ⟨g, 0, none⟩) xs.length cap2) xs.length (ys.map (Value.int .u8)) ∧ Below w.heap.size w wr) (fun i _ => 4 - (intOf i).toNat)
    case atStart => exact ⟨0, by omega, rfl, xs, Turned.zero xs n _, hown', hb2⟩
    case round =>
      obtain ⟨k, hk, rfl, ys, hT, hO, hbk⟩ := hrel
      by_cases hlt : k < 4
      · obtain ⟨x, hx, hx8⟩ := getD_byte HB.out (show n + k < xs.length by omega)
        have hyx : ys.getD (n + k) 0 = (x : Int) := by rw [hT.same _ (by omega) (.inr (by omega)), hx]
        have hcell : wr.cell? ⟨g, n + k, none⟩ = some (.int .u8 (x : Int)) := by
          rw [hO.cellAt (n + k) (by omega), List.getElem?_map, List.getElem?_eq_getElem (by have := hT.len; omega)]
          rw [List.getD_eq_getElem?_getD, List.getElem?_eq_getElem (by have := hT.len; omega)] at hyx
          simp only [Option.getD_some] at hyx
          rw [hyx]; rfl
        have hfr := hO.frozenAt (n + k)
        obtain ⟨z, hz⟩ : ∃ z : Nat, x ^^^ dig y k = z := ⟨_, rfl⟩
        obtain ⟨hO2, hgr2⟩ := hO.stored (n + k) (.int .u8 (z : Int))
        rw [map_set8] at hO2
        have hT2 := hT.next (show n + k < xs.length by omega) (v := (z : Int)) (by rw [hx, ← hz]; rfl)
        have hbk2 := hbk.grown hgr2 hbk.size (fun k hk => by cases hk; omega)
        have HX := Lib.hid (And.intro hT2 (And.intro hO2 hbk2))
        have hdl : dig y k < 256 := by unfold dig; omega
        have hxor : bits .xor .u8 (x : Int) ((dig y k : Nat) : Int) = (z : Int) := by rw [← hz]; exact u8_xor_nat x (dig y k) hx8 hdl
        clear hT2 hO2 hbk2 hgr2 hyx hx hz hT hO hbk
        have h4 : k = 0 ∨ k = 1 ∨ k = 2 ∨ k = 3 := by omega
        rcases h4 with rfl | rfl | rfl | rfl
        · rw [Nat.add_zero] at hcell hfr
          simp only [dig, Nat.reducePow, Nat.div_one, Int.natCast_emod, Int.natCast_ediv, Int.cast_ofNat_Int] at hxor
          go_wp2
          go_roundw
          case rel => exact ⟨1, by omega, by go_num, _, HX.out.1, HX.out.2.1, HX.out.2.2⟩
          case measure => simp [intOf]
        · simp only [dig, Nat.reducePow, Nat.div_one, Int.natCast_emod, Int.natCast_ediv, Int.cast_ofNat_Int] at hxor
          go_wp2
          go_roundw
          case rel => exact ⟨2, by omega, by go_num, _, HX.out.1, HX.out.2.1, HX.out.2.2⟩
          case measure => simp [intOf]
        · simp only [dig, Nat.reducePow, Nat.div_one, Int.natCast_emod, Int.natCast_ediv, Int.cast_ofNat_Int] at hxor
          go_wp2
          go_roundw
          case rel => exact ⟨3, by omega, by go_num, _, HX.out.1, HX.out.2.1, HX.out.2.2⟩
          case measure => simp [intOf]
        · rw [show dig y 3 = y / 16777216 by simp only [dig, Nat.reducePow]; omega] at hxor
          simp only [Int.natCast_ediv, Int.cast_ofNat_Int] at hxor
          go_wp2
          go_roundw
          case rel => exact ⟨4, by omega, by go_num, _, HX.out.1, HX.out.2.1, HX.out.2.2⟩
          case measure => simp [intOf]
      · obtain rfl : k = 4 := by omega
        have hd8 : ∀ i, i < 4 → dig y i < 256 := fun i _ => by unfold dig; omega
        have hC := hT.bytes HB.out hd8 hn4
        have hne := crcOf_turns hT.len hn4 HB.out hC hT.same hT.turn hd8 (dig_some hy HY0.out)
        have O2 := sumOf_any _ ys wr (owns_bts hT.len.symm hO) hC (by have := hT.len; omega)
        have O3 := O1 _ hbk
        generalize crcOf ys = p at *
        generalize crcOf xs = q at *
        have hpq : ((p : Int) != (q : Int)) = true := by simp; omega
        clear hT hC hO O1 HB HY0 hne hd8
        go_wp2_with (first
          | (go_at_call 7; refine O2.mono ?_; rintro e w' ⟨rfl, rfl⟩)
          | (go_at_call 7; refine O3.mono ?_; rintro e w' ⟨rfl, rfl⟩))
        go_ret
        exact ⟨rfl, hbk⟩

theorem sumTurns_any (v : Value) (xs : List Int) (at' y : Nat) (w : World) (hb : Bts w v xs) (hB : ∀ x ∈ xs, 0 ≤ x ∧ x < 256) (hlt : ∀ k, v.ownBlock = some k → k < w.heap.size) (hm : xs.length ≤ 9223372036854775807)
    (ha : at' < 65536) (hy : y < 4294967296) :
    Calls Tryd.prog 5 #[v, .int .u16 (at' : Int), .int .u32 (y : Int)] w fun e w' => e = .returned (.bool true) ∧ Below w.heap.size w w' := by
  by_cases h : 4 ≤ xs.length ∧ xs.length ≤ 2000 ∧ y ≠ 0
  · exact sumTurns_good v xs at' y w hb hB hlt h.1 h.2.1 ha hy h.2.2
  · obtain ⟨ao, cap, b, off, rfl, hc⟩ := hb.shape
    clear hb hB hlt hc
    have hcase : (xs.length : Int) < 4 ∨ (¬ (xs.length : Int) < 4 ∧ (2000 : Int) < xs.length) ∨ (¬ (xs.length : Int) < 4 ∧ ¬ (2000 : Int) < xs.length ∧ y = 0) := by omega
    clear h
    rcases hcase with h1 | ⟨h1, h2⟩ | ⟨h1, h2, rfl⟩
    all_goals
      go_enter Tryd.func5, Tryd.ntmps5
      go_wp2_with (go_at_call 6; refine (fixed2_any _).mono ?_; rintro e w1 ⟨rfl, hb1⟩)
      go_ret
      exact ⟨rfl, hb1⟩

end Go.Proofs.YtbcacigabahjlaaDoor
