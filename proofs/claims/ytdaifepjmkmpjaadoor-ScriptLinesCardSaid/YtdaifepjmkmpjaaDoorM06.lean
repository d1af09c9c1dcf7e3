/-
  Texts put together: ScL ScO ScP.
-/
import Derived.Test.YtdaifepjmkmpjaaDoorM05
import Derived.Deep.Cut
import Derived.Test.YtdaifepjmkmpjaaDoorM04
import Derived.Maps.AppendAt
/-
  Layer 25's reference: Bytes, walked.
-/
namespace Go.Proofs.YtdaifepjmkmpjaaDoor
set_option linter.unusedVariables false
set_option linter.unusedSimpArgs false
set_option linter.unusedVariables false
set_option linter.unusedSimpArgs false
set_option maxRecDepth 100000
open Go.RowKit

/-- Behind q of the two letters. -/
def twoH (l : List UInt8) (j : Nat) : Nat → Nat
  | 0 => 0
  | 1 => stepH 0 (l.getD (2 * j) 0).toNat
  | _ => byteH l j
theorem twoH_succ (l : List UInt8) (j q : Nat) (h : q < 2) : twoH l j (q + 1) = stepH (twoH l j q) (l.getD (2 * j + q) 0).toNat := by
  match q, h with
  | 0, _ => rfl
  | 1, _ => rfl
theorem twoH_bd (l : List UInt8) (j q : Nat) (h : q < 2) : twoH l j q ≤ 15 := by
  match q, h with
  | 0, _ => simp [twoH]
  | 1, _ => exact stepH_bd 0 _
theorem getD_str (s : ByteArray) (k : Nat) (h : k < s.size) : s.data.toList.getD k 0 = s[k] := by
  rw [List.getD_eq_getElem?_getD, List.getElem?_eq_getElem (by simpa using h)]; rfl
theorem lit_bts1 (w : World) (n : Int) : Bts (w.alloc (.cells #[.int .u8 n] 5)) (.slice (some ⟨w.heap.size, 0, none⟩) 1 1) [n] := .inr ⟨w.heap.size, 0, 1, rfl, by simp, fun i hi => by
  obtain rfl : i = 0 := by simpa using hi
  simp⟩
theorem owns_shape25 {w : World} {B : Nat} {v : Value} {n : Nat} {xs : List Value} {T : TypeId} (h : w.ownsRow B T 1 v n xs) : ∃ ao cap, v = .slice ao n cap := by
  rcases h.2 with ⟨h2, h3⟩ | ⟨g, cap, cur, rfl, _⟩
  · subst h3; exact ⟨none, 0, h2⟩
  · exact ⟨_, _, rfl⟩
theorem bytA_empty {s : ByteArray} {w w' : World} {l : List UInt8} {i j : Nat} (h : s.data.toList = []) (hl : (unhL s.data.toList j).map (fun n => UInt8.ofNat n.toNat) = l) (hll : l.length = j) (hj : 2 * j = i) (hi : i ≤ 0) (hg : w.grownBy w' none) : BytA s.data.toList w (.returned (.tuple #[.string (bs l), .bool false])) w' := by
  refine ⟨l, false, rfl, by omega, by simp, fun c hc => ?_, hg⟩
  rw [h] at hc
  exact absurd hc.symm (txtL_ne c)
theorem bytA_ret {s : ByteArray} {w w' : World} {l : List UInt8} {i j : Nat} (h : s.data.toList ≠ [45]) (hl : (unhL s.data.toList j).map (fun n => UInt8.ofNat n.toNat) = l) (hll : l.length = j) (hj : 2 * j = i) (hi : i ≤ s.size) (h2 : s.size ≤ i + 1) (hg : w.grownBy w' none) : BytA s.data.toList w (.returned (.tuple #[.string (bs l), .bool ((bs (txtL l)).toList == s.toList)])) w' := by
  have hsz : s.data.toList.length = s.size := by simp
  refine ⟨l, _, rfl, by omega, fun h' => ?_, fun c hc => ?_, hg⟩
  · rw [bs_toList, ByteArray.toList_eq] at h'
    exact (beq_iff_eq.1 h').symm
  · have hc0 : c ≠ [] := by rintro rfl; exact h hc
    have hx : txtL c = hexL c := by unfold txtL; rw [if_neg hc0]
    have hlen : s.size = c.length * 2 := by rw [← hsz, hc, hx, hexL_len]
    have e : l = c := by
      rw [← hl, hc, hx, show j = c.length by omega]
      exact unhL_hexL c
    subst e
    refine ⟨?_, rfl⟩
    rw [bs_toList, ByteArray.toList_eq, hc]
    exact beq_self_eq_true _
set_option maxHeartbeats 1600000 in
theorem bytes25 (w : World) (s : ByteArray) (hs : s.size ≤ 10000) :
    Calls Tryd.prog 31 #[.string s] w fun e w' => BytA s.data.toList w e w' := by
  go_enter Tryd.func31, Tryd.ntmps31
  by_cases hd : s.toList = [45]
  · have hd2 : (s.toList == [45]) = true := by simpa using hd
    have HD := Lib.hid (show s.data.toList = [45] from by rw [← ByteArray.toList_eq]; exact hd)
    clear hd
    go_wp2
    go_ret2
    rw [HD.out]
    exact bytA_dash w
  · have hd2 : (s.toList == [45]) = false := by simpa using hd
    have HD := Lib.hid (show s.data.toList ≠ [45] from by rw [← ByteArray.toList_eq]; exact hd)
    clear hd
    have H0 := Lib.hid (own_nil25 w w.heap.size 5)
    go_wp2
    go_loopw [4, 5] (fun out i wr => ∃ (j : Nat) (v : Value), 2 * j ≤ s.size ∧ i = .int .i64 ((2 * j : Nat) : Int) ∧ v = out ∧ OwnB w.heap.size wr v (unhL s.data.toList j) ∧ w.grownBy wr none) (fun _ i _ => s.size + 2 - (intOf i).toNat)
    case atStart => exact ⟨0, _, by omega, rfl, rfl, H0.out, Ext.refl w⟩
    case round =>
      obtain ⟨j, v, hj, rfl, rfl, hO, hE⟩ := hrel
      have HO := Lib.hid hO
      have HE := Lib.hid hE
      clear hO hE
      obtain ⟨i, hi⟩ : ∃ i, 2 * j = i := ⟨_, rfl⟩
      rw [hi] at hj ⊢
      have HI := Lib.hid hi
      clear hi
      by_cases hlt : i + 1 < s.size
      · go_wp2
        obtain ⟨wq, hwq⟩ : ∃ z, wr = z := ⟨_, rfl⟩
        rw [hwq] at HO HE ⊢
        clear hwq
        go_loopw [6, 7] (fun vv k wr => ∃ q : Nat, q ≤ 2 ∧ k = .int .i64 ((i + q : Nat) : Int) ∧ vv = .int .i64 ((twoH s.data.toList j q : Nat) : Int) ∧ wq.grownBy wr none) (fun _ k _ => i + 2 - (intOf k).toNat)
        case atStart => exact ⟨0, by omega, rfl, rfl, Ext.refl wq⟩
        case round =>
          obtain ⟨q, hq, rfl, rfl, hE1⟩ := hrel
          obtain ⟨kk, hkk⟩ : ∃ kk, i + q = kk := ⟨_, rfl⟩
          rw [hkk]
          have hk1 : kk = i + q := hkk.symm
          have hk3 : kk ≤ i + 2 := by omega
          have HKK := Lib.hid hk1
          clear hkk
          by_cases hq2 : q < 2
          · have hkl : kk < s.size := by omega
            have hk2 : kk < i + 2 := by omega
            obtain ⟨c, hc⟩ : ∃ c : Nat, (s[kk]'hkl).toNat = c := ⟨_, rfl⟩
            have HS := Lib.hid (show twoH s.data.toList j (q + 1) = stepH (twoH s.data.toList j q) c from by rw [twoH_succ _ _ _ hq2, HI.out, ← hk1, getD_str s _ hkl, hc])
            obtain ⟨v0, hv0⟩ : ∃ v0, twoH s.data.toList j q = v0 := ⟨_, rfl⟩
            have hv1 : v0 ≤ 15 := hv0 ▸ twoH_bd _ _ _ hq2
            have HV := Lib.hid hv0
            have HE1 := Lib.hid hE1
            rw [hv0] at ⊢
            have HC := Lib.hid hc
            clear hv0 hE1 hc hk1
            go_wp2
            obtain ⟨wd, hwd⟩ : ∃ z, wr = z := ⟨_, rfl⟩
            rw [hwd] at HE1 ⊢
            clear hwd
            go_loopw [6, 8] (fun vv d wr => ∃ d' : Nat, d' ≤ 16 ∧ d = .int .i64 d' ∧ vv = .int .i64 ((stepD v0 c d' : Nat) : Int) ∧ wd.grownBy wr none) (fun _ d _ => 16 - (intOf d).toNat)
            case atStart => exact ⟨0, by omega, rfl, by simp [stepD], Ext.refl wd⟩
            case round =>
              obtain ⟨d, hd16, rfl, rfl, hE2⟩ := hrel
              have hbd := stepD_bd v0 c d hd16
              have HE2 := Lib.hid hE2
              clear hE2
              by_cases hd : d < 16
              · have HX := Lib.hid (hexS_idx d hd c)
                obtain ⟨h, hh⟩ : ∃ h : Nat, ((⟨#[48, 49, 50, 51, 52, 53, 54, 55, 56, 57, 97, 98, 99, 100, 101, 102]⟩ : ByteArray)[d]'hd).toNat = h := ⟨_, rfl⟩
                have hX : h = c ↔ d = idxH c := by rw [← hh]; exact HX.out
                obtain ⟨u, hu⟩ : ∃ u, stepD v0 c d = u := ⟨_, rfl⟩
                rw [hu] at hbd ⊢
                have hu1 : u ≤ 255 := by omega
                have HU := Lib.hid hu
                have hc := HC.out
                clear hu hbd
                by_cases e : d = idxH c
                · have b1 : ((h : Int) == (c : Int)) = true := by rw [beq_iff_eq, hX.2 e]
                  have HN := Lib.hid (show stepD v0 c (d + 1) = u * 16 + d from by rw [stepD_hit e, HU.out])
                  clear e hX
                  go_upto_region 14 with fail
                  go_quiet (fail)
                  rename_i nq
                  have HE3 := Lib.hid (ext_trans HE2.out (gb_drewN wr nq))
                  clear hh hc
                  go_wp2
                  go_roundw
                  case rel => exact ⟨d + 1, by omega, by go_num, congrArg (Value.int .i64) (by rw [HN.out]; omega), HE3.out⟩
                  case measure => simp [intOf]; omega
                · have b1 : ((h : Int) == (c : Int)) = false := by rw [beq_eq_false_iff_ne]; intro h'; exact e (hX.1 (by omega))
                  have HN := Lib.hid (show stepD v0 c (d + 1) = u from by rw [stepD_not e, HU.out])
                  clear e hX
                  go_upto_region 14 with fail
                  go_quiet (fail)
                  rename_i nq
                  have HE3 := Lib.hid (ext_trans HE2.out (gb_drewN wr nq))
                  clear hh hc
                  go_wp2
                  go_roundw
                  case rel => exact ⟨d + 1, by omega, by go_num, by rw [HN.out], HE3.out⟩
                  case measure => simp [intOf]; omega
              · obtain rfl : d = 16 := by omega
                have HE3 := Lib.hid (ext_trans HE1.out HE2.out)
                go_wp2
                go_roundw
                case rel => exact ⟨q + 1, by omega, congrArg (Value.int .i64) (by have := HKK.out; omega), by rw [HS.out, HV.out, stepD_16], HE3.out⟩
                case measure => simp [intOf]; omega
          · obtain rfl : q = 2 := by omega
            have hk2 : ¬ kk < i + 2 := by omega
            clear hk1
            obtain ⟨b, hb⟩ : ∃ b, twoH s.data.toList j 2 = b := ⟨_, rfl⟩
            have hb1 : b ≤ 255 := hb ▸ byteH_bd _ _
            rw [hb]
            have HB := Lib.hid (show unhL s.data.toList (j + 1) = unhL s.data.toList j ++ [(b : Int)] from by rw [unhL_succ, ← hb]; rfl)
            have hl : (unhL s.data.toList j).length ≤ 10000 := by have := HI.out; simp [unhL]; omega
            obtain ⟨xs, hxs⟩ : ∃ xs, unhL s.data.toList j = xs := ⟨_, rfl⟩
            have HXS := Lib.hid hxs
            have hO2 := own_kept25 HO.out hE1 (by simp)
            rw [hxs] at hl hO2
            have hO3 := own_kept25 hO2 (World.grownBy_alloc wr (.cells #[.int .u8 (b : Int)] 5) none) (by simp)
            have hT := lit_bts1 wr (b : Int)
            have HT := Lib.hid hT
            have HO3 := Lib.hid hO3
            have HE3 := Lib.hid (ext_trans (ext_trans HE.out hE1) (World.grownBy_alloc wr (.cells #[.int .u8 (b : Int)] 5) none))
            have wb : IntKind.u8.wrap (b : Int) = (b : Int) := by rw [IntWalk.u8_in _ (by omega)]
            obtain ⟨ao, cap, rfl⟩ := owns_shape25 hO2
            clear hb hxs hO2 hO3 hT hE1
            go_wp2_with (at_builtin; refine append_b25 rfl _ _ rfl w.heap.size (.slice ao xs.length cap) xs rfl HO3.out _ [(b : Int)] rfl HT.out (by simp; omega) (by have := HE3.out.size; omega) ?_; intro v' w3 ho3 hg3; have HO4 := Lib.hid ho3; have HE4 := Lib.hid (show w.grownBy w3 none from grown_trans HE3.out hg3 (fun p hp hlt => by have := own_le25 HO3.out p hp; omega)); clear ho3 hg3)
            go_roundw
            case rel => exact ⟨j + 1, _, by have := HI.out; omega, by rw [← HI.out]; go_num, rfl, by rw [HB.out, HXS.out]; exact HO4.out, HE4.out⟩
            case measure => simp [intOf]; omega
      · obtain ⟨l, hl⟩ : ∃ l : List UInt8, (unhL s.data.toList j).map (fun n => UInt8.ofNat n.toNat) = l := ⟨_, rfl⟩
        have hll : l.length = j := by rw [← hl]; simp [unhL]
        have hj2 : j ≤ 5000 := by have := HI.out; omega
        have hcv : ∀ x, Ext wr x → (convert 74 9 v).run Tryd.prog x = .ok (.string (bs l)) x := fun x hx => by
          rw [← hl, ← str_nums]
          exact convert_bts (OwnB.bts (own_kept25 HO.out hx (by simp)))
        have HCV := Lib.hid hcv
        have HLL := Lib.hid hll
        have hl3 : l.length ≤ 5000 := by omega
        have HJ := Lib.hid (show 2 * j = i from HI.out)
        have HL := Lib.hid hl
        have hlt' : s.size ≤ i + 1 := by omega
        have HLT := Lib.hid hlt'
        clear hcv hll hl hlt'
        by_cases h0 : s.size = 0
        · have hs0 : s.toList = [] := by rw [ByteArray.toList_eq]; exact List.length_eq_zero_iff.1 (by simpa using h0)
          have hs1 : s.toList.isEmpty = true := by simpa using hs0
          have HS0 := Lib.hid (show s.data.toList = [] from by rw [← ByteArray.toList_eq]; exact hs0)
          have hS : Ext wr wr.drew := Ext.drew wr
          clear h0 hs0
          go_upto_region 17 with fail
          refine region_line [(0, true), (1, true), (2, true), (3, true), (4, true), (5, true), (6, true), (8, true), (7, false), (9, true), (10, true), (11, true), (12, true)] (Ext wr) (by kernel_rfl) (by kernel_rfl) (fun _ _ _ d _ h => by cases d <;> exact h) hS ?_
          iterate 8 (refine line_read (a' := ?_) rfl (by kernel_rfl) (by kernel_rfl) hS (fun z hz K hK => ?_) ?_; rotate_left; · (have c1 := HCV.out z hz; go_wp2; exact hK))
          refine line_act rfl fun K hK => ?_
          go_wp2
          refine hK _ _ (Ext wr) hS (fun _ h => h) ?_
          iterate 4 (refine line_read (a' := ?_) rfl (by kernel_rfl) (by kernel_rfl) hS (fun z hz K hK => ?_) ?_; rotate_left; · (have c1 := HCV.out z hz; go_wp2; exact hK))
          refine line_end ?_
          go_wp2
          go_ret2
          exact bytA_empty HS0.out HL.out HLL.out HJ.out (by rw [← List.length_eq_zero_iff.2 HS0.out]; have := hj; simpa using this) (ext_trans HE.out (Ext.drew wr))
        · have hs0 : s.toList ≠ [] := by rw [ByteArray.toList_eq]; intro h; exact h0 (by have := congrArg List.length h; simpa using this)
          have hs1 : s.toList.isEmpty = false := by simpa using hs0
          have hS : Ext wr wr.drew := Ext.drew wr
          clear h0 hs0
          go_upto_region 17 with fail
          refine region_line [(0, true), (1, true), (2, true), (3, true), (4, true), (5, true), (6, true), (8, true), (7, false), (9, true), (10, true), (11, true), (12, true)] (Ext wr) (by kernel_rfl) (by kernel_rfl) (fun _ _ _ d _ h => by cases d <;> exact h) hS ?_
          iterate 8 (refine line_read (a' := ?_) rfl (by kernel_rfl) (by kernel_rfl) hS (fun z hz K hK => ?_) ?_; rotate_left; · (have c1 := HCV.out z hz; go_wp2; exact hK))
          refine line_act rfl fun K hK => ?_
          go_wp2_with (go_at_call 26; refine (text25 _ (bs l) (by rw [bs_size]; omega)).mono ?_; rintro e w1 ⟨rfl, hg1⟩; have HS1 := Lib.hid (ext_trans (Ext.drew wr) hg1); rw [show (bs l).data.toList = l from rfl]; clear hg1)
          refine hK _ _ (Ext wr) HS1.out (fun _ h => h) ?_
          have hS := HS1.out
          iterate 4 (refine line_read (a' := ?_) rfl (by kernel_rfl) (by kernel_rfl) hS (fun z hz K hK => ?_) ?_; rotate_left; · (have c1 := HCV.out z hz; go_wp2; exact hK))
          refine line_end ?_
          go_wp2
          go_ret2
          exact bytA_ret HD.out HL.out HLL.out HJ.out hj HLT.out (ext_trans HE.out HS1.out)

end Go.Proofs.YtdaifepjmkmpjaaDoor

/-
  Layer 25's reference: values.
-/
namespace Go.Proofs.YtdaifepjmkmpjaaDoor
set_option linter.unusedVariables false
set_option linter.unusedSimpArgs false
set_option linter.unusedVariables false
set_option linter.unusedSimpArgs false
set_option maxRecDepth 100000
open Go.RowKit

abbrev OwnI25 (B : Nat) (w : World) (v : Value) (xs : List Int) : Prop := w.ownsRow B 3 1 v xs.length (xs.map (Value.int .i64))
/-- append of a slice that reads as ints to a row of the call's own. -/
theorem append_i25 {w : World} {ops : Array Oper} {rest : List Oper} {o : Oper} {a : Act} {Q : Exit → Act → World → Prop} (hgd : o.guard = none) (s x : Operand)
    (ho : o.op = .call { callee := .builtin .append, args := #[s, x], argTypes := #[35, 35] }) (base : Nat)
    (v : Value) (xs : List Int) (hs : a.eval s = v) (hown : OwnI25 base w v xs) (src : Value) (ys : List Int) (hx : a.eval x = src) (hb : Ints w src ys)
    (h63 : xs.length + ys.length ≤ 16777216) (hbase : base ≤ w.heap.size)
    (h : ∀ v' w', OwnI25 base w' v' (xs ++ ys) → w.grownBy w' v.ownBlock → wpList Tryd.prog ops Q rest (a.put o.dst v') w') : wpList Tryd.prog ops Q (o :: rest) a w := by
  obtain ⟨i0, hi, hz0, hz1, hz2⟩ := info_parts Tryd.infoInt
  rcases hb.two with ⟨rfl, rfl⟩ | ⟨sa, cap, rfl, _, hc⟩
  · refine wpList_append_own_none hgd s x 35 ho base 3 i0 1 Tryd.underlying35 hi v _ _ hs hown hx ?_
    exact h v w (by simpa using hown) ⟨rfl, rfl, rfl, Nat.le_refl _, fun _ _ _ => rfl⟩
  · refine wpList_append_own_at w hgd s x 35 ho base 3 i0 (.int .i64 0) 1 8 Tryd.underlying35 hi hz0 hz1 hz2 rfl (by decide) v _ _ hs hown sa ys.length cap (ys.map (Value.int .i64)) hx (by simp) ?_ (ints_oneCell _ _) (by unfold maxLen; omega) (by omega) hbase ?_
    · intro j u hj
      rw [List.getElem?_map] at hj
      by_cases h : j < ys.length
      · rw [List.getElem?_eq_getElem h] at hj
        rw [hc j h, ← hj]
        simp [List.getElem?_eq_getElem h, List.getD_eq_getElem?_getD]
      · rw [List.getElem?_eq_none (by omega)] at hj
        cases hj
    · intro v' w' h1 h2 _ h4
      refine h v' w' ?_ h2
      unfold OwnI25
      rw [List.length_append, List.map_append]
      exact h1
theorem lit_ints1 (w : World) (x : Int) : Ints (w.alloc (.cells #[.int .i64 x] 3)) (.slice (some ⟨w.heap.size, 0, none⟩) 1 1) [x] :=
  .inr (.inl ⟨w.heap.size, 0, 1, rfl, by simp, fun i hi => by
    obtain rfl : i = 0 := by simpa using hi
    simp⟩)
theorem mapM_snoc (l : List (List UInt8)) (x : List UInt8) (v : List Int) (h : l.mapM valOf = some v) : (l ++ [x]).mapM valOf = (valOf x).map fun n => v ++ [n] := by
  rw [List.mapM_append, h]
  cases e : valOf x with
  | none => simp [e]
  | some n => simp [e]
theorem mapM_none {l r : List (List UInt8)} {x : List UInt8} (h : valOf x = none) : (l ++ x :: r).mapM valOf = none := by
  rw [List.mapM_append, List.mapM_cons, h]
  cases l.mapM valOf <;> rfl
theorem mapM_rng : ∀ {l : List (List UInt8)} {v : List Int}, l.mapM valOf = some v → ∀ n ∈ v, i64B n
  | [], v, h => by simp at h; subst h; simp
  | x :: l, v, h => by
    rw [List.mapM_cons] at h
    cases e : valOf x with
    | none => rw [e] at h; cases h
    | some n =>
      rw [e] at h
      cases e2 : l.mapM valOf with
      | none => rw [e2] at h; cases h
      | some u =>
        rw [e2] at h
        injection h with h
        subst h
        intro m hm
        rcases List.mem_cons.1 hm with rfl | hm
        · exact (valOf_is e).1
        · exact mapM_rng e2 m hm
/-- What words tell. -/
def ValsA (ws : List (List UInt8)) (w : World) (e : Ending) (w' : World) : Prop := ∃ v l ok, e = .returned (.tuple #[v, .bool ok]) ∧ OwnI25 w.heap.size w' v l ∧ (ok = true → valsOf ws = some l) ∧ (ok = false → valsOf ws = none) ∧ (∀ n ∈ l, i64B n) ∧ l.length ≤ ws.length ∧ w.grownBy w' none
theorem valsA_no {ws : List (List UInt8)} {w w' : World} (h : ws.mapM valOf = none) (hg : w.grownBy w' none) : ValsA ws w (.returned (.tuple #[.slice none 0 0, .bool false])) w' :=
  ⟨_, [], false, rfl, ⟨rfl, .inl ⟨rfl, rfl⟩⟩, by simp, fun _ => by unfold valsOf; rw [h], by simp, by simp, hg⟩
theorem valsA_ret {ws : List (List UInt8)} {w w' : World} {v : Value} {l : List Int} (h : ws.mapM valOf = some l) (hl : l.length = ws.length) (ho : OwnI25 w.heap.size w' v l) (hg : w.grownBy w' none) : ValsA ws w (.returned (.tuple #[v, .bool (decide (0 < l.length))])) w' := by
  refine ⟨v, l, _, rfl, ho, fun hk => ?_, fun hk => ?_, mapM_rng h, by omega, hg⟩
  · have : l ≠ [] := by rintro rfl; simp at hk
    unfold valsOf; rw [h]; simp [this]
  · have : l = [] := List.length_eq_zero_iff.1 (by simpa using hk)
    unfold valsOf; rw [h, this]; rfl
set_option maxHeartbeats 1600000 in
theorem values25 (w : World) (a : Option Addr) (cap : Nat) (ws : List (List UInt8)) (hT : TxR w a (ws.map bs)) (hl : ws.length ≤ 10000) (hw : ∀ x ∈ ws, x.length ≤ 10000) :
    Calls Tryd.prog 34 #[.slice a ws.length cap] w (ValsA ws w) := by
  have HT := Lib.hid hT
  have HW := Lib.hid hw
  have H0 := Lib.hid (show OwnI25 w.heap.size w (.slice none 0 0) [] from own_nil25 w w.heap.size 3)
  clear hT hw
  go_enter Tryd.func34, Tryd.ntmps34
  go_wp2
  go_loopw [4, 11] (fun out i wr => ∃ (k : Nat) (v : Value) (l : List Int), k ≤ ws.length ∧ i = .int .i64 k ∧ v = out ∧ (ws.take k).mapM valOf = some l ∧ l.length = k ∧ OwnI25 w.heap.size wr v l ∧ w.grownBy wr none) (fun _ i _ => ws.length - (intOf i).toNat)
  case atStart => exact ⟨0, _, [], Nat.zero_le _, rfl, rfl, rfl, rfl, H0.out, Ext.refl w⟩
  case round =>
    obtain ⟨k, v, l, hk, rfl, rfl, hm, hlk, hO, hE⟩ := hrel
    have HM := Lib.hid (And.intro hm hlk)
    have HO := Lib.hid hO
    have HE := Lib.hid hE
    by_cases hlt : k < ws.length
    · obtain ⟨b, off, rfl, hc⟩ := (HT.out.ext hE) k (by simpa using hlt)
      obtain ⟨x, hx⟩ : ∃ x, ws.getD k [] = x := ⟨_, rfl⟩
      have hx2 : ws[k]? = some x := by rw [← hx, List.getD_eq_getElem?_getD, List.getElem?_eq_getElem hlt]; rfl
      have hcx : (ws.map bs).getD k ByteArray.empty = bs x := by rw [List.getD_eq_getElem?_getD, List.getElem?_map, hx2]; rfl
      rw [hcx] at hc
      have hxl := HW.out x (List.mem_of_getElem? hx2)
      have HX := Lib.hid (show ws.take (k + 1) = ws.take k ++ [x] from by rw [List.take_add_one, hx2]; rfl)
      have HX2 := Lib.hid (show ws = ws.take k ++ x :: ws.drop (k + 1) from by
        rw [← List.singleton_append, ← List.append_assoc, ← HX.out, List.take_append_drop])
      obtain ⟨ao, ac, rfl⟩ := owns_shape25 hO
      have hl2 : l.length ≤ 10000 := by omega
      have HVV := value25 wr (bs x) (by rw [bs_size]; omega)
      have HV := Lib.hid HVV
      clear hx hx2 hcx hxl hm hO hE HVV hlk
      go_upto_region 6 with (go_at_call 30; refine (HV.out).mono ?_; rintro e w5 ⟨n, ok, rfl, hB, hT, hI, hg5⟩)
      cases ok
      · have HN := Lib.hid (show valOf x = none from valOf_none fun m hm => absurd (hI m hm).1 (by simp))
        have HE5 := Lib.hid (ext_trans HE.out hg5)
        clear hB hT hI hg5
        go_wp2
        go_ret2
        exact valsA_no (by rw [HX2.out]; exact mapM_none HN.out) HE5.out
      · have HN := Lib.hid (show valOf x = some n from valOf_some ⟨hB, hT rfl⟩)
        have hE5 := ext_trans HE.out hg5
        have hO5 := own_kept25 HO.out hg5 (by simp)
        have hO6 := own_kept25 hO5 (World.grownBy_alloc w5 (.cells #[.int .i64 n] 3) none) (by simp)
        have HT := Lib.hid (lit_ints1 w5 n)
        have HO6 := Lib.hid hO6
        have HE6 := Lib.hid (ext_trans hE5 (World.grownBy_alloc w5 (.cells #[.int .i64 n] 3) none))
        clear hB hT hI hg5 hE5 hO5 hO6 HO HE HV hc
        go_wp2_with (at_builtin; refine append_i25 rfl _ _ rfl w.heap.size (.slice ao l.length ac) l rfl HO6.out _ [n] rfl HT.out (by simp; omega) (by have := HE6.out.size; omega) ?_; intro v' w3 ho3 hg3; have HO4 := Lib.hid ho3; have HE4 := Lib.hid (show w.grownBy w3 none from grown_trans HE6.out hg3 (fun p hp hlt => by have := own_le25 HO6.out p hp; omega)); clear ho3 hg3)
        go_roundw
        case rel => exact ⟨k + 1, _, l ++ [n], by omega, by go_num, rfl, by rw [HX.out, mapM_snoc _ _ _ HM.out.1, HN.out]; rfl, by simp [HM.out.2], HO4.out, HE4.out⟩
        case measure => simp [intOf]; omega
    · obtain ⟨ao, ac, rfl⟩ := owns_shape25 hO
      have HR := Lib.hid (valsA_ret (ws := ws) (by rw [← hm, List.take_of_length_le (by omega)]) (by omega) hO hE)
      clear hm hO hE hlk
      go_wp2
      go_ret2
      exact HR.out

end Go.Proofs.YtdaifepjmkmpjaaDoor

/-
  Layer 25's reference: Setup.
-/
namespace Go.Proofs.YtdaifepjmkmpjaaDoor
set_option linter.unusedVariables false
set_option linter.unusedSimpArgs false
set_option linter.unusedVariables false
set_option linter.unusedSimpArgs false
set_option maxRecDepth 100000
open Go.RowKit

/-- A setup by value: its numbers, the slices of its faults and of what is marked. -/
def stuC (s : Stu) (V : Nat → Value) (vm : Value) : Array Value := #[.int .i64 s.c, .int .i64 s.d, .int .i64 s.b, .int .i64 s.p, V 0, V 1, V 2, V 3, vm]
structure StuIs (w : World) (s : Stu) (V : Nat → Value) (vm : Value) : Prop where
  f : ∀ t, t < 4 → Ints w (V t) (s.f t)
  m : Ints w vm s.m
/-- So long it may be. -/
structure Stu.few (s : Stu) : Prop where
  f : ∀ t, t < 4 → (s.f t).length ≤ 1600
  m : s.m.length ≤ 1600
theorem StuIs.ext {w w' : World} {s : Stu} {V : Nat → Value} {vm : Value} (h : StuIs w s V vm) (hg : w.grownBy w' none) : StuIs w' s V vm := ⟨fun t ht => (h.f t ht).kept hg (by simp), h.m.kept hg (by simp)⟩
def setF (s : Stu) (k : Nat) : List (List UInt8) := [arrayS ++ numsL [s.c, s.d, s.b, s.p]] ++ (List.range k).flatMap (faultL s.f)
theorem setF_len (s : Stu) (k : Nat) : (setF s k).length ≤ 1 + k := by
  unfold setF
  rw [List.length_append]
  have : ((List.range k).flatMap (faultL s.f)).length ≤ k := by
    induction k with
    | zero => simp
    | succ k ih =>
      rw [List.range_succ, List.flatMap_append, List.length_append]
      have : (([k] : List Nat).flatMap (faultL s.f)).length ≤ 1 := by
        rw [List.flatMap_cons, List.flatMap_nil, List.append_nil]
        unfold faultL; split <;> simp
      omega
  rw [List.length_singleton]; omega
theorem setF_succ (s : Stu) (k : Nat) : setF s (k + 1) = setF s k ++ faultL s.f k := by
  unfold setF
  rw [List.range_succ, List.flatMap_append, List.flatMap_cons, List.flatMap_nil, List.append_nil, List.append_assoc]
theorem setupL_setF (s : Stu) : setupL s = setF s 4 ++ (if s.m = [] then [] else [markedS ++ numsL s.m]) := rfl
theorem index4 (V : Nat → Value) (t : Nat) (h : t < 4) (z : World) : (Instr.index 36 (.agg #[V 0, V 1, V 2, V 3]) (.int .i64 (t : Int))).run Tryd.prog z = .ok (V t) z := by
  obtain rfl | rfl | rfl | rfl : t = 0 ∨ t = 1 ∨ t = 2 ∨ t = 3 := by omega
  all_goals kernel_rfl
/-- What Setup answers. -/
def SetA (L : List (List UInt8)) (w : World) (e : Ending) (w' : World) : Prop := ∃ v, e = .returned v ∧ OwnS w.heap.size w' v L ∧ v.ownBlock ≠ none ∧ w.grownBy w' none
theorem lit_own1 (w : World) (x : List UInt8) : OwnS w.heap.size (w.alloc (.cells #[.string (bs x)] 9)) (.slice (some ⟨w.heap.size, 0, none⟩) 1 1) [x] := lit_own w x
theorem lit_ints25 (w : World) (l : List Int) : Ints (w.alloc (.cells (l.map (Value.int .i64)).toArray 3)) (.slice (some ⟨w.heap.size, 0, none⟩) l.length l.length) l :=
  Ints.cells (Nat.le_refl _) fun i hi => by
    rw [cell_of_row _ w.heap.size (0 + i) _ 3 (0, 0) (heap_alloc_new w _), Nat.zero_add]
    simp [List.getElem?_eq_getElem hi, List.getD_eq_getElem?_getD]
theorem append_s25 {w : World} {ops : Array Oper} {rest : List Oper} {o : Oper} {a : Act} {Q : Exit → Act → World → Prop} (hgd : o.guard = none) (s x : Operand)
    (ho : o.op = .call { callee := .builtin .append, args := #[s, x], argTypes := #[46, 46] }) (base : Nat)
    (v : Value) (L : List (List UInt8)) (hs : a.eval s = v) (hown : OwnS base w v L) {b : Nat} (y : List UInt8) (hx : a.eval x = .slice (some ⟨b, 0, none⟩) 1 1) (hb : TxR w (some ⟨b, 0, none⟩) [bs y]) (h63 : L.length ≤ 16000000) (hbase : base ≤ w.heap.size)
    (h : ∀ v' w', OwnS base w' v' (L ++ [y]) → w.grownBy w' v.ownBlock → v'.ownBlock ≠ none → wpList Tryd.prog ops Q rest (a.put o.dst v') w') (hn : v.ownBlock ≠ none) : wpList Tryd.prog ops Q (o :: rest) a w := by
  refine append_txs hgd s x ho base v (L.map bs) hs (by rw [List.length_map]; exact hown) (some ⟨b, 0, none⟩) 1 [bs y] hx (fun h => by cases h) (fun z hz => by injection hz with hz; rw [← hz]) hb (by simp; omega) hbase fun v' w' h1 h2 h3 => ?_
  refine h v' w' ?_ h2 ?_
  · unfold OwnS
    simpa using h1
  · rcases h3 with h3 | h3 <;> rw [h3]
    · exact hn
    · simp
set_option maxHeartbeats 1600000 in
theorem setup25 (w : World) (s : Stu) (V : Nat → Value) (vm : Value) (hS : StuIs w s V vm) (hr : s.rng) (hl : s.few) :
    Calls Tryd.prog 19 #[.agg (stuC s V vm)] w (SetA (setupL s) w) := by
  have IX := index4 V
  have HIX := Lib.hid IX
  have HS := Lib.hid hS
  have HR := Lib.hid hr
  have HL := Lib.hid hl
  obtain ⟨am, cm, bm, om, hvm, hcm⟩ := hS.m.form
  obtain ⟨c, d, b, p, f, m⟩ := s
  simp only at hvm
  subst hvm
  unfold stuC
  simp only
  clear hS hr hl hcm IX
  go_enter Tryd.func19, Tryd.ntmps19
  go_upto_region 2 with fail
  have hB2 : Blk ((w.alloc (.cells #[.int .i64 c, .int .i64 d, .int .i64 b, .int .i64 p, V 0, V 1, V 2, V 3, .slice am m.length cm] 38)).alloc (.cells #[.int .i64 c, .int .i64 d, .int .i64 b, .int .i64 p] 34)) w.heap.size 38 #[.int .i64 c, .int .i64 d, .int .i64 b, .int .i64 p, V 0, V 1, V 2, V 3, .slice am m.length cm] := (Blk.new w _ _).alloc _
  have hG2 : Blk ((w.alloc (.cells #[.int .i64 c, .int .i64 d, .int .i64 b, .int .i64 p, V 0, V 1, V 2, V 3, .slice am m.length cm] 38)).alloc (.cells #[.int .i64 c, .int .i64 d, .int .i64 b, .int .i64 p] 34)) (w.heap.size + 1) 34 #[.int .i64 c, .int .i64 d, .int .i64 b, .int .i64 p] := Blk.newAt _ _ (by simp) _ _
  have hE2 : w.grownBy ((w.alloc (.cells #[.int .i64 c, .int .i64 d, .int .i64 b, .int .i64 p, V 0, V 1, V 2, V 3, .slice am m.length cm] 38)).alloc (.cells #[.int .i64 c, .int .i64 d, .int .i64 b, .int .i64 p] 34)) none := ext_trans (World.grownBy_alloc w _ none) (World.grownBy_alloc _ _ none)
  obtain ⟨w2, hw2⟩ : ∃ z, (w.alloc (.cells #[.int .i64 c, .int .i64 d, .int .i64 b, .int .i64 p, V 0, V 1, V 2, V 3, .slice am m.length cm] 38)).alloc (.cells #[.int .i64 c, .int .i64 d, .int .i64 b, .int .i64 p] 34) = z := ⟨_, rfl⟩
  obtain ⟨n, hn⟩ : ∃ n, w.heap.size = n := ⟨_, rfl⟩
  rw [hw2, hn] at hB2 hG2
  rw [hw2] at hE2
  rw [hw2, hn]
  have HN := Lib.hid hn
  have g0 : w2.cell? ⟨n + 1, 0, none⟩ = some (.int .i64 c) := hG2.cell 0
  have g1 : w2.cell? ⟨n + 1, 1, none⟩ = some (.int .i64 d) := hG2.cell 1
  have g2 : w2.cell? ⟨n + 1, 2, none⟩ = some (.int .i64 b) := hG2.cell 2
  have g3 : w2.cell? ⟨n + 1, 3, none⟩ = some (.int .i64 p) := hG2.cell 3
  have hI : Ints (w2.alloc (.cells #[.int .i64 c, .int .i64 d, .int .i64 b, .int .i64 p] 3)) (.slice (some ⟨w2.heap.size, 0, none⟩) 4 4) [c, d, b, p] := lit_ints25 w2 [c, d, b, p]
  have hr4 : ∀ k ∈ ([c, d, b, p] : List Int), i64B k := by
    intro k hk
    simp only [List.mem_cons, List.not_mem_nil, or_false] at hk
    rcases hk with rfl | rfl | rfl | rfl
    · exact HR.out.c
    · exact HR.out.d
    · exact HR.out.b
    · exact HR.out.p
  have hl4 := numsL_len hr4
  have HR4 := Lib.hid hr4
  have HI := Lib.hid hI
  have HB2 := Lib.hid hB2
  have HLT := Lib.hid hG2.lt
  have HE2 := Lib.hid hE2
  obtain ⟨r, hr⟩ : ∃ r, numsL [c, d, b, p] = r := ⟨_, rfl⟩
  rw [hr] at hl4
  have HRR := Lib.hid hr
  have a1 : ∀ z, (Op.stringOp .add ⟨#[97, 114, 114, 97, 121]⟩ (bs r)).run Tryd.prog z = .ok (.string (bs (arrayS ++ r))) z := add_bs arrayS r (by simp [arrayS] at hl4 ⊢; omega)
  obtain ⟨r2, hr2⟩ : ∃ r2, arrayS ++ r = r2 := ⟨_, rfl⟩
  rw [hr2] at a1
  have HR2 := Lib.hid hr2
  clear hn hw2 hB2 hG2 hE2 hI hr4 hr hr2 hl4
  go_upto_region 3 with (go_at_call 25; refine (nums25 _ _ [c, d, b, p] HI.out HR4.out (by simp)).mono ?_; rintro e w3 ⟨rfl, hg3⟩; rw [HRR.out]; have HE3 := Lib.hid (ext_trans (World.grownBy_alloc w2 _ none) hg3); clear hg3 g0 g1 g2 g3)
  have hB4 := (HB2.out.ext HE3.out).alloc (.cells #[.string (bs r2)] 9)
  have hO4 : OwnS (n + 2) (w3.alloc (.cells #[.string (bs r2)] 9)) (.slice (some ⟨w3.heap.size, 0, none⟩) 1 1) [r2] := ownsRow_le (lit_own1 w3 r2) (by have := HLT.out; have := HE3.out.size; omega)
  have hE4 := ext_trans (ext_trans HE2.out HE3.out) (World.grownBy_alloc w3 (.cells #[.string (bs r2)] 9) none)
  obtain ⟨w4, hw4⟩ : ∃ z, w3.alloc (.cells #[.string (bs r2)] 9) = z := ⟨_, rfl⟩
  rw [hw4] at hB4 hO4 hE4 ⊢
  have c4 : w4.cell? ⟨n, 4, none⟩ = some (V 0) := hB4.cell 4
  have c5 : w4.cell? ⟨n, 5, none⟩ = some (V 1) := hB4.cell 5
  have c6 : w4.cell? ⟨n, 6, none⟩ = some (V 2) := hB4.cell 6
  have c7 : w4.cell? ⟨n, 7, none⟩ = some (V 3) := hB4.cell 7
  have HS0 := Lib.hid (show setF ⟨c, d, b, p, f, m⟩ 0 = [r2] from by rw [← HR2.out, ← HRR.out]; rfl)
  have HB4 := Lib.hid hB4
  have HO4 := Lib.hid hO4
  have HE4 := Lib.hid hE4
  clear hB4 hO4 hE4 hw4 a1 HI HB2 HE2 HE3 HR4
  have HN2 := Lib.hid (show n + 2 ≤ w.heap.size + 2 from by have := HN.out; omega)
  go_wp2
  go_loopw [4, 23] (fun out i wr => ∃ (k : Nat) (v : Value), k ≤ 4 ∧ i = .int .i64 k ∧ v = out ∧ OwnS (n + 2) wr v (setF ⟨c, d, b, p, f, m⟩ k) ∧ v.ownBlock ≠ none ∧ w.grownBy wr none ∧ Blk wr n 38 #[.int .i64 c, .int .i64 d, .int .i64 b, .int .i64 p, V 0, V 1, V 2, V 3, .slice am m.length cm]) (fun _ i _ => 4 - (intOf i).toNat)
  case atStart => exact ⟨0, _, by omega, rfl, rfl, by rw [HS0.out]; exact HO4.out, by simp [Value.ownBlock], HE4.out, HB4.out⟩
  case round =>
    obtain ⟨k, v, hk, rfl, rfl, hO, hnv, hE, hB⟩ := hrel
    have HB := Lib.hid hB
    obtain ⟨L, hL⟩ : ∃ L, setF ⟨c, d, b, p, f, m⟩ k = L := ⟨_, rfl⟩
    have hLl : L.length ≤ 5 := by rw [← hL]; have := setF_len ⟨c, d, b, p, f, m⟩ k; omega
    rw [hL] at hO
    have HO := Lib.hid hO
    have HNV := Lib.hid hnv
    have HE := Lib.hid hE
    have HSL := Lib.hid hL
    obtain ⟨g, cap, rfl, hgB, -⟩ := hO.open hnv
    clear hO hnv hE hL hB c4 c5 c6 c7
    by_cases hlt : k < 4
    · have hix := HIX.out k hlt
      have hv := HS.out.f k hlt
      obtain ⟨ao, ac, fb, fo, hV, -⟩ := hv.form
      simp only at hV
      rw [hV] at hix hv
      have hrf := HR.out.f k hlt
      have hlf := HL.out.f k hlt
      simp only at hrf hlf
      have HSU := Lib.hid (setF_succ ⟨c, d, b, p, f, m⟩ k)
      obtain ⟨l, hl⟩ : ∃ l, f k = l := ⟨_, rfl⟩
      simp only [hl] at hix hv hrf hlf
      have HLK := Lib.hid hl
      have HVV := Lib.hid hv
      have HRF := Lib.hid hrf
      have hln := numsL_len hrf
      clear hV hv hrf hl
      by_cases h0 : l.length = 0
      · have HZ := Lib.hid (show setF ⟨c, d, b, p, f, m⟩ (k + 1) = L from by
          rw [HSU.out, HSL.out]; unfold faultL; rw [if_pos (by simp only; rw [HLK.out]; exact List.length_eq_zero_iff.1 h0), List.append_nil])
        go_wp2
        go_roundw
        case rel => exact ⟨k + 1, _, by omega, by go_num, rfl, by rw [HZ.out]; exact HO.out, HNV.out, HE.out, HB.out⟩
        case measure => simp [intOf]; omega
      · have hlp : 0 < l.length := by omega
        have HZ := Lib.hid (show setF ⟨c, d, b, p, f, m⟩ (k + 1) = L ++ [faultS ++ numsL [(k : Int)] ++ numsL l] from by
          rw [HSU.out, HSL.out]; unfold faultL; rw [if_neg (by simp only; rw [HLK.out]; rintro rfl; exact h0 rfl)]; simp only; rw [HLK.out]; simp [numsL])
        have hl1 := numsL_len (l := [(k : Int)]) (fun q hq => by simp at hq; subst hq; unfold i64B; omega)
        obtain ⟨r3, hr3⟩ : ∃ r3, numsL [(k : Int)] = r3 := ⟨_, rfl⟩
        obtain ⟨r4, hr4⟩ : ∃ r4, numsL l = r4 := ⟨_, rfl⟩
        rw [hr3] at hl1
        rw [hr4] at hln
        have HR3 := Lib.hid hr3
        have HR4 := Lib.hid hr4
        have a1 : ∀ z, (Op.stringOp .add ⟨#[102, 97, 117, 108, 116]⟩ (bs r3)).run Tryd.prog z = .ok (.string (bs (faultS ++ r3))) z := add_bs faultS r3 (by simp [faultS] at hl1 ⊢; omega)
        have a2 : ∀ z, (Op.stringOp .add (bs (faultS ++ r3)) (bs r4)).run Tryd.prog z = .ok (.string (bs (faultS ++ r3 ++ r4))) z := add_bs _ r4 (by simp [faultS] at hl1 ⊢; omega)
        obtain ⟨r5, hr5⟩ : ∃ r5, faultS ++ r3 = r5 := ⟨_, rfl⟩
        rw [hr5] at a1 a2
        obtain ⟨r6, hr6⟩ : ∃ r6, r5 ++ r4 = r6 := ⟨_, rfl⟩
        rw [hr6] at a2
        have HR6 := Lib.hid (And.intro hr5 hr6)
        have HI := Lib.hid (lit_ints1 wr (k : Int))
        clear hr3 hr4 hr5 hr6 h0 hln hl1
        go_upto_region 8 with (first
          | (at_builtin; refine append_s25 rfl _ _ rfl (n + 2) (.slice (some ⟨g, 0, none⟩) L.length cap) L rfl HO7.out r6 rfl HT7.out (by omega) (by have := HE7.out.2.lt; have := HO7.out.lt g rfl; omega) ?_ (by simp [Value.ownBlock]); intro v' w8 ho8 hg8 hn8; have HO8 := Lib.hid ho8; have HN8 := Lib.hid hn8; have HE8 := Lib.hid (And.intro (show w.grownBy w8 none from grown_trans HE7.out.1 hg8 (fun q hq hlt => by have := HO.out.lt q hq; have := HN.out; omega)) (HE7.out.2.kept hg8 (fun e => by have := HO.out.lt n e.symm; omega))); clear ho8 hg8 hn8)
          | (go_at_call 25; refine (nums25 _ _ l (HVV.out.kept (ext_trans HE.out HA5.out) (by simp)) HRF.out (by omega)).mono ?_; rintro e w6 ⟨rfl, hg6⟩; rw [HR4.out]; have hE6 := ext_trans HA5.out hg6; have HO7 := Lib.hid (own_kept25 (own_kept25 HO.out hE6 (by simp)) (World.grownBy_alloc w6 (.cells #[.string (bs r6)] 9) none) (by simp)); have HT7 := Lib.hid (lit_txR w6 (bs r6)); have HE7 := Lib.hid (And.intro (ext_trans (ext_trans HE.out hE6) (World.grownBy_alloc w6 (.cells #[.string (bs r6)] 9) none)) ((HB.out.ext hE6).alloc (.cells #[.string (bs r6)] 9))); clear hg6 hE6)
          | (go_at_call 25; refine (nums25 _ _ [(k : Int)] HI.out (by intro q hq; simp at hq; subst hq; unfold i64B; omega) (by simp)).mono ?_; rintro e w5 ⟨rfl, hg5⟩; rw [HR3.out]; have HA5 := Lib.hid (ext_trans (World.grownBy_alloc wr (.cells #[.int .i64 (k : Int)] 3) none) hg5); clear hg5))
        go_wp2
        go_roundw
        case rel => exact ⟨k + 1, _, by omega, by go_num, rfl, by rw [HZ.out, HR3.out, HR4.out, HR6.out.1, HR6.out.2]; exact HO8.out, HN8.out, HE8.out.1, HE8.out.2⟩
        case measure => simp [intOf]; omega
    · obtain rfl : k = 4 := by omega
      have c8 : wr.cell? ⟨n, 8, none⟩ = some (.slice am m.length cm) := HB.out.cell 8
      have hlm := HL.out.m
      simp only at hlm
      by_cases h0 : m.length = 0
      · have HZ := Lib.hid (show setupL ⟨c, d, b, p, f, m⟩ = L from by
          rw [setupL_setF, HSL.out, if_pos (List.length_eq_zero_iff.1 h0), List.append_nil])
        go_wp2
        go_ret
        exact ⟨_, rfl, by rw [HZ.out]; exact ownsRow_le HO.out (by have := HN.out; omega), HNV.out, HE.out⟩
      · have hlp : 0 < m.length := by omega
        obtain ⟨r4, hr4⟩ : ∃ r4, numsL m = r4 := ⟨_, rfl⟩
        have hln := numsL_len HR.out.m
        simp only at hln
        rw [hr4] at hln
        have HZ := Lib.hid (show setupL ⟨c, d, b, p, f, m⟩ = L ++ [markedS ++ r4] from by
          rw [setupL_setF, HSL.out, if_neg (by simp only; rintro rfl; exact h0 rfl), ← hr4])
        have HR4 := Lib.hid hr4
        have a1 : ∀ z, (Op.stringOp .add ⟨#[109, 97, 114, 107, 101, 100]⟩ (bs r4)).run Tryd.prog z = .ok (.string (bs (markedS ++ r4))) z := add_bs markedS r4 (by simp [markedS]; omega)
        obtain ⟨r6, hr6⟩ : ∃ r6, markedS ++ r4 = r6 := ⟨_, rfl⟩
        rw [hr6] at a1
        have HR6 := Lib.hid hr6
        clear hr4 hr6 h0 hln
        go_upto_region 11 with (first
          | (at_builtin; refine append_s25 rfl _ _ rfl (n + 2) (.slice (some ⟨g, 0, none⟩) L.length cap) L rfl HO7.out r6 rfl HT7.out (by omega) (by have := HE7.out.2.lt; have := HO7.out.lt g rfl; omega) ?_ (by simp [Value.ownBlock]); intro v' w8 ho8 hg8 hn8; have HO8 := Lib.hid ho8; have HN8 := Lib.hid hn8; have HE8 := Lib.hid (show w.grownBy w8 none from grown_trans HE7.out.1 hg8 (fun q hq hlt => by have := HO.out.lt q hq; have := HN.out; omega)); clear ho8 hg8 hn8)
          | (go_at_call 25; refine (nums25 _ _ m (HS.out.m.kept HE.out (by simp)) HR.out.m (by omega)).mono ?_; rintro e w6 ⟨rfl, hg6⟩; rw [HR4.out]; have hE6 := hg6; have HO7 := Lib.hid (own_kept25 (own_kept25 HO.out hE6 (by simp)) (World.grownBy_alloc w6 (.cells #[.string (bs r6)] 9) none) (by simp)); have HT7 := Lib.hid (lit_txR w6 (bs r6)); have HE7 := Lib.hid (And.intro (ext_trans (ext_trans HE.out hE6) (World.grownBy_alloc w6 (.cells #[.string (bs r6)] 9) none)) ((HB.out.ext hE6).alloc (.cells #[.string (bs r6)] 9))); clear hg6 hE6))
        go_wp2
        go_ret
        exact ⟨_, rfl, by rw [HZ.out, HR6.out]; exact ownsRow_le HO8.out (by have := HN.out; omega), HN8.out, HE8.out⟩

end Go.Proofs.YtdaifepjmkmpjaaDoor
