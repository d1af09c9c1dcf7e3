/-
  Texts put together: SpD.
-/
import Derived.Test.YtdaifepjmkmpjaaDoorM14
/-
  Package script: wordOf, textOf, listOf.
-/
namespace Go.Proofs.YtdaifepjmkmpjaaDoor
set_option linter.unusedVariables false
set_option linter.unusedSimpArgs false
set_option linter.unusedVariables false
set_option linter.unusedSimpArgs false
set_option maxRecDepth 100000
open Go.RowKit

def hexD : ByteArray := ⟨#[48, 49, 50, 51, 52, 53, 54, 55, 56, 57, 97, 98, 99, 100, 101, 102]⟩
theorem own_make25 (w : World) (n : Nat) (hn : n ≤ 1000000000) : ∃ w', (Instr.makeSlice 74 (.int .i64 0) (.int .i64 (n : Int))).run Tryd.prog w = .ok (.slice (some ⟨w.heap.size, 0, none⟩) 0 n) w' ∧ OwnB w.heap.size w' (.slice (some ⟨w.heap.size, 0, none⟩) 0 n) [] ∧ w.grownBy w' none := by
  obtain ⟨i0, hi, hz0, hz1, hz2⟩ := info_parts Tryd.infoU8
  obtain ⟨w', hrun, h1, h2⟩ := run_make_own w w.heap.size 74 5 i0 (.int .u8 0) 1 Tryd.underlying74 hi hz0 hz1 .i64 .i64 n (by rw [hz2]; omega) (by unfold maxLen; omega) (Nat.le_refl _)
  exact ⟨w', hrun, h1, h2⟩
theorem hexD_at (n : Nat) (h : n < 16) (z : World) : (Instr.index 9 (.string ⟨#[48, 49, 50, 51, 52, 53, 54, 55, 56, 57, 97, 98, 99, 100, 101, 102]⟩) (.int .u8 (n : Int))).run Tryd.prog z = .ok (.int .u8 ((hexB n).toNat : Int)) z := by
  obtain rfl | rfl | rfl | rfl | rfl | rfl | rfl | rfl | rfl | rfl | rfl | rfl | rfl | rfl | rfl | rfl : n = 0 ∨ n = 1 ∨ n = 2 ∨ n = 3 ∨ n = 4 ∨ n = 5 ∨ n = 6 ∨ n = 7 ∨ n = 8 ∨ n = 9 ∨ n = 10 ∨ n = 11 ∨ n = 12 ∨ n = 13 ∨ n = 14 ∨ n = 15 := by omega
  all_goals kernel_rfl
theorem lit_bts2 (w : World) (x y : Int) : Bts (w.alloc (.cells #[.int .u8 x, .int .u8 y] 5)) (.slice (some ⟨w.heap.size, 0, none⟩) 2 2) [x, y] := .inr ⟨w.heap.size, 0, 2, rfl, by simp, fun i hi => by
  obtain rfl | rfl : i = 0 ∨ i = 1 := by simp at hi; omega
  · simp
  · simp⟩
theorem hexN_snoc (l : List UInt8) (c : UInt8) : (hexL (l ++ [c])).map (fun b => (b.toNat : Int)) = (hexL l).map (fun b => (b.toNat : Int)) ++ [((hexB (c.toNat / 16)).toNat : Int), ((hexB (c.toNat % 16)).toNat : Int)] := by rw [hexL_snoc]; simp
set_option maxHeartbeats 1600000 in
theorem wordOf_c (w : World) (s : ByteArray) (hs : s.size ≤ 100000) :
    Calls Tryd.prog 24 #[.string s] w fun e w' => e = .returned (.string (bs (txtL s.data.toList))) ∧ w.grownBy w' none := by
  go_enter Tryd.func24, Tryd.ntmps24
  by_cases h0 : s.toList = []
  · go_wp2
    go_ret
    refine ⟨?_, Ext.refl w⟩
    have : s.data.toList = [] := by rw [← ByteArray.toList_eq]; exact h0
    unfold txtL
    rw [if_pos this]; rfl
  · have hb : s.toList.isEmpty = false := by simpa using h0
    have HB := Lib.hid h0
    obtain ⟨w0, hmk, ho0, hg0⟩ := own_make25 w (2 * s.size) (by omega)
    have hmk2 : (Instr.makeSlice 74 (.int .i64 0) (.int .i64 (2 * (s.size : Int)))).run Tryd.prog w = .ok (.slice (some ⟨w.heap.size, 0, none⟩) 0 (2 * s.size)) w0 := by
      rw [← hmk]; rfl
    have HO0 := Lib.hid ho0
    have HG0 := Lib.hid hg0
    clear hmk ho0 hg0
    go_wp2
    clear hmk2
    go_loopw [3, 13] (fun out i wr => ∃ (k : Nat) (v : Value), k ≤ s.size ∧ i = .int .i64 k ∧ v = out ∧ OwnB w.heap.size wr v ((hexL (s.data.toList.take k)).map fun b => (b.toNat : Int)) ∧ w.grownBy wr none) (fun _ i _ => s.size - (intOf i).toNat)
    case atStart => exact ⟨0, _, by omega, rfl, rfl, HO0.out, HG0.out⟩
    case round =>
      obtain ⟨k, v, hk, rfl, rfl, hO, hE⟩ := hrel
      have HO := Lib.hid hO
      have HE := Lib.hid hE
      by_cases hlt : k < s.size
      · have HT := Lib.hid (take_snoc25 s k hlt)
        have hl : (hexL (s.data.toList.take k)).length ≤ 200000 := by rw [hexL_len]; simp; omega
        obtain ⟨r, hr⟩ : ∃ r, (hexL (s.data.toList.take k)).map (fun b => (b.toNat : Int)) = r := ⟨_, rfl⟩
        have hrl : r.length ≤ 200000 := by rw [← hr, List.length_map]; exact hl
        have HR := Lib.hid hr
        rw [hr] at HO hO
        clear hr hl
        obtain ⟨c, hc⟩ : ∃ c : Nat, (s[k]'hlt).toNat = c := ⟨_, rfl⟩
        have HC := Lib.hid hc
        have hc1 : c < 256 := by rw [← hc]; exact UInt8.toNat_lt _
        obtain ⟨ao, ac, rfl⟩ := owns_shape25 hO
        obtain ⟨p, hp⟩ : ∃ p : Nat, c / 16 = p := ⟨_, rfl⟩
        obtain ⟨q, hq⟩ : ∃ q : Nat, c % 16 = q := ⟨_, rfl⟩
        have HP := Lib.hid (And.intro hp hq)
        have w1 : (c : Int) / 16 = (p : Int) := by omega
        have w2 : (c : Int) % 16 = (q : Int) := by omega
        have s1 := hexD_at p (by omega)
        have s2 := hexD_at q (by omega)
        obtain ⟨x1, hx1⟩ : ∃ x : Int, ((hexB p).toNat : Int) = x := ⟨_, rfl⟩
        obtain ⟨x2, hx2⟩ : ∃ x : Int, ((hexB q).toNat : Int) = x := ⟨_, rfl⟩
        rw [hx1] at s1
        rw [hx2] at s2
        have HX := Lib.hid (show (hexL (s.data.toList.take (k + 1))).map (fun b => (b.toNat : Int)) = r ++ [x1, x2] from by
          rw [HT.out, hexN_snoc, HR.out, HC.out, hp, hq, hx1, hx2])
        have hg2 : wr.grownBy (wr.alloc (.cells #[.int .u8 x1, .int .u8 x2] 5)).drew none := ext_trans (World.grownBy_alloc wr _ none) (Ext.drew _)
        have HA := Lib.hid (own_kept25 HO.out hg2 (by simp))
        have HB2 := Lib.hid (show Bts (wr.alloc (.cells #[.int .u8 x1, .int .u8 x2] 5)).drew (.slice (some ⟨wr.heap.size, 0, none⟩) 2 2) [x1, x2] from lit_bts2 wr x1 x2)
        have HE2 := Lib.hid (ext_trans HE.out hg2)
        clear hO hE hp hq hx1 hx2 hg2
        go_upto_region 7 with fail
        refine region_line [(0, true), (1, true), (2, true), (3, true), (4, true), (5, true), (6, true), (7, true), (8, true), (9, true), (10, true), (11, false), (12, false), (13, true)] (fun _ => True) (by kernel_rfl) (by kernel_rfl) (fun _ _ _ d _ h => by cases d <;> exact h) trivial ?_
        iterate 11 (refine line_read (a' := ?_) rfl (by kernel_rfl) (by kernel_rfl) trivial (fun z hz K hK => ?_) ?_; rotate_left; · go_wp2; exact hK)
        refine line_act rfl fun K hK => ?_
        go_wp2
        refine hK _ _ (fun _ => True) trivial (fun _ h => h) ?_
        clear hK K
        refine line_act rfl fun K hK => ?_
        refine append_b25 rfl _ _ rfl w.heap.size (.slice ao r.length ac) r rfl HA.out _ [x1, x2] rfl HB2.out (by simp; omega) (by have := HE2.out.size; omega) ?_
        intro v' w3 ho3 hg3
        have HO4 := Lib.hid ho3
        have HE4 := Lib.hid (show w.grownBy w3 none from grown_trans HE2.out hg3 (fun p hp hlt => by have := own_le25 HA.out p hp; omega))
        clear ho3 hg3
        go_wp2
        refine hK _ _ (fun _ => True) trivial (fun _ h => h) ?_
        clear hK K
        refine line_read (a' := ?_) rfl (by kernel_rfl) (by kernel_rfl) trivial (fun z hz K hK => ?_) ?_
        rotate_left
        · go_wp2; exact hK
        refine line_end ?_
        go_wp2
        go_roundw
        case rel => exact ⟨k + 1, _, by omega, by go_num, rfl, by rw [HX.out]; exact HO4.out, HE4.out⟩
        case measure => simp [intOf]; omega
      · obtain rfl : k = s.size := by omega
        have hcv := convert_bts (OwnB.bts HO.out)
        rw [nums_str, List.take_of_length_le (by simp)] at hcv
        obtain ⟨r, hr⟩ : ∃ r, (hexL (s.data.toList.take s.size)).map (fun b => (b.toNat : Int)) = r := ⟨_, rfl⟩
        rw [hr] at hO
        obtain ⟨ao, ac, rfl⟩ := owns_shape25 hO
        clear hO hE hr HO
        go_wp2
        go_ret
        refine ⟨?_, HE.out⟩
        unfold txtL
        rw [if_neg (by rw [← ByteArray.toList_eq]; exact HB.out)]
        rfl

/-! ### textOf -/
def digsH : List UInt8 := [48, 49, 50, 51, 52, 53, 54, 55, 56, 57, 97, 98, 99, 100, 101, 102]
theorem idx_fin : ∀ c : Fin 256, Lib.indexByte digsH (UInt8.ofNat c.val) = if idxH c.val < 16 then (idxH c.val : Int) else -1 := by decide +kernel
theorem hexB_fin : ∀ c : Fin 256, idxH c.val < 16 → (hexB (idxH c.val)).toNat = c.val := by decide +kernel
theorem idx_byte (c : Nat) (h : c < 256) : Lib.indexByte digsH ((c : Int).toNat.toUInt8) = if idxH c < 16 then (idxH c : Int) else -1 := idx_fin ⟨c, h⟩
theorem hexB_idx (c : UInt8) (h : idxH c.toNat < 16) : hexB (idxH c.toNat) = c := UInt8.toNat_inj.1 (hexB_fin ⟨c.toNat, c.toNat_lt⟩ h)
theorem idx_c (c : Nat) (hc : c < 256) (w : World) : Calls Tryd.prog 53 #[.string ⟨#[48, 49, 50, 51, 52, 53, 54, 55, 56, 57, 97, 98, 99, 100, 101, 102]⟩, .int .u8 (c : Int)] w fun e w' => e = .returned (.int .i64 (if idxH c < 16 then (idxH c : Int) else -1)) ∧ w' = w := by
  refine (Tryd.strings_IndexByte _ (c : Int) w).mono ?_
  rintro e w' ⟨rfl, rfl⟩
  exact ⟨by rw [← idx_byte c hc]; rfl, rfl⟩
theorem byteH_two (a b : UInt8) (l : List UInt8) (ha : idxH a.toNat < 16) (hb : idxH b.toNat < 16) : byteH (a :: b :: l) 0 = idxH a.toNat * 16 + idxH b.toNat := by
  simp only [byteH, stepH, Nat.mul_zero, Nat.zero_add, List.getD_cons_zero, List.getD_cons_succ]
  rw [if_pos ha, if_pos hb]; omega
theorem byteH_tl (a b : UInt8) (l : List UInt8) (j : Nat) : byteH (a :: b :: l) (j + 1) = byteH l j := by
  unfold byteH
  rw [show 2 * (j + 1) = 2 * j + 1 + 1 by omega]
  rfl
theorem byteH_at (l : List UInt8) (j : Nat) (h1 : idxH (l.getD (2 * j) 0).toNat < 16) (h2 : idxH (l.getD (2 * j + 1) 0).toNat < 16) : byteH l j = idxH (l.getD (2 * j) 0).toNat * 16 + idxH (l.getD (2 * j + 1) 0).toNat := by
  unfold byteH stepH
  rw [if_pos h1, if_pos h2]; omega
theorem hex_back : ∀ (n : Nat) (l : List UInt8), l.length = 2 * n → (∀ c ∈ l, idxH c.toNat < 16) → hexL ((unhL l n).map fun k => UInt8.ofNat k.toNat) = l
  | 0, l, h, _ => by rw [List.length_eq_zero_iff.1 (by omega : l.length = 0)]; rfl
  | n + 1, [], h, _ => by simp at h
  | n + 1, [a], h, _ => by simp at h; omega
  | n + 1, a :: b :: l, h, hc => by
    have ha := hc a (by simp)
    have hb := hc b (by simp)
    have ih := hex_back n l (by simp at h; omega) (fun c h => hc c (by simp [h]))
    have e : unhL (a :: b :: l) (n + 1) = ((idxH a.toNat * 16 + idxH b.toNat : Nat) : Int) :: unhL l n := by
      unfold unhL
      rw [List.range_succ_eq_map, List.map_cons, List.map_map, byteH_two a b l ha hb]
      congr 1
    rw [e, List.map_cons, hexL_cons, ih]
    have e2 : (UInt8.ofNat (((idxH a.toNat * 16 + idxH b.toNat : Nat) : Int)).toNat).toNat = idxH a.toNat * 16 + idxH b.toNat := by
      rw [Int.toNat_natCast, UInt8.toNat_ofNat']; omega
    rw [e2, show (idxH a.toNat * 16 + idxH b.toNat) / 16 = idxH a.toNat by omega, show (idxH a.toNat * 16 + idxH b.toNat) % 16 = idxH b.toNat by omega, hexB_idx a ha, hexB_idx b hb]
theorem hexL_idx {s : List UInt8} : ∀ c ∈ hexL s, idxH c.toNat < 16 := by
  intro c hc
  have := hexL_mem c hc
  unfold idxH
  split
  · omega
  · split <;> omega
theorem or_fin : ∀ P Q : Fin 16, bits BinOp.or IntKind.i64 ((P.val : Int) * 16) (Q.val : Int) = ((P.val * 16 + Q.val : Nat) : Int) := by decide +kernel
theorem or_hex {P Q : Nat} (hP : P < 16) (hQ : Q < 16) : bits BinOp.or IntKind.i64 ((P : Int) * 16) (Q : Int) = ((P * 16 + Q : Nat) : Int) := or_fin ⟨P, hP⟩ ⟨Q, hQ⟩
/-- Which text a word tells, if any. -/
def TxtA (s : List UInt8) (w : World) (e : Ending) (w' : World) : Prop := ∃ d ok, e = .returned (.tuple #[.string (bs d), .bool ok]) ∧ ((ok = true ∧ s = txtL d ∧ d.length ≤ s.length) ∨ (ok = false ∧ d = [] ∧ ∀ c, s ≠ txtL c)) ∧ w.grownBy w' none
theorem txtA_no {s : List UInt8} {w w' : World} (h : ∀ c, s ≠ txtL c) (hg : w.grownBy w' none) : TxtA s w (.returned (.tuple #[.string ⟨#[]⟩, .bool false])) w' := ⟨[], false, rfl, .inr ⟨rfl, rfl, h⟩, hg⟩
theorem not_txt {s : List UInt8} (h45 : s ≠ [45]) (h : ∀ c, s ≠ hexL c) : ∀ c, s ≠ txtL c := fun c hc => by
  unfold txtL at hc
  split at hc
  · exact h45 hc
  · exact h c hc
set_option maxHeartbeats 3200000 in
theorem textOf_c (w : World) (s : ByteArray) (hs : s.size ≤ 1000000) :
    Calls Tryd.prog 39 #[.string s] w (TxtA s.data.toList w) := by
  have hsl : s.data.toList.length = s.size := by simp
  by_cases hd : s.toList = [45]
  · have hd2 : (s.toList == [45]) = true := by simpa using hd
    have HD := Lib.hid (show s.data.toList = [45] from by rw [← ByteArray.toList_eq]; exact hd)
    clear hd hsl
    go_enter Tryd.func39, Tryd.ntmps39
    go_wp2
    go_ret2
    exact ⟨[], true, rfl, .inl ⟨rfl, by rw [HD.out]; rfl, by simp⟩, Ext.refl w⟩
  · have hd2 : (s.toList == [45]) = false := by simpa using hd
    have HD := Lib.hid (show s.data.toList ≠ [45] from by rw [← ByteArray.toList_eq]; exact hd)
    clear hd
    by_cases h0 : s.size = 0
    · have hs0 : s.toList = [] := by rw [ByteArray.toList_eq]; exact List.length_eq_zero_iff.1 (by simpa using h0)
      have hs1 : s.toList.isEmpty = true := by simpa using hs0
      have HS0 := Lib.hid (show s.data.toList = [] from by rw [← ByteArray.toList_eq]; exact hs0)
      clear h0 hs0 hsl
      go_enter Tryd.func39, Tryd.ntmps39
      go_wp2
      go_ret2
      exact txtA_no (fun c hc => txtL_ne c (by rw [← hc, HS0.out])) (Ext.refl w)
    · have hs0 : s.toList ≠ [] := by rw [ByteArray.toList_eq]; intro h; exact h0 (by have := congrArg List.length h; simpa using this)
      have hs1 : s.toList.isEmpty = false := by simpa using hs0
      clear hs0
      by_cases hodd : s.size % 2 = 1
      · have hm : ((s.size : Int) % 2 != 0) = true := by rw [bne_iff_ne]; omega
        have HO := Lib.hid (And.intro hsl hodd)
        clear hsl hodd
        go_enter Tryd.func39, Tryd.ntmps39
        go_wp2
        go_ret2
        exact txtA_no (not_txt HD.out fun c hc => by have h1 := congrArg List.length hc; rw [hexL_len, HO.out.1] at h1; have := HO.out.2; omega) (Ext.refl w)
      · obtain ⟨n, hn⟩ : ∃ n, s.size = 2 * n := ⟨s.size / 2, by omega⟩
        have hm : ((s.size : Int) % 2 != 0) = false := by rw [bne_eq_false_iff_eq]; omega
        have hq2 : (s.size : Int) / 2 = (n : Int) := by omega
        obtain ⟨w0, hmk, ho0, hg0⟩ := own_make25 w n (by omega)
        have HO0 := Lib.hid ho0
        have HG0 := Lib.hid hg0
        have HN := Lib.hid (And.intro hsl (And.intro hn h0))
        clear hsl hodd ho0 hg0 hn
        go_enter Tryd.func39, Tryd.ntmps39
        go_wp2
        clear hm hq2 hmk
        go_loopw [4, 5] (fun out i wr => ∃ (j : Nat) (v : Value), 2 * j ≤ s.size ∧ i = .int .i64 ((2 * j : Nat) : Int) ∧ v = out ∧ OwnB w.heap.size wr v (unhL s.data.toList j) ∧ (∀ k, k < 2 * j → idxH (s.data.toList.getD k 0).toNat < 16) ∧ w.grownBy wr none) (fun _ i _ => s.size + 2 - (intOf i).toNat)
        case atStart => exact ⟨0, _, by omega, rfl, rfl, HO0.out, fun k hk => by omega, HG0.out⟩
        case round =>
          obtain ⟨j, v, hj, rfl, rfl, hO, hA, hE⟩ := hrel
          have HO := Lib.hid hO
          have HE := Lib.hid hE
          have HA := Lib.hid hA
          have hul : (unhL s.data.toList j).length = j := by simp [unhL]
          obtain ⟨i, hi⟩ : ∃ i, 2 * j = i := ⟨_, rfl⟩
          rw [hi] at hj ⊢
          have HI := Lib.hid hi
          have hjl : j ≤ 1000000 := by omega
          obtain ⟨xs, hxs⟩ : ∃ xs, unhL s.data.toList j = xs := ⟨_, rfl⟩
          have HXS := Lib.hid hxs
          rw [hxs] at hO HO hul
          obtain ⟨ao, ac, rfl⟩ := owns_shape25 hO
          have HUL := Lib.hid hul
          clear hO hE hA hi hxs hul
          by_cases hlt : i < s.size
          · have hlt1 : i + 1 < s.size := by have := HN.out.2.1; have := HI.out; omega
            obtain ⟨c, hc⟩ : ∃ c : Nat, (s[i]'hlt).toNat = c := ⟨_, rfl⟩
            obtain ⟨d, hd⟩ : ∃ d : Nat, (s[i + 1]'hlt1).toNat = d := ⟨_, rfl⟩
            have hc1 : c < 256 := by rw [← hc]; exact UInt8.toNat_lt _
            have hd1 : d < 256 := by rw [← hd]; exact UInt8.toNat_lt _
            have HC := Lib.hid (show (s.data.toList.getD i 0).toNat = c ∧ (s.data.toList.getD (i + 1) 0).toNat = d from by rw [getD_str s i hlt, getD_str s (i + 1) hlt1]; exact ⟨hc, hd⟩)
            have IC := idx_c c hc1
            have ID := idx_c d hd1
            obtain ⟨p, hp⟩ : ∃ p : Int, (if idxH c < 16 then (idxH c : Int) else -1) = p := ⟨_, rfl⟩
            obtain ⟨q, hq⟩ : ∃ q : Int, (if idxH d < 16 then (idxH d : Int) else -1) = q := ⟨_, rfl⟩
            rw [hp] at IC
            rw [hq] at ID
            have HIC := Lib.hid IC
            have HID := Lib.hid ID
            have HPQ := Lib.hid (And.intro hp hq)
            clear IC ID hp hq
            go_upto_region 9 with fail
            refine region_line [(0, true), (1, true), (2, true), (4, true), (5, true), (6, true), (7, true), (3, false), (8, false), (9, true), (10, true)] (fun _ => True) (by kernel_rfl) (by kernel_rfl) (fun _ _ _ d _ h => by cases d <;> exact h) trivial ?_
            iterate 7 (refine line_read (a' := ?_) rfl (by kernel_rfl) (by kernel_rfl) trivial (fun z hz K hK => ?_) ?_; rotate_left; · go_wp2; exact hK)
            refine line_act rfl fun K hK => ?_
            go_wp2_with (go_at_call 53; refine (HIC.out _).mono ?_; rintro e w1 ⟨rfl, rfl⟩)
            refine hK _ _ (fun _ => True) trivial (fun _ h => h) ?_
            clear hK K
            refine line_act rfl fun K hK => ?_
            go_wp2_with (go_at_call 53; refine (HID.out _).mono ?_; rintro e w1 ⟨rfl, rfl⟩)
            refine hK _ _ (fun _ => True) trivial (fun _ h => h) ?_
            clear hK K
            iterate 2 (refine line_read (a' := ?_) rfl (by kernel_rfl) (by kernel_rfl) trivial (fun z hz K hK => ?_) ?_; rotate_left; · go_wp2; exact hK)
            refine line_end ?_
            by_cases hp : idxH c < 16
            · by_cases hq : idxH d < 16
              · have h1 := HPQ.out.1
                have h2 := HPQ.out.2
                rw [if_pos hp] at h1
                rw [if_pos hq] at h2
                obtain ⟨P, hP⟩ : ∃ P, idxH c = P := ⟨_, rfl⟩
                obtain ⟨Q, hQ⟩ : ∃ Q, idxH d = Q := ⟨_, rfl⟩
                rw [hP] at h1 hp
                rw [hQ] at h2 hq
                subst h1 h2
                have HX := Lib.hid (And.intro hP hQ)
                clear hP hQ HPQ
                have hor := or_hex hp hq
                obtain ⟨y, hy⟩ : ∃ y, P * 16 + Q = y := ⟨_, rfl⟩
                rw [hy] at hor
                have hyw : (y : Int) % 256 = (y : Int) := by omega
                have hyw2 : IntKind.u8.wrap (y : Int) = (y : Int) := by rw [IntWalk.u8_in _ (by omega)]
                have hg2 : wr.grownBy (wr.alloc (.cells #[.int .u8 (y : Int)] 5)).drew none := ext_trans (World.grownBy_alloc wr _ none) (Ext.drew _)
                have HA2 := Lib.hid (own_kept25 HO.out hg2 (by simp))
                have HB2 := Lib.hid (show Bts (wr.alloc (.cells #[.int .u8 (y : Int)] 5)).drew (.slice (some ⟨wr.heap.size, 0, none⟩) 1 1) [(y : Int)] from lit_bts1 wr (y : Int))
                have HE2 := Lib.hid (ext_trans HE.out hg2)
                have HU := Lib.hid (show unhL s.data.toList (j + 1) = xs ++ [(y : Int)] from by
                  have hh1 : idxH (s.data.toList.getD (2 * j) 0).toNat = P := by rw [HI.out, HC.out.1, HX.out.1]
                  have hh2 : idxH (s.data.toList.getD (2 * j + 1) 0).toNat = Q := by rw [HI.out, HC.out.2, HX.out.2]
                  rw [unhL_succ, HXS.out, byteH_at _ _ (by rw [hh1]; exact hp) (by rw [hh2]; exact hq), hh1, hh2, hy])
                have HY := Lib.hid (And.intro hp hq)
                have hx64 : xs.length ≤ 1000000 := by rw [HUL.out]; exact hjl
                clear hy hg2
                go_upto_region 12 with fail
                go_wp2_with (at_builtin; go_loud (refine append_b25 rfl _ _ rfl w.heap.size (.slice ao xs.length ac) xs rfl HA2.out _ [(y : Int)] rfl HB2.out (by simp; omega) (by have := HE2.out.size; omega) ?_); intro v' w3 ho3 hg3; have HO4 := Lib.hid ho3; have HE4 := Lib.hid (show w.grownBy w3 none from grown_trans HE2.out hg3 (fun p hp hlt => by have := own_le25 HA2.out p hp; omega)); clear ho3 hg3)
                go_roundw
                case rel =>
                  refine ⟨j + 1, _, by have := HI.out; omega, by rw [← HI.out]; go_num, rfl, by rw [HU.out]; exact HO4.out, fun k hk => ?_, HE4.out⟩
                  rcases Nat.lt_or_ge k (2 * j) with h | h
                  · exact HA.out k h
                  · obtain rfl | rfl : k = i ∨ k = i + 1 := by have := HI.out; omega
                    · rw [HC.out.1, HX.out.1]; exact HY.out.1
                    · rw [HC.out.2, HX.out.2]; exact HY.out.2
                case measure => simp [intOf]; omega
              · have h1 := HPQ.out.1
                have h2 := HPQ.out.2
                rw [if_pos hp] at h1
                rw [if_neg hq] at h2
                subst h2
                have HX := Lib.hid (And.intro h1 hq)
                have hp0 : ¬ p < 0 := by omega
                clear HPQ h1
                go_wp2
                go_ret2
                refine txtA_no (not_txt HD.out fun x hx => HX.out.2 ?_) (ext_trans HE.out (Ext.drew wr))
                rw [← HC.out.2, hx]
                exact hexL_idx _ (by rw [List.getD_eq_getElem?_getD, List.getElem?_eq_getElem (by rw [← hx, HN.out.1]; exact hlt1)]; exact List.getElem_mem _)
            · have h1 := HPQ.out.1
              rw [if_neg hp] at h1
              subst h1
              have HX := Lib.hid hp
              clear HPQ hp
              go_wp2
              go_ret2
              refine txtA_no (not_txt HD.out fun x hx => HX.out ?_) (ext_trans HE.out (Ext.drew wr))
              rw [← HC.out.1, hx]
              exact hexL_idx _ (by rw [List.getD_eq_getElem?_getD, List.getElem?_eq_getElem (by rw [← hx, HN.out.1]; exact hlt)]; exact List.getElem_mem _)
          · have hcv := convert_bts (OwnB.bts HO.out)
            rw [str_nums] at hcv
            obtain ⟨dl, hdl⟩ : ∃ dl, xs.map (fun n => UInt8.ofNat n.toNat) = dl := ⟨_, rfl⟩
            rw [hdl] at hcv
            have HDL := Lib.hid hdl
            clear hdl HO
            go_wp2
            go_ret2
            have hjn : i = s.size := by omega
            have hback := hex_back j s.data.toList (by rw [HN.out.1, HI.out, hjn]) (fun c hc => by
              obtain ⟨k, hk, e⟩ := List.getElem_of_mem hc
              have := HA.out k (by rw [HI.out, hjn, ← HN.out.1]; exact hk)
              rw [List.getD_eq_getElem?_getD, List.getElem?_eq_getElem hk, Option.getD_some, e] at this
              exact this)
            rw [HXS.out, HDL.out] at hback
            have hne : dl ≠ [] := by
              rintro rfl
              have h1 := congrArg List.length hback
              rw [HN.out.1] at h1
              exact h0 (by simpa [hexL] using h1.symm)
            refine ⟨dl, true, rfl, .inl ⟨rfl, ?_, ?_⟩, HE.out⟩
            · unfold txtL
              rw [if_neg hne, hback]
            · rw [← HDL.out, List.length_map, HUL.out, HN.out.1]; have := HI.out; omega
end Go.Proofs.YtdaifepjmkmpjaaDoor
