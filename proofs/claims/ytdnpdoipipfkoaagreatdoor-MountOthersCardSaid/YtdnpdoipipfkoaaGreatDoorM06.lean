/-
  Texts put together: WM SA SB FA FB FC FD SN FE TB Tree.
-/
import Derived.Test.YtdnpdoipipfkoaaGreatDoorM05
import Derived.Test.YtdnpdoipipfkoaaGreatDoorM01
import Derived.Lib.Hide
import Derived.Laws.BitsAllLaws
namespace Go.Proofs.YtdnpdoipipfkoaaGreatDoor
set_option linter.unusedVariables false
set_option linter.unusedSimpArgs false
set_option linter.unusedVariables false
set_option linter.unusedSimpArgs false
set_option maxRecDepth 100000
open Go.RowKit
theorem flag_is {br c : Nat} {xs : List Int} {e0 : Int} {w : World} (hR : RdIs 218 w br c xs e0) (hB : Byts xs) {b : Bool} {e1 : Int} {x1 : List Int} (h1 : flagB xs e0 = b) (h2 : numX 1 xs e0 = x1) (h3 : flagE xs e0 = e1) :
   Calls Tryz.prog 145 #[.pointer (some ⟨br, 0, none⟩)] w fun e w' => e = .returned (.bool b) ∧ RdIs 218 w' br c x1 e1 ∧ w.grownBy w' (some br) := by
 subst h1 h2 h3
 exact flag_any br c xs e0 w hR hB
theorem done_is {br c : Nat} {xs : List Int} {e0 : Int} {w : World} (hR : RdIs 218 w br c xs e0) {e1 : Int} (h1 : doneE xs e0 = e1) :
   Calls Tryz.prog 146 #[.pointer (some ⟨br, 0, none⟩)] w fun e w' => e = .returned (.int .i64 e1) ∧ RdIs 218 w' br c xs e1 ∧ w.grownBy w' (some br) := by
 subst h1
 exact done_any br c xs e0 w hR
theorem put_is {v0 : Value} {xs : List Int} {v n : Int} {w : World} (hb : Bts w v0 xs) (hm : xs.length ≤ 140737488350000) (hv9 : v ≤ 9223372036854775807) {ys : List Int} (h : putL xs v n = ys) :
   Calls Tryz.prog 182 #[v0, .int .i64 v, .int .i64 n] w (Made w.heap.size w ys) := by subst h; exact put_any v0 xs v n w hb hm hv9
theorem text_is {v0 : Value} {xs : List Int} {s : ByteArray} {w : World} (hb : Bts w v0 xs) (hm : xs.length ≤ 140737488200000) (hs9 : s.size ≤ 9223372036854775807) {ys : List Int} (h : textL xs s = ys) :
   Calls Tryz.prog 201 #[v0, .string s] w (Made w.heap.size w ys) := by subst h; exact text_any v0 xs s w hb hm hs9
theorem fits_is {v n : Int} {w : World} (hv9 : v ≤ 9223372036854775807) {b : Bool} (h : fitsB v n = b) :
   Calls Tryz.prog 200 #[.int .i64 v, .int .i64 n] w fun e w' => e = .returned (.bool b) ∧ w = w' := by subst h; exact fits_any v n w hv9
theorem convert_is {w : World} {v : Value} {xs : List Int} {s : ByteArray} (h : Bts w v xs) (hs : strOfNums xs = s) : (convert 26 9 v).run Tryz.prog w = .ok (.string s) w := by subst hs; exact convert_bts h
end Go.Proofs.YtdnpdoipipfkoaaGreatDoor

namespace Go.Proofs.YtdnpdoipipfkoaaGreatDoor
set_option linter.unusedVariables false
set_option linter.unusedSimpArgs false
set_option linter.unusedVariables false
set_option linter.unusedSimpArgs false
set_option maxRecDepth 100000
def stp (r : Nat) : Nat := if r % 2 = 1 then (r / 2) ^^^ 2197175160 else r / 2
def shN (r : Nat) : Nat → Nat
 | 0 => r
 | k + 1 => stp (shN r k)
def crcR (r : Nat) (xs : List Int) : Nat := xs.foldl (fun r c => shN (r ^^^ c.toNat) 8) r
def crcOn (s : Nat) (xs : List Int) : Nat := 4294967295 - crcR (4294967295 - s) xs
def crcOf (xs : List Int) : Nat := 4294967295 - crcR 4294967295 xs
theorem stp_lt {r : Nat} (h : r < 4294967296) : stp r < 4294967296 := by
 unfold stp
 split
 · exact Nat.xor_lt_two_pow (n := 32) (by omega) (by decide)
 · omega
theorem shN_lt {r : Nat} (h : r < 4294967296) : ∀ k, shN r k < 4294967296
 | 0 => h
 | k + 1 => stp_lt (shN_lt h k)
theorem xor_byte_lt {r c : Nat} (h : r < 4294967296) (hc : c < 256) : r ^^^ c < 4294967296 := Nat.xor_lt_two_pow (n := 32) h (by omega)
theorem crcR_lt : ∀ {xs : List Int} {r : Nat}, r < 4294967296 → (∀ x ∈ xs, 0 ≤ x ∧ x < 256) → crcR r xs < 4294967296
 | [], _, h, _ => h
 | c :: l, r, h, hB => by
   have := hB c (by simp)
   exact crcR_lt (xs := l) (shN_lt (xor_byte_lt h (by omega)) 8) (fun x hx => hB x (by simp [hx]))
theorem crcR_snoc (r : Nat) (xs : List Int) (c : Int) : crcR r (xs ++ [c]) = shN (crcR r xs ^^^ c.toNat) 8 := by simp [crcR]
theorem crcOf_lt (xs : List Int) : crcOf xs < 4294967296 := by unfold crcOf; omega
end Go.Proofs.YtdnpdoipipfkoaaGreatDoor

namespace Go.Proofs.YtdnpdoipipfkoaaGreatDoor
set_option linter.unusedVariables false
set_option linter.unusedSimpArgs false
set_option linter.unusedVariables false
set_option linter.unusedSimpArgs false
set_option maxRecDepth 100000
open Go.RowKit
theorem shift8 (r : Nat) (w : World) (hr : r < 4294967296) :
   Calls Tryz.prog 208 #[.int .u32 (r : Int), .int .i64 8] w fun e w' => e = .returned (.int .u32 ((shN r 8 : Nat) : Int)) ∧ w = w' := by
 go_enter Tryz.func208, Tryz.ntmps208
 go_wp2
 go_loopw [0, 7] (fun v i wr => ∃ k : Nat, k ≤ 8 ∧ i = .int .i64 k ∧ v = .int .u32 ((shN r k : Nat) : Int) ∧ w = wr) (fun _ i _ => 8 - (intOf i).toNat)
 case atStart => exact ⟨0, by omega, rfl, rfl, rfl⟩
 case round =>
   obtain ⟨k, hk, rfl, rfl, rfl⟩ := hrel
   by_cases hlt : k < 8
   · have hs := shN_lt hr k
     have hsk : shN r (k + 1) = stp (shN r k) := rfl
     generalize shN r k = s at *
     have hx : bits .xor .u32 ((s : Int) / 2) 2197175160 = ((s / 2 ^^^ 2197175160 : Nat) : Int) := by
       have := u32_xor_nat (s / 2) 2197175160 (by omega) (by omega)
       simpa using this
     have ha : bits .and .u32 (s : Int) 1 = ((s % 2 : Nat) : Int) := by
       have := u32_and_nat s 1 hs (by omega)
       rw [Nat.and_one_is_mod] at this
       simpa using this
     unfold stp at hsk
     by_cases ho : s % 2 = 1
     · rw [if_pos ho] at hsk
       rw [ho] at ha
       have HS := Lib.hid hsk
       clear hsk ho
       go_wp2
       go_roundw
       case rel => exact ⟨k + 1, by omega, by go_num, by rw [HS.out], trivial⟩
       case measure => simp [intOf]; omega
     · have ho : s % 2 = 0 := by omega
       rw [if_neg (by omega)] at hsk
       rw [ho] at ha
       have HS := Lib.hid hsk
       clear hsk ho
       go_wp2
       go_roundw
       case rel => exact ⟨k + 1, by omega, by go_num, by rw [HS.out]; simp, trivial⟩
       case measure => simp [intOf]; omega
   · obtain rfl : k = 8 := by omega
     go_wp2
     go_ret
     exact ⟨rfl, rfl⟩
theorem not32 {x : Nat} (h : x < 4294967296) : 4294967295 ^^^ x = 4294967295 - x := by
 have e : 4294967295 - x = 2 ^ 32 - (x + 1) := by omega
 rw [e]
 apply Nat.eq_of_testBit_eq
 intro i
 rw [Nat.testBit_xor, Nat.testBit_two_pow_sub_succ (n := 32) h, show 4294967295 = 2 ^ 32 - 1 from rfl, Nat.testBit_two_pow_sub_one]
 by_cases hi : i < 32
 · simp [hi]
 · have hx : x.testBit i = false := Nat.testBit_lt_two_pow (Nat.lt_of_lt_of_le h (Nat.pow_le_pow_right (n := 2) (i := 32) (by omega) (by omega)))
   simp [hi, hx]
theorem notU (x y : Nat) (h : x < 4294967296) (hy : 4294967295 - x = y) : bits .xor .u32 IntKind.u32.max (x : Int) = (y : Int) := by
 have e := u32_xor_nat 4294967295 x (by omega) h
 rw [not32 h, hy] at e
 rw [show IntKind.u32.max = ((4294967295 : Nat) : Int) from rfl, e]
theorem Bts.sform {w : World} {v : Value} {xs : List Int} (h : Bts w v xs) : ∃ ao cap b off, v = .slice ao xs.length cap ∧ ∀ k, k < xs.length → ao = some ⟨b, off, none⟩ ∧ w.cell? ⟨b, off + k, none⟩ = some (.int .u8 (xs.getD k 0)) := by
 rcases h with ⟨rfl, rfl⟩ | ⟨b, off, cap, rfl, _, hc⟩
 · exact ⟨none, 0, 0, 0, rfl, fun k hk => by simp at hk⟩
 · exact ⟨_, cap, b, off, rfl, fun k hk => ⟨rfl, hc k hk⟩⟩
theorem crcR_take {r : Nat} {xs : List Int} {k d : Nat} (hk : k < xs.length) (hd : xs.getD k 0 = (d : Int)) : crcR r (xs.take (k + 1)) = shN (crcR r (xs.take k) ^^^ d) 8 := by
 rw [List.take_add_one, List.getElem?_eq_getElem hk, Option.toList_some, crcR_snoc]
 rw [List.getD_eq_getElem?_getD, List.getElem?_eq_getElem hk] at hd
 simp only [Option.getD_some] at hd
 rw [hd]
 rfl
set_option maxHeartbeats 400000 in
theorem worked_any (s : Nat) (v : Value) (xs : List Int) (w : World) (hs : s < 4294967296) (hb : Bts w v xs) (hB : ∀ x ∈ xs, 0 ≤ x ∧ x < 256) (hm : xs.length ≤ 9223372036854775807) :
   Calls Tryz.prog 205 #[.int .u32 (s : Int), v] w fun e w' => e = .returned (.int .u32 ((crcOn s xs : Nat) : Int)) ∧ w = w' := by
 obtain ⟨t, ht⟩ : ∃ t, 4294967295 - s = t := ⟨_, rfl⟩
 have hn := notU s t hs ht
 have htl : t < 4294967296 := by omega
 obtain ⟨ao, cap, b, off, rfl, hc⟩ := hb.sform
 have HC := Lib.hid hc
 have HB := Lib.hid hB
 have hgo : crcOn s xs = 4294967295 - crcR t xs := by rw [← ht]; rfl
 rw [hgo]
 obtain ⟨g, hg⟩ : ∃ g, crcR t xs = g := ⟨_, rfl⟩
 have hgl : g < 4294967296 := by rw [← hg]; exact crcR_lt htl hB
 obtain ⟨z, hz⟩ : ∃ z, 4294967295 - g = z := ⟨_, rfl⟩
 have hn2 := notU g z hgl hz
 rw [hg, hz]
 have HG := Lib.hid hg
 clear hb hc hB ht hgo hg hz
 go_enter Tryz.func205, Tryz.ntmps205
 go_wp2
 go_loopw [5, 12] (fun v i wr => ∃ k : Nat, k ≤ xs.length ∧ i = .int .i64 k ∧ v = .int .u32 ((crcR t (xs.take k) : Nat) : Int) ∧ w = wr) (fun _ i _ => xs.length - (intOf i).toNat)
 case atStart => exact ⟨0, by omega, rfl, rfl, rfl⟩
 case round =>
   obtain ⟨k, hk, rfl, rfl, rfl⟩ := hrel
   by_cases hlt : k < xs.length
   · have hd : 0 ≤ xs.getD k 0 ∧ xs.getD k 0 < 256 := by
       rw [List.getD_eq_getElem?_getD, List.getElem?_eq_getElem hlt]
       exact HB.out _ (List.getElem_mem hlt)
     obtain ⟨rfl, hcell⟩ := HC.out k hlt
     obtain ⟨d, hde⟩ := Int.eq_ofNat_of_zero_le hd.1
     have hd2 : d < 256 := by omega
     have hst := crcR_take (r := t) hlt hde
     have hrl := crcR_lt (r := t) (xs := xs.take k) htl (fun x hx => HB.out x (List.mem_of_mem_take hx))
     rw [hde] at hcell
     generalize crcR t (xs.take k) = r at *
     obtain ⟨y, hy⟩ : ∃ y, r ^^^ d = y := ⟨_, rfl⟩
     have hyl : y < 4294967296 := by rw [← hy]; exact xor_byte_lt hrl hd2
     have hx : bits .xor .u32 (r : Int) (d : Int) = (y : Int) := by rw [← hy]; exact u32_xor_nat r d hrl (by omega)
     rw [hy] at hst
     have hw : IntKind.u32.wrap (d : Int) = (d : Int) := by simp [IntKind.wrap, IntKind.bits, IntKind.signed]; omega
     have SH := fun w => shift8 y w hyl
     have HS := Lib.hid hst
     generalize shN y 8 = q at *
     clear hst hy hd hde hrl
     go_wp2_with (go_at_call 208; refine (SH _).mono ?_; rintro e w' ⟨rfl, rfl⟩)
     go_roundw
     case rel => exact ⟨k + 1, by omega, by go_num, by rw [HS.out], trivial⟩
     case measure => simp [intOf]; omega
   · obtain rfl : k = xs.length := by omega
     have e : crcR t (xs.take xs.length) = g := by rw [List.take_length]; exact HG.out
     rw [e]
     clear e
     go_wp2
     go_ret
     exact ⟨rfl, rfl⟩
theorem sumOf_any (v : Value) (xs : List Int) (w : World) (hb : Bts w v xs) (hB : ∀ x ∈ xs, 0 ≤ x ∧ x < 256) (hm : xs.length ≤ 9223372036854775807) :
   Calls Tryz.prog 191 #[v] w fun e w' => e = .returned (.int .u32 ((crcOf xs : Nat) : Int)) ∧ w = w' := by
 have W := worked_any 0 v xs w (by omega) hb hB hm
 rw [show crcOn 0 xs = crcOf xs from rfl] at W
 generalize crcOf xs = g at *
 clear hb hB hm
 go_enter Tryz.func191, Tryz.ntmps191
 go_wp2_with (go_at_call 205; refine W.mono ?_; rintro e w' ⟨rfl, rfl⟩)
 go_ret
 exact ⟨rfl, rfl⟩
end Go.Proofs.YtdnpdoipipfkoaaGreatDoor

namespace Go.Proofs.YtdnpdoipipfkoaaGreatDoor
set_option linter.unusedVariables false
set_option linter.unusedSimpArgs false
set_option linter.unusedVariables false
set_option linter.unusedSimpArgs false
set_option maxRecDepth 100000
open Go.RowKit
def hdL (k : Int) (xs : List Int) : List Int := leB k 1 ++ (leB xs.length 2 ++ xs)
def frL (k : Int) (xs : List Int) : List Int := hdL k xs ++ leB (crcOf (hdL k xs)) 4
def mkE (k : Int) (xs : List Int) : Int := if 0 ≤ k ∧ k ≤ 255 then (if xs.length ≤ 65535 then 0 else 3) else 1
def mkL (k : Int) (xs : List Int) : List Int := if mkE k xs = 0 then frL k xs else []
theorem leB_byts (v : Int) (n : Nat) : Byts (leB v n) := by
 intro x hx
 simp only [leB, List.mem_map, List.mem_range] at hx
 obtain ⟨k, _, rfl⟩ := hx
 omega
theorem byts_append {xs ys : List Int} (h : Byts xs) (h2 : Byts ys) : Byts (xs ++ ys) := fun x hx => by
 rcases List.mem_append.1 hx with h' | h'
 · exact h x h'
 · exact h2 x h'
theorem hdL_byts {k : Int} {xs : List Int} (h : Byts xs) : Byts (hdL k xs) := byts_append (leB_byts _ _) (byts_append (leB_byts _ _) h)
theorem hdL_len (k : Int) (xs : List Int) : (hdL k xs).length = xs.length + 3 := by simp [hdL, leB_len]; omega
theorem frL_len (k : Int) (xs : List Int) : (frL k xs).length = xs.length + 7 := by simp [frL, hdL_len, leB_len]
theorem frL_byts {k : Int} {xs : List Int} (h : Byts xs) : Byts (frL k xs) := byts_append (hdL_byts h) (leB_byts _ _)
theorem byt_str {xs : List Int} (h : Byts xs) : byt (strOfNums xs) = xs := by
 apply List.ext_getElem?
 intro i
 simp only [byt, strOfNums_data, List.getElem?_map]
 cases hi : xs[i]? with
 | none => simp
 | some n =>
   have hn := h n (List.mem_of_getElem? hi)
   simp
   omega
theorem str_size (xs : List Int) : (strOfNums xs).size = xs.length := by
 show (strOfNums xs).data.size = _
 rw [← Array.length_toList, strOfNums_data, List.length_map]
def MadeE (w : World) (ys : List Int) (err : Int) (e : Ending) (w' : World) : Prop :=
 ∃ v', e = .returned (.tuple #[v', .int .i64 err]) ∧ w'.ownsRow w.heap.size 5 1 v' ys.length (ys.map (Value.int .u8)) ∧ w.grownBy w' none
theorem owns_nil (w : World) (B : Nat) : w.ownsRow B 5 1 (.slice none 0 0) 0 [] := ⟨rfl, .inl ⟨rfl, rfl⟩⟩
theorem put_one {k : Int} (h0 : 0 ≤ k) (h1 : k ≤ 255) : putL [] k 1 = leB k 1 := by
 have : fitsB k 1 = true := by simp [fitsB]; omega
 simp [putL, this]
set_option maxRecDepth 100000 in
set_option maxHeartbeats 400000 in
theorem make_any (k : Int) (v : Value) (xs : List Int) (w : World) (hb : Bts w v xs) (hB : Byts xs) (hm : xs.length ≤ 140737488200000) (hk : k ≤ 9223372036854775807) :
   Calls Tryz.prog 183 #[.int .i64 k, v] w (MadeE w (mkL k xs) (mkE k xs)) := by
 by_cases hk1 : 0 ≤ k ∧ k ≤ 255
 · by_cases hl : xs.length ≤ 65535
   · have e0 : mkE k xs = 0 := by unfold mkE; rw [if_pos hk1, if_pos hl]
     have e1 : mkL k xs = frL k xs := by unfold mkL; rw [if_pos e0]
     rw [e0, e1]
     have hfit : fitsB k 1 = true := by simp [fitsB]; omega
     have htx : textL (leB k 1) (strOfNums xs) = hdL k xs := by
       unfold textL
       rw [str_size, if_pos hl, byt_str hB]
       simp [hdL]
     have hcv := fun x (hx : Ext w x) => convert_is (s := strOfNums xs) (hb.kept hx (by simp)) rfl
     have hcb := hdL_byts (k := k) hB
     have hcl := hdL_len k xs
     have hsz := str_size xs
     have hfr : frL k xs = hdL k xs ++ leB (crcOf (hdL k xs)) 4 := rfl
     have hcr := crcOf_lt (hdL k xs)
     rw [hfr]
     generalize hdL k xs = h at *
     obtain ⟨ao, cap, b, off, rfl, _⟩ := hb.sform
     generalize hst : strOfNums xs = s at *
     have hput : putL h (crcOf h : Nat) 4 = h ++ leB (crcOf h : Nat) 4 := by
       have : fitsB ((crcOf h : Nat) : Int) 4 = true := by simp [fitsB]; omega
       simp [putL, this]
     have hwr : IntKind.i64.wrap ((crcOf h : Nat) : Int) = ((crcOf h : Nat) : Int) := IntWalk.i64_in _ ⟨by omega, by omega⟩
     have SO := fun v w hb => sumOf_any v h w hb hcb (by omega)
     have HT := Lib.hid htx
     have HP := Lib.hid hput
     have HF := Lib.hid hfit
     have HK := Lib.hid hk1
     have HS := Lib.hid hsz
     have hl2 : ¬ (65535 : Int) < (xs.length : Int) := by omega
     generalize crcOf h = c at *
     have HC := Lib.hid hcl
     clear hb hB hst htx hput hfit hcb hk1 hsz e0 e1 hfr hcl
     go_enter Tryz.func183, Tryz.ntmps183
     go_wp2_with (go_at_call 200; refine (fits_is hk HF.out).mono ?_; rintro e w' ⟨rfl, rfl⟩)
     have hS := Ext.drew w
     refine region_line [(0, true), (2, true), (3, true), (1, false), (4, false), (5, true)] (Ext w) (by kernel_rfl) (by kernel_rfl) (fun _ _ _ d _ h => by cases d <;> exact h) hS ?_
     repeat (refine line_read (a' := ?_) rfl (by kernel_rfl) (by kernel_rfl) hS (fun x hx K hK => ?_) ?_; rotate_left; · have hcx := hcv x hx; go_wp2; exact hK)
     refine line_act (by rfl) (fun K hK => ?_)
     go_wp2_with (go_at_call 182; refine (put_is (.inl ⟨rfl, rfl⟩) (by simp) hk (put_one HK.out.1 HK.out.2)).mono ?_; rintro e w2 ⟨v2, rfl, hown2, hg2⟩)
     refine hK _ _ (Ext w2) (Ext.refl w2) (fun x hx => Ext.of_drew (Ext.next hg2 x hx)) ?_
     clear hK K hcv
     refine line_act (by rfl) (fun K hK => ?_)
     go_wp2_with (go_at_call 201; refine (text_is (Owns.bts rfl hown2) (by simp [leB_len]) (by rw [HS.out]; omega) HT.out).mono ?_; rintro e w3 ⟨v3, rfl, hown3, hg3⟩)
     refine hK _ _ (Ext w3) (Ext.refl w3) (Ext.next hg3) ?_
     clear hK K
     have hS3 := Ext.refl w3
     repeat (refine line_read (a' := ?_) rfl (by kernel_rfl) (by kernel_rfl) hS3 (fun x hx K hK => ?_) ?_; rotate_left; · go_wp2; exact hK)
     refine line_end ?_
     go_wp2_with (first
       | (go_at_call 191; refine (SO _ _ (Owns.bts rfl hown3)).mono ?_; rintro e w' ⟨rfl, rfl⟩)
       | (go_at_call 182; refine (put_is (Owns.bts rfl hown3) (by rw [HC.out]; omega) (by omega) HP.out).mono ?_; rintro e w4 ⟨v4, rfl, hown4, hg4⟩))
     have hgr := grown_trans (grown_trans (Ext.next hg2 _ hg3) hg4 (by simp)) (Ext.refl w4) (by simp)
     have hz2 := hg2.size
     have hz3 := hg3.size
     refine bodyPost_ret (v := .tuple #[v4, .int .i64 0]) (by simp [results, Tryz.results183, go_sem]) rfl ⟨v4, rfl, ownsRow_le hown4 (by simp at hz2; omega), Ext.of_drew hgr⟩
   · have e0 : mkE k xs = 3 := by unfold mkE; rw [if_pos hk1, if_neg hl]
     have e1 : mkL k xs = [] := by unfold mkL; rw [if_neg (by rw [e0]; decide)]
     rw [e0, e1]
     have HF := Lib.hid (show fitsB k 1 = true by simp [fitsB]; omega)
     obtain ⟨ao, cap, b, off, rfl, _⟩ := hb.sform
     have hl2 : (65535 : Int) < (xs.length : Int) := by omega
     clear hb hB e0 e1 hk1 hl
     go_enter Tryz.func183, Tryz.ntmps183
     go_wp2_with (go_at_call 200; refine (fits_is hk HF.out).mono ?_; rintro e w' ⟨rfl, rfl⟩)
     refine bodyPost_ret (v := .tuple #[.slice none 0 0, .int .i64 3]) (by simp [results, Tryz.results183, go_sem]) rfl ⟨_, rfl, owns_nil _ _, Ext.refl _⟩
 · have e0 : mkE k xs = 1 := by unfold mkE; rw [if_neg hk1]
   have e1 : mkL k xs = [] := by unfold mkL; rw [if_neg (by rw [e0]; decide)]
   rw [e0, e1]
   have HF := Lib.hid (show fitsB k 1 = false by simp [fitsB]; omega)
   obtain ⟨ao, cap, b, off, rfl, _⟩ := hb.sform
   clear hb hB e0 e1 hk1
   go_enter Tryz.func183, Tryz.ntmps183
   go_wp2_with (go_at_call 200; refine (fits_is hk HF.out).mono ?_; rintro e w' ⟨rfl, rfl⟩)
   refine bodyPost_ret (v := .tuple #[.slice none 0 0, .int .i64 1]) (by simp [results, Tryz.results183, go_sem]) rfl ⟨_, rfl, owns_nil _ _, Ext.refl _⟩
end Go.Proofs.YtdnpdoipipfkoaaGreatDoor

namespace Go.Proofs.YtdnpdoipipfkoaaGreatDoor
set_option linter.unusedVariables false
set_option linter.unusedSimpArgs false
set_option linter.unusedVariables false
set_option linter.unusedSimpArgs false
set_option maxRecDepth 100000
open Go.RowKit
def opN (xs : List Int) : Nat := (leV ((xs.drop 1).take 2)).toNat
def opE (xs : List Int) : Int := if xs.length < opN xs + 7 then 2 else if leV ((xs.drop (opN xs + 3)).take 4) = (crcOf (xs.take (opN xs + 3)) : Nat) then 0 else 14
def opK (xs : List Int) : Int := if opE xs = 0 then leV (xs.take 1) else 0
def opB (xs : List Int) : List Int := if opE xs = 0 then (xs.drop 3).take (opN xs) else []
def opM (xs : List Int) : Int := if opE xs = 0 then opN xs + 7 else 0
theorem opN_lt {xs : List Int} (h : Byts xs) : opN xs < 65536 := by
 have hb : Byts ((xs.drop 1).take 2) := fun x hx => h x (List.mem_of_mem_drop (List.mem_of_mem_take hx))
 have h1 := leV_bd _ hb
 have h2 : ((xs.drop 1).take 2).length ≤ 2 := by simp; omega
 have h3 : (256 : Int) ^ ((xs.drop 1).take 2).length ≤ 256 ^ 2 := by
   have : ((xs.drop 1).take 2).length = 0 ∨ ((xs.drop 1).take 2).length = 1 ∨ ((xs.drop 1).take 2).length = 2 := by omega
   rcases this with e | e | e <;> rw [e] <;> decide
 unfold opN
 omega
theorem Bts.pre {w : World} {b off cap n : Nat} {xs : List Int} (h2 : xs.length ≤ cap) (h3 : ∀ i, i < xs.length → w.cell? ⟨b, off + i, none⟩ = some (.int .u8 (xs.getD i 0))) (hn : n ≤ xs.length) : Bts w (.slice (some ⟨b, off, none⟩) n cap) (xs.take n) := by
 refine .inr ⟨b, off, cap, by simp [Nat.min_eq_left hn], by simp; omega, fun i hi => ?_⟩
 have hi2 : i < n := by simp at hi; omega
 rw [h3 i (by omega)]
 simp [List.getD_eq_getElem?_getD, hi2]
theorem Bts.mid {w : World} {b off m n c : Nat} {xs : List Int} (h3 : ∀ i, i < xs.length → w.cell? ⟨b, off + i, none⟩ = some (.int .u8 (xs.getD i 0))) (hn : m + n ≤ xs.length) (hc : n ≤ c) : Bts w (.slice (some ⟨b, off + m, none⟩) n c) ((xs.drop m).take n) := by
 have hl : ((xs.drop m).take n).length = n := by simp; omega
 refine .inr ⟨b, off + m, c, by rw [hl], by omega, fun i hi => ?_⟩
 rw [hl] at hi
 rw [Nat.add_assoc, h3 (m + i) (by omega)]
 simp [List.getD_eq_getElem?_getD, List.getElem?_drop, hi]
def OpenP (w : World) (xs : List Int) (e : Ending) (w' : World) : Prop :=
 ∃ v', e = .returned (.tuple #[.int .i64 (opK xs), v', .int .i64 (opM xs), .int .i64 (opE xs)]) ∧ w'.ownsRow w.heap.size 5 1 v' (opB xs).length ((opB xs).map (Value.int .u8)) ∧ w.grownBy w' none
theorem open_short {xs : List Int} (h : xs.length < opN xs + 7) : opE xs = 2 ∧ opK xs = 0 ∧ opB xs = [] ∧ opM xs = 0 := by
 have e : opE xs = 2 := by unfold opE; rw [if_pos h]
 refine ⟨e, ?_, ?_, ?_⟩
 · unfold opK; rw [if_neg (by rw [e]; decide)]
 · unfold opB; rw [if_neg (by rw [e]; decide)]
 · unfold opM; rw [if_neg (by rw [e]; decide)]
theorem open_spoilt {xs : List Int} (h : ¬ xs.length < opN xs + 7) (h2 : leV ((xs.drop (opN xs + 3)).take 4) ≠ (crcOf (xs.take (opN xs + 3)) : Nat)) : opE xs = 14 ∧ opK xs = 0 ∧ opB xs = [] ∧ opM xs = 0 := by
 have e : opE xs = 14 := by unfold opE; rw [if_neg h, if_neg h2]
 refine ⟨e, ?_, ?_, ?_⟩
 · unfold opK; rw [if_neg (by rw [e]; decide)]
 · unfold opB; rw [if_neg (by rw [e]; decide)]
 · unfold opM; rw [if_neg (by rw [e]; decide)]
theorem open_whole {xs : List Int} (h : ¬ xs.length < opN xs + 7) (h2 : leV ((xs.drop (opN xs + 3)).take 4) = (crcOf (xs.take (opN xs + 3)) : Nat)) : opE xs = 0 ∧ opK xs = leV (xs.take 1) ∧ opB xs = (xs.drop 3).take (opN xs) ∧ opM xs = opN xs + 7 := by
 have e : opE xs = 0 := by unfold opE; rw [if_neg h, if_pos h2]
 refine ⟨e, ?_, ?_, ?_⟩
 · unfold opK; rw [if_pos e]
 · unfold opB; rw [if_pos e]
 · unfold opM; rw [if_pos e]
theorem num_ok {n : Int} {xs : List Int} (hs : sizeB n = true) (hn : n ≤ (xs.length : Int)) : numV n xs 0 = leV (xs.take n.toNat) ∧ numX n xs 0 = xs.drop n.toNat ∧ numE n xs 0 = 0 := by
 refine ⟨?_, ?_, ?_⟩
 · unfold numV; rw [if_pos ⟨rfl, hs, hn⟩]
 · unfold numX; rw [if_pos ⟨rfl, hs, hn⟩]
 · unfold numE; rw [if_pos rfl, if_pos hs, if_pos hn]
theorem clone_bts {w w5 : World} {b off n cap : Nat} {xs : List Int} (h : Bts w (.slice (some ⟨b, off, none⟩) n cap) xs) (hE : Ext w w5) (hn : xs.length = n) (hm : n ≤ 140737488351232) :
   Calls Tryz.prog 140 #[.slice (some ⟨b, off, none⟩) n cap] w5 (Made w5.heap.size w5 xs) := by
 subst hn
 rcases h with ⟨h, _⟩ | ⟨b', off', c', h, _, hc⟩
 · simp at h
 · simp only [Value.slice.injEq, Option.some.injEq, Addr.mk.injEq, and_true, true_and] at h
   obtain ⟨⟨rfl, rfl⟩, rfl⟩ := h
   exact clone_some b off cap xs w5 (fun i hi => hE.cell (hc i hi) (by simp)) hm
set_option maxRecDepth 100000 in
set_option maxHeartbeats 1600000 in
theorem open_any (v : Value) (xs : List Int) (w : World) (hb : Bts w v xs) (hB : Byts xs) (hm : xs.length ≤ 140737488351232) :
   Calls Tryz.prog 159 #[v] w (OpenP w xs) := by
 by_cases h3 : xs.length < 3
 · obtain ⟨e1, e2, e3, e4⟩ := open_short (xs := xs) (by omega)
   unfold OpenP
   rw [e1, e2, e3, e4]
   obtain ⟨ao, cap, b, off, rfl, _⟩ := hb.sform
   have h3' : (xs.length : Int) < 3 := by omega
   clear hb hB e1 e2 e3 e4
   go_enter Tryz.func159, Tryz.ntmps159
   go_wp2
   refine bodyPost_ret (v := .tuple #[.int .i64 0, .slice none 0 0, .int .i64 0, .int .i64 2]) (by simp [results, Tryz.results159, go_sem]) rfl ⟨_, rfl, owns_nil _ _, Ext.refl _⟩
 · obtain ⟨b, off, cap, rfl, hcap, hc⟩ : ∃ b off cap, v = .slice (some ⟨b, off, none⟩) xs.length cap ∧ xs.length ≤ cap ∧ ∀ i, i < xs.length → w.cell? ⟨b, off + i, none⟩ = some (.int .u8 (xs.getD i 0)) := by
     rcases hb with ⟨_, rfl⟩ | h
     · simp at h3
     · exact h
   have hbw : b < w.heap.size := World.block_lt_of_cell? w _ (hc 0 (by omega))
   have hn := opN_lt hB
   have b3 : Bts w (.slice (some ⟨b, off, none⟩) 3 cap) (xs.take 3) := Bts.pre hcap hc (by omega)
   have B3 : Byts (xs.take 3) := fun x hx => hB x (List.mem_of_mem_take hx)
   have B3' : Byts ((xs.take 3).drop 1) := fun x hx => B3 x (List.mem_of_mem_drop hx)
   have l3 : (xs.take 3).length = 3 := by simp; omega
   obtain ⟨v1, x1, y1⟩ := num_ok (n := 1) (xs := xs.take 3) rfl (by omega)
   obtain ⟨v2, x2, y2⟩ := num_ok (n := 2) (xs := (xs.take 3).drop 1) rfl (by simp; omega)
   have lb : 0 ≤ leV ((xs.drop 1).take 2) := (leV_bd _ (fun x hx => hB x (List.mem_of_mem_drop (List.mem_of_mem_take hx)))).1
   have v1 : numV 1 (xs.take 3) 0 = leV (xs.take 1) := by rw [v1, show (1 : Int).toNat = 1 from rfl, List.take_take]; rfl
   have v2 : numV 2 ((xs.take 3).drop 1) 0 = (opN xs : Nat) := by
     rw [v2, show (2 : Int).toNat = 2 from rfl, List.drop_take, List.take_take]
     show leV ((xs.drop 1).take 2) = _
     unfold opN
     omega
   have x1 : numX 1 (xs.take 3) 0 = (xs.take 3).drop 1 := x1
   have RD := fun v hb => read_any (.slice (some ⟨b, off, none⟩) 3 cap) (xs.take 3) v hb (by omega)
   have H1 := Lib.hid (And.intro v1 (And.intro x1 y1))
   have H2 := Lib.hid (And.intro v2 (And.intro x2 y2))
   have HB3 := Lib.hid (And.intro B3 B3')
   have HB := Lib.hid hB
   have Hb3 := Lib.hid b3
   have hn3 : ¬ (xs.length : Int) < 3 := by omega
   have HC := Lib.hid hc
   obtain ⟨kk, hkk⟩ : ∃ kk, leV (xs.take 1) = kk := ⟨_, rfl⟩
   have HK := Lib.hid hkk
   clear v1 x1 y1 v2 x2 y2 B3 B3' b3 hB hb hc lb hkk l3
   by_cases h7 : xs.length < opN xs + 7
   · obtain ⟨e1, e2, e3, e4⟩ := open_short (xs := xs) h7
     unfold OpenP
     rw [e1, e2, e3, e4]
     clear e1 e2 e3 e4
     generalize opN xs = n at *
     have h7' : (xs.length : Int) < n + 7 := by omega
     go_enter Tryz.func159, Tryz.ntmps159
     go_wp2_with (first
       | (go_at_call 143; refine (number_is hR2 HB3.out.2 H2.out.1 H2.out.2.1 H2.out.2.2).mono ?_; rintro e w3 ⟨rfl, hR3, hg3⟩)
       | (go_at_call 143; refine (number_is hR1 HB3.out.1 (H1.out.1.trans HK.out) H1.out.2.1 H1.out.2.2).mono ?_; rintro e w2 ⟨rfl, hR2, hg2⟩)
       | (go_at_call 142; refine (RD _ Hb3.out (by omega)).mono ?_; rintro e w1 ⟨br, c, rfl, hR1, hg1, hl1, hl2, hl3⟩))
     have hgr := grown_trans (grown_trans hg1 hg2 (fun k hk h => by cases hk; omega)) hg3 (fun k hk h => by cases hk; omega)
     refine bodyPost_ret (v := .tuple #[.int .i64 0, .slice none 0 0, .int .i64 0, .int .i64 2]) (by simp [results, Tryz.results159, go_sem]) rfl ⟨_, rfl, owns_nil _ _, hgr⟩
   · obtain ⟨V, hV⟩ : ∃ V, leV ((xs.drop (opN xs + 3)).take 4) = V := ⟨_, rfl⟩
     obtain ⟨C, hCc⟩ : ∃ C, crcOf (xs.take (opN xs + 3)) = C := ⟨_, rfl⟩
     have hCl : C < 4294967296 := by rw [← hCc]; exact crcOf_lt _
     have l4 : ((xs.drop (opN xs + 3)).take 4).length = 4 := by simp; omega
     have B4 : Byts ((xs.drop (opN xs + 3)).take 4) := fun x hx => HB.out x (List.mem_of_mem_drop (List.mem_of_mem_take hx))
     obtain ⟨v4, x4, y4⟩ := num_ok (n := 4) (xs := (xs.drop (opN xs + 3)).take 4) rfl (by rw [l4]; decide)
     rw [show (4 : Int).toNat = 4 from rfl, List.take_take, show min 4 4 = 4 from rfl, hV] at v4
     have SO := fun v w' hbb => sumOf_any v (xs.take (opN xs + 3)) w' hbb (fun x hx => HB.out x (List.mem_of_mem_take hx)) (by simp; omega)
     rw [hCc] at SO
     have b4 : ∀ c, 4 ≤ c → Bts w (.slice (some ⟨b, off + (3 + opN xs), none⟩) 4 c) ((xs.drop (opN xs + 3)).take 4) := fun c h => by rw [Nat.add_comm 3]; exact Bts.mid HC.out (by omega) h
     have b5 : Bts w (.slice (some ⟨b, off, none⟩) (3 + opN xs) cap) (xs.take (opN xs + 3)) := by rw [Nat.add_comm 3]; exact Bts.pre hcap HC.out (by omega)
     have b6 : ∀ c, opN xs ≤ c → Bts w (.slice (some ⟨b, off + 3, none⟩) (opN xs) c) ((xs.drop 3).take (opN xs)) := fun c h => Bts.mid HC.out (by omega) h
     have H4 := Lib.hid (And.intro v4 (And.intro x4 y4))
     have HB4 := Lib.hid B4
     have HL4 := Lib.hid l4
     have K4 := Lib.hid b4
     have K5 := Lib.hid b5
     have K6 := Lib.hid b6
     have hwr : IntKind.i64.wrap (C : Int) = (C : Int) := IntWalk.i64_in _ ⟨by omega, by omega⟩
     clear v4 x4 y4 l4 B4 b4 b5 b6
     have h7' : ¬ (xs.length : Int) < opN xs + 7 := by omega
     have hlen : opN xs + 7 ≤ xs.length := by omega
     by_cases hVC : V = (C : Int)
     · obtain ⟨e1, e2, e3, e4⟩ := open_whole (xs := xs) h7 (by rw [hV, hCc]; exact hVC)
       unfold OpenP
       rw [e1, e2, e3, e4, HK.out]
       have hne : (V != (C : Int)) = false := by simpa using hVC
       have l6 : ((xs.drop 3).take (opN xs)).length = opN xs := by simp; omega
       have HL6 := Lib.hid l6
       clear l6
       clear e1 e2 e3 e4 hV hCc hVC h7
       generalize (xs.drop (opN xs + 3)).take 4 = zs at *
       generalize xs.take (opN xs + 3) = hs at *
       generalize (xs.drop 3).take (opN xs) = bs at *
       generalize opN xs = n at *
       go_enter Tryz.func159, Tryz.ntmps159
       go_wp2_with (first
         | (go_at_call 143; refine (number_is hR2 HB3.out.2 H2.out.1 H2.out.2.1 H2.out.2.2).mono ?_; rintro e w3 ⟨rfl, hR3, hg3⟩)
         | (go_at_call 143; refine (number_is hR1 HB3.out.1 (H1.out.1.trans HK.out) H1.out.2.1 H1.out.2.2).mono ?_; rintro e w2 ⟨rfl, hR2, hg2⟩)
         | (go_at_call 142; refine (RD _ Hb3.out (by omega)).mono ?_; rintro e w1 ⟨br, c, rfl, hR1, hg1, hl1, hl2, hl3⟩))
       have hgr := grown_trans (grown_trans hg1 hg2 (fun k hk h => by cases hk; omega)) hg3 (fun k hk h => by cases hk; omega)
       have hE3 : Ext w w3.drew := Ext.next hgr _ (Ext.drew w3)
       refine region_line [(0, true), (1, true), (2, true), (3, true), (6, true), (7, true), (8, true), (4, false), (5, false), (9, false), (10, true), (11, true)] (Ext w) (by kernel_rfl) (by kernel_rfl) (fun _ _ _ d _ h => by cases d <;> exact h) hE3 ?_
       repeat (refine line_read (a' := ?_) rfl (by kernel_rfl) (by kernel_rfl) hE3 (fun x hx K hK => ?_) ?_; rotate_left; · go_wp2; exact hK)
       refine line_act (by rfl) (fun K hK => ?_)
       go_wp2_with (go_at_call 142; refine (read_any _ zs _ ((K4.out _ (by omega)).kept hE3 (by simp)) (by rw [HL4.out]; omega) (by have := hE3.size; omega)).mono ?_; rintro e w4 ⟨br2, c2, rfl, hR4, hg4, hm1, hm2, hm3⟩)
       have hE4 : Ext w w4 := Ext.next hE3 _ hg4
       refine hK _ _ (Ext w) hE4 (fun x hx => hx) ?_
       clear hK K
       refine line_act (by rfl) (fun K hK => ?_)
       go_wp2_with (go_at_call 143; refine (number_is hR4 HB4.out H4.out.1 H4.out.2.1 H4.out.2.2).mono ?_; rintro e w5 ⟨rfl, hR5, hg5⟩)
       have hz3 := hE3.size
       have hE5 : Ext w w5 := grown_trans hE4 hg5 (fun k hk h => by cases hk; omega)
       refine hK _ _ (Ext w) hE5 (fun x hx => hx) ?_
       clear hK K
       refine line_act (by rfl) (fun K hK => ?_)
       go_wp2_with (go_at_call 191; refine (SO _ _ (K5.out.kept hE5 (by simp))).mono ?_; rintro e w' ⟨rfl, rfl⟩)
       refine hK _ _ (Ext w) hE5 (fun x hx => hx) ?_
       clear hK K
       repeat (refine line_read (a' := ?_) rfl (by kernel_rfl) (by kernel_rfl) hE5 (fun x hx K hK => ?_) ?_; rotate_left; · go_wp2; exact hK)
       refine line_end ?_
       go_wp2_with (go_at_call 140; refine (clone_bts (K6.out (cap - 3) (by omega)) hE5 HL6.out (by omega)).mono ?_; rintro e w6 ⟨v6, rfl, hown6, hg6⟩)
       refine bodyPost_ret (v := .tuple #[.int .i64 kk, v6, .int .i64 (n + 7), .int .i64 0]) (by simp [results, Tryz.results159, go_sem]; omega) rfl ⟨_, rfl, ownsRow_le hown6 hE5.size, Ext.next hE5 _ hg6⟩
     · obtain ⟨e1, e2, e3, e4⟩ := open_spoilt (xs := xs) h7 (by rw [hV, hCc]; exact hVC)
       unfold OpenP
       rw [e1, e2, e3, e4]
       have hne : (V != (C : Int)) = true := by simpa using hVC
       clear e1 e2 e3 e4 hV hCc hVC h7
       generalize (xs.drop (opN xs + 3)).take 4 = zs at *
       generalize xs.take (opN xs + 3) = hs at *
       generalize (xs.drop 3).take (opN xs) = bs at *
       generalize opN xs = n at *
       go_enter Tryz.func159, Tryz.ntmps159
       go_wp2_with (first
         | (go_at_call 143; refine (number_is hR2 HB3.out.2 H2.out.1 H2.out.2.1 H2.out.2.2).mono ?_; rintro e w3 ⟨rfl, hR3, hg3⟩)
         | (go_at_call 143; refine (number_is hR1 HB3.out.1 (H1.out.1.trans HK.out) H1.out.2.1 H1.out.2.2).mono ?_; rintro e w2 ⟨rfl, hR2, hg2⟩)
         | (go_at_call 142; refine (RD _ Hb3.out (by omega)).mono ?_; rintro e w1 ⟨br, c, rfl, hR1, hg1, hl1, hl2, hl3⟩))
       have hgr := grown_trans (grown_trans hg1 hg2 (fun k hk h => by cases hk; omega)) hg3 (fun k hk h => by cases hk; omega)
       have hE3 : Ext w w3.drew := Ext.next hgr _ (Ext.drew w3)
       refine region_line [(0, true), (1, true), (2, true), (3, true), (6, true), (7, true), (8, true), (4, false), (5, false), (9, false), (10, true), (11, true)] (Ext w) (by kernel_rfl) (by kernel_rfl) (fun _ _ _ d _ h => by cases d <;> exact h) hE3 ?_
       repeat (refine line_read (a' := ?_) rfl (by kernel_rfl) (by kernel_rfl) hE3 (fun x hx K hK => ?_) ?_; rotate_left; · go_wp2; exact hK)
       refine line_act (by rfl) (fun K hK => ?_)
       go_wp2_with (go_at_call 142; refine (read_any _ zs _ ((K4.out _ (by omega)).kept hE3 (by simp)) (by rw [HL4.out]; omega) (by have := hE3.size; omega)).mono ?_; rintro e w4 ⟨br2, c2, rfl, hR4, hg4, hm1, hm2, hm3⟩)
       have hE4 : Ext w w4 := Ext.next hE3 _ hg4
       refine hK _ _ (Ext w) hE4 (fun x hx => hx) ?_
       clear hK K
       refine line_act (by rfl) (fun K hK => ?_)
       go_wp2_with (go_at_call 143; refine (number_is hR4 HB4.out H4.out.1 H4.out.2.1 H4.out.2.2).mono ?_; rintro e w5 ⟨rfl, hR5, hg5⟩)
       have hz3 := hE3.size
       have hE5 : Ext w w5 := grown_trans hE4 hg5 (fun k hk h => by cases hk; omega)
       refine hK _ _ (Ext w) hE5 (fun x hx => hx) ?_
       clear hK K
       refine line_act (by rfl) (fun K hK => ?_)
       go_wp2_with (go_at_call 191; refine (SO _ _ (K5.out.kept hE5 (by simp))).mono ?_; rintro e w' ⟨rfl, rfl⟩)
       refine hK _ _ (Ext w) hE5 (fun x hx => hx) ?_
       clear hK K
       repeat (refine line_read (a' := ?_) rfl (by kernel_rfl) (by kernel_rfl) hE5 (fun x hx K hK => ?_) ?_; rotate_left; · go_wp2; exact hK)
       refine line_end ?_
       go_wp2
       refine bodyPost_ret (v := .tuple #[.int .i64 0, .slice none 0 0, .int .i64 0, .int .i64 14]) (by simp [results, Tryz.results159, go_sem]) rfl ⟨_, rfl, owns_nil _ _, hE5⟩
end Go.Proofs.YtdnpdoipipfkoaaGreatDoor

namespace Go.Proofs.YtdnpdoipipfkoaaGreatDoor
set_option linter.unusedVariables false
set_option linter.unusedSimpArgs false
set_option linter.unusedVariables false
set_option linter.unusedSimpArgs false
set_option maxRecDepth 100000
open Go.RowKit
theorem leB_cons (v : Int) (n : Nat) : leB v (n + 1) = (v % 256) :: leB (v / 256) n := by
 simp only [leB, List.range_succ_eq_map, List.map_cons, List.map_map, Int.pow_zero, Int.ediv_one]
 congr 1
 apply List.map_congr_left
 intro k _
 simp only [Function.comp, Nat.succ_eq_add_one]
 rw [Int.pow_succ, Int.mul_comm, Int.ediv_ediv_of_nonneg (by decide)]
theorem leV_leB : ∀ (n : Nat) {v : Int}, 0 ≤ v → v < 256 ^ n → leV (leB v n) = v
 | 0, v, h0, h1 => by simp [leB, leV]; simp at h1; omega
 | n + 1, v, h0, h1 => by
   rw [leB_cons]
   simp only [leV]
   have h2 : v / 256 < 256 ^ n := by rw [Int.pow_succ] at h1; omega
   rw [leV_leB n (by omega) h2]
   omega
end Go.Proofs.YtdnpdoipipfkoaaGreatDoor

namespace Go.Proofs.YtdnpdoipipfkoaaGreatDoor
set_option linter.unusedVariables false
set_option linter.unusedSimpArgs false
set_option linter.unusedVariables false
set_option linter.unusedSimpArgs false
set_option maxRecDepth 100000
open Go.RowKit
end Go.Proofs.YtdnpdoipipfkoaaGreatDoor

namespace Go.Proofs.YtdnpdoipipfkoaaGreatDoor
set_option linter.unusedVariables false
set_option linter.unusedSimpArgs false
set_option linter.unusedVariables false
set_option linter.unusedSimpArgs false
set_option maxRecDepth 100000
theorem stp_double (m : Nat) : stp (2 * m) = m := by unfold stp; rw [if_neg (by omega)]; omega
theorem shN_pow (e j : Nat) : ∀ k, shN (e * 2 ^ (k + j)) k = e * 2 ^ j
 | 0 => by simp [shN]
 | k + 1 => by
   have h := shN_pow e (j + 1) k
   show stp (shN (e * 2 ^ (k + 1 + j)) k) = _
   rw [show k + 1 + j = k + (j + 1) by omega, h, Nat.pow_succ, show e * (2 ^ j * 2) = 2 * (e * 2 ^ j) by rw [← Nat.mul_assoc]; omega, stp_double]
end Go.Proofs.YtdnpdoipipfkoaaGreatDoor

namespace Go.Proofs.YtdnpdoipipfkoaaGreatDoor
set_option linter.unusedVariables false
set_option linter.unusedSimpArgs false
set_option linter.unusedVariables false
set_option linter.unusedSimpArgs false
set_option maxRecDepth 100000
open Go.RowKit
def whE (xs : List Int) (kind : Int) : Int := if opE xs = 0 then (if opM xs = xs.length ∧ opK xs = kind then 0 else 2) else opE xs
def whB (xs : List Int) (kind : Int) : List Int := if whE xs kind = 0 then opB xs else []
set_option maxRecDepth 100000 in
set_option maxHeartbeats 800000 in
theorem whole_any (v : Value) (xs : List Int) (kind : Int) (w : World) (hb : Bts w v xs) (hB : Byts xs) (hm : xs.length ≤ 140737488351232) :
   Calls Tryz.prog 141 #[v, .int .i64 kind] w (MadeE w (whB xs kind) (whE xs kind)) := by
 have O := fun w' hb => open_any v xs w' hb hB hm
 obtain ⟨er, her⟩ : ∃ e, opE xs = e := ⟨_, rfl⟩
 obtain ⟨kk, hkk⟩ : ∃ e, opK xs = e := ⟨_, rfl⟩
 obtain ⟨mm, hmm⟩ : ∃ e, opM xs = e := ⟨_, rfl⟩
 have HBts := Lib.hid hb
 obtain ⟨ao, cap, b, off, rfl, _⟩ := hb.sform
 unfold OpenP at O
 rw [her, hkk, hmm] at O
 unfold MadeE
 unfold whB whE
 rw [her, hkk, hmm]
 generalize opB xs = bs at *
 clear her hkk hmm hb hB
 by_cases h0 : er = 0
 · subst h0
   rw [if_pos rfl]
   by_cases hc : mm = xs.length ∧ kk = kind
   · obtain ⟨h1, rfl⟩ := hc
     rw [if_pos ⟨h1, rfl⟩, if_pos rfl]
     have h1' : (mm != (xs.length : Int)) = false := by simpa using h1
     clear h1
     go_enter Tryz.func141, Tryz.ntmps141
     go_wp2_with (go_at_call 159; refine (O _ HBts.out).mono ?_; rintro e w2 ⟨v2, rfl, hown2, hg2⟩)
     refine bodyPost_ret (v := .tuple #[v2, .int .i64 0]) (by simp [results, Tryz.results141, go_sem]) rfl ⟨v2, rfl, hown2, hg2⟩
   · rw [if_neg hc, if_neg (by decide)]
     have part : mm ≠ xs.length ∨ (mm = xs.length ∧ kk ≠ kind) := by omega
     clear hc
     rcases part with h1 | ⟨h1, h2⟩
     · have h1' : (mm != (xs.length : Int)) = true := by simpa using h1
       clear h1
       go_enter Tryz.func141, Tryz.ntmps141
       go_wp2_with (go_at_call 159; refine (O _ HBts.out).mono ?_; rintro e w2 ⟨v2, rfl, hown2, hg2⟩)
       refine bodyPost_ret (v := .tuple #[.slice none 0 0, .int .i64 2]) (by simp [results, Tryz.results141, go_sem]) rfl ⟨_, rfl, owns_nil _ _, hg2⟩
     · have h1' : (mm != (xs.length : Int)) = false := by simpa using h1
       have h2' : (kk != kind) = true := by simpa using h2
       clear h1 h2
       go_enter Tryz.func141, Tryz.ntmps141
       go_wp2_with (go_at_call 159; refine (O _ HBts.out).mono ?_; rintro e w2 ⟨v2, rfl, hown2, hg2⟩)
       refine bodyPost_ret (v := .tuple #[.slice none 0 0, .int .i64 2]) (by simp [results, Tryz.results141, go_sem]) rfl ⟨_, rfl, owns_nil _ _, hg2⟩
 · rw [if_neg h0, if_neg h0]
   have h0' : (er != 0) = true := by simpa using h0
   clear h0
   go_enter Tryz.func141, Tryz.ntmps141
   go_wp2_with (go_at_call 159; refine (O _ HBts.out).mono ?_; rintro e w2 ⟨v2, rfl, hown2, hg2⟩)
   refine bodyPost_ret (v := .tuple #[.slice none 0 0, .int .i64 er]) (by simp [results, Tryz.results141, go_sem]) rfl ⟨_, rfl, owns_nil _ _, hg2⟩
theorem open_back {k : Int} {body rest : List Int} (h0 : 0 ≤ k) (h1 : k ≤ 255) (hl : body.length ≤ 65535) :
   opN (frL k body ++ rest) = body.length ∧ opE (frL k body ++ rest) = 0 ∧ opK (frL k body ++ rest) = k ∧ opB (frL k body ++ rest) = body ∧ opM (frL k body ++ rest) = body.length + 7 := by
 have e1 : frL k body ++ rest = leB k 1 ++ (leB body.length 2 ++ (body ++ (leB (crcOf (hdL k body)) 4 ++ rest))) := by simp [frL, hdL]
 have e2 : frL k body ++ rest = hdL k body ++ (leB (crcOf (hdL k body)) 4 ++ rest) := by simp [frL]
 have hn : opN (frL k body ++ rest) = body.length := by
   unfold opN
   rw [e1, List.drop_left' (leB_len k 1), List.take_left' (leB_len _ 2), leV_leB 2 (by omega) (by show _ < (65536 : Int); omega)]
   omega
 have hlen : (frL k body ++ rest).length = body.length + 7 + rest.length := by rw [List.length_append, frL_len]
 have he : opE (frL k body ++ rest) = 0 := by
   unfold opE
   rw [hn, if_neg (by omega)]
   rw [e2, List.drop_left' (hdL_len k body), List.take_left' (leB_len _ 4), List.take_left' (hdL_len k body), leV_leB 4 (by omega) (by have := crcOf_lt (hdL k body); show _ < (4294967296 : Int); omega), if_pos rfl]
 refine ⟨hn, he, ?_, ?_, ?_⟩
 · unfold opK
   rw [if_pos he, e1, List.take_left' (leB_len k 1), leV_leB 1 h0 (by show _ < (256 : Int); omega)]
 · unfold opB
   rw [if_pos he, hn, e1, show 3 = 1 + 2 from rfl, ← List.drop_drop, List.drop_left' (leB_len k 1), List.drop_left' (leB_len _ 2), List.take_left' rfl]
 · unfold opM
   rw [if_pos he, hn]
end Go.Proofs.YtdnpdoipipfkoaaGreatDoor

namespace Go.Proofs.YtdnpdoipipfkoaaGreatDoor
set_option linter.unusedVariables false
set_option linter.unusedSimpArgs false
set_option linter.unusedVariables false
set_option linter.unusedSimpArgs false
set_option maxRecDepth 100000
open Go.RowKit
def pre (v : Nat → Int) : Nat → List Int
 | 0 => []
 | j + 1 => pre v j ++ leB (v j) (fsz j).toNat
def bitI (p : Bool) : Int := if p then 1 else 0
def tagL (a b c d k : Int) (p : Bool) : List Int := pre (nth a b c d k) 5 ++ leB (bitI p) 1
def tagBE (a b c d k : Int) : Int := if okB a b c d k then 0 else 1
def tagBL (a b c d k : Int) (p : Bool) : List Int := if okB a b c d k then frL 84 (tagL a b c d k p) else []
theorem fld_cases {j : Nat} (hj : j < 5) : (fsz j = 1 ∧ 0 ≤ ffr j ∧ fto j ≤ 255) ∨ (fsz j = 4 ∧ 0 ≤ ffr j ∧ fto j ≤ 4294967295) := by
 have : j = 0 ∨ j = 1 ∨ j = 2 ∨ j = 3 ∨ j = 4 := by omega
 rcases this with rfl | rfl | rfl | rfl | rfl <;> decide
theorem put_pre {v : Nat → Int} {j : Nat} (hj : j < 5) (h : ffr j ≤ v j ∧ v j ≤ fto j) : putL (pre v j) (v j) (fsz j) = pre v (j + 1) := by
 have hf : fitsB (v j) (fsz j) = true := by
   unfold fitsB
   rw [decide_eq_true_eq]
   rcases fld_cases hj with ⟨e, h1, h2⟩ | ⟨e, h1, h2⟩
   · rw [e]; omega
   · rw [e]; omega
 simp [putL, hf, pre]
theorem pre_byts (v : Nat → Int) : ∀ j, Byts (pre v j)
 | 0 => fun _ h => by cases h
 | j + 1 => byts_append (pre_byts v j) (leB_byts _ _)
theorem fsz_le {j : Nat} (hj : j < 5) : (fsz j).toNat ≤ 4 := by
 rcases fld_cases hj with ⟨e, _⟩ | ⟨e, _⟩ <;> rw [e] <;> decide
theorem pre_le (v : Nat → Int) : ∀ j, j ≤ 5 → (pre v j).length ≤ 4 * j
 | 0, _ => by simp [pre]
 | j + 1, h => by
   have h1 := pre_le v j (by omega)
   have h2 := fsz_le (j := j) (by omega)
   simp only [pre, List.length_append, leB_len]
   omega
theorem put_bit (xs : List Int) (p : Bool) : putL xs (bitI p) 1 = xs ++ leB (bitI p) 1 := by
 cases p <;> rfl
theorem tagL_len (a b c d k : Int) (p : Bool) : (tagL a b c d k p).length = 12 := by
 simp [tagL, pre, leB_len, fsz]
theorem tagL_byts (a b c d k : Int) (p : Bool) : Byts (tagL a b c d k p) := byts_append (pre_byts _ _) (leB_byts _ _)
theorem tag_mk (a b c d k : Int) (p : Bool) : mkE 84 (tagL a b c d k p) = 0 ∧ mkL 84 (tagL a b c d k p) = frL 84 (tagL a b c d k p) := by
 have h : mkE 84 (tagL a b c d k p) = 0 := by
   unfold mkE
   rw [if_pos (by decide), tagL_len, if_pos (by decide)]
 exact ⟨h, by unfold mkL; rw [if_pos h]⟩
theorem okB_all {a b c d k : Int} (h : okB a b c d k = true) : ∀ j, j < 5 → ffr j ≤ nth a b c d k j ∧ nth a b c d k j ≤ fto j := by
 simp only [okB, List.all_eq_true, List.mem_range, decide_eq_true_eq] at h
 exact h
def TagAt (w : World) (B : Nat) (a b c d k : Int) (p : Bool) : Prop :=
 w.cell? ⟨B, 0, none⟩ = some (.int .i64 a) ∧ w.cell? ⟨B, 1, none⟩ = some (.int .i64 b) ∧ w.cell? ⟨B, 2, none⟩ = some (.int .i64 c) ∧ w.cell? ⟨B, 3, none⟩ = some (.int .i64 d) ∧ w.cell? ⟨B, 4, none⟩ = some (.int .i64 k) ∧ w.cell? ⟨B, 5, none⟩ = some (.bool p)
theorem tagAt_new (w : World) (a b c d k : Int) (p : Bool) : TagAt (w.alloc (tagObj a b c d k p)) w.heap.size a b c d k p := by
 unfold TagAt tagObj
 refine ⟨?_, ?_, ?_, ?_, ?_, ?_⟩ <;> (rw [World.cell?_alloc_mark]; rfl)
theorem TagAt.ext {w w' : World} {B : Nat} {a b c d k : Int} {p : Bool} (h : TagAt w B a b c d k p) (hg : Ext w w') : TagAt w' B a b c d k p :=
 ⟨hg.cell h.1 (by simp), hg.cell h.2.1 (by simp), hg.cell h.2.2.1 (by simp), hg.cell h.2.2.2.1 (by simp), hg.cell h.2.2.2.2.1 (by simp), hg.cell h.2.2.2.2.2 (by simp)⟩
set_option maxRecDepth 100000 in
set_option maxHeartbeats 400000 in
theorem tagBytes_bad (a b c d k : Int) (p : Bool) (w : World) (hF : Flds w) (h : okB a b c d k = false) :
   Calls Tryz.prog 155 #[tagV a b c d k p] w (MadeE w [] 1) := by
 have R := fun w hF => right_any a b c d k p w hF
 rw [h] at R
 have HF := Lib.hid hF
 unfold tagV at *
 clear h hF
 go_enter Tryz.func155, Tryz.ntmps155
 go_wp2_with (go_at_call 147; refine (R _ (HF.out.ext (World.grownBy_alloc _ _ none))).mono ?_; rintro e w1 ⟨rfl, hg1⟩)
 go_returns
 exact ⟨_, rfl, owns_nil _ _, ext_trans (World.grownBy_alloc _ _ none) hg1⟩
set_option maxRecDepth 100000 in
set_option maxHeartbeats 800000 in
theorem tagBytes_good (a b c d k : Int) (p : Bool) (w : World) (hF : Flds w) (h : okB a b c d k = true) :
   Calls Tryz.prog 155 #[tagV a b c d k p] w (MadeE w (frL 84 (tagL a b c d k p)) 0) := by
 have R := fun w hF => right_any a b c d k p w hF
 have N := numbers_any a b c d k p
 have M := fun v w hb => make_any 84 v (tagL a b c d k p) w hb (tagL_byts a b c d k p) (by rw [tagL_len]; decide) (by decide)
 rw [(tag_mk a b c d k p).1, (tag_mk a b c d k p).2] at M
 have HA := okB_all h
 rw [h] at R
 have HT := Lib.hid (put_bit (pre (nth a b c d k) 5) p)
 rw [show pre (nth a b c d k) 5 ++ leB (bitI p) 1 = tagL a b c d k p from rfl] at HT
 generalize tagL a b c d k p = tl at *
 have hF1 := hF.ext (World.grownBy_alloc w (tagObj a b c d k p) none)
 have HF := Lib.hid hF1
 have hN := fun (w : World) => arr_new (w.alloc (arrObj a b c d k)) a b c d k
 generalize hv : nth a b c d k = v at *
 have HT0 := Lib.hid (tagAt_new w a b c d k p)
 have HN := Lib.hid hN
 have HAll := Lib.hid HA
 have hbit : bitI p = if p then 1 else 0 := rfl
 unfold tagV tagObj arrV arrObj at *
 clear hv h hF hF1 hN HA
 go_enter Tryz.func155, Tryz.ntmps155
 go_wp2_with (first
   | (go_at_call 147; refine (R _ HF.out).mono ?_; rintro e w1 ⟨rfl, hg1⟩; obtain ⟨b0, b1, b2, b3, b4, b5⟩ := HT0.out.ext hg1)
   | (go_at_call 163; refine (N _).mono ?_; rintro e w2 ⟨rfl, rfl⟩))
 have he4 : Ext w1 (((w1.alloc (.cells #[.int .i64 a, .int .i64 b, .int .i64 c, .int .i64 d, .int .i64 k, .bool p] 106)).alloc (.cells #[.int .i64 a, .int .i64 b, .int .i64 c, .int .i64 d, .int .i64 k] 201)).alloc (.cells #[.int .i64 a, .int .i64 b, .int .i64 c, .int .i64 d, .int .i64 k] 201)) :=
   ext_trans (ext_trans (World.grownBy_alloc _ _ none) (World.grownBy_alloc _ _ none)) (World.grownBy_alloc _ _ none)
 have hA := HN.out (w1.alloc (.cells #[.int .i64 a, .int .i64 b, .int .i64 c, .int .i64 d, .int .i64 k, .bool p] 106))
 rw [show ((w1.alloc (.cells #[.int .i64 a, .int .i64 b, .int .i64 c, .int .i64 d, .int .i64 k, .bool p] 106)).alloc (.cells #[.int .i64 a, .int .i64 b, .int .i64 c, .int .i64 d, .int .i64 k] 201)).heap.size = w1.heap.size + 1 + 1 by simp] at hA
 have hw1 : Ext w w1 := ext_trans (World.grownBy_alloc _ _ none) hg1
 have HS := Lib.hid (And.intro (ext_trans hw1 he4) (And.intro hA (And.intro ((HF.out.ext hg1).ext he4) ((HT0.out.ext hg1).ext he4))))
 clear hA he4 hw1
 clear b0 b1 b2 b3 b4 b5
 go_loopw [5, 13] (fun o i wr => ∃ j : Nat, j ≤ 5 ∧ i = .int .i64 j ∧ Bts wr o (pre v j) ∧ Ext w wr ∧ Arr wr (w1.heap.size + 1 + 1) v ∧ Flds wr ∧ TagAt wr w.heap.size a b c d k p) (fun _ i _ => 5 - (intOf i).toNat)
 case atStart => exact ⟨0, by omega, rfl, .inl ⟨rfl, rfl⟩, HS.out.1, HS.out.2.1, HS.out.2.2.1, HS.out.2.2.2⟩
 case round =>
   obtain ⟨j, hj, rfl, hb, hE, hA, hF, hT⟩ := hrel
   by_cases hlt : j < 5
   · have HE := Lib.hid (And.intro hE (And.intro hA (And.intro hF (And.intro hT hb))))
     have hcs := fun x (hx : Ext wr x) => And.intro ((hA.ext hx) j hlt) ((hF.ext hx) j hlt).1
     have hst := put_pre hlt (HAll.out j hlt)
     have hbd : v j ≤ 9223372036854775807 := by have := (HAll.out j hlt).2; rcases fld_cases hlt with ⟨_, _, h⟩ | ⟨_, _, h⟩ <;> omega
     have hln : (pre v j).length ≤ 140737488350000 := by have := pre_le v j (by omega); omega
     clear hE hA hF hT hb
     obtain ⟨x, hx⟩ : ∃ x, v j = x := ⟨_, rfl⟩
     obtain ⟨s, hs⟩ : ∃ x, fsz j = x := ⟨_, rfl⟩
     rw [hx, hs] at hcs hst
     rw [hx] at hbd
     have HX := Lib.hid hst
     clear hst hx hs
     go_wp2
     have hS := Ext.drew wr
     refine region_line [(0, true), (1, true), (2, true), (3, true), (4, true), (5, true), (6, true), (7, true), (8, false), (9, true)] (Ext wr) (by kernel_rfl) (by kernel_rfl) (fun _ _ _ d _ h => by cases d <;> exact h) hS ?_
     repeat (refine line_read (a' := ?_) rfl (by kernel_rfl) (by kernel_rfl) hS (fun x hx K hK => ?_) ?_; rotate_left; · obtain ⟨q1, q2⟩ := hcs x hx; go_wp2; exact hK)
     refine line_act (by rfl) (fun K hK => ?_)
     go_wp2_with (go_at_call 182; refine (put_is (HE.out.2.2.2.2.kept hS (by simp)) hln hbd HX.out).mono ?_; rintro e w2 ⟨v2, rfl, hown2, hg2⟩)
     refine hK _ _ (Ext w2) (Ext.refl w2) (fun x hx => Ext.of_drew (Ext.next hg2 x hx)) ?_
     clear hK K hcs
     have hS2 := Ext.refl w2
     repeat (refine line_read (a' := ?_) rfl (by kernel_rfl) (by kernel_rfl) hS2 (fun x hx K hK => ?_) ?_; rotate_left; · go_wp2; exact hK)
     refine line_end ?_
     have hg3 : Ext wr w2 := Ext.of_drew hg2
     obtain ⟨k1, k2, k3, k4, k5⟩ := HE.out
     have HR := Lib.hid (And.intro (Owns.bts rfl hown2) (And.intro (ext_trans k1 hg3) (And.intro (k2.ext hg3) (And.intro (k3.ext hg3) (k4.ext hg3)))))
     clear k1 k2 k3 k4 k5 hg2 hown2 hS hS2 hg3
     go_wp2
     go_roundw
     case rel => exact ⟨j + 1, by omega, by go_num, HR.out.1, HR.out.2.1, HR.out.2.2.1, HR.out.2.2.2.1, HR.out.2.2.2.2⟩
     case measure => simp [intOf]; omega
   · have hn : ¬ (j : Int) < 5 := by omega
     rw [show j = 5 by omega] at hb
     obtain ⟨_, _, _, _, _, b5⟩ := hT
     have hln : (pre v 5).length ≤ 140737488350000 := by have := pre_le v 5 (by omega); omega
     have HB := Lib.hid hb
     have HE := Lib.hid hE
     clear hb hE hA hF
     cases p
     all_goals
       go_wp2_with (first
         | (go_at_call 183; refine (M v2 w2 (Owns.bts rfl hown2)).mono ?_; rintro e w3 ⟨v3, rfl, hown3, hg3⟩)
         | (go_at_call 182; refine (put_is HB.out hln (by decide) HT.out).mono ?_; rintro e w2 ⟨v2, rfl, hown2, hg2⟩))
       go_returns
       exact ⟨v3, rfl, ownsRow_le hown3 (Nat.le_trans HE.out.size hg2.size), ext_trans HE.out (ext_trans hg2 hg3)⟩
theorem tagBytes_any (a b c d k : Int) (p : Bool) (w : World) (hF : Flds w) :
   Calls Tryz.prog 155 #[tagV a b c d k p] w (MadeE w (tagBL a b c d k p) (tagBE a b c d k)) := by
 unfold tagBL tagBE
 cases h : okB a b c d k
 · exact tagBytes_bad a b c d k p w hF h
 · exact tagBytes_good a b c d k p w hF h
end Go.Proofs.YtdnpdoipipfkoaaGreatDoor

namespace Go.Proofs.YtdnpdoipipfkoaaGreatDoor
set_option linter.unusedVariables false
set_option linter.unusedSimpArgs false
set_option linter.unusedVariables false
set_option linter.unusedSimpArgs false
set_option maxRecDepth 100000
open Go.RowKit
inductive Tree where
 | done : Tree
 | read : Nat → Tree → Tree
 | one : Nat → Tree → Tree
 | two : Nat → Nat → Tree → Tree → Tree
def Tree.len : Tree → Nat
 | .done => 0
 | .read _ t => t.len + 1
 | .one _ t => t.len + 1
 | .two _ _ t _ => t.len + 1
def treeOk (md : Region.Mode) (ops : Array Oper) : Array Bool → Tree → Bool
 | listed, .done => Region.ready md ops listed == []
 | listed, .read i t => Region.free md ops listed i && (Region.ready md ops listed).contains i && treeOk md ops (listed.setIfInBounds i true) t
 | listed, .one i t => Region.ready md ops listed == [i] && treeOk md ops (listed.setIfInBounds i true) t
 | listed, .two i j t u => Region.ready md ops listed == [i, j] && (t.len == u.len) && treeOk md ops (listed.setIfInBounds i true) t && treeOk md ops (listed.setIfInBounds j true) u
def wpTree (P : Program) (ops : Array Oper) (Q : Exit → Act → World → Prop) : (World → Prop) → Tree → Act → World → Prop
 | _, .done, a, w => Q .normal a w
 | S, .read i t, a, w => ∃ o v, ops[i]? = some o ∧ YieldsIf P ops S o v a ∧ wpTree P ops Q S t (a.put o.dst v) w
 | S, .one i t, a, w => wpOp P ops Q i (fun a' w' => ∃ S' : World → Prop, S' w' ∧ (∀ x, S' x → S x) ∧ wpTree P ops Q S' t a' w') a w
 | S, .two i j t u, a, w => wpOp P ops Q i (fun a' w' => ∃ S' : World → Prop, S' w' ∧ (∀ x, S' x → S x) ∧ wpTree P ops Q S' t a' w') a w ∧
     wpOp P ops Q j (fun a' w' => ∃ S' : World → Prop, S' w' ∧ (∀ x, S' x → S x) ∧ wpTree P ops Q S' u a' w') a w
theorem wpTree_any {P : Program} {ops : Array Oper} {Q : Exit → Act → World → Prop} {md : Region.Mode} (hsel : Region.noSelect ops = true)
   (hQ : ∀ c a w d v, Q (.panic c) (a.put d v) w → Q (.panic c) a w) :
   ∀ (t : Tree) (S : World → Prop) (listed : Array Bool) (a : Act) (w : World), treeOk md ops listed t = true → S w → wpTree P ops Q S t a w → wpAnyH P md ops Q S t.len listed a w
 | .done, S, listed, a, w, hl, _, h => ⟨by simpa [treeOk] using hl, h⟩
 | .read i t, S, listed, a, w, hl, hS, h => by
   obtain ⟨o, v, ho, hy, h⟩ := h
   simp only [treeOk, Bool.and_eq_true] at hl
   exact wpAnyH_take ho hsel hl.1.1 hl.1.2 (fun c a w => hQ c a w _ _) hy hS (wpTree_any hsel hQ t S _ _ w hl.2 hS h)
 | .one i t, S, listed, a, w, hl, hS, h => by
   simp only [treeOk, Bool.and_eq_true, beq_iff_eq] at hl
   refine wpAnyH_all hl.1 (by simp) ?_
   intro j hj
   simp at hj
   subst hj
   exact wpOp_mono (fun a' w' ⟨S', hS', hsub, h'⟩ => ⟨hsub _ hS', wpAnyH_weaken hsub _ _ _ _ (wpTree_any hsel hQ t S' _ _ w' hl.2 hS' h')⟩) h
 | .two i j t u, S, listed, a, w, hl, hS, h => by
   simp only [treeOk, Bool.and_eq_true, beq_iff_eq] at hl
   obtain ⟨⟨⟨h1, h2⟩, h3⟩, h4⟩ := hl
   refine wpAnyH_all h1 (by simp) ?_
   intro k hk
   simp at hk
   rcases hk with rfl | rfl
   · exact wpOp_mono (fun a' w' ⟨S', hS', hsub, h'⟩ => ⟨hsub _ hS', wpAnyH_weaken hsub _ _ _ _ (wpTree_any hsel hQ t S' _ _ w' h3 hS' h')⟩) h.1
   · exact wpOp_mono (fun a' w' ⟨S', hS', hsub, h'⟩ => ⟨hsub _ hS', wpAnyH_weaken hsub _ _ _ _ (by rw [h2]; exact wpTree_any hsel hQ u S' _ _ w' h4 hS' h')⟩) h.2
theorem region_tree {P : Program} {ops : Array Oper} {Q : Exit → Act → World → Prop} {id : Nat} {a : Act} {w : World} (t : Tree) (S : World → Prop) (hm : P.follows .mixedOrders = true)
   (hc : (Region.noSelect ops && (t.len == ops.size) && treeOk .any ops (Array.replicate ops.size false) t) = true)
   (hQ : ∀ c a w d v, Q (.panic c) (a.put d v) w → Q (.panic c) a w) (hS : S w.drew)
   (h : wpTree P ops Q S t a w.drew) : (Code.region id ops true).wp P Q a w := by
 simp only [Bool.and_eq_true, beq_iff_eq] at hc
 refine wp_region_any hm (wpAny_of_held (S := S) _ _ _ _ ?_)
 rw [← hc.1.2]
 have := wpTree_any hc.1.1 hQ t S _ a w.drew hc.2 hS h
 rw [← hc.1.2] at this
 exact this
theorem tree_read {P : Program} {ops : Array Oper} {Q : Exit → Act → World → Prop} {S : World → Prop} {i : Nat} {t : Tree} {o : Oper} {a a' : Act} {w : World} (ho : ops[i]? = some o)
   (hk : (!Region.wanted o (yielded ops a.tmps) || readerOp o.op || nilGood a o.op) = true) (hd : (o.dst.any fun d => decide (d < a.tmps.size)) = true) (hS : S w)
   (h : ∀ x, S x → ∀ K : Act → World → Prop, K a' x → wpList P ops (OnlyK K) [o] a x) (hr : wpTree P ops Q S t a' w) : wpTree P ops Q S (.read i t) a w := by
 obtain ⟨v, hy, hp⟩ := reads_one hk hd hS h
 exact ⟨o, v, ho, hy, by rw [hp]; exact hr⟩
theorem tree_one {P : Program} {ops : Array Oper} {Q : Exit → Act → World → Prop} {S : World → Prop} {i : Nat} {t : Tree} {o : Oper} {a : Act} {w : World} (ho : ops[i]? = some o)
   (h : ∀ K : Act → World → Prop, (∀ a' w' (S' : World → Prop), S' w' → (∀ x, S' x → S x) → wpTree P ops Q S' t a' w' → K a' w') → wpList P ops (ElseQ K Q) [o] a w) : wpTree P ops Q S (.one i t) a w := by
 have h1 := h _ (fun a' w' S' h1 h2 h3 => (⟨S', h1, h2, h3⟩ : ∃ S' : World → Prop, S' w' ∧ (∀ x, S' x → S x) ∧ wpTree P ops Q S' t a' w'))
 show wpOp P ops Q i _ a w
 unfold wpOp
 simp only [ho]
 simp only [wpList] at h1
 split
 · rename_i hw
   rw [if_pos hw] at h1
   rcases h1 with h1 | ⟨h1, b, x, h2⟩
   · refine .inl ?_
     unfold Oper.wp at h1 ⊢
     generalize (execOp a.eval o).run P w = res at h1
     cases res with
     | ok n w1 =>
       cases n <;> first | exact h1 | exact Calls.mono h1 (fun e w2 he => by cases e <;> exact he) | exact Rows.mono h1 (fun _ _ he => he)
     | halt hh w1 => cases hh <;> exact h1
   · exact .inr ⟨h1, b, x, h2⟩
 · rename_i hw
   rw [if_neg hw] at h1
   exact h1
theorem tree_two {P : Program} {ops : Array Oper} {Q : Exit → Act → World → Prop} {S : World → Prop} {i j : Nat} {t u : Tree} {a : Act} {w : World}
   (h1 : wpTree P ops Q S (.one i t) a w) (h2 : wpTree P ops Q S (.one j u) a w) : wpTree P ops Q S (.two i j t u) a w := ⟨h1, h2⟩
theorem tree_end {P : Program} {ops : Array Oper} {Q : Exit → Act → World → Prop} {S : World → Prop} {a : Act} {w : World} (h : Q .normal a w) : wpTree P ops Q S .done a w := h
end Go.Proofs.YtdnpdoipipfkoaaGreatDoor
