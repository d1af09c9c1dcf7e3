/-
  Texts put together: WJ ScC ScD UB ScE.
-/
import Derived.Test.YtdaifepjmkmpjaaDoorM03
import Derived.Test.YtdaifepjmkmpjaaDoorM02
import Derived.Laws.DeepStrings4
import Derived.Laws.Concat
import Derived.IntWalk
import Derived.Maps.AppendAt
import Derived.Lib.Strings
/-
  Reader.Text, Flag, Left, Done: the program's.
-/
namespace Go.Proofs.YtdaifepjmkmpjaaDoor
set_option linter.unusedVariables false
set_option linter.unusedSimpArgs false
set_option linter.unusedVariables false
set_option linter.unusedSimpArgs false
set_option maxRecDepth 100000
open Go.RowKit

theorem numV_bd (xs : List Int) (hB : Byts xs) (e0 : Int) : 0 ≤ numV 2 xs e0 ∧ numV 2 xs e0 ≤ 65535 := by
  unfold numV
  split
  · have := leV_bd (xs.take 2) (fun x hx => hB x (List.mem_of_mem_take hx))
    have hl : (xs.take (2 : Int).toNat).length = 2 := by simp; omega
    have e : (2 : Int).toNat = 2 := rfl
    rw [e] at hl ⊢
    rw [hl] at this
    omega
  · omega

theorem numX_byts {n : Int} {xs : List Int} {e0 : Int} (hB : Byts xs) : Byts (numX n xs e0) := by
  unfold numX
  split
  · exact fun x hx => hB x (List.mem_of_mem_drop hx)
  · exact hB

theorem convert_bts {w : World} {v : Value} {xs : List Int} (h : Bts w v xs) : (convert 74 9 v).run Tryd.prog w = .ok (.string (strOfNums xs)) w := by
  rcases h with ⟨rfl, rfl⟩ | ⟨b, off, cap, rfl, h2, h3⟩
  · exact run_convert_bytes_nil w 74 5 Tryd.underlying74 Tryd.underlying5 0 0 9 Tryd.underlying9
  · exact run_convert_bytes_arg w 74 5 Tryd.underlying74 Tryd.underlying5 b off xs.length cap xs rfl h3 9 Tryd.underlying9

def txtOk (most : Int) (xs : List Int) (e0 : Int) : Prop := numE 2 xs e0 = 0 ∧ numV 2 xs e0 ≤ most ∧ numV 2 xs e0 ≤ (numX 2 xs e0).length
instance (most : Int) (xs : List Int) (e0 : Int) : Decidable (txtOk most xs e0) := by unfold txtOk; infer_instance
def txtS (most : Int) (xs : List Int) (e0 : Int) : ByteArray := if txtOk most xs e0 then strOfNums ((numX 2 xs e0).take (numV 2 xs e0).toNat) else ByteArray.empty
def txtX (most : Int) (xs : List Int) (e0 : Int) : List Int := if txtOk most xs e0 then (numX 2 xs e0).drop (numV 2 xs e0).toNat else numX 2 xs e0
def txtE (most : Int) (xs : List Int) (e0 : Int) : Int := if numE 2 xs e0 = 0 then (if numV 2 xs e0 ≤ most then (if numV 2 xs e0 ≤ (numX 2 xs e0).length then 0 else 2) else 3) else numE 2 xs e0

/-- What a reading of a text left behind. -/
def TxtPost (T : TypeId) (w : World) (br c : Nat) (xs : List Int) (e0 most : Int) (e : Ending) (w' : World) : Prop :=
  e = .returned (.string (txtS most xs e0)) ∧ RdIs T w' br c (txtX most xs e0) (txtE most xs e0) ∧ w.grownBy w' (some br)

theorem ret_str {a b : ByteArray} (h : a = b) : Ending.returned (.string a) = .returned (.string b) := by rw [h]
theorem grown_twice {w w1 w2 : World} {r : Option Nat} (h1 : w.grownBy w1 r) (h2 : w1.grownBy w2 r) : w.grownBy w2 r := grown_trans h1 h2 (fun _ hk _ => hk.symm)

def flagB (xs : List Int) (e0 : Int) : Bool := decide (numV 1 xs e0 = 1)
def flagE (xs : List Int) (e0 : Int) : Int := if 1 < numV 1 xs e0 then 2 else numE 1 xs e0

theorem numV_zero {n : Int} {xs : List Int} {e0 : Int} (h : ¬ numE n xs e0 = 0) : numV n xs e0 = 0 := by
  unfold numV
  rw [if_neg]
  rintro ⟨h1, h2, h3⟩
  apply h
  unfold numE
  rw [if_pos h1, if_pos h2, if_pos h3]

def FlagPost (T : TypeId) (w : World) (br c : Nat) (xs : List Int) (e0 : Int) (e : Ending) (w' : World) : Prop :=
  e = .returned (.bool (flagB xs e0)) ∧ RdIs T w' br c (numX 1 xs e0) (flagE xs e0) ∧ w.grownBy w' (some br)

theorem Bts.shape {w : World} {v : Value} {xs : List Int} (h : Bts w v xs) : ∃ ao cap, v = .slice ao xs.length cap := by
  rcases h with ⟨rfl, rfl⟩ | ⟨b, off, cap, rfl, _⟩
  · exact ⟨none, 0, rfl⟩
  · exact ⟨_, _, rfl⟩

def doneE (xs : List Int) (e0 : Int) : Int := if e0 = 0 ∧ 0 < xs.length then 2 else e0
def DonePost (T : TypeId) (w : World) (br c : Nat) (xs : List Int) (e0 : Int) (e : Ending) (w' : World) : Prop :=
  e = .returned (.int .i64 (doneE xs e0)) ∧ RdIs T w' br c xs (doneE xs e0) ∧ w.grownBy w' (some br)

end Go.Proofs.YtdaifepjmkmpjaaDoor

/-
  Layer 25's reference: strings as lists of bytes; digits, Number.
-/
namespace Go.Proofs.YtdaifepjmkmpjaaDoor
set_option linter.unusedVariables false
set_option linter.unusedSimpArgs false
set_option linter.unusedVariables false
set_option linter.unusedSimpArgs false
set_option maxRecDepth 100000
open Go.RowKit

def bs (l : List UInt8) : ByteArray := ⟨l.toArray⟩
theorem bs_size (l : List UInt8) : (bs l).size = l.length := by simp [bs, ByteArray.size]
theorem bs_toList (l : List UInt8) : (bs l).toList = l := ByteArray.toList_mk l
theorem bs_data (l : List UInt8) : (bs l).data.toList = l := rfl
theorem bs_append (a b : List UInt8) : bs a ++ bs b = bs (a ++ b) := ByteArray.mk_append_mk a b
theorem add_bs (a b : List UInt8) (h : a.length + b.length ≤ 1000000000) (z : World) : (Op.stringOp .add (bs a) (bs b)).run Tryd.prog z = .ok (.string (bs (a ++ b))) z := by
  rw [run_string_add_sum z _ _ (by rw [bs_size, bs_size]; omega), bs_append]
theorem bs_of (s : ByteArray) : bs s.data.toList = s := rfl
theorem bs_inj {a b : List UInt8} (h : bs a = bs b) : a = b := by rw [← bs_toList a, h, bs_toList]
theorem digL_len : ∀ (k v : Nat), v < 10 ^ k → 1 ≤ k → (digL v).length ≤ k
  | 0, v, _, h => by omega
  | 1, v, h, _ => by rw [digL, if_pos (by omega)]; simp
  | k + 2, v, h, _ => by
    rw [digL]
    split
    · simp
    · rw [List.length_append]
      have := digL_len (k + 1) (v / 10) (by rw [Nat.pow_succ] at h; omega) (by omega)
      simp; omega
theorem digL_step (v : Nat) (h : 10 ≤ v) : digL v = digL (v / 10) ++ [UInt8.ofNat (48 + v % 10)] := by rw [digL, if_neg (by omega)]
/-- A new slice of one byte reads as it. -/
theorem conv1 (w : World) (n : Int) : (convert 74 9 (.slice (some ⟨w.heap.size, 0, none⟩) 1 1)).run Tryd.prog (w.alloc (.cells #[.int .u8 n] 5)) = .ok (.string (bs [UInt8.ofNat n.toNat])) (w.alloc (.cells #[.int .u8 n] 5)) := by
  have h : Bts (w.alloc (.cells #[.int .u8 n] 5)) (.slice (some ⟨w.heap.size, 0, none⟩) ([n] : List Int).length 1) [n] := .inr ⟨w.heap.size, 0, 1, rfl, by simp, fun i hi => by
    obtain rfl : i = 0 := by simpa using hi
    simp⟩
  exact convert_bts h
attribute [local go_sem] bs_size
def Big (n : Nat) : Prop := n < 18446744073709551616
set_option maxHeartbeats 400000 in
theorem digits25 (w : World) (v : Nat) (hv : Big v) :
    Calls Tryd.prog 51 #[.int .u64 v] w fun e w' => e = .returned (.string (bs (digL v))) ∧ w.grownBy w' none := by
  have HV := Lib.hid hv
  clear hv
  go_enter Tryd.func51, Tryd.ntmps51
  go_wp2
  go_loopw [0, 3] (fun n out wr => ∃ (k : Nat) (r : List UInt8), n = .int .u64 k ∧ out = .string (bs r) ∧ k ≤ v ∧ digL v = digL k ++ r ∧ w.grownBy wr none) (fun n _ _ => (intOf n).toNat)
  case atStart => exact ⟨v, [], rfl, rfl, Nat.le_refl _, by simp, Ext.refl w⟩
  case round =>
    obtain ⟨k, r, rfl, rfl, hk, hd, hE⟩ := hrel
    have hr : r.length ≤ 20 := by have := digL_len 20 v (by have := HV.out; unfold Big at this; omega) (by omega); rw [hd, List.length_append] at this; omega
    have HD := Lib.hid hd
    have C := fun n => conv1 wr n
    clear hd
    have hu : IntKind.u64.wrap ((k : Int) / 10) = ((k / 10 : Nat) : Int) := by have := HV.out; unfold Big at this; rw [IntWalk.u64_in _ (by omega)]; omega
    have hg : ∀ n, w.grownBy (wr.alloc (.cells #[.int .u8 n] 5)) none := fun n => grown_alloc hE _
    have HU := Lib.hid hu
    have HG := Lib.hid hg
    clear hu hg hE
    by_cases h : 10 ≤ k
    · go_wp2
      go_roundw
      case rel => exact ⟨k / 10, UInt8.ofNat (48 + k % 10) :: r, by rw [HU.out], by rw [bs_append, UInt8.ofNat_add]; rfl, by omega, by rw [HD.out, digL_step k h]; simp, HG.out _⟩
      case measure => rw [HU.out]; simp [intOf]; omega
    · have hk9 : k < 10 := by omega
      go_wp2
      go_ret
      refine ⟨?_, HG.out _⟩
      rw [HD.out, digL, if_pos hk9, bs_append, UInt8.ofNat_add]; rfl

set_option maxHeartbeats 400000 in
theorem number25 (w : World) (v : Int) (hv : i64B v) :
    Calls Tryd.prog 37 #[.int .i64 v] w fun e w' => e = .returned (.string (bs (numL v))) ∧ w.grownBy w' none := by
  have H0 := Lib.hid (show 0 ≤ v → IntKind.u64.wrap v = (v.toNat : Int) from fun h => by rw [IntWalk.u64_in _ (by have := hv.2; omega)]; omega)
  have H1 := Lib.hid (show v < 0 → IntKind.u64.wrap (IntKind.u64.wrap (wrap64 (-wrap64 (v + 1))) + 1) = (v.natAbs : Int) from fun h => by
    have := hv.1
    rw [show wrap64 (v + 1) = v + 1 by unfold wrap64; omega, show wrap64 (-(v + 1)) = -(v + 1) by unfold wrap64; omega, IntWalk.u64_in (-(v + 1)) (by omega), IntWalk.u64_in _ (by omega)]; omega)
  have H2 := Lib.hid (show Big v.toNat ∧ Big v.natAbs from by have := hv.1; have := hv.2; unfold Big; constructor <;> omega)
  have H4 := Lib.hid (show (digL v.natAbs).length ≤ 20 from digL_len 20 _ (by have := hv.1; have := hv.2; omega) (by omega))
  clear hv
  go_enter Tryd.func37, Tryd.ntmps37
  by_cases h : v < 0
  · have hz := H1.out h
    obtain ⟨n, hn⟩ : ∃ n, v.natAbs = n := ⟨_, rfl⟩
    rw [hn] at hz
    have HN := Lib.hid hn
    have h20 : (digL n).length ≤ 20 := hn ▸ H4.out
    clear hn
    go_wp2_with (first | (go_at_call 51; refine (digits25 _ n (by rw [← HN.out]; exact H2.out.2)).mono ?_; rintro e w1 ⟨rfl, hg1⟩; clear hz))
    go_ret
    refine ⟨?_, hg1⟩
    unfold numL
    rw [if_pos h, HN.out, show (⟨#[45]⟩ : ByteArray) = bs [45] from rfl, bs_append]; rfl
  · have hz := H0.out (by omega)
    obtain ⟨n, hn⟩ : ∃ n, v.toNat = n := ⟨_, rfl⟩
    rw [hn] at hz
    have HN := Lib.hid hn
    clear hn
    go_wp2_with (first | (go_at_call 51; refine (digits25 _ n (by rw [← HN.out]; exact H2.out.1)).mono ?_; rintro e w1 ⟨rfl, hg1⟩; clear hz))
    go_ret
    refine ⟨?_, hg1⟩
    unfold numL
    rw [if_neg (by omega), HN.out]; rfl

end Go.Proofs.YtdaifepjmkmpjaaDoor

/-
  Layer 25's reference: Text, nums.
-/
namespace Go.Proofs.YtdaifepjmkmpjaaDoor
set_option linter.unusedVariables false
set_option linter.unusedSimpArgs false
set_option linter.unusedVariables false
set_option linter.unusedSimpArgs false
set_option maxRecDepth 100000
open Go.RowKit

def hexS : ByteArray := ⟨#[48, 49, 50, 51, 52, 53, 54, 55, 56, 57, 97, 98, 99, 100, 101, 102]⟩
theorem hexS_at : ∀ n, n < 16 → hexS.extract n (n + 1) = bs [hexB n] := by decide
theorem hexL_snoc (l : List UInt8) (c : UInt8) : hexL (l ++ [c]) = hexL l ++ [hexB (c.toNat / 16), hexB (c.toNat % 16)] := by simp [hexL]
theorem hexL_len (l : List UInt8) : (hexL l).length = l.length * 2 := by
  induction l with
  | nil => rfl
  | cons c l ih => rw [hexL_cons]; simp [ih]; omega
theorem take_snoc25 (s : ByteArray) (k : Nat) (h : k < s.size) : s.data.toList.take (k + 1) = s.data.toList.take k ++ [s[k]] := by
  rw [List.take_succ_eq_append_getElem (by simpa using h)]; rfl
theorem slice_hex (n : Nat) (h : n < 16) (z : World) : (Instr.slice 9 (.string ⟨#[48, 49, 50, 51, 52, 53, 54, 55, 56, 57, 97, 98, 99, 100, 101, 102]⟩) (some (.int .u8 (n : Int))) (some (.int .u8 ((n : Int) + 1))) none).run Tryd.prog z = .ok (.string (bs [hexB n])) z := by
  rw [run_slice_string_if z 9 _ _ _ _ _ Tryd.underlying9, if_pos ⟨by omega, by show (n : Int) + 1 ≤ 16; omega⟩, if_pos ⟨by omega, by omega⟩]
  show Result.ok (Value.string (hexS.extract _ _)) z = _
  rw [show ((n : Int) + 1).toNat = n + 1 by omega, Int.toNat_natCast, hexS_at n h]
set_option maxHeartbeats 400000 in
theorem text25 (w : World) (s : ByteArray) (hs : s.size ≤ 1000000) :
    Calls Tryd.prog 26 #[.string s] w fun e w' => e = .returned (.string (bs (txtL s.data.toList))) ∧ w.grownBy w' none := by
  go_enter Tryd.func26, Tryd.ntmps26
  by_cases h0 : s.toList = []
  · go_wp2
    go_ret
    refine ⟨?_, Ext.refl w⟩
    have : s.data.toList = [] := by rw [← ByteArray.toList_eq]; exact h0
    unfold txtL
    rw [if_pos this]; rfl
  · have hb : s.toList.isEmpty = false := by simpa using h0
    have HB := Lib.hid h0
    go_wp2
    go_loopw [3, 4] (fun out i wr => ∃ k : Nat, k ≤ s.size ∧ i = .int .i64 k ∧ out = .string (bs (hexL (s.data.toList.take k))) ∧ w.grownBy wr none) (fun _ i _ => s.size - (intOf i).toNat)
    case atStart => exact ⟨0, Nat.zero_le _, rfl, rfl, Ext.refl w⟩
    case round =>
      obtain ⟨k, hk, rfl, rfl, hE⟩ := hrel
      have HE := Lib.hid hE
      clear hE
      by_cases hlt : k < s.size
      · have HT := Lib.hid (take_snoc25 s k hlt)
        have hl : (hexL (s.data.toList.take k)).length ≤ 2000000 := by rw [hexL_len]; simp; omega
        obtain ⟨r, hr⟩ : ∃ r, hexL (s.data.toList.take k) = r := ⟨_, rfl⟩
        have HR := Lib.hid hr
        rw [hr] at hl ⊢
        clear hr
        obtain ⟨c, hc⟩ : ∃ c : Nat, (s[k]'hlt).toNat = c := ⟨_, rfl⟩
        have HC := Lib.hid hc
        have hc1 : c < 256 := by rw [← hc]; exact UInt8.toNat_lt _
        obtain ⟨p, hp⟩ : ∃ p : Nat, c / 16 = p := ⟨_, rfl⟩
        obtain ⟨q, hq⟩ : ∃ q : Nat, c % 16 = q := ⟨_, rfl⟩
        have HP := Lib.hid (And.intro hp hq)
        have hp1 : p < 16 := by omega
        have hq1 : q < 16 := by omega
        have w1 : IntKind.u8.wrap ((c : Int) / 16) = (p : Int) := by rw [IntWalk.u8_in _ (by omega)]; omega
        have w2 : IntKind.u8.wrap ((p : Int) + 1) = (p : Int) + 1 := by rw [IntWalk.u8_in _ (by omega)]
        have w3 : IntKind.u8.wrap ((c : Int).tmod 16) = (q : Int) := by rw [Int.tmod_eq_emod_of_nonneg (by omega), IntWalk.u8_in _ (by omega)]; omega
        have w4 : IntKind.u8.wrap ((q : Int) + 1) = (q : Int) + 1 := by rw [IntWalk.u8_in _ (by omega)]
        have w5 : (c : Int).tmod 16 = (q : Int) := by rw [Int.tmod_eq_emod_of_nonneg (by omega)]; omega
        have s1 : ∀ z : World, (Instr.slice 9 (.string ⟨#[48, 49, 50, 51, 52, 53, 54, 55, 56, 57, 97, 98, 99, 100, 101, 102]⟩) (some (.int .u8 (p : Int))) (some (.int .u8 ((p : Int) + 1))) none).run Tryd.prog z = .ok (.string (bs [hexB p])) z := slice_hex p hp1
        have s2 : ∀ z : World, (Instr.slice 9 (.string ⟨#[48, 49, 50, 51, 52, 53, 54, 55, 56, 57, 97, 98, 99, 100, 101, 102]⟩) (some (.int .u8 (q : Int))) (some (.int .u8 ((q : Int) + 1))) none).run Tryd.prog z = .ok (.string (bs [hexB q])) z := slice_hex q hq1
        have a1 := add_bs r [hexB p] (by simp; omega)
        have a2 := add_bs (r ++ [hexB p]) [hexB q] (by simp; omega)
        clear hp hq
        go_upto_region 7 with fail
        go_quiet (fail)
        have HE2 := Lib.hid (grown_trans HE.out (gb_drewN wr nq) (fun k hk _ => by cases hk))
        have HX := Lib.hid (show r ++ [hexB p, hexB q] = hexL (s.data.toList.take (k + 1)) from by
          rw [HT.out, hexL_snoc, HR.out, ← HP.out.1, ← HP.out.2, ← HC.out])
        clear s1 s2 a1 a2 w1 w2 w3 w4 w5
        go_wp2
        go_roundw
        case rel => exact ⟨k + 1, by omega, by go_num, by rw [HX.out], HE2.out⟩
        case measure => simp [intOf]; omega
      · go_wp2
        go_ret
        refine ⟨?_, HE.out⟩
        unfold txtL
        rw [if_neg (by rw [← ByteArray.toList_eq]; exact HB.out), List.take_of_length_le (by simp; omega)]; rfl

theorem numL_len {v : Int} (h : i64B v) : (numL v).length ≤ 21 := by
  have h1 := h.1
  have h2 := h.2
  unfold numL
  split
  · have := digL_len 20 v.natAbs (by omega) (by omega); simp; omega
  · have := digL_len 20 v.toNat (by omega) (by omega); omega
theorem numsL_len : ∀ {l : List Int}, (∀ n ∈ l, i64B n) → (numsL l).length ≤ l.length * 22
  | [], _ => by simp [numsL]
  | n :: l, h => by
    have := numsL_len (l := l) (fun m hm => h m (List.mem_cons_of_mem _ hm))
    have h1 := numL_len (h n (by simp))
    unfold numsL at this ⊢
    rw [List.flatMap_cons, List.length_append, List.length_cons, List.length_cons]
    omega
theorem numsL_snoc (l : List Int) (n : Int) : numsL (l ++ [n]) = numsL l ++ 32 :: numL n := by simp [numsL]
theorem take_snocI25 (l : List Int) (k : Nat) (h : k < l.length) : l.take (k + 1) = l.take k ++ [l.getD k 0] := by
  rw [List.take_succ_eq_append_getElem h, List.getD_eq_getElem?_getD, List.getElem?_eq_getElem h]; rfl
set_option maxHeartbeats 400000 in
theorem nums25 (w : World) (v : Value) (xs : List Int) (hv : Ints w v xs) (hx : ∀ n ∈ xs, i64B n) (hl : xs.length ≤ 2000) :
    Calls Tryd.prog 25 #[v] w fun e w' => e = .returned (.string (bs (numsL xs))) ∧ w.grownBy w' none := by
  obtain ⟨ao, cap, b, off, rfl, hc⟩ := hv.form
  have HC := Lib.hid hc
  have HX := Lib.hid hx
  have HV := Lib.hid hv
  clear hc hx hv
  go_enter Tryd.func25, Tryd.ntmps25
  go_wp2
  go_loopw [3, 8] (fun out i wr => ∃ k : Nat, k ≤ xs.length ∧ i = .int .i64 k ∧ out = .string (bs (numsL (xs.take k))) ∧ w.grownBy wr none) (fun _ i _ => xs.length - (intOf i).toNat)
  case atStart => exact ⟨0, Nat.zero_le _, rfl, rfl, Ext.refl w⟩
  case round =>
    obtain ⟨k, hk, rfl, rfl, hE⟩ := hrel
    by_cases hlt : k < xs.length
    · have hcl := HC.out k hlt
      obtain ⟨rfl, hc⟩ := hcl
      have hcw := hE.cell hc (by simp)
      have hn := HX.out (xs.getD k 0) (by rw [List.getD_eq_getElem?_getD, List.getElem?_eq_getElem hlt]; exact List.getElem_mem hlt)
      have HT := Lib.hid (take_snocI25 xs k hlt)
      have hl1 := numsL_len (l := xs.take k) (fun n hn => HX.out n (List.mem_of_mem_take hn))
      have hl2 : (numsL (xs.take k)).length ≤ 44000 := by have : (xs.take k).length ≤ 2000 := by simp; omega
                                                          omega
      obtain ⟨z, hz⟩ : ∃ z, xs.getD k 0 = z := ⟨_, rfl⟩
      obtain ⟨r, hr⟩ : ∃ r, numsL (xs.take k) = r := ⟨_, rfl⟩
      rw [hz] at hcw hn
      rw [hr] at hl2 ⊢
      have HZ := Lib.hid (And.intro hz hr)
      have HN := Lib.hid hn
      have HE := Lib.hid hE
      have hl3 := numL_len hn
      have a1 := add_bs r [32] (by simp; omega)
      have a2 := add_bs (r ++ [32]) (numL z) (by simp; omega)
      have e1 : (⟨#[32]⟩ : ByteArray) = bs [32] := rfl
      clear hz hr hl1 hn hc hE
      go_wp2_with (first | (go_at_call 37; refine (number25 _ z HN.out).mono ?_; rintro e w1 ⟨rfl, hg1⟩; have HE1 := Lib.hid (ext_trans HE.out hg1); clear hg1 hcw))
      go_roundw
      case rel => exact ⟨k + 1, by omega, by go_num, by rw [HT.out, numsL_snoc, HZ.out.1, HZ.out.2], HE1.out⟩
      case measure => simp [intOf]; omega
    · go_wp2
      go_ret
      exact ⟨by rw [List.take_of_length_le (by omega)]; rfl, hE⟩

end Go.Proofs.YtdaifepjmkmpjaaDoor

/-
  Layer 24's reference: rows of texts, rows of changes; Same, After.
-/
namespace Go.Proofs.YtdaifepjmkmpjaaDoor
set_option linter.unusedVariables false
set_option linter.unusedSimpArgs false
set_option linter.unusedVariables false
set_option linter.unusedSimpArgs false
set_option maxRecDepth 100000
open Go.RowKit

/-- A slice reads as these texts. -/
def TxR (w : World) (a : Option Addr) (ss : List ByteArray) : Prop := ∀ i, i < ss.length → ∃ b off, a = some ⟨b, off, none⟩ ∧ w.cell? ⟨b, off + i, none⟩ = some (.string (ss.getD i ByteArray.empty))
theorem TxR.ext {w w' : World} {a : Option Addr} {ss : List ByteArray} (h : TxR w a ss) (hE : w.grownBy w' none) : TxR w' a ss := fun i hi => by
  obtain ⟨b, off, h1, h2⟩ := h i hi
  exact ⟨b, off, h1, hE.cell h2 (by simp)⟩
/-- A row of texts of the call's own: the first n of a block. -/
def TxB (w : World) (g n : Nat) (F : Nat → ByteArray) : Prop := ∃ cur, w.heap[g]? = some (.cells cur 9 (0, 0)) ∧ ∀ i, i < n → cur[i]? = some (.string (F i))
def upT (F : Nat → ByteArray) (i : Nat) (d : ByteArray) : Nat → ByteArray := fun j => if j = i then d else F j
section
variable {w w' : World} {g n : Nat} {F G : Nat → ByteArray}
theorem TxB.cell (h : TxB w g n F) {i : Nat} (hi : i < n) : w.cell? ⟨g, i, none⟩ = some (.string (F i)) := by
  obtain ⟨cur, h1, h2⟩ := h
  rw [cell_of_row w g i cur _ (0, 0) h1]
  exact h2 i hi
theorem TxB.free (h : TxB w g n F) (i : Nat) : w.frozen? ⟨g, i, none⟩ = false := by
  obtain ⟨cur, h1, _⟩ := h
  exact frozen_of_row w g i cur _ h1
theorem TxB.lt (h : TxB w g n F) : g < w.heap.size := by
  obtain ⟨cur, h1, _⟩ := h
  exact (Array.getElem?_eq_some_iff.1 h1).1
theorem TxB.block (h : TxB w g n F) (hb : w'.heap[g]? = w.heap[g]?) : TxB w' g n F := by
  obtain ⟨cur, h1, h2⟩ := h
  exact ⟨cur, hb.trans h1, h2⟩
theorem TxB.ext (h : TxB w g n F) (hg : w.grownBy w' none) : TxB w' g n F := h.block (hg.block g h.lt (by simp))
theorem TxB.set (h : TxB w g n F) (i : Nat) (d : ByteArray) : TxB (w.setCell ⟨g, i, none⟩ (.string d)) g n (upT F i d) := by
  obtain ⟨cur, h1, h2⟩ := h
  refine ⟨_, heap_setCell_same w g i cur _ _ h1, fun j hj => ?_⟩
  unfold upT
  by_cases e : j = i
  · subst e
    have hlt : j < cur.size := (Array.getElem?_eq_some_iff.1 (h2 j hj)).1
    rw [if_pos rfl, Array.getElem?_setIfInBounds_self_of_lt hlt]
  · rw [if_neg e, Array.getElem?_setIfInBounds_ne (by omega)]
    exact h2 j hj
theorem TxB.same (h : TxB w g n F) (he : ∀ i, i < n → F i = G i) : TxB w g n G := by
  obtain ⟨cur, h1, h2⟩ := h
  exact ⟨cur, h1, fun i hi => by rw [h2 i hi, he i hi]⟩
theorem TxB.txs (h : TxB w g n F) : TxR w (some ⟨g, 0, none⟩) ((List.range n).map F) := fun i hi => by
  have hn : i < n := by simpa using hi
  refine ⟨g, 0, rfl, ?_⟩
  rw [Nat.zero_add, h.cell hn]
  simp [List.getD_eq_getElem?_getD, List.getElem?_map, List.getElem?_range hn]
theorem TxB.of_owns {B : Nat} {v : Value} {ss : List ByteArray} (h : w.ownsRow B 9 1 v ss.length (ss.map Value.string)) (hv : v.ownBlock ≠ none) : ∃ g cap, v = .slice (some ⟨g, 0, none⟩) ss.length cap ∧ TxB w g ss.length (fun i => ss.getD i ByteArray.empty) ∧ B ≤ g := by
  rcases h.2 with ⟨rfl, _⟩ | ⟨g, cap, cur, rfl, h2, h3, _, _, _, h7⟩
  · exact absurd rfl hv
  · refine ⟨g, cap, rfl, ⟨cur, h3, fun i hi => ?_⟩, h2⟩
    have h8 : (cur.toList.take (ss.length * 1))[i]? = (ss.map Value.string)[i]? := by rw [h7]
    rw [List.getElem?_take, if_pos (by omega), Array.getElem?_toList, List.getElem?_map, List.getElem?_eq_getElem hi] at h8
    rw [h8]
    simp [List.getD_eq_getElem?_getD, List.getElem?_eq_getElem hi]
end
theorem new24 {w w1 w2 : World} {g : Nat} (h : w.grownBy w1 none) (h2 : w1.grownBy w2 (some g)) (hg : w.heap.size ≤ g) : w.grownBy w2 none :=
  ⟨h2.os.trans h.os, h2.tape.trans h.tape, h2.output.trans h.output, Nat.le_trans h.size h2.size, fun k hk hne => (h2.block k (Nat.lt_of_lt_of_le hk h.size) (fun e => by injection e with e; omega)).trans (h.block k hk hne)⟩
theorem Tryd.infoStr24 : (Tryd.prog.info? 9).map (fun i => (i.zero, i.size, i.bytes)) = some (some (.string ⟨#[]⟩), 1, 16) := by kernel_rfl

/-- append of a slice that reads as texts to a row of the call's own. -/
theorem append_txs {w : World} {ops : Array Oper} {rest : List Oper} {o : Oper} {a : Act} {Q : Exit → Act → World → Prop} (hgd : o.guard = none) (s x : Operand)
    (ho : o.op = .call { callee := .builtin .append, args := #[s, x], argTypes := #[46, 46] }) (base : Nat)
    (v : Value) (xs : List ByteArray) (hs : a.eval s = v) (hown : w.ownsRow base 9 1 v xs.length (xs.map Value.string)) (y : Option Addr) (cap : Nat) (ys : List ByteArray) (hx : a.eval x = .slice y ys.length cap) (hy : y = none → ys.length = 0 ∧ cap = 0) (hp : ∀ z, y = some z → z.spot = none) (hb : TxR w y ys)
    (h63 : xs.length + ys.length ≤ 8796093022208) (hbase : base ≤ w.heap.size)
    (h : ∀ v' w', w'.ownsRow base 9 1 v' (xs ++ ys).length ((xs ++ ys).map Value.string) → w.grownBy w' v.ownBlock → (v'.ownBlock = v.ownBlock ∨ v'.ownBlock = some w.heap.size) → wpList Tryd.prog ops Q rest (a.put o.dst v') w') : wpList Tryd.prog ops Q (o :: rest) a w := by
  obtain ⟨i0, hi, hz0, hz1, hz2⟩ := info_parts Tryd.infoStr24
  rcases y with _ | z
  · obtain ⟨h1, rfl⟩ := hy rfl
    obtain rfl := List.length_eq_zero_iff.1 h1
    refine wpList_append_own_none hgd s x 46 ho base 9 i0 1 Tryd.underlying46 hi v _ _ hs hown hx ?_
    exact h v w (by simpa using hown) ⟨rfl, rfl, rfl, Nat.le_refl _, fun _ _ _ => rfl⟩ (.inl rfl)
  · refine wpList_append_own_at w hgd s x 46 ho base 9 i0 (.string ⟨#[]⟩) 1 16 Tryd.underlying46 hi hz0 hz1 hz2 rfl (by decide) v _ _ hs hown z ys.length cap (ys.map Value.string) hx (by simp) ?_ (by intro u hu; simp at hu; obtain ⟨_, _, rfl⟩ := hu; rfl) (by unfold maxLen; omega) (by omega) hbase ?_
    · intro j u hj
      rw [List.getElem?_map] at hj
      by_cases hl : j < ys.length
      · rw [List.getElem?_eq_getElem hl] at hj
        obtain ⟨b, off, e, hc⟩ := hb j hl
        injection e with e
        subst e
        rw [addr_add, hc, ← hj]
        simp [List.getElem?_eq_getElem hl, List.getD_eq_getElem?_getD]
      · rw [List.getElem?_eq_none (by omega)] at hj
        cases hj
    · intro v' w' h1 h2 _ h4
      refine h v' w' ?_ h2 h4
      rw [List.length_append, List.map_append]
      exact h1

/-- A change. -/
def ch24C (x : Int × ByteArray) : Array Value := #[.int .i64 x.1, .string x.2]
section
variable {ops : Array Oper} {rest : List Oper} {o : Oper} {a : Act} {w : World} {Q : Exit → Act → World → Prop}
end
/-- A slice reads as these changes. -/
def ChT (w : World) (a : Option Addr) (X : List (Int × ByteArray)) : Prop := ∀ i, i < X.length → ∃ b off, a = some ⟨b, off, none⟩ ∧ w.rangeAt b (off + i * 2) (ch24C (X.getD i (0, ByteArray.empty))).toList
theorem ChT.ext {w w' : World} {a : Option Addr} {X : List (Int × ByteArray)} (h : ChT w a X) (hg : w.grownBy w' none) : ChT w' a X := fun i hi => by
  obtain ⟨b, off, h1, h2⟩ := h i hi
  exact ⟨b, off, h1, fun j u hj => hg.cell (h2 j u hj) (by simp)⟩

/-- What a place's text becomes. -/
def foldI (X : List (Int × ByteArray)) (i : Nat) (d : ByteArray) : ByteArray := X.foldl (fun d c => if c.1 = (i : Int) then c.2 else d) d
theorem foldI_take {X : List (Int × ByteArray)} {i : Nat} {d : ByteArray} {j : Nat} (hj : j < X.length) :
    foldI (X.take (j + 1)) i d = if (X.getD j (0, ByteArray.empty)).1 = (i : Int) then (X.getD j (0, ByteArray.empty)).2 else foldI (X.take j) i d := by
  unfold foldI
  rw [List.getD_eq_getElem?_getD, List.getElem?_eq_getElem hj, ← List.take_append_getElem hj, List.foldl_append]
  rfl
/-- Places behind changes, place by place. -/
def aftR (X : List (Int × ByteArray)) (ss : List ByteArray) : List ByteArray := (List.range ss.length).map fun i => foldI X i (ss.getD i ByteArray.empty)
def aftU (X : List (Int × ByteArray)) (ss : List ByteArray) (i : Nat) : Nat → ByteArray := fun q => if q < i then foldI X q (ss.getD q ByteArray.empty) else ss.getD q ByteArray.empty

end Go.Proofs.YtdaifepjmkmpjaaDoor

/-
  Layer 25's reference: Split.
-/
namespace Go.Proofs.YtdaifepjmkmpjaaDoor
set_option linter.unusedVariables false
set_option linter.unusedSimpArgs false
set_option linter.unusedVariables false
set_option linter.unusedSimpArgs false
set_option maxRecDepth 100000
open Go.RowKit

theorem own_kept25 {w w' : World} {B : Nat} {e : TypeId} {sz : Nat} {v : Value} {n : Nat} {xs : List Value} {r : Option Nat} (h : w.ownsRow B e sz v n xs) (hg : w.grownBy w' r) (hne : ∀ k, v.ownBlock = some k → some k ≠ r) : w'.ownsRow B e sz v n xs :=
  ⟨h.1, h.2.imp id fun ⟨g, cap, cur, hv, hb, hh, rest⟩ => ⟨g, cap, cur, hv, hb, (hg.block g (Array.getElem?_eq_some_iff.1 hh).1 (hne g (by rw [hv]; rfl))).trans hh, rest⟩⟩
/-- A row of texts of the call's own. -/
def OwnS (B : Nat) (w : World) (v : Value) (L : List (List UInt8)) : Prop := w.ownsRow B 9 1 v L.length ((L.map bs).map Value.string)
theorem OwnS.open {B : Nat} {w : World} {v : Value} {L : List (List UInt8)} (h : OwnS B w v L) (hn : v.ownBlock ≠ none) : ∃ g cap, v = .slice (some ⟨g, 0, none⟩) L.length cap ∧ B ≤ g ∧ L.length ≤ cap ∧ cap ≤ maxLen ∧ (∀ o, w.frozen? ⟨g, o, none⟩ = false) ∧ ∀ i, i < L.length → w.cell? ⟨g, i, none⟩ = some (.string (bs (L.getD i []))) := by
  rcases h.2 with ⟨rfl, _⟩ | ⟨g, cap, cur, rfl, h2, h3, h4, h5, h6, h7⟩
  · exact absurd rfl hn
  · refine ⟨g, cap, rfl, h2, h4, h5, fun o => frozen_of_row w g o cur _ h3, fun i hi => ?_⟩
    have h8 : (cur.toList.take (L.length * 1))[i]? = ((L.map bs).map Value.string)[i]? := by rw [h7]
    rw [List.getElem?_take, if_pos (by omega), Array.getElem?_toList, List.getElem?_map, List.getElem?_map, List.getElem?_eq_getElem hi] at h8
    rw [cell_of_row w g i cur _ (0, 0) h3, h8]
    simp [List.getD_eq_getElem?_getD, List.getElem?_eq_getElem hi]
theorem OwnS.set {B : Nat} {w : World} {g cap : Nat} {L : List (List UInt8)} (h : OwnS B w (.slice (some ⟨g, 0, none⟩) L.length cap) L) (i : Nat) (hi : i < L.length) (x : List UInt8) : OwnS B (w.setCell ⟨g, i, none⟩ (.string (bs x))) (.slice (some ⟨g, 0, none⟩) L.length cap) (L.set i x) := by
  rcases h.2 with ⟨h1, _⟩ | ⟨g', cap', cur, h1, h2, h3, h4, h5, h6, h7⟩
  · cases h1
  · injection h1 with h1 _ h8
    injection h1 with h1
    injection h1 with h1
    subst h1 h8
    refine ⟨by simp, .inr ⟨g, cap, _, by simp, h2, heap_setCell_same w g i cur _ _ h3, by simpa using h4, h5, by simpa using h6, ?_⟩⟩
    apply List.ext_getElem?
    intro j
    have h9 : (cur.toList.take (L.length * 1))[j]? = ((L.map bs).map Value.string)[j]? := by rw [h7]
    simp only [List.length_set, Nat.mul_one, List.getElem?_take, List.map_map, List.getElem?_map, List.getElem?_set, Array.toList_setIfInBounds, List.length_map] at h9 ⊢
    by_cases hj : j < L.length
    · rw [if_pos hj] at h9 ⊢
      by_cases e : i = j
      · subst e
        have : i < cur.toList.length := by simp; omega
        have h10 : i < cur.size := by omega
        simp [h10, hi]
      · rw [if_neg e, if_neg e]; exact h9
    · rw [if_neg hj]
      have : i ≠ j := by omega
      rw [if_neg this, List.getElem?_eq_none (by omega)]; rfl
theorem set_last (L : List (List UInt8)) (x : List UInt8) (h : L ≠ []) : L.set (L.length - 1) x = L.dropLast ++ [x] := by
  cases hL : L.reverse with
  | nil => exact absurd (List.reverse_eq_nil_iff.1 hL) h
  | cons a r =>
    have e : L = r.reverse ++ [a] := by rw [← List.reverse_reverse L, hL]; simp
    rw [e]
    simp
theorem getD_last (L : List (List UInt8)) (h : L ≠ []) : L.getD (L.length - 1) [] = L.getLastD [] := by
  rw [List.getLastD_eq_getLast?, List.getLast?_eq_getElem?, List.getD_eq_getElem?_getD]
theorem extract_one (s : ByteArray) (k : Nat) (h : k < s.size) : s.extract k (k + 1) = bs [s[k]] := by
  apply ByteArray.ext
  apply Array.ext'
  rw [Lib.extract_data]
  show _ = [s[k]]
  rw [show k + 1 - k = 1 by omega, List.take_one, List.head?_drop, List.getElem?_eq_getElem (by simpa using h)]
  rfl
theorem spS_len (b : UInt8) (L : List (List UInt8)) (k n : Nat) (h : ∀ w ∈ L, w.length ≤ k) (c : UInt8) : ∀ w ∈ spS b L c, w.length ≤ k + 1 := by
  intro w hw
  unfold spS at hw
  split at hw
  · rcases List.mem_append.1 hw with hw | hw
    · have := h w hw; omega
    · simp at hw; subst hw; simp
  · rcases List.mem_append.1 hw with hw | hw
    · have := h w (List.dropLast_subset _ hw); omega
    · simp only [List.mem_singleton] at hw
      subst hw
      cases L with
      | nil => simp
      | cons o os =>
        have e : (o :: os).getLastD [] = (o :: os).getLast (by simp) := by rw [List.getLastD_eq_getLast?, List.getLast?_eq_some_getLast (by simp)]; rfl
        rw [e, List.length_append]
        have := h _ (List.getLast_mem (l := o :: os) (by simp))
        simp only [List.length_singleton]
        omega
/-- A new slice of one text. -/
theorem lit_txR (w : World) (s : ByteArray) : TxR (w.alloc (.cells #[.string s] 9)) (some ⟨w.heap.size, 0, none⟩) [s] := fun i hi => by
  obtain rfl : i = 0 := by simpa using hi
  exact ⟨_, 0, rfl, by simp⟩
theorem lit_own (w : World) (s : List UInt8) : OwnS w.heap.size (w.alloc (.cells #[.string (bs s)] 9)) (.slice (some ⟨w.heap.size, 0, none⟩) 1 1) [s] :=
  ⟨rfl, .inr ⟨_, 1, _, rfl, Nat.le_refl _, heap_alloc_new w _, by simp, by decide, rfl, rfl⟩⟩
set_option maxHeartbeats 800000 in
theorem split25 (w : World) (s : ByteArray) (b : UInt8) (hs : s.size ≤ 10000) :
    Calls Tryd.prog 29 #[.string s, .int .u8 (b.toNat : Int)] w fun e w' => ∃ v, e = .returned v ∧ OwnS w.heap.size w' v (splitL b s.data.toList) ∧ v.ownBlock ≠ none ∧ w.grownBy w' none := by
  have h0 := lit_own w []
  have g0 := World.grownBy_alloc w (.cells #[.string (bs [])] 9) none
  obtain ⟨w0, hw0⟩ : ∃ x, w.alloc (.cells #[.string (bs [])] 9) = x := ⟨_, rfl⟩
  rw [hw0] at h0 g0
  have e0 : (⟨#[]⟩ : ByteArray) = bs [] := rfl
  have H0 := Lib.hid h0
  have G0 := Lib.hid g0
  obtain ⟨m, hm⟩ : ∃ m : Nat, b.toNat = m := ⟨_, rfl⟩
  have HM := Lib.hid hm
  rw [hm]
  clear h0 g0 hm
  go_enter Tryd.func29, Tryd.ntmps29
  go_wp2
  go_loopw [5, 6] (fun out i wr => ∃ (k : Nat) (v : Value), k ≤ s.size ∧ i = .int .i64 k ∧ out = v ∧ OwnS w.heap.size wr v (splitL b (s.data.toList.take k)) ∧ v.ownBlock ≠ none ∧ w.grownBy wr none) (fun _ i _ => s.size - (intOf i).toNat)
  case atStart => exact ⟨0, _, Nat.zero_le _, rfl, rfl, H0.out, by simp [Value.ownBlock], G0.out⟩
  case round =>
    obtain ⟨k, v, hk, rfl, rfl, hO, hnv, hE⟩ := hrel
    by_cases hlt : k < s.size
    · have HT := Lib.hid (take_snoc25 s k hlt)
      obtain ⟨L, hL⟩ : ∃ L, splitL b (s.data.toList.take k) = L := ⟨_, rfl⟩
      have hne : L ≠ [] := hL ▸ splitL_ne b _
      have hln : L.length ≤ 10001 := by have := splitL_length (b := b) (s.data.toList.take k); rw [hL] at this; have : (s.data.toList.take k).length ≤ s.size := by simp; omega
                                        omega
      have hwd : ∀ x ∈ L, x.length ≤ 10000 := fun x hx => by
        have := splitL_mem (b := b) (s.data.toList.take k) x (hL ▸ hx); have : (s.data.toList.take k).length ≤ s.size := by simp; omega
        omega
      rw [hL] at hO
      have HO := Lib.hid hO
      have HL := Lib.hid hL
      have HW := Lib.hid hwd
      have HE := Lib.hid hE
      obtain ⟨g, cap, rfl, hgB, hcap, hmax, hfz, hcl⟩ := hO.open hnv
      obtain ⟨c, hc⟩ : ∃ c : Nat, (s[k]'hlt).toNat = c := ⟨_, rfl⟩
      have hc' := hc
      have HG := Lib.hid (And.intro hcl hfz)
      have hsz := hE.size
      clear hL hO hwd hE hcl hfz
      by_cases e : c = m
      · have hcm : s[k]'hlt = b := UInt8.toNat_inj.1 (by rw [hc', HM.out, e])
        have HS := Lib.hid (show splitL b (s.data.toList.take (k + 1)) = L ++ [[]] from by rw [HT.out, splitL_snoc, HL.out]; unfold spS; rw [if_pos hcm])
        clear hc'
        subst e
        have hT := lit_txR wr (bs [])
        have hg2 := World.grownBy_alloc wr (.cells #[.string (bs [])] 9) none
        obtain ⟨w2, hw2⟩ : ∃ x, wr.alloc (.cells #[.string (bs [])] 9) = x := ⟨_, rfl⟩
        rw [hw2] at hT hg2
        have HT2 := Lib.hid hT
        have HG2 := Lib.hid hg2
        have HO2 := Lib.hid (show OwnS w.heap.size w2 (.slice (some ⟨g, 0, none⟩) L.length cap) L from own_kept25 HO.out hg2 (by simp))
        clear hcm hT hg2
        go_wp2_with (first
          | (at_builtin; refine append_txs rfl _ _ rfl w.heap.size (.slice (some ⟨g, 0, none⟩) L.length cap) (L.map bs) rfl (by rw [List.length_map]; exact HO2.out) (some ⟨wr.heap.size, 0, none⟩) 1 [bs []] rfl (fun h => by cases h) (fun z hz => by injection hz with hz; rw [← hz]) HT2.out ?_ ?_ ?_; simp; omega; (have := HG2.out.size; omega); intro v' w3 ho3 hg3 hb3; have HO3 := Lib.hid ho3; have HE3 := Lib.hid (show w.grownBy w3 none from grown_trans (ext_trans HE.out HG2.out) hg3 (fun p hp hlt => by injection hp with hp; simp at hp; omega)); have HB3 := Lib.hid (show v'.ownBlock ≠ none from by (rcases hb3 with h | h <;> rw [h] <;> simp [Value.ownBlock])); clear ho3 hg3 hb3))
        go_roundw
        case rel => exact ⟨k + 1, _, by omega, by go_num, rfl, by rw [HS.out]; unfold OwnS; simpa using HO3.out, HB3.out, HE3.out⟩
        case measure => simp [intOf]; omega
      · have hcm : s[k]'hlt ≠ b := fun h => e (by rw [← hc', ← HM.out, h])
        obtain ⟨u, hu⟩ : ∃ u, s[k]'hlt = u := ⟨_, rfl⟩
        rw [hu] at hcm
        obtain ⟨q, hq⟩ : ∃ q, L.length = q + 1 := by
          cases L with
          | nil => exact absurd rfl hne
          | cons a l => exact ⟨l.length, rfl⟩
        obtain ⟨x, hx⟩ : ∃ x, L.getD q [] = x := ⟨_, rfl⟩
        have hx1 : x.length ≤ 10000 := by rw [← hx, List.getD_eq_getElem?_getD, List.getElem?_eq_getElem (by omega)]; exact HW.out _ (List.getElem_mem (by omega))
        have HS := Lib.hid (show splitL b (s.data.toList.take (k + 1)) = L.set q (x ++ [u]) from by
          rw [HT.out, splitL_snoc, HL.out, hu]; unfold spS; rw [if_neg hcm, ← getD_last L hne, show L.length - 1 = q by omega, hx, ← set_last L _ hne, show L.length - 1 = q by omega])
        have s1 : ∀ z : World, (Instr.slice 9 (.string s) (some (.int .i64 (k : Int))) (some (.int .i64 ((k : Int) + 1))) none).run Tryd.prog z = .ok (.string (bs [u])) z := fun z => by
          rw [run_slice_string_if z 9 _ _ _ _ _ Tryd.underlying9, if_pos ⟨by omega, by omega⟩, if_pos ⟨by omega, by omega⟩, show ((k : Int) + 1).toNat = k + 1 by omega, Int.toNat_natCast, extract_one s k hlt, hu]
        have a1 := add_bs x [u] (by simp; omega)
        have hd := Ext.drew wr
        have cq : wr.drew.cell? ⟨g, q, none⟩ = some (.string (bs x)) := hd.cell ((HG.out.1 q (by omega)).trans (by rw [hx])) (by simp)
        have fq : wr.drew.frozen? ⟨g, q, none⟩ = false := HG.out.2 q
        have HQ := Lib.hid hq
        have e' : ((c : Int) == (m : Int)) = false := by rw [beq_eq_false_iff_ne]; intro h; exact e (by omega)
        have HOQ := Lib.hid (hq ▸ HO.out.set q (by omega) (x ++ [u]))
        have HE2 := Lib.hid (show w.grownBy (wr.setCell ⟨g, q, none⟩ (.string (bs (x ++ [u])))).drew none from ext_trans (grown_trans HE.out (grown_set wr ⟨g, q, none⟩ (.string (bs (x ++ [u])))) (fun p hp hlt => by injection hp with hp; simp only at hp; omega)) (Ext.drew _))
        rw [hq] at hln hcap ⊢
        clear hq hx hu hcm hne hd e
        go_upto_region 7 with fail
        refine region_line [(0, true), (1, true), (2, true), (3, true), (4, true), (5, true), (6, true), (7, true), (8, true), (10, true), (11, true), (12, true), (13, true), (14, true), (9, false), (15, true), (16, true), (17, false)] (fun _ => True) (by kernel_rfl) (by kernel_rfl) (fun _ _ _ d _ h => by cases d <;> exact h) trivial ?_
        iterate 14 (refine line_read (a' := ?_) rfl (by kernel_rfl) (by kernel_rfl) trivial (fun z hz K hK => ?_) ?_; rotate_left; · go_wp2; exact hK)
        refine line_act rfl fun K hK => ?_
        go_wp2
        refine hK _ _ (fun _ => True) trivial (fun _ h => h) ?_
        iterate 2 (refine line_read (a' := ?_) rfl (by kernel_rfl) (by kernel_rfl) trivial (fun z hz K hK => ?_) ?_; rotate_left; · go_wp2; exact hK)
        refine line_act rfl fun K hK => ?_
        go_wp2
        refine hK _ _ (fun _ => True) trivial (fun _ h => h) ?_
        refine line_end ?_
        go_wp2
        go_roundw
        case rel => exact ⟨k + 1, _, by omega, by go_num, rfl, by (rw [HS.out]; have h9 := HOQ.out; unfold OwnS at h9 ⊢; rw [List.length_set, HQ.out] at h9 ⊢; exact h9), by simp [Value.ownBlock], HE2.out⟩
        case measure => simp [intOf]; omega
    · go_wp2
      go_ret
      exact ⟨_, rfl, by rw [List.take_of_length_le (by simp; omega)] at hO; exact hO, hnv, hE⟩

end Go.Proofs.YtdaifepjmkmpjaaDoor
