/-
  Package frame: Make; the document's Make.
-/
import Derived.Test.YtjlecncamfdcfaaDoorWM
import Derived.Test.YtjlecncamfdcfaaDoorLine
import Derived.Test.YtjlecncamfdcfaaDoorSB
namespace Go.Proofs.YtjlecncamfdcfaaDoor
open Go.RowKit

/-- append of a slice that reads as bytes to a row of the call's own. -/
theorem wpList_append_bts {w : World} {ops : Array Oper} {rest : List Oper} {o : Oper} {a : Act} {Q : Exit → Act → World → Prop} (hgd : o.guard = none) (s x : Operand)
    (ho : o.op = .call { callee := .builtin .append, args := #[s, x], argTypes := #[25, 25] }) (base : Nat)
    (v : Value) (n : Nat) (zs : List Value) (hs : a.eval s = v) (hown : w.ownsRow base 5 1 v n zs) (src : Value) (xs : List Int) (hx : a.eval x = src) (hb : Bts w src xs)
    (h63 : n + xs.length ≤ 140737488350000) (hbase : base ≤ w.heap.size)
    (h : ∀ v' w', w'.ownsRow base 5 1 v' (n + xs.length) (zs ++ xs.map (Value.int .u8)) → w.grownBy w' v.ownBlock → wpList Tryd.prog ops Q rest (a.put o.dst v') w') : wpList Tryd.prog ops Q (o :: rest) a w := by
  obtain ⟨i0, hi, hz0, hz1, hz2⟩ := info_parts Tryd.infoU8
  rcases hb with ⟨rfl, rfl⟩ | ⟨b, off, cap, rfl, _, hc⟩
  · refine wpList_append_own_none hgd s x 25 ho base 5 i0 1 Tryd.underlying25 hi v n zs hs hown hx ?_
    refine h v w ?_ ⟨rfl, rfl, rfl, Nat.le_refl _, fun _ _ _ => rfl⟩
    simpa using hown
  · refine wpList_append_own w hgd s x 25 ho base 5 i0 (.int .u8 0) 1 1 Tryd.underlying25 hi hz0 hz1 hz2 rfl (by decide) v n zs hs hown ⟨b, off, none⟩ xs.length cap (xs.map (Value.int .u8)) hx (by simp) (cells_of hc) (ints_oneCell _ _) (by unfold maxLen; omega) (by omega) hbase ?_
    intro v' w' h1 h2 _
    exact h v' w' h1 h2

/-- A frame's head and body; the frame. -/
def hdL (k : Int) (xs : List Int) : List Int := leB k 1 ++ (leB xs.length 2 ++ xs)
def frL (k : Int) (xs : List Int) : List Int := hdL k xs ++ leB (crcOf (hdL k xs)) 4
def mkE (k : Int) (xs : List Int) : Int := if 0 ≤ k ∧ k ≤ 255 then (if xs.length ≤ 65535 then 0 else 3) else 1
def mkL (k : Int) (xs : List Int) : List Int := if mkE k xs = 0 then frL k xs else []

theorem leB_byts (v : Int) (n : Nat) : Byts (leB v n) := by
  intro x hx
  simp only [leB, List.mem_map, List.mem_range] at hx
  obtain ⟨k, _, rfl⟩ := hx
  omega
theorem byts_append {xs ys : List Int} (h : Byts xs) (h2 : Byts ys) : Byts (xs ++ ys) := fun x hx => by
  rcases List.mem_append.1 hx with h' | h'
  · exact h x h'
  · exact h2 x h'
theorem hdL_byts {k : Int} {xs : List Int} (h : Byts xs) : Byts (hdL k xs) := byts_append (leB_byts _ _) (byts_append (leB_byts _ _) h)
theorem hdL_len (k : Int) (xs : List Int) : (hdL k xs).length = xs.length + 3 := by simp [hdL, leB_len]; omega
theorem frL_len (k : Int) (xs : List Int) : (frL k xs).length = xs.length + 7 := by simp [frL, hdL_len, leB_len]
theorem frL_byts {k : Int} {xs : List Int} (h : Byts xs) : Byts (frL k xs) := byts_append (hdL_byts h) (leB_byts _ _)

theorem byt_str {xs : List Int} (h : Byts xs) : byt (strOfNums xs) = xs := by
  apply List.ext_getElem?
  intro i
  simp only [byt, strOfNums_data, List.getElem?_map]
  cases hi : xs[i]? with
  | none => simp
  | some n =>
    have hn := h n (List.mem_of_getElem? hi)
    simp
    omega
theorem str_size (xs : List Int) : (strOfNums xs).size = xs.length := by
  show (strOfNums xs).data.size = _
  rw [← Array.length_toList, strOfNums_data, List.length_map]

/-- A frame, or why there is none. -/
def MadeE (w : World) (ys : List Int) (err : Int) (e : Ending) (w' : World) : Prop :=
  ∃ v', e = .returned (.tuple #[v', .int .i64 err]) ∧ w'.ownsRow w.heap.size 5 1 v' ys.length (ys.map (Value.int .u8)) ∧ w.grownBy w' none
theorem owns_nil (w : World) (B : Nat) : w.ownsRow B 5 1 (.slice none 0 0) 0 [] := ⟨rfl, .inl ⟨rfl, rfl⟩⟩

theorem put_one {k : Int} (h0 : 0 ≤ k) (h1 : k ≤ 255) : putL [] k 1 = leB k 1 := by
  have : fitsB k 1 = true := by simp [fitsB]; omega
  simp [putL, this]

set_option maxRecDepth 100000 in
set_option maxHeartbeats 400000 in
theorem make_any (k : Int) (v : Value) (xs : List Int) (w : World) (hb : Bts w v xs) (hB : Byts xs) (hm : xs.length ≤ 140737488200000) (hk : k ≤ 9223372036854775807) :
    Calls Tryd.prog 18 #[.int .i64 k, v] w (MadeE w (mkL k xs) (mkE k xs)) := by
  by_cases hk1 : 0 ≤ k ∧ k ≤ 255
  · by_cases hl : xs.length ≤ 65535
    · have e0 : mkE k xs = 0 := by unfold mkE; rw [if_pos hk1, if_pos hl]
      have e1 : mkL k xs = frL k xs := by unfold mkL; rw [if_pos e0]
      rw [e0, e1]
      have hfit : fitsB k 1 = true := by simp [fitsB]; omega
      have htx : textL (leB k 1) (strOfNums xs) = hdL k xs := by
        unfold textL
        rw [str_size, if_pos hl, byt_str hB]
        simp [hdL]
      have hcv := fun x (hx : Ext w x) => convert_is (s := strOfNums xs) (hb.kept hx (by simp)) rfl
      have hcb := hdL_byts (k := k) hB
      have hcl := hdL_len k xs
      have hsz := str_size xs
      have hfr : frL k xs = hdL k xs ++ leB (crcOf (hdL k xs)) 4 := rfl
      have hcr := crcOf_lt (hdL k xs)
      rw [hfr]
      generalize hdL k xs = h at *
      obtain ⟨ao, cap, b, off, rfl, _⟩ := hb.sform
      generalize hst : strOfNums xs = s at *
      have hput : putL h (crcOf h : Nat) 4 = h ++ leB (crcOf h : Nat) 4 := by
        have : fitsB ((crcOf h : Nat) : Int) 4 = true := by simp [fitsB]; omega
        simp [putL, this]
      have hwr : IntKind.i64.wrap ((crcOf h : Nat) : Int) = ((crcOf h : Nat) : Int) := IntWalk.i64_in _ ⟨by omega, by omega⟩
      have SO := fun v w hb => sumOf_any v h w hb hcb (by omega)
      have HT := Lib.hid htx
      have HP := Lib.hid hput
      have HF := Lib.hid hfit
      have HK := Lib.hid hk1
      have HS := Lib.hid hsz
      have hl2 : ¬ (65535 : Int) < (xs.length : Int) := by omega
      generalize crcOf h = c at *
      have HC := Lib.hid hcl
      clear hb hB hst htx hput hfit hcb hk1 hsz e0 e1 hfr hcl
      go_enter Tryd.func18, Tryd.ntmps18
      go_wp2_with (go_at_call 31; refine (fits_is hk HF.out).mono ?_; rintro e w' ⟨rfl, rfl⟩)
      have hS := Ext.drew w
      refine region_line [(0, true), (2, true), (3, true), (1, false), (4, false), (5, true)] (Ext w) (by kernel_rfl) (by kernel_rfl) (fun _ _ _ d _ h => by cases d <;> exact h) hS ?_
      repeat (refine line_read (a' := ?_) rfl (by kernel_rfl) (by kernel_rfl) hS (fun x hx K hK => ?_) ?_; rotate_left; · have hcx := hcv x hx; go_wp2; exact hK)
      refine line_act (by rfl) (fun K hK => ?_)
      go_wp2_with (go_at_call 17; refine (put_is (.inl ⟨rfl, rfl⟩) (by simp) hk (put_one HK.out.1 HK.out.2)).mono ?_; rintro e w2 ⟨v2, rfl, hown2, hg2⟩)
      refine hK _ _ (Ext w2) (Ext.refl w2) (fun x hx => Ext.of_drew (Ext.next hg2 x hx)) ?_
      clear hK K hcv
      refine line_act (by rfl) (fun K hK => ?_)
      go_wp2_with (go_at_call 33; refine (text_is (Owns.bts rfl hown2) (by simp [leB_len]) (by rw [HS.out]; omega) HT.out).mono ?_; rintro e w3 ⟨v3, rfl, hown3, hg3⟩)
      refine hK _ _ (Ext w3) (Ext.refl w3) (Ext.next hg3) ?_
      clear hK K
      have hS3 := Ext.refl w3
      repeat (refine line_read (a' := ?_) rfl (by kernel_rfl) (by kernel_rfl) hS3 (fun x hx K hK => ?_) ?_; rotate_left; · go_wp2; exact hK)
      refine line_end ?_
      go_wp2_with (first
        | (go_at_call 34; refine (SO _ _ (Owns.bts rfl hown3)).mono ?_; rintro e w' ⟨rfl, rfl⟩)
        | (go_at_call 17; refine (put_is (Owns.bts rfl hown3) (by rw [HC.out]; omega) (by omega) HP.out).mono ?_; rintro e w4 ⟨v4, rfl, hown4, hg4⟩))
      have hgr := grown_trans (grown_trans (Ext.next hg2 _ hg3) hg4 (by simp)) (Ext.refl w4) (by simp)
      have hz2 := hg2.size
      have hz3 := hg3.size
      refine bodyPost_ret (v := .tuple #[v4, .int .i64 0]) (by simp [results, Tryd.results18, go_sem]) rfl ⟨v4, rfl, ownsRow_le hown4 (by simp at hz2; omega), Ext.of_drew hgr⟩
    · have e0 : mkE k xs = 3 := by unfold mkE; rw [if_pos hk1, if_neg hl]
      have e1 : mkL k xs = [] := by unfold mkL; rw [if_neg (by rw [e0]; decide)]
      rw [e0, e1]
      have HF := Lib.hid (show fitsB k 1 = true by simp [fitsB]; omega)
      obtain ⟨ao, cap, b, off, rfl, _⟩ := hb.sform
      have hl2 : (65535 : Int) < (xs.length : Int) := by omega
      clear hb hB e0 e1 hk1 hl
      go_enter Tryd.func18, Tryd.ntmps18
      go_wp2_with (go_at_call 31; refine (fits_is hk HF.out).mono ?_; rintro e w' ⟨rfl, rfl⟩)
      refine bodyPost_ret (v := .tuple #[.slice none 0 0, .int .i64 3]) (by simp [results, Tryd.results18, go_sem]) rfl ⟨_, rfl, owns_nil _ _, Ext.refl _⟩
  · have e0 : mkE k xs = 1 := by unfold mkE; rw [if_neg hk1]
    have e1 : mkL k xs = [] := by unfold mkL; rw [if_neg (by rw [e0]; decide)]
    rw [e0, e1]
    have HF := Lib.hid (show fitsB k 1 = false by simp [fitsB]; omega)
    obtain ⟨ao, cap, b, off, rfl, _⟩ := hb.sform
    clear hb hB e0 e1 hk1
    go_enter Tryd.func18, Tryd.ntmps18
    go_wp2_with (go_at_call 31; refine (fits_is hk HF.out).mono ?_; rintro e w' ⟨rfl, rfl⟩)
    refine bodyPost_ret (v := .tuple #[.slice none 0 0, .int .i64 1]) (by simp [results, Tryd.results18, go_sem]) rfl ⟨_, rfl, owns_nil _ _, Ext.refl _⟩

set_option maxRecDepth 100000 in
set_option maxHeartbeats 800000 in
theorem refMake_any (k : Int) (v : Value) (xs : List Int) (w : World) (hb : Bts w v xs) (hB : Byts xs) (hm : xs.length ≤ 140737488200000) :
    Calls Tryd.prog 14 #[.int .i64 k, v] w (MadeE w (mkL k xs) (mkE k xs)) := by
  by_cases hk1 : 0 ≤ k ∧ k ≤ 255
  · by_cases hl : xs.length ≤ 65535
    · have e0 : mkE k xs = 0 := by unfold mkE; rw [if_pos hk1, if_pos hl]
      have e1 : mkL k xs = frL k xs := by unfold mkL; rw [if_pos e0]
      rw [e0, e1]
      have hp2 : putL (leB k 1) (xs.length : Nat) 2 = leB k 1 ++ leB xs.length 2 := by
        have : fitsB ((xs.length : Nat) : Int) 2 = true := by simp [fitsB]; omega
        simp [putL, this]
      have hcb := hdL_byts (k := k) hB
      have hcl := hdL_len k xs
      have hdf : hdL k xs = leB k 1 ++ leB xs.length 2 ++ xs := by simp [hdL]
      have hfr : frL k xs = hdL k xs ++ leB (crcOf (hdL k xs)) 4 := rfl
      have hcr := crcOf_lt (hdL k xs)
      have hpl : (leB k 1 ++ leB xs.length 2).length = 3 := by simp [leB_len]
      rw [hfr]
      generalize hdL k xs = h at *
      obtain ⟨ao, cap, b, off, rfl, _⟩ := hb.sform
      have hput : putL h (crcOf h : Nat) 4 = h ++ leB (crcOf h : Nat) 4 := by
        have : fitsB ((crcOf h : Nat) : Int) 4 = true := by simp [fitsB]; omega
        simp [putL, this]
      have hwr : IntKind.i64.wrap ((crcOf h : Nat) : Int) = ((crcOf h : Nat) : Int) := IntWalk.i64_in _ ⟨by omega, by omega⟩
      have SO := fun v w hb => refOf_any v h w hb hcb (by omega)
      have HP2 := Lib.hid hp2
      have HP := Lib.hid hput
      have HK := Lib.hid hk1
      have HD := Lib.hid hdf
      have HL := Lib.hid hpl
      have hk2 : ¬ k < 0 := by omega
      have hk3 : ¬ 255 < k := by omega
      have hl2 : ¬ (65535 : Int) < (xs.length : Int) := by omega
      generalize crcOf h = c at *
      have HC := Lib.hid hcl
      have HB := Lib.hid hb
      clear hB hp2 hput hcb hk1 e0 e1 hfr hcl hdf hb hpl
      go_enter Tryd.func14, Tryd.ntmps14
      go_wp2_with (first
        | (go_at_call 19; refine (refPut_is (Owns.bts rfl hown2) (by simp [leB_len]) HP2.out).mono ?_; rintro e w3 ⟨v3, rfl, hown3, hg3⟩)
        | (go_at_call 19; refine (refPut_is (v0 := .slice none 0 0) (xs := []) (.inl ⟨rfl, rfl⟩) (by simp) (put_one HK.out.1 HK.out.2)).mono ?_; rintro e w2 ⟨v2, rfl, hown2, hg2⟩)
        | (at_builtin; go_loud (refine wpList_append_bts rfl _ _ rfl w2.heap.size _ _ _ rfl hown3 _ xs rfl ((HB.out.kept hg2 (by simp)).kept hg3 (by simp)) ?c1 ?c2 ?_)))
      case c1 => rw [HL.out]; omega
      case c2 => exact hg3.size
      intro v4 w4 hown4 hg4
      have hlt4 := hown3.lt
      have hg5 := grown_trans (grown_trans hg2 hg3 (by simp)) hg4 (fun k hk h => by have := hlt4 k hk; have := hg2.size; omega)
      have hown4 : w4.ownsRow w2.heap.size 5 1 v4 h.length (h.map (Value.int .u8)) := by rw [HD.out]; simpa [List.map_append, Nat.add_assoc, List.append_assoc] using hown4
      go_wp2_with (first
        | (go_at_call 26; refine (SO _ _ (Owns.bts rfl hown4)).mono ?_; rintro e w' ⟨rfl, rfl⟩)
        | (go_at_call 19; refine (refPut_is (Owns.bts rfl hown4) (by rw [HC.out]; omega) HP.out).mono ?_; rintro e w5 ⟨v5, rfl, hown5, hg6⟩))
      have hgr := grown_trans hg5 hg6 (by simp)
      have hz5 := hg5.size
      refine bodyPost_ret (v := .tuple #[v5, .int .i64 0]) (by simp [results, Tryd.results14, go_sem]) rfl ⟨v5, rfl, ownsRow_le hown5 hz5, hgr⟩
    · have e0 : mkE k xs = 3 := by unfold mkE; rw [if_pos hk1, if_neg hl]
      have e1 : mkL k xs = [] := by unfold mkL; rw [if_neg (by rw [e0]; decide)]
      rw [e0, e1]
      obtain ⟨ao, cap, b, off, rfl, _⟩ := hb.sform
      have hl2 : (65535 : Int) < (xs.length : Int) := by omega
      have hk2 : ¬ k < 0 := by omega
      have hk3 : ¬ 255 < k := by omega
      clear hb hB e0 e1 hk1 hl
      go_enter Tryd.func14, Tryd.ntmps14
      go_wp2
      refine bodyPost_ret (v := .tuple #[.slice none 0 0, .int .i64 3]) (by simp [results, Tryd.results14, go_sem]) rfl ⟨_, rfl, owns_nil _ _, Ext.refl _⟩
  · have e0 : mkE k xs = 1 := by unfold mkE; rw [if_neg hk1]
    have e1 : mkL k xs = [] := by unfold mkL; rw [if_neg (by rw [e0]; decide)]
    rw [e0, e1]
    obtain ⟨ao, cap, b, off, rfl, _⟩ := hb.sform
    have hk2 : k < 0 ∨ (¬ k < 0 ∧ 255 < k) := by omega
    clear hb hB e0 e1 hk1
    rcases hk2 with h | ⟨h, h2⟩
    all_goals
      go_enter Tryd.func14, Tryd.ntmps14
      go_wp2
      refine bodyPost_ret (v := .tuple #[.slice none 0 0, .int .i64 1]) (by simp [results, Tryd.results14, go_sem]) rfl ⟨_, rfl, owns_nil _ _, Ext.refl _⟩

end Go.Proofs.YtjlecncamfdcfaaDoor
