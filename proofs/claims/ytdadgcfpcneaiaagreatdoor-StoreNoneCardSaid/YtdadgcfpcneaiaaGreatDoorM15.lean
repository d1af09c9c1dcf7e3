/-
  Texts put together: OD OE OF QV QW QX QY.
-/
import Derived.Test.YtdadgcfpcneaiaaGreatDoorM14
import Derived.Test.YtdadgcfpcneaiaaGreatDoorM02
import Derived.Lib.Hide
import Derived.Outline
import Derived.Deep.DeepCutAuto
import Derived.Deep.Cut
import Derived.Deep.LoopGhost
/-
  Layer 14: the program's table, by the document's rows: Place, Worth, At, Clear, Set.
-/
namespace Go.Proofs.YtdadgcfpcneaiaaGreatDoor
set_option linter.unusedVariables false
set_option linter.unusedSimpArgs false
set_option linter.unusedVariables false
set_option linter.unusedSimpArgs false
set_option maxRecDepth 100000
open Go.RowKit

/-- A table at t, and the document's rows. -/
def TabA (w : World) (t B P : Nat) (rs : List R14) : Prop := ∃ R W S, TabS w t B P R W S ∧ Inv14 B P R W S rs
theorem grown_any14 {w w1 : World} {r : Option Nat} (h : w.grownBy w1 none) : w.grownBy w1 r := ⟨h.os, h.tape, h.output, h.size, fun k hk _ => h.block k hk (by simp)⟩
section
variable {w w' : World} {t B P : Nat} {rs : List R14}
theorem TabA.kept {r : Option Nat} (h : TabA w t B P rs) (hg : w.grownBy w' r) (hne : some t ≠ r) : TabA w' t B P rs := by obtain ⟨R, W, S, h1, h2⟩ := h; exact ⟨R, W, S, h1.kept hg hne, h2⟩
theorem TabA.ext (h : TabA w t B P rs) (hg : w.grownBy w' none) : TabA w' t B P rs := h.kept hg (by simp)
theorem TabA.lt (h : TabA w t B P rs) : t < w.heap.size := by obtain ⟨R, W, S, h1, _⟩ := h; exact h1.lt
theorem TabA.bl (h : TabA w t B P rs) : B ≤ 64 := by obtain ⟨R, W, S, h1, _⟩ := h; exact h1.bl

theorem tabPlace (h : TabA w t B P rs) (b p : Int) : Calls Tryz.prog 98 #[.pointer (some ⟨t, 0, none⟩), .int .i64 b, .int .i64 p] w fun e w' => e = .returned (.int .i64 (placeN rs b p)) ∧ w = w' := by
  obtain ⟨R, W, S, hT, hI⟩ := h
  by_cases hh : hasN B P b p = true
  · obtain ⟨h1, h2, h3, h4⟩ := hasN_true hh
    obtain ⟨b, rfl⟩ := Int.eq_ofNat_of_zero_le h1
    obtain ⟨p, rfl⟩ := Int.eq_ofNat_of_zero_le h3
    have := hT.pl
    have hr := hI.row b p (by omega) (by omega)
    rw [← hr]
    exact place_yes hT b p (by omega) (by omega)
  · have hh2 : hasN B P b p = false := by simpa using hh
    rw [placeN_none (fun r hr he => by
      have := hI.ok r hr
      unfold hasN at hh
      simp at hh
      omega)]
    exact place_no hT b p hh2
theorem tabWorth (h : TabA w t B P rs) (b : Int) : Calls Tryz.prog 80 #[.pointer (some ⟨t, 0, none⟩), .int .i64 b] w fun e w' => e = .returned (.int .i64 (worthN rs b)) ∧ w = w' := by
  obtain ⟨R, W, S, hT, hI⟩ := h
  by_cases hh : 0 ≤ b ∧ b < B
  · obtain ⟨b, rfl⟩ := Int.eq_ofNat_of_zero_le hh.1
    have := hT.bl
    rw [← hI.wor b (by omega)]
    exact worth_yes hT b (by omega)
  · have hh2 : hasN B P b 0 = false := by unfold hasN; simp; omega
    have hw : worthN rs b = 0 := by
      unfold worthN
      rw [List.length_eq_zero_iff, List.filter_eq_nil_iff]
      intro r hr he
      have := hI.ok r hr
      simp at he
      omega
    rw [hw]
    exact worth_no hT b hh2
theorem tabAt (h : TabA w t B P rs) (q : Int) : Calls Tryz.prog 40 #[.pointer (some ⟨t, 0, none⟩), .int .i64 q] w fun e w' => e = .returned (.tuple #[.int .i64 (atN rs q).1, .int .i64 (atN rs q).2.1, .bool (atN rs q).2.2]) ∧ w.grownBy w' none := by
  obtain ⟨R, W, S, hT, hI⟩ := h
  by_cases hh : 0 ≤ q ∧ q < 64
  · obtain ⟨q, rfl⟩ := Int.eq_ofNat_of_zero_le hh.1
    exact at_yes hT q (by omega) _ (hI.spo q (by omega))
  · rw [atN_none (fun r hr he => by have := hI.ok r hr; omega)]
    exact (at_no q hh).mono fun e w' ⟨h1, h2⟩ => ⟨h1, by subst h2; exact Ext.refl w⟩
theorem tabClear (h : TabA w t B P rs) (q : Int) (hl : rs.length ≤ 1000000) : Calls Tryz.prog 54 #[.pointer (some ⟨t, 0, none⟩), .int .i64 q] w fun e w' => e = .returned (.bool (decide ((clearN rs q).length < rs.length))) ∧ TabA w' t B P (clearN rs q) ∧ w.grownBy w' (some t) := by
  obtain ⟨R, W, S, hT, hI⟩ := h
  by_cases hh : 0 ≤ q ∧ q < 64
  · obtain ⟨q, rfl⟩ := Int.eq_ofNat_of_zero_le hh.1
    by_cases hex : ∃ r ∈ rs, r.pl = q
    · obtain ⟨r, hr, hq⟩ := hex
      have hok := hI.ok r hr
      obtain ⟨b, hb⟩ := Int.eq_ofNat_of_zero_le hok.2.2.1
      obtain ⟨p, hp⟩ := Int.eq_ofNat_of_zero_le hok.2.2.2.2.1
      have hsp := hI.spot_yes (q := q) (by omega) hr hq
      rw [hb, hp] at hsp
      have hcl := clear_len hI.pls hr
      have hcw := clear_worth hI.pls hr (b : Int)
      rw [if_pos hb, hq] at hcw
      rw [hq] at hcl
      have hbl := hT.bl
      have hpl := hT.pl
      have hw := hI.wor b (by omega)
      rw [← hcw] at hw
      have hle : worthN (clearN rs q) b ≤ rs.length := by
        have h1 : worthN (clearN rs q) b ≤ (clearN rs q).length := List.length_filter_le _ _
        omega
      refine (clear_on hT q (by omega) b p (by omega) (by omega) hsp _ hw (by omega)).mono fun e w' ⟨h1, h2, h3⟩ => ⟨?_, ⟨_, _, _, h2, hI.clear hr hq hb hp hw⟩, h3⟩
      rw [h1, decide_eq_true (by omega)]
    · have hn : ∀ r ∈ rs, r.pl ≠ q := fun r hr he => hex ⟨r, hr, he⟩
      rw [clear_same hn, decide_eq_false (Nat.lt_irrefl _)]
      exact (clear_off hT q (by omega) (hI.spot_no (by omega) hn)).mono fun e w' ⟨h1, h2⟩ => ⟨h1, ⟨R, W, S, hT.ext h2, hI⟩, grown_any14 h2⟩
  · have hn : ∀ r ∈ rs, r.pl ≠ q := fun r hr he => by have := hI.ok r hr; omega
    rw [clear_same hn, decide_eq_false (Nat.lt_irrefl _)]
    exact (clear_no q hh).mono fun e w' ⟨h1, h2⟩ => ⟨h1, by subst h2; exact ⟨R, W, S, hT, hI⟩, by subst h2; exact grown_any14 (Ext.refl w)⟩

/-- Set: what is refused. -/
theorem set_range (h : TabA w t B P rs) (q b p : Int) (hn : (decide (0 ≤ q) && decide (q < 64)) = false ∨ hasN B P b p = false) : Calls Tryz.prog 62 #[.pointer (some ⟨t, 0, none⟩), .int .i64 q, .int .i64 b, .int .i64 p] w fun e w' => e = .returned (.int .i64 5) ∧ w = w' := by
  have IS := isPlace_is q w
  by_cases h1 : (decide (0 ≤ q) && decide (q < 64)) = false
  · rw [h1] at IS
    clear hn h h1
    go_enter Tryz.func62, Tryz.ntmps62
    go_wp2_with (go_at_call 75; refine IS.mono ?_; rintro e w1 ⟨rfl, rfl⟩)
    go_ret
    exact ⟨rfl, rfl⟩
  · have h2 : hasN B P b p = false := hn.resolve_left h1
    obtain ⟨R, W, S, hT, hI⟩ := h
    have HAS := hasT_is hT b p
    rw [show (decide (0 ≤ q) && decide (q < 64)) = true by simpa using h1] at IS
    rw [h2] at HAS
    clear hn hT hI h1 h2
    go_enter Tryz.func62, Tryz.ntmps62
    go_wp2_with (first
      | (go_at_call 75; refine IS.mono ?_; rintro e w1 ⟨rfl, rfl⟩)
      | (go_at_call 97; refine HAS.mono ?_; rintro e w1 ⟨rfl, rfl⟩))
    go_ret
    exact ⟨rfl, rfl⟩
theorem set_none (q b p : Int) (w : World) : Calls Tryz.prog 62 #[.pointer none, .int .i64 q, .int .i64 b, .int .i64 p] w fun e w' => e = .returned (.int .i64 1) ∧ w = w' := by
  go_enter Tryz.func62, Tryz.ntmps62
  go_wp2
  go_ret
  exact ⟨rfl, rfl⟩
theorem set_twice (h : TabA w t B P rs) (q : Int) (b p : Int) (h1 : (decide (0 ≤ q) && decide (q < 64)) = true) (h2 : hasN B P b p = true) (x : Int) (hx : placeN rs b p = x) (hx1 : x ≠ -1) (hx2 : x ≠ q) :
    Calls Tryz.prog 62 #[.pointer (some ⟨t, 0, none⟩), .int .i64 q, .int .i64 b, .int .i64 p] w fun e w' => e = .returned (.int .i64 7) ∧ w = w' := by
  have IS := isPlace_is q w
  have PL := tabPlace h b p
  obtain ⟨R, W, S, hT, hI⟩ := h
  have HAS := hasT_is hT b p
  rw [h1] at IS
  rw [h2] at HAS
  rw [hx] at PL
  have b1 : (x != -1) = true := by simpa using hx1
  have b2 : (x != q) = true := by simpa using hx2
  clear hT hI h1 h2 hx hx1 hx2
  go_enter Tryz.func62, Tryz.ntmps62
  go_wp2_with (first
    | (go_at_call 75; refine IS.mono ?_; rintro e w1 ⟨rfl, rfl⟩)
    | (go_at_call 97; refine HAS.mono ?_; rintro e w1 ⟨rfl, rfl⟩)
    | (go_at_call 98; refine PL.mono ?_; rintro e w1 ⟨rfl, rfl⟩))
  go_ret
  exact ⟨rfl, rfl⟩

/-- Behind the clearing: the page is given. -/
def SetOk (w : World) (t : Nat) (rs : List R14) (q b p : Nat) (B P : Nat) (w' : World) : Prop := TabA w' t B P (clearN rs q ++ [⟨q, b, p⟩]) ∧ w.grownBy w' (some t)

set_option maxHeartbeats 1600000 in
theorem set_ok (h : TabA w t B P rs) (q b p : Nat) (hl : rs.length ≤ 1000000) (hq : q < 64) (hb : b < B) (hp : p < P) (x : Int) (hx : placeN rs b p = x) (hx1 : x = -1 ∨ x = q) :
    Calls Tryz.prog 62 #[.pointer (some ⟨t, 0, none⟩), .int .i64 q, .int .i64 b, .int .i64 p] w fun e w' => e = .returned (.int .i64 0) ∧ SetOk w t rs q b p B P w' := by
  have IS := isPlace_is q w
  have PL := tabPlace h b p
  have CL := tabClear h q hl
  have hbl := h.bl
  have hb64 : b < 64 := by omega
  obtain ⟨R, W, S, hT, hI⟩ := h
  have hp16 : p < 16 := by have := hT.pl; omega
  have HAS := hasT_is hT b p
  rw [show (decide (0 ≤ (q : Int)) && decide ((q : Int) < 64)) = true by simp; omega] at IS
  rw [show hasN B P (b : Int) (p : Int) = true by unfold hasN; simp; omega] at HAS
  rw [hx] at PL
  -- whose the page is, if not this place's
  have hfree : ∀ s ∈ clearN rs q, ¬ (s.bk = b ∧ s.pg = p) := fun s hs he => by
    obtain ⟨h1, h2⟩ := mem_clear.1 hs
    have h3 := placeN_some hI.pgs h1
    rw [he.1, he.2, hx] at h3
    have := hI.ok s h1
    omega
  have HF := Lib.hid hfree
  have HX := Lib.hid hx1
  obtain ⟨g0, hg0⟩ : ∃ z, decide ((clearN rs q).length < rs.length) = z := ⟨_, rfl⟩
  rw [hg0] at CL
  have hxc : ((x != -1) && (x != (q : Int))) = false := by
    rcases hx1 with rfl | rfl
    · rfl
    · simp
  obtain ⟨x1, hx1'⟩ : ∃ z, (x != -1) = z := ⟨_, rfl⟩
  obtain ⟨x2, hx2'⟩ : ∃ z, (x != (q : Int)) = z := ⟨_, rfl⟩
  rw [hx1', hx2'] at hxc
  clear hx hx1 hT hI hfree hg0
  have hcase : x1 = false ∨ (x1 = true ∧ x2 = false) := by cases x1 <;> simp_all
  clear hxc
  go_enter Tryz.func62, Tryz.ntmps62
  rcases hcase with rfl | ⟨rfl, rfl⟩
  all_goals
    go_wp2_with (first
      | (go_at_call 75; refine IS.mono ?_; rintro e w1 ⟨rfl, rfl⟩)
      | (go_at_call 97; refine HAS.mono ?_; rintro e w1 ⟨rfl, rfl⟩)
      | (go_at_call 98; refine PL.mono ?_; rintro e w1 ⟨rfl, rfl⟩)
      | (go_at_call 54; refine CL.mono ?_; rintro e w1 ⟨rfl, hA1, hg1⟩; obtain ⟨R, W, S, hT, hI⟩ := hA1; have HT1 := Lib.hid hT; have HI1 := Lib.hid hI; have HG1 := Lib.hid hg1; have c2 := hT.row hb64 hp16; have f2 := hT.free (2 + b * 16 + p); clear hT hI hg1))
    have HT2 := Lib.hid ((HT1.out.setRow hb64 hp16 q).ext (Ext.drew _))
    have HG2 := Lib.hid (show w.grownBy (w1.setCell ⟨t, 2 + b * 16 + p, none⟩ (.int .i64 q)).drew (some t) from drew_any14 (set_chain14 HG1.out (g14_set1 w1 t _ _)))
    obtain ⟨w2, hw2⟩ : ∃ v, (w1.setCell ⟨t, 2 + b * 16 + p, none⟩ (.int .i64 q)).drew = v := ⟨_, rfl⟩
    clear c2 f2 IS HAS PL CL HT1 HG1
    refine region_line [(0, true), (1, true), (2, true), (3, true), (4, true), (7, true), (8, true), (5, false), (6, true), (9, true), (10, false)] (fun _ => True) (by kernel_rfl) (by kernel_rfl) (fun _ _ _ d _ h => by cases d <;> exact h) trivial ?_
    rw [hw2] at HT2 HG2 ⊢
    clear hw2
    iterate 7 (refine line_read (a' := ?_) rfl (by kernel_rfl) (by kernel_rfl) trivial (fun x0 hx K hK => ?_) ?_; rotate_left; · (go_wp2; exact hK))
    refine line_act (by rfl) (fun K hK => ?_)
    obtain ⟨y, hy⟩ : ∃ y : Nat, W b = (y : Int) := ⟨_, HI1.out.wor b hb64⟩
    have hyl : y ≤ 1000000 := by
      have h1 := HI1.out.wor b hb64
      have h2 : worthN (clearN rs q) b ≤ (clearN rs q).length := List.length_filter_le _ _
      have h3 : (clearN rs q).length ≤ rs.length := List.length_filter_le _ _
      omega
    have HY := Lib.hid hy
    have c3 := HT2.out.wor hb64
    rw [hy] at c3
    clear hy
    go_wp2
    refine hK _ _ (fun _ => True) trivial (fun x hx => hx) ?_
    clear hK K c3
    iterate 2 (refine line_read (a' := ?_) rfl (by kernel_rfl) (by kernel_rfl) trivial (fun x0 hx K hK => ?_) ?_; rotate_left; · (go_wp2; exact hK))
    refine line_act (by rfl) (fun K hK => ?_)
    have c3 := HT2.out.wor hb64
    have f3 := HT2.out.free (1026 + b)
    go_wp2
    refine hK _ _ (fun _ => True) trivial (fun x hx => hx) ?_
    clear hK K c3 f3
    refine line_end ?_
    have HT3 := HT2.out.setWor hb64 ((y + 1 : Nat) : Int)
    have HG3 := Lib.hid (set_chain14 HG2.out (g14_set1 w2 t (1026 + b) (.int .i64 ((y + 1 : Nat) : Int))))
    clear HT2 HG2
    rw [show ((y + 1 : Nat) : Int) = (y : Int) + 1 by omega] at HT3 HG3
    go_wp2_with (refine tab_store (s := (true, (b : Int), (p : Int))) _ _ rfl hq rfl rfl HT3 rfl ?_; intro w6 ht6 hg6)
    go_ret
    refine ⟨rfl, ⟨_, _, _, ht6, ?_⟩, set_chain14 HG3.out hg6⟩
    have hI := HI1.out.put (q := q) hq hb hp (fun s hs => (mem_clear.1 hs).2) HF.out HY.out
    rw [show ((y + 1 : Nat) : Int) = (y : Int) + 1 by omega] at hI
    exact hI
end

end Go.Proofs.YtdadgcfpcneaiaaGreatDoor

/-
  Layer 14: the program's table: Set by the document's rows; Grow, New, Count.
-/
namespace Go.Proofs.YtdadgcfpcneaiaaGreatDoor
set_option linter.unusedVariables false
set_option linter.unusedSimpArgs false
set_option linter.unusedVariables false
set_option linter.unusedSimpArgs false
set_option maxRecDepth 100000
open Go.RowKit

section
variable {w w' : World} {t B P : Nat} {rs : List R14}
theorem tabSet (h : TabA w t B P rs) (q b p : Int) (hl : rs.length ≤ 1000000) : Calls Tryz.prog 62 #[.pointer (some ⟨t, 0, none⟩), .int .i64 q, .int .i64 b, .int .i64 p] w fun e w' => e = .returned (.int .i64 (setE B P rs q b p)) ∧ TabA w' t B P (setR B P rs q b p) ∧ w.grownBy w' (some t) := by
  have stay : ∀ {e : Int} {w' : World}, setE B P rs q b p = e → e ≠ 0 → w = w' → TabA w' t B P (setR B P rs q b p) ∧ w.grownBy w' (some t) := fun h1 h2 h3 => by
    subst h3
    unfold setR
    rw [h1, if_neg h2]
    exact ⟨h, grown_any14 (Ext.refl w)⟩
  by_cases hr : q < 0 ∨ 63 < q ∨ b < 0 ∨ (B : Int) ≤ b ∨ p < 0 ∨ (P : Int) ≤ p
  · have he : setE B P rs q b p = 5 := by unfold setE; rw [if_pos hr]
    refine (set_range h q b p ?_).mono fun e w' ⟨h1, h2⟩ => ⟨by rw [h1, he], stay he (by decide) h2⟩
    unfold hasN
    simp
    omega
  · obtain ⟨q, rfl⟩ := Int.eq_ofNat_of_zero_le (show 0 ≤ q by omega)
    obtain ⟨b, rfl⟩ := Int.eq_ofNat_of_zero_le (show 0 ≤ b by omega)
    obtain ⟨p, rfl⟩ := Int.eq_ofNat_of_zero_le (show 0 ≤ p by omega)
    by_cases ht : 0 ≤ placeN rs b p ∧ placeN rs b p ≠ q
    · have he : setE B P rs q b p = 7 := by unfold setE; rw [if_neg hr, if_pos ht]
      refine (set_twice h q b p (by simp; omega) (by unfold hasN; simp; omega) _ rfl (by omega) ht.2).mono fun e w' ⟨h1, h2⟩ => ⟨by rw [h1, he], stay he (by decide) h2⟩
    · have he : setE B P rs q b p = 0 := by unfold setE; rw [if_neg hr, if_neg ht]
      have hR : setR B P rs q b p = clearN rs q ++ [⟨q, b, p⟩] := by unfold setR; rw [if_pos he]
      have hpl : placeN rs b p = -1 ∨ placeN rs b p = q := by
        by_cases h0 : 0 ≤ placeN rs b p
        · exact .inr (Classical.byContradiction fun hne => ht ⟨h0, hne⟩)
        · left
          obtain ⟨R, W, S, hT, hI⟩ := h
          have h1 := hI.row b p (by omega) (by have := hT.pl; omega)
          by_cases hex : ∃ r ∈ rs, r.bk = b ∧ r.pg = p
          · obtain ⟨r, hr2, h2, h3⟩ := hex
            have h4 := placeN_some hI.pgs hr2
            rw [h2, h3] at h4
            have := hI.ok r hr2
            omega
          · exact placeN_none fun r hr2 h2 => hex ⟨r, hr2, h2⟩
      rw [he, hR]
      exact set_ok h q b p hl (by omega) (by omega) (by omega) _ rfl hpl
end

/-- What stands while blocks are added. -/
def GrowS (w wr : World) (t B P : Nat) (R : Nat → Nat → Int) (W : Nat → Int) (S : Nat → Bool × Int × Int) (k j : Nat) : Prop :=
  ∃ R', TabS wr t (B + k) P R' W S ∧ (∀ b p, b < B → p < 16 → R' b p = R b p) ∧ (∀ b p, B ≤ b → b < B + k → p < 16 → R' b p = -1) ∧ (∀ p, p < j → R' (B + k) p = -1) ∧ w.grownBy wr (some t)
section
variable {w wr : World} {t B P k j : Nat} {R : Nat → Nat → Int} {W : Nat → Int} {S : Nat → Bool × Int × Int}
theorem GrowS.start (h : TabS w t B P R W S) : GrowS w w t B P R W S 0 0 := ⟨R, h, fun _ _ _ _ => rfl, fun b p h1 h2 => by omega, fun p hp => by omega, grown_any14 (Ext.refl w)⟩
theorem GrowS.tab (h : GrowS w wr t B P R W S k j) : ∃ R', TabS wr t (B + k) P R' W S := by obtain ⟨R', h, _⟩ := h; exact ⟨R', h⟩
theorem GrowS.put (h : GrowS w wr t B P R W S k j) (hb : B + k < 64) (hj : j < 16) : GrowS w (wr.drew.setCell ⟨t, 2 + (B + k) * 16 + j, none⟩ (.int .i64 (-1))) t B P R W S k (j + 1) := by
  obtain ⟨R', h1, h2, h3, h4, h5⟩ := h
  refine ⟨_, (h1.ext (Ext.drew wr)).setRow hb hj (-1), fun b p hb2 hp => ?_, fun b p hb2 hb3 hp => ?_, fun p hp => ?_, set_chain14 (drew_any14 h5) (g14_set1 _ t _ _)⟩
  · unfold upd2
    rw [if_neg (by omega)]
    exact h2 b p hb2 hp
  · unfold upd2
    rw [if_neg (by omega)]
    exact h3 b p hb2 hb3 hp
  · unfold upd2
    by_cases e : p = j
    · rw [if_pos ⟨rfl, e⟩]
    · rw [if_neg (by omega)]
      exact h4 p (by omega)
theorem GrowS.step (h : GrowS w wr t B P R W S k 16) (hb : B + k < 64) : GrowS w (wr.setCell ⟨t, 0, none⟩ (.int .i64 ((B + k + 1 : Nat) : Int))) t B P R W S (k + 1) 0 := by
  obtain ⟨R', h1, h2, h3, h4, h5⟩ := h
  refine ⟨R', h1.setB (by omega), h2, fun b p hb2 hb3 hp => ?_, fun p hp => by omega, set_chain14 h5 (g14_set1 wr t _ _)⟩
  by_cases e : b = B + k
  · subst e; exact h4 p hp
  · exact h3 b p hb2 (by omega) hp

set_option maxHeartbeats 1600000 in
theorem grow_is (h : TabS w t B P R W S) (g : Int) (hg : -9223372036854775808 ≤ g ∧ g ≤ 9223372036854775807) :
    Calls Tryz.prog 53 #[.pointer (some ⟨t, 0, none⟩), .int .i64 g] w fun e w' => e = .returned (.tuple #[]) ∧ GrowS w w' t B P R W S (min g (64 - (B : Int))).toNat 0 := by
  have c0 := h.b
  have hbl := h.bl
  have HS := Lib.hid (GrowS.start h)
  obtain ⟨m, hm⟩ : ∃ m, min g (64 - (B : Int)) = m := ⟨_, rfl⟩
  rw [hm]
  have hm64 : m ≤ 64 - (B : Int) := by rw [← hm]; exact Int.min_le_right _ _
  have HM := Lib.hid hm
  obtain ⟨M, hM⟩ : ∃ M, m.toNat = M := ⟨_, rfl⟩
  rw [hM]
  have hcond : ∀ k : Nat, decide ((k : Int) < m) = decide (k < M) := fun k => by
    by_cases hk : k < M
    · rw [decide_eq_true hk, decide_eq_true (by omega)]
    · rw [decide_eq_false hk, decide_eq_false (by omega)]
  have hMB : B + M ≤ 64 := by omega
  have HMM := Lib.hid (And.intro hM (And.intro hm64 hg))
  have HC := Lib.hid hcond
  clear h hm hM hcond hm64 hg
  go_enter Tryz.func53, Tryz.ntmps53
  go_upto_region 1 with fail
  go_cut [13, 14] (fun s i wx => s = .int .i64 m ∧ i = .int .i64 0 ∧ w = wx)
  case first =>
    have hg := HMM.out.2.2
    go_wp2
    all_goals
      go_meet
      exact ⟨congrArg (Value.int .i64) (by have := HM.out; omega), rfl, rfl⟩
  case rest =>
    obtain ⟨rfl, rfl, rfl⟩ := hcut
    clear c0
    go_wp2
    go_loopw [14] (fun i wr => ∃ k : Nat, k ≤ M ∧ i = .int .i64 k ∧ GrowS w wr t B P R W S k 0) (fun i _ => M - (intOf i).toNat)
    case atStart => exact ⟨0, Nat.zero_le _, rfl, HS.out⟩
    case round =>
      clear HS
      obtain ⟨k, hk, rfl, hG⟩ := hrel
      obtain ⟨wo, rfl⟩ : ∃ wo : World, wo = wr := ⟨_, rfl⟩
      have HG := Lib.hid hG
      clear hG
      have hck := HC.out k
      by_cases hlt : k < M
      · rw [decide_eq_true hlt] at hck
        go_wp2
        go_loopw [16] (fun i wx => ∃ j : Nat, j ≤ 16 ∧ i = .int .i64 j ∧ GrowS w wx t B P R W S k j) (fun i _ => 16 - (intOf i).toNat)
        case atStart => exact ⟨0, Nat.zero_le _, rfl, HG.out⟩
        case round =>
          clear HG
          obtain ⟨j, hj, rfl, hG⟩ := hrel
          obtain ⟨R1, hT⟩ := hG.tab
          have HG := Lib.hid hG
          clear hG
          by_cases hlt2 : j < 16
          · have hTd := hT.ext (Ext.drew wr)
            have hS : (fun x0 : World => x0.cell? ⟨t, 0, none⟩ = some (.int .i64 ((B + k : Nat) : Int))) wr.drew := hTd.b
            have c2 := hTd.row (b := B + k) (p := j) (by omega) hlt2
            have f2 := hTd.free (2 + (B + k) * 16 + j)
            have HN := Lib.hid (HG.out.put (by omega) hlt2)
            have hS6 : (fun x0 : World => x0.cell? ⟨t, 0, none⟩ = some (.int .i64 ((B + k : Nat) : Int))) (wr.drew.setCell ⟨t, 2 + (B + k) * 16 + j, none⟩ (.int .i64 (-1))) := by obtain ⟨_, h⟩ := HN.out.tab; exact h.b
            clear hT hTd HG
            have hBk : B + k < 64 := by omega
            obtain ⟨b, hb⟩ : ∃ b, B + k = b := ⟨_, rfl⟩
            rw [hb] at hS c2 f2 HN hS6 hBk
            have HBK := Lib.hid hb
            clear hb
            go_wp2
            refine region_line [(0, true), (1, true), (2, true), (3, true), (4, true), (5, true), (6, true), (7, true), (8, true), (9, true), (10, false)] (fun x0 : World => x0.cell? ⟨t, 0, none⟩ = some (.int .i64 (b : Int))) (by kernel_rfl) (by kernel_rfl) (fun _ _ _ d _ h => by cases d <;> exact h) hS ?_
            iterate 10 (refine line_read (a' := ?_) rfl (by kernel_rfl) (by kernel_rfl) hS (fun x0 hx K hK => ?_) ?_; rotate_left; · (go_wp2; exact hK))
            refine line_act (by rfl) (fun K hK => ?_)
            go_wp2
            refine hK _ _ (fun x0 : World => x0.cell? ⟨t, 0, none⟩ = some (.int .i64 (b : Int))) hS6 (fun x hx => hx) ?_
            clear hK K hS hS6 c2 f2
            refine line_end ?_
            go_wp2
            go_roundw
            case rel => exact ⟨j + 1, by omega, by go_num, HN.out⟩
            case measure => simp [intOf]; omega
          · obtain rfl : j = 16 := by omega
            have c0 := hT.b
            have f0 := hT.free 0
            have HN := Lib.hid (HG.out.step (by omega))
            have hBk : B + k < 64 := by omega
            clear hT HG
            go_wp2
            go_roundw
            case rel => exact ⟨k + 1, by omega, by go_num, HN.out⟩
            case measure => simp [intOf]; omega
      · rw [decide_eq_false hlt] at hck
        obtain rfl : k = M := by omega
        go_wp2
        go_end0
        exact ⟨rfl, HG.out⟩
end

end Go.Proofs.YtdadgcfpcneaiaaGreatDoor

/-
  Layer 14: the program's table: Grow by the document's rows; New, Count.
-/
namespace Go.Proofs.YtdadgcfpcneaiaaGreatDoor
set_option linter.unusedVariables false
set_option linter.unusedSimpArgs false
set_option linter.unusedVariables false
set_option linter.unusedSimpArgs false
set_option maxRecDepth 100000
open Go.RowKit

theorem tabGrow {w : World} {t B P : Nat} {rs : List R14} (h : TabA w t B P rs) (g : Int) (hg : -9223372036854775808 ≤ g ∧ g ≤ 9223372036854775807) :
    Calls Tryz.prog 53 #[.pointer (some ⟨t, 0, none⟩), .int .i64 g] w fun e w' => e = .returned (.tuple #[]) ∧ TabA w' t (B + (min g (64 - (B : Int))).toNat) P rs ∧ w.grownBy w' (some t) := by
  obtain ⟨R, W, S, hT, hI⟩ := h
  refine (grow_is hT g hg).mono fun e w' ⟨h1, R', h2, h3, h4, _, h5⟩ => ⟨h1, ⟨R', W, S, h2, hI.more _ (Nat.le_add_right _ _) h3 h4⟩, h5⟩
theorem grow_none (g : Int) (w : World) : Calls Tryz.prog 53 #[.pointer none, .int .i64 g] w fun e w' => e = .returned (.tuple #[]) ∧ w = w' := by
  go_enter Tryz.func53, Tryz.ntmps53
  go_wp2
  refine bodyPost_ret (v := .tuple #[]) (results_none rfl _ _ _) rfl ?_
  exact ⟨rfl, rfl⟩

/-- The cells of a table that nothing was written to but how many pages. -/
def zeroT (P : Int) : Array Value := (([Value.int .i64 0, Value.int .i64 P] : List Value) ++ List.replicate 1088 (Value.int .i64 0) ++ (List.replicate 64 [Value.bool false, Value.int .i64 0, Value.int .i64 0]).flatten).toArray
theorem tab_buildV (p : Int) (w : World) : (Instr.build 141 #[(1, .int .i64 p)]).run Tryz.prog w = .ok (.agg (zeroT p)) w := by kernel_rfl
theorem tab_build {ops : Array Oper} {rest : List Oper} {o : Oper} {a : Act} {w : World} {Q : Exit → Act → World → Prop} (hgd : o.guard = none) (x : Operand) (ho : o.op = .build 141 #[(1, x)]) {p : Int} (hx : a.eval x = .int .i64 p)
    (h : wpList Tryz.prog ops Q rest (a.put o.dst (.agg (zeroT p))) w) : wpList Tryz.prog ops Q (o :: rest) a w := by
  refine wpList_plain hgd fun K hK => ?_
  have hm : (#[((1 : Nat), x)].map fun (q : Nat × Operand) => (q.1, a.eval q.2)) = #[(1, .int .i64 p)] := by simp [hx]
  unfold Oper.wp execOp
  simp only [ho, hm, Sem.run_bind, tab_buildV, Result.andThen_ok, Sem.run_pure]
  exact hK _ _ h
theorem flat_rep (x y z : Value) : ∀ (n q i : Nat), q < n → i < 3 → (List.replicate n [x, y, z]).flatten[q * 3 + i]? = [x, y, z][i]?
  | 0, q, i, h, _ => by omega
  | n + 1, 0, i, _, hi => by
    rw [List.replicate_succ, List.flatten_cons, List.getElem?_append_left (by simp; omega)]
    congr 1
    omega
  | n + 1, q + 1, i, h, hi => by
    rw [List.replicate_succ, List.flatten_cons, List.getElem?_append_right (by simp; omega), ← flat_rep x y z n q i (by omega) hi]
    congr 1
    simp
    omega
theorem flat_len (l : List Value) : ∀ n, (List.replicate n l).flatten.length = n * l.length
  | 0 => by simp
  | n + 1 => by rw [List.replicate_succ, List.flatten_cons, List.length_append, flat_len l n, Nat.add_mul]; omega
theorem zeroT_is (P : Nat) : TabC (zeroT P) 0 P (fun _ _ => 0) (fun _ => 0) (fun _ => (false, 0, 0)) := by
  have low : ∀ i, 2 ≤ i → i < 1090 → (zeroT P)[i]? = some (.int .i64 0) := fun i h1 h2 => by
    unfold zeroT
    rw [List.getElem?_toArray, List.getElem?_append_left (by simp; omega), List.getElem?_append_right (by simp; omega), List.getElem?_replicate, if_pos (by simp; omega)]
  have hig : ∀ q i, q < 64 → i < 3 → (zeroT P)[1090 + q * 3 + i]? = [Value.bool false, Value.int .i64 0, Value.int .i64 0][i]? := fun q i h1 h2 => by
    unfold zeroT
    rw [List.getElem?_toArray, List.getElem?_append_right (by simp; omega), ← flat_rep _ _ _ 64 q i h1 h2]
    congr 1
    simp
    omega
  refine ⟨?_, rfl, rfl, fun b p hb hp => low _ (by omega) (by omega), fun b hb => low _ (by omega) (by omega), fun q hq => hig q 0 hq (by omega), fun q hq => hig q 1 hq (by omega), fun q hq => hig q 2 hq (by omega)⟩
  unfold zeroT
  rw [List.size_toArray, List.length_append, List.length_append, flat_len, List.length_replicate]
  rfl

/-- What may be asked. -/
def newOk (b p : Int) : Prop := 1 ≤ b ∧ b ≤ 64 ∧ 2 ≤ p ∧ p ≤ 16
theorem new14_no (b p : Int) (w : World) (h : ¬ newOk b p) : Calls Tryz.prog 56 #[.int .i64 b, .int .i64 p] w fun e w' => e = .returned (.pointer none) ∧ w = w' := by
  unfold newOk at h
  by_cases h1 : b < 1
  · have b1 : decide (b < 1) = true := by simpa using h1
    clear h h1
    go_enter Tryz.func56, Tryz.ntmps56
    go_wp2
    go_ret
    exact ⟨rfl, rfl⟩
  · have b1 : decide (b < 1) = false := by simpa using h1
    by_cases h2 : 64 < b
    · have b2 : decide (64 < b) = true := by simpa using h2
      clear h h1 h2
      go_enter Tryz.func56, Tryz.ntmps56
      go_wp2
      go_ret
      exact ⟨rfl, rfl⟩
    · have b2 : decide (64 < b) = false := by simpa using h2
      by_cases h3 : p < 2
      · have b3 : decide (p < 2) = true := by simpa using h3
        clear h h1 h2 h3
        go_enter Tryz.func56, Tryz.ntmps56
        go_wp2
        go_ret
        exact ⟨rfl, rfl⟩
      · have b3 : decide (p < 2) = false := by simpa using h3
        have b4 : decide (16 < p) = true := by simp; omega
        clear h h1 h2 h3
        go_enter Tryz.func56, Tryz.ntmps56
        go_wp2
        go_ret
        exact ⟨rfl, rfl⟩
theorem new14_ok (b p : Nat) (w : World) (h : newOk b p) : Calls Tryz.prog 56 #[.int .i64 b, .int .i64 p] w fun e w' => ∃ t, e = .returned (.pointer (some ⟨t, 0, none⟩)) ∧ TabA w' t b p [] ∧ w.heap.size ≤ t ∧ w.grownBy w' none := by
  unfold newOk at h
  have b1 : decide ((b : Int) < 1) = false := by simp; omega
  have b2 : decide (64 < (b : Int)) = false := by simp; omega
  have b3 : decide ((p : Int) < 2) = false := by simp; omega
  have b4 : decide (16 < (p : Int)) = false := by simp; omega
  have hE := World.grownBy_alloc w (.cells (zeroT p) 141) none
  have hT : TabS (w.alloc (.cells (zeroT p) 141)) w.heap.size 0 p (fun _ _ => 0) (fun _ => 0) (fun _ => (false, 0, 0)) := ⟨by omega, by omega, _, Blk.new w _ _, zeroT_is p⟩
  have GROW := grow_is hT b (by omega)
  have hM : 0 + (min (b : Int) (64 - ((0 : Nat) : Int))).toNat = b := by omega
  have HE := Lib.hid hE
  have HM := Lib.hid hM
  clear h hE hT hM
  obtain ⟨M, hM⟩ : ∃ M, (min (b : Int) (64 - ((0 : Nat) : Int))).toNat = M := ⟨_, rfl⟩
  rw [hM] at GROW
  have HM2 := Lib.hid hM
  clear hM
  go_enter Tryz.func56, Tryz.ntmps56
  go_wp2_with (first
    | (refine tab_build rfl _ rfl rfl ?_)
    | (go_at_call 53; refine GROW.mono ?_; rintro e w2 ⟨rfl, hG2⟩))
  go_ret
  obtain ⟨R', h2, h3, h4, _, h5⟩ := hG2
  have hMb : 0 + M = b := by have h6 := HM.out; have h7 := HM2.out; omega
  rw [hMb] at h2 h4
  exact ⟨_, rfl, ⟨R', _, _, h2, Inv14.none b p R' (fun i j hi hj => h4 i j (Nat.zero_le _) hi hj)⟩, Nat.le_refl _, g14_new HE.out h5 (Nat.le_refl _)⟩

section
variable {w w' : World} {t B P : Nat} {rs : List R14}
theorem TabC.wors {cs : Array Value} {B P : Nat} {R : Nat → Nat → Int} {W : Nat → Int} {S : Nat → Bool × Int × Int} (h : TabC cs B P R W S) : (cs.extract 1026 (1026 + 64)).size = 64 ∧ ∀ b, b < 64 → (cs.extract 1026 (1026 + 64))[b]? = some (.int .i64 (W b)) := by
  have hs := h.size
  refine ⟨by rw [Array.size_extract]; omega, fun b hb => ?_⟩
  rw [Array.getElem?_extract, if_pos (by omega)]
  exact h.wor b hb
theorem index_64 {cs : Array Value} {k : Nat} {v : Value} (hk : k < 64) (hv : cs[k]? = some v) (w : World) : (Instr.index 138 (.agg cs) (.int .i64 k)).run Tryz.prog w = .ok v w := by
  have h1 : Tryz.prog.cellsOf 3 = 1 := by kernel_rfl
  have h2 : Tryz.prog.plainKey 3 = true := by kernel_rfl
  have h3 : (sizeOf 3).run Tryz.prog w = .ok 1 w := by kernel_rfl
  have h4 : (0 : Int) ≤ k ∧ (k : Int) < 64 := by omega
  have h5 := run_part_plain (w := w) h2 hv
  unfold Instr.index
  simp [asIntOf, run_underlying Tryz.underlying138, h3]
  rw [if_pos hk]
  exact h5
theorem Tryz.size64 : (Tryz.prog.info? 138).map (·.size) = some 64 := by kernel_rfl

end

end Go.Proofs.YtdadgcfpcneaiaaGreatDoor

/-
  Layer 15: the greedy choice: what it is; the document's Greedy; VictimGreedy, VictimLeast over what Greedy answers.
-/
namespace Go.Proofs.YtdadgcfpcneaiaaGreatDoor
set_option linter.unusedVariables false
set_option linter.unusedSimpArgs false
set_option linter.unusedVariables false
set_option linter.unusedSimpArgs false
set_option maxRecDepth 100000
open Go.RowKit

/-- The greedy choice. -/
def GreedyP (zs : List Int) (r : Int) : Prop :=
  (r = -1 ∧ ∀ j, j < zs.length → zs.getD j 0 < 0) ∨ ∃ i : Nat, r = i ∧ i < zs.length ∧ 0 ≤ zs.getD i 0 ∧ (∀ j, j < zs.length → 0 ≤ zs.getD j 0 → zs.getD i 0 ≤ zs.getD j 0) ∧ ∀ j, j < i → 0 ≤ zs.getD j 0 → zs.getD i 0 < zs.getD j 0
theorem GreedyP.eq {zs : List Int} {r s : Int} (h : GreedyP zs r) (h2 : GreedyP zs s) : r = s := by
  rcases h with ⟨rfl, h⟩ | ⟨i, rfl, hi, h0, h1, hl⟩
  · rcases h2 with ⟨rfl, _⟩ | ⟨j, rfl, hj, g0, _⟩
    · rfl
    · have := h j hj; omega
  · rcases h2 with ⟨rfl, g⟩ | ⟨j, rfl, hj, g0, g1, gl⟩
    · have := g i hi; omega
    · by_cases e : i = j
      · rw [e]
      · rcases Nat.lt_or_gt_of_ne e with e | e
        · have a1 := gl i e h0; have a2 := h1 j hj g0; omega
        · have a1 := hl j e g0; have a2 := g1 i hi h0; omega
theorem greedy_some : ∀ zs : List Int, ∃ r, GreedyP zs r := by
  intro zs
  have key : ∀ k, k ≤ zs.length → (∀ j, j < k → zs.getD j 0 < 0) ∨ ∃ i : Nat, i < k ∧ 0 ≤ zs.getD i 0 ∧ (∀ j, j < k → 0 ≤ zs.getD j 0 → zs.getD i 0 ≤ zs.getD j 0) ∧ ∀ j, j < i → 0 ≤ zs.getD j 0 → zs.getD i 0 < zs.getD j 0 := by
    intro k
    induction k with
    | zero => intro _; exact .inl (fun j hj => by omega)
    | succ k ih =>
      intro hk
      rcases ih (by omega) with h | ⟨i, hi, h0, h1, h2⟩
      · by_cases hz : 0 ≤ zs.getD k 0
        · refine .inr ⟨k, by omega, hz, fun j hj h0 => ?_, fun j hj h0 => by have := h j hj; omega⟩
          by_cases e : j = k
          · subst e; exact Int.le_refl _
          · have := h j (by omega); omega
        · refine .inl (fun j hj => ?_)
          by_cases e : j = k
          · subst e; omega
          · exact h j (by omega)
      · by_cases hz : 0 ≤ zs.getD k 0 ∧ zs.getD k 0 < zs.getD i 0
        · refine .inr ⟨k, by omega, hz.1, fun j hj g0 => ?_, fun j hj g0 => by have := h1 j hj g0; omega⟩
          by_cases e : j = k
          · subst e; exact Int.le_refl _
          · have := h1 j (by omega) g0; omega
        · refine .inr ⟨i, by omega, h0, fun j hj g0 => ?_, h2⟩
          by_cases e : j = k
          · subst e; omega
          · exact h1 j (by omega) g0
  rcases key zs.length (Nat.le_refl _) with h | ⟨i, hi, h0, h1, h2⟩
  · exact ⟨-1, .inl ⟨rfl, h⟩⟩
  · exact ⟨i, .inr ⟨i, rfl, hi, h0, h1, h2⟩⟩
/-- What the program's Greedy answers. -/
def VicG : Prop := ∀ (v : Value) (zs : List Int) (w : World), Ints w v zs → zs.length ≤ 9223372036854775807 → ∃ r, GreedyP zs r ∧ Calls Tryz.prog 123 #[v] w fun e w' => e = .returned (.int .i64 r) ∧ w.grownBy w' none
theorem g15_refl (w : World) : w.grownBy w none := ⟨rfl, rfl, rfl, Nat.le_refl _, fun _ _ _ => rfl⟩
theorem g15_trans {w w1 w2 : World} (h : w.grownBy w1 none) (h2 : w1.grownBy w2 none) : w.grownBy w2 none :=
  ⟨h2.os.trans h.os, h2.tape.trans h.tape, h2.output.trans h.output, Nat.le_trans h.size h2.size, fun k hk hne => (h2.block k (Nat.lt_of_lt_of_le hk h.size) hne).trans (h.block k hk hne)⟩
/-- A slice of integers, its cells. -/
theorem Ints.cells15 {w : World} {v : Value} {zs : List Int} (h : Ints w v zs) : ∃ ao cap, v = .slice ao zs.length cap ∧ ∀ i, i < zs.length → ∃ b off, ao = some ⟨b, off, none⟩ ∧ w.cell? ⟨b, off + i, none⟩ = some (.int .i64 (zs.getD i 0)) := by
  rcases h with ⟨rfl, rfl⟩ | ⟨b, off, cap, rfl, _, h3⟩ | ⟨x, cap, rfl, rfl⟩
  · exact ⟨none, 0, rfl, fun i hi => by simp at hi⟩
  · exact ⟨_, cap, rfl, fun i hi => ⟨b, off, rfl, h3 i hi⟩⟩
  · exact ⟨_, cap, rfl, fun i hi => by simp at hi⟩

end Go.Proofs.YtdadgcfpcneaiaaGreatDoor

/-
  Layer 15: the document's clamp and Spread.
-/
namespace Go.Proofs.YtdadgcfpcneaiaaGreatDoor
set_option linter.unusedVariables false
set_option linter.unusedSimpArgs false
set_option linter.unusedVariables false
set_option linter.unusedSimpArgs false
set_option maxRecDepth 100000
open Go.RowKit

def clampN (v m : Int) : Int := if v < 0 then 0 else if m < v then m else v
theorem clampN_bd {v m : Int} (hm : 0 ≤ m) : 0 ≤ clampN v m ∧ clampN v m ≤ m := by
  unfold clampN
  split
  · omega
  · split <;> omega
/-- How much they differ. -/
abbrev cl40 (zs : List Int) (j : Nat) : Int := clampN (zs.getD j 0) 1099511627776
def SprP (zs : List Int) (r : Int) : Prop := 0 ≤ r ∧ (∀ a, a < zs.length → ∀ b, b < zs.length → cl40 zs a - cl40 zs b ≤ r) ∧ (r = 0 ∨ ∃ a b, a < zs.length ∧ b < zs.length ∧ r = cl40 zs a - cl40 zs b)
theorem SprP.eq {zs : List Int} {r s : Int} (h : SprP zs r) (h2 : SprP zs s) : r = s := by
  obtain ⟨a0, a1, a2⟩ := h
  obtain ⟨b0, b1, b2⟩ := h2
  have h3 : r ≤ s := by
    rcases a2 with rfl | ⟨a, b, ha, hb, rfl⟩
    · exact b0
    · exact b1 a ha b hb
  have h4 : s ≤ r := by
    rcases b2 with rfl | ⟨a, b, ha, hb, rfl⟩
    · exact a0
    · exact a1 a ha b hb
  omega

end Go.Proofs.YtdadgcfpcneaiaaGreatDoor

/-
  Layer 15: the document's Benefit.
-/
namespace Go.Proofs.YtdadgcfpcneaiaaGreatDoor
set_option linter.unusedVariables false
set_option linter.unusedSimpArgs false
set_option linter.unusedVariables false
set_option linter.unusedSimpArgs false
set_option maxRecDepth 100000
open Go.RowKit

/-- May a block be chosen? -/
def mayB (zs gs : List Int) (p : Int) (k : Nat) : Bool := decide (0 ≤ zs.getD k 0) && (decide (zs.getD k 0 < p) && decide (k < gs.length))
/-- Its benefit, but for what it is divided by. -/
def valN (zs gs : List Int) (p : Int) (k : Nat) : Int := (p - zs.getD k 0) * clampN (gs.getD k 0) 1048576
theorem valN_bd {zs gs : List Int} {p : Int} {k : Nat} (hp : 2 ≤ p ∧ p ≤ 16) (h : mayB zs gs p k = true) : 0 ≤ valN zs gs p k ∧ valN zs gs p k ≤ 16777216 := by
  unfold mayB at h
  simp only [Bool.and_eq_true, decide_eq_true_eq] at h
  have hb := clampN_bd (v := gs.getD k 0) (m := 1048576) (by decide)
  unfold valN
  constructor
  · exact Int.mul_nonneg (by omega) hb.1
  · exact Int.mul_le_mul (a := p - zs.getD k 0) (b := clampN (gs.getD k 0) 1048576) (c := 16) (d := 1048576) (by omega) hb.2 hb.1 (by decide)
/-- It may be chosen, and no other one beats it. -/
def beatB (zs gs : List Int) (p : Int) (i k : Nat) : Bool := mayB zs gs p k && decide (valN zs gs p i * (p + zs.getD k 0) < valN zs gs p k * (p + zs.getD i 0))
def BestP (zs gs : List Int) (p : Int) (i : Nat) : Prop := mayB zs gs p i = true ∧ ∀ k, k < zs.length → beatB zs gs p i k = false
/-- What Benefit must answer: the first such one. -/
def BenP (zs gs : List Int) (p r : Int) : Prop := (¬ (2 ≤ p ∧ p ≤ 16) ∧ r = -1) ∨ ((2 ≤ p ∧ p ≤ 16) ∧ ((r = -1 ∧ ∀ i, i < zs.length → ¬ BestP zs gs p i) ∨ ∃ i : Nat, r = (i : Int) ∧ i < zs.length ∧ BestP zs gs p i ∧ ∀ j, j < i → ¬ BestP zs gs p j))
theorem BenP.eq {zs gs : List Int} {p r s : Int} (h : BenP zs gs p r) (h2 : BenP zs gs p s) : r = s := by
  rcases h with ⟨h0, rfl⟩ | ⟨h0, h⟩
  · rcases h2 with ⟨_, rfl⟩ | ⟨h1, _⟩
    · rfl
    · exact absurd h1 h0
  · rcases h2 with ⟨h1, _⟩ | ⟨_, h2⟩
    · exact absurd h0 h1
    · rcases h with ⟨rfl, h⟩ | ⟨i, rfl, hi, hb, hf⟩
      · rcases h2 with ⟨rfl, _⟩ | ⟨j, _, hj, hbj, _⟩
        · rfl
        · exact absurd hbj (h j hj)
      · rcases h2 with ⟨_, h2⟩ | ⟨j, rfl, hj, hbj, hfj⟩
        · exact absurd hb (h2 i hi)
        · rcases Nat.lt_trichotomy i j with hl | rfl | hl
          · exact absurd hb (hfj i hl)
          · rfl
          · exact absurd hbj (hf j hl)

end Go.Proofs.YtdadgcfpcneaiaaGreatDoor

/-
  Layer 15: VictimBenefit over what Benefit and Spread answer.
-/
namespace Go.Proofs.YtdadgcfpcneaiaaGreatDoor
set_option linter.unusedVariables false
set_option linter.unusedSimpArgs false
set_option linter.unusedVariables false
set_option linter.unusedSimpArgs false
set_option maxRecDepth 100000
open Go.RowKit

end Go.Proofs.YtdadgcfpcneaiaaGreatDoor
