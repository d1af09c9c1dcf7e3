/-
  Layer 14: the program's table, by the document's rows: Place, Worth, At, Clear, Set.
-/
import Derived.Test.YtdnjpoioojahkaaOB
import Derived.Test.YtdnjpoioojahkaaOC
namespace Go.Proofs.Ytdnjpoioojahkaa
set_option linter.unusedVariables false
set_option linter.unusedSimpArgs false
set_option maxRecDepth 100000
open Go.RowKit

/-- A table at t, and the document's rows. -/
def TabA (w : World) (t B P : Nat) (rs : List R14) : Prop := ∃ R W S, TabS w t B P R W S ∧ Inv14 B P R W S rs
theorem grown_any14 {w w1 : World} {r : Option Nat} (h : w.grownBy w1 none) : w.grownBy w1 r := ⟨h.os, h.tape, h.output, h.size, fun k hk _ => h.block k hk (by simp)⟩
section
variable {w w' : World} {t B P : Nat} {rs : List R14}
theorem TabA.kept {r : Option Nat} (h : TabA w t B P rs) (hg : w.grownBy w' r) (hne : some t ≠ r) : TabA w' t B P rs := by obtain ⟨R, W, S, h1, h2⟩ := h; exact ⟨R, W, S, h1.kept hg hne, h2⟩
theorem TabA.ext (h : TabA w t B P rs) (hg : w.grownBy w' none) : TabA w' t B P rs := h.kept hg (by simp)
theorem TabA.lt (h : TabA w t B P rs) : t < w.heap.size := by obtain ⟨R, W, S, h1, _⟩ := h; exact h1.lt
theorem TabA.bl (h : TabA w t B P rs) : B ≤ 64 := by obtain ⟨R, W, S, h1, _⟩ := h; exact h1.bl

theorem tabPlace (h : TabA w t B P rs) (b p : Int) : Calls Try.prog 22 #[.pointer (some ⟨t, 0, none⟩), .int .i64 b, .int .i64 p] w fun e w' => e = .returned (.int .i64 (placeN rs b p)) ∧ w = w' := by
  obtain ⟨R, W, S, hT, hI⟩ := h
  by_cases hh : hasN B P b p = true
  · obtain ⟨h1, h2, h3, h4⟩ := hasN_true hh
    obtain ⟨b, rfl⟩ := Int.eq_ofNat_of_zero_le h1
    obtain ⟨p, rfl⟩ := Int.eq_ofNat_of_zero_le h3
    have := hT.pl
    have hr := hI.row b p (by omega) (by omega)
    rw [← hr]
    exact place_yes hT b p (by omega) (by omega)
  · have hh2 : hasN B P b p = false := by simpa using hh
    rw [placeN_none (fun r hr he => by
      have := hI.ok r hr
      unfold hasN at hh
      simp at hh
      omega)]
    exact place_no hT b p hh2
theorem tabWorth (h : TabA w t B P rs) (b : Int) : Calls Try.prog 23 #[.pointer (some ⟨t, 0, none⟩), .int .i64 b] w fun e w' => e = .returned (.int .i64 (worthN rs b)) ∧ w = w' := by
  obtain ⟨R, W, S, hT, hI⟩ := h
  by_cases hh : 0 ≤ b ∧ b < B
  · obtain ⟨b, rfl⟩ := Int.eq_ofNat_of_zero_le hh.1
    have := hT.bl
    rw [← hI.wor b (by omega)]
    exact worth_yes hT b (by omega)
  · have hh2 : hasN B P b 0 = false := by unfold hasN; simp; omega
    have hw : worthN rs b = 0 := by
      unfold worthN
      rw [List.length_eq_zero_iff, List.filter_eq_nil_iff]
      intro r hr he
      have := hI.ok r hr
      simp at he
      omega
    rw [hw]
    exact worth_no hT b hh2
theorem tabAt (h : TabA w t B P rs) (q : Int) : Calls Try.prog 19 #[.pointer (some ⟨t, 0, none⟩), .int .i64 q] w fun e w' => e = .returned (.tuple #[.int .i64 (atN rs q).1, .int .i64 (atN rs q).2.1, .bool (atN rs q).2.2]) ∧ w.grownBy w' none := by
  obtain ⟨R, W, S, hT, hI⟩ := h
  by_cases hh : 0 ≤ q ∧ q < 64
  · obtain ⟨q, rfl⟩ := Int.eq_ofNat_of_zero_le hh.1
    exact at_yes hT q (by omega) _ (hI.spo q (by omega))
  · rw [atN_none (fun r hr he => by have := hI.ok r hr; omega)]
    exact (at_no q hh).mono fun e w' ⟨h1, h2⟩ => ⟨h1, by subst h2; exact Ext.refl w⟩
theorem tabClear (h : TabA w t B P rs) (q : Int) (hl : rs.length ≤ 1000000) : Calls Try.prog 21 #[.pointer (some ⟨t, 0, none⟩), .int .i64 q] w fun e w' => e = .returned (.bool (decide ((clearN rs q).length < rs.length))) ∧ TabA w' t B P (clearN rs q) ∧ w.grownBy w' (some t) := by
  obtain ⟨R, W, S, hT, hI⟩ := h
  by_cases hh : 0 ≤ q ∧ q < 64
  · obtain ⟨q, rfl⟩ := Int.eq_ofNat_of_zero_le hh.1
    by_cases hex : ∃ r ∈ rs, r.pl = q
    · obtain ⟨r, hr, hq⟩ := hex
      have hok := hI.ok r hr
      obtain ⟨b, hb⟩ := Int.eq_ofNat_of_zero_le hok.2.2.1
      obtain ⟨p, hp⟩ := Int.eq_ofNat_of_zero_le hok.2.2.2.2.1
      have hsp := hI.spot_yes (q := q) (by omega) hr hq
      rw [hb, hp] at hsp
      have hcl := clear_len hI.pls hr
      have hcw := clear_worth hI.pls hr (b : Int)
      rw [if_pos hb, hq] at hcw
      rw [hq] at hcl
      have hbl := hT.bl
      have hpl := hT.pl
      have hw := hI.wor b (by omega)
      rw [← hcw] at hw
      have hle : worthN (clearN rs q) b ≤ rs.length := by
        have h1 : worthN (clearN rs q) b ≤ (clearN rs q).length := List.length_filter_le _ _
        omega
      refine (clear_on hT q (by omega) b p (by omega) (by omega) hsp _ hw (by omega)).mono fun e w' ⟨h1, h2, h3⟩ => ⟨?_, ⟨_, _, _, h2, hI.clear hr hq hb hp hw⟩, h3⟩
      rw [h1, decide_eq_true (by omega)]
    · have hn : ∀ r ∈ rs, r.pl ≠ q := fun r hr he => hex ⟨r, hr, he⟩
      rw [clear_same hn, decide_eq_false (Nat.lt_irrefl _)]
      exact (clear_off hT q (by omega) (hI.spot_no (by omega) hn)).mono fun e w' ⟨h1, h2⟩ => ⟨h1, ⟨R, W, S, hT.ext h2, hI⟩, grown_any14 h2⟩
  · have hn : ∀ r ∈ rs, r.pl ≠ q := fun r hr he => by have := hI.ok r hr; omega
    rw [clear_same hn, decide_eq_false (Nat.lt_irrefl _)]
    exact (clear_no q hh).mono fun e w' ⟨h1, h2⟩ => ⟨h1, by subst h2; exact ⟨R, W, S, hT, hI⟩, by subst h2; exact grown_any14 (Ext.refl w)⟩

/-- Set: what is refused. -/
theorem set_range (h : TabA w t B P rs) (q b p : Int) (hn : (decide (0 ≤ q) && decide (q < 64)) = false ∨ hasN B P b p = false) : Calls Try.prog 20 #[.pointer (some ⟨t, 0, none⟩), .int .i64 q, .int .i64 b, .int .i64 p] w fun e w' => e = .returned (.int .i64 5) ∧ w = w' := by
  have IS := isPlace_is q w
  by_cases h1 : (decide (0 ≤ q) && decide (q < 64)) = false
  · rw [h1] at IS
    clear hn h h1
    go_enter Try.func20, Try.ntmps20
    go_wp2_with (go_at_call 33; refine IS.mono ?_; rintro e w1 ⟨rfl, rfl⟩)
    go_ret
    exact ⟨rfl, rfl⟩
  · have h2 : hasN B P b p = false := hn.resolve_left h1
    obtain ⟨R, W, S, hT, hI⟩ := h
    have HAS := has_is hT b p
    rw [show (decide (0 ≤ q) && decide (q < 64)) = true by simpa using h1] at IS
    rw [h2] at HAS
    clear hn hT hI h1 h2
    go_enter Try.func20, Try.ntmps20
    go_wp2_with (first
      | (go_at_call 33; refine IS.mono ?_; rintro e w1 ⟨rfl, rfl⟩)
      | (go_at_call 34; refine HAS.mono ?_; rintro e w1 ⟨rfl, rfl⟩))
    go_ret
    exact ⟨rfl, rfl⟩
theorem set_none (q b p : Int) (w : World) : Calls Try.prog 20 #[.pointer none, .int .i64 q, .int .i64 b, .int .i64 p] w fun e w' => e = .returned (.int .i64 1) ∧ w = w' := by
  go_enter Try.func20, Try.ntmps20
  go_wp2
  go_ret
  exact ⟨rfl, rfl⟩
theorem set_twice (h : TabA w t B P rs) (q : Int) (b p : Int) (h1 : (decide (0 ≤ q) && decide (q < 64)) = true) (h2 : hasN B P b p = true) (x : Int) (hx : placeN rs b p = x) (hx1 : x ≠ -1) (hx2 : x ≠ q) :
    Calls Try.prog 20 #[.pointer (some ⟨t, 0, none⟩), .int .i64 q, .int .i64 b, .int .i64 p] w fun e w' => e = .returned (.int .i64 7) ∧ w = w' := by
  have IS := isPlace_is q w
  have PL := tabPlace h b p
  obtain ⟨R, W, S, hT, hI⟩ := h
  have HAS := has_is hT b p
  rw [h1] at IS
  rw [h2] at HAS
  rw [hx] at PL
  have b1 : (x != -1) = true := by simpa using hx1
  have b2 : (x != q) = true := by simpa using hx2
  clear hT hI h1 h2 hx hx1 hx2
  go_enter Try.func20, Try.ntmps20
  go_wp2_with (first
    | (go_at_call 33; refine IS.mono ?_; rintro e w1 ⟨rfl, rfl⟩)
    | (go_at_call 34; refine HAS.mono ?_; rintro e w1 ⟨rfl, rfl⟩)
    | (go_at_call 22; refine PL.mono ?_; rintro e w1 ⟨rfl, rfl⟩))
  go_ret
  exact ⟨rfl, rfl⟩

/-- Behind the clearing: the page is given. -/
def SetOk (w : World) (t : Nat) (rs : List R14) (q b p : Nat) (B P : Nat) (w' : World) : Prop := TabA w' t B P (clearN rs q ++ [⟨q, b, p⟩]) ∧ w.grownBy w' (some t)

set_option maxHeartbeats 1600000 in
theorem set_ok (h : TabA w t B P rs) (q b p : Nat) (hl : rs.length ≤ 1000000) (hq : q < 64) (hb : b < B) (hp : p < P) (x : Int) (hx : placeN rs b p = x) (hx1 : x = -1 ∨ x = q) :
    Calls Try.prog 20 #[.pointer (some ⟨t, 0, none⟩), .int .i64 q, .int .i64 b, .int .i64 p] w fun e w' => e = .returned (.int .i64 0) ∧ SetOk w t rs q b p B P w' := by
  have IS := isPlace_is q w
  have PL := tabPlace h b p
  have CL := tabClear h q hl
  have hbl := h.bl
  have hb64 : b < 64 := by omega
  obtain ⟨R, W, S, hT, hI⟩ := h
  have hp16 : p < 16 := by have := hT.pl; omega
  have HAS := has_is hT b p
  rw [show (decide (0 ≤ (q : Int)) && decide ((q : Int) < 64)) = true by simp; omega] at IS
  rw [show hasN B P (b : Int) (p : Int) = true by unfold hasN; simp; omega] at HAS
  rw [hx] at PL
  -- whose the page is, if not this place's
  have hfree : ∀ s ∈ clearN rs q, ¬ (s.bk = b ∧ s.pg = p) := fun s hs he => by
    obtain ⟨h1, h2⟩ := mem_clear.1 hs
    have h3 := placeN_some hI.pgs h1
    rw [he.1, he.2, hx] at h3
    have := hI.ok s h1
    omega
  have HF := Lib.hid hfree
  have HX := Lib.hid hx1
  obtain ⟨g0, hg0⟩ : ∃ z, decide ((clearN rs q).length < rs.length) = z := ⟨_, rfl⟩
  rw [hg0] at CL
  have hxc : ((x != -1) && (x != (q : Int))) = false := by
    rcases hx1 with rfl | rfl
    · rfl
    · simp
  obtain ⟨x1, hx1'⟩ : ∃ z, (x != -1) = z := ⟨_, rfl⟩
  obtain ⟨x2, hx2'⟩ : ∃ z, (x != (q : Int)) = z := ⟨_, rfl⟩
  rw [hx1', hx2'] at hxc
  clear hx hx1 hT hI hfree hg0
  have hcase : x1 = false ∨ (x1 = true ∧ x2 = false) := by cases x1 <;> simp_all
  clear hxc
  go_enter Try.func20, Try.ntmps20
  rcases hcase with rfl | ⟨rfl, rfl⟩
  all_goals
    go_wp2_with (first
      | (go_at_call 33; refine IS.mono ?_; rintro e w1 ⟨rfl, rfl⟩)
      | (go_at_call 34; refine HAS.mono ?_; rintro e w1 ⟨rfl, rfl⟩)
      | (go_at_call 22; refine PL.mono ?_; rintro e w1 ⟨rfl, rfl⟩)
      | (go_at_call 21; refine CL.mono ?_; rintro e w1 ⟨rfl, hA1, hg1⟩; obtain ⟨R, W, S, hT, hI⟩ := hA1; have HT1 := Lib.hid hT; have HI1 := Lib.hid hI; have HG1 := Lib.hid hg1; have c2 := hT.row hb64 hp16; have f2 := hT.free (2 + b * 16 + p); clear hT hI hg1))
    have HT2 := Lib.hid ((HT1.out.setRow hb64 hp16 q).ext (Ext.drew _))
    have HG2 := Lib.hid (show w.grownBy (w1.setCell ⟨t, 2 + b * 16 + p, none⟩ (.int .i64 q)).drew (some t) from drew_any14 (set_chain14 HG1.out (g14_set1 w1 t _ _)))
    obtain ⟨w2, hw2⟩ : ∃ v, (w1.setCell ⟨t, 2 + b * 16 + p, none⟩ (.int .i64 q)).drew = v := ⟨_, rfl⟩
    clear c2 f2 IS HAS PL CL HT1 HG1
    refine region_line [(0, true), (1, true), (2, true), (3, true), (4, true), (7, true), (8, true), (5, false), (6, true), (9, true), (10, false)] (fun _ => True) (by kernel_rfl) (by kernel_rfl) (fun _ _ _ d _ h => by cases d <;> exact h) trivial ?_
    rw [hw2] at HT2 HG2 ⊢
    clear hw2
    iterate 7 (refine line_read (a' := ?_) rfl (by kernel_rfl) (by kernel_rfl) trivial (fun x0 hx K hK => ?_) ?_; rotate_left; · (go_wp2; exact hK))
    refine line_act (by rfl) (fun K hK => ?_)
    obtain ⟨y, hy⟩ : ∃ y : Nat, W b = (y : Int) := ⟨_, HI1.out.wor b hb64⟩
    have hyl : y ≤ 1000000 := by
      have h1 := HI1.out.wor b hb64
      have h2 : worthN (clearN rs q) b ≤ (clearN rs q).length := List.length_filter_le _ _
      have h3 : (clearN rs q).length ≤ rs.length := List.length_filter_le _ _
      omega
    have HY := Lib.hid hy
    have c3 := HT2.out.wor hb64
    rw [hy] at c3
    clear hy
    go_wp2
    refine hK _ _ (fun _ => True) trivial (fun x hx => hx) ?_
    clear hK K c3
    iterate 2 (refine line_read (a' := ?_) rfl (by kernel_rfl) (by kernel_rfl) trivial (fun x0 hx K hK => ?_) ?_; rotate_left; · (go_wp2; exact hK))
    refine line_act (by rfl) (fun K hK => ?_)
    have c3 := HT2.out.wor hb64
    have f3 := HT2.out.free (1026 + b)
    go_wp2
    refine hK _ _ (fun _ => True) trivial (fun x hx => hx) ?_
    clear hK K c3 f3
    refine line_end ?_
    have HT3 := HT2.out.setWor hb64 ((y + 1 : Nat) : Int)
    have HG3 := Lib.hid (set_chain14 HG2.out (g14_set1 w2 t (1026 + b) (.int .i64 ((y + 1 : Nat) : Int))))
    clear HT2 HG2
    rw [show ((y + 1 : Nat) : Int) = (y : Int) + 1 by omega] at HT3 HG3
    go_wp2_with (refine tab_store (s := (true, (b : Int), (p : Int))) _ _ rfl hq rfl rfl HT3 rfl ?_; intro w6 ht6 hg6)
    go_ret
    refine ⟨rfl, ⟨_, _, _, ht6, ?_⟩, set_chain14 HG3.out hg6⟩
    have hI := HI1.out.put (q := q) hq hb hp (fun s hs => (mem_clear.1 hs).2) HF.out HY.out
    rw [show ((y + 1 : Nat) : Int) = (y : Int) + 1 by omega] at hI
    exact hI
end

end Go.Proofs.Ytdnjpoioojahkaa
