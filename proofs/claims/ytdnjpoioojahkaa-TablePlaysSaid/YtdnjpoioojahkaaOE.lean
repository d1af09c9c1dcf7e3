/-
  Layer 14: the program's table: Set by the document's rows; Grow, New, Count.
-/
import Derived.Test.YtdnjpoioojahkaaOD
namespace Go.Proofs.Ytdnjpoioojahkaa
set_option linter.unusedVariables false
set_option linter.unusedSimpArgs false
set_option maxRecDepth 100000
open Go.RowKit

section
variable {w w' : World} {t B P : Nat} {rs : List R14}
theorem tabSet (h : TabA w t B P rs) (q b p : Int) (hl : rs.length ≤ 1000000) : Calls Try.prog 20 #[.pointer (some ⟨t, 0, none⟩), .int .i64 q, .int .i64 b, .int .i64 p] w fun e w' => e = .returned (.int .i64 (setE B P rs q b p)) ∧ TabA w' t B P (setR B P rs q b p) ∧ w.grownBy w' (some t) := by
  have stay : ∀ {e : Int} {w' : World}, setE B P rs q b p = e → e ≠ 0 → w = w' → TabA w' t B P (setR B P rs q b p) ∧ w.grownBy w' (some t) := fun h1 h2 h3 => by
    subst h3
    unfold setR
    rw [h1, if_neg h2]
    exact ⟨h, grown_any14 (Ext.refl w)⟩
  by_cases hr : q < 0 ∨ 63 < q ∨ b < 0 ∨ (B : Int) ≤ b ∨ p < 0 ∨ (P : Int) ≤ p
  · have he : setE B P rs q b p = 5 := by unfold setE; rw [if_pos hr]
    refine (set_range h q b p ?_).mono fun e w' ⟨h1, h2⟩ => ⟨by rw [h1, he], stay he (by decide) h2⟩
    unfold hasN
    simp
    omega
  · obtain ⟨q, rfl⟩ := Int.eq_ofNat_of_zero_le (show 0 ≤ q by omega)
    obtain ⟨b, rfl⟩ := Int.eq_ofNat_of_zero_le (show 0 ≤ b by omega)
    obtain ⟨p, rfl⟩ := Int.eq_ofNat_of_zero_le (show 0 ≤ p by omega)
    by_cases ht : 0 ≤ placeN rs b p ∧ placeN rs b p ≠ q
    · have he : setE B P rs q b p = 7 := by unfold setE; rw [if_neg hr, if_pos ht]
      refine (set_twice h q b p (by simp; omega) (by unfold hasN; simp; omega) _ rfl (by omega) ht.2).mono fun e w' ⟨h1, h2⟩ => ⟨by rw [h1, he], stay he (by decide) h2⟩
    · have he : setE B P rs q b p = 0 := by unfold setE; rw [if_neg hr, if_neg ht]
      have hR : setR B P rs q b p = clearN rs q ++ [⟨q, b, p⟩] := by unfold setR; rw [if_pos he]
      have hpl : placeN rs b p = -1 ∨ placeN rs b p = q := by
        by_cases h0 : 0 ≤ placeN rs b p
        · exact .inr (Classical.byContradiction fun hne => ht ⟨h0, hne⟩)
        · left
          obtain ⟨R, W, S, hT, hI⟩ := h
          have h1 := hI.row b p (by omega) (by have := hT.pl; omega)
          by_cases hex : ∃ r ∈ rs, r.bk = b ∧ r.pg = p
          · obtain ⟨r, hr2, h2, h3⟩ := hex
            have h4 := placeN_some hI.pgs hr2
            rw [h2, h3] at h4
            have := hI.ok r hr2
            omega
          · exact placeN_none fun r hr2 h2 => hex ⟨r, hr2, h2⟩
      rw [he, hR]
      exact set_ok h q b p hl (by omega) (by omega) (by omega) _ rfl hpl
end

/-- What stands while blocks are added. -/
def GrowS (w wr : World) (t B P : Nat) (R : Nat → Nat → Int) (W : Nat → Int) (S : Nat → Bool × Int × Int) (k j : Nat) : Prop :=
  ∃ R', TabS wr t (B + k) P R' W S ∧ (∀ b p, b < B → p < 16 → R' b p = R b p) ∧ (∀ b p, B ≤ b → b < B + k → p < 16 → R' b p = -1) ∧ (∀ p, p < j → R' (B + k) p = -1) ∧ w.grownBy wr (some t)
section
variable {w wr : World} {t B P k j : Nat} {R : Nat → Nat → Int} {W : Nat → Int} {S : Nat → Bool × Int × Int}
theorem GrowS.start (h : TabS w t B P R W S) : GrowS w w t B P R W S 0 0 := ⟨R, h, fun _ _ _ _ => rfl, fun b p h1 h2 => by omega, fun p hp => by omega, grown_any14 (Ext.refl w)⟩
theorem GrowS.tab (h : GrowS w wr t B P R W S k j) : ∃ R', TabS wr t (B + k) P R' W S := by obtain ⟨R', h, _⟩ := h; exact ⟨R', h⟩
theorem GrowS.put (h : GrowS w wr t B P R W S k j) (hb : B + k < 64) (hj : j < 16) : GrowS w (wr.drew.setCell ⟨t, 2 + (B + k) * 16 + j, none⟩ (.int .i64 (-1))) t B P R W S k (j + 1) := by
  obtain ⟨R', h1, h2, h3, h4, h5⟩ := h
  refine ⟨_, (h1.ext (Ext.drew wr)).setRow hb hj (-1), fun b p hb2 hp => ?_, fun b p hb2 hb3 hp => ?_, fun p hp => ?_, set_chain14 (drew_any14 h5) (g14_set1 _ t _ _)⟩
  · unfold upd2
    rw [if_neg (by omega)]
    exact h2 b p hb2 hp
  · unfold upd2
    rw [if_neg (by omega)]
    exact h3 b p hb2 hb3 hp
  · unfold upd2
    by_cases e : p = j
    · rw [if_pos ⟨rfl, e⟩]
    · rw [if_neg (by omega)]
      exact h4 p (by omega)
theorem GrowS.step (h : GrowS w wr t B P R W S k 16) (hb : B + k < 64) : GrowS w (wr.setCell ⟨t, 0, none⟩ (.int .i64 ((B + k + 1 : Nat) : Int))) t B P R W S (k + 1) 0 := by
  obtain ⟨R', h1, h2, h3, h4, h5⟩ := h
  refine ⟨R', h1.setB (by omega), h2, fun b p hb2 hb3 hp => ?_, fun p hp => by omega, set_chain14 h5 (g14_set1 wr t _ _)⟩
  by_cases e : b = B + k
  · subst e; exact h4 p hp
  · exact h3 b p hb2 (by omega) hp

set_option maxHeartbeats 1600000 in
theorem grow_is (h : TabS w t B P R W S) (g : Int) (hg : -9223372036854775808 ≤ g ∧ g ≤ 9223372036854775807) :
    Calls Try.prog 27 #[.pointer (some ⟨t, 0, none⟩), .int .i64 g] w fun e w' => e = .returned (.tuple #[]) ∧ GrowS w w' t B P R W S (min g (64 - (B : Int))).toNat 0 := by
  have c0 := h.b
  have hbl := h.bl
  have HS := Lib.hid (GrowS.start h)
  obtain ⟨m, hm⟩ : ∃ m, min g (64 - (B : Int)) = m := ⟨_, rfl⟩
  rw [hm]
  have hm64 : m ≤ 64 - (B : Int) := by rw [← hm]; exact Int.min_le_right _ _
  have HM := Lib.hid hm
  obtain ⟨M, hM⟩ : ∃ M, m.toNat = M := ⟨_, rfl⟩
  rw [hM]
  have hcond : ∀ k : Nat, decide ((k : Int) < m) = decide (k < M) := fun k => by
    by_cases hk : k < M
    · rw [decide_eq_true hk, decide_eq_true (by omega)]
    · rw [decide_eq_false hk, decide_eq_false (by omega)]
  have hMB : B + M ≤ 64 := by omega
  have HMM := Lib.hid (And.intro hM (And.intro hm64 hg))
  have HC := Lib.hid hcond
  clear h hm hM hcond hm64 hg
  go_enter Try.func27, Try.ntmps27
  go_upto_region 1 with fail
  go_cut [13, 14] (fun s i wx => s = .int .i64 m ∧ i = .int .i64 0 ∧ w = wx)
  case first =>
    have hg := HMM.out.2.2
    go_wp2
    all_goals
      go_meet
      exact ⟨congrArg (Value.int .i64) (by have := HM.out; omega), rfl, rfl⟩
  case rest =>
    obtain ⟨rfl, rfl, rfl⟩ := hcut
    clear c0
    go_wp2
    go_loopw [14] (fun i wr => ∃ k : Nat, k ≤ M ∧ i = .int .i64 k ∧ GrowS w wr t B P R W S k 0) (fun i _ => M - (intOf i).toNat)
    case atStart => exact ⟨0, Nat.zero_le _, rfl, HS.out⟩
    case round =>
      clear HS
      obtain ⟨k, hk, rfl, hG⟩ := hrel
      obtain ⟨wo, rfl⟩ : ∃ wo : World, wo = wr := ⟨_, rfl⟩
      have HG := Lib.hid hG
      clear hG
      have hck := HC.out k
      by_cases hlt : k < M
      · rw [decide_eq_true hlt] at hck
        go_wp2
        go_loopw [16] (fun i wx => ∃ j : Nat, j ≤ 16 ∧ i = .int .i64 j ∧ GrowS w wx t B P R W S k j) (fun i _ => 16 - (intOf i).toNat)
        case atStart => exact ⟨0, Nat.zero_le _, rfl, HG.out⟩
        case round =>
          clear HG
          obtain ⟨j, hj, rfl, hG⟩ := hrel
          obtain ⟨R1, hT⟩ := hG.tab
          have HG := Lib.hid hG
          clear hG
          by_cases hlt2 : j < 16
          · have hTd := hT.ext (Ext.drew wr)
            have hS : (fun x0 : World => x0.cell? ⟨t, 0, none⟩ = some (.int .i64 ((B + k : Nat) : Int))) wr.drew := hTd.b
            have c2 := hTd.row (b := B + k) (p := j) (by omega) hlt2
            have f2 := hTd.free (2 + (B + k) * 16 + j)
            have HN := Lib.hid (HG.out.put (by omega) hlt2)
            have hS6 : (fun x0 : World => x0.cell? ⟨t, 0, none⟩ = some (.int .i64 ((B + k : Nat) : Int))) (wr.drew.setCell ⟨t, 2 + (B + k) * 16 + j, none⟩ (.int .i64 (-1))) := by obtain ⟨_, h⟩ := HN.out.tab; exact h.b
            clear hT hTd HG
            have hBk : B + k < 64 := by omega
            obtain ⟨b, hb⟩ : ∃ b, B + k = b := ⟨_, rfl⟩
            rw [hb] at hS c2 f2 HN hS6 hBk
            have HBK := Lib.hid hb
            clear hb
            go_wp2
            refine region_line [(0, true), (1, true), (2, true), (3, true), (4, true), (5, true), (6, true), (7, true), (8, true), (9, true), (10, false)] (fun x0 : World => x0.cell? ⟨t, 0, none⟩ = some (.int .i64 (b : Int))) (by kernel_rfl) (by kernel_rfl) (fun _ _ _ d _ h => by cases d <;> exact h) hS ?_
            iterate 10 (refine line_read (a' := ?_) rfl (by kernel_rfl) (by kernel_rfl) hS (fun x0 hx K hK => ?_) ?_; rotate_left; · (go_wp2; exact hK))
            refine line_act (by rfl) (fun K hK => ?_)
            go_wp2
            refine hK _ _ (fun x0 : World => x0.cell? ⟨t, 0, none⟩ = some (.int .i64 (b : Int))) hS6 (fun x hx => hx) ?_
            clear hK K hS hS6 c2 f2
            refine line_end ?_
            go_wp2
            go_roundw
            case rel => exact ⟨j + 1, by omega, by go_num, HN.out⟩
            case measure => simp [intOf]; omega
          · obtain rfl : j = 16 := by omega
            have c0 := hT.b
            have f0 := hT.free 0
            have HN := Lib.hid (HG.out.step (by omega))
            have hBk : B + k < 64 := by omega
            clear hT HG
            go_wp2
            go_roundw
            case rel => exact ⟨k + 1, by omega, by go_num, HN.out⟩
            case measure => simp [intOf]; omega
      · rw [decide_eq_false hlt] at hck
        obtain rfl : k = M := by omega
        go_wp2
        go_end0
        exact ⟨rfl, HG.out⟩
end

end Go.Proofs.Ytdnjpoioojahkaa
