/-
  Package nand: Erase, Mark.
-/
import Derived.Test.YtaobamnfgpllcaaNH
namespace Go.Proofs.Ytaobamnfgpllcaa
open Go.RowKit

section
variable {w : World} {S : NShape} {V : Nat → Value} {zs : Nat → List Int} {s : NS}

theorem World.cell?_drewN (x : World) (n : Nat) (a : Addr) : (x.drewN n).cell? a = x.cell? a := rfl

/-- What an erasing answers, and what it leaves. -/
def ersE (S : NShape) (zs : Nat → List Int) (s : NS) (who n : Int) : Int := if hasB S n then (if s.mr n.toNat then 10 else operE zs s who) else 5
def ersS (S : NShape) (zs : Nat → List Int) (s : NS) (who n : Int) : NS := if hasB S n && !s.mr n.toNat then operS zs s who (fillPg n.toNat S.pg 2) (eraseS n.toNat S.pg) else s

set_option maxHeartbeats 1600000 in
theorem erase_any (h : NandAt w S V zs s) (hR : Roles S) {c : Int} (hc : Cnt s c) (hcn : c < 80000) (hz : ∀ j, j < 4 → (zs j).length ≤ 64) (who n : Int) :
    Calls Try.prog 10 #[.pointer (some ⟨S.nb, 0, none⟩), .int .i64 who, .int .i64 n] w (Goes S V zs (.int .i64 (ersE S zs s who n)) (ersS S zs s who n) w) := by
  have hE2 : w.grownBy ((w.alloc (.cells #[.pointer (some ⟨S.nb, 0, none⟩)] 28)).alloc (.cells #[.int .i64 n] 3)) none := grown_alloc (World.grownBy_alloc w _ none) _
  have h2 := h.ext hE2 hR
  have MS := missing_is h2.fix n
  have K2 := Lib.hid (And.intro h2 (Keeps.ext (T := S.T) hE2))
  unfold ersE ersS
  unfold missE at MS
  cases hh : hasB S n
  · rw [hh] at MS
    simp only [Bool.false_eq_true, if_false, Bool.false_and] at MS ⊢
    clear hE2 h2 h hc hh
    go_enter Try.func10, Try.ntmps10
    go_wp2_with (go_at_call 26; refine MS.mono ?_; rintro e w' ⟨rfl, rfl⟩)
    go_ret
    exact ⟨rfl, K2.out⟩
  · have hn : 0 ≤ n ∧ n < S.all := by simpa [hasB] using hh
    obtain ⟨i, rfl⟩ : ∃ i : Nat, n = i := ⟨n.toNat, by omega⟩
    have hi : i < S.all := by omega
    rw [hh] at MS
    simp only [if_true, Bool.true_and, Int.toNat_natCast] at MS ⊢
    have cm := h2.fix.cm
    have ck := h2.mks i hi
    rcases Bool.eq_false_or_eq_true (s.mr i) with em | em
    rotate_left
    · rw [em] at ck
      simp only [em, Bool.false_eq_true, if_false, Bool.not_false, if_true]
      have hE3 := fun nq => grown_alloc (grown_trans hE2 (gb_drewN _ nq) (fun _ hk _ => by cases hk)) (.cells #[.func (.func 27) #[] #[.pointer (some ⟨w.heap.size, 0, none⟩), .pointer (some ⟨w.heap.size + 1, 0, none⟩)]] 64)
      have KO := Lib.hid (fun nq => Keeps.ext (T := S.T) (hE3 nq))
      have OB := fun nq => operB_any (i := i) (b3 := w.heap.size) (b5 := w.heap.size + 1) (b8 := w.heap.size + 1 + 1) (h.ext (hE3 nq) hR) hR hc hcn hz who hi
        ⟨by rw [World.cell?_alloc_past _ _ _ (by simp; omega), World.cell?_drewN, World.cell?_alloc_past _ _ _ (by simp), World.cell?_alloc_at _ _ _ _ rfl]; rfl,
          by rw [World.cell?_alloc_past _ _ _ (by simp), World.cell?_drewN, World.cell?_alloc_at _ _ _ _ (by simp)]; rfl, by rw [World.cell?_alloc_at _ _ _ _ (by simp)]; rfl,
          h.fresh (Nat.le_refl _), h.fresh (by omega), h.fresh (by omega)⟩
      clear hE2 hE3 h2 h hc em hh
      go_enter Try.func10, Try.ntmps10
      go_wp2_with (go_at_call 26; refine MS.mono ?_; rintro e w' ⟨rfl, rfl⟩)
      go_quiet (fail)
      rename_i nq
      go_wp2_with (go_at_call 20; refine (OB nq).mono ?_; rintro e w' ⟨rfl, hN, hk⟩)
      go_ret
      exact ⟨rfl, hN, (KO.out nq).trans hk⟩
    · rw [em] at ck
      simp only [em, if_true, Bool.not_true, Bool.false_eq_true, if_false]
      clear hE2 h2 h hc hh em
      go_enter Try.func10, Try.ntmps10
      go_wp2_with (go_at_call 26; refine MS.mono ?_; rintro e w' ⟨rfl, rfl⟩)
      go_quiet (fail)
      rename_i nq
      go_wp2
      go_ret
      exact ⟨rfl, K2.out.1.ext (gb_drewN _ nq) hR, K2.out.2.trans (Keeps.ext (gb_drewN _ nq))⟩

/-- What marking answers, and what it leaves. -/
def markE (S : NShape) (s : NS) (n : Int) : Int := if hasB S n then (if n < 2 then 1 else if spE s.px s.off = 0 then 0 else 12) else 5
def markS (S : NShape) (s : NS) (n : Int) : NS := if hasB S n && decide (2 ≤ n) then (if spE s.px s.off = 0 then { spendS s with mr := fun i' => if i' = n.toNat then true else s.mr i' } else spendS s) else s

set_option maxHeartbeats 1600000 in
theorem mark_any (h : NandAt w S V zs s) (hR : Roles S) {c : Int} (hc : Cnt s c) (hcn : c < 80000) (n : Int) :
    Calls Try.prog 11 #[.pointer (some ⟨S.nb, 0, none⟩), .int .i64 n] w (Goes S V zs (.int .i64 (markE S s n)) (markS S s n) w) := by
  have MS := missing_is h.fix n
  unfold markE markS
  unfold missE at MS
  cases hh : hasB S n
  · rw [hh] at MS
    simp only [Bool.false_eq_true, if_false, Bool.false_and] at MS ⊢
    have K2 := Lib.hid h
    clear h hc hh
    go_enter Try.func11, Try.ntmps11
    go_wp2_with (go_at_call 26; refine MS.mono ?_; rintro e w' ⟨rfl, rfl⟩)
    go_ret
    exact ⟨rfl, K2.out, .refl _ _⟩
  · have hn : 0 ≤ n ∧ n < S.all := by simpa [hasB] using hh
    obtain ⟨i, rfl⟩ : ∃ i : Nat, n = i := ⟨n.toNat, by omega⟩
    have hi : i < S.all := by omega
    rw [hh] at MS
    simp only [if_true, Bool.true_and, Int.toNat_natCast] at MS ⊢
    by_cases h2 : (i : Int) < 2
    · have hd : decide (2 ≤ (i : Int)) = false := decide_eq_false (by omega)
      rw [if_pos h2, hd]
      simp only [Bool.false_eq_true, if_false]
      have K2 := Lib.hid h
      clear h hc hh hn
      go_enter Try.func11, Try.ntmps11
      go_wp2_with (go_at_call 26; refine MS.mono ?_; rintro e w' ⟨rfl, rfl⟩)
      go_ret
      exact ⟨rfl, K2.out, .refl _ _⟩
    · have hd : decide (2 ≤ (i : Int)) = true := decide_eq_true (by omega)
      rw [if_neg h2, hd]
      simp only [if_true]
      have SP := spend7_any h hR hc (by omega)
      have cp := h.fix.cp
      have hsp := spE_cases s.px s.off
      have tm : S.T S.bm ≠ 0 := by rw [hR.tm]; decide
      clear h hc hh hn
      by_cases h0 : spE s.px s.off = 0
      · rw [if_pos h0, if_pos h0]
        rw [h0] at SP
        clear hsp h0
        go_enter Try.func11, Try.ntmps11
        go_wp2_with (first
          | (go_at_call 26; refine MS.mono ?_; rintro e w' ⟨rfl, rfl⟩)
          | (go_at_call 30; refine SP.mono ?_; rintro e w1 ⟨rfl, hN1, hk1⟩; have cm := hN1.fix.cm; have ck := hN1.mks i hi; have cf := hN1.mkf i; have HN := Lib.hid (And.intro hN1 hk1); clear hN1 hk1))
        go_ret
        exact ⟨rfl, HN.out.1.mark hR hi true, HN.out.2.trans (.own (gb_set (gb_refl _ (some S.bm)) _ _) tm)⟩
      · rw [if_neg h0, if_neg h0]
        have h12 : (spE s.px s.off != 0) = true := by simpa using h0
        generalize spE s.px s.off = q at *
        clear hsp h0
        go_enter Try.func11, Try.ntmps11
        go_wp2_with (first
          | (go_at_call 26; refine MS.mono ?_; rintro e w' ⟨rfl, rfl⟩)
          | (go_at_call 30; refine SP.mono ?_; rintro e w1 ⟨rfl, hN1, hk1⟩))
        go_ret
        exact ⟨rfl, hN1, hk1⟩
end

end Go.Proofs.Ytaobamnfgpllcaa
