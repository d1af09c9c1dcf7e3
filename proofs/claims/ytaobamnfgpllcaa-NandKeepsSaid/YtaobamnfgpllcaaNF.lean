/-
  Package nand: Program.
-/
import Derived.Test.YtaobamnfgpllcaaNE
namespace Go.Proofs.Ytaobamnfgpllcaa
open Go.RowKit

/-- What a writing answers, and what it leaves. -/
def progE (S : NShape) (zs : Nat → List Int) (s : NS) (who n m : Int) (lb ld : Nat) : Int :=
  if lackE S n m = 0 then (if 32 < lb ∨ 160 < ld then 3 else if s.mr n.toNat then 10 else if m = (nextN (s.L n.toNat) S.pg : Nat) then operE zs s who else 9) else lackE S n m
def progS (S : NShape) (zs : Nat → List Int) (s : NS) (who n m : Int) (bs : List Int) (dt : ByteArray) : NS :=
  if lackE S n m = 0 ∧ ¬ (32 < bs.length ∨ 160 < dt.size) ∧ s.mr n.toNat = false ∧ m = (nextN (s.L n.toNat) S.pg : Nat) then operS zs s who (tornPg n.toNat m.toNat) (turnPg n.toNat m.toNat ⟨1, bs, dt⟩) else s

section
variable {w : World} {S : NShape} {V : Nat → Value} {zs : Nat → List Int} {s : NS}

theorem NandAt.fresh (h : NandAt w S V zs s) {k : Nat} (hk : w.heap.size ≤ k) : S.T k = 0 :=
  Classical.byContradiction fun hne => by have := h.hi k hne; omega

set_option maxHeartbeats 1600000 in
theorem program_any {v : Value} {bs : List Int} {dt : ByteArray} (h : NandAt w S V zs s) (hR : Roles S) {c : Int} (hc : Cnt s c) (hcn : c < 80000) (hz : ∀ j, j < 4 → (zs j).length ≤ 64) (who n m : Int)
    (hv : BtsA w v bs) (hq : 0 < bs.length → ∀ k, v.ownBlock = some k → S.T k = 0) (hl : bs.length ≤ 9223372036854775807) (hd : dt.size ≤ 9223372036854775807) :
    Calls Try.prog 7 #[.pointer (some ⟨S.nb, 0, none⟩), .int .i64 who, .int .i64 n, .int .i64 m, v, .string dt] w
      (Goes S V zs (.int .i64 (progE S zs s who n m bs.length dt.size)) (progS S zs s who n m bs dt) w) := by
  obtain ⟨ao, cap, hvf⟩ := hv.form
  subst hvf
  have hE2 : w.grownBy ((w.alloc (.cells #[.slice ao bs.length cap] 36)).alloc (.cells #[.string dt] 9)) none := grown_alloc (World.grownBy_alloc w _ none) _
  have h2 := h.ext hE2 hR
  have LK := lacks_is h2.fix n m
  have K2 := Lib.hid (And.intro h2 (Keeps.ext (T := S.T) hE2))
  by_cases e0 : lackE S n m = 0
  · obtain ⟨i, j, rfl, rfl, hi, hj⟩ := lackE_zero e0
    rw [e0] at LK
    unfold progE progS
    rw [e0]
    simp only [Int.toNat_natCast, if_true, true_and]
    by_cases e1 : 32 < bs.length ∨ 160 < dt.size
    · have g1 : (32 < bs.length) ∨ (¬ 32 < bs.length ∧ 160 < dt.size) := by omega
      rw [if_pos e1, if_neg (by simp [e1])]
      clear e1 hE2 h2 h
      rcases g1 with g1 | ⟨g1, g2⟩
      · have g1' : (32 : Int) < bs.length := by omega
        clear g1
        go_enter Try.func7, Try.ntmps7
        go_wp2_with (go_at_call 19; refine LK.mono ?_; rintro e w' ⟨rfl, rfl⟩)
        go_ret
        exact ⟨rfl, K2.out⟩
      · have g1' : ¬ (32 : Int) < bs.length := by omega
        have g2' : (160 : Int) < dt.size := by omega
        clear g1 g2
        go_enter Try.func7, Try.ntmps7
        go_wp2_with (go_at_call 19; refine LK.mono ?_; rintro e w' ⟨rfl, rfl⟩)
        go_ret
        exact ⟨rfl, K2.out⟩
    · rw [if_neg e1]
      have g1 : ¬ (32 : Int) < bs.length := by omega
      have g2 : ¬ (160 : Int) < dt.size := by omega
      have cm := h2.fix.cm
      have ck := h2.mks i hi
      cases em : s.mr i
      · simp only [Bool.false_eq_true, if_false, true_and, e1, not_false_eq_true]
        rw [em] at ck
        have NX := next7_is h2.fix hi (h2.row i hi) hR
        by_cases e3 : (j : Int) = (nextN (s.L i) S.pg : Nat)
        · have e3' : j = nextN (s.L i) S.pg := by omega
          rw [if_pos e3, if_pos e3]
          rw [← e3'] at NX
          have cl := h2.fix.cl
          have cr := h2.fix.rows i hi
          have hE3 := grown_alloc hE2 (.cells #[.pointer (some ⟨S.row i, j * 3, none⟩)] 57)
          have h3 := h.ext hE3 hR
          have OP := operP_any (i := i) (j := j) (b0 := w.heap.size) (b1 := w.heap.size + 1) (b2 := w.heap.size + 1 + 1) (v := .slice ao bs.length cap) (bs := bs) (dt := dt) h3 hR hc hcn hz who hi hj (h.fresh (Nat.le_refl _)) (h.fresh (by omega)) (h.fresh (by omega))
            (by rw [World.cell?_alloc_past _ _ _ (by simp; omega), World.cell?_alloc_past _ _ _ (by simp), World.cell?_alloc_at _ _ _ _ rfl]; rfl)
            (by rw [World.cell?_alloc_past _ _ _ (by simp), World.cell?_alloc_at _ _ _ _ (by simp)]; rfl) (by rw [World.cell?_alloc_at _ _ _ _ (by simp)]; rfl)
            (fun x hx => by
              rcases hv with hv | ⟨a, cp, e, h5, h6⟩
              · exact .inl hv
              · refine .inr ⟨a, cp, e, h5, fun i hi => ?_⟩
                have hc1 := h6 i hi
                have hb := World.block_lt_of_cell? w _ hc1
                have hs := hE3.size
                have e7 : (Value.slice ao bs.length cap).ownBlock = some a.block := by rw [e]; rfl
                have e8 : (a.add i).block = a.block := by unfold Addr.add; split <;> rfl
                exact (World.cell?_of_block (hx.block _ (by omega) (by rw [e8]; exact hq (by omega) _ e7))).trans (hE3.cell hc1 (by simp))) (by omega)
          have K3 := Lib.hid (Keeps.ext (T := S.T) hE3)
          clear hE2 hE3 h2 h3 h e1 e3 e3' hc hv hq em
          go_enter Try.func7, Try.ntmps7
          go_wp2_with (first
            | (go_at_call 19; refine LK.mono ?_; rintro e w' ⟨rfl, rfl⟩)
            | (go_at_call 8; refine NX.mono ?_; rintro e w' ⟨rfl, rfl⟩)
            | (go_at_call 20; refine OP.mono ?_; rintro e w' ⟨rfl, hN, hk⟩))
          go_ret
          exact ⟨rfl, hN, K3.out.trans hk⟩
        · rw [if_neg e3, if_neg e3]
          have e3' : ((j : Int) != (nextN (s.L i) S.pg : Nat)) = true := by simpa using e3
          generalize nextN (s.L i) S.pg = nx at *
          clear hE2 h2 h e1 e3 hc hv hq em
          go_enter Try.func7, Try.ntmps7
          go_wp2_with (first
            | (go_at_call 19; refine LK.mono ?_; rintro e w' ⟨rfl, rfl⟩)
            | (go_at_call 8; refine NX.mono ?_; rintro e w' ⟨rfl, rfl⟩))
          go_ret
          exact ⟨rfl, K2.out⟩
      · rw [em] at ck
        simp only [if_true, Bool.true_eq_false, false_and, and_false, if_false]
        clear hE2 h2 h e1 hc hv hq em
        go_enter Try.func7, Try.ntmps7
        go_wp2_with (go_at_call 19; refine LK.mono ?_; rintro e w' ⟨rfl, rfl⟩)
        go_ret
        exact ⟨rfl, K2.out⟩
  · unfold progE progS
    rw [if_neg e0, if_neg (by simp [e0])]
    have e0' : (lackE S n m != 0) = true := by simpa using e0
    generalize lackE S n m = x at *
    clear hE2 h2 h e0 hc hv hq
    go_enter Try.func7, Try.ntmps7
    go_wp2_with (go_at_call 19; refine LK.mono ?_; rintro e w' ⟨rfl, rfl⟩)
    go_ret
    exact ⟨rfl, K2.out⟩
end

end Go.Proofs.Ytaobamnfgpllcaa
