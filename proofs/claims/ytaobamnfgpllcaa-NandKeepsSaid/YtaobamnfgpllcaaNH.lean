/-
  Package nand: Erase's closures, and operate for a block.
-/
import Derived.Test.YtaobamnfgpllcaaNG
import Derived.Laws.EntriesVeiled
namespace Go.Proofs.Ytaobamnfgpllcaa
open Go.RowKit

def countS (i : Nat) (s : NS) : NS := { s with er := fun i' => if i' = i then s.er i + 1 else s.er i' }
def eraseS (i pg : Nat) (s : NS) : NS := countS i (fillPg i pg 0 s)

/-- What counting reads. -/
structure SeesE (S : NShape) (i b3 b5 : Nat) (x : World) : Prop where
  c3 : x.cell? ⟨b3, 0, none⟩ = some (.pointer (some ⟨S.nb, 0, none⟩))
  c5 : x.cell? ⟨b5, 0, none⟩ = some (.int .i64 (i : Int))
  ce : x.cell? ⟨S.nb, 8, none⟩ = some (.slice (some ⟨S.be, 0, none⟩) S.all S.all)

/-- The boxed variables of an erasing still stand. -/
structure Boxed (S : NShape) (i b3 b5 b8 : Nat) (x : World) : Prop where
  c3 : x.cell? ⟨b3, 0, none⟩ = some (.pointer (some ⟨S.nb, 0, none⟩))
  c5 : x.cell? ⟨b5, 0, none⟩ = some (.int .i64 (i : Int))
  c8 : x.cell? ⟨b8, 0, none⟩ = some (.func (.func 27) #[] #[.pointer (some ⟨b3, 0, none⟩), .pointer (some ⟨b5, 0, none⟩)])
  t3 : S.T b3 = 0
  t5 : S.T b5 = 0
  t8 : S.T b8 = 0
theorem Boxed.keep {S : NShape} {i b3 b5 b8 : Nat} {x y : World} (h : Boxed S i b3 b5 b8 x) (hk : Keeps S.T x y) : Boxed S i b3 b5 b8 y :=
  ⟨hk.cell h.c3 h.t3, hk.cell h.c5 h.t5, hk.cell h.c8 h.t8, h.t3, h.t5, h.t8⟩

section
variable {w : World} {S : NShape} {V : Nat → Value} {zs : Nat → List Int} {s : NS}

theorem spoilB_is {i b3 b5 b8 : Nat} (h : NandAt w S V zs s) (hR : Roles S) (hi : i < S.all) (hB : Boxed S i b3 b5 b8 w) :
    Calls Try.prog 28 #[.pointer (some ⟨b8, 0, none⟩)] w (Goes S V zs (.tuple #[]) (fillPg i S.pg 2 s) w) := by
  have F := fill_is 2 h hR hi hB.t3 hB.t5 hB.c3 hB.c5
  have c8 := hB.c8
  clear hB h hR
  go_enter Try.func28, Try.ntmps28
  go_wp2_with (go_at_call 27; refine F.mono ?_; rintro e w1 ⟨rfl, hN1, hk1⟩)
  go_end0
  exact ⟨rfl, hN1, hk1⟩

set_option maxHeartbeats 800000 in
theorem doB_is {i b3 b5 b8 : Nat} (h : NandAt w S V zs s) (hR : Roles S) {n : Int} (hc : Cnt s n) (hn : n < 90000) (hi : i < S.all) (hB : Boxed S i b3 b5 b8 w) :
    Calls Try.prog 29 #[.pointer (some ⟨b8, 0, none⟩), .pointer (some ⟨b3, 0, none⟩), .pointer (some ⟨b5, 0, none⟩)] w (Goes S V zs (.tuple #[]) (eraseS i S.pg s) w) := by
  have F := fill_is 0 h hR hi hB.t3 hB.t5 hB.c3 hB.c5
  have c8 := hB.c8
  have HB := Lib.hid (And.intro hB (And.intro h (And.intro hR (hc.er i))))
  clear hB h hR hc
  go_enter Try.func29, Try.ntmps29
  go_wp2_with (go_at_call 27; refine F.mono ?_; rintro e w1 ⟨rfl, hN1, hk1⟩)
  have hB1 := HB.out.1.keep hk1
  have hS : SeesE S i b3 b5 w1.drew := ⟨hB1.c3, hB1.c5, hN1.fix.ce⟩
  have cr := hN1.ers i hi
  have fr := hN1.erf i
  have hg := gb_set (gb_refl w1.drew (some S.be)) i (.int .i64 (s.er i + 1))
  have hTe : S.T S.be ≠ 0 := by rw [HB.out.2.2.1.te]; decide
  have hk2 := Keeps.own (T := S.T) hg hTe
  have hN2 : NandAt (w1.drew.setCell ⟨S.be, i, none⟩ (.int .i64 (s.er i + 1))) S V zs (eraseS i S.pg s) := (hN1.ext (Ext.drew w1) HB.out.2.2.1).count HB.out.2.2.1 hi (s.er i + 1)
  have hB2 := hB1.keep ((Keeps.ext (T := S.T) (Ext.drew w1)).trans hk2)
  have HF := Lib.hid (And.intro hN2 (And.intro ((hk1.trans (Keeps.ext (Ext.drew w1))).trans hk2) (⟨hB2.c3, hB2.c5, hN2.fix.ce⟩ : SeesE S i b3 b5 _)))
  have er0 := HB.out.2.2.2.1
  have er1 := HB.out.2.2.2.2
  have cr2 : w1.cell? ⟨S.be, i, none⟩ = some (.int .i64 (s.er i)) := cr
  clear hB1 hN1 hk1 hg hTe hk2 hN2 hB2 c8 cr
  generalize s.er i = q at *
  refine region_line [(0, true), (1, true), (2, true), (3, true), (4, true), (5, true), (6, false), (7, true), (8, true), (9, false)] (SeesE S i b3 b5) (by kernel_rfl) (by kernel_rfl) (fun _ _ _ d _ h => by cases d <;> exact h) hS ?_
  repeat (refine line_read (a' := ?_) rfl (by kernel_rfl) (by kernel_rfl) hS (fun x hx K hK => ?_) ?_; rotate_left; · obtain ⟨hx1, hx2, hx3⟩ := hx; go_wp2; exact hK)
  refine line_act (by rfl) (fun K hK => ?_)
  go_wp2
  refine hK _ _ _ hS (fun x hx => hx) ?_
  clear hK K
  repeat (refine line_read (a' := ?_) rfl (by kernel_rfl) (by kernel_rfl) hS (fun x hx K hK => ?_) ?_; rotate_left; · obtain ⟨hx1, hx2, hx3⟩ := hx; go_wp2; exact hK)
  refine line_act (by rfl) (fun K hK => ?_)
  go_wp2
  refine hK _ _ _ HF.out.2.2 (fun x hx => hx) ?_
  clear hK K
  refine line_end ?_
  go_wp2
  go_end0
  exact ⟨rfl, HF.out.1, HF.out.2.1⟩

set_option maxHeartbeats 1600000 in
theorem operB_any {i b3 b5 b8 : Nat} (h : NandAt w S V zs s) (hR : Roles S) {n : Int} (hc : Cnt s n) (hn : n < 80000) (hz : ∀ j, j < 4 → (zs j).length ≤ 64) (who : Int) (hi : i < S.all) (hB : Boxed S i b3 b5 b8 w) :
    Calls Try.prog 20 #[.pointer (some ⟨S.nb, 0, none⟩), .int .i64 who, .func (.func 28) #[] #[.pointer (some ⟨b8, 0, none⟩)], .func (.func 29) #[] #[.pointer (some ⟨b8, 0, none⟩), .pointer (some ⟨b3, 0, none⟩), .pointer (some ⟨b5, 0, none⟩)]] w
      (Goes S V zs (.int .i64 (operE zs s who)) (operS zs s who (fillPg i S.pg 2) (eraseS i S.pg)) w) := by
  have SP := spend7_any h hR hc (by omega)
  have cp := h.fix.cp
  have hcs := hc.spend
  have DR := fun (x : World) (hx : NandAt x S V zs (spendS s)) => draw7_any hx hR hcs (by omega) hz who
  have SPL := fun (x : World) (s' : NS) (hx : NandAt x S V zs s') (kx : Keeps S.T w x) => spoilB_is hx hR hi (hB.keep kx)
  have DOP := fun (x : World) (hx : NandAt x S V zs (drawS zs (spendS s) who)) (kx : Keeps S.T w x) => doB_is hx hR (hcs.draw zs who) (by omega) hi (hB.keep kx)
  have hSS : ∀ x s', NandAt x S V zs s' → x.cell? ⟨S.nb, 5, none⟩ = some (.pointer (some ⟨S.db, 0, none⟩)) := fun x s' hx => hx.fix.cd
  have H5 := Lib.hid hSS
  clear h hc hcs hSS hB
  unfold operE operS
  rw [drawB_spend] at DR
  rcases spE_cases s.px s.off with hs | hs | hs
  · rw [hs] at SP ⊢
    rw [if_neg (by decide), if_pos rfl]
    clear DR SPL DOP hs
    go_enter Try.func20, Try.ntmps20
    go_wp2_with (go_at_call 30; refine SP.mono ?_; rintro e w1 ⟨rfl, hN1, hk1⟩)
    go_ret
    exact ⟨rfl, hN1, hk1⟩
  · rw [hs] at SP ⊢
    rw [if_neg (by decide), if_neg (by decide), if_pos rfl]
    clear DR DOP hs
    go_enter Try.func20, Try.ntmps20
    go_wp2_with (first
      | (go_at_call 30; refine SP.mono ?_; rintro e w1 ⟨rfl, hN1, hk1⟩)
      | (go_at_call 28; refine (SPL _ _ hN1 hk1).mono ?_; rintro e w2 ⟨rfl, hN2, hk2⟩))
    go_ret
    exact ⟨rfl, hN2, hk1.trans hk2⟩
  · rw [hs] at SP ⊢
    rw [if_pos (show (0 : Int) = 0 from rfl), if_neg (show ¬ (0 : Int) = 12 by decide), if_neg (show ¬ (0 : Int) = 11 by decide)]
    cases hd : drawB zs s who
    · rw [hd] at DR
      simp only [Bool.false_eq_true, if_false]
      clear SPL hs hd
      go_enter Try.func20, Try.ntmps20
      go_wp2_with (first
        | (go_at_call 30; refine SP.mono ?_; rintro e w1 ⟨rfl, hN1, hk1⟩; have cd1 := H5.out _ _ hN1)
        | (go_at_call 37; refine (DR _ hN1).mono ?_; rintro e w2 ⟨rfl, hN2, hk2⟩)
        | (go_at_call 29; refine (DOP _ hN2 (hk1.trans hk2)).mono ?_; rintro e w3 ⟨rfl, hN3, hk3⟩))
      go_ret
      exact ⟨rfl, hN3, (hk1.trans hk2).trans hk3⟩
    · rw [hd] at DR
      simp only [if_true]
      clear DOP hs hd
      go_enter Try.func20, Try.ntmps20
      go_wp2_with (first
        | (go_at_call 30; refine SP.mono ?_; rintro e w1 ⟨rfl, hN1, hk1⟩; have cd1 := H5.out _ _ hN1)
        | (go_at_call 37; refine (DR _ hN1).mono ?_; rintro e w2 ⟨rfl, hN2, hk2⟩)
        | (go_at_call 28; refine (SPL _ _ hN2 (hk1.trans hk2)).mono ?_; rintro e w3 ⟨rfl, hN3, hk3⟩))
      go_ret
      exact ⟨rfl, hN3, (hk1.trans hk2).trans hk3⟩
end

end Go.Proofs.Ytaobamnfgpllcaa
