/-
  Package nand: Erase.
-/
import Derived.Test.YtaobamnfgpllcaaNF
namespace Go.Proofs.Ytaobamnfgpllcaa
open Go.RowKit

theorem gb_drewN (w : World) (n : Nat) : w.grownBy (w.drewN n) none := ⟨rfl, rfl, rfl, Nat.le_refl _, fun _ _ _ => rfl⟩

def fillTo (i k : Nat) (x : Int) (s : NS) : NS := { s with L := fun i' => if i' = i then (fun j => if j < k then Pg.none x else s.L i j) else s.L i' }
/-- All pages of a block are as x, with nothing in them. -/
def fillPg (i pg : Nat) (x : Int) (s : NS) : NS := fillTo i pg x s

theorem fillTo_zero (i : Nat) (x : Int) (s : NS) : fillTo i 0 x s = s := by
  unfold fillTo
  have : (fun i' => if i' = i then (fun j => if j < 0 then Pg.none x else s.L i j) else s.L i') = s.L := by
    funext i'
    by_cases e : i' = i
    · subst e; simp
    · simp [e]
  rw [this]
theorem fillTo_succ (i k : Nat) (x : Int) (s : NS) : turnPg i k (Pg.none x) (fillTo i k x s) = fillTo i (k + 1) x s := by
  unfold turnPg fillTo
  simp only [if_true]
  congr 1
  funext i'
  by_cases e : i' = i
  · simp only [e, if_true]
    funext j
    by_cases e2 : j = k
    · subst e2; simp
    · simp only [if_neg e2]
      by_cases e3 : j < k
      · rw [if_pos e3, if_pos (by omega)]
      · rw [if_neg e3, if_neg (by omega)]
  · simp only [if_neg e]

/-- What a closure reads of the array. -/
structure Sees (S : NShape) (i b3 b5 : Nat) (x : World) : Prop where
  c3 : x.cell? ⟨b3, 0, none⟩ = some (.pointer (some ⟨S.nb, 0, none⟩))
  c5 : x.cell? ⟨b5, 0, none⟩ = some (.int .i64 (i : Int))
  cl : x.cell? ⟨S.nb, 6, none⟩ = some (.slice (some ⟨S.bl, 0, none⟩) S.all S.all)
  cr : x.cell? ⟨S.bl, i, none⟩ = some (.slice (some ⟨S.row i, 0, none⟩) S.pg S.pg)

section
variable {w : World} {S : NShape} {V : Nat → Value} {zs : Nat → List Int} {s : NS}

theorem NandAt.sees (h : NandAt w S V zs s) {i b3 b5 : Nat} (hi : i < S.all) (c3 : w.cell? ⟨b3, 0, none⟩ = some (.pointer (some ⟨S.nb, 0, none⟩))) (c5 : w.cell? ⟨b5, 0, none⟩ = some (.int .i64 (i : Int))) : Sees S i b3 b5 w :=
  ⟨c3, c5, h.fix.cl, h.fix.rows i hi⟩

set_option maxHeartbeats 1600000 in
theorem fill_is {i b3 b5 : Nat} (x : Int) (h : NandAt w S V zs s) (hR : Roles S) (hi : i < S.all) (t3 : S.T b3 = 0) (t5 : S.T b5 = 0)
    (c3 : w.cell? ⟨b3, 0, none⟩ = some (.pointer (some ⟨S.nb, 0, none⟩))) (c5 : w.cell? ⟨b5, 0, none⟩ = some (.int .i64 (i : Int))) :
    Calls Try.prog 27 #[.int .i64 x, .pointer (some ⟨b3, 0, none⟩), .pointer (some ⟨b5, 0, none⟩)] w (Goes S V zs (.tuple #[]) (fillPg i S.pg x s) w) := by
  have HH := Lib.hid (And.intro h (And.intro hR (And.intro t3 (And.intro t5 (And.intro c3 c5)))))
  have cl := h.fix.cl
  have cr := h.fix.rows i hi
  have hb := hR.bds
  clear h hR t3 t5
  go_enter Try.func27, Try.ntmps27
  go_wp2
  go_quiet (fail)
  rename_i nq
  go_wp2
  have hN0 := HH.out.1.ext (w' := w.drewN nq) (gb_drewN w nq) HH.out.2.1
  have hk0 := Keeps.ext (T := S.T) (gb_drewN w nq)
  clear cl cr c3 c5
  go_loopw [13] (fun t wr => ∃ k : Nat, k ≤ S.pg ∧ t = .int .i64 k ∧ NandAt wr S V zs (fillTo i k x s) ∧ Keeps S.T w wr) (fun t _ => S.pg - (intOf t).toNat)
  case atStart => exact ⟨0, Nat.zero_le _, rfl, by rw [fillTo_zero]; exact hN0, hk0⟩
  case round =>
    clear hN0 hk0
    obtain ⟨k, hk, rfl, hN, hK⟩ := hrel
    have HN := Lib.hid (And.intro hN hK)
    clear hN hK
    by_cases hlt : k < S.pg
    · have hNd := HN.out.1.ext (Ext.drew wr) HH.out.2.1
      have hS : Sees S i b3 b5 wr.drew := hNd.sees hi (HN.out.2.cell HH.out.2.2.2.2.1 HH.out.2.2.1) (HN.out.2.cell HH.out.2.2.2.2.2 HH.out.2.2.2.1)
      have hT : S.T (S.row i) ≠ 0 := by rw [HH.out.2.1.tr i hi]; omega
      have hg := gb_set (gb_set (gb_set (gb_refl wr.drew (some (S.row i))) (k * 3) (.int .i64 x)) (k * 3 + 1) (.slice none 0 0)) (k * 3 + 2) (.string ⟨#[]⟩)
      have hN1 := hNd.turnRow HH.out.2.1 hi hg ((hNd.row i hi).setPg hT hlt (Pg.none x) (.slice none 0 0) (.inl ⟨rfl, rfl⟩) (fun q hq => by simp [Value.ownBlock] at hq))
      have hk1 := Keeps.own (T := S.T) hg hT
      have hN2 : NandAt (((wr.drew.setCell ⟨S.row i, k * 3, none⟩ (.int .i64 x)).setCell ⟨S.row i, k * 3 + 1, none⟩ (.slice none 0 0)).setCell ⟨S.row i, k * 3 + 2, none⟩ (.string ⟨#[]⟩)) S V zs (fillTo i (k + 1) x s) := by
        rw [← fillTo_succ]; exact hN1
      have hk2 := (HN.out.2.trans (Keeps.ext (Ext.drew wr))).trans hk1
      have HF := Lib.hid (And.intro hN2 (And.intro hk2 (hN2.sees hi (hk2.cell HH.out.2.2.2.2.1 HH.out.2.2.1) (hk2.cell HH.out.2.2.2.2.2 HH.out.2.2.2.1))))
      have f := fun o => (HN.out.1.row i hi).free o
      have c0 := (HN.out.1.row i hi).st k hlt
      obtain ⟨u, c1, _⟩ := (HN.out.1.row i hi).bs k hlt
      have c2 := (HN.out.1.row i hi).dt k hlt
      clear hNd hT hg hN1 hk1 hN2 hk2
      go_wp2
      refine region_line [(0, true), (1, true), (2, true), (3, true), (4, true), (5, true), (6, true), (7, true), (8, true), (9, false), (10, true), (11, false)] (Sees S i b3 b5) (by kernel_rfl) (by kernel_rfl) (fun _ _ _ d _ h => by cases d <;> exact h) hS ?_
      repeat (refine line_read (a' := ?_) rfl (by kernel_rfl) (by kernel_rfl) hS (fun x hx K hK => ?_) ?_; rotate_left; · obtain ⟨hx1, hx2, hx3, hx4⟩ := hx; go_wp2; exact hK)
      refine line_act (by rfl) (fun K hK => ?_)
      go_wp2
      refine hK _ _ _ hS (fun x hx => hx) ?_
      clear hK K
      repeat (refine line_read (a' := ?_) rfl (by kernel_rfl) (by kernel_rfl) hS (fun x hx K hK => ?_) ?_; rotate_left; · obtain ⟨hx1, hx2, hx3, hx4⟩ := hx; go_wp2; exact hK)
      refine line_act (by rfl) (fun K hK => ?_)
      go_wp2
      refine hK _ _ _ HF.out.2.2 (fun x hx => hx) ?_
      clear hK K
      refine line_end ?_
      go_wp2
      go_roundw
      case rel => exact ⟨k + 1, by omega, by go_num, HF.out.1, HF.out.2.1⟩
      case measure => simp [intOf]; omega
    · obtain rfl : k = S.pg := by omega
      go_wp2
      go_end0
      exact ⟨rfl, HN.out.1, HN.out.2⟩
end

end Go.Proofs.Ytaobamnfgpllcaa
