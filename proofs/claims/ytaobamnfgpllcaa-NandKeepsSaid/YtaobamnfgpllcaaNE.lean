/-
  Package nand: operate, for a page; Program.
-/
import Derived.Test.YtaobamnfgpllcaaND
namespace Go.Proofs.Ytaobamnfgpllcaa
open Go.RowKit

/-- What an operation answers, and what it leaves. -/
def operE (zs : Nat → List Int) (s : NS) (who : Int) : Int := if spE s.px s.off = 0 then (if drawB zs s who then 10 else 0) else 12
def operS (zs : Nat → List Int) (s : NS) (who : Int) (sp dn : NS → NS) : NS :=
  if spE s.px s.off = 12 then spendS s else if spE s.px s.off = 11 then sp (spendS s) else if drawB zs s who then sp (drawS zs (spendS s) who) else dn (drawS zs (spendS s) who)
theorem spE_cases (x : Int) (g : Bool) : spE x g = 12 ∨ spE x g = 11 ∨ spE x g = 0 := by unfold spE; split; exact .inl rfl; split; exact .inr (.inl rfl); exact .inr (.inr rfl)
theorem drawB_spend (zs : Nat → List Int) (s : NS) (who : Int) : drawB zs (spendS s) who = drawB zs s who := rfl
theorem spend_L (s : NS) : (spendS s).L = s.L := rfl
theorem draw_L (zs : Nat → List Int) (s : NS) (who : Int) : (drawS zs s who).L = s.L := by unfold drawS; split <;> rfl

def tornPg (i j : Nat) (s : NS) : NS := turnPg i j { s.L i j with st := 2 } s

section
variable {w : World} {S : NShape} {V : Nat → Value} {zs : Nat → List Int} {s : NS}

theorem Goes.after {v : Value} {s' : NS} {w1 : World} (hk : Keeps S.T w w1) {e : Ending} {w' : World} (h : Goes S V zs v s' w1 e w') : Goes S V zs v s' w e w' := ⟨h.1, h.2.1, hk.trans h.2.2⟩

set_option maxHeartbeats 1600000 in
theorem operP_any {i j b0 b1 b2 : Nat} {v : Value} {bs : List Int} {dt : ByteArray} (h : NandAt w S V zs s) (hR : Roles S) {n : Int} (hc : Cnt s n) (hn : n < 80000) (hz : ∀ j, j < 4 → (zs j).length ≤ 64) (who : Int)
    (hi : i < S.all) (hj : j < S.pg) (t0 : S.T b0 = 0) (t1 : S.T b1 = 0) (t2 : S.T b2 = 0)
    (h0 : w.cell? ⟨b0, 0, none⟩ = some v) (h1 : w.cell? ⟨b1, 0, none⟩ = some (.string dt)) (h2 : w.cell? ⟨b2, 0, none⟩ = some (.pointer (some ⟨S.row i, j * 3, none⟩)))
    (hv : ∀ x, Keeps S.T w x → BtsA x v bs) (hl : bs.length ≤ 32) :
    Calls Try.prog 20 #[.pointer (some ⟨S.nb, 0, none⟩), .int .i64 who, .func (.func 21) #[] #[.pointer (some ⟨b2, 0, none⟩)], .func (.func 22) #[] #[.pointer (some ⟨b0, 0, none⟩), .pointer (some ⟨b1, 0, none⟩), .pointer (some ⟨b2, 0, none⟩)]] w
      (Goes S V zs (.int .i64 (operE zs s who)) (operS zs s who (tornPg i j) (turnPg i j ⟨1, bs, dt⟩)) w) := by
  have SP := spend7_any h hR hc (by omega)
  have cp := h.fix.cp
  have hcs := hc.spend
  have DR := fun (x : World) (hx : NandAt x S V zs (spendS s)) => draw7_any hx hR hcs (by omega) hz who
  have SPL := fun (x : World) (s' : NS) (hx : NandAt x S V zs s') (kx : Keeps S.T w x) => spoilPg_is (i := i) (j := j) (b := b2) hx hR hi hj (kx.cell h2 t2)
  have DOP := fun (x : World) (s' : NS) (hx : NandAt x S V zs s') (kx : Keeps S.T w x) => doPg_is (i := i) (j := j) (bs := bs) (dt := dt) hx hR hi hj t0 t1 t2 (kx.cell h0 t0) (kx.cell h1 t1) (kx.cell h2 t2) (hv x kx) hl
  have hSS : ∀ x s', NandAt x S V zs s' → x.cell? ⟨S.nb, 5, none⟩ = some (.pointer (some ⟨S.db, 0, none⟩)) := fun x s' hx => hx.fix.cd
  have H5 := Lib.hid hSS
  clear h0 h1 h2 hv h hc hcs hSS hl
  unfold operE operS
  rw [drawB_spend] at DR
  rcases spE_cases s.px s.off with hs | hs | hs
  · rw [hs] at SP ⊢
    rw [if_neg (by decide), if_pos rfl]
    clear DR SPL DOP hs
    go_enter Try.func20, Try.ntmps20
    go_wp2_with (go_at_call 30; refine SP.mono ?_; rintro e w1 ⟨rfl, hN1, hk1⟩)
    go_ret
    exact ⟨rfl, hN1, hk1⟩
  · rw [hs] at SP ⊢
    rw [if_neg (by decide), if_neg (by decide), if_pos rfl]
    clear DR DOP hs
    go_enter Try.func20, Try.ntmps20
    go_wp2_with (first
      | (go_at_call 30; refine SP.mono ?_; rintro e w1 ⟨rfl, hN1, hk1⟩)
      | (go_at_call 21; refine (SPL _ _ hN1 hk1).mono ?_; rintro e w2 ⟨rfl, hN2, hk2⟩))
    go_ret
    exact ⟨rfl, hN2, hk1.trans hk2⟩
  · rw [hs] at SP ⊢
    rw [if_pos (show (0 : Int) = 0 from rfl), if_neg (show ¬ (0 : Int) = 12 by decide), if_neg (show ¬ (0 : Int) = 11 by decide)]
    cases hd : drawB zs s who
    · rw [hd] at DR
      simp only [Bool.false_eq_true, if_false]
      clear SPL hs hd
      go_enter Try.func20, Try.ntmps20
      go_wp2_with (first
        | (go_at_call 30; refine SP.mono ?_; rintro e w1 ⟨rfl, hN1, hk1⟩; have cd1 := H5.out _ _ hN1)
        | (go_at_call 37; refine (DR _ hN1).mono ?_; rintro e w2 ⟨rfl, hN2, hk2⟩)
        | (go_at_call 22; refine (DOP _ _ hN2 (hk1.trans hk2)).mono ?_; rintro e w3 ⟨rfl, hN3, hk3⟩))
      go_ret
      exact ⟨rfl, hN3, (hk1.trans hk2).trans hk3⟩
    · rw [hd] at DR
      simp only [if_true]
      clear DOP hs hd
      go_enter Try.func20, Try.ntmps20
      go_wp2_with (first
        | (go_at_call 30; refine SP.mono ?_; rintro e w1 ⟨rfl, hN1, hk1⟩; have cd1 := H5.out _ _ hN1)
        | (go_at_call 37; refine (DR _ hN1).mono ?_; rintro e w2 ⟨rfl, hN2, hk2⟩)
        | (go_at_call 21; refine (SPL _ _ hN2 (hk1.trans hk2)).mono ?_; rintro e w3 ⟨rfl, hN3, hk3⟩))
      go_ret
      exact ⟨rfl, hN3, (hk1.trans hk2).trans hk3⟩
end

end Go.Proofs.Ytaobamnfgpllcaa
