/-
  Package nand: what operations come to when the power lasts and nothing fails.
-/
import Derived.Test.YtaobamnfgpllcaaNL
namespace Go.Proofs.Ytaobamnfgpllcaa
open Go.RowKit

/-- No faults. -/
def noZs : Nat → List Int := fun _ => []
/-- The power lasts. -/
structure Calm (s : NS) (n : Int) : Prop where
  px : s.px = -1
  off : s.off = false
  cnt : Cnt s n

theorem Calm.mono {s : NS} {n m : Int} (h : Calm s n) (hm : n ≤ m) : Calm s m := by
  obtain ⟨h1, h2, h3, h4, h5⟩ := h.cnt
  exact ⟨h.px, h.off, ⟨by omega, fun j => by have := h2 j; omega, fun j => by have := h3 j; omega, fun j => by have := h4 j; omega, h5⟩⟩

theorem drawB_none (s : NS) (who : Int) : drawB noZs s who = false := by
  unfold drawB hitB noZs
  split <;> simp
theorem calm_spend {s : NS} {n : Int} (h : Calm s n) (zs : Nat → List Int) (who : Int) : Calm (drawS zs (spendS s) who) (n + 2) := by
  have hx : (spendS s).px = -1 := by simp only [spendS, h.px, h.off]; rfl
  have ho : (spendS s).off = false := by simp only [spendS, h.px, h.off]; rfl
  have hc := h.cnt.spend.draw zs who
  refine ⟨?_, ?_, by rw [show n + 2 = n + 1 + 1 by omega]; exact hc⟩
  · unfold drawS; split <;> exact hx
  · unfold drawS; split <;> exact ho
theorem calm_E {s : NS} {n : Int} (h : Calm s n) (who : Int) : operE noZs s who = 0 := by
  unfold operE
  rw [h.px, h.off, drawB_none, if_pos (by decide), if_neg (by decide)]
theorem calm_S {s : NS} {n : Int} (h : Calm s n) (who : Int) (sp dn : NS → NS) : operS noZs s who sp dn = dn (drawS noZs (spendS s) who) := by
  unfold operS
  rw [h.px, h.off, drawB_none, if_neg (by decide), if_neg (by decide), if_neg (by decide)]
theorem draw_mr (zs : Nat → List Int) (s : NS) (who : Int) : (drawS zs s who).mr = s.mr := by unfold drawS; split <;> rfl
theorem draw_er (zs : Nat → List Int) (s : NS) (who : Int) : (drawS zs s who).er = s.er := by unfold drawS; split <;> rfl

theorem calm_of {s s' : NS} {n : Int} (h : Calm s n) (h1 : s'.px = s.px) (h2 : s'.off = s.off) (h3 : s'.po = s.po) (h4 : s'.N = s.N) (h5 : s'.M = s.M) (h6 : ∀ i, 0 ≤ s'.er i ∧ s'.er i ≤ n) : Calm s' n := by
  obtain ⟨g1, g2, g3, g4, g5⟩ := h.cnt
  exact ⟨by rw [h1]; exact h.px, by rw [h2]; exact h.off, ⟨by rw [h3]; exact g1, by rw [h4]; exact g2, by rw [h5]; exact g3, h6, by rw [h1]; exact g5⟩⟩

/-- One page is another one. -/
def updL (L : Nat → Nat → Pg) (i j : Nat) (x : Pg) : Nat → Nat → Pg := fun i' => if i' = i then (fun j' => if j' = j then x else L i j') else L i'

section
variable {w : World} {S : NShape} {V : Nat → Value} {s : NS}

def progDone (i j : Nat) (x : Pg) (s : NS) (who : Int) : NS := turnPg i j x (drawS noZs (spendS s) who)
theorem progDone_L (i j : Nat) (x : Pg) (s : NS) (who : Int) : (progDone i j x s who).L = updL s.L i j x := by
  show (turnPg i j x (drawS noZs (spendS s) who)).L = _
  simp only [turnPg, draw_L, spend_L]
  rfl
theorem progDone_mr (i j : Nat) (x : Pg) (s : NS) (who : Int) : (progDone i j x s who).mr = s.mr := by
  show (drawS noZs (spendS s) who).mr = _
  rw [draw_mr]; rfl
theorem progDone_er (i j : Nat) (x : Pg) (s : NS) (who : Int) : (progDone i j x s who).er = s.er := by
  show (drawS noZs (spendS s) who).er = _
  rw [draw_er]; rfl
theorem progDone_calm {n : Int} (i j : Nat) (x : Pg) (who : Int) (h : Calm s n) : Calm (progDone i j x s who) (n + 2) :=
  calm_of (calm_spend h noZs who) rfl rfl rfl rfl rfl (calm_spend h noZs who).cnt.er

def eraseDone (i pg : Nat) (s : NS) (who : Int) : NS := eraseS i pg (drawS noZs (spendS s) who)
theorem eraseDone_L (i pg : Nat) (s : NS) (who : Int) : (eraseDone i pg s who).L = (fun i' => if i' = i then (fun j => if j < pg then Pg.none 0 else s.L i j) else s.L i') := by
  show (fillTo i pg 0 (drawS noZs (spendS s) who)).L = _
  simp only [fillTo, draw_L, spend_L]
theorem eraseDone_mr (i pg : Nat) (s : NS) (who : Int) : (eraseDone i pg s who).mr = s.mr := by
  show (drawS noZs (spendS s) who).mr = _
  rw [draw_mr]; rfl
theorem eraseDone_er (i pg : Nat) (s : NS) (who : Int) : (eraseDone i pg s who).er = fun i' => if i' = i then s.er i + 1 else s.er i' := by
  show (fun i' => if i' = i then (drawS noZs (spendS s) who).er i + 1 else (drawS noZs (spendS s) who).er i') = _
  rw [draw_er]; rfl
theorem eraseDone_calm {n : Int} (i pg : Nat) (who : Int) (h : Calm s n) : Calm (eraseDone i pg s who) (n + 3) := by
  have hc := (calm_spend h noZs who).mono (m := n + 3) (by omega)
  refine calm_of hc rfl rfl rfl rfl rfl (fun i' => ?_)
  rw [eraseDone_er]
  have h1 := h.cnt.er i
  have h2 := h.cnt.er i'
  simp only
  split <;> omega

/-- Written: the page was the next one. -/
theorem prog_good {n who : Int} {i j : Nat} {v : Value} {bs : List Int} {dt : ByteArray} (h : NandAt w S V noZs s) (hR : Roles S) (hc : Calm s n) (hn : n < 80000) (hi : i < S.all) (hj : j < S.pg) (hm : s.mr i = false) (hx : j = nextN (s.L i) S.pg)
    (hv : BtsA w v bs) (hq : 0 < bs.length → ∀ k, v.ownBlock = some k → S.T k = 0) (hl : bs.length ≤ 32) (hd : dt.size ≤ 160) :
    Calls Try.prog 7 #[.pointer (some ⟨S.nb, 0, none⟩), .int .i64 who, .int .i64 i, .int .i64 j, v, .string dt] w (Goes S V noZs (.int .i64 0) (progDone i j ⟨1, bs, dt⟩ s who) w) := by
  have P := program_any h hR hc.cnt hn (fun _ _ => by simp [noZs]) who i j hv hq (by omega) (by omega) (dt := dt)
  have e0 : lackE S i j = 0 := by unfold lackE hasB; rw [if_pos (by simp; omega), if_pos (by omega)]
  have e1 : progE S noZs s who i j bs.length dt.size = 0 := by
    unfold progE
    rw [if_pos e0, if_neg (by omega), Int.toNat_natCast, hm, if_neg (by decide), ← hx, if_pos rfl, calm_E hc]
  have e2 : progS S noZs s who i j bs dt = progDone i j ⟨1, bs, dt⟩ s who := by
    unfold progS
    rw [Int.toNat_natCast, Int.toNat_natCast, if_pos ⟨e0, by omega, hm, by rw [← hx]⟩, calm_S hc]
    rfl
  rw [e1, e2] at P
  exact P
/-- Out of order. -/
theorem prog_order {n who : Int} {i j : Nat} {v : Value} {bs : List Int} {dt : ByteArray} (h : NandAt w S V noZs s) (hR : Roles S) (hc : Calm s n) (hn : n < 80000) (hi : i < S.all) (hj : j < S.pg) (hm : s.mr i = false) (hx : j ≠ nextN (s.L i) S.pg)
    (hv : BtsA w v bs) (hq : 0 < bs.length → ∀ k, v.ownBlock = some k → S.T k = 0) (hl : bs.length ≤ 32) (hd : dt.size ≤ 160) :
    Calls Try.prog 7 #[.pointer (some ⟨S.nb, 0, none⟩), .int .i64 who, .int .i64 i, .int .i64 j, v, .string dt] w (Goes S V noZs (.int .i64 9) s w) := by
  have P := program_any h hR hc.cnt hn (fun _ _ => by simp [noZs]) who i j hv hq (by omega) (by omega) (dt := dt)
  have e0 : lackE S i j = 0 := by unfold lackE hasB; rw [if_pos (by simp; omega), if_pos (by omega)]
  have e1 : progE S noZs s who i j bs.length dt.size = 9 := by
    unfold progE
    rw [if_pos e0, if_neg (by omega), Int.toNat_natCast, hm, if_neg (by decide), if_neg (by omega)]
  have e2 : progS S noZs s who i j bs dt = s := by
    unfold progS
    rw [Int.toNat_natCast, if_neg (by rintro ⟨_, _, _, h⟩; omega)]
  rw [e1, e2] at P
  exact P

/-- Whatever is done elsewhere: block 0's pages and mark stand. -/
def Apart (S : NShape) (V : Nat → Value) (s : NS) (n : Int) (w : World) (e : Ending) (w' : World) : Prop :=
  ∃ v s', e = .returned v ∧ NandAt w' S V noZs s' ∧ Keeps S.T w w' ∧ Calm s' n ∧ s'.L 0 = s.L 0 ∧ s'.mr 0 = s.mr 0 ∧ ((∀ i j, (s.L i j).bs.length ≤ 32) → ∀ i j, (s'.L i j).bs.length ≤ 32)
theorem apart_of {v : Value} {s' : NS} {n : Int} {e : Ending} {w' : World} (h : Goes S V noZs v s' w e w') (hc : Calm s' n) (h1 : s'.L 0 = s.L 0) (h2 : s'.mr 0 = s.mr 0) (h3 : (∀ i j, (s.L i j).bs.length ≤ 32) → ∀ i j, (s'.L i j).bs.length ≤ 32) : Apart S V s n w e w' :=
  ⟨v, s', h.1, h.2.1, h.2.2, hc, h1, h2, h3⟩

theorem prog_apart {c who n m : Int} {v : Value} {bs : List Int} {dt : ByteArray} (h : NandAt w S V noZs s) (hR : Roles S) (hc : Calm s c) (hn : c < 70000) (h0 : n ≠ 0)
    (hv : BtsA w v bs) (hq : 0 < bs.length → ∀ k, v.ownBlock = some k → S.T k = 0) (hl : bs.length ≤ 9223372036854775807) (hd : dt.size ≤ 9223372036854775807) :
    Calls Try.prog 7 #[.pointer (some ⟨S.nb, 0, none⟩), .int .i64 who, .int .i64 n, .int .i64 m, v, .string dt] w (Apart S V s (c + 3) w) := by
  refine (program_any h hR hc.cnt (by omega) (fun _ _ => by simp [noZs]) who n m hv hq hl hd).mono fun e w' hg => ?_
  unfold progS at hg
  split at hg
  · rename_i h1
    obtain ⟨i, j, rfl, rfl, hi, hj⟩ := lackE_zero h1.1
    rw [calm_S hc, Int.toNat_natCast, Int.toNat_natCast] at hg
    have hg' : Goes S V noZs (.int .i64 _) (progDone i j ⟨1, bs, dt⟩ s who) w e w' := hg
    exact apart_of hg' ((progDone_calm i j _ who hc).mono (by omega)) (by rw [progDone_L]; unfold updL; rw [if_neg (by omega)]) (by rw [progDone_mr]) (fun hs i' j' => by
      rw [progDone_L]; unfold updL
      split
      · simp only; split
        · have := h1.2.1; simp only; omega
        · exact hs _ _
      · exact hs _ _)
  · exact apart_of hg (hc.mono (by omega)) rfl rfl (fun hs => hs)

theorem erase_apart {c who n : Int} (h : NandAt w S V noZs s) (hR : Roles S) (hc : Calm s c) (hn : c < 70000) (h0 : n ≠ 0) :
    Calls Try.prog 10 #[.pointer (some ⟨S.nb, 0, none⟩), .int .i64 who, .int .i64 n] w (Apart S V s (c + 3) w) := by
  refine (erase_any h hR hc.cnt (by omega) (fun _ _ => by simp [noZs]) who n).mono fun e w' hg => ?_
  unfold ersS at hg
  split at hg
  · rename_i h1
    simp only [Bool.and_eq_true, hasB, decide_eq_true_eq] at h1
    rw [calm_S hc] at hg
    have hg' : Goes S V noZs (.int .i64 _) (eraseDone n.toNat S.pg s who) w e w' := hg
    exact apart_of hg' (eraseDone_calm _ _ who hc) (by rw [eraseDone_L]; simp only; rw [if_neg (by omega)]) (by rw [eraseDone_mr]) (fun hs i' j' => by
      rw [eraseDone_L]; simp only
      split
      · simp only; split
        · simp [Pg.none]
        · exact hs _ _
      · exact hs _ _)
  · exact apart_of hg (hc.mono (by omega)) rfl rfl (fun hs => hs)

theorem mark_apart {c n : Int} (h : NandAt w S V noZs s) (hR : Roles S) (hc : Calm s c) (hn : c < 70000) :
    Calls Try.prog 11 #[.pointer (some ⟨S.nb, 0, none⟩), .int .i64 n] w (Apart S V s (c + 3) w) := by
  have hsp : Calm (spendS s) (c + 3) := ⟨by simp only [spendS, hc.px, hc.off]; rfl, by simp only [spendS, hc.px, hc.off]; rfl, (Calm.mono ⟨by simp only [spendS, hc.px, hc.off]; rfl, by simp only [spendS, hc.px, hc.off]; rfl, hc.cnt.spend⟩ (m := c + 3) (by omega)).cnt⟩
  refine (mark_any h hR hc.cnt (by omega) n).mono fun e w' hg => ?_
  unfold markS at hg
  split at hg
  · rename_i h1
    simp only [Bool.and_eq_true, hasB, decide_eq_true_eq] at h1
    split at hg
    · exact apart_of hg (calm_of hsp rfl rfl rfl rfl rfl hsp.cnt.er) rfl (by simp only; rw [if_neg (by omega)]) (fun hs => hs)
    · exact apart_of hg hsp rfl rfl (fun hs => hs)
  · exact apart_of hg (hc.mono (by omega)) rfl rfl (fun hs => hs)
end

end Go.Proofs.Ytaobamnfgpllcaa
