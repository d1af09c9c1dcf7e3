/-
  Package nand: an operation's power and draws; a page's closures.
-/
import Derived.Test.YtaobamnfgpllcaaNC
import Derived.Test.YtaobamnfgpllcaaPC
namespace Go.Proofs.Ytaobamnfgpllcaa
open Go.RowKit

/-- Counts that are within n. -/
structure Cnt (s : NS) (n : Int) : Prop where
  po : 0 ≤ s.po ∧ s.po ≤ n
  N : ∀ j, 0 ≤ s.N j ∧ s.N j ≤ n
  M : ∀ j, 0 ≤ s.M j ∧ s.M j ≤ n
  er : ∀ i, 0 ≤ s.er i ∧ s.er i ≤ n
  px : -9223372036854775808 ≤ s.px ∧ s.px ≤ 9223372036854775807

def spendS (s : NS) : NS := { s with px := spX s.px s.off, off := spG s.px s.off, po := spO s.off s.po }
def drawB (zs : Nat → List Int) (s : NS) (who : Int) : Bool := if 0 ≤ who ∧ who < 4 then hitB zs s.N who.toNat else false
def drawS (zs : Nat → List Int) (s : NS) (who : Int) : NS := if 0 ≤ who ∧ who < 4 then { s with N := upd s.N who.toNat (s.N who.toNat + 1), M := nextM zs s.N s.M who.toNat } else s

/-- A call that answers v and leaves the array as s'. -/
def Goes (S : NShape) (V : Nat → Value) (zs : Nat → List Int) (v : Value) (s' : NS) (w : World) (e : Ending) (w' : World) : Prop := e = .returned v ∧ NandAt w' S V zs s' ∧ Keeps S.T w w'

theorem Cnt.spend {s : NS} {n : Int} (h : Cnt s n) : Cnt (spendS s) (n + 1) := by
  obtain ⟨h1, h2, h3, h4, h5⟩ := h
  refine ⟨?_, fun j => ?_, fun j => ?_, fun i => ?_, ?_⟩
  · simp only [spendS, spO]; split <;> omega
  · have := h2 j; simp only [spendS]; omega
  · have := h3 j; simp only [spendS]; omega
  · have := h4 i; simp only [spendS]; omega
  · simp only [spendS, spX]; split
    · exact h5
    · split <;> omega
theorem Cnt.draw {s : NS} {n : Int} (h : Cnt s n) (zs : Nat → List Int) (who : Int) : Cnt (drawS zs s who) (n + 1) := by
  obtain ⟨h1, h2, h3, h4, h5⟩ := h
  unfold drawS
  split
  · refine ⟨by simp only; omega, fun j => ?_, fun j => ?_, fun i => ?_, h5⟩
    · have := h2 j; have := h2 who.toNat; simp only [upd]; split <;> omega
    · have := h3 j; have := h3 who.toNat; simp only [nextM, upd]; split <;> (try split) <;> omega
    · have := h4 i; simp only; omega
  · exact ⟨by omega, fun j => by have := h2 j; omega, fun j => by have := h3 j; omega, fun j => by have := h4 j; omega, h5⟩

section
variable {w : World} {S : NShape} {V : Nat → Value} {zs : Nat → List Int} {s : NS}

theorem spend7_any (h : NandAt w S V zs s) (hR : Roles S) {n : Int} (hc : Cnt s n) (hn : n < 90000) :
    Calls Try.prog 30 #[.pointer (some ⟨S.pb, 0, none⟩)] w (Goes S V zs (.int .i64 (spE s.px s.off)) (spendS s) w) :=
  (spend_any S.pb s.px s.off s.po w h.pow hc.px.1 hc.px.2 hc.po.1 (by have := hc.po.2; omega)).mono fun _ _ ⟨he, hp, hg⟩ => ⟨he, h.power hR hg hp, .own hg (by rw [hR.tp]; decide)⟩

theorem draw7_any (h : NandAt w S V zs s) (hR : Roles S) {n : Int} (hc : Cnt s n) (hn : n < 90000) (hz : ∀ j, j < 4 → (zs j).length ≤ 64) (who : Int) :
    Calls Try.prog 37 #[.pointer (some ⟨S.db, 0, none⟩), .int .i64 who] w (Goes S V zs (.bool (drawB zs s who)) (drawS zs s who) w) := by
  by_cases hw : 0 ≤ who ∧ who < 4
  · obtain ⟨j, rfl⟩ : ∃ j : Nat, who = j := ⟨who.toNat, by omega⟩
    have e1 : drawB zs s j = hitB zs s.N j := by unfold drawB; rw [if_pos hw]; rfl
    have e2 : drawS zs s j = { s with N := upd s.N j (s.N j + 1), M := nextM zs s.N s.M j } := by unfold drawS; rw [if_pos hw]; rfl
    rw [e1, e2]
    exact (next_is S.db j V zs s.N s.M w h.drs (by omega) (hc.N j).1 (by have := (hc.N j).2; omega) (hc.M j).1 (by have := (hc.M j).2; omega) (by have := hz j (by omega); omega)).mono fun _ _ ⟨he, hd, hg⟩ => ⟨he, h.draws hR hg hd, .own hg (by rw [hR.td]; decide)⟩
  · have e1 : drawB zs s who = false := by unfold drawB; rw [if_neg hw]
    have e2 : drawS zs s who = s := by unfold drawS; rw [if_neg hw]
    rw [e1, e2]
    exact (next_none (some ⟨S.db, 0, none⟩) who w (.inr ⟨⟨_, rfl⟩, hw⟩)).mono fun _ _ ⟨he, hw⟩ => by subst hw; exact ⟨he, h, .refl _ _⟩

/-- What a page becomes. -/
def turnPg (i j : Nat) (x : Pg) (s : NS) : NS := { s with L := fun i' => if i' = i then (fun j' => if j' = j then x else s.L i j') else s.L i' }

theorem spoilPg_is {i j b : Nat} (h : NandAt w S V zs s) (hR : Roles S) (hi : i < S.all) (hj : j < S.pg) (hb : w.cell? ⟨b, 0, none⟩ = some (.pointer (some ⟨S.row i, j * 3, none⟩))) :
    Calls Try.prog 21 #[.pointer (some ⟨b, 0, none⟩)] w (Goes S V zs (.tuple #[]) (turnPg i j { s.L i j with st := 2 } s) w) := by
  have hrow := h.row i hi
  have hT : S.T (S.row i) ≠ 0 := by rw [hR.tr i hi]; omega
  have hg := gb_set (gb_refl w (some (S.row i))) (j * 3) (.int .i64 2)
  have H := Lib.hid (And.intro (h.turnRow hR hi hg (hrow.setSt hT hj 2)) (Keeps.own (T := S.T) hg hT))
  have c := hrow.st j hj
  have f := hrow.free (j * 3)
  clear h hR hrow hT hg
  generalize S.row i = r at *
  go_enter Try.func21, Try.ntmps21
  go_wp2
  go_end0
  exact ⟨rfl, H.out.1, H.out.2⟩

/-- The boxed variables of a writing still stand. -/
def BoxIn (T : Nat → Nat) (w : World) (b0 b1 b2 : Nat) (v : Value) (dt : ByteArray) (a : Addr) (x : World) : Prop :=
  Keeps T w x ∧ x.cell? ⟨b0, 0, none⟩ = some v ∧ x.cell? ⟨b1, 0, none⟩ = some (.string dt) ∧ x.cell? ⟨b2, 0, none⟩ = some (.pointer (some a))
theorem Keeps.cell {T : Nat → Nat} {w w' : World} (h : Keeps T w w') {b o : Nat} {v : Value} (hc : w.cell? ⟨b, o, none⟩ = some v) (hb : T b = 0) : w'.cell? ⟨b, o, none⟩ = some v :=
  (World.cell?_of_block (h.block b (World.block_lt_of_cell? w _ hc) hb)).trans hc
theorem BoxIn.next {T : Nat → Nat} {w x y : World} {b0 b1 b2 : Nat} {v : Value} {dt : ByteArray} {a : Addr} (h : BoxIn T w b0 b1 b2 v dt a x) (hk : Keeps T x y) (h0 : T b0 = 0) (h1 : T b1 = 0) (h2 : T b2 = 0) : BoxIn T w b0 b1 b2 v dt a y :=
  ⟨h.1.trans hk, hk.cell h.2.1 h0, hk.cell h.2.2.1 h1, hk.cell h.2.2.2 h2⟩

set_option maxHeartbeats 800000 in
theorem doPg_is {i j b0 b1 b2 : Nat} {v : Value} {bs : List Int} {dt : ByteArray} (h : NandAt w S V zs s) (hR : Roles S) (hi : i < S.all) (hj : j < S.pg) (t0 : S.T b0 = 0) (t1 : S.T b1 = 0) (t2 : S.T b2 = 0)
    (h0 : w.cell? ⟨b0, 0, none⟩ = some v) (h1 : w.cell? ⟨b1, 0, none⟩ = some (.string dt)) (h2 : w.cell? ⟨b2, 0, none⟩ = some (.pointer (some ⟨S.row i, j * 3, none⟩))) (hv : BtsA w v bs) (hl : bs.length ≤ 32) :
    Calls Try.prog 22 #[.pointer (some ⟨b0, 0, none⟩), .pointer (some ⟨b1, 0, none⟩), .pointer (some ⟨b2, 0, none⟩)] w (Goes S V zs (.tuple #[]) (turnPg i j ⟨1, bs, dt⟩ s) w) := by
  have hT : S.T (S.row i) ≠ 0 := by rw [hR.tr i hi]; omega
  have CL := clone_wide v bs w.drew (hv.ext (Ext.drew w)) (by omega)
  obtain ⟨ao, cp0, hvf⟩ := hv.form
  subst hvf
  have hS : BoxIn S.T w b0 b1 b2 (.slice ao bs.length cp0) dt ⟨S.row i, j * 3, none⟩ w.drew := ⟨.ext (Ext.drew w), h0, h1, h2⟩
  have HH := Lib.hid (And.intro h (And.intro hR (And.intro hT (And.intro t0 (And.intro t1 t2)))))
  clear h hR hT hv h0 h1 h2 t0 t1 t2
  go_enter Try.func22, Try.ntmps22
  go_wp2
  refine region_line [(0, true), (1, true), (3, true), (2, false), (4, false), (5, true), (6, false)] (BoxIn S.T w b0 b1 b2 (.slice ao bs.length cp0) dt ⟨S.row i, j * 3, none⟩) (by kernel_rfl) (by kernel_rfl) (fun _ _ _ d _ h => by cases d <;> exact h) hS ?_
  repeat (refine line_read (a' := ?_) rfl (by kernel_rfl) (by kernel_rfl) hS (fun x hx K hK => ?_) ?_; rotate_left; · obtain ⟨_, hx1, hx2, hx3⟩ := hx; go_wp2; exact hK)
  refine line_act (by rfl) (fun K hK => ?_)
  go_wp2_with (go_at_call 23; refine CL.mono ?_; rintro e w4 ⟨a4, c4, rfl, hb4, hg4, ho4⟩)
  have hE4 : w.grownBy w4 none := Ext.of_drew hg4
  have hS4 := hS.next (Keeps.ext hg4) HH.out.2.2.2.1 HH.out.2.2.2.2.1 HH.out.2.2.2.2.2
  refine hK _ _ _ hS4 (fun x hx => hx) ?_
  clear hK K
  have hN := HH.out.1.ext hE4 HH.out.2.1
  have hrow := hN.row i hi
  have hq : ∀ q, (Value.slice a4 bs.length c4).ownBlock = some q → S.T q = 0 := fun q hq => Classical.byContradiction fun hne => by
    have := HH.out.1.hi q hne
    have := (ho4 q hq).1
    simp at this
    omega
  have hg := gb_set (gb_set (gb_set (gb_refl w4 (some (S.row i))) (j * 3) (.int .i64 1)) (j * 3 + 1) (.slice a4 bs.length c4)) (j * 3 + 2) (.string dt)
  have hk := Keeps.own (T := S.T) hg HH.out.2.2.1
  have H := Lib.hid (And.intro (hN.turnRow HH.out.2.1 hi hg (hrow.setPg HH.out.2.2.1 hj ⟨1, bs, dt⟩ (.slice a4 bs.length c4) hb4 hq)) (And.intro ((Keeps.ext (T := S.T) hE4).trans hk) (hS4.next hk HH.out.2.2.2.1 HH.out.2.2.2.2.1 HH.out.2.2.2.2.2)))
  have f := fun o => hrow.free o
  have c0 := hrow.st j hj
  obtain ⟨u, c1, _⟩ := hrow.bs j hj
  have c2 := hrow.dt j hj
  clear hg hq hrow hN hk
  refine line_act (by rfl) (fun K hK => ?_)
  go_wp2
  refine hK _ _ _ hS4 (fun x hx => hx) ?_
  clear hK K
  repeat (refine line_read (a' := ?_) rfl (by kernel_rfl) (by kernel_rfl) hS4 (fun x hx K hK => ?_) ?_; rotate_left; · go_wp2; exact hK)
  refine line_act (by rfl) (fun K hK => ?_)
  go_wp2
  refine hK _ _ _ H.out.2.2 (fun x hx => hx) ?_
  clear hK K
  refine line_end ?_
  go_wp2
  go_end0
  exact ⟨rfl, H.out.1, H.out.2.1⟩
end

end Go.Proofs.Ytaobamnfgpllcaa
