/-
  Texts put together: NF NG NH NI NJ NK NL.
-/
import Derived.Test.YtfgifgglcafadaaGreatDoorM03
import Derived.Laws.EntriesVeiled
import Derived.RegionTactic
import Derived.BigRegion
import Derived.Deep.DeepCutAuto
import Derived.Laws.OwnMore
namespace Go.Proofs.YtfgifgglcafadaaGreatDoor
set_option linter.unusedVariables false
set_option linter.unusedSimpArgs false
set_option linter.unusedVariables false
set_option linter.unusedSimpArgs false
set_option maxRecDepth 100000
open Go.RowKit
def progE (S : NShape) (zs : Nat → List Int) (s : NS) (who n m : Int) (lb ld : Nat) : Int :=
 if lackE S n m = 0 then (if 32 < lb ∨ 160 < ld then 3 else if s.mr n.toNat then 10 else if m = (nextN (s.L n.toNat) S.pg : Nat) then operE zs s who else 9) else lackE S n m
def progS (S : NShape) (zs : Nat → List Int) (s : NS) (who n m : Int) (bs : List Int) (dt : ByteArray) : NS :=
 if lackE S n m = 0 ∧ ¬ (32 < bs.length ∨ 160 < dt.size) ∧ s.mr n.toNat = false ∧ m = (nextN (s.L n.toNat) S.pg : Nat) then operS zs s who (tornPg n.toNat m.toNat) (turnPg n.toNat m.toNat ⟨1, bs, dt⟩) else s
section
variable {w : World} {S : NShape} {V : Nat → Value} {zs : Nat → List Int} {s : NS}
theorem NandAt.fresh (h : NandAt w S V zs s) {k : Nat} (hk : w.heap.size ≤ k) : S.T k = 0 :=
 Classical.byContradiction fun hne => by have := h.hi k hne; omega
set_option maxHeartbeats 1600000 in
theorem program_any {v : Value} {bs : List Int} {dt : ByteArray} (h : NandAt w S V zs s) (hR : Roles S) {c : Int} (hc : Cnt s c) (hcn : c < 1152921504606846976) (hz : ∀ j, j < 4 → (zs j).length ≤ 64) (who n m : Int)
   (hv : BtsA w v bs) (hq : 0 < bs.length → ∀ k, v.ownBlock = some k → S.T k = 0) (hl : bs.length ≤ 9223372036854775807) (hd : dt.size ≤ 9223372036854775807) :
   Calls Tryz.prog 179 #[.pointer (some ⟨S.nb, 0, none⟩), .int .i64 who, .int .i64 n, .int .i64 m, v, .string dt] w
     (Goes S V zs (.int .i64 (progE S zs s who n m bs.length dt.size)) (progS S zs s who n m bs dt) w) := by
 obtain ⟨ao, cap, hvf⟩ := hv.form
 subst hvf
 have hE2 : w.grownBy ((w.alloc (.cells #[.slice ao bs.length cap] 73)).alloc (.cells #[.string dt] 9)) none := grown_alloc (World.grownBy_alloc w _ none) _
 have h2 := h.ext hE2 hR
 have LK := lacks_is h2.fix n m
 have K2 := Lib.hid (And.intro h2 (Keeps.ext (T := S.T) hE2))
 by_cases e0 : lackE S n m = 0
 · obtain ⟨i, j, rfl, rfl, hi, hj⟩ := lackE_zero e0
   rw [e0] at LK
   unfold progE progS
   rw [e0]
   simp only [Int.toNat_natCast, if_true, true_and]
   by_cases e1 : 32 < bs.length ∨ 160 < dt.size
   · have g1 : (32 < bs.length) ∨ (¬ 32 < bs.length ∧ 160 < dt.size) := by omega
     rw [if_pos e1, if_neg (by simp [e1])]
     clear e1 hE2 h2 h
     rcases g1 with g1 | ⟨g1, g2⟩
     · have g1' : (32 : Int) < bs.length := by omega
       clear g1
       go_enter Tryz.func179, Tryz.ntmps179
       go_wp2_with (go_at_call 212; refine LK.mono ?_; rintro e w' ⟨rfl, rfl⟩)
       go_ret
       exact ⟨rfl, K2.out⟩
     · have g1' : ¬ (32 : Int) < bs.length := by omega
       have g2' : (160 : Int) < dt.size := by omega
       clear g1 g2
       go_enter Tryz.func179, Tryz.ntmps179
       go_wp2_with (go_at_call 212; refine LK.mono ?_; rintro e w' ⟨rfl, rfl⟩)
       go_ret
       exact ⟨rfl, K2.out⟩
   · rw [if_neg e1]
     have g1 : ¬ (32 : Int) < bs.length := by omega
     have g2 : ¬ (160 : Int) < dt.size := by omega
     have cm := h2.fix.cm
     have ck := h2.mks i hi
     cases em : s.mr i
     · simp only [Bool.false_eq_true, if_false, true_and, e1, not_false_eq_true]
       rw [em] at ck
       have NX := next7_is h2.fix hi (h2.row i hi) hR
       by_cases e3 : (j : Int) = (nextN (s.L i) S.pg : Nat)
       · have e3' : j = nextN (s.L i) S.pg := by omega
         rw [if_pos e3, if_pos e3]
         rw [← e3'] at NX
         have cl := h2.fix.cl
         have cr := h2.fix.rows i hi
         have hE3 := grown_alloc hE2 (.cells #[.pointer (some ⟨S.row i, j * 3, none⟩)] 252)
         have h3 := h.ext hE3 hR
         have OP := operP_any (i := i) (j := j) (b0 := w.heap.size) (b1 := w.heap.size + 1) (b2 := w.heap.size + 1 + 1) (v := .slice ao bs.length cap) (bs := bs) (dt := dt) h3 hR hc hcn hz who hi hj (h.fresh (Nat.le_refl _)) (h.fresh (by omega)) (h.fresh (by omega))
           (by rw [World.cell?_alloc_past _ _ _ (by simp; omega), World.cell?_alloc_past _ _ _ (by simp), World.cell?_alloc_at _ _ _ _ rfl]; rfl)
           (by rw [World.cell?_alloc_past _ _ _ (by simp), World.cell?_alloc_at _ _ _ _ (by simp)]; rfl) (by rw [World.cell?_alloc_at _ _ _ _ (by simp)]; rfl)
           (fun x hx => by
             rcases hv with hv | ⟨a, cp, e, h5, h6⟩
             · exact .inl hv
             · refine .inr ⟨a, cp, e, h5, fun i hi => ?_⟩
               have hc1 := h6 i hi
               have hb := World.block_lt_of_cell? w _ hc1
               have hs := hE3.size
               have e7 : (Value.slice ao bs.length cap).ownBlock = some a.block := by rw [e]; rfl
               have e8 : (a.add i).block = a.block := by unfold Addr.add; split <;> rfl
               exact (World.cell?_of_block (hx.block _ (by omega) (by rw [e8]; exact hq (by omega) _ e7))).trans (hE3.cell hc1 (by simp))) (by omega)
         have K3 := Lib.hid (Keeps.ext (T := S.T) hE3)
         clear hE2 hE3 h2 h3 h e1 e3 e3' hc hv hq em
         go_enter Tryz.func179, Tryz.ntmps179
         go_wp2_with (first
           | (go_at_call 212; refine LK.mono ?_; rintro e w' ⟨rfl, rfl⟩)
           | (go_at_call 81; refine NX.mono ?_; rintro e w' ⟨rfl, rfl⟩)
           | (go_at_call 174; refine OP.mono ?_; rintro e w' ⟨rfl, hN, hk⟩))
         go_ret
         exact ⟨rfl, hN, K3.out.trans hk⟩
       · rw [if_neg e3, if_neg e3]
         have e3' : ((j : Int) != (nextN (s.L i) S.pg : Nat)) = true := by simpa using e3
         generalize nextN (s.L i) S.pg = nx at *
         clear hE2 h2 h e1 e3 hc hv hq em
         go_enter Tryz.func179, Tryz.ntmps179
         go_wp2_with (first
           | (go_at_call 212; refine LK.mono ?_; rintro e w' ⟨rfl, rfl⟩)
           | (go_at_call 81; refine NX.mono ?_; rintro e w' ⟨rfl, rfl⟩))
         go_ret
         exact ⟨rfl, K2.out⟩
     · rw [em] at ck
       simp only [if_true, Bool.true_eq_false, false_and, and_false, if_false]
       clear hE2 h2 h e1 hc hv hq em
       go_enter Tryz.func179, Tryz.ntmps179
       go_wp2_with (go_at_call 212; refine LK.mono ?_; rintro e w' ⟨rfl, rfl⟩)
       go_ret
       exact ⟨rfl, K2.out⟩
 · unfold progE progS
   rw [if_neg e0, if_neg (by simp [e0])]
   have e0' : (lackE S n m != 0) = true := by simpa using e0
   generalize lackE S n m = x at *
   clear hE2 h2 h e0 hc hv hq
   go_enter Tryz.func179, Tryz.ntmps179
   go_wp2_with (go_at_call 212; refine LK.mono ?_; rintro e w' ⟨rfl, rfl⟩)
   go_ret
   exact ⟨rfl, K2.out⟩
end
end Go.Proofs.YtfgifgglcafadaaGreatDoor

namespace Go.Proofs.YtfgifgglcafadaaGreatDoor
set_option linter.unusedVariables false
set_option linter.unusedSimpArgs false
set_option linter.unusedVariables false
set_option linter.unusedSimpArgs false
set_option maxRecDepth 100000
open Go.RowKit
def fillTo (i k : Nat) (x : Int) (s : NS) : NS := { s with L := fun i' => if i' = i then (fun j => if j < k then Pg.none x else s.L i j) else s.L i' }
def fillPg (i pg : Nat) (x : Int) (s : NS) : NS := fillTo i pg x s
theorem fillTo_zero (i : Nat) (x : Int) (s : NS) : fillTo i 0 x s = s := by
 unfold fillTo
 have : (fun i' => if i' = i then (fun j => if j < 0 then Pg.none x else s.L i j) else s.L i') = s.L := by
   funext i'
   by_cases e : i' = i
   · subst e; simp
   · simp [e]
 rw [this]
theorem fillTo_succ (i k : Nat) (x : Int) (s : NS) : turnPg i k (Pg.none x) (fillTo i k x s) = fillTo i (k + 1) x s := by
 unfold turnPg fillTo
 simp only [if_true]
 congr 1
 funext i'
 by_cases e : i' = i
 · simp only [e, if_true]
   funext j
   by_cases e2 : j = k
   · subst e2; simp
   · simp only [if_neg e2]
     by_cases e3 : j < k
     · rw [if_pos e3, if_pos (by omega)]
     · rw [if_neg e3, if_neg (by omega)]
 · simp only [if_neg e]
structure Sees (S : NShape) (i b3 b5 : Nat) (x : World) : Prop where
 c3 : x.cell? ⟨b3, 0, none⟩ = some (.pointer (some ⟨S.nb, 0, none⟩))
 c5 : x.cell? ⟨b5, 0, none⟩ = some (.int .i64 (i : Int))
 cl : x.cell? ⟨S.nb, 6, none⟩ = some (.slice (some ⟨S.bl, 0, none⟩) S.all S.all)
 cr : x.cell? ⟨S.bl, i, none⟩ = some (.slice (some ⟨S.row i, 0, none⟩) S.pg S.pg)
section
variable {w : World} {S : NShape} {V : Nat → Value} {zs : Nat → List Int} {s : NS}
theorem NandAt.sees (h : NandAt w S V zs s) {i b3 b5 : Nat} (hi : i < S.all) (c3 : w.cell? ⟨b3, 0, none⟩ = some (.pointer (some ⟨S.nb, 0, none⟩))) (c5 : w.cell? ⟨b5, 0, none⟩ = some (.int .i64 (i : Int))) : Sees S i b3 b5 w :=
 ⟨c3, c5, h.fix.cl, h.fix.rows i hi⟩
set_option maxHeartbeats 1600000 in
theorem fill_is {i b3 b5 : Nat} (x : Int) (h : NandAt w S V zs s) (hR : Roles S) (hi : i < S.all) (t3 : S.T b3 = 0) (t5 : S.T b5 = 0)
   (c3 : w.cell? ⟨b3, 0, none⟩ = some (.pointer (some ⟨S.nb, 0, none⟩))) (c5 : w.cell? ⟨b5, 0, none⟩ = some (.int .i64 (i : Int))) :
   Calls Tryz.prog 173 #[.int .i64 x, .pointer (some ⟨b3, 0, none⟩), .pointer (some ⟨b5, 0, none⟩)] w (Goes S V zs (.tuple #[]) (fillPg i S.pg x s) w) := by
 have HH := Lib.hid (And.intro h (And.intro hR (And.intro t3 (And.intro t5 (And.intro c3 c5)))))
 have cl := h.fix.cl
 have cr := h.fix.rows i hi
 have hb := hR.bds
 clear h hR t3 t5
 go_enter Tryz.func173, Tryz.ntmps173
 go_wp2
 go_quiet (fail)
 rename_i nq
 go_wp2
 have hN0 := HH.out.1.ext (w' := w.drewN nq) (gb_drewN w nq) HH.out.2.1
 have hk0 := Keeps.ext (T := S.T) (gb_drewN w nq)
 clear cl cr c3 c5
 go_loopw [13] (fun t wr => ∃ k : Nat, k ≤ S.pg ∧ t = .int .i64 k ∧ NandAt wr S V zs (fillTo i k x s) ∧ Keeps S.T w wr) (fun t _ => S.pg - (intOf t).toNat)
 case atStart => exact ⟨0, Nat.zero_le _, rfl, by rw [fillTo_zero]; exact hN0, hk0⟩
 case round =>
   clear hN0 hk0
   obtain ⟨k, hk, rfl, hN, hK⟩ := hrel
   have HN := Lib.hid (And.intro hN hK)
   clear hN hK
   by_cases hlt : k < S.pg
   · have hNd := HN.out.1.ext (Ext.drew wr) HH.out.2.1
     have hS : Sees S i b3 b5 wr.drew := hNd.sees hi (HN.out.2.cell HH.out.2.2.2.2.1 HH.out.2.2.1) (HN.out.2.cell HH.out.2.2.2.2.2 HH.out.2.2.2.1)
     have hT : S.T (S.row i) ≠ 0 := by rw [HH.out.2.1.tr i hi]; omega
     have hg := gb_set (gb_set (gb_set (gb_refl wr.drew (some (S.row i))) (k * 3) (.int .i64 x)) (k * 3 + 1) (.slice none 0 0)) (k * 3 + 2) (.string ⟨#[]⟩)
     have hN1 := hNd.turnRow HH.out.2.1 hi hg ((hNd.row i hi).setPg hT hlt (Pg.none x) (.slice none 0 0) (.inl ⟨rfl, rfl⟩) (fun q hq => by simp [Value.ownBlock] at hq))
     have hk1 := Keeps.own (T := S.T) hg hT
     have hN2 : NandAt (((wr.drew.setCell ⟨S.row i, k * 3, none⟩ (.int .i64 x)).setCell ⟨S.row i, k * 3 + 1, none⟩ (.slice none 0 0)).setCell ⟨S.row i, k * 3 + 2, none⟩ (.string ⟨#[]⟩)) S V zs (fillTo i (k + 1) x s) := by
       rw [← fillTo_succ]; exact hN1
     have hk2 := (HN.out.2.trans (Keeps.ext (Ext.drew wr))).trans hk1
     have HF := Lib.hid (And.intro hN2 (And.intro hk2 (hN2.sees hi (hk2.cell HH.out.2.2.2.2.1 HH.out.2.2.1) (hk2.cell HH.out.2.2.2.2.2 HH.out.2.2.2.1))))
     have f := fun o => (HN.out.1.row i hi).free o
     have c0 := (HN.out.1.row i hi).st k hlt
     obtain ⟨u, c1, _⟩ := (HN.out.1.row i hi).bs k hlt
     have c2 := (HN.out.1.row i hi).dt k hlt
     clear hNd hT hg hN1 hk1 hN2 hk2
     go_wp2
     refine region_line [(0, true), (1, true), (2, true), (3, true), (4, true), (5, true), (6, true), (7, true), (8, true), (9, false), (10, true), (11, false)] (Sees S i b3 b5) (by kernel_rfl) (by kernel_rfl) (fun _ _ _ d _ h => by cases d <;> exact h) hS ?_
     repeat (refine line_read (a' := ?_) rfl (by kernel_rfl) (by kernel_rfl) hS (fun x hx K hK => ?_) ?_; rotate_left; · obtain ⟨hx1, hx2, hx3, hx4⟩ := hx; go_wp2; exact hK)
     refine line_act (by rfl) (fun K hK => ?_)
     go_wp2
     refine hK _ _ _ hS (fun x hx => hx) ?_
     clear hK K
     repeat (refine line_read (a' := ?_) rfl (by kernel_rfl) (by kernel_rfl) hS (fun x hx K hK => ?_) ?_; rotate_left; · obtain ⟨hx1, hx2, hx3, hx4⟩ := hx; go_wp2; exact hK)
     refine line_act (by rfl) (fun K hK => ?_)
     go_wp2
     refine hK _ _ _ HF.out.2.2 (fun x hx => hx) ?_
     clear hK K
     refine line_end ?_
     go_wp2
     go_roundw
     case rel => exact ⟨k + 1, by omega, by go_num, HF.out.1, HF.out.2.1⟩
     case measure => simp [intOf]; omega
   · obtain rfl : k = S.pg := by omega
     go_wp2
     go_end0
     exact ⟨rfl, HN.out.1, HN.out.2⟩
end
end Go.Proofs.YtfgifgglcafadaaGreatDoor

namespace Go.Proofs.YtfgifgglcafadaaGreatDoor
set_option linter.unusedVariables false
set_option linter.unusedSimpArgs false
set_option linter.unusedVariables false
set_option linter.unusedSimpArgs false
set_option maxRecDepth 100000
open Go.RowKit
def countS (i : Nat) (s : NS) : NS := { s with er := fun i' => if i' = i then s.er i + 1 else s.er i' }
def eraseS (i pg : Nat) (s : NS) : NS := countS i (fillPg i pg 0 s)
structure SeesE (S : NShape) (i b3 b5 : Nat) (x : World) : Prop where
 c3 : x.cell? ⟨b3, 0, none⟩ = some (.pointer (some ⟨S.nb, 0, none⟩))
 c5 : x.cell? ⟨b5, 0, none⟩ = some (.int .i64 (i : Int))
 ce : x.cell? ⟨S.nb, 8, none⟩ = some (.slice (some ⟨S.be, 0, none⟩) S.all S.all)
structure Boxed (S : NShape) (i b3 b5 b8 : Nat) (x : World) : Prop where
 c3 : x.cell? ⟨b3, 0, none⟩ = some (.pointer (some ⟨S.nb, 0, none⟩))
 c5 : x.cell? ⟨b5, 0, none⟩ = some (.int .i64 (i : Int))
 c8 : x.cell? ⟨b8, 0, none⟩ = some (.func (.func 173) #[] #[.pointer (some ⟨b3, 0, none⟩), .pointer (some ⟨b5, 0, none⟩)])
 t3 : S.T b3 = 0
 t5 : S.T b5 = 0
 t8 : S.T b8 = 0
theorem Boxed.keep {S : NShape} {i b3 b5 b8 : Nat} {x y : World} (h : Boxed S i b3 b5 b8 x) (hk : Keeps S.T x y) : Boxed S i b3 b5 b8 y :=
 ⟨hk.cell h.c3 h.t3, hk.cell h.c5 h.t5, hk.cell h.c8 h.t8, h.t3, h.t5, h.t8⟩
section
variable {w : World} {S : NShape} {V : Nat → Value} {zs : Nat → List Int} {s : NS}
theorem spoilB_is {i b3 b5 b8 : Nat} (h : NandAt w S V zs s) (hR : Roles S) (hi : i < S.all) (hB : Boxed S i b3 b5 b8 w) :
   Calls Tryz.prog 175 #[.pointer (some ⟨b8, 0, none⟩)] w (Goes S V zs (.tuple #[]) (fillPg i S.pg 2 s) w) := by
 have F := fill_is 2 h hR hi hB.t3 hB.t5 hB.c3 hB.c5
 have c8 := hB.c8
 clear hB h hR
 go_enter Tryz.func175, Tryz.ntmps175
 go_wp2_with (go_at_call 173; refine F.mono ?_; rintro e w1 ⟨rfl, hN1, hk1⟩)
 go_end0
 exact ⟨rfl, hN1, hk1⟩
set_option maxHeartbeats 800000 in
theorem doB_is {i b3 b5 b8 : Nat} (h : NandAt w S V zs s) (hR : Roles S) {n : Int} (hc : Cnt s n) (hn : n < 2305843009213693952) (hi : i < S.all) (hB : Boxed S i b3 b5 b8 w) :
   Calls Tryz.prog 176 #[.pointer (some ⟨b8, 0, none⟩), .pointer (some ⟨b3, 0, none⟩), .pointer (some ⟨b5, 0, none⟩)] w (Goes S V zs (.tuple #[]) (eraseS i S.pg s) w) := by
 have F := fill_is 0 h hR hi hB.t3 hB.t5 hB.c3 hB.c5
 have c8 := hB.c8
 have HB := Lib.hid (And.intro hB (And.intro h (And.intro hR (hc.er i))))
 clear hB h hR hc
 go_enter Tryz.func176, Tryz.ntmps176
 go_wp2_with (go_at_call 173; refine F.mono ?_; rintro e w1 ⟨rfl, hN1, hk1⟩)
 have hB1 := HB.out.1.keep hk1
 have hS : SeesE S i b3 b5 w1.drew := ⟨hB1.c3, hB1.c5, hN1.fix.ce⟩
 have cr := hN1.ers i hi
 have fr := hN1.erf i
 have hg := gb_set (gb_refl w1.drew (some S.be)) i (.int .i64 (s.er i + 1))
 have hTe : S.T S.be ≠ 0 := by rw [HB.out.2.2.1.te]; decide
 have hk2 := Keeps.own (T := S.T) hg hTe
 have hN2 : NandAt (w1.drew.setCell ⟨S.be, i, none⟩ (.int .i64 (s.er i + 1))) S V zs (eraseS i S.pg s) := (hN1.ext (Ext.drew w1) HB.out.2.2.1).count HB.out.2.2.1 hi (s.er i + 1)
 have hB2 := hB1.keep ((Keeps.ext (T := S.T) (Ext.drew w1)).trans hk2)
 have HF := Lib.hid (And.intro hN2 (And.intro ((hk1.trans (Keeps.ext (Ext.drew w1))).trans hk2) (⟨hB2.c3, hB2.c5, hN2.fix.ce⟩ : SeesE S i b3 b5 _)))
 have er0 := HB.out.2.2.2.1
 have er1 := HB.out.2.2.2.2
 have cr2 : w1.cell? ⟨S.be, i, none⟩ = some (.int .i64 (s.er i)) := cr
 clear hB1 hN1 hk1 hg hTe hk2 hN2 hB2 c8 cr
 generalize s.er i = q at *
 refine region_line [(0, true), (1, true), (2, true), (3, true), (4, true), (5, true), (6, false), (7, true), (8, true), (9, false)] (SeesE S i b3 b5) (by kernel_rfl) (by kernel_rfl) (fun _ _ _ d _ h => by cases d <;> exact h) hS ?_
 repeat (refine line_read (a' := ?_) rfl (by kernel_rfl) (by kernel_rfl) hS (fun x hx K hK => ?_) ?_; rotate_left; · obtain ⟨hx1, hx2, hx3⟩ := hx; go_wp2; exact hK)
 refine line_act (by rfl) (fun K hK => ?_)
 go_wp2
 refine hK _ _ _ hS (fun x hx => hx) ?_
 clear hK K
 repeat (refine line_read (a' := ?_) rfl (by kernel_rfl) (by kernel_rfl) hS (fun x hx K hK => ?_) ?_; rotate_left; · obtain ⟨hx1, hx2, hx3⟩ := hx; go_wp2; exact hK)
 refine line_act (by rfl) (fun K hK => ?_)
 go_wp2
 refine hK _ _ _ HF.out.2.2 (fun x hx => hx) ?_
 clear hK K
 refine line_end ?_
 go_wp2
 go_end0
 exact ⟨rfl, HF.out.1, HF.out.2.1⟩
set_option maxHeartbeats 1600000 in
theorem operB_any {i b3 b5 b8 : Nat} (h : NandAt w S V zs s) (hR : Roles S) {n : Int} (hc : Cnt s n) (hn : n < 1152921504606846976) (hz : ∀ j, j < 4 → (zs j).length ≤ 64) (who : Int) (hi : i < S.all) (hB : Boxed S i b3 b5 b8 w) :
   Calls Tryz.prog 174 #[.pointer (some ⟨S.nb, 0, none⟩), .int .i64 who, .func (.func 175) #[] #[.pointer (some ⟨b8, 0, none⟩)], .func (.func 176) #[] #[.pointer (some ⟨b8, 0, none⟩), .pointer (some ⟨b3, 0, none⟩), .pointer (some ⟨b5, 0, none⟩)]] w
     (Goes S V zs (.int .i64 (operE zs s who)) (operS zs s who (fillPg i S.pg 2) (eraseS i S.pg)) w) := by
 have SP := spend7_any h hR hc (by omega)
 have cp := h.fix.cp
 have hcs := hc.spend
 have DR := fun (x : World) (hx : NandAt x S V zs (spendS s)) => draw7_any hx hR hcs (by omega) hz who
 have SPL := fun (x : World) (s' : NS) (hx : NandAt x S V zs s') (kx : Keeps S.T w x) => spoilB_is hx hR hi (hB.keep kx)
 have DOP := fun (x : World) (hx : NandAt x S V zs (drawS zs (spendS s) who)) (kx : Keeps S.T w x) => doB_is hx hR (hcs.draw zs who) (by omega) hi (hB.keep kx)
 have hSS : ∀ x s', NandAt x S V zs s' → x.cell? ⟨S.nb, 5, none⟩ = some (.pointer (some ⟨S.db, 0, none⟩)) := fun x s' hx => hx.fix.cd
 have H5 := Lib.hid hSS
 clear h hc hcs hSS hB
 unfold operE operS
 rw [drawB_spend] at DR
 rcases spE_cases s.px s.off with hs | hs | hs
 · rw [hs] at SP ⊢
   rw [if_neg (by decide), if_pos rfl]
   clear DR SPL DOP hs
   go_enter Tryz.func174, Tryz.ntmps174
   go_wp2_with (go_at_call 206; refine SP.mono ?_; rintro e w1 ⟨rfl, hN1, hk1⟩)
   go_ret
   exact ⟨rfl, hN1, hk1⟩
 · rw [hs] at SP ⊢
   rw [if_neg (by decide), if_neg (by decide), if_pos rfl]
   clear DR DOP hs
   go_enter Tryz.func174, Tryz.ntmps174
   go_wp2_with (first
     | (go_at_call 206; refine SP.mono ?_; rintro e w1 ⟨rfl, hN1, hk1⟩)
     | (go_at_call 175; refine (SPL _ _ hN1 hk1).mono ?_; rintro e w2 ⟨rfl, hN2, hk2⟩))
   go_ret
   exact ⟨rfl, hN2, hk1.trans hk2⟩
 · rw [hs] at SP ⊢
   rw [if_pos (show (0 : Int) = 0 from rfl), if_neg (show ¬ (0 : Int) = 12 by decide), if_neg (show ¬ (0 : Int) = 11 by decide)]
   cases hd : drawB zs s who
   · rw [hd] at DR
     simp only [Bool.false_eq_true, if_false]
     clear SPL hs hd
     go_enter Tryz.func174, Tryz.ntmps174
     go_wp2_with (first
       | (go_at_call 206; refine SP.mono ?_; rintro e w1 ⟨rfl, hN1, hk1⟩; have cd1 := H5.out _ _ hN1)
       | (go_at_call 207; refine (DR _ hN1).mono ?_; rintro e w2 ⟨rfl, hN2, hk2⟩)
       | (go_at_call 176; refine (DOP _ hN2 (hk1.trans hk2)).mono ?_; rintro e w3 ⟨rfl, hN3, hk3⟩))
     go_ret
     exact ⟨rfl, hN3, (hk1.trans hk2).trans hk3⟩
   · rw [hd] at DR
     simp only [if_true]
     clear DOP hs hd
     go_enter Tryz.func174, Tryz.ntmps174
     go_wp2_with (first
       | (go_at_call 206; refine SP.mono ?_; rintro e w1 ⟨rfl, hN1, hk1⟩; have cd1 := H5.out _ _ hN1)
       | (go_at_call 207; refine (DR _ hN1).mono ?_; rintro e w2 ⟨rfl, hN2, hk2⟩)
       | (go_at_call 175; refine (SPL _ _ hN2 (hk1.trans hk2)).mono ?_; rintro e w3 ⟨rfl, hN3, hk3⟩))
     go_ret
     exact ⟨rfl, hN3, (hk1.trans hk2).trans hk3⟩
end
end Go.Proofs.YtfgifgglcafadaaGreatDoor

namespace Go.Proofs.YtfgifgglcafadaaGreatDoor
set_option linter.unusedVariables false
set_option linter.unusedSimpArgs false
set_option linter.unusedVariables false
set_option linter.unusedSimpArgs false
set_option maxRecDepth 100000
open Go.RowKit
section
variable {w : World} {S : NShape} {V : Nat → Value} {zs : Nat → List Int} {s : NS}
theorem World.cell?_drewN (x : World) (n : Nat) (a : Addr) : (x.drewN n).cell? a = x.cell? a := rfl
def ersE (S : NShape) (zs : Nat → List Int) (s : NS) (who n : Int) : Int := if hasB S n then (if s.mr n.toNat then 10 else operE zs s who) else 5
def ersS (S : NShape) (zs : Nat → List Int) (s : NS) (who n : Int) : NS := if hasB S n && !s.mr n.toNat then operS zs s who (fillPg n.toNat S.pg 2) (eraseS n.toNat S.pg) else s
set_option maxHeartbeats 1600000 in
theorem erase_any (h : NandAt w S V zs s) (hR : Roles S) {c : Int} (hc : Cnt s c) (hcn : c < 1152921504606846976) (hz : ∀ j, j < 4 → (zs j).length ≤ 64) (who n : Int) :
   Calls Tryz.prog 144 #[.pointer (some ⟨S.nb, 0, none⟩), .int .i64 who, .int .i64 n] w (Goes S V zs (.int .i64 (ersE S zs s who n)) (ersS S zs s who n) w) := by
 have hE2 : w.grownBy ((w.alloc (.cells #[.pointer (some ⟨S.nb, 0, none⟩)] 58)).alloc (.cells #[.int .i64 n] 3)) none := grown_alloc (World.grownBy_alloc w _ none) _
 have h2 := h.ext hE2 hR
 have MS := missing_is h2.fix n
 have K2 := Lib.hid (And.intro h2 (Keeps.ext (T := S.T) hE2))
 unfold ersE ersS
 unfold missE at MS
 cases hh : hasB S n
 · rw [hh] at MS
   simp only [Bool.false_eq_true, if_false, Bool.false_and] at MS ⊢
   clear hE2 h2 h hc hh
   go_enter Tryz.func144, Tryz.ntmps144
   go_wp2_with (go_at_call 172; refine MS.mono ?_; rintro e w' ⟨rfl, rfl⟩)
   go_ret
   exact ⟨rfl, K2.out⟩
 · have hn : 0 ≤ n ∧ n < S.all := by simpa [hasB] using hh
   obtain ⟨i, rfl⟩ : ∃ i : Nat, n = i := ⟨n.toNat, by omega⟩
   have hi : i < S.all := by omega
   rw [hh] at MS
   simp only [if_true, Bool.true_and, Int.toNat_natCast] at MS ⊢
   have cm := h2.fix.cm
   have ck := h2.mks i hi
   rcases Bool.eq_false_or_eq_true (s.mr i) with em | em
   rotate_left
   · rw [em] at ck
     simp only [em, Bool.false_eq_true, if_false, Bool.not_false, if_true]
     have hE3 := fun nq => grown_alloc (grown_trans hE2 (gb_drewN _ nq) (fun _ hk _ => by cases hk)) (.cells #[.func (.func 173) #[] #[.pointer (some ⟨w.heap.size, 0, none⟩), .pointer (some ⟨w.heap.size + 1, 0, none⟩)]] 223)
     have KO := Lib.hid (fun nq => Keeps.ext (T := S.T) (hE3 nq))
     have OB := fun nq => operB_any (i := i) (b3 := w.heap.size) (b5 := w.heap.size + 1) (b8 := w.heap.size + 1 + 1) (h.ext (hE3 nq) hR) hR hc hcn hz who hi
       ⟨by rw [World.cell?_alloc_past _ _ _ (by simp; omega), World.cell?_drewN, World.cell?_alloc_past _ _ _ (by simp), World.cell?_alloc_at _ _ _ _ rfl]; rfl,
         by rw [World.cell?_alloc_past _ _ _ (by simp), World.cell?_drewN, World.cell?_alloc_at _ _ _ _ (by simp)]; rfl, by rw [World.cell?_alloc_at _ _ _ _ (by simp)]; rfl,
         h.fresh (Nat.le_refl _), h.fresh (by omega), h.fresh (by omega)⟩
     clear hE2 hE3 h2 h hc em hh
     go_enter Tryz.func144, Tryz.ntmps144
     go_wp2_with (go_at_call 172; refine MS.mono ?_; rintro e w' ⟨rfl, rfl⟩)
     go_quiet (fail)
     rename_i nq
     go_wp2_with (go_at_call 174; refine (OB nq).mono ?_; rintro e w' ⟨rfl, hN, hk⟩)
     go_ret
     exact ⟨rfl, hN, (KO.out nq).trans hk⟩
   · rw [em] at ck
     simp only [em, if_true, Bool.not_true, Bool.false_eq_true, if_false]
     clear hE2 h2 h hc hh em
     go_enter Tryz.func144, Tryz.ntmps144
     go_wp2_with (go_at_call 172; refine MS.mono ?_; rintro e w' ⟨rfl, rfl⟩)
     go_quiet (fail)
     rename_i nq
     go_wp2
     go_ret
     exact ⟨rfl, K2.out.1.ext (gb_drewN _ nq) hR, K2.out.2.trans (Keeps.ext (gb_drewN _ nq))⟩
end
end Go.Proofs.YtfgifgglcafadaaGreatDoor

namespace Go.Proofs.YtfgifgglcafadaaGreatDoor
set_option linter.unusedVariables false
set_option linter.unusedSimpArgs false
set_option linter.unusedVariables false
set_option linter.unusedSimpArgs false
set_option maxRecDepth 100000
open Go.RowKit
theorem gb_trans7 {a b c : World} (h : a.grownBy b none) (h2 : b.grownBy c none) : a.grownBy c none := grown_trans h h2 (fun _ hk _ => by cases hk)
theorem Tryz.infoRows : (Tryz.prog.info? 134).map (fun i => (i.zero, i.size, i.bytes)) = some (some (.slice none 0 0), 1, 24) := by kernel_rfl
theorem Tryz.infoBool : (Tryz.prog.info? 4).map (fun i => (i.zero, i.size, i.bytes)) = some (some (.bool false), 1, 1) := by kernel_rfl
theorem Tryz.infoLeaf : (Tryz.prog.info? 173).map (fun i => (i.zero, i.size, i.bytes)) = some (some (.agg #[.int .i64 0, .slice none 0 0, .string ⟨#[]⟩]), 3, 48) := by kernel_rfl
theorem make_run {t e : TypeId} {z : Value} {size bytes : Nat} (ht : Tryz.prog.underlying t = some (.slice e)) (h : (Tryz.prog.info? e).map (fun i => (i.zero, i.size, i.bytes)) = some (some z, size, bytes)) (n : Nat) (hb : bytes * n ≤ 281474976710656) (hn : n ≤ 1000000) (w : World) :
   (Instr.makeSlice t (.int .i64 n) (.int .i64 n)).run Tryz.prog w = .ok (.slice (some ⟨w.heap.size, 0, none⟩) n n) (w.alloc (.cells (madeCells z.cells (n * size)) e)) := by
 obtain ⟨i, hi, h1, h2, h3⟩ := info_parts h
 subst h2
 have hb' : (i.bytes : Int) * (n : Int) ≤ 281474976710656 := by
   have h : ((i.bytes * n : Nat) : Int) ≤ 281474976710656 := by subst h3; omega
   rwa [Int.natCast_mul] at h
 have := run_make (P := Tryz.prog) w t e i z ht hi h1 .i64 .i64 n n (by omega) (Int.le_refl _) hb' (by omega)
 simpa only [Int.toNat_natCast] using this
theorem made_one (z : Value) (n i : Nat) (hi : i < n) : (madeCells #[z] n)[i]? = some z := by
 simp [madeCells, hi, Nat.mod_one]
theorem made_three (x y z : Value) (n j r : Nat) (hj : j < n) (hr : r < 3) : (madeCells #[x, y, z] (n * 3))[j * 3 + r]? = some (#[x, y, z][r]!) := by
 have h : j * 3 + r < n * 3 := by omega
 have h2 : (j * 3 + r) % 3 = r := by omega
 simp [madeCells, h, h2]
structure LaidFix (w x : World) (c d b p : Int) (pb db al nb bl bm be : Nat) : Prop where
 ext : w.grownBy x none
 lo : w.heap.size ≤ nb ∧ w.heap.size ≤ bl ∧ w.heap.size ≤ bm ∧ w.heap.size ≤ be
 hi : nb < x.heap.size ∧ bl < x.heap.size ∧ bm < x.heap.size ∧ be < x.heap.size
 ne : nb ≠ bl ∧ nb ≠ bm ∧ nb ≠ be ∧ bl ≠ bm ∧ bl ≠ be ∧ bm ≠ be
 g0 : x.cell? ⟨nb, 0, none⟩ = some (.int .i64 c)
 g1 : x.cell? ⟨nb, 1, none⟩ = some (.int .i64 d)
 g2 : x.cell? ⟨nb, 2, none⟩ = some (.int .i64 b)
 g3 : x.cell? ⟨nb, 3, none⟩ = some (.int .i64 p)
 cp : x.cell? ⟨nb, 4, none⟩ = some (.pointer (some ⟨pb, 0, none⟩))
 cd : x.cell? ⟨nb, 5, none⟩ = some (.pointer (some ⟨db, 0, none⟩))
 cl : x.cell? ⟨nb, 6, none⟩ = some (.slice (some ⟨bl, 0, none⟩) al al)
 cm : x.cell? ⟨nb, 7, none⟩ = some (.slice (some ⟨bm, 0, none⟩) al al)
 ce : x.cell? ⟨nb, 8, none⟩ = some (.slice (some ⟨be, 0, none⟩) al al)
 ms : ∀ i, i < al → x.cell? ⟨bm, i, none⟩ = some (.bool false)
 es : ∀ i, i < al → x.cell? ⟨be, i, none⟩ = some (.int .i64 0)
 fl : ∀ o, x.frozen? ⟨bl, o, none⟩ = false
 fm : ∀ o, x.frozen? ⟨bm, o, none⟩ = false
 fe : ∀ o, x.frozen? ⟨be, o, none⟩ = false
 bx : x.cell? ⟨w.heap.size, 3, none⟩ = some (.int .i64 p)
 bn : w.heap.size ≠ bl
structure Laid (w x : World) (c d b p : Int) (pb db al nb bl bm be : Nat) : Prop where
 fix : LaidFix w x c d b p pb db al nb bl bm be
 ls : ∀ i, i < al → x.cell? ⟨bl, i, none⟩ = some (.slice none 0 0)
theorem LaidFix.next {w x y : World} {c d b p : Int} {pb db al nb bl bm be : Nat} (h : LaidFix w x c d b p pb db al nb bl bm be) (hg : x.grownBy y (some bl)) (hf : ∀ o, y.frozen? ⟨bl, o, none⟩ = false) : LaidFix w y c d b p pb db al nb bl bm be := by
 obtain ⟨n1, n2, n3, n4, n5, n6⟩ := h.ne
 obtain ⟨i1, i2, i3, i4⟩ := h.hi
 have hs := hg.size
 have e0 := World.block_lt_of_cell? x _ h.bx
 have en : ∀ o, y.cell? ⟨nb, o, none⟩ = x.cell? ⟨nb, o, none⟩ := fun o => World.cell?_of_block (hg.block nb i1 (by simp; omega))
 have em : ∀ o, y.cell? ⟨bm, o, none⟩ = x.cell? ⟨bm, o, none⟩ := fun o => World.cell?_of_block (hg.block bm i3 (by simp; omega))
 have ee : ∀ o, y.cell? ⟨be, o, none⟩ = x.cell? ⟨be, o, none⟩ := fun o => World.cell?_of_block (hg.block be i4 (by simp; omega))
 have eb : ∀ o, y.cell? ⟨w.heap.size, o, none⟩ = x.cell? ⟨w.heap.size, o, none⟩ := fun o => World.cell?_of_block (hg.block _ e0 (by have := h.bn; simp; omega))
 exact ⟨grown_trans h.ext hg (fun k hk hl => by cases hk; have := h.lo; omega), h.lo, by omega, h.ne, (en _).trans h.g0, (en _).trans h.g1, (en _).trans h.g2, (en _).trans h.g3, (en _).trans h.cp, (en _).trans h.cd, (en _).trans h.cl, (en _).trans h.cm, (en _).trans h.ce,
   fun i hi => (em _).trans (h.ms i hi), fun i hi => (ee _).trans (h.es i hi), hf, fun o => (World.frozen?_of_block (hg.block bm i3 (by simp; omega))).trans (h.fm o), fun o => (World.frozen?_of_block (hg.block be i4 (by simp; omega))).trans (h.fe o), (eb _).trans h.bx, h.bn⟩
theorem cell_heap {x : World} {k o : Nat} {A : Array Value} {t : TypeId} (h : x.heap[k]? = some (.cells A t (0, 0))) : x.cell? ⟨k, o, none⟩ = A[o]? := by simp [World.cell?, h]
theorem frozen_heap {x : World} {k o : Nat} {A : Array Value} {t : TypeId} (h : x.heap[k]? = some (.cells A t (0, 0))) : x.frozen? ⟨k, o, none⟩ = false := by simp [World.frozen?, h]
theorem lt_heap {x : World} {k : Nat} {A : Obj} (h : x.heap[k]? = some A) : k < x.heap.size := (Array.getElem?_eq_some_iff.1 h).1
theorem laid_of {w w4 x : World} {c d b p : Int} {pb db al nb bl bm be : Nat} {A1 A2 A3 : Array Value} {t0 t1 t2 t3 : TypeId} (hE : w.grownBy w4 none) (hx : w4.grownBy x none) (bx : w4.cell? ⟨w.heap.size, 3, none⟩ = some (.int .i64 p))
   (q1 : ∀ i, i < al → A1[i]? = some (.slice none 0 0)) (q2 : ∀ i, i < al → A2[i]? = some (.bool false)) (q3 : ∀ i, i < al → A3[i]? = some (.int .i64 0))
   (h0 : x.heap[nb]? = some (.cells #[.int .i64 c, .int .i64 d, .int .i64 b, .int .i64 p, .pointer (some ⟨pb, 0, none⟩), .pointer (some ⟨db, 0, none⟩), .slice (some ⟨bl, 0, none⟩) al al, .slice (some ⟨bm, 0, none⟩) al al, .slice (some ⟨be, 0, none⟩) al al] t0 (0, 0)))
   (h1 : x.heap[bl]? = some (.cells A1 t1 (0, 0))) (h2 : x.heap[bm]? = some (.cells A2 t2 (0, 0))) (h3 : x.heap[be]? = some (.cells A3 t3 (0, 0)))
   (lo : w4.heap.size ≤ nb ∧ w4.heap.size ≤ bl ∧ w4.heap.size ≤ bm ∧ w4.heap.size ≤ be) (ne : nb ≠ bl ∧ nb ≠ bm ∧ nb ≠ be ∧ bl ≠ bm ∧ bl ≠ be ∧ bm ≠ be) : Laid w x c d b p pb db al nb bl bm be := by
 have hs := hE.size
 have hb := World.block_lt_of_cell? w4 _ bx
 simp only at hb
 refine ⟨⟨gb_trans7 hE hx, by omega, ⟨lt_heap h0, lt_heap h1, lt_heap h2, lt_heap h3⟩, ne, by rw [cell_heap h0]; rfl, by rw [cell_heap h0]; rfl, by rw [cell_heap h0]; rfl, by rw [cell_heap h0]; rfl, by rw [cell_heap h0]; rfl, by rw [cell_heap h0]; rfl, by rw [cell_heap h0]; rfl, by rw [cell_heap h0]; rfl, by rw [cell_heap h0]; rfl,
   fun i hi => (cell_heap h2).trans (q2 i hi), fun i hi => (cell_heap h3).trans (q3 i hi), fun o => frozen_heap h1, fun o => frozen_heap h2, fun o => frozen_heap h3, hx.cell bx (by simp), by omega⟩, fun i hi => (cell_heap h1).trans (q1 i hi)⟩
theorem alloc4_0 (w : World) (o1 o2 o3 o4 : Obj) : ((((w.alloc o1).alloc o2).alloc o3).alloc o4).drew.heap[w.heap.size]? = some o1 := by
 show ((((w.heap.push o1).push o2).push o3).push o4)[_]? = _
 simp only [Array.getElem?_push, Array.size_push]
 repeat (first | rfl | (rw [if_neg (by omega)]) | (rw [if_pos (by omega)]))
theorem alloc4_1 (w : World) (o1 o2 o3 o4 : Obj) : ((((w.alloc o1).alloc o2).alloc o3).alloc o4).drew.heap[w.heap.size + 1]? = some o2 := by
 show ((((w.heap.push o1).push o2).push o3).push o4)[_]? = _
 simp only [Array.getElem?_push, Array.size_push]
 repeat (first | rfl | (rw [if_neg (by omega)]) | (rw [if_pos (by omega)]))
theorem alloc4_2 (w : World) (o1 o2 o3 o4 : Obj) : ((((w.alloc o1).alloc o2).alloc o3).alloc o4).drew.heap[w.heap.size + 1 + 1]? = some o3 := by
 show ((((w.heap.push o1).push o2).push o3).push o4)[_]? = _
 simp only [Array.getElem?_push, Array.size_push]
 repeat (first | rfl | (rw [if_neg (by omega)]) | (rw [if_pos (by omega)]))
theorem alloc4_3 (w : World) (o1 o2 o3 o4 : Obj) : ((((w.alloc o1).alloc o2).alloc o3).alloc o4).drew.heap[w.heap.size + 1 + 1 + 1]? = some o4 := by
 show ((((w.heap.push o1).push o2).push o3).push o4)[_]? = _
 simp only [Array.getElem?_push, Array.size_push]
 repeat (first | rfl | (rw [if_neg (by omega)]) | (rw [if_pos (by omega)]))
theorem alloc4_gb (w : World) (o1 o2 o3 o4 : Obj) : w.grownBy ((((w.alloc o1).alloc o2).alloc o3).alloc o4).drew none := grown_drew (grown_alloc (grown_alloc (grown_alloc (World.grownBy_alloc w _ none) _) _) _)
end Go.Proofs.YtfgifgglcafadaaGreatDoor

namespace Go.Proofs.YtfgifgglcafadaaGreatDoor
set_option linter.unusedVariables false
set_option linter.unusedSimpArgs false
set_option linter.unusedVariables false
set_option linter.unusedSimpArgs false
set_option maxRecDepth 100000
open Go.RowKit
theorem gb_weak {w w' : World} (h : w.grownBy w' none) (r : Option Nat) : w.grownBy w' r := ⟨h.os, h.tape, h.output, h.size, fun k hk _ => h.block k hk (by simp)⟩
structure Laying (w x : World) (c d b : Int) (pg pb db al nb bl bm be R0 k : Nat) (T : Nat → Nat) : Prop where
 fix : LaidFix w x c d b pg pb db al nb bl bm be
 size : x.heap.size = R0 + k
 low : nb < R0 ∧ bl < R0 ∧ bm < R0 ∧ be < R0
 done : ∀ i, i < k → x.cell? ⟨bl, i, none⟩ = some (.slice (some ⟨R0 + i, 0, none⟩) pg pg) ∧ RowAt x T (R0 + i) pg (fun _ => Pg.none 0)
 ls : ∀ i, k ≤ i → i < al → x.cell? ⟨bl, i, none⟩ = some (.slice none 0 0)
theorem rowAt_new {x : World} {T : Nat → Nat} {pg : Nat} {A : Array Value} {t : TypeId} (hA : ∀ j r, j < pg → r < 3 → A[j * 3 + r]? = some (#[.int .i64 0, .slice none 0 0, .string ⟨#[]⟩][r]!)) : RowAt (x.alloc (.cells A t)) T x.heap.size pg (fun _ => Pg.none 0) :=
 ⟨fun j hj => by rw [World.cell?_alloc_at _ _ _ _ rfl]; exact hA j 0 hj (by omega), fun j hj => ⟨.slice none 0 0, by rw [World.cell?_alloc_at _ _ _ _ rfl]; exact hA j 1 hj (by omega), .inl ⟨rfl, rfl⟩, fun q hq => by simp [Value.ownBlock] at hq⟩,
   fun j hj => by rw [World.cell?_alloc_at _ _ _ _ rfl]; exact hA j 2 hj (by omega), fun o => World.frozen?_alloc_at _ _ _ _ rfl⟩
theorem rowAt_none {x y : World} {T : Nat → Nat} {k pg : Nat} (h : RowAt x T k pg (fun _ => Pg.none 0)) (e : y.heap[k]? = x.heap[k]?) : RowAt y T k pg (fun _ => Pg.none 0) :=
 ⟨fun j hj => (World.cell?_of_block e).trans (h.st j hj), fun j hj => by
   obtain ⟨v, h1, h2, h3⟩ := h.bs j hj
   refine ⟨v, (World.cell?_of_block e).trans h1, ?_, h3⟩
   rcases h2 with h2 | ⟨b, off, cap, rfl, h5, h6⟩
   · exact .inl h2
   · exact .inr ⟨b, off, cap, rfl, h5, fun i hi => by simp [Pg.none] at hi⟩, fun j hj => (World.cell?_of_block e).trans (h.dt j hj), fun o => (World.frozen?_of_block e).trans (h.free o)⟩
theorem Laying.next {w x : World} {c d b : Int} {pg pb db al nb bl bm be R0 k : Nat} {T : Nat → Nat} {A : Array Value} {t : TypeId} (h : Laying w x c d b pg pb db al nb bl bm be R0 k T) (hk : k < al) (hA : ∀ j r, j < pg → r < 3 → A[j * 3 + r]? = some (#[.int .i64 0, .slice none 0 0, .string ⟨#[]⟩][r]!)) :
   Laying w ((x.drew.alloc (.cells A t)).setCell ⟨bl, k, none⟩ (.slice (some ⟨x.heap.size, 0, none⟩) pg pg)) c d b pg pb db al nb bl bm be R0 (k + 1) T := by
 have hlo := h.low
 have hsz := h.size
 have hbl := h.fix.hi.2.1
 have e1 : x.grownBy (x.drew.alloc (.cells A t)) none := gb_trans7 (Ext.drew x) (World.grownBy_alloc _ _ none)
 have g2 := gb_set (gb_refl (x.drew.alloc (.cells A t)) (some bl)) k (.slice (some ⟨x.heap.size, 0, none⟩) pg pg)
 have g := gb_trans (gb_weak e1 (some bl)) g2
 have hs1 : (x.drew.alloc (.cells A t)).heap.size = x.heap.size + 1 := by simp
 have hx1 := rowAt_new (x := x.drew) (T := T) (t := t) hA
 have c1 : ∀ i, (x.drew.alloc (.cells A t)).cell? ⟨bl, i, none⟩ = x.cell? ⟨bl, i, none⟩ := fun i => World.cell?_of_block (e1.block bl hbl (by simp))
 refine ⟨h.fix.next g (fun o => ?_), ?_, hlo, fun i hi => ?_, fun i hi hi2 => ?_⟩
 · rw [World.frozen?_setCell]; exact (World.frozen?_of_block (e1.block bl hbl (by simp))).trans (h.fix.fl o)
 · have : ((x.drew.alloc (.cells A t)).setCell ⟨bl, k, none⟩ (.slice (some ⟨x.heap.size, 0, none⟩) pg pg)).heap.size = (x.drew.alloc (.cells A t)).heap.size := by simp [World.setCell]
   omega
 · by_cases e : i = k
   · subst e
     refine ⟨?_, ?_⟩
     · rw [← hsz]; exact World.cell?_setCell_same _ _ _ ((c1 i).trans (h.ls i (Nat.le_refl _) hk))
     · rw [← hsz]; exact rowAt_none hx1 (g2.block x.heap.size (by omega) (by simp; omega))
   · obtain ⟨h1, h2⟩ := h.done i (by omega)
     exact ⟨(World.cell?_setCell_other _ _ _ _ (ne_off (by omega))).trans ((c1 i).trans h1), rowAt_none h2 (g.block (R0 + i) (by omega) (by simp; omega))⟩
 · exact (World.cell?_setCell_other _ _ _ _ (ne_off (by omega))).trans ((c1 i).trans (h.ls i (by omega) hi2))
def mkT (nb bl bm be pb db R0 al : Nat) : Nat → Nat := fun k =>
 if k = nb then 1 else if k = bl then 2 else if k = bm then 3 else if k = be then 4 else if k = pb then 5 else if k = db then 6 else if R0 ≤ k ∧ k < R0 + al then 8 + (k - R0) else 0
def mkS (c d b : Int) (pg pb db al nb bl bm be R0 : Nat) : NShape := ⟨nb, bl, bm, be, pb, db, fun i => R0 + i, mkT nb bl bm be pb db R0 al, c, d, b, pg, al, pg⟩
def mrk (ms : List Int) (i : Nat) : Bool := ms.any fun m => m == (i : Int)
def blankS (ms : List Int) (px : Int) (off : Bool) (po : Int) (N M : Nat → Int) : NS := ⟨fun _ _ => Pg.none 0, mrk ms, fun _ => 0, px, off, po, N, M⟩
theorem mkS_roles {c d b : Int} {pg pb db al nb bl bm be R0 B : Nat} (ne : nb ≠ bl ∧ nb ≠ bm ∧ nb ≠ be ∧ bl ≠ bm ∧ bl ≠ be ∧ bm ≠ be) (lo : B ≤ nb ∧ B ≤ bl ∧ B ≤ bm ∧ B ≤ be) (hi : nb < R0 ∧ bl < R0 ∧ bm < R0 ∧ be < R0) (h1 : pb < B) (h2 : db < B) (h3 : pb ≠ db)
   (hg : geoE c d b pg = 0) (ha : (al : Int) = c * d * b) : Roles (mkS c d b pg pb db al nb bl bm be R0) := by
 refine ⟨?_, ?_, ?_, ?_, ?_, ?_, fun i (hi2 : i < al) => ?_, hg, ha, rfl⟩
 · show mkT nb bl bm be pb db R0 al nb = 1
   unfold mkT; rw [if_pos rfl]
 · show mkT nb bl bm be pb db R0 al bl = 2
   unfold mkT; rw [if_neg (by omega), if_pos rfl]
 · show mkT nb bl bm be pb db R0 al bm = 3
   unfold mkT; rw [if_neg (by omega), if_neg (by omega), if_pos rfl]
 · show mkT nb bl bm be pb db R0 al be = 4
   unfold mkT; rw [if_neg (by omega), if_neg (by omega), if_neg (by omega), if_pos rfl]
 · show mkT nb bl bm be pb db R0 al pb = 5
   unfold mkT; rw [if_neg (by omega), if_neg (by omega), if_neg (by omega), if_neg (by omega), if_pos rfl]
 · show mkT nb bl bm be pb db R0 al db = 6
   unfold mkT; rw [if_neg (by omega), if_neg (by omega), if_neg (by omega), if_neg (by omega), if_neg (by omega), if_pos rfl]
 · show mkT nb bl bm be pb db R0 al (R0 + i) = 8 + i
   unfold mkT; rw [if_neg (by omega), if_neg (by omega), if_neg (by omega), if_neg (by omega), if_neg (by omega), if_neg (by omega), if_pos (by omega)]
   omega
theorem Laying.nand {w x : World} {c d b : Int} {pg pb db al nb bl bm be R0 : Nat} {V : Nat → Value} {zs : Nat → List Int} {px : Int} {off : Bool} {po : Int} {N M : Nat → Int} (h : Laying w x c d b pg pb db al nb bl bm be R0 al (mkT nb bl bm be pb db R0 al)) (hp : PowAt w pb px off po) (hd : DrAt w db V zs N M)
   (hV : ∀ j, j < 4 → ∀ k, (V j).ownBlock = some k → k < w.heap.size ∧ k ≠ pb) : NandAt x (mkS c d b pg pb db al nb bl bm be R0) V zs (blankS [] px off po N M) := by
 have hlo := h.low
 have hsz := h.size
 have hfl := h.fix.lo
 have hpb := hp.lt
 have hdb := hd.lt
 have hE := h.fix.ext
 refine ⟨⟨h.fix.g0, h.fix.g1, h.fix.g2, h.fix.g3, h.fix.cp, h.fix.cd, h.fix.cl, h.fix.cm, h.fix.ce, fun i hi => (h.done i hi).1⟩, fun i hi => (h.done i hi).2, h.fix.ms, h.fix.fm, h.fix.es, h.fix.fe, hp.other hE hpb (by simp), hd.other hE (by simp) (fun _ _ _ _ => by simp), fun j hj k hk => ?_, fun k hk => ?_⟩
 · obtain ⟨k1, k2⟩ := hV j hj k hk
   have k3 := hd.apart j hj k hk
   show mkT nb bl bm be pb db R0 al k = 0
   unfold mkT
   rw [if_neg (by omega), if_neg (by omega), if_neg (by omega), if_neg (by omega), if_neg (by omega), if_neg (by omega), if_neg (by omega)]
 · have hs := hE.size
   refine Classical.byContradiction fun hne => hk ?_
   show mkT nb bl bm be pb db R0 al k = 0
   unfold mkT
   rw [if_neg (by omega), if_neg (by omega), if_neg (by omega), if_neg (by omega), if_neg (by omega), if_neg (by omega), if_neg (by omega)]
theorem mrk_take {ms : List Int} {k : Nat} {m : Int} (hk : k < ms.length) (hm : ms.getD k 0 = m) (h0 : 0 ≤ m) : (fun i => if i = m.toNat then true else mrk (ms.take k) i) = mrk (ms.take (k + 1)) := by
 have hg : ms[k] = m := by
   rw [List.getD_eq_getElem?_getD, List.getElem?_eq_getElem hk] at hm
   exact hm
 funext i
 unfold mrk
 rw [List.take_succ_eq_append_getElem hk, List.any_append, hg]
 by_cases e : i = m.toNat
 · rw [if_pos e]; have : (m == (i : Int)) = true := by simp; omega
   simp [this]
 · rw [if_neg e]; have : (m == (i : Int)) = false := by simp; omega
   simp [this]
end Go.Proofs.YtfgifgglcafadaaGreatDoor

namespace Go.Proofs.YtfgifgglcafadaaGreatDoor
set_option linter.unusedVariables false
set_option linter.unusedSimpArgs false
set_option linter.unusedVariables false
set_option linter.unusedSimpArgs false
set_option maxRecDepth 100000
open Go.RowKit
def okM (al : Nat) (ms : List Int) : Bool := ms.all fun m => decide (2 ≤ m ∧ m < al)
theorem okM_at {al : Nat} {ms : List Int} (h : okM al ms = true) {k : Nat} (hk : k < ms.length) : 2 ≤ ms.getD k 0 ∧ ms.getD k 0 < al := by
 unfold okM at h
 rw [List.all_eq_true] at h
 have := h _ (List.getElem_mem hk)
 rw [List.getD_eq_getElem?_getD, List.getElem?_eq_getElem hk]
 simpa using this
theorem okM_of {al : Nat} {ms : List Int} (h : ∀ k, k < ms.length → 2 ≤ ms.getD k 0 ∧ ms.getD k 0 < al) : okM al ms = true := by
 unfold okM
 rw [List.all_eq_true]
 intro m hm
 obtain ⟨k, hk, rfl⟩ := List.mem_iff_getElem.1 hm
 have := h k hk
 rw [List.getD_eq_getElem?_getD, List.getElem?_eq_getElem hk] at this
 simpa using this
def Fresh (c d b : Int) (pg pb db al : Nat) (ms : List Int) (V : Nat → Value) (zs : Nat → List Int) (px : Int) (off : Bool) (po : Int) (N M : Nat → Int) (w : World) (e : Ending) (w' : World) : Prop :=
 ∃ S : NShape, Roles S ∧ (S.pb = pb ∧ S.db = db ∧ S.c = c ∧ S.d = d ∧ S.b = b ∧ S.p = pg ∧ S.all = al ∧ S.pg = pg) ∧ e = .returned (.tuple #[.pointer (some ⟨S.nb, 0, none⟩), .int .i64 0]) ∧ NandAt w' S V zs (blankS ms px off po N M) ∧ w.grownBy w' none ∧
   ∀ k, S.T k ≠ 0 → k = pb ∨ k = db ∨ w.heap.size ≤ k
def NewP7 (c d b : Int) (pg pb db al : Nat) (ms : List Int) (V : Nat → Value) (zs : Nat → List Int) (px : Int) (off : Bool) (po : Int) (N M : Nat → Int) (w : World) (e : Ending) (w' : World) : Prop :=
 if okM al ms then Fresh c d b pg pb db al ms V zs px off po N M w e w' else e = .returned (.tuple #[.pointer none, .int .i64 5]) ∧ w.grownBy w' none
theorem newP7_ok {c d b : Int} {pg pb db al : Nat} {ms : List Int} {V : Nat → Value} {zs : Nat → List Int} {px : Int} {off : Bool} {po : Int} {N M : Nat → Int} {w w' : World} {e : Ending} (h : okM al ms = true) (hF : Fresh c d b pg pb db al ms V zs px off po N M w e w') : NewP7 c d b pg pb db al ms V zs px off po N M w e w' := by
 unfold NewP7; rw [if_pos h]; exact hF
theorem newP7_bad {c d b : Int} {pg pb db al : Nat} {ms : List Int} {V : Nat → Value} {zs : Nat → List Int} {px : Int} {off : Bool} {po : Int} {N M : Nat → Int} {w w' : World} {e : Ending} (h : okM al ms = false) (hF : e = .returned (.tuple #[.pointer none, .int .i64 5]) ∧ w.grownBy w' none) : NewP7 c d b pg pb db al ms V zs px off po N M w e w' := by
 unfold NewP7; rw [if_neg (by simp [h])]; exact hF
theorem mkT_low {nb bl bm be pb db R0 al B k : Nat} (lo : B ≤ nb ∧ B ≤ bl ∧ B ≤ bm ∧ B ≤ be) (hR : B ≤ R0) (h : mkT nb bl bm be pb db R0 al k ≠ 0) : k = pb ∨ k = db ∨ B ≤ k := by
 refine Classical.byContradiction fun hne => h ?_
 unfold mkT
 rw [if_neg (by omega), if_neg (by omega), if_neg (by omega), if_neg (by omega), if_neg (by omega), if_neg (by omega), if_neg (by omega)]
theorem set_alloc_drew {x : World} {bl k : Nat} (o : Obj) (v : Value) (h : bl < x.heap.size) : (x.drew.alloc o).setCell ⟨bl, k, none⟩ v = ((x.setCell ⟨bl, k, none⟩ v).alloc o).drew := by
 show ((x.alloc o).setCell ⟨bl, k, none⟩ v).drew = _
 rw [World.setCell_alloc_past _ _ _ _ h]
def SeesN (w : World) (nb bl al pg : Nat) (x : World) : Prop := x.cell? ⟨nb, 6, none⟩ = some (.slice (some ⟨bl, 0, none⟩) al al) ∧ x.cell? ⟨w.heap.size, 3, none⟩ = some (.int .i64 (pg : Int))
set_option maxHeartbeats 1600000 in
theorem new7_any (pb db pg al : Nat) (c d b : Int) (v : Value) (ms : List Int) {V : Nat → Value} {zs : Nat → List Int} {px : Int} {off : Bool} {po : Int} {N M : Nat → Int} (w : World) (hg : geoE c d b pg = 0) (hal : c * d * b = al) (hm : Ints w v ms) (hml : ms.length ≤ 9223372036854775807)
   (hp : PowAt w pb px off po) (hd : DrAt w db V zs N M) (hV : ∀ j, j < 4 → ∀ k, (V j).ownBlock = some k → k < w.heap.size ∧ k ≠ pb) (hne : pb ≠ db) :
   Calls Tryz.prog 45 #[four c d b pg, .pointer (some ⟨pb, 0, none⟩), .pointer (some ⟨db, 0, none⟩), v] w (NewP7 c d b pg pb db al ms V zs px off po N M w) := by
 have HP := Lib.hid (And.intro hp (And.intro hd (And.intro hV (And.intro hne (And.intro hg hal)))))
 clear hp hd hV hne
 obtain ⟨m1, m2, m3, m4, m5, m6⟩ := geo_ok hg
 have C := check_any c d b pg
 have B := blocks_any c d b pg
 have hB : blocksN c d b pg = c * d * b := by unfold blocksN; rw [if_pos hg]
 rw [hg] at C
 rw [hB] at B
 rw [hal] at B m5 m6
 obtain ⟨ao, cp, bb, oo, hv, hvc⟩ := hm.form
 subst hv
 have HM := Lib.hid hvc
 clear hB hg hal hm hvc
 have mk1 := make_run Tryz.underlying108 Tryz.infoRows al (by omega) (by omega)
 have mk2 := make_run Tryz.underlying109 Tryz.infoBool al (by omega) (by omega)
 have mk3 := make_run Tryz.underlying24 Tryz.infoInt al (by omega) (by omega)
 have q1 := made_one (.slice none 0 0) al
 have q2 := made_one (.bool false) al
 have q3 := made_one (.int .i64 0) al
 simp only [Nat.mul_one, show (Value.slice none 0 0).cells = #[.slice none 0 0] from rfl, show (Value.bool false).cells = #[.bool false] from rfl, show (Value.int .i64 0).cells = #[.int .i64 0] from rfl] at mk1 mk2 mk3
 have mk4 := make_run Tryz.underlying134 Tryz.infoLeaf pg (by omega) (by omega)
 have q4 := made_three (.int .i64 0) (.slice none 0 0) (.string ⟨#[]⟩) pg
 simp only [show (Value.agg #[.int .i64 0, .slice none 0 0, .string ⟨#[]⟩]).cells = #[.int .i64 0, .slice none 0 0, .string ⟨#[]⟩] from rfl] at mk4
 generalize madeCells #[.int .i64 0, .slice none 0 0, .string ⟨#[]⟩] (pg * 3) = A4 at *
 have Q4 := Lib.hid q4
 have MK4 := Lib.hid mk4
 clear q4 mk4
 generalize madeCells #[.slice none 0 0] al = A1 at *
 generalize madeCells #[.bool false] al = A2 at *
 generalize madeCells #[.int .i64 0] al = A3 at *
 have Q := Lib.hid (And.intro q1 (And.intro q2 q3))
 clear q1 q2 q3
 unfold four fourObj at *
 go_enter Tryz.func45, Tryz.ntmps45
 go_upto_region 7 with (first
   | (go_at_call 88; refine (C _).mono ?_; rintro e w' ⟨rfl, rfl⟩)
   | (go_at_call 89; refine (B _).mono ?_; rintro e w' ⟨rfl, rfl⟩))
 go_cut [12] (fun s12 wx => ∃ nb bl bm be, s12 = .pointer (some ⟨nb, 0, none⟩) ∧ Laid w wx c d b pg pb db al nb bl bm be)
 case first =>
   have hE4 : w.grownBy ((((w.alloc (.cells #[.int .i64 c, .int .i64 d, .int .i64 b, .int .i64 pg] 23)).alloc (.cells #[.int .i64 c, .int .i64 d, .int .i64 b, .int .i64 pg] 23)).alloc (.cells #[.int .i64 c, .int .i64 d, .int .i64 b, .int .i64 pg] 23)).alloc (.cells #[.int .i64 c, .int .i64 d, .int .i64 b, .int .i64 pg] 23)) none := grown_alloc (grown_alloc (grown_alloc (World.grownBy_alloc w _ none) _) _) _
   have bx : ∀ o, (w.alloc (.cells #[.int .i64 c, .int .i64 d, .int .i64 b, .int .i64 pg] 23)).cell? ⟨w.heap.size, o, none⟩ = (#[.int .i64 c, .int .i64 d, .int .i64 b, .int .i64 pg] : Array Value)[o]? := fun o => World.cell?_alloc_at _ _ _ _ rfl
   have bx4 : ∀ o v, (#[.int .i64 c, .int .i64 d, .int .i64 b, .int .i64 pg] : Array Value)[o]? = some v → ((((w.alloc (.cells #[.int .i64 c, .int .i64 d, .int .i64 b, .int .i64 pg] 23)).alloc (.cells #[.int .i64 c, .int .i64 d, .int .i64 b, .int .i64 pg] 23)).alloc (.cells #[.int .i64 c, .int .i64 d, .int .i64 b, .int .i64 pg] 23)).alloc (.cells #[.int .i64 c, .int .i64 d, .int .i64 b, .int .i64 pg] 23)).cell? ⟨w.heap.size, o, none⟩ = some v := fun o v hv => by
     rw [World.cell?_alloc_past _ _ _ (by simp; omega), World.cell?_alloc_past _ _ _ (by simp; omega), World.cell?_alloc_past _ _ _ (by simp), bx]; exact hv
   have x0 := bx4 0 _ rfl
   have x1 := bx4 1 _ rfl
   have x2 := bx4 2 _ rfl
   have x3 := bx4 3 _ rfl
   clear bx bx4
   obtain ⟨w4, hw4⟩ : ∃ x, (((w.alloc (.cells #[.int .i64 c, .int .i64 d, .int .i64 b, .int .i64 pg] 23)).alloc (.cells #[.int .i64 c, .int .i64 d, .int .i64 b, .int .i64 pg] 23)).alloc (.cells #[.int .i64 c, .int .i64 d, .int .i64 b, .int .i64 pg] 23)).alloc (.cells #[.int .i64 c, .int .i64 d, .int .i64 b, .int .i64 pg] 23) = x := ⟨_, rfl⟩
   rw [hw4] at hE4 x0 x1 x2 x3 ⊢
   have hlt : w.heap.size < w4.heap.size := World.block_lt_of_cell? w4 _ x0
   have hlt2 : w.heap.size < w4.heap.size + 1 := by omega
   have hlt3 : w.heap.size < w4.heap.size + 1 + 1 := by omega
   clear hw4
   go_region
   all_goals (go_wp2_with fail; go_meet)
   all_goals first
     | exact ⟨w4.heap.size + 1 + 1 + 1, w4.heap.size, w4.heap.size + 1, w4.heap.size + 1 + 1, rfl, laid_of hE4 (alloc4_gb _ _ _ _ _) x3 Q.out.1 Q.out.2.1 Q.out.2.2 (alloc4_3 _ _ _ _ _) (alloc4_0 _ _ _ _ _) (alloc4_1 _ _ _ _ _) (alloc4_2 _ _ _ _ _) (by omega) (by omega)⟩
     | exact ⟨w4.heap.size + 1 + 1 + 1, w4.heap.size, w4.heap.size + 1 + 1, w4.heap.size + 1, rfl, laid_of hE4 (alloc4_gb _ _ _ _ _) x3 Q.out.1 Q.out.2.1 Q.out.2.2 (alloc4_3 _ _ _ _ _) (alloc4_0 _ _ _ _ _) (alloc4_2 _ _ _ _ _) (alloc4_1 _ _ _ _ _) (by omega) (by omega)⟩
     | exact ⟨w4.heap.size + 1 + 1 + 1, w4.heap.size + 1, w4.heap.size, w4.heap.size + 1 + 1, rfl, laid_of hE4 (alloc4_gb _ _ _ _ _) x3 Q.out.1 Q.out.2.1 Q.out.2.2 (alloc4_3 _ _ _ _ _) (alloc4_1 _ _ _ _ _) (alloc4_0 _ _ _ _ _) (alloc4_2 _ _ _ _ _) (by omega) (by omega)⟩
     | exact ⟨w4.heap.size + 1 + 1 + 1, w4.heap.size + 1, w4.heap.size + 1 + 1, w4.heap.size, rfl, laid_of hE4 (alloc4_gb _ _ _ _ _) x3 Q.out.1 Q.out.2.1 Q.out.2.2 (alloc4_3 _ _ _ _ _) (alloc4_1 _ _ _ _ _) (alloc4_2 _ _ _ _ _) (alloc4_0 _ _ _ _ _) (by omega) (by omega)⟩
     | exact ⟨w4.heap.size + 1 + 1 + 1, w4.heap.size + 1 + 1, w4.heap.size, w4.heap.size + 1, rfl, laid_of hE4 (alloc4_gb _ _ _ _ _) x3 Q.out.1 Q.out.2.1 Q.out.2.2 (alloc4_3 _ _ _ _ _) (alloc4_2 _ _ _ _ _) (alloc4_0 _ _ _ _ _) (alloc4_1 _ _ _ _ _) (by omega) (by omega)⟩
     | exact ⟨w4.heap.size + 1 + 1 + 1, w4.heap.size + 1 + 1, w4.heap.size + 1, w4.heap.size, rfl, laid_of hE4 (alloc4_gb _ _ _ _ _) x3 Q.out.1 Q.out.2.1 Q.out.2.2 (alloc4_3 _ _ _ _ _) (alloc4_2 _ _ _ _ _) (alloc4_1 _ _ _ _ _) (alloc4_0 _ _ _ _ _) (by omega) (by omega)⟩
 case rest =>
   clear C B mk1 mk2 mk3 Q
   obtain ⟨nb, bl, bm, be, rfl, hL⟩ := hcut
   have cl := hL.fix.cl
   have hsz0 := hL.fix.ext.size
   go_wp2
   have hlay0 : Laying w wc c d b pg pb db al nb bl bm be wc.heap.size 0 (mkT nb bl bm be pb db wc.heap.size al) := ⟨hL.fix, rfl, hL.fix.hi, fun i hi => by omega, fun i _ hi => hL.ls i hi⟩
   clear cl hL
   generalize wc.heap.size = R0 at *
   go_loopw [45] (fun t wr => ∃ k : Nat, k ≤ al ∧ t = .int .i64 k ∧ Laying w wr c d b pg pb db al nb bl bm be R0 k (mkT nb bl bm be pb db R0 al)) (fun t _ => al - (intOf t).toNat)
   case atStart => exact ⟨0, Nat.zero_le _, rfl, hlay0⟩
   case round =>
     clear hlay0
     obtain ⟨k, hk, rfl, hY⟩ := hrel
     have HY := Lib.hid hY
     by_cases hlt : k < al
     · have hS : SeesN w nb bl al pg wr.drew := ⟨hY.fix.cl, hY.fix.bx⟩
       have hN := hY.next (t := 173) hlt Q4.out
       have hS2 : SeesN w nb bl al pg ((wr.drew.alloc (.cells A4 173)).setCell ⟨bl, k, none⟩ (.slice (some ⟨wr.heap.size, 0, none⟩) pg pg)) := ⟨hN.fix.cl, hN.fix.bx⟩
       have hS3 : SeesN w nb bl al pg (wr.drew.alloc (.cells A4 173)) := ⟨(gb_trans7 (Ext.drew wr) (World.grownBy_alloc _ _ none)).cell hY.fix.cl (by simp), (gb_trans7 (Ext.drew wr) (World.grownBy_alloc _ _ none)).cell hY.fix.bx (by simp)⟩
       have e0 : (wr.drew.alloc (.cells A4 173)).setCell ⟨bl, k, none⟩ (.slice (some ⟨wr.heap.size, 0, none⟩) pg pg) = ((wr.setCell ⟨bl, k, none⟩ (.slice (some ⟨wr.heap.size, 0, none⟩) pg pg)).alloc (.cells A4 173)).drew := by
         exact set_alloc_drew _ _ hY.fix.hi.2.1
       rw [e0] at hN hS2
       have HN := Lib.hid hN
       have c0 := hY.ls k (Nat.le_refl _) hlt
       have f0 := hY.fix.fl k
       have b0 := hY.fix.hi.2.1
       have mk := MK4.out
       clear hY hN e0
       go_wp2
       refine region_line [(0, true), (1, true), (2, true), (3, true), (4, true), (5, true), (6, true), (7, false), (8, true), (9, false)] (SeesN w nb bl al pg) (by kernel_rfl) (by kernel_rfl) (fun _ _ _ d _ h => by cases d <;> exact h) hS ?_
       repeat (refine line_read (a' := ?_) rfl (by kernel_rfl) (by kernel_rfl) hS (fun x hx K hK => ?_) ?_; rotate_left; · obtain ⟨hx1, hx2⟩ := hx; go_wp2; exact hK)
       refine line_act (by rfl) (fun K hK => ?_)
       go_wp2
       refine hK _ _ _ hS3 (fun x hx => hx) ?_
       clear hK K
       repeat (refine line_read (a' := ?_) rfl (by kernel_rfl) (by kernel_rfl) hS3 (fun x hx K hK => ?_) ?_; rotate_left; · obtain ⟨hx1, hx2⟩ := hx; go_wp2; exact hK)
       refine line_act (by rfl) (fun K hK => ?_)
       go_wp2
       refine hK _ _ _ hS2 (fun x hx => hx) ?_
       clear hK K
       refine line_end ?_
       go_wp2
       go_roundw
       case rel => exact ⟨k + 1, by omega, by go_num, HN.out⟩
       case measure => simp [intOf]; omega
     · obtain rfl : al = k := by omega
       have hN := hY.nand HP.out.1 HP.out.2.1 HP.out.2.2.1
       have hRo := mkS_roles hY.fix.ne hY.fix.lo hY.low HP.out.1.lt HP.out.2.1.lt HP.out.2.2.2.1 HP.out.2.2.2.2.1 HP.out.2.2.2.2.2.symm
       have hT := fun k (h : mkT nb bl bm be pb db R0 al k ≠ 0) => mkT_low hY.fix.lo (by have := hY.fix.lo; have := hY.low; omega) h
       have hEx := hY.fix.ext
       have hbm := hY.fix.lo.2.2.1
       have HR := Lib.hid (And.intro hRo hT)
       clear hY HY hRo hT
       go_wp2
       go_loopw [60] (fun t wr => ∃ k : Nat, k ≤ ms.length ∧ t = .int .i64 k ∧ NandAt wr (mkS c d b pg pb db al nb bl bm be R0) V zs (blankS (ms.take k) px off po N M) ∧ w.grownBy wr none ∧ (∀ j, j < k → 2 ≤ ms.getD j 0 ∧ ms.getD j 0 < al)) (fun t _ => ms.length - (intOf t).toNat)
       case atStart => exact ⟨0, Nat.zero_le _, rfl, by simpa using hN, hEx, fun j hj => by omega⟩
       case round =>
         clear hN hEx
         obtain ⟨k, hk, rfl, hN, hE, hO⟩ := hrel
         have HO := Lib.hid hO
         clear hO
         by_cases hlt2 : k < ms.length
         · obtain ⟨hao, hcell⟩ := HM.out k hlt2
           subst hao
           have hcell2 := hE.cell hcell (by simp)
           obtain ⟨q, hq⟩ : ∃ q, ms.getD k 0 = q := ⟨_, rfl⟩
           rw [hq] at hcell2
           have HQ := Lib.hid hq
           have HS := has_is hN.fix q
           have HN := Lib.hid (And.intro hN hE)
           have hhe : hasB (mkS c d b pg pb db al nb bl bm be R0) q = decide (0 ≤ q ∧ q < al) := rfl
           have hnn : (mkS c d b pg pb db al nb bl bm be R0).nb = nb := rfl
           rw [hhe, hnn] at HS
           have cm : wr.cell? ⟨nb, 7, none⟩ = some (.slice (some ⟨bm, 0, none⟩) al al) := hN.fix.cm
           have ck : ∀ i, i < al → wr.cell? ⟨bm, i, none⟩ = some (.bool (mrk (ms.take k) i)) := hN.mks
           have cf : ∀ o, wr.frozen? ⟨bm, o, none⟩ = false := hN.mkf
           by_cases hq1 : 0 ≤ q ∧ q < al
           · rw [decide_eq_true hq1] at HS
             obtain ⟨n, rfl⟩ : ∃ n : Nat, q = n := ⟨q.toNat, by omega⟩
             have hnl : n < al := by omega
             by_cases hq2 : (n : Int) < 2
             · have hbad : okM al ms = false := by
                 cases h : okM al ms
                 · rfl
                 · have := okM_at h hlt2; rw [HQ.out] at this; omega
               have HB := Lib.hid hbad
               have HX := Lib.hid hE
               clear hN hE hq hq1 hhe hnn cm ck cf hcell hbad
               go_wp2_with (go_at_call 72; refine HS.mono ?_; rintro e w' ⟨rfl, rfl⟩)
               refine bodyPost_ret (v := .tuple #[.pointer none, .int .i64 5]) (by simp [results, Tryz.results45, go_sem]) rfl (newP7_bad HB.out ⟨rfl, HX.out⟩)
             · have ck1 := ck n hnl
               have cf1 := cf n
               have hM := hN.mark HR.out.1 (i := n) hnl true
               have hX : w.grownBy (wr.setCell ⟨bm, n, none⟩ (.bool true)) none := grown_trans hE (gb_set (gb_refl wr (some bm)) n _) (fun z hz hl => by cases hz; omega)
               have hM2 : NandAt (wr.setCell ⟨bm, n, none⟩ (.bool true)) (mkS c d b pg pb db al nb bl bm be R0) V zs (blankS (ms.take (k + 1)) px off po N M) := by
                 have e := mrk_take hlt2 HQ.out (Int.natCast_nonneg n)
                 simp only [Int.toNat_natCast] at e
                 unfold blankS
                 rw [← e]
                 exact hM
               have HX := Lib.hid (And.intro hM2 hX)
               clear hN hE hq hq1 hhe hnn ck cf hcell hM hX hM2
               go_wp2_with (go_at_call 72; refine HS.mono ?_; rintro e w' ⟨rfl, rfl⟩)
               go_roundw
               case rel =>
                 refine ⟨k + 1, by omega, by go_num, HX.out.1, HX.out.2, fun j hj => ?_⟩
                 by_cases e : j = k
                 · subst e; rw [HQ.out]; omega
                 · exact HO.out j (by omega)
               case measure => simp [intOf]; omega
           · rw [decide_eq_false hq1] at HS
             have hbad : okM al ms = false := by
               cases h : okM al ms
               · rfl
               · have := okM_at h hlt2; rw [HQ.out] at this; omega
             have HB := Lib.hid hbad
             have HX := Lib.hid hE
             clear hN hE hq hq1 hhe hnn cm ck cf hcell hbad
             go_wp2_with (go_at_call 72; refine HS.mono ?_; rintro e w' ⟨rfl, rfl⟩)
             refine bodyPost_ret (v := .tuple #[.pointer none, .int .i64 5]) (by simp [results, Tryz.results45, go_sem]) rfl (newP7_bad HB.out ⟨rfl, HX.out⟩)
         · obtain rfl : ms.length = k := by omega
           have hok := okM_of HO.out
           have HK := Lib.hid hok
           have HX := Lib.hid (And.intro hN hE)
           clear hN hE hok
           go_wp2
           refine bodyPost_ret (v := .tuple #[.pointer (some ⟨nb, 0, none⟩), .int .i64 0]) (by simp [results, Tryz.results45, go_sem]) rfl (newP7_ok HK.out ⟨_, HR.out.1, ⟨rfl, rfl, rfl, rfl, rfl, rfl, rfl, rfl⟩, rfl, ?_, HX.out.2, HR.out.2⟩)
           have := HX.out.1
           rwa [List.take_length] at this
end Go.Proofs.YtfgifgglcafadaaGreatDoor
