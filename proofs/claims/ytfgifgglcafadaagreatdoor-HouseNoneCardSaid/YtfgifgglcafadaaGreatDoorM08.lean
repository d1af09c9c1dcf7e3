/-
  Texts put together: JB JC CC YC JF JD JG JH YD JI JJ JE JK JL JN LA LB LC.
-/
import Derived.Test.YtfgifgglcafadaaGreatDoorM07
import Derived.Test.YtfgifgglcafadaaGreatDoorM06
import Derived.Deep.LoopGhost
import Derived.Test.YtfgifgglcafadaaGreatDoorM01
import Derived.Lib.SliceRun
import Derived.Deep.DeepCutAuto
import Derived.Deep.Cut
namespace Go.Proofs.YtfgifgglcafadaaGreatDoor
set_option linter.unusedVariables false
set_option linter.unusedSimpArgs false
set_option linter.unusedVariables false
set_option linter.unusedSimpArgs false
set_option maxRecDepth 100000
open Go.RowKit
section
variable {ops : Array Oper} {rest : List Oper} {o : Oper} {a : Act} {w : World} {Q : Exit → Act → World → Prop}
theorem append_int18 (hgd : o.guard = none) (s x : Operand) (ho : o.op = .call { callee := .builtin .append, args := #[s, x], argTypes := #[24, 24] }) (base : Nat) (v : Value) (xs : List Int) (n : Nat) (hn : xs.length = n) (hs : a.eval s = v) (hown : w.ownsRow base 3 1 v n (xs.map (Value.int .i64)))
   (ad : Addr) (cap : Nat) (y : Int) (hx : a.eval x = .slice (some ad) 1 cap) (hc : w.cell? ad = some (.int .i64 y)) (h63 : n ≤ 1000000) (hbase : base ≤ w.heap.size)
   (h : ∀ v' w', w'.ownsRow base 3 1 v' (n + 1) ((xs ++ [y]).map (Value.int .i64)) → w.grownBy w' v.ownBlock → wpList Tryz.prog ops Q rest (a.put o.dst v') w') : wpList Tryz.prog ops Q (o :: rest) a w := by
 obtain ⟨i0, hi, hz0, hz1, hz2⟩ := info_parts Tryz.infoInt
 refine wpList_append_own w hgd s x 24 ho base 3 i0 (.int .i64 0) 1 8 Tryz.underlying24 hi hz0 hz1 hz2 rfl (by decide) v n _ hs hown ad 1 cap [.int .i64 y] hx rfl (fun j u hj => ?_) (by simp [Value.oneCell']) (by unfold maxLen; omega) (by omega) hbase ?_
 · match j, hj with
   | 0, hj => simp at hj; subst hj; simpa [Addr.add] using hc
   | j + 1, hj => simp at hj
 · intro v' w' h1 h2 _
   exact h v' w' (by rw [List.map_append]; exact h1) h2
end
def RowI (w : World) (L : List Int) (e : Ending) (w' : World) : Prop := (∃ v, e = .returned v ∧ w'.ownsRow w.heap.size 3 1 v L.length (L.map (Value.int .i64))) ∧ w.grownBy w' none
theorem owns_some18 {w : World} {B : Nat} {e : TypeId} {sz : Nat} {v : Value} {n : Nat} {xs : List Value} (h : w.ownsRow B e sz v n xs) (hn : 0 < n) : ∃ g cap, v = .slice (some ⟨g, 0, none⟩) n cap := by
 rcases h.2 with ⟨_, h0⟩ | ⟨g, cap, cur, hv, _⟩
 · omega
 · exact ⟨g, cap, hv⟩
def badK (c : SC) (m : SM) (k : Nat) : Nat := ((List.range k).filter (badB c m)).length
theorem badK_succ (c : SC) (m : SM) (k : Nat) : badK c m (k + 1) = if badB c m k then badK c m k + 1 else badK c m k := by
 unfold badK
 rw [List.range_succ, List.filter_append, List.length_append]
 by_cases h : badB c m k <;> simp [h]
theorem badK_le (c : SC) (m : SM) (k : Nat) : badK c m k ≤ k := by
 unfold badK
 have h := List.length_filter_le (badB c m) (List.range k)
 rw [List.length_range] at h
 exact h
def freeK (c : SC) (m : SM) (k : Nat) : List Int := List.map (fun b : Nat => (b : Int)) ((List.range k).filter (freeB c m))
theorem freeK_succ (c : SC) (m : SM) (k : Nat) : freeK c m (k + 1) = if freeB c m k then freeK c m k ++ [(k : Int)] else freeK c m k := by
 unfold freeK
 rw [List.range_succ, List.filter_append, List.map_append]
 by_cases h : freeB c m k <;> simp [h]
theorem freeK_len (c : SC) (m : SM) (k : Nat) : (freeK c m k).length ≤ k := by
 unfold freeK
 rw [List.length_map]
 have h := List.length_filter_le (freeB c m) (List.range k)
 rw [List.length_range] at h
 exact h
section
variable {w w' : World} {p : SP} {c : SC} {m : SM}
set_option maxHeartbeats 800000 in
theorem bad18 (h : StAt w p c m) (ok : StOk p c) : Calls Tryz.prog 49 #[.pointer (some ⟨p.sb, 0, none⟩)] w fun e w' => e = .returned (.int .i64 (badN c m : Nat)) ∧ w.grownBy w' none := by
 have IB := Lib.hid (fun (wx : World) (hE : w.grownBy wx none) (b : Nat) (hb : b < c.bl.length) => isBad18 (h.ext ok hE) ok hb)
 obtain ⟨_, _, _, _, _, c6, _⟩ := h.cells
 obtain ⟨ao, cap, g, off, hv, _⟩ := h.iv.form
 rw [hv] at c6
 have hbl := ok.bl
 show Calls _ _ _ _ fun e w' => e = .returned (.int .i64 (badK c m c.bl.length : Nat)) ∧ w.grownBy w' none
 generalize c.bl.length = n at *
 have BL := badK_le c m
 clear h hv ok
 go_enter Tryz.func49, Tryz.ntmps49
 go_wp2
 clear c6
 go_loopw [3, 13] (fun s i wr => ∃ k : Nat, k ≤ n ∧ i = .int .i64 k ∧ s = .int .i64 (badK c m k : Nat) ∧ w.grownBy wr none) (fun _ i _ => n - (intOf i).toNat)
 case atStart => exact ⟨0, by omega, rfl, rfl, Ext.refl w⟩
 case round =>
   obtain ⟨k, hk, rfl, rfl, hE⟩ := hrel
   have HE := Lib.hid hE
   have hbk := BL k
   by_cases hlt : k < n
   · have B := IB.out _ hE k hlt
     have hs := badK_succ c m k
     generalize badB c m k = y at B hs
     generalize badK c m k = q at *
     have HS := Lib.hid hs
     clear hE hs
     cases y
     all_goals
       go_wp2_with (go_at_call 91; refine B.mono ?_; rintro e w3 ⟨rfl, hg3⟩; have HG3 := Lib.hid (ext_trans HE.out hg3); clear hg3)
       go_roundw
       case rel => exact ⟨k + 1, by omega, by go_num, by rw [HS.out]; first | rfl | (simp; done) | go_num, HG3.out⟩
       case measure => simp [intOf]; omega
   · obtain rfl : k = n := by omega
     clear hE
     go_wp2
     go_ret
     exact ⟨rfl, HE.out⟩
set_option maxHeartbeats 1600000 in
theorem free18 (h : StAt w p c m) (ok : StOk p c) : Calls Tryz.prog 53 #[.pointer (some ⟨p.sb, 0, none⟩)] w (RowI w (freeL c m)) := by
 have IB := Lib.hid (fun (wx : World) (hE : w.grownBy wx none) (b : Nat) (hb : b < c.bl.length) => isBad18 (h.ext ok hE) ok hb)
 have IK := Lib.hid (fun (wx : World) (hE : w.grownBy wx none) (b : Nat) (hb : b < c.bl.length) => isBlank18 (h.ext ok hE) ok hb)
 have CT := Lib.hid (fun (wx : World) (hE : w.grownBy wx none) => (h.ext ok hE).cells.2.2.2.2.2.2.2.2.2.1)
 obtain ⟨_, _, _, _, _, c6, _⟩ := h.cells
 obtain ⟨ao, cap, g, off, hv, _⟩ := h.iv.form
 rw [hv] at c6
 have hbl := ok.bl
 show Calls _ _ _ _ (RowI w (freeK c m c.bl.length))
 generalize c.bl.length = n at *
 have BL := freeK_len c m
 clear h hv ok
 go_enter Tryz.func53, Tryz.ntmps53
 go_wp2
 clear c6
 go_loopw [3, 13] (fun s i wr => ∃ k : Nat, k ≤ n ∧ i = .int .i64 k ∧ wr.ownsRow w.heap.size 3 1 s (freeK c m k).length ((freeK c m k).map (Value.int .i64)) ∧ w.grownBy wr none) (fun _ i _ => n - (intOf i).toNat)
 case atStart => exact ⟨0, by omega, rfl, ⟨by simp [freeK], .inl ⟨rfl, rfl⟩⟩, Ext.refl w⟩
 case round =>
   obtain ⟨k, hk, rfl, hown, hE⟩ := hrel
   rename_i v13 v3
   obtain ⟨ro, rc, hv3⟩ := owns_slice17 hown
   subst hv3
   have hlen := BL k
   obtain ⟨L, hL⟩ : ∃ L, freeK c m k = L := ⟨_, rfl⟩
   rw [hL] at hown hlen ⊢
   obtain ⟨ln, hln⟩ : ∃ z, L.length = z := ⟨_, rfl⟩
   rw [hln] at hown hlen ⊢
   have HO := Lib.hid (And.intro hown (And.intro hE (And.intro hL hln)))
   obtain ⟨wo, rfl⟩ : ∃ wo : World, wo = wr := ⟨_, rfl⟩
   by_cases hlt : k < n
   · have B1 := IB.out _ hE k hlt
     have B2 := fun wx hx => IK.out wx hx k hlt
     have B3 := fun wx hx => IB.out wx hx k hlt
     have ct := CT.out _ hE
     have hs := freeK_succ c m k
     rw [hL] at hs
     unfold freeB at hs
     obtain ⟨x0, hx0⟩ : ∃ z, decide ((k : Int) ≠ m.fr) = z := ⟨_, rfl⟩
     rw [hx0] at hs
     have hx0' : ((k : Int) != m.fr) = x0 := by rw [← hx0]; by_cases e : (k : Int) = m.fr <;> simp [e]
     generalize m.fr = fr at *
     generalize decide (nextB c m k = 0) = x1 at *
     generalize badB c m k = x2 at *
     obtain ⟨y0, hy0⟩ : ∃ z, (x0 && (x1 && !x2)) = z := ⟨_, rfl⟩
     have HS := Lib.hid (show freeK c m (k + 1) = if (x0 && (x1 && !x2)) then L ++ [(k : Int)] else L from hs)
     clear hs hown hE hx0 hy0 y0
     cases x0
     · clear B1 B2
       go_wp2
       go_roundw
       case rel => exact ⟨k + 1, by omega, by go_num, by rw [HS.out]; simp [HO.out.2.2.2]; exact HO.out.1, HO.out.2.1⟩
       case measure => simp [intOf]; omega
     · cases x1
       · clear B1
         go_wp2_with (go_at_call 94; refine (B2 _ HO.out.2.1).mono ?_; rintro e w3 ⟨rfl, hg3⟩; have HG3 := Lib.hid hg3; clear hg3)
         go_roundw
         case rel => exact ⟨k + 1, by omega, by go_num, by rw [HS.out]; simp [HO.out.2.2.2]; exact HO.out.1.kept HG3.out (Classical.em _), ext_trans HO.out.2.1 HG3.out⟩
         case measure => simp [intOf]; omega
       · have B4 := B3
         clear B1 B3
         cases x2
         · go_upto_region 7 with (first
             | (go_at_call 94; refine (B2 _ HO.out.2.1).mono ?_; rintro e w3 ⟨rfl, hg3⟩; have HG3 := Lib.hid (And.intro hg3 (ext_trans HO.out.2.1 hg3)); clear hg3)
             | (go_at_call 91; refine (B4 _ HG3.out.2).mono ?_; rintro e w4 ⟨rfl, hg4⟩; have HG4 := Lib.hid (And.intro (ext_trans HG3.out.1 hg4) (ext_trans HG3.out.2 hg4)); clear hg4))
           have hown := (HO.out.1.kept HG4.out.1 (Classical.em _)).alloc (.cells #[.int .i64 k] 3)
           go_wp2_with (at_builtin; go_loud (refine append_int18 rfl _ _ rfl w.heap.size (.slice ro ln rc) L ln HO.out.2.2.2 rfl hown ⟨w4.heap.size, 0, none⟩ 1 k rfl (by simp) (by omega) (by have := HG4.out.2.size; simp; omega) ?_; intro v' w7 hrow' hg'; have hE7 := Lib.hid (own_alloc17 HG4.out.1 hg'); obtain ⟨ao7, cap7, hv7⟩ := owns_slice17 hrow'; subst hv7))
           go_roundw
           case rel =>
             refine ⟨k + 1, by omega, by go_num, ?_, own_ext17 HO.out.1 HO.out.2.1 hE7.out (Nat.le_refl _)⟩
             rw [HS.out]
             show World.ownsRow _ _ _ _ _ (L ++ [(k : Int)]).length _
             rw [List.length_append, HO.out.2.2.2]
             exact hrow'
           case measure => simp [intOf]; omega
         · go_wp2_with (first
             | (go_at_call 94; refine (B2 _ HO.out.2.1).mono ?_; rintro e w3 ⟨rfl, hg3⟩; have HG3 := Lib.hid (And.intro hg3 (ext_trans HO.out.2.1 hg3)); clear hg3)
             | (go_at_call 91; refine (B4 _ HG3.out.2).mono ?_; rintro e w4 ⟨rfl, hg4⟩; have HG4 := Lib.hid (And.intro (ext_trans HG3.out.1 hg4) (ext_trans HG3.out.2 hg4)); clear hg4))
           go_roundw
           case rel => exact ⟨k + 1, by omega, by go_num, by rw [HS.out]; simp [HO.out.2.2.2]; exact HO.out.1.kept HG4.out.1 (Classical.em _), HG4.out.2⟩
           case measure => simp [intOf]; omega
   · obtain rfl : k = n := by omega
     clear hown hE
     go_wp2
     go_ret
     have := HO.out.1
     refine ⟨⟨_, rfl, ?_⟩, HO.out.2.1⟩
     rw [HO.out.2.2.1, HO.out.2.2.2]
     exact this
end
end Go.Proofs.YtfgifgglcafadaaGreatDoor

namespace Go.Proofs.YtfgifgglcafadaaGreatDoor
set_option linter.unusedVariables false
set_option linter.unusedSimpArgs false
set_option linter.unusedVariables false
set_option linter.unusedSimpArgs false
set_option maxRecDepth 100000
open Go.RowKit
section
variable {w w' : World} {p : SP} {c : SC} {m : SM}
end
end Go.Proofs.YtfgifgglcafadaaGreatDoor

namespace Go.Proofs.YtfgifgglcafadaaGreatDoor
set_option linter.unusedVariables false
set_option linter.unusedSimpArgs false
set_option linter.unusedVariables false
set_option linter.unusedSimpArgs false
set_option maxRecDepth 100000
open Go.RowKit
section
variable {w : World} {S : NShape} {V : Nat → Value} {zs : Nat → List Int} {s : NS}
end
end Go.Proofs.YtfgifgglcafadaaGreatDoor

namespace Go.Proofs.YtfgifgglcafadaaGreatDoor
set_option linter.unusedVariables false
set_option linter.unusedSimpArgs false
set_option linter.unusedVariables false
set_option linter.unusedSimpArgs false
set_option maxRecDepth 100000
open Go.RowKit
end Go.Proofs.YtfgifgglcafadaaGreatDoor

namespace Go.Proofs.YtfgifgglcafadaaGreatDoor
set_option linter.unusedVariables false
set_option linter.unusedSimpArgs false
set_option linter.unusedVariables false
set_option linter.unusedSimpArgs false
set_option maxRecDepth 100000
open Go.RowKit
section
variable {w w' : World} {p : SP} {c : SC} {m : SM}
end
end Go.Proofs.YtfgifgglcafadaaGreatDoor

namespace Go.Proofs.YtfgifgglcafadaaGreatDoor
set_option linter.unusedVariables false
set_option linter.unusedSimpArgs false
set_option linter.unusedVariables false
set_option linter.unusedSimpArgs false
set_option maxRecDepth 100000
open Go.RowKit
section
variable {w w' : World} {p : SP} {c : SC} {m : SM}
end
end Go.Proofs.YtfgifgglcafadaaGreatDoor

namespace Go.Proofs.YtfgifgglcafadaaGreatDoor
set_option linter.unusedVariables false
set_option linter.unusedSimpArgs false
set_option linter.unusedVariables false
set_option linter.unusedSimpArgs false
set_option maxRecDepth 100000
open Go.RowKit
section
variable {w w' : World} {p : SP} {c : SC} {m : SM}
end
end Go.Proofs.YtfgifgglcafadaaGreatDoor

namespace Go.Proofs.YtfgifgglcafadaaGreatDoor
set_option linter.unusedVariables false
set_option linter.unusedSimpArgs false
set_option linter.unusedVariables false
set_option linter.unusedSimpArgs false
set_option maxRecDepth 100000
open Go.RowKit
section
variable {w w' : World} {p : SP} {c : SC} {m : SM}
end
end Go.Proofs.YtfgifgglcafadaaGreatDoor

namespace Go.Proofs.YtfgifgglcafadaaGreatDoor
set_option linter.unusedVariables false
set_option linter.unusedSimpArgs false
set_option linter.unusedVariables false
set_option linter.unusedSimpArgs false
set_option maxRecDepth 100000
open Go.RowKit
end Go.Proofs.YtfgifgglcafadaaGreatDoor

namespace Go.Proofs.YtfgifgglcafadaaGreatDoor
set_option linter.unusedVariables false
set_option linter.unusedSimpArgs false
set_option linter.unusedVariables false
set_option linter.unusedSimpArgs false
set_option maxRecDepth 100000
open Go.RowKit
section
variable {w w' : World} {p : SP} {c : SC} {m : SM}
end
end Go.Proofs.YtfgifgglcafadaaGreatDoor

namespace Go.Proofs.YtfgifgglcafadaaGreatDoor
set_option linter.unusedVariables false
set_option linter.unusedSimpArgs false
set_option linter.unusedVariables false
set_option linter.unusedSimpArgs false
set_option maxRecDepth 100000
open Go.RowKit
section
variable {w w' : World} {p : SP} {c : SC} {m : SM}
end
end Go.Proofs.YtfgifgglcafadaaGreatDoor

namespace Go.Proofs.YtfgifgglcafadaaGreatDoor
set_option linter.unusedVariables false
set_option linter.unusedSimpArgs false
set_option linter.unusedVariables false
set_option linter.unusedSimpArgs false
set_option maxRecDepth 100000
open Go.RowKit
section
variable {w w' : World} {p : SP} {c : SC} {m : SM}
end
end Go.Proofs.YtfgifgglcafadaaGreatDoor

namespace Go.Proofs.YtfgifgglcafadaaGreatDoor
set_option linter.unusedVariables false
set_option linter.unusedSimpArgs false
set_option linter.unusedVariables false
set_option linter.unusedSimpArgs false
set_option maxRecDepth 100000
open Go.RowKit
section
variable {w w' : World} {p : SP} {c : SC} {m : SM}
end
end Go.Proofs.YtfgifgglcafadaaGreatDoor

namespace Go.Proofs.YtfgifgglcafadaaGreatDoor
set_option linter.unusedVariables false
set_option linter.unusedSimpArgs false
set_option linter.unusedVariables false
set_option linter.unusedSimpArgs false
set_option maxRecDepth 100000
open Go.RowKit
section
variable {w w' : World} {p : SP} {c : SC} {m : SM}
end
end Go.Proofs.YtfgifgglcafadaaGreatDoor

namespace Go.Proofs.YtfgifgglcafadaaGreatDoor
set_option linter.unusedVariables false
set_option linter.unusedSimpArgs false
set_option linter.unusedVariables false
set_option linter.unusedSimpArgs false
set_option maxRecDepth 100000
open Go.RowKit
def New18 (S : NShape) (V : Nat → Value) (zs : Nat → List Int) (s : NS) (who ep sz sp : Int) (bl : List Int) (w : World) (e : Ending) (w' : World) : Prop :=
 ∃ p : SP, e = .returned (.tuple #[.pointer (some ⟨p.sb, 0, none⟩), .int .i64 0]) ∧ StAt w' p ⟨S, zs, who, ep, sz, sp, bl⟩ ⟨s, [], [], 0, -1, false⟩ ∧ StOk p ⟨S, zs, who, ep, sz, sp, bl⟩ ∧ p.V = V ∧ w.grownBy w' none ∧ w.heap.size ≤ p.sb ∧ w.heap.size ≤ p.tb ∧ w.heap.size ≤ p.bb ∧ ∀ k, p.bv.ownBlock = some k → w.heap.size ≤ k
set_option maxHeartbeats 3200000 in
theorem new18 {w : World} {S : NShape} {V : Nat → Value} {zs : Nat → List Int} {s : NS} (h : NandAt w S V zs s) (hR : Roles S) (hF : Flds w) (h0 : S.T 0 = 0) (hz : ∀ j, j < 4 → (zs j).length ≤ 64) (hV : ∀ j, j < 4 → ∀ k, (V j).ownBlock = some k → k < w.heap.size)
   (who ep sz sp : Int) (hw : 0 ≤ who ∧ who < 4) (v : Value) (bl : List Int) (hv : Ints w v bl) (hb1 : 1 ≤ bl.length) (hb : bl.length ≤ 64) (hbr : ∀ i, i < bl.length → 2 ≤ bl.getD i 0 ∧ bl.getD i 0 < S.all) :
   Calls Tryz.prog 103 #[.pointer (some ⟨S.nb, 0, none⟩), .int .i64 who, .agg #[.bool true, .int .i64 ep, .int .i64 sz, .int .i64 sp, v]] w (New18 S V zs s who ep sz sp bl w) := by
 have hpg := hR.bds
 have CL := fun (wx : World) (hE : w.grownBy wx none) => clonei_any v bl wx (hv.kept hE (by simp)) hb
 have GE := fun (wx : World) (hE : w.grownBy wx none) => geometry18_is (h.ext hE hR).fix
 have TN := fun (wx : World) => new14_ok bl.length S.pg wx (by unfold newOk; omega)
 have BN := new13_is
 rw [hR.pgs] at TN
 have hfld := geo_pages18 S.c S.d S.b S.p
 obtain ⟨ao, cap, hvv⟩ : ∃ ao cap, v = .slice ao bl.length cap := by
   obtain ⟨ao, cap, _, _, h1, _⟩ := hv.form
   exact ⟨ao, cap, h1⟩
 subst hvv
 have HH := Lib.hid (And.intro h (And.intro hR (And.intro hF (And.intro h0 (And.intro hz (And.intro hV (And.intro hb hbr)))))))
 obtain ⟨n, hn⟩ : ∃ z, bl.length = z := ⟨_, rfl⟩
 rw [hn] at CL TN hb hb1 ⊢
 have HN := Lib.hid hn
 have hw1 : ¬ who < 0 := by omega
 have hw2 : ¬ who ≥ 4 := by omega
 clear h hR hF h0 hz hV hv hbr hn hw hpg
 have hE0 := World.grownBy_alloc w (.cells #[.bool true, .int .i64 ep, .int .i64 sz, .int .i64 sp, .slice ao n cap] 53) none
 have hB0 := Blk.new w 53 #[.bool true, .int .i64 ep, .int .i64 sz, .int .i64 sp, .slice ao n cap]
 obtain ⟨tb, htb⟩ : ∃ z, w.heap.size = z := ⟨_, rfl⟩
 obtain ⟨w0, hw0⟩ : ∃ z, w.alloc (.cells #[.bool true, .int .i64 ep, .int .i64 sz, .int .i64 sp, .slice ao n cap] 53) = z := ⟨_, rfl⟩
 rw [hw0] at hE0 hB0
 rw [htb] at hB0
 have HE0 := Lib.hid hE0
 have HTB := Lib.hid htb
 have q0 : w0.cell? ⟨tb, 0, none⟩ = some (.bool true) := hB0.cell 0
 have q4 : w0.cell? ⟨tb, 4, none⟩ = some (.slice ao n cap) := hB0.cell 4
 have HB0 := Lib.hid hB0
 clear hE0 hB0
 go_enter Tryz.func103, Tryz.ntmps103
 go_upto_region 1 with fail
 clear hw0 htb
 go_upto_region 4 with (go_at_call 87; refine (CL _ HE0.out).mono ?_; rintro e w1 ⟨v1, rfl, hI1, hg1, ho1⟩; have hB1 := HB0.out.ext hg1; have q5 : w1.cell? ⟨tb, 4, none⟩ = some (.slice ao n cap) := hB1.cell 4; have f5 := hB1.free 4; have HI1 := Lib.hid (And.intro hI1 (And.intro (ext_trans HE0.out hg1) ho1)); obtain ⟨ao1, cp1, _, _, hv1, _⟩ := hI1.form; rw [HN.out] at hv1; subst hv1; clear hI1 hg1 ho1)
 have hB2 : Blk (w1.setCell ⟨tb, 4, none⟩ (.slice ao1 n cp1)) tb 53 #[.bool true, .int .i64 ep, .int .i64 sz, .int .i64 sp, .slice ao1 n cp1] := hB1.set 4 _
 have hE2 : w.grownBy (w1.setCell ⟨tb, 4, none⟩ (.slice ao1 n cp1)) none := g17_new HI1.out.2.1 (gb_set (gb_refl w1 (some tb)) _ _) (by have := HTB.out; omega)
 have hI2 := HI1.out.1.kept (gb_set (gb_refl w1 (some tb)) 4 (.slice ao1 n cp1)) (fun k hk e => by injection e with e; subst e; have h1 := (HI1.out.2.2 k hk).1; have h2 := HE0.out.size; have h3 := HTB.out; have h4 := HB0.out.lt; omega)
 obtain ⟨w2, hw2⟩ : ∃ z, w1.setCell ⟨tb, 4, none⟩ (.slice ao1 n cp1) = z := ⟨_, rfl⟩
 have hsz2 : w2.heap.size = w1.heap.size := by rw [← hw2]; simp [World.setCell]
 rw [hw2] at hB2 hE2 hI2 ⊢
 have HI2 := Lib.hid (And.intro hI2 (And.intro hE2 (And.intro HI1.out.2.2 hsz2)))
 have hS : Blk w2.drew tb 53 #[.bool true, .int .i64 ep, .int .i64 sz, .int .i64 sp, .slice ao1 n cp1] ∧ w.grownBy w2.drew none := ⟨hB2, drewE hE2⟩
 clear hw2 hB1 q0 q4 q5 f5 HI1 HB0 hI2 hE2 hB2 hsz2 CL
 refine region_line [(0, true), (1, true), (2, true), (3, true), (4, true), (5, true), (6, true), (7, false), (8, true), (9, false), (10, false), (11, false), (12, false), (13, true), (14, true)] (fun y => Blk y tb 53 #[.bool true, .int .i64 ep, .int .i64 sz, .int .i64 sp, .slice ao1 n cp1] ∧ w.grownBy y none) (by kernel_rfl) (by kernel_rfl) (fun _ _ _ d _ h => by cases d <;> exact h) hS ?_
 repeat (refine line_read (a' := ?_) rfl (by kernel_rfl) (by kernel_rfl) hS (fun y hy K hK => ?_) ?_; rotate_left; · (obtain ⟨hb, _⟩ := hy; have r0 : y.cell? ⟨tb, 0, none⟩ = some (.bool true) := hb.cell 0; have r1 : y.cell? ⟨tb, 1, none⟩ = some (.int .i64 ep) := hb.cell 1; have r2 : y.cell? ⟨tb, 2, none⟩ = some (.int .i64 sz) := hb.cell 2; have r3 : y.cell? ⟨tb, 3, none⟩ = some (.int .i64 sp) := hb.cell 3; have r4 : y.cell? ⟨tb, 4, none⟩ = some (.slice ao1 n cp1) := hb.cell 4; clear hb; go_wp2; exact hK))
 refine line_act (by rfl) (fun K hK => ?_)
 go_wp2_with (go_at_call 141; refine (GE _ hS.2).mono ?_; rintro e w3 ⟨rfl, hg3⟩)
 have hS3 : Blk w3 tb 53 #[.bool true, .int .i64 ep, .int .i64 sz, .int .i64 sp, .slice ao1 n cp1] ∧ w.grownBy w3 none := ⟨hS.1.ext hg3, ext_trans hS.2 hg3⟩
 have hg23 : w2.grownBy w3 none := ⟨hg3.os, hg3.tape, hg3.output, hg3.size, hg3.block⟩
 refine hK _ _ (fun y => Blk y tb 53 #[.bool true, .int .i64 ep, .int .i64 sz, .int .i64 sp, .slice ao1 n cp1] ∧ w.grownBy y none) hS3 (fun _ h => h) ?_
 clear hK K hg3
 repeat (refine line_read (a' := ?_) rfl (by kernel_rfl) (by kernel_rfl) hS3 (fun y hy K hK => ?_) ?_; rotate_left; · (go_wp2; exact hK))
 refine line_act (by rfl) (fun K hK => ?_)
 go_wp2_with (go_at_call 142; refine (TN _).mono ?_; rintro e w4 ⟨t4, rfl, hA4, ht4, hg4⟩)
 have hS4 : Blk w4 tb 53 #[.bool true, .int .i64 ep, .int .i64 sz, .int .i64 sp, .slice ao1 n cp1] ∧ w.grownBy w4 none := ⟨hS3.1.ext hg4, ext_trans hS3.2 hg4⟩
 refine hK _ _ (fun y => Blk y tb 53 #[.bool true, .int .i64 ep, .int .i64 sz, .int .i64 sp, .slice ao1 n cp1] ∧ w.grownBy y none) hS4 (fun _ h => h) ?_
 clear hK K
 refine line_act (by rfl) (fun K hK => ?_)
 go_wp2_with (go_at_call 143; refine (BN _).mono ?_; rintro e w5 ⟨b5, rfl, hA5, hb5, hg5⟩)
 have hS5 : Blk w5 tb 53 #[.bool true, .int .i64 ep, .int .i64 sz, .int .i64 sp, .slice ao1 n cp1] ∧ w.grownBy w5 none := ⟨hS4.1.ext hg5, ext_trans hS4.2 hg5⟩
 refine hK _ _ (fun y => Blk y tb 53 #[.bool true, .int .i64 ep, .int .i64 sz, .int .i64 sp, .slice ao1 n cp1] ∧ w.grownBy y none) hS5 (fun _ h => h) ?_
 clear hK K
 refine line_act (by rfl) (fun K hK => ?_)
 go_wp2
 refine hK _ _ (fun y => Blk y tb 53 #[.bool true, .int .i64 ep, .int .i64 sz, .int .i64 sp, .slice ao1 n cp1] ∧ w.grownBy y none) hS5 (fun _ h => h) ?_
 clear hK K
 refine line_act (by rfl) (fun K hK => ?_)
 go_wp2
 have hg6 := World.grownBy_alloc w5 (.cells #[.pointer (some ⟨S.nb, 0, none⟩), .int .i64 who, .bool true, .int .i64 ep, .int .i64 sz, .int .i64 sp, .slice ao1 n cp1, .pointer (some ⟨t4, 0, none⟩), .pointer (some ⟨b5, 0, none⟩), .int .i64 0, .int .i64 (-1), .bool false] 141) none
 have hB6 := Blk.new w5 141 #[.pointer (some ⟨S.nb, 0, none⟩), .int .i64 who, .bool true, .int .i64 ep, .int .i64 sz, .int .i64 sp, .slice ao1 n cp1, .pointer (some ⟨t4, 0, none⟩), .pointer (some ⟨b5, 0, none⟩), .int .i64 0, .int .i64 (-1), .bool false]
 have hS6 := (show Blk _ tb 53 #[.bool true, .int .i64 ep, .int .i64 sz, .int .i64 sp, .slice ao1 n cp1] ∧ w.grownBy _ none from ⟨hS5.1.ext hg6, ext_trans hS5.2 hg6⟩)
 refine hK _ _ (fun y => Blk y tb 53 #[.bool true, .int .i64 ep, .int .i64 sz, .int .i64 sp, .slice ao1 n cp1] ∧ w.grownBy y none) hS6 (fun _ h => h) ?_
 clear hK K
 repeat (refine line_read (a' := ?_) rfl (by kernel_rfl) (by kernel_rfl) hS6 (fun y hy K hK => ?_) ?_; rotate_left; · (go_wp2; exact hK))
 refine line_end ?_
 go_wp2
 go_returns
 obtain ⟨h, hR, hF, h0, hz, hV, hbl, hbr⟩ := HH.out
 obtain ⟨hI2, hE2, ho1, hsz2⟩ := HI2.out
 have hg45 := ext_trans hg4 hg5
 have hg25 := ext_trans hg23 hg45
 have hsw := hE2.size
 have hs23 := hg23.size
 have hs4 := hA4.lt
 have hs5 := hA5
 have hb5l := bufLt _ _ _ hA5
 have hsb : w4.heap.size ≤ w5.heap.size := hg5.size
 have hF0 := hF.lt
 refine ⟨⟨w5.heap.size, t4, b5, V, .slice ao1 n cp1⟩, rfl, ⟨h.ext hS6.2 hR, ?_, bufStays _ _ _ _ hA5 (hg6.block _ hb5l (by simp)), hB6, hI2.kept (ext_trans hg25 hg6) (by simp), hF.ext hS6.2⟩, ?_, rfl, hS6.2, by simp only; omega, by simp only; omega, by simp only; omega, fun k hk => by have h1 := (ho1 k hk).1; have h2 := HE0.out.size; omega⟩
 · rw [show (⟨S, zs, who, ep, sz, sp, bl⟩ : SC).bl.length = n from HN.out]
   exact (hA4.ext hg5).ext hg6
 · have hfr : ∀ k, w.heap.size ≤ k → S.T k = 0 := fun k hk => h.fresh hk
   refine ⟨hR, hz, h0, hfr _ (by simp only; omega), hfr _ (by simp only; omega), hfr _ (by simp only; omega), by simp only; omega, by simp only; omega, by simp only; omega, by simp only; omega, by simp only; omega, by simp only; omega, fun j hj k hk => ?_, fun k hk => ?_, hbl, hbr⟩
   · have := hV j hj k hk
     simp only; omega
   · have h1 := ho1 k hk
     have h2 := HE0.out.size
     exact ⟨hfr k (by omega), by simp only; omega, by simp only; omega, by simp only; omega⟩
end Go.Proofs.YtfgifgglcafadaaGreatDoor

namespace Go.Proofs.YtfgifgglcafadaaGreatDoor
set_option linter.unusedVariables false
set_option linter.unusedSimpArgs false
set_option linter.unusedVariables false
set_option linter.unusedSimpArgs false
set_option maxRecDepth 100000
open Go.RowKit
section
variable {w w' : World} {base : Nat} {e : TypeId} {size : Nat} {v : Value} {n : Nat} {xs : List Value}
theorem TailRow.cutK {g off cap k : Nat} (h : TailRow w base e size (.slice (some ⟨g, off, none⟩) n cap) n xs) (hk : k ≤ n) : TailRow w base e size (.slice (if cap = k then some ⟨g, off, none⟩ else some ⟨g, off + k * size, none⟩) (n - k) (cap - k)) (n - k) (xs.drop (k * size)) := by
 have hl := h.1
 have hnk : (n - k) * size + k * size = n * size := by rw [← Nat.add_mul]; congr 1; omega
 rcases h.2 with ⟨h2, _⟩ | ⟨g', off', cap', cur, h1, h2, h3, h4, h5, h6, h7⟩
 · cases h2
 · simp only [Value.slice.injEq, Option.some.injEq, Addr.mk.injEq, true_and, and_true] at h1
   obtain ⟨⟨rfl, rfl⟩, rfl⟩ := h1
   refine ⟨by rw [List.length_drop, hl]; omega, .inr ?_⟩
   have hx : (cur.toList.drop (off + k * size)).take ((n - k) * size) = xs.drop (k * size) := by
     rw [← h7, List.drop_take, List.drop_drop]
     congr 1
     omega
   by_cases hc : cap = k
   · rw [if_pos hc]
     subst hc
     obtain rfl : n = cap := by omega
     refine ⟨g, off, 0, cur, by rw [Nat.sub_self], h2, h3, by omega, by omega, by omega, ?_⟩
     rw [Nat.sub_self] at hx ⊢
     simpa using hx
   · rw [if_neg hc]
     have hm : (cap - k) * size + k * size = cap * size := by rw [← Nat.add_mul]; congr 1; omega
     exact ⟨g, off + k * size, cap - k, cur, rfl, h2, h3, by omega, by omega, by omega, hx⟩
theorem TailRow.headSet {g off cap k : Nat} {cur : Array Value} (h : TailRow w base e size (.slice (some ⟨g, off, none⟩) n cap) n xs) (hk : k ≤ n) (hg : w.heap[g]? = some (.cells cur e (0, 0))) {cur' : Array Value} (hg' : w'.heap[g]? = some (.cells cur' e (0, 0)))
   (hs : cur'.size = cur.size) (hj : ∀ j, off + k * size ≤ j → cur'[j]? = cur[j]?) : TailRow w' base e size (.slice (if cap = k then some ⟨g, off, none⟩ else some ⟨g, off + k * size, none⟩) (n - k) (cap - k)) (n - k) (xs.drop (k * size)) := by
 have h0 := h.cutK hk
 have hb : base ≤ g := by
   rcases h.2 with ⟨h2, _⟩ | ⟨g', off', cap', cur, h1, h2, _⟩
   · cases h2
   · simp only [Value.slice.injEq, Option.some.injEq, Addr.mk.injEq, true_and, and_true] at h1
     obtain ⟨⟨rfl, _⟩, _⟩ := h1
     exact h2
 refine ⟨h0.1, ?_⟩
 rcases h0.2 with ⟨h2, _⟩ | ⟨g', off', cap', c2, h1, h2, h3, h4, h5, h6, h7⟩
 · split at h2 <;> cases h2
 · have eg : g' = g := by
     split at h1
     · simp only [Value.slice.injEq, Option.some.injEq, Addr.mk.injEq, true_and, and_true] at h1; exact h1.1.1.symm
     · simp only [Value.slice.injEq, Option.some.injEq, Addr.mk.injEq, true_and, and_true] at h1; exact h1.1.1.symm
   subst eg
   rw [hg] at h3
   obtain rfl : cur = c2 := by simpa using h3
   refine .inr ⟨g', off', cap', cur', h1, h2, hg', h4, h5, by omega, ?_⟩
   rw [← h7]
   by_cases hn : n - k = 0
   · rw [hn]; simp
   · have eo : off' = off + k * size := by
       have hck : ¬ cap = k := by
         rcases h.2 with ⟨h2, _⟩ | ⟨_, _, _, _, h1, _, _, hle, _⟩
         · cases h2
         · simp only [Value.slice.injEq, true_and] at h1
           omega
       rw [if_neg hck] at h1
       simp only [Value.slice.injEq, Option.some.injEq, Addr.mk.injEq, true_and, and_true] at h1
       exact h1.1.symm
     refine List.ext_getElem? fun j => ?_
     rw [List.getElem?_take, List.getElem?_take]
     split
     · rw [List.getElem?_drop, List.getElem?_drop, Array.getElem?_toList, Array.getElem?_toList, hj _ (by omega)]
     · rfl
end
theorem clear_rows {P : Program} (w : World) (t e : TypeId) (z : Value) (ht : P.underlying t = some (.slice e)) (hv : ∀ w, (zeroValue e).run P w = .ok z w) (h1 : z.cells.all (·.oneCell') = true) {size : Nat} (hz : z.cells.size = size) (hs : 0 < size) (g off n c : Nat) (cur : Array Value) (hg : w.heap[g]? = some (.cells cur e (0, 0))) (hn : 0 < n) (hfit : off + n * size ≤ cur.size) :
   ∃ (w' : World) (cur' : Array Value), (∀ ty, (Builtin.clear_ #[t] ty #[.slice (some ⟨g, off, none⟩) n c]).run P w = .ok (.tuple #[]) w') ∧ w'.heap[g]? = some (.cells cur' e (0, 0)) ∧ cur'.size = cur.size ∧ (∀ j, off + n * size ≤ j → cur'[j]? = cur[j]?) ∧ w.grownBy w' (some g) ∧ w'.heap.size = w.heap.size := by
 have hlen : (Builtin.zeroCells z.cells n).toList.length = n * size := by simp [Builtin.zeroCells, hz]
 have hone : ∀ u ∈ (Builtin.zeroCells z.cells n).toList, u.oneCell' = true := by
   intro u hu
   simp only [Builtin.zeroCells, Array.toList_map, List.mem_map] at hu
   obtain ⟨i, _, rfl⟩ := hu
   have hlt : i % z.cells.size < z.cells.size := Nat.mod_lt _ (by omega)
   rw [getElem!_pos z.cells _ hlt]
   exact (Array.all_eq_true_iff_forall_mem.1 h1) _ (Array.getElem_mem hlt)
 have hst := run_storeCells_at P g off e (Builtin.zeroCells z.cells n).toList 0 cur w hg (by rw [hlen]; omega) hone
 simp only [Nat.add_zero] at hst
 obtain ⟨C, hC⟩ : ∃ C, (cur.toList.take off ++ (Builtin.zeroCells z.cells n).toList ++ cur.toList.drop (off + (Builtin.zeroCells z.cells n).toList.length)).toArray = C := ⟨_, rfl⟩
 have hcl : C.size = cur.size := by
   rw [← hC, List.size_toArray, List.length_append, List.length_append, List.length_take, List.length_drop, hlen, Array.length_toList]
   omega
 have hcj : ∀ j, off + n * size ≤ j → C[j]? = cur[j]? := fun j hj => by
   rw [← hC, List.getElem?_toArray, List.getElem?_append_right (by rw [List.length_append, List.length_take, hlen, Array.length_toList]; omega), List.getElem?_drop, List.length_append, List.length_take, hlen, Array.length_toList, ← Array.getElem?_toList]
   congr 1
   omega
 rw [hC] at hst
 refine ⟨w.setRow g C, C, fun ty => ?_, setRow_heap w g cur C e _ hg, hcl, hcj, ⟨rfl, rfl, rfl, by simp, fun k _ hne => setRow_other w g k C (fun e => hne (by rw [e]))⟩, by simp⟩
 obtain ⟨m, rfl⟩ : ∃ m, n = m + 1 := ⟨n - 1, by omega⟩
 simp [Builtin.clear_, run_underlying ht, hv, hst]
theorem tri_new (w : World) (T : TypeId) (c : Chg) : ∀ j u, (chgC c).toList[j]? = some u → (w.alloc (.cells #[.int .i64 c.pl, .int .i64 c.kd, .string c.dt] T)).cell? ((⟨w.heap.size, 0, none⟩ : Addr).add j) = some u := by
 intro j u hj
 match j, hj with
 | 0, hj => simp [chgC] at hj; subst hj; simp [Addr.add]
 | 1, hj => simp [chgC] at hj; subst hj; simp [Addr.add]
 | 2, hj => simp [chgC] at hj; subst hj; simp [Addr.add]
 | j + 3, hj => simp [chgC] at hj
theorem tri_snoc (row : List Chg) (c : Chg) : chgsL (row ++ [c]) = chgsL row ++ (chgC c).toList := by simp [chgsL]
theorem tri_drop (row : List Chg) : ∀ k, chgsL (row.drop k) = (chgsL row).drop (k * 3) := by
 induction row with
 | nil => intro k; simp [chgsL]
 | cons c r ih =>
   intro k
   match k with
   | 0 => simp
   | k + 1 =>
     rw [List.drop_succ_cons, ih k]
     show _ = ((chgC c).toList ++ chgsL r).drop ((k + 1) * 3)
     have hl : (chgC c).toList.length = 3 := rfl
     rw [show (k + 1) * 3 = (chgC c).toList.length + k * 3 by rw [hl]; omega, List.drop_append]
     simp
theorem tri_at : ∀ (row : List Chg) (j i : Nat), i < 3 → j < row.length → (chgsL row)[j * 3 + i]? = (chgC (row.getD j noChg)).toList[i]?
 | [], j, i, _, h => by simp at h
 | c :: r, 0, i, hi, _ => by
   show ((chgC c).toList ++ chgsL r)[0 * 3 + i]? = _
   rw [Nat.zero_mul, Nat.zero_add, List.getElem?_append_left (by show i < 3; exact hi)]
   rfl
 | c :: r, j + 1, i, hi, h => by
   show ((chgC c).toList ++ chgsL r)[(j + 1) * 3 + i]? = _
   have hl : (chgC c).toList.length = 3 := rfl
   rw [List.getElem?_append_right (by omega), hl, show (j + 1) * 3 + i - 3 = j * 3 + i by omega, tri_at r j i hi (by simpa using h)]
   simp
theorem tri_row {w : World} {B n cap j : Nat} {T : TypeId} {so : Option Addr} {cj : Chg} {row : List Chg} (h : TailRow w B T 3 (.slice so n cap) row.length (chgsL row)) (hj : j < row.length) (hc : row.getD j noChg = cj) :
   ∃ g off, so = some ⟨g, off, none⟩ ∧ w.rangeAt g (off + j * 3) (chgC cj).toList := by
 rcases h.shape with ⟨_, h1⟩ | ⟨g, off, cap', h1, _, _, _, _, h2⟩
 · omega
 · simp only [Value.slice.injEq] at h1
   refine ⟨g, off, h1.1, fun i u hi => ?_⟩
   have hl : (chgC cj).toList.length = 3 := rfl
   have hi3 : i < 3 := by rw [← hl]; exact (List.getElem?_eq_some_iff.1 hi).1
   rw [Nat.add_assoc, h2 _ (by omega), tri_at row j i hi3 hj, hc]
   exact hi
theorem TailRow.form20 {w : World} {base : Nat} {e : TypeId} {size : Nat} {v : Value} {n : Nat} {xs : List Value} (h : TailRow w base e size v n xs) : ∃ ao cap, v = .slice ao n cap := by
 rcases h.2 with ⟨rfl, rfl⟩ | ⟨g, off, cap, cur, rfl, _⟩
 · exact ⟨none, 0, rfl⟩
 · exact ⟨_, cap, rfl⟩
def fpQ (b : Nat) (vw vd : Value) (k : Nat) : Prop := k = b ∨ vw.ownBlock = some k ∨ vd.ownBlock = some k
structure KpF (F : Nat → Prop) (w w' : World) : Prop where
 os : w'.os = w.os
 tape : w'.tape = w.tape
 output : w'.output = w.output
 size : w.heap.size ≤ w'.heap.size
 block : ∀ k, k < w.heap.size → ¬ F k → w'.heap[k]? = w.heap[k]?
theorem KpF.of_grown {F : Nat → Prop} {w w' : World} {r : Option Nat} (h : w.grownBy w' r) (hr : ∀ k, r = some k → F k) : KpF F w w' :=
 ⟨h.os, h.tape, h.output, h.size, fun k hk hf => h.block k hk (fun e => hf (hr k e.symm))⟩
theorem KpF.trans {F : Nat → Prop} {w w1 w2 : World} (h : KpF F w w1) (h2 : KpF F w1 w2) : KpF F w w2 :=
 ⟨h2.os.trans h.os, h2.tape.trans h.tape, h2.output.trans h.output, Nat.le_trans h.size h2.size, fun k hk hf => (h2.block k (Nat.lt_of_lt_of_le hk h.size) hf).trans (h.block k hk hf)⟩
def Ne2 (u v : Value) : Prop := ∀ k, u.ownBlock = some k → v.ownBlock = some k → False
theorem Ne2.nil (v : Value) : Ne2 (.slice none 0 0) v := fun k a _ => by simp [Value.ownBlock] at a
structure QS (w : World) (b : Nat) (vw vd : Value) (ws ds : List Chg) : Prop where
 blk : Blk w b 137 #[vw, vd]
 wa : TailRow w (b + 1) 30 3 vw ws.length (chgsL ws)
 dn : w.ownsRow (b + 1) 81 3 vd ds.length (chgsL ds)
 ne : Ne2 vw vd
 wl : ws.length ≤ 8
 d0 : ds = [] → vd = .slice none 0 0
section
variable {w w' : World} {b : Nat} {vw vd : Value} {ws ds : List Chg}
theorem QS.kept (h : QS w b vw vd ws ds) {F : Nat → Prop} (hk : KpF F w w') (hb : ¬ F b) (h1 : ∀ k, vw.ownBlock = some k → ¬ F k) (h2 : ∀ k, vd.ownBlock = some k → ¬ F k) : QS w' b vw vd ws ds := by
 have hg : ∀ k, k < w.heap.size → ¬ F k → w'.heap[k]? = w.heap[k]? := hk.block
 refine ⟨(hg b h.blk.lt hb).trans h.blk, ⟨h.wa.1, ?_⟩, ⟨h.dn.1, ?_⟩, h.ne, h.wl, h.d0⟩
 · rcases h.wa.2 with h3 | ⟨g, off, cap, cur, rfl, h4, h5, h6⟩
   · exact .inl h3
   · exact .inr ⟨g, off, cap, cur, rfl, h4, (hg g (Array.getElem?_eq_some_iff.1 h5).1 (h1 g rfl)).trans h5, h6⟩
 · rcases h.dn.2 with h3 | ⟨g, cap, cur, rfl, h4, h5, h6⟩
   · exact .inl h3
   · exact .inr ⟨g, cap, cur, rfl, h4, (hg g (Array.getElem?_eq_some_iff.1 h5).1 (h2 g rfl)).trans h5, h6⟩
theorem QS.ext (h : QS w b vw vd ws ds) (hg : w.grownBy w' none) : QS w' b vw vd ws ds :=
 h.kept (F := fun _ => False) (KpF.of_grown hg (by simp)) (by simp) (by simp) (by simp)
theorem QS.c0 (h : QS w b vw vd ws ds) : w.cell? ⟨b, 0, none⟩ = some vw := (h.blk.cell 0).trans rfl
theorem QS.c1 (h : QS w b vw vd ws ds) : w.cell? ⟨b, 1, none⟩ = some vd := (h.blk.cell 1).trans rfl
theorem QS.lt (h : QS w b vw vd ws ds) : ∀ k, fpQ b vw vd k → b ≤ k ∧ k < w.heap.size := by
 intro k hk
 rcases hk with rfl | hk | hk
 · exact ⟨Nat.le_refl _, h.blk.lt⟩
 · have := h.wa.lt k hk; omega
 · have := h.dn.lt k hk; omega
end
end Go.Proofs.YtfgifgglcafadaaGreatDoor

namespace Go.Proofs.YtfgifgglcafadaaGreatDoor
set_option linter.unusedVariables false
set_option linter.unusedSimpArgs false
set_option linter.unusedVariables false
set_option linter.unusedSimpArgs false
set_option maxRecDepth 100000
open Go.RowKit
def chkQ (o p : Int) (dt : ByteArray) : Int := if (o ≠ 1 ∧ o ≠ 2 ∧ o ≠ 3 ∧ o ≠ 4) ∨ (o ≠ 2 ∧ dt.size ≠ 0) ∨ (o = 4 ∧ p ≠ 0) then 1 else 0
set_option maxHeartbeats 800000 in
theorem check20_any (o p : Int) (dt : ByteArray) (w : World) : Calls Tryz.prog 118 #[.agg (chgC ⟨o, p, dt⟩)] w fun e w' => e = .returned (.int .i64 (chkQ o p dt)) ∧ w.grownBy w' none := by
 have hz := str_none (s := dt)
 obtain ⟨r, hr⟩ : ∃ r, chkQ o p dt = r := ⟨_, rfl⟩
 rw [hr]
 unfold chkQ at hr
 have HE := Lib.hid (World.grownBy_alloc w (.cells (chgC ⟨o, p, dt⟩) 30) none)
 have hb := Blk.new w 30 (chgC ⟨o, p, dt⟩)
 have c0 := (hb.cell 0).trans (show (chgC ⟨o, p, dt⟩)[0]? = some (.int .i64 o) from rfl)
 have c1 := (hb.cell 1).trans (show (chgC ⟨o, p, dt⟩)[1]? = some (.int .i64 p) from rfl)
 have c2 := (hb.cell 2).trans (show (chgC ⟨o, p, dt⟩)[2]? = some (.string dt) from rfl)
 clear hb
 obtain ⟨n, hn⟩ : ∃ n, dt.size = n := ⟨_, rfl⟩
 rw [hn] at hz hr
 have HR := Lib.hid hr
 clear hr hn
 by_cases h2 : o = 2
 · have b1 : (o != 1) = true := by simp [h2]
   have b2 : (o != 2) = false := by simp [h2]
   have b4 : (o == 4) = false := by simp [h2]
   have HK := Lib.hid h2
   clear h2 hz
   go_enter Tryz.func118, Tryz.ntmps118
   go_wp2
   go_ret
   exact ⟨ret_int13 (by have := HK.out; rw [← HR.out, if_neg (by omega)]), HE.out⟩
 have b2 : (o != 2) = true := by simpa using h2
 by_cases hk : o = 1 ∨ o = 3
 · have b4 : (o == 4) = false := by rcases hk with rfl | rfl <;> rfl
   have b13 : ((o != 1) = false) ∨ ((o != 1) = true ∧ (o != 3) = false) := by rcases hk with rfl | rfl; exact .inl rfl; exact .inr ⟨rfl, rfl⟩
   have HK := Lib.hid (And.intro h2 hk)
   clear h2 hk
   rcases b13 with b1 | ⟨b1, b3⟩
   · by_cases hl : n = 0
     · rw [decide_eq_true hl] at hz
       have HL := Lib.hid hl
       clear hl
       go_enter Tryz.func118, Tryz.ntmps118
       go_wp2
       go_ret
       exact ⟨ret_int13 (by have h1 := HK.out; have h2 := HL.out; rw [← HR.out, if_neg (by omega)]), HE.out⟩
     · rw [decide_eq_false hl] at hz
       have HL := Lib.hid hl
       clear hl
       go_enter Tryz.func118, Tryz.ntmps118
       go_wp2
       go_ret
       exact ⟨ret_int13 (by have h1 := HK.out; have h2 := HL.out; rw [← HR.out, if_pos (by omega)]), HE.out⟩
   · by_cases hl : n = 0
     · rw [decide_eq_true hl] at hz
       have HL := Lib.hid hl
       clear hl
       go_enter Tryz.func118, Tryz.ntmps118
       go_wp2
       go_ret
       exact ⟨ret_int13 (by have h1 := HK.out; have h2 := HL.out; rw [← HR.out, if_neg (by omega)]), HE.out⟩
     · rw [decide_eq_false hl] at hz
       have HL := Lib.hid hl
       clear hl
       go_enter Tryz.func118, Tryz.ntmps118
       go_wp2
       go_ret
       exact ⟨ret_int13 (by have h1 := HK.out; have h2 := HL.out; rw [← HR.out, if_pos (by omega)]), HE.out⟩
 have b1 : (o != 1) = true := by simpa using (by omega : ¬ o = 1)
 have b3 : (o != 3) = true := by simpa using (by omega : ¬ o = 3)
 by_cases h4 : o = 4
 · have b4 : (o != 4) = false := by simp [h4]
   have b4' : (o == 4) = true := by simp [h4]
   have HK := Lib.hid (And.intro h2 h4)
   clear h2 hk h4
   by_cases hl : n = 0
   · rw [decide_eq_true hl] at hz
     have HL := Lib.hid hl
     clear hl
     by_cases hp : p = 0
     · have bp : (p != 0) = false := by simp [hp]
       have HP := Lib.hid hp
       clear hp
       go_enter Tryz.func118, Tryz.ntmps118
       go_wp2
       go_ret
       exact ⟨ret_int13 (by have h1 := HK.out; have h2 := HL.out; have h3 := HP.out; rw [← HR.out, if_neg (by omega)]), HE.out⟩
     · have bp : (p != 0) = true := by simpa using hp
       have HP := Lib.hid hp
       clear hp
       go_enter Tryz.func118, Tryz.ntmps118
       go_wp2
       go_ret
       exact ⟨ret_int13 (by have h1 := HK.out; have h2 := HL.out; have h3 := HP.out; rw [← HR.out, if_pos (by omega)]), HE.out⟩
   · rw [decide_eq_false hl] at hz
     have HL := Lib.hid hl
     clear hl
     go_enter Tryz.func118, Tryz.ntmps118
     go_wp2
     go_ret
     exact ⟨ret_int13 (by have h1 := HK.out; have h2 := HL.out; rw [← HR.out, if_pos (by omega)]), HE.out⟩
 · have b4 : (o != 4) = true := by simpa using h4
   have HK := Lib.hid (show o ≠ 1 ∧ o ≠ 2 ∧ o ≠ 3 ∧ o ≠ 4 by omega)
   clear h2 hk h4 hz
   go_enter Tryz.func118, Tryz.ntmps118
   go_wp2
   go_ret
   exact ⟨ret_int13 (by have h1 := HK.out; rw [← HR.out, if_pos (by omega)]), HE.out⟩
theorem new20 (w : World) : Calls Tryz.prog 46 #[] w fun e w' => ∃ b, e = .returned (.pointer (some ⟨b, 0, none⟩)) ∧ QS w' b (.slice none 0 0) (.slice none 0 0) [] [] ∧ w.heap.size ≤ b ∧ w.grownBy w' none := by
 go_enter Tryz.func46, Tryz.ntmps46
 go_wp2
 go_ret
 exact ⟨_, rfl, ⟨Blk.new w _ _, TailRow.nil _ _ _ _, ⟨by simp [chgsL], .inl ⟨rfl, rfl⟩⟩, Ne2.nil _, by decide, fun _ => rfl⟩, Nat.le_refl _, World.grownBy_alloc w _ none⟩
section
variable {w w' : World} {b : Nat} {vw vd : Value} {ws ds : List Chg}
theorem len20 (h : QS w b vw vd ws ds) : Calls Tryz.prog 55 #[.pointer (some ⟨b, 0, none⟩)] w fun e w' => e = .returned (.int .i64 ws.length) ∧ w = w' := by
 have c0 := h.c0
 obtain ⟨ao, cap, hv⟩ := h.wa.form20
 rw [hv] at c0
 clear h hv
 go_enter Tryz.func55, Tryz.ntmps55
 go_wp2
 go_ret
 exact ⟨rfl, rfl⟩
theorem Tryz.infoCmd : (Tryz.prog.info? 30).map (fun i => (i.zero, i.size, i.bytes)) = some (some (.agg #[.int .i64 0, .int .i64 0, .string ⟨#[]⟩]), 3, 32) := by kernel_rfl
theorem zeroCmd (w : World) : (zeroValue 30).run Tryz.prog w = .ok (.agg #[.int .i64 0, .int .i64 0, .string ⟨#[]⟩]) w := by kernel_rfl
def CutP (w : World) (b : Nat) (vw vd : Value) (ws ds : List Chg) (e : Ending) (w' : World) : Prop :=
 e = .returned (.tuple #[]) ∧ ∃ vw', QS w' b vw' vd ws ds ∧ KpF (fpQ b vw vd) w w' ∧ ∀ k, vw'.ownBlock = some k → vw.ownBlock = some k
theorem cut_fin {w1 : World} {g off cap k m : Nat} (hs : QS w b (.slice (some ⟨g, off, none⟩) ws.length cap) vd ws ds) (hg : w.grownBy w1 (some g)) (hb1 : Blk w1 b 137 #[.slice (some ⟨g, off, none⟩) ws.length cap, vd]) {v' : Value} (hT : TailRow w1 (b + 1) 30 3 v' m (chgsL (ws.drop k))) (hm : m = (ws.drop k).length) (ho : ∀ x, v'.ownBlock = some x → x = g) :
   CutP w b (.slice (some ⟨g, off, none⟩) ws.length cap) vd (ws.drop k) ds (.returned (.tuple #[])) (w1.setCell ⟨b, 0, none⟩ v') := by
 subst hm
 have hG : w1.grownBy (w1.setCell ⟨b, 0, none⟩ v') (some b) := gb_set (gb_refl w1 _) _ _
 have hgv : (Value.slice (some ⟨g, off, none⟩) ws.length cap).ownBlock = some g := rfl
 have h1 := hs.wa.lt g hgv
 refine ⟨rfl, v', ⟨hb1.set 0 v', hT.kept hG (fun x hx e => by have := ho x hx; injection e with e; omega), (hs.dn.kept hg (.inr fun e => hs.ne g hgv e)).kept hG (.inr fun e => by have := (hs.dn.lt _ e).1; omega), fun x hx hy => ?_, by have := hs.wl; rw [List.length_drop]; omega, hs.d0⟩,
   (KpF.of_grown hg (fun x hx => by injection hx with hx; subst hx; exact .inr (.inl hgv))).trans (KpF.of_grown hG (fun x hx => by injection hx with hx; exact .inl hx.symm)), fun x hx => by rw [ho x hx]; exact hgv⟩
 rw [ho x hx] at hy
 exact hs.ne g hgv hy
theorem cut20 (h : QS w b vw vd ws ds) (k : Nat) (hk : k ≤ ws.length) : Calls Tryz.prog 119 #[.pointer (some ⟨b, 0, none⟩), .int .i64 k] w (CutP w b vw vd (ws.drop k) ds) := by
 have c0 := h.c0
 have f0 := h.blk.free 0
 obtain ⟨n, hn⟩ : ∃ n, ws.length = n := ⟨_, rfl⟩
 rcases h.wa.shape with ⟨rfl, h0⟩ | ⟨g, off, cap, rfl, hle, hmx, hgl, hgb, _⟩
 · obtain rfl : k = 0 := by omega
   have hw0 : ws = [] := List.eq_nil_of_length_eq_zero h0
   have hcl : ∀ ty, (Builtin.clear_ #[135] ty #[.slice none 0 0]).run Tryz.prog w = .ok (.tuple #[]) w := fun ty => by
     simp [Builtin.clear_, run_underlying Tryz.underlying135]
   have hbk := h.blk.set 0 (.slice none 0 0)
   have HH := Lib.hid (And.intro h hbk)
   clear h hk hn h0 hbk
   go_enter Tryz.func119, Tryz.ntmps119
   go_wp2_with (simp only [hcl])
   go_end0
   have hg : w.grownBy (w.setCell ⟨b, 0, none⟩ (.slice none 0 0)) (some b) := gb_set (gb_refl w _) _ _
   refine ⟨rfl, _, ⟨HH.out.2, ?_, ?_, HH.out.1.ne, by rw [hw0]; decide, HH.out.1.d0⟩, KpF.of_grown hg (fun k hk => by injection hk with hk; exact .inl hk.symm), fun _ h => h⟩
   · rw [hw0]; exact TailRow.nil _ _ _ _
   · exact HH.out.1.dn.kept hg (.inr fun e => by have := (HH.out.1.dn.lt _ e).1; omega)
 · have hle' : ws.length ≤ cap := hle
   have HW := h.wa
   have hsl := Lib.hid (And.intro h (And.intro hle' hmx))
   obtain ⟨g', off', cap', cur, hv, h2, h3, h4, h5, h6, h7⟩ : ∃ g' off' cap' cur, Value.slice (some ⟨g, off, none⟩) ws.length cap = .slice (some ⟨g', off', none⟩) ws.length cap' ∧ b + 1 ≤ g' ∧ w.heap[g']? = some (.cells cur 30 (0, 0)) ∧ ws.length ≤ cap' ∧ cap' ≤ maxLen ∧ off' + cap' * 3 ≤ cur.size ∧ (cur.toList.drop off').take (ws.length * 3) = chgsL ws := by
     rcases HW.2 with ⟨h0, _⟩ | h0
     · cases h0
     · exact h0
   simp only [Value.slice.injEq, Option.some.injEq, Addr.mk.injEq, true_and, and_true] at hv
   obtain ⟨⟨rfl, rfl⟩, rfl⟩ := hv
   by_cases hk0 : k = 0
   · subst hk0
     have hcl : ∀ ty, (Builtin.clear_ #[135] ty #[.slice (some ⟨g, off, none⟩) 0 cap]).run Tryz.prog w = .ok (.tuple #[]) w := fun ty => by
       simp [Builtin.clear_, run_underlying Tryz.underlying135]
     clear h hk HW h2 h3 h5 h6 h7 hgl hgb
     have HB := Lib.hid (hsl.out.1.blk.set 0 (.slice (some ⟨g, off, none⟩) ws.length cap))
     rw [hn] at c0 hle
     have HN := Lib.hid hn
     clear hn hle' h4
     go_enter Tryz.func119, Tryz.ntmps119
     go_wp2_with (simp only [hcl])
     go_end0
     have hn := HN.out
     subst hn
     have hg : w.grownBy (w.setCell ⟨b, 0, none⟩ (.slice (some ⟨g, off, none⟩) ws.length cap)) (some b) := gb_set (gb_refl w _) _ _
     have hs := hsl.out.1
     refine ⟨rfl, _, ⟨HB.out, hs.wa.kept hg (fun k hk e => by have := (hs.wa.lt k hk).1; injection e with e; omega), hs.dn.kept hg (.inr fun e => by have := (hs.dn.lt _ e).1; omega), hs.ne, hs.wl, hs.d0⟩, KpF.of_grown hg (fun k hk => by injection hk with hk; exact .inl hk.symm), fun _ h => h⟩
   · have hkn : k ≤ n := by omega
     obtain ⟨w1, cur', hcl, r1, r2, r3, r4, r5⟩ := clear_rows w 135 30 _ Tryz.underlying135 zeroCmd (by simp [Value.cells, Value.oneCell']) (size := 3) rfl (by decide) g off k cap cur h3 (by omega) (by omega)
     have hb1 : Blk w1 b 137 #[.slice (some ⟨g, off, none⟩) ws.length cap, vd] := h.blk.kept r4 (fun e => by injection e with e; omega)
     have hT := hsl.out.1.wa.headSet hk h3 r1 r2 r3
     have c0 := (hb1.cell 0).trans (show _ = some (Value.slice (some ⟨g, off, none⟩) ws.length cap) from rfl)
     have f0 := hb1.free 0
     have HX := Lib.hid (And.intro r4 (And.intro hT hb1))
     clear h HW h2 h3 h5 h6 h7 hgl hgb r1 r2 r3 r4 r5 hT hb1 hle' h4
     rw [hn] at c0 hle
     have HN := Lib.hid hn
     have c0w := hsl.out.1.c0
     rw [hn] at c0w
     clear hn hk
     go_enter Tryz.func119, Tryz.ntmps119
     by_cases hcap : cap = k
     · subst hcap
       have hck : n = cap := by omega
       subst hck
       go_wp2_with (simp only [hcl])
       go_end0
       obtain ⟨x1, x2, x3⟩ := HX.out
       rw [if_pos trivial, HN.out, Nat.sub_self, ← tri_drop] at x2
       exact cut_fin hsl.out.1 x1 x3 x2 (by rw [List.length_drop, HN.out]; omega) (fun x hx => by simpa [Value.ownBlock] using hx.symm)
     · go_wp2_with (simp only [hcl])
       go_end0
       obtain ⟨x1, x2, x3⟩ := HX.out
       rw [if_neg hcap, HN.out, ← tri_drop] at x2
       exact cut_fin hsl.out.1 x1 x3 x2 (by rw [List.length_drop, HN.out]) (fun x hx => by simpa [Value.ownBlock] using hx.symm)
end
end Go.Proofs.YtfgifgglcafadaaGreatDoor

namespace Go.Proofs.YtfgifgglcafadaaGreatDoor
set_option linter.unusedVariables false
set_option linter.unusedSimpArgs false
set_option linter.unusedVariables false
set_option linter.unusedSimpArgs false
set_option maxRecDepth 100000
open Go.RowKit
theorem Tryz.infoDne : (Tryz.prog.info? 81).map (fun i => (i.zero, i.size, i.bytes)) = some (some (.agg #[.int .i64 0, .int .i64 0, .string ⟨#[]⟩]), 3, 32) := by kernel_rfl
theorem Tryz.eqNilDne (w : World) (a : Option Addr) (n c : Nat) : (binOp .eql 76 (.slice a n c) (.slice none 0 0)).run Tryz.prog w = .ok (.bool a.isNone) w := Lib.run_eql_slice_nil w 76 81 a n c 0 0 Tryz.underlying76
attribute [local go_sem] Tryz.eqNilDne
theorem tris_one (row : List Chg) : ∀ u ∈ chgsL row, u.oneCell' = true := by
 intro u hu
 simp only [chgsL, List.mem_flatMap] at hu
 obtain ⟨c, _, hc⟩ := hu
 simp [chgC] at hc
 rcases hc with rfl | rfl | rfl <;> rfl
section
variable {w w' : World} {b : Nat} {vw vd : Value} {ws ds : List Chg}
theorem clone20 (w : World) (g : Nat) (cap : Nat) (ds : List Chg) (hd : 0 < ds.length) (hl : ds.length ≤ 1000000) (hr : ∀ j u, (chgsL ds)[j]? = some u → w.cell? ⟨g, j, none⟩ = some u) :
   Calls Tryz.prog 128 #[.slice (some ⟨g, 0, none⟩) ds.length cap] w fun e w' => ∃ v, e = .returned v ∧ w'.ownsRow w.heap.size 81 3 v ds.length (chgsL ds) ∧ w.grownBy w' none := by
 obtain ⟨i0, hi, hz0, hz1, hz2⟩ := info_parts Tryz.infoDne
 obtain ⟨n, hn⟩ : ∃ n, ds.length = n := ⟨_, rfl⟩
 have hcl := chgsL_len ds
 rw [hn] at hd hl hcl ⊢
 have HR := Lib.hid (And.intro hr hcl)
 have hg : g < w.heap.size := by
   have h0 := tri_at ds 0 0 (by omega) (by omega)
   exact World.block_lt_of_cell? w _ (hr _ _ h0)
 clear hr hcl hn
 go_enter Tryz.func128, Tryz.ntmps128
 go_wp2_with (at_builtin; (refine wpList_append_grows (w.alloc (.cells #[] 81)) rfl _ _ 76 rfl 81 i0 _ 3 32 Tryz.underlying76 hi hz0 hz1 hz2 rfl (by decide) _ 0 0 [] rfl (fun h => ⟨rfl, rfl⟩) rfl (fun _ _ j u hj => by simp at hj) ⟨g, 0, none⟩ n cap (chgsL ds) rfl HR.out.2 (fun j u hj => cell_past (by rw [addr_add, Nat.zero_add]; exact HR.out.1 j u hj) _) (tris_one ds) (by omega) (by unfold maxLen; omega) (by omega) ?_); intro v3 w3 ho3 hg3; obtain ⟨ao, cp, rfl⟩ := owns_shape13 ho3)
 go_ret
 refine ⟨_, rfl, ?_, ?_⟩
 · have := ownsRow_le ho3 (B' := w.heap.size) (by simp)
   simpa using this
 · exact ext_trans (World.grownBy_alloc w _ none) hg3
theorem all20 (h : QS w b vw vd ws ds) (hl : ds.length ≤ 1000000) : Calls Tryz.prog 84 #[.pointer (some ⟨b, 0, none⟩)] w fun e w' => ∃ v, e = .returned v ∧ w'.ownsRow w.heap.size 81 3 v ds.length (chgsL ds) ∧ w.grownBy w' none := by
 have c1 := h.c1
 by_cases hd : ds = []
 · rw [h.d0 hd] at c1
   have CL : Calls Tryz.prog 128 #[.slice none 0 0] w fun e w' => e = .returned (.slice none 0 0) ∧ w = w' := by
     clear c1 h hd hl
     go_enter Tryz.func128, Tryz.ntmps128
     go_wp2
     go_ret
     exact ⟨rfl, rfl⟩
   clear h
   go_enter Tryz.func84, Tryz.ntmps84
   go_wp2_with (go_at_call 128; refine CL.mono ?_; rintro e w2 ⟨rfl, rfl⟩)
   go_ret
   exact ⟨_, rfl, by rw [hd]; exact ⟨by simp [chgsL], .inl ⟨rfl, rfl⟩⟩, Ext.refl w⟩
 · have hp : 0 < ds.length := List.length_pos_iff.2 hd
   obtain ⟨g, cap, rfl, hr⟩ : ∃ g cap, vd = .slice (some ⟨g, 0, none⟩) ds.length cap ∧ ∀ j u, (chgsL ds)[j]? = some u → w.cell? ⟨g, j, none⟩ = some u := by
     rcases h.dn.2 with ⟨_, h0⟩ | ⟨g, cap, cur, h1, _, h3, _, _, _, h7⟩
     · omega
     · refine ⟨g, cap, h1, fun j u hj => ?_⟩
       rw [cell_of_row w g j cur 81 (0, 0) h3]
       rw [← h7, List.getElem?_take] at hj
       split at hj
       · rw [Array.getElem?_toList] at hj
         exact hj
       · cases hj
   have CL := clone20 w g cap ds hp hl hr
   obtain ⟨n, hn⟩ : ∃ n, ds.length = n := ⟨_, rfl⟩
   rw [hn] at c1 CL ⊢
   clear h hd hp hl hr hn
   go_enter Tryz.func84, Tryz.ntmps84
   go_wp2_with (go_at_call 128; refine CL.mono ?_; rintro e w2 ⟨v, rfl, h1, h2⟩; obtain ⟨ao, cp, rfl⟩ := owns_shape13 h1)
   go_ret
   exact ⟨_, rfl, h1, h2⟩
end
end Go.Proofs.YtfgifgglcafadaaGreatDoor
