/-
  Texts put together: BP.
-/
import Derived.Test.YtdnpdoipipfkoaaGreatDoorM19
import Derived.Test.YtdnpdoipipfkoaaGreatDoorM13
namespace Go.Proofs.YtdnpdoipipfkoaaGreatDoor
set_option linter.unusedVariables false
set_option linter.unusedSimpArgs false
set_option linter.unusedVariables false
set_option linter.unusedSimpArgs false
set_option maxRecDepth 100000
open Go.RowKit
theorem begN_at {c : SC} {m : SM} {k : Nat} (hk : k < c.bl.length) (h : begB c m k = true) (h0 : ∀ x, x < k → begB c m x = false) : begN c m = k := by
 unfold begN
 have : (List.range c.bl.length).find? (begB c m) = some k := by
   rw [List.find?_eq_some_iff_getElem]
   refine ⟨h, k, by simpa using hk, by simp, fun j hj => ?_⟩
   simp [h0 j hj]
 rw [this]
theorem begN_none {c : SC} {m : SM} (h0 : ∀ x, x < c.bl.length → begB c m x = false) : begN c m = -1 := by
 unfold begN
 have : (List.range c.bl.length).find? (begB c m) = none := by
   rw [List.find?_eq_none]
   intro x hx
   rw [h0 x (List.mem_range.1 hx)]
   decide
 rw [this]
section
variable {w w' : World} {p : SP} {c : SC} {m : SM}
set_option maxHeartbeats 1600000 in
theorem begun18 (h : StAt w p c m) (ok : StOk p c) : Calls Tryz.prog 78 #[.pointer (some ⟨p.sb, 0, none⟩)] w fun e w' => e = .returned (.int .i64 (begN c m)) ∧ w.grownBy w' none := by
 have IB := Lib.hid (fun (wx : World) (hE : w.grownBy wx none) (b : Nat) (hb : b < c.bl.length) => isBad18 (h.ext ok hE) ok hb)
 have NX := Lib.hid (fun (wx : World) (hE : w.grownBy wx none) (b : Nat) (hb : b < c.bl.length) => next18 (h.ext ok hE) ok hb)
 have PG := Lib.hid (fun (wx : World) (hE : w.grownBy wx none) => pages18 (h.ext ok hE) ok)
 have EN := Lib.hid (fun h0 => begN_none (c := c) (m := m) h0)
 have EA := Lib.hid (fun (k : Nat) (hk : k < c.bl.length) h1 h0 => begN_at (c := c) (m := m) (k := k) hk h1 h0)
 have EB := Lib.hid (fun (k : Nat) => (show begB c m k = (decide (0 < nextB c m k) && (decide (nextB c m k < c.S.pg) && !badB c m k)) from rfl))
 obtain ⟨_, _, _, _, _, c6, _⟩ := h.cells
 obtain ⟨ao, cap, g, off, hv, _⟩ := h.iv.form
 rw [hv] at c6
 have hbl := ok.bl
 generalize c.bl.length = n at *
 clear h hv ok
 generalize begB c m = F at *
 generalize begN c m = R at *
 generalize c.S.pg = pg at *
 go_enter Tryz.func78, Tryz.ntmps78
 go_wp2
 clear c6
 go_loopw [11] (fun i wr => ∃ k : Nat, k ≤ n ∧ i = .int .i64 k ∧ (∀ x, x < k → F x = false) ∧ w.grownBy wr none) (fun i _ => n - (intOf i).toNat)
 case atStart => exact ⟨0, by omega, rfl, fun x hx => by omega, Ext.refl w⟩
 case round =>
   obtain ⟨k, hk, rfl, hF, hE⟩ := hrel
   have HE := Lib.hid hE
   have HF := Lib.hid hF
   clear hF
   by_cases hlt : k < n
   · have N := NX.out _ hE k hlt
     have B := fun wx hx => IB.out wx hx k hlt
     have P := PG.out
     have e1 := EB.out k
     generalize badB c m k = y at *
     generalize nextB c m k = x at *
     clear hE
     by_cases h1 : 0 < x
     · have h1' : (0 : Int) < x := by omega
       by_cases h2 : x < pg
       · have h2' : (x : Int) < pg := by omega
         rw [decide_eq_true h1, decide_eq_true h2] at e1
         have E1 := Lib.hid e1
         clear e1
         cases y
         · go_wp2_with (first
             | (go_at_call 113; refine N.mono ?_; rintro e w3 ⟨rfl, hg3⟩; have HG3 := Lib.hid (ext_trans HE.out hg3); clear hg3)
             | (go_at_call 68; refine (P _ HG3.out).mono ?_; rintro e w4 ⟨rfl, hg4⟩; have HG4 := Lib.hid (ext_trans HG3.out hg4); clear hg4)
             | (go_at_call 66; refine (B _ HG4.out).mono ?_; rintro e w5 ⟨rfl, hg5⟩; have HG5 := Lib.hid (ext_trans HG4.out hg5); clear hg5))
           go_ret
           exact ⟨by rw [EA.out k hlt E1.out HF.out]; rfl, HG5.out⟩
         · go_wp2_with (first
             | (go_at_call 113; refine N.mono ?_; rintro e w3 ⟨rfl, hg3⟩; have HG3 := Lib.hid (ext_trans HE.out hg3); clear hg3)
             | (go_at_call 68; refine (P _ HG3.out).mono ?_; rintro e w4 ⟨rfl, hg4⟩; have HG4 := Lib.hid (ext_trans HG3.out hg4); clear hg4)
             | (go_at_call 66; refine (B _ HG4.out).mono ?_; rintro e w5 ⟨rfl, hg5⟩; have HG5 := Lib.hid (ext_trans HG4.out hg5); clear hg5))
           go_roundw
           case rel => exact ⟨k + 1, by omega, by go_num, fun j hj => by
             by_cases e : j = k
             · rw [e]; exact E1.out
             · exact HF.out j (by omega), HG5.out⟩
           case measure => simp [intOf]; omega
       · have h2' : ¬ (x : Int) < pg := by omega
         rw [decide_eq_true h1, decide_eq_false h2] at e1
         have E1 := Lib.hid e1
         clear e1
         go_wp2_with (first
           | (go_at_call 113; refine N.mono ?_; rintro e w3 ⟨rfl, hg3⟩; have HG3 := Lib.hid (ext_trans HE.out hg3); clear hg3)
           | (go_at_call 68; refine (P _ HG3.out).mono ?_; rintro e w4 ⟨rfl, hg4⟩; have HG4 := Lib.hid (ext_trans HG3.out hg4); clear hg4))
         go_roundw
         case rel => exact ⟨k + 1, by omega, by go_num, fun j hj => by
           by_cases e : j = k
           · rw [e]; exact E1.out
           · exact HF.out j (by omega), HG4.out⟩
         case measure => simp [intOf]; omega
     · have h1' : ¬ (0 : Int) < x := by omega
       rw [decide_eq_false h1] at e1
       have E1 := Lib.hid e1
       clear e1
       go_wp2_with (go_at_call 113; refine N.mono ?_; rintro e w3 ⟨rfl, hg3⟩; have HG3 := Lib.hid (ext_trans HE.out hg3); clear hg3)
       go_roundw
       case rel => exact ⟨k + 1, by omega, by go_num, fun j hj => by
         by_cases e : j = k
         · rw [e]; exact E1.out
         · exact HF.out j (by omega), HG3.out⟩
       case measure => simp [intOf]; omega
   · obtain rfl : k = n := by omega
     clear hE
     go_wp2
     go_ret
     exact ⟨by rw [EN.out HF.out]; rfl, HE.out⟩
end
end Go.Proofs.YtdnpdoipipfkoaaGreatDoor
