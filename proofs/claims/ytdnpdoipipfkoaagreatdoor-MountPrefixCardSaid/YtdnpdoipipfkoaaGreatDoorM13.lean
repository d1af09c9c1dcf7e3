/-
  Texts put together: JB JC JF JD JG.
-/
import Derived.Test.YtdnpdoipipfkoaaGreatDoorM12
import Derived.Test.YtdnpdoipipfkoaaGreatDoorM06
import Derived.Test.YtdnpdoipipfkoaaGreatDoorM10
namespace Go.Proofs.YtdnpdoipipfkoaaGreatDoor
set_option linter.unusedVariables false
set_option linter.unusedSimpArgs false
set_option linter.unusedVariables false
set_option linter.unusedSimpArgs false
set_option maxRecDepth 100000
open Go.RowKit
section
variable {ops : Array Oper} {rest : List Oper} {o : Oper} {a : Act} {w : World} {Q : Exit → Act → World → Prop}
theorem append_int18 (hgd : o.guard = none) (s x : Operand) (ho : o.op = .call { callee := .builtin .append, args := #[s, x], argTypes := #[22, 22] }) (base : Nat) (v : Value) (xs : List Int) (n : Nat) (hn : xs.length = n) (hs : a.eval s = v) (hown : w.ownsRow base 3 1 v n (xs.map (Value.int .i64)))
   (ad : Addr) (cap : Nat) (y : Int) (hx : a.eval x = .slice (some ad) 1 cap) (hc : w.cell? ad = some (.int .i64 y)) (h63 : n ≤ 1000000) (hbase : base ≤ w.heap.size)
   (h : ∀ v' w', w'.ownsRow base 3 1 v' (n + 1) ((xs ++ [y]).map (Value.int .i64)) → w.grownBy w' v.ownBlock → wpList Tryz.prog ops Q rest (a.put o.dst v') w') : wpList Tryz.prog ops Q (o :: rest) a w := by
 obtain ⟨i0, hi, hz0, hz1, hz2⟩ := info_parts Tryz.infoInt
 refine wpList_append_own w hgd s x 22 ho base 3 i0 (.int .i64 0) 1 8 Tryz.underlying22 hi hz0 hz1 hz2 rfl (by decide) v n _ hs hown ad 1 cap [.int .i64 y] hx rfl (fun j u hj => ?_) (by simp [Value.oneCell']) (by unfold maxLen; omega) (by omega) hbase ?_
 · match j, hj with
   | 0, hj => simp at hj; subst hj; simpa [Addr.add] using hc
   | j + 1, hj => simp at hj
 · intro v' w' h1 h2 _
   exact h v' w' (by rw [List.map_append]; exact h1) h2
end
def RowI (w : World) (L : List Int) (e : Ending) (w' : World) : Prop := (∃ v, e = .returned v ∧ w'.ownsRow w.heap.size 3 1 v L.length (L.map (Value.int .i64))) ∧ w.grownBy w' none
theorem own_kept18 {w0 w w' : World} {B : Nat} {e : TypeId} {sz : Nat} {v : Value} {n : Nat} {xs : List Value} (h : w.ownsRow B e sz v n xs) (hE : w0.grownBy w none) (hg : w.grownBy w' v.ownBlock) (hB : w0.heap.size ≤ B) : w0.grownBy w' none := own_ext17 h hE hg hB
theorem owns_some18 {w : World} {B : Nat} {e : TypeId} {sz : Nat} {v : Value} {n : Nat} {xs : List Value} (h : w.ownsRow B e sz v n xs) (hn : 0 < n) : ∃ g cap, v = .slice (some ⟨g, 0, none⟩) n cap := by
 rcases h.2 with ⟨_, h0⟩ | ⟨g, cap, cur, hv, _⟩
 · omega
 · exact ⟨g, cap, hv⟩
def badK (c : SC) (m : SM) (k : Nat) : Nat := ((List.range k).filter (badB c m)).length
theorem badK_succ (c : SC) (m : SM) (k : Nat) : badK c m (k + 1) = if badB c m k then badK c m k + 1 else badK c m k := by
 unfold badK
 rw [List.range_succ, List.filter_append, List.length_append]
 by_cases h : badB c m k <;> simp [h]
theorem badK_le (c : SC) (m : SM) (k : Nat) : badK c m k ≤ k := by
 unfold badK
 have h := List.length_filter_le (badB c m) (List.range k)
 rw [List.length_range] at h
 exact h
def freeK (c : SC) (m : SM) (k : Nat) : List Int := List.map (fun b : Nat => (b : Int)) ((List.range k).filter (freeB c m))
theorem freeK_succ (c : SC) (m : SM) (k : Nat) : freeK c m (k + 1) = if freeB c m k then freeK c m k ++ [(k : Int)] else freeK c m k := by
 unfold freeK
 rw [List.range_succ, List.filter_append, List.map_append]
 by_cases h : freeB c m k <;> simp [h]
theorem freeK_len (c : SC) (m : SM) (k : Nat) : (freeK c m k).length ≤ k := by
 unfold freeK
 rw [List.length_map]
 have h := List.length_filter_le (freeB c m) (List.range k)
 rw [List.length_range] at h
 exact h
def worthK (c : SC) (m : SM) (k : Nat) : List Int := List.map (fun b : Nat => if mayS c m b then (worthN m.rs b : Int) else -1) (List.range k)
theorem worthK_succ (c : SC) (m : SM) (k : Nat) : worthK c m (k + 1) = worthK c m k ++ [if mayS c m k then (worthN m.rs k : Int) else -1] := by
 unfold worthK
 rw [List.range_succ, List.map_append]
 rfl
theorem worthK_len (c : SC) (m : SM) (k : Nat) : (worthK c m k).length = k := by simp [worthK]
section
variable {w w' : World} {p : SP} {c : SC} {m : SM}
set_option maxHeartbeats 800000 in
theorem bad18 (h : StAt w p c m) (ok : StOk p c) : Calls Tryz.prog 154 #[.pointer (some ⟨p.sb, 0, none⟩)] w fun e w' => e = .returned (.int .i64 (badN c m : Nat)) ∧ w.grownBy w' none := by
 have IB := Lib.hid (fun (wx : World) (hE : w.grownBy wx none) (b : Nat) (hb : b < c.bl.length) => isBad18 (h.ext ok hE) ok hb)
 obtain ⟨_, _, _, _, _, c6, _⟩ := h.cells
 obtain ⟨ao, cap, g, off, hv, _⟩ := h.iv.form
 rw [hv] at c6
 have hbl := ok.bl
 show Calls _ _ _ _ fun e w' => e = .returned (.int .i64 (badK c m c.bl.length : Nat)) ∧ w.grownBy w' none
 generalize c.bl.length = n at *
 have BL := badK_le c m
 clear h hv ok
 go_enter Tryz.func154, Tryz.ntmps154
 go_wp2
 clear c6
 go_loopw [3, 13] (fun s i wr => ∃ k : Nat, k ≤ n ∧ i = .int .i64 k ∧ s = .int .i64 (badK c m k : Nat) ∧ w.grownBy wr none) (fun _ i _ => n - (intOf i).toNat)
 case atStart => exact ⟨0, by omega, rfl, rfl, Ext.refl w⟩
 case round =>
   obtain ⟨k, hk, rfl, rfl, hE⟩ := hrel
   have HE := Lib.hid hE
   have hbk := BL k
   by_cases hlt : k < n
   · have B := IB.out _ hE k hlt
     have hs := badK_succ c m k
     generalize badB c m k = y at B hs
     generalize badK c m k = q at *
     have HS := Lib.hid hs
     clear hE hs
     cases y
     all_goals
       go_wp2_with (go_at_call 66; refine B.mono ?_; rintro e w3 ⟨rfl, hg3⟩; have HG3 := Lib.hid (ext_trans HE.out hg3); clear hg3)
       go_roundw
       case rel => exact ⟨k + 1, by omega, by go_num, by rw [HS.out]; first | rfl | (simp; done) | go_num, HG3.out⟩
       case measure => simp [intOf]; omega
   · obtain rfl : k = n := by omega
     clear hE
     go_wp2
     go_ret
     exact ⟨rfl, HE.out⟩
theorem spares18 (h : StAt w p c m) (ok : StOk p c) (hs : -9223372036854775000 ≤ c.sp ∧ c.sp ≤ 9223372036854775000) : Calls Tryz.prog 128 #[.pointer (some ⟨p.sb, 0, none⟩)] w fun e w' => e = .returned (.int .i64 (sprN c m)) ∧ w.grownBy w' none := by
 have B := bad18 h ok
 have C5 := Lib.hid (fun (wx : World) (hE : w.grownBy wx none) => (h.ext ok hE).cells.2.2.2.2.1)
 have hbl := ok.bl
 have hle := badK_le c m c.bl.length
 have hbn : badN c m = badK c m c.bl.length := rfl
 unfold sprN
 generalize badN c m = q at *
 generalize c.sp = s at *
 clear h ok
 by_cases h0 : s < q
 · rw [if_pos h0]
   go_enter Tryz.func128, Tryz.ntmps128
   go_wp2_with (go_at_call 154; refine B.mono ?_; rintro e w1 ⟨rfl, hg⟩; have c5 := C5.out _ hg)
   go_ret
   exact ⟨ret_int13 (by omega), hg⟩
 · rw [if_neg h0]
   go_enter Tryz.func128, Tryz.ntmps128
   go_wp2_with (go_at_call 154; refine B.mono ?_; rintro e w1 ⟨rfl, hg⟩; have c5 := C5.out _ hg)
   go_ret
   exact ⟨ret_int13 (by omega), hg⟩
set_option maxHeartbeats 1600000 in
theorem free18 (h : StAt w p c m) (ok : StOk p c) : Calls Tryz.prog 127 #[.pointer (some ⟨p.sb, 0, none⟩)] w (RowI w (freeL c m)) := by
 have IB := Lib.hid (fun (wx : World) (hE : w.grownBy wx none) (b : Nat) (hb : b < c.bl.length) => isBad18 (h.ext ok hE) ok hb)
 have IK := Lib.hid (fun (wx : World) (hE : w.grownBy wx none) (b : Nat) (hb : b < c.bl.length) => isBlank18 (h.ext ok hE) ok hb)
 have CT := Lib.hid (fun (wx : World) (hE : w.grownBy wx none) => (h.ext ok hE).cells.2.2.2.2.2.2.2.2.2.1)
 obtain ⟨_, _, _, _, _, c6, _⟩ := h.cells
 obtain ⟨ao, cap, g, off, hv, _⟩ := h.iv.form
 rw [hv] at c6
 have hbl := ok.bl
 show Calls _ _ _ _ (RowI w (freeK c m c.bl.length))
 generalize c.bl.length = n at *
 have BL := freeK_len c m
 clear h hv ok
 go_enter Tryz.func127, Tryz.ntmps127
 go_wp2
 clear c6
 go_loopw [3, 13] (fun s i wr => ∃ k : Nat, k ≤ n ∧ i = .int .i64 k ∧ wr.ownsRow w.heap.size 3 1 s (freeK c m k).length ((freeK c m k).map (Value.int .i64)) ∧ w.grownBy wr none) (fun _ i _ => n - (intOf i).toNat)
 case atStart => exact ⟨0, by omega, rfl, ⟨by simp [freeK], .inl ⟨rfl, rfl⟩⟩, Ext.refl w⟩
 case round =>
   obtain ⟨k, hk, rfl, hown, hE⟩ := hrel
   rename_i v13 v3
   obtain ⟨ro, rc, hv3⟩ := owns_slice17 hown
   subst hv3
   have hlen := BL k
   obtain ⟨L, hL⟩ : ∃ L, freeK c m k = L := ⟨_, rfl⟩
   rw [hL] at hown hlen ⊢
   obtain ⟨ln, hln⟩ : ∃ z, L.length = z := ⟨_, rfl⟩
   rw [hln] at hown hlen ⊢
   have HO := Lib.hid (And.intro hown (And.intro hE (And.intro hL hln)))
   obtain ⟨wo, rfl⟩ : ∃ wo : World, wo = wr := ⟨_, rfl⟩
   by_cases hlt : k < n
   · have B1 := IB.out _ hE k hlt
     have B2 := fun wx hx => IK.out wx hx k hlt
     have B3 := fun wx hx => IB.out wx hx k hlt
     have ct := CT.out _ hE
     have hs := freeK_succ c m k
     rw [hL] at hs
     unfold freeB at hs
     obtain ⟨x0, hx0⟩ : ∃ z, decide ((k : Int) ≠ m.fr) = z := ⟨_, rfl⟩
     rw [hx0] at hs
     have hx0' : ((k : Int) != m.fr) = x0 := by rw [← hx0]; by_cases e : (k : Int) = m.fr <;> simp [e]
     generalize m.fr = fr at *
     generalize decide (nextB c m k = 0) = x1 at *
     generalize badB c m k = x2 at *
     obtain ⟨y0, hy0⟩ : ∃ z, (x0 && (x1 && !x2)) = z := ⟨_, rfl⟩
     have HS := Lib.hid (show freeK c m (k + 1) = if (x0 && (x1 && !x2)) then L ++ [(k : Int)] else L from hs)
     clear hs hown hE hx0 hy0 y0
     cases x0
     · clear B1 B2
       go_wp2
       go_roundw
       case rel => exact ⟨k + 1, by omega, by go_num, by rw [HS.out]; simp [HO.out.2.2.2]; exact HO.out.1, HO.out.2.1⟩
       case measure => simp [intOf]; omega
     · cases x1
       · clear B1
         go_wp2_with (go_at_call 65; refine (B2 _ HO.out.2.1).mono ?_; rintro e w3 ⟨rfl, hg3⟩; have HG3 := Lib.hid hg3; clear hg3)
         go_roundw
         case rel => exact ⟨k + 1, by omega, by go_num, by rw [HS.out]; simp [HO.out.2.2.2]; exact HO.out.1.kept HG3.out (Classical.em _), ext_trans HO.out.2.1 HG3.out⟩
         case measure => simp [intOf]; omega
       · have B4 := B3
         clear B1 B3
         cases x2
         · go_upto_region 7 with (first
             | (go_at_call 65; refine (B2 _ HO.out.2.1).mono ?_; rintro e w3 ⟨rfl, hg3⟩; have HG3 := Lib.hid (And.intro hg3 (ext_trans HO.out.2.1 hg3)); clear hg3)
             | (go_at_call 66; refine (B4 _ HG3.out.2).mono ?_; rintro e w4 ⟨rfl, hg4⟩; have HG4 := Lib.hid (And.intro (ext_trans HG3.out.1 hg4) (ext_trans HG3.out.2 hg4)); clear hg4))
           have hown := (HO.out.1.kept HG4.out.1 (Classical.em _)).alloc (.cells #[.int .i64 k] 3)
           go_wp2_with (at_builtin; go_loud (refine append_int18 rfl _ _ rfl w.heap.size (.slice ro ln rc) L ln HO.out.2.2.2 rfl hown ⟨w4.heap.size, 0, none⟩ 1 k rfl (by simp) (by omega) (by have := HG4.out.2.size; simp; omega) ?_; intro v' w7 hrow' hg'; have hE7 := Lib.hid (own_alloc17 HG4.out.1 hg'); obtain ⟨ao7, cap7, hv7⟩ := owns_slice17 hrow'; subst hv7))
           go_roundw
           case rel =>
             refine ⟨k + 1, by omega, by go_num, ?_, own_ext17 HO.out.1 HO.out.2.1 hE7.out (Nat.le_refl _)⟩
             rw [HS.out]
             show World.ownsRow _ _ _ _ _ (L ++ [(k : Int)]).length _
             rw [List.length_append, HO.out.2.2.2]
             exact hrow'
           case measure => simp [intOf]; omega
         · go_wp2_with (first
             | (go_at_call 65; refine (B2 _ HO.out.2.1).mono ?_; rintro e w3 ⟨rfl, hg3⟩; have HG3 := Lib.hid (And.intro hg3 (ext_trans HO.out.2.1 hg3)); clear hg3)
             | (go_at_call 66; refine (B4 _ HG3.out.2).mono ?_; rintro e w4 ⟨rfl, hg4⟩; have HG4 := Lib.hid (And.intro (ext_trans HG3.out.1 hg4) (ext_trans HG3.out.2 hg4)); clear hg4))
           go_roundw
           case rel => exact ⟨k + 1, by omega, by go_num, by rw [HS.out]; simp [HO.out.2.2.2]; exact HO.out.1.kept HG4.out.1 (Classical.em _), HG4.out.2⟩
           case measure => simp [intOf]; omega
   · obtain rfl : k = n := by omega
     clear hown hE
     go_wp2
     go_ret
     have := HO.out.1
     refine ⟨⟨_, rfl, ?_⟩, HO.out.2.1⟩
     rw [HO.out.2.2.1, HO.out.2.2.2]
     exact this
theorem give18 (h : StAt w p c m) (ok : StOk p c) : Calls Tryz.prog 102 #[.pointer (some ⟨p.sb, 0, none⟩)] w fun e w' => e = .returned (.tuple #[.int .i64 ((freeL c m).headD 0), .bool (!(freeL c m).isEmpty)]) ∧ w.grownBy w' none := by
 have F := free18 h ok
 have hlen := freeK_len c m c.bl.length
 have hbl := ok.bl
 have hL : freeL c m = freeK c m c.bl.length := rfl
 rw [← hL] at hlen
 generalize freeL c m = L at *
 clear h ok hL
 match L, F, hlen with
 | [], F, _ =>
   go_enter Tryz.func102, Tryz.ntmps102
   go_wp2_with (go_at_call 127; refine F.mono ?_; rintro e w1 ⟨⟨v, rfl, hown⟩, hg⟩; obtain ⟨ao, cp, rfl⟩ := owns_slice17 hown)
   go_returns
   exact ⟨rfl, hg⟩
 | x :: L, F, hlen =>
   have hn : ((x :: L).length : Int) ≠ 0 := by simp only [List.length_cons]; omega
   have hz : (((x :: L).length : Int) == 0) = false := by simpa using hn
   have hp : 0 < (x :: L).length := by simp
   have HL := Lib.hid (show (List.map (Value.int .i64) (x :: L))[0]? = some (.int .i64 x) from rfl)
   obtain ⟨n, hl⟩ : ∃ n, (x :: L).length = n := ⟨_, rfl⟩
   unfold RowI at F
   rw [hl] at F hz hp
   clear hl hn hlen
   go_enter Tryz.func102, Tryz.ntmps102
   go_wp2_with (go_at_call 127; refine F.mono ?_; rintro e w1 ⟨⟨v, rfl, hown⟩, hg⟩; obtain ⟨gg, cp, rfl⟩ := owns_some18 hown hp; have cx : w1.cell? ⟨gg, 0, none⟩ = some (.int .i64 x) := (show w1.cell? ⟨gg, 0 + 0, none⟩ = _ from by have h5 := hown.cells (g := gg) rfl 0 _ HL.out; rwa [addr_add] at h5))
   go_returns
   exact ⟨rfl, hg⟩
set_option maxHeartbeats 1600000 in
theorem may18 (h : StAt w p c m) (ok : StOk p c) {b : Nat} (hb : b < c.bl.length) : Calls Tryz.prog 35 #[.pointer (some ⟨p.sb, 0, none⟩), .int .i64 (b : Int)] w fun e w' => e = .returned (.bool (mayS c m b)) ∧ w.grownBy w' none := by
 have B1 := fun (wx : World) (hE : w.grownBy wx none) => isBad18 (h.ext ok hE) ok hb
 have B2 := fun (wx : World) (hE : w.grownBy wx none) => isBlank18 (h.ext ok hE) ok hb
 have B3 := fun (wx : World) (hE : w.grownBy wx none) => tabWorth (h.ext ok hE).tb (b : Int)
 have B4 := fun (wx : World) (hE : w.grownBy wx none) => pages18 (h.ext ok hE) ok
 have C7 := Lib.hid (fun (wx : World) (hE : w.grownBy wx none) => (h.ext ok hE).cells.2.2.2.2.2.2.1)
 have HE := Lib.hid (Ext.refl w)
 unfold mayS
 generalize decide (nextB c m b = 0) = x1 at *
 generalize badB c m b = x2 at *
 generalize worthN m.rs b = wv at *
 generalize c.S.pg = pg at *
 clear h ok hb
 cases x1
 · cases x2
   · by_cases hlt : wv < pg
     · rw [decide_eq_true hlt]
       have hlt' : (wv : Int) < pg := by omega
       go_enter Tryz.func35, Tryz.ntmps35
       go_wp2_with (first
         | (go_at_call 65; refine (B2 _ HE.out).mono ?_; rintro e w3 ⟨rfl, hg3⟩; have HG3 := Lib.hid hg3; clear hg3)
         | (go_at_call 66; refine (B1 _ HG3.out).mono ?_; rintro e w4 ⟨rfl, hg4⟩; have HG4 := Lib.hid (ext_trans HG3.out hg4); have c7 := C7.out _ HG4.out; clear hg4)
         | (go_at_call 67; refine (B3 _ HG4.out).mono ?_; rintro e w5 ⟨rfl, rfl⟩)
         | (go_at_call 68; refine (B4 _ HG4.out).mono ?_; rintro e w6 ⟨rfl, hg6⟩; have HG6 := Lib.hid (ext_trans HG4.out hg6); clear hg6))
       go_ret
       exact ⟨rfl, HG6.out⟩
     · rw [decide_eq_false hlt]
       have hlt' : ¬ (wv : Int) < pg := by omega
       go_enter Tryz.func35, Tryz.ntmps35
       go_wp2_with (first
         | (go_at_call 65; refine (B2 _ HE.out).mono ?_; rintro e w3 ⟨rfl, hg3⟩; have HG3 := Lib.hid hg3; clear hg3)
         | (go_at_call 66; refine (B1 _ HG3.out).mono ?_; rintro e w4 ⟨rfl, hg4⟩; have HG4 := Lib.hid (ext_trans HG3.out hg4); have c7 := C7.out _ HG4.out; clear hg4)
         | (go_at_call 67; refine (B3 _ HG4.out).mono ?_; rintro e w5 ⟨rfl, rfl⟩)
         | (go_at_call 68; refine (B4 _ HG4.out).mono ?_; rintro e w6 ⟨rfl, hg6⟩; have HG6 := Lib.hid (ext_trans HG4.out hg6); clear hg6))
       go_ret
       exact ⟨rfl, HG6.out⟩
   · go_enter Tryz.func35, Tryz.ntmps35
     go_wp2_with (first
       | (go_at_call 65; refine (B2 _ HE.out).mono ?_; rintro e w3 ⟨rfl, hg3⟩; have HG3 := Lib.hid hg3; clear hg3)
       | (go_at_call 66; refine (B1 _ HG3.out).mono ?_; rintro e w4 ⟨rfl, hg4⟩; have HG4 := Lib.hid (ext_trans HG3.out hg4); clear hg4))
     go_ret
     exact ⟨rfl, HG4.out⟩
 · go_enter Tryz.func35, Tryz.ntmps35
   go_wp2_with (go_at_call 65; refine (B2 _ HE.out).mono ?_; rintro e w3 ⟨rfl, hg3⟩; have HG3 := Lib.hid hg3; clear hg3)
   go_ret
   exact ⟨rfl, HG3.out⟩
set_option maxHeartbeats 1600000 in
theorem worths18 (h : StAt w p c m) (ok : StOk p c) : Calls Tryz.prog 130 #[.pointer (some ⟨p.sb, 0, none⟩)] w (RowI w (worthL c m)) := by
 have MB := Lib.hid (fun (wx : World) (hE : w.grownBy wx none) (b : Nat) (hb : b < c.bl.length) => may18 (h.ext ok hE) ok hb)
 have WB := Lib.hid (fun (wx : World) (hE : w.grownBy wx none) (b : Nat) => tabWorth (h.ext ok hE).tb (b : Int))
 have C7 := Lib.hid (fun (wx : World) (hE : w.grownBy wx none) => (h.ext ok hE).cells.2.2.2.2.2.2.1)
 obtain ⟨_, _, _, _, _, c6, _⟩ := h.cells
 obtain ⟨ao, cap, g, off, hv, _⟩ := h.iv.form
 rw [hv] at c6
 have hbl := ok.bl
 show Calls _ _ _ _ (RowI w (worthK c m c.bl.length))
 generalize c.bl.length = n at *
 have BL := worthK_len c m
 clear h hv ok
 go_enter Tryz.func130, Tryz.ntmps130
 go_wp2
 clear c6
 go_loopw [3, 11] (fun s i wr => ∃ k : Nat, k ≤ n ∧ i = .int .i64 k ∧ wr.ownsRow w.heap.size 3 1 s (worthK c m k).length ((worthK c m k).map (Value.int .i64)) ∧ w.grownBy wr none) (fun _ i _ => n - (intOf i).toNat)
 case atStart => exact ⟨0, by omega, rfl, ⟨by simp [worthK], .inl ⟨rfl, rfl⟩⟩, Ext.refl w⟩
 case round =>
   obtain ⟨k, hk, rfl, hown, hE⟩ := hrel
   rename_i v13 v3
   obtain ⟨ro, rc, hv3⟩ := owns_slice17 hown
   subst hv3
   have hlen := BL k
   obtain ⟨L, hL⟩ : ∃ L, worthK c m k = L := ⟨_, rfl⟩
   rw [hL] at hown hlen ⊢
   rw [hlen] at hown ⊢
   have HO := Lib.hid (And.intro hown (And.intro hE (And.intro hL hlen)))
   obtain ⟨wo, rfl⟩ : ∃ wo : World, wo = wr := ⟨_, rfl⟩
   by_cases hlt : k < n
   · have B1 := MB.out _ hE k hlt
     have B2 := fun wx hx => WB.out wx hx k
     have hs := worthK_succ c m k
     rw [hL] at hs
     generalize mayS c m k = x1 at *
     generalize worthN m.rs k = wv at *
     have HS := Lib.hid hs
     clear hs hown hE
     cases x1
     · go_upto_region 7 with (go_at_call 35; refine B1.mono ?_; rintro e w4 ⟨rfl, hg4⟩; have HG4 := Lib.hid (And.intro hg4 (ext_trans HO.out.2.1 hg4)); clear hg4)
       have hown := (HO.out.1.kept HG4.out.1 (Classical.em _)).alloc (.cells #[.int .i64 (-1)] 3)
       go_wp2_with (at_builtin; go_loud (refine append_int18 rfl _ _ rfl w.heap.size (.slice ro k rc) L k HO.out.2.2.2 rfl hown ⟨w4.heap.size, 0, none⟩ 1 (-1) rfl (by simp) (by omega) (by have := HG4.out.2.size; simp; omega) ?_; intro v' w7 hrow' hg'; have hE7 := Lib.hid (own_alloc17 HG4.out.1 hg'); obtain ⟨ao7, cap7, hv7⟩ := owns_slice17 hrow'; subst hv7))
       go_roundw
       case rel =>
         refine ⟨k + 1, by omega, by go_num, ?_, own_ext17 HO.out.1 HO.out.2.1 hE7.out (Nat.le_refl _)⟩
         rw [HS.out]
         show World.ownsRow _ _ _ _ _ (L ++ [-1]).length _
         rw [List.length_append, HO.out.2.2.2]
         exact hrow'
       case measure => simp [intOf]; omega
     · go_upto_region 6 with (go_at_call 35; refine B1.mono ?_; rintro e w4 ⟨rfl, hg4⟩; have HG4 := Lib.hid (And.intro hg4 (ext_trans HO.out.2.1 hg4)); have c7 := C7.out _ HG4.out.2; clear hg4)
       have hown := (HO.out.1.kept HG4.out.1 (Classical.em _)).alloc (.cells #[.int .i64 wv] 3)
       have B3 := B2 _ HG4.out.2
       go_wp2_with (first
         | (go_at_call 67; refine B3.mono ?_; rintro e w5 ⟨rfl, rfl⟩)
         | (at_builtin; go_loud (refine append_int18 rfl _ _ rfl w.heap.size (.slice ro k rc) L k HO.out.2.2.2 rfl hown ⟨w4.heap.size, 0, none⟩ 1 (wv : Int) rfl (by simp) (by omega) (by have := HG4.out.2.size; simp; omega) ?_; intro v' w7 hrow' hg'; have hE7 := Lib.hid (own_alloc17 HG4.out.1 hg'); obtain ⟨ao7, cap7, hv7⟩ := owns_slice17 hrow'; subst hv7)))
       go_roundw
       case rel =>
         refine ⟨k + 1, by omega, by go_num, ?_, own_ext17 HO.out.1 HO.out.2.1 hE7.out (Nat.le_refl _)⟩
         rw [HS.out]
         show World.ownsRow _ _ _ _ _ (L ++ [(wv : Int)]).length _
         rw [List.length_append, HO.out.2.2.2]
         exact hrow'
       case measure => simp [intOf]; omega
   · obtain rfl : k = n := by omega
     clear hown hE
     go_wp2
     go_ret
     have := HO.out.1
     refine ⟨⟨_, rfl, ?_⟩, HO.out.2.1⟩
     rw [HO.out.2.2.1, HO.out.2.2.2]
     exact this
end
end Go.Proofs.YtdnpdoipipfkoaaGreatDoor

namespace Go.Proofs.YtdnpdoipipfkoaaGreatDoor
set_option linter.unusedVariables false
set_option linter.unusedSimpArgs false
set_option linter.unusedVariables false
set_option linter.unusedSimpArgs false
set_option maxRecDepth 100000
open Go.RowKit
section
variable {w w' : World} {p : SP} {c : SC} {m : SM}
theorem one18 (h : StAt w p c m) (ok : StOk p c) {k : Int} (wf : Wf c m k) (b pg : Int) : Calls Tryz.prog 91 #[.pointer (some ⟨c.S.nb, 0, none⟩), p.bv, .int .i64 b, .int .i64 pg] w (FoundP w (oneF c m.n b pg) (oneE c m.n b pg)) := by
 have hbl := ok.bl
 refine (one16_any h.nd ok.R h.fl wf.bs (fun i j => by have := wf.bn i j; omega) p.bv c.bl h.iv (by omega) b pg).mono fun e w' hp => ?_
 unfold oneF oneE SC.ph
 split at hp
 · rename_i hi
   rw [if_pos hi, if_pos hi]; exact hp
 · rename_i hi
   rw [if_neg hi, if_neg hi]; exact hp
def OneS (w : World) (f : Fnd) (fb : Nat) (wx : World) : Prop := Blk wx fb 108 (fndC f) ∧ w.grownBy wx none ∧ w.heap.size ≤ fb
set_option maxHeartbeats 3200000 in
theorem find18 (h : StAt w p c m) (ok : StOk p c) {k : Int} (wf : Wf c m k) (b pg : Int) : Calls Tryz.prog 43 #[.pointer (some ⟨p.sb, 0, none⟩), .int .i64 b, .int .i64 pg] w (FoundP w (fdF c m.n b pg) (fdE c m.n b pg)) := by
 have ON := fun (wx : World) (hE : w.grownBy wx none) => one18 (h.ext ok hE) ok wf b pg
 have hsb := h.bk.lt
 obtain ⟨c0, _, _, _, _, c6, _⟩ := h.cells
 obtain ⟨ao, n, cap, hv⟩ := h.vform
 rw [hv] at c6 ON
 unfold fdF fdE
 generalize oneF c m.n b pg = f at *
 generalize oneE c m.n b pg = er at *
 obtain ⟨F, hF⟩ : ∃ z, (if er = 0 ∧ f.torn = true then noF else f) = z := ⟨_, rfl⟩
 obtain ⟨E, hE⟩ : ∃ z, (if er = 0 ∧ f.torn = true then (11 : Int) else er) = z := ⟨_, rfl⟩
 rw [hF, hE]
 have HFE := Lib.hid (And.intro hF hE)
 clear hF hE
 have hE1 := World.grownBy_alloc w (.cells (fndC noF) 108) none
 have HR1 := Lib.hid (And.intro hE1 (Blk.new w 108 (fndC noF)))
 have HC := Lib.hid (show ∀ y, SeeB w [p.sb] y → y.cell? ⟨p.sb, 0, none⟩ = some (.pointer (some ⟨c.S.nb, 0, none⟩)) ∧ y.cell? ⟨p.sb, 6, none⟩ = some (.slice ao n cap) from fun y hy => ⟨hy.cell (by simp) c0, hy.cell (by simp) c6⟩)
 have SE := Lib.hid (show ∀ y, w.grownBy y none → SeeB w [p.sb] y from fun y hy => SeeB.of_ext hy (by simpa using hsb))
 clear h hv ok wf c0 c6 hsb hE1
 have hE1 := HR1.out.1
 obtain ⟨rb, hrb⟩ : ∃ z, w.heap.size = z := ⟨_, rfl⟩
 have HRB := Lib.hid hrb
 go_enter Tryz.func43, Tryz.ntmps43
 go_upto_region 1 with fail
 obtain ⟨w1, hw1⟩ : ∃ y, w.alloc (.cells #[.int .i64 0, .int .i64 0, .bool false, .int .i64 0, .int .i64 0, .int .i64 0, .int .i64 0, .int .i64 0, .bool false, .string ⟨#[]⟩] 108) = y := ⟨_, rfl⟩
 have hE1 : w.grownBy w1 none := by rw [← hw1]; exact HR1.out.1
 have HB1 := Lib.hid (show Blk w1 w.heap.size 108 (fndC noF) by rw [← hw1]; exact HR1.out.2)
 have HE1 := Lib.hid hE1
 rw [hw1]
 clear hw1 HR1
 go_cut [8, 9] (fun s8 s9 wx => ∃ fb, s8 = .pointer (some ⟨fb, 0, none⟩) ∧ s9 = .int .i64 er ∧ OneS w1 f fb wx)
 case first =>
   have hS : SeeB w [p.sb] w1.drew := SE.out _ (drewE hE1)
   refine region_tree (.read 0 (.read 1 (.read 2 (.read 3 (.read 4 (.read 5 (.read 6 (.read 7 (.read 8 (.read 9 (.read 10 (.two 11 15 (.read 12 (.read 13 (.read 14 (.one 15 (.one 16 (.read 17 .done)))))) (.one 11 (.read 12 (.read 13 (.read 14 (.one 16 (.read 17 .done)))))))))))))))))) (SeeB w [p.sb]) (by kernel_rfl) (by kernel_rfl) (fun _ _ _ d _ h => by cases d <;> exact h) hS ?_
   repeat (refine tree_read (a' := ?_) rfl (by kernel_rfl) (by kernel_rfl) hS (fun y hy K hK => ?_) ?_; rotate_left; · obtain ⟨c0, c6⟩ := HC.out y hy; go_wp2; exact hK)
   refine tree_two ?_ ?_
   · refine tree_one (by rfl) (fun K hK => ?_)
     go_wp2_with (go_at_call 91; refine (ON _ (drewE hE1)).mono ?_; rintro e w2 ⟨rfl, hg2⟩)
     have hg12 : w1.grownBy w2 none := ⟨hg2.os, hg2.tape, hg2.output, hg2.size, hg2.block⟩
     have hS2 := SE.out _ (ext_trans hE1 hg12)
     refine hK _ _ (SeeB w [p.sb]) hS2 (fun _ h => h) ?_
     clear hK K
     repeat (refine tree_read (a' := ?_) rfl (by kernel_rfl) (by kernel_rfl) hS2 (fun y hy K hK => ?_) ?_; rotate_left; · go_wp2; exact hK)
     refine tree_one (by rfl) (fun K hK => ?_)
     go_wp2
     have hB3 := Blk.new w2 108 (fndC noF)
     have hg3 := World.grownBy_alloc w2 (.cells (fndC noF) 108) none
     refine hK _ _ (SeeB w [p.sb]) (SE.out _ (ext_trans (ext_trans hE1 hg12) hg3)) (fun _ h => h) ?_
     clear hK K
     refine tree_one (by rfl) (fun K hK => ?_)
     go_wp2_with (refine fnd_store (f := f) _ _ rfl rfl rfl hB3 rfl rfl ?_; intro w4 hb4 hg4 hs4)
     have hE4 : w1.grownBy w4 none := g17_new (ext_trans hg12 hg3) hg4 hg12.size
     have hS4 := SE.out _ (ext_trans hE1 hE4)
     refine hK _ _ (SeeB w [p.sb]) hS4 (fun _ h => h) ?_
     clear hK K
     repeat (refine tree_read (a' := ?_) rfl (by kernel_rfl) (by kernel_rfl) hS4 (fun y hy K hK => ?_) ?_; rotate_left; · go_wp2; exact hK)
     refine tree_end ?_
     go_wp2
     go_meet
     exact ⟨_, rfl, rfl, hb4, hE4, hg12.size⟩
   · refine tree_one (by rfl) (fun K hK => ?_)
     go_wp2
     have hB3 := Blk.new w1.drew 108 (fndC noF)
     have hg3 := World.grownBy_alloc w1.drew (.cells (fndC noF) 108) none
     have hg13 : w1.grownBy (w1.drew.alloc (.cells (fndC noF) 108)) none := ⟨hg3.os, hg3.tape, hg3.output, hg3.size, hg3.block⟩
     refine hK _ _ (SeeB w [p.sb]) (SE.out _ (ext_trans hE1 hg13)) (fun _ h => h) ?_
     clear hK K
     refine tree_one (by rfl) (fun K hK => ?_)
     go_wp2_with (go_at_call 91; refine (ON _ (ext_trans hE1 hg13)).mono ?_; rintro e w2 ⟨rfl, hg2⟩)
     have hB4 := hB3.ext hg2
     have hS2 := SE.out _ (ext_trans (ext_trans hE1 hg13) hg2)
     refine hK _ _ (SeeB w [p.sb]) hS2 (fun _ h => h) ?_
     clear hK K
     repeat (refine tree_read (a' := ?_) rfl (by kernel_rfl) (by kernel_rfl) hS2 (fun y hy K hK => ?_) ?_; rotate_left; · go_wp2; exact hK)
     refine tree_one (by rfl) (fun K hK => ?_)
     go_wp2_with (refine fnd_store (f := f) _ _ rfl rfl rfl hB4 rfl rfl ?_; intro w4 hb4 hg4 hs4)
     have hE4 : w1.grownBy w4 none := g17_new (ext_trans hg13 hg2) hg4 (Nat.le_refl _)
     have hS4 := SE.out _ (ext_trans hE1 hE4)
     refine hK _ _ (SeeB w [p.sb]) hS4 (fun _ h => h) ?_
     clear hK K
     repeat (refine tree_read (a' := ?_) rfl (by kernel_rfl) (by kernel_rfl) hS4 (fun y hy K hK => ?_) ?_; rotate_left; · go_wp2; exact hK)
     refine tree_end ?_
     go_wp2
     go_meet
     exact ⟨_, rfl, rfl, hb4, hE4, Nat.le_refl _⟩
 case rest =>
   obtain ⟨fb, rfl, rfl, hO⟩ := hcut
   have HO := Lib.hid hO
   have ct : wc.cell? ⟨fb, 2, none⟩ = some (.bool f.torn) := hO.1.cell 2
   have hr := hO.1.range17
   have hBr := HB1.out.ext hO.2.1
   rw [hrb] at hBr
   have hEr : w.grownBy wc none := ext_trans HE1.out hO.2.1
   have hrw : w.heap.size ≤ rb := by omega
   have HER := Lib.hid (And.intro hEr hrw)
   obtain ⟨ft, hft⟩ : ∃ z, f.torn = z := ⟨_, rfl⟩
   rw [hft] at ct
   have HFT := Lib.hid hft
   clear hO hEr hrw hft
   by_cases h0 : er = 0
   · have h0' : (er == 0) = true := by simpa using h0
     cases ft
     · have hq := HFE.out
       rw [HFT.out] at hq
       simp only [Bool.false_eq_true, and_false, if_false] at hq
       obtain ⟨rfl, rfl⟩ := hq
       clear h0
       go_wp2_with (first
         | (refine fnd_load rfl _ rfl rfl hr ?_)
         | (refine fnd_store (f := f) _ _ rfl rfl rfl hBr rfl rfl ?_; intro w4 hb4 hg4 hs4; have HG4 := Lib.hid (g17_new HER.out.1 hg4 HER.out.2); have d0 := hb4.cell 0; have d1 := hb4.cell 1; have d2 := hb4.cell 2; have d3 := hb4.cell 3; have d4 := hb4.cell 4; have d5 := hb4.cell 5; have d6 := hb4.cell 6; have d7 := hb4.cell 7; have d8 := hb4.cell 8; have d9 := hb4.cell 9; simp [fndC] at d0 d1 d2 d3 d4 d5 d6 d7 d8 d9; clear hb4 hg4))
       refine bodyPost_ret (v := .tuple #[.agg (fndC f), .int .i64 er]) (by simp [results, Tryz.results43, go_sem, fndC, d0, d1, d2, d3, d4, d5, d6, d7, d8, d9]) rfl ⟨rfl, HG4.out⟩
     · have hq := HFE.out
       rw [HFT.out] at hq
       simp only [h0, and_self, if_true] at hq
       obtain ⟨rfl, rfl⟩ := hq
       clear h0
       go_wp2_with (first
         | (refine fnd_store (f := noF) _ _ rfl rfl rfl hBr rfl rfl ?_; intro w4 hb4 hg4 hs4; have HG4 := Lib.hid (g17_new HER.out.1 hg4 HER.out.2); have d0 := hb4.cell 0; have d1 := hb4.cell 1; have d2 := hb4.cell 2; have d3 := hb4.cell 3; have d4 := hb4.cell 4; have d5 := hb4.cell 5; have d6 := hb4.cell 6; have d7 := hb4.cell 7; have d8 := hb4.cell 8; have d9 := hb4.cell 9; simp [fndC, noF] at d0 d1 d2 d3 d4 d5 d6 d7 d8 d9; clear hb4 hg4))
       refine bodyPost_ret (v := .tuple #[.agg (fndC noF), .int .i64 11]) (by simp [results, Tryz.results43, go_sem, fndC, noF, d0, d1, d2, d3, d4, d5, d6, d7, d8, d9]) rfl ⟨rfl, HG4.out⟩
   · have h0' : (er == 0) = false := by simpa using h0
     have hq := HFE.out
     simp only [h0, false_and, if_false] at hq
     obtain ⟨rfl, rfl⟩ := hq
     clear h0
     go_wp2_with (first
       | (refine fnd_load rfl _ rfl rfl hr ?_)
       | (refine fnd_store (f := f) _ _ rfl rfl rfl hBr rfl rfl ?_; intro w4 hb4 hg4 hs4; have HG4 := Lib.hid (g17_new HER.out.1 hg4 HER.out.2); have d0 := hb4.cell 0; have d1 := hb4.cell 1; have d2 := hb4.cell 2; have d3 := hb4.cell 3; have d4 := hb4.cell 4; have d5 := hb4.cell 5; have d6 := hb4.cell 6; have d7 := hb4.cell 7; have d8 := hb4.cell 8; have d9 := hb4.cell 9; simp [fndC] at d0 d1 d2 d3 d4 d5 d6 d7 d8 d9; clear hb4 hg4))
     refine bodyPost_ret (v := .tuple #[.agg (fndC f), .int .i64 er]) (by simp [results, Tryz.results43, go_sem, fndC, d0, d1, d2, d3, d4, d5, d6, d7, d8, d9]) rfl ⟨rfl, HG4.out⟩
end
end Go.Proofs.YtdnpdoipipfkoaaGreatDoor

namespace Go.Proofs.YtdnpdoipipfkoaaGreatDoor
set_option linter.unusedVariables false
set_option linter.unusedSimpArgs false
set_option linter.unusedVariables false
set_option linter.unusedSimpArgs false
set_option maxRecDepth 100000
open Go.RowKit
section
variable {w w' : World} {p : SP} {c : SC} {m : SM}
set_option maxHeartbeats 3200000 in
theorem needed18 (h : StAt w p c m) (ok : StOk p c) {k : Int} (wf : Wf c m k) (b : Int) :
   Calls Tryz.prog 101 #[.pointer (some ⟨p.sb, 0, none⟩), .int .i64 b] w (PagesP w (needR c m b c.S.pg).1 (needR c m b c.S.pg).2) := by
 have PG := pages18 h ok
 have PL := Lib.hid (fun (wx : World) (hE : w.grownBy wx none) (j : Nat) => tabPlace (h.ext ok hE).tb b (j : Int))
 have FN := Lib.hid (fun (wx : World) (hE : w.grownBy wx none) (j : Nat) => find18 (h.ext ok hE) ok wf b (j : Int))
 have C7 := Lib.hid (fun (wx : World) (hE : w.grownBy wx none) => (h.ext ok hE).cells.2.2.2.2.2.2.1)
 have hpg := ok.R.bds.2.2.2
 have ND := Lib.hid (fun j : Nat => (show needR c m b (j + 1) = if (needR c m b j).2 ≠ 0 then needR c m b j else if placeN m.rs b j < 0 then needR c m b j else if fdE c m.n b j = 0 then ((needR c m b j).1 ++ [fdF c m.n b j], 0) else ([], fdE c m.n b j) from by rw [needR]))
 have NS := Lib.hid (fun j (hj : (needR c m b j).2 ≠ 0) => needR_stay hj)
 have NL := Lib.hid (fun j => needR_len (c := c) (m := m) (b := b) j)
 generalize c.S.pg = pg at *
 clear h ok wf
 go_enter Tryz.func101, Tryz.ntmps101
 go_wp2_with (go_at_call 68; refine PG.mono ?_; rintro e w1 ⟨rfl, hg1⟩; have HG1 := Lib.hid hg1; clear hg1)
 clear PG
 go_loopw [6, 12] (fun v i wr => ∃ (j : Nat) (R : List Fnd), j ≤ pg ∧ i = .int .i64 j ∧ needR c m b j = (R, 0) ∧ PgS w wr v R) (fun _ i _ => pg - (intOf i).toNat)
 case atStart => exact ⟨0, [], by omega, rfl, rfl, pgS_nil HG1.out⟩
 case round =>
   obtain ⟨j, R, hj, rfl, hR, hP⟩ := hrel
   have HR := Lib.hid hR
   obtain ⟨ro, rc, hv6⟩ := owns_slice17 hP.own
   obtain ⟨rn, hrn⟩ : ∃ z, R.length = z := ⟨_, rfl⟩
   have hrl := NL.out j
   rw [hR] at hrl
   simp only at hrl
   rw [hrn] at hv6 hrl
   subst hv6
   have HP := Lib.hid hP
   have HRN := Lib.hid hrn
   clear hR hP hrn
   obtain ⟨wo, rfl⟩ : ∃ wo : World, wo = wr := ⟨_, rfl⟩
   by_cases hlt : j < pg
   · have P1 := PL.out wo HP.out.ext j
     have F1 := FN.out wo HP.out.ext j
     have c7 := C7.out wo HP.out.ext
     have hstep := ND.out j
     rw [HR.out] at hstep
     simp only [ne_eq, not_true_eq_false, if_false] at hstep
     generalize placeN m.rs b j = y at *
     generalize fdF c m.n b j = f at *
     generalize fdE c m.n b j = er at *
     unfold FoundP at F1
     have HST := Lib.hid hstep
     clear hstep
     by_cases hy : y < 0
     · have HY := Lib.hid hy
       go_wp2_with (go_at_call 111; refine P1.mono ?_; rintro e w3 ⟨rfl, rfl⟩)
       case roundEnd => exact ⟨⟨j + 1, R, by omega, by go_num, by rw [HST.out, if_pos (by have := HY.out; omega)], HP.out⟩, by simp [intOf]; omega⟩
     · have HY := Lib.hid hy
       by_cases he : er = 0
       · subst he
         go_upto_region 9 with (first
           | (go_at_call 111; refine P1.mono ?_; rintro e w3 ⟨rfl, rfl⟩)
           | (go_at_call 43; refine F1.mono ?_; rintro e w3 ⟨rfl, hg3⟩; have hBn := Blk.new w3 108 (fndC noF))
           | (refine fnd_store (f := f) _ _ rfl rfl rfl hBn rfl rfl ?_; intro w4 hb4 hg4 hs4; have HG4 := Lib.hid (g17_new (ext_trans hg3 (World.grownBy_alloc w3 (.cells (fndC noF) 108) none)) hg4 (by have := hg3.size; omega)); clear hBn hg4 hs4))
         have hown := (HP.out.own.kept HG4.out (Classical.em _)).alloc (.cells #[.int .i64 f.bk, .int .i64 f.pg, .bool f.torn, .int .i64 f.te, .int .i64 f.ep, .int .i64 f.pl, .int .i64 f.sq, .int .i64 f.kd, .bool f.cp, .string f.dt] 108)
         rw [HRN.out] at hown
         go_wp2_with (first
           | (refine fnd_load_lit rfl _ rfl rfl hb4.range17 ?_)
           | (at_builtin; go_loud (refine append_fnd rfl _ _ rfl w.heap.size (.slice ro rn rc) R rn HRN.out rfl hown ⟨w4.heap.size, 0, none⟩ 1 f rfl (fnd_new w4 f _) (by omega) (by have := HP.out.ext.size; have := HG4.out.size; simp; omega) ?_; intro v' w5 hrow' hg'; have hE5 := Lib.hid (own_alloc17 HG4.out hg'); obtain ⟨ao4, cap4, hv4⟩ := owns_slice17 hrow'; subst hv4)))
         case roundEnd =>
           refine ⟨⟨j + 1, R ++ [f], by omega, by go_num, by rw [HST.out, if_neg (by have := HY.out; omega)]; simp, ⟨?_, own_ext17 HP.out.own HP.out.ext hE5.out (Nat.le_refl _)⟩⟩, by simp [intOf]; omega⟩
           rw [List.length_append, HRN.out]
           exact hrow'
       · have hne : (er != 0) = true := by simpa using he
         have HNE := Lib.hid he
         clear he
         go_wp2_with (first
           | (go_at_call 111; refine P1.mono ?_; rintro e w3 ⟨rfl, rfl⟩)
           | (go_at_call 43; refine F1.mono ?_; rintro e w3 ⟨rfl, hg3⟩; have hBn := Blk.new w3 108 (fndC noF))
           | (refine fnd_store (f := f) _ _ rfl rfl rfl hBn rfl rfl ?_; intro w4 hb4 hg4 hs4; have HG4 := Lib.hid (g17_new (ext_trans hg3 (World.grownBy_alloc w3 (.cells (fndC noF) 108) none)) hg4 (by have := hg3.size; omega)); clear hBn hg4 hs4))
         go_returns
         have h1 : needR c m b (j + 1) = ([], er) := by rw [HST.out, if_neg (by have := HY.out; omega), if_neg HNE.out]
         have h2 : needR c m b pg = ([], er) := by rw [NS.out (j + 1) (by rw [h1]; exact HNE.out) pg (by omega), h1]
         rw [h2]
         exact ⟨_, rfl, (pgS_nil (ext_trans HP.out.ext HG4.out)).own, ext_trans HP.out.ext HG4.out⟩
   · obtain rfl : j = pg := by omega
     go_wp2
     go_returns
     rw [HR.out]
     refine ⟨_, rfl, ?_, HP.out.ext⟩
     have := HP.out.own
     rw [HRN.out] at this
     show wo.ownsRow w.heap.size _ 10 _ R.length (fndsL R)
     rw [HRN.out]
     exact this
end
end Go.Proofs.YtdnpdoipipfkoaaGreatDoor

namespace Go.Proofs.YtdnpdoipipfkoaaGreatDoor
set_option linter.unusedVariables false
set_option linter.unusedSimpArgs false
set_option linter.unusedVariables false
set_option linter.unusedSimpArgs false
set_option maxRecDepth 100000
open Go.RowKit
section
variable {w w' : World} {p : SP} {c : SC} {m : SM}
theorem tagv_is (te ep pl sq kd : Int) (cp : Bool) : tagV te ep pl sq kd cp = .agg #[.int .i64 te, .int .i64 ep, .int .i64 pl, .int .i64 sq, .int .i64 kd, .bool cp] := rfl
set_option maxHeartbeats 1600000 in
theorem program18 (h : StAt w p c m) (ok : StOk p c) {k : Int} (hcn : Cnt m.n k) (hk : k < 1152921504606846976) {b : Nat} (hb : b < c.bl.length) (pg te ep pl sq kd : Int) (cp : Bool) (dt : ByteArray) (hd : dt.size ≤ 9223372036854775807) :
   Calls Tryz.prog 131 #[.pointer (some ⟨p.sb, 0, none⟩), .int .i64 (b : Int), .int .i64 pg, .agg #[.int .i64 te, .int .i64 ep, .int .i64 pl, .int .i64 sq, .int .i64 kd, .bool cp], .string dt] w
     (Gs p c (.int .i64 (prgE c m.n b pg pl sq kd te ep cp dt)) { m with n := prgS c m.n b pg pl sq kd te ep cp dt } w) := by
 obtain ⟨x, hx, _, hxa, hx2, hx3⟩ := ok.phys hb
 have TB := fun (wx : World) (hE : w.grownBy wx none) => tagBytes_any te ep pl sq kd cp wx (h.fl.ext hE)
 rw [tagv_is] at TB
 have PR := Lib.hid (fun (wx : World) (hE : w.grownBy wx none) (v : Value) (bs : List Int) (hv : BtsA wx v bs) (hq : 0 < bs.length → ∀ k, v.ownBlock = some k → c.S.T k = 0) (hl : bs.length ≤ 9223372036854775807) =>
   (program_any (h.ext ok hE).nd ok.R hcn hk ok.zl c.who x pg hv hq hl hd).mono (fun e w' hg => (⟨⟨hg.1, (h.ext ok hE).nand ok hg.2.1 hg.2.2, (Keeps.ext hE).trans hg.2.2.less⟩, (Keeps.ext hE).trans hg.2.2⟩ : Gs p c (.int .i64 (progE c.S c.zs m.n c.who x pg bs.length dt.size)) { m with n := progS c.S c.zs m.n c.who x pg bs dt } w e w' ∧ Keeps c.S.T w w')))
 have SD := Lib.hid (fun (wx : World) (hE : w.grownBy wx none) (er : Int) => (⟨rfl, h.ext ok hE, Keeps.ext hE⟩ : Gs p c (.int .i64 er) m w (.returned (.int .i64 er)) wx))
 have FR := Lib.hid (fun k (hk : w.heap.size ≤ k) => h.nd.fresh hk)
 obtain ⟨c0, c1, _, _, _, c6, _⟩ := h.cells
 obtain ⟨g, off, cap, hv, hc⟩ := h.at hb
 rw [hv] at c6
 rw [hx2] at hc
 have hsb := h.bk.lt
 have hgb := World.block_lt_of_cell? w _ hc
 have HC := Lib.hid (show ∀ y, SeeB w [p.sb, g] y → y.cell? ⟨p.sb, 0, none⟩ = some (.pointer (some ⟨c.S.nb, 0, none⟩)) ∧ y.cell? ⟨p.sb, 1, none⟩ = some (.int .i64 c.who) ∧ y.cell? ⟨p.sb, 6, none⟩ = some (.slice (some ⟨g, off, none⟩) c.bl.length cap) ∧ y.cell? ⟨g, off + b, none⟩ = some (.int .i64 (x : Int)) from fun y hy => ⟨hy.cell (by simp) c0, hy.cell (by simp) c1, hy.cell (by simp) c6, hy.cell (by simp) hc⟩)
 have SE := Lib.hid (show ∀ y, w.grownBy y none → SeeB w [p.sb, g] y from fun y hy => SeeB.of_ext hy (by intro k hk; simp at hk; rcases hk with rfl | rfl <;> assumption))
 have SK := Lib.hid (show ∀ y, Keeps c.S.T w y → SeeB w [p.sb, g] y from fun y hy k hk => by
   simp at hk
   rcases hk with rfl | rfl
   · exact hy.block _ hsb ok.ts
   · exact hy.block _ hgb (ok.vb k (by rw [hv]; rfl)).1)
 have KL := Lib.hid (show ∀ y, Keeps (tS p c) w y → Keeps (tS p c) w y from fun y h => h)
 unfold prgE prgS
 rw [hx]
 obtain ⟨n, hn⟩ : ∃ z, c.bl.length = z := ⟨_, rfl⟩
 rw [hn] at HC hb
 have HE1 := Lib.hid (World.grownBy_alloc w (.cells #[.int .i64 te, .int .i64 ep, .int .i64 pl, .int .i64 sq, .int .i64 kd, .bool cp] 106) none)
 unfold tagBL tagBE at TB
 cases hok : okB te ep pl sq kd
 · rw [hok] at TB
   simp only [Bool.false_eq_true, if_false] at TB ⊢
   clear h hv ok c0 c1 c6 hc hcn hx hx2 hx3 hsb hgb hn hok
   go_enter Tryz.func131, Tryz.ntmps131
   go_wp2_with (go_at_call 155; refine (TB _ HE1.out).mono ?_; rintro e w2 ⟨v2, rfl, hown2, hg2⟩; have HG2 := Lib.hid (ext_trans HE1.out hg2); clear hg2; obtain ⟨ao2, cp2, rfl⟩ := owns_slice17 hown2)
   go_ret
   exact ⟨rfl, (SD.out _ HG2.out 1).2.1, (SD.out _ HG2.out 1).2.2⟩
 · rw [hok] at TB
   simp only [if_true] at TB ⊢
   obtain ⟨bs, hbs⟩ : ∃ z, frL 84 (tagL te ep pl sq kd cp) = z := ⟨_, rfl⟩
   have htb : tagBL te ep pl sq kd cp = bs := by unfold tagBL; rw [hok, if_pos rfl, hbs]
   have hbl : bs.length ≤ 9223372036854775807 := by rw [← hbs, frL_len, tagL_len]; decide
   rw [htb]
   rw [hbs] at TB
   clear h hv c0 c1 c6 hc hcn hx hx2 hx3 hn hok hbs htb
   go_enter Tryz.func131, Tryz.ntmps131
   go_wp2_with (go_at_call 155; refine (TB _ HE1.out).mono ?_; rintro e w2 ⟨v2, rfl, hown2, hg2⟩; have HG2 := Lib.hid (ext_trans HE1.out hg2); have HSZ := Lib.hid hg2; obtain ⟨ao2, cp2, rfl⟩ := owns_slice17 hown2; have HO2 := Lib.hid hown2; clear hg2 hown2)
   have hS := SE.out _ (drewE HG2.out)
   refine region_line [(0, true), (1, true), (2, true), (3, true), (4, true), (5, true), (6, true), (7, true), (8, true), (9, true), (10, true), (11, true), (12, true), (13, true), (14, true), (15, true), (16, true), (17, true), (18, true), (19, false), (20, true)] (SeeB w [p.sb, g]) (by kernel_rfl) (by kernel_rfl) (fun _ _ _ d _ h => by cases d <;> exact h) hS ?_
   repeat (refine line_read (a' := ?_) rfl (by kernel_rfl) (by kernel_rfl) hS (fun y hy K hK => ?_) ?_; rotate_left; · obtain ⟨c0, c1, c6, ci⟩ := HC.out y hy; go_wp2; exact hK)
   refine line_act (by rfl) (fun K hK => ?_)
   have P := PR.out _ (drewE HG2.out) (.slice ao2 bs.length cp2) bs (Bts.wide (owns7_bts rfl (HO2.out.kept (Ext.drew w2) (Classical.em _)))) (fun _ k hk => FR.out k (by have h1 := (HO2.out.lt k hk).1; have h2 := HE1.out.size; omega)) hbl
   go_wp2_with (go_at_call 156; refine P.mono ?_; rintro e w3 ⟨⟨rfl, hN, hK3⟩, hK4⟩)
   have hS3 : SeeB w [p.sb, g] w3 := SK.out _ hK4
   refine hK _ _ (SeeB w [p.sb, g]) hS3 (fun _ h => h) ?_
   clear hK K
   repeat (refine line_read (a' := ?_) rfl (by kernel_rfl) (by kernel_rfl) hS3 (fun y hy K hK => ?_) ?_; rotate_left; · go_wp2; exact hK)
   refine line_end ?_
   go_wp2
   go_ret
   exact ⟨rfl, hN, hK3⟩
set_option maxHeartbeats 800000 in
theorem afford18 (h : StAt w p c m) (ok : StOk p c) (hs : -9223372036854775000 ≤ c.sp ∧ c.sp ≤ 9223372036854775000) (spoken : Int) :
   Calls Tryz.prog 132 #[.pointer (some ⟨p.sb, 0, none⟩), .int .i64 spoken] w (Gs p c (.int .i64 (affE c m spoken)) (affM c m spoken) w) := by
 have SP := spares18 h ok hs
 have ST := Lib.hid (fun (wx : World) (hE : w.grownBy wx none) => h.ext ok hE)
 unfold affE affM
 by_cases h0 : sprN c m > spoken
 · rw [if_pos h0, if_pos h0]
   generalize sprN c m = q at *
   clear h
   go_enter Tryz.func132, Tryz.ntmps132
   go_wp2_with (go_at_call 128; refine SP.mono ?_; rintro e w1 ⟨rfl, hg⟩)
   go_ret
   exact ⟨rfl, ST.out _ hg, Keeps.ext hg⟩
 · rw [if_neg h0, if_neg h0]
   generalize sprN c m = q at *
   clear h
   go_enter Tryz.func132, Tryz.ntmps132
   go_wp2_with (go_at_call 128; refine SP.mono ?_; rintro e w1 ⟨rfl, hg⟩; have c11 := (ST.out _ hg).cells.2.2.2.2.2.2.2.2.2.2; have f11 := (ST.out _ hg).bk.free 11)
   go_ret
   exact ⟨rfl, (ST.out _ hg).setRo ok true, (Keeps.ext hg).trans (Keeps.own18 (gb_set (gb_refl w1 _) _ _) (.inl rfl))⟩
theorem mark18 (h : StAt w p c m) (ok : StOk p c) {k : Int} (hcn : Cnt m.n k) (hk : k < 1152921504606846976) (n : Int) :
   Calls Tryz.prog 133 #[.pointer (some ⟨c.S.nb, 0, none⟩), .int .i64 n] w fun e w' => Gs p c (.int .i64 (markE c.S m.n n)) { m with n := markS c.S m.n n } w e w' ∧ Keeps c.S.T w w' :=
 (mark_any h.nd ok.R hcn hk n).mono fun e w' hg => ⟨⟨hg.1, h.nand ok hg.2.1 hg.2.2, hg.2.2.less⟩, hg.2.2⟩
theorem erase7_18 (h : StAt w p c m) (ok : StOk p c) {k : Int} (hcn : Cnt m.n k) (hk : k < 1152921504606846976) (n : Int) :
   Calls Tryz.prog 106 #[.pointer (some ⟨c.S.nb, 0, none⟩), .int .i64 c.who, .int .i64 n] w fun e w' => Gs p c (.int .i64 (ersE c.S c.zs m.n c.who n)) { m with n := ersS c.S c.zs m.n c.who n } w e w' ∧ Keeps c.S.T w w' :=
 (erase_any h.nd ok.R hcn hk ok.zl c.who n).mono fun e w' hg => ⟨⟨hg.1, h.nand ok hg.2.1 hg.2.2, hg.2.2.less⟩, hg.2.2⟩
theorem StAt.see (h : StAt w p c m) (ok : StOk p c) {b x : Nat} (hb : b < c.bl.length) (hx2 : c.bl.getD b 0 = x) : ∃ g off cap, (∀ y, SeeB w [p.sb, g] y → y.cell? ⟨p.sb, 0, none⟩ = some (.pointer (some ⟨c.S.nb, 0, none⟩)) ∧ y.cell? ⟨p.sb, 1, none⟩ = some (.int .i64 c.who) ∧ y.cell? ⟨p.sb, 6, none⟩ = some (.slice (some ⟨g, off, none⟩) c.bl.length cap) ∧ y.cell? ⟨g, off + b, none⟩ = some (.int .i64 (x : Int))) ∧
   (∀ y, w.grownBy y none → SeeB w [p.sb, g] y) ∧ ∀ y, Keeps c.S.T w y → SeeB w [p.sb, g] y := by
 obtain ⟨c0, c1, _, _, _, c6, _⟩ := h.cells
 obtain ⟨g, off, cap, hv, hc⟩ := h.at hb
 rw [hv] at c6
 rw [hx2] at hc
 have hsb := h.bk.lt
 have hgb := World.block_lt_of_cell? w _ hc
 exact ⟨g, off, cap, fun y hy => ⟨hy.cell (by simp) c0, hy.cell (by simp) c1, hy.cell (by simp) c6, hy.cell (by simp) hc⟩, fun y hy => SeeB.of_ext hy (by intro k hk; simp at hk; rcases hk with rfl | rfl <;> assumption), fun y hy k hk => by
   simp at hk
   rcases hk with rfl | rfl
   · exact hy.block _ hsb ok.ts
   · exact hy.block _ hgb (ok.vb k (by rw [hv]; rfl)).1⟩
set_option maxHeartbeats 1600000 in
theorem giveUp18 (h : StAt w p c m) (ok : StOk p c) {k : Int} (hcn : Cnt m.n k) (hk : k < 1152921504606846976) (hs : -9223372036854775000 ≤ c.sp ∧ c.sp ≤ 9223372036854775000) {b : Nat} (hb : b < c.bl.length) (spoken : Int) :
   Calls Tryz.prog 105 #[.pointer (some ⟨p.sb, 0, none⟩), .int .i64 (b : Int), .int .i64 spoken] w (Gs p c (.int .i64 (giveE c m b spoken)) (giveM c m b spoken) w) := by
 have AF := afford18 h ok hs spoken
 obtain ⟨x, hx, _, hxa, hx2, hx3⟩ := ok.phys hb
 unfold affE affM at AF
 unfold giveE giveM
 rw [hx]
 by_cases h0 : sprN c m > spoken
 · rw [if_pos h0, if_pos h0] at AF
   rw [if_pos h0, if_pos h0]
   have MK := fun (wx : World) (hx : StAt wx p c m) => mark18 hx ok hcn hk x
   have SS := fun (wx : World) (hx : StAt wx p c m) => hx.see ok hb hx2
   generalize sprN c m = q at *
   obtain ⟨n, hn⟩ : ∃ z, c.bl.length = z := ⟨_, rfl⟩
   rw [hn] at SS hb
   clear h hx hx2 hx3 hcn hn
   go_enter Tryz.func105, Tryz.ntmps105
   go_wp2_with (go_at_call 132; refine AF.mono ?_; rintro e w1 ⟨rfl, hA1, hk1⟩; obtain ⟨g, off, cap, hC, hSE, hSK⟩ := SS _ hA1; have HC := Lib.hid hC; have HA1 := Lib.hid (And.intro hA1 (And.intro hk1 (And.intro hSE hSK))); clear hC hA1 hk1 hSE hSK)
   have hA2 := HA1.out.1.ext ok (Ext.drew w1)
   have hS := HA1.out.2.2.1 _ (Ext.drew w1)
   refine region_line [(0, true), (1, true), (2, true), (3, true), (4, true), (5, true), (6, true), (7, true), (8, true), (9, true), (10, true), (11, true), (12, false), (13, true)] (SeeB w1 [p.sb, g]) (by kernel_rfl) (by kernel_rfl) (fun _ _ _ d _ h => by cases d <;> exact h) hS ?_
   repeat (refine line_read (a' := ?_) rfl (by kernel_rfl) (by kernel_rfl) hS (fun y hy K hK => ?_) ?_; rotate_left; · obtain ⟨c0, c1, c6, ci⟩ := HC.out y hy; go_wp2; exact hK)
   refine line_act (by rfl) (fun K hK => ?_)
   go_wp2_with (go_at_call 133; refine (MK _ hA2).mono ?_; rintro e w3 ⟨⟨rfl, hN, hK3⟩, hK4⟩)
   have hS3 : SeeB w1 [p.sb, g] w3 := SeeB.trans hS (fun k hk => (HA1.out.2.2.2 w3 ⟨hK4.os, hK4.tape, hK4.output, hK4.size, hK4.block⟩) k hk)
   refine hK _ _ (SeeB w1 [p.sb, g]) hS3 (fun _ h => h) ?_
   clear hK K
   repeat (refine line_read (a' := ?_) rfl (by kernel_rfl) (by kernel_rfl) hS3 (fun y hy K hK => ?_) ?_; rotate_left; · go_wp2; exact hK)
   refine line_end ?_
   go_wp2
   go_ret
   exact ⟨rfl, hN, (HA1.out.2.1.trans (Keeps.ext (Ext.drew w1))).trans hK3⟩
 · rw [if_neg h0, if_neg h0] at AF
   rw [if_neg h0, if_neg h0]
   clear h hx hx2 hx3 hcn h0
   obtain ⟨er, her, hen⟩ : ∃ er : Int, (13 : Int) = er ∧ (er != 0) = true := ⟨13, rfl, rfl⟩
   rw [her] at AF ⊢
   clear her
   go_enter Tryz.func105, Tryz.ntmps105
   go_wp2_with (go_at_call 132; refine AF.mono ?_; rintro e w1 ⟨rfl, hA1, hk1⟩; have HA1 := Lib.hid (And.intro hA1 hk1); clear hA1 hk1)
   go_ret
   exact ⟨rfl, HA1.out⟩
set_option maxHeartbeats 1600000 in
theorem erase18 (h : StAt w p c m) (ok : StOk p c) {k : Int} {b : Nat} (hcn : Cnt m.n k) (hcn2 : Cnt (ersS c.S c.zs m.n c.who (c.ph b)) (k + 4)) (hk : k < 1152921504606846900) (hs : -9223372036854775000 ≤ c.sp ∧ c.sp ≤ 9223372036854775000) (hb : b < c.bl.length) :
   Calls Tryz.prog 70 #[.pointer (some ⟨p.sb, 0, none⟩), .int .i64 (b : Int)] w (Gs p c (.int .i64 (eraE c m b)) (eraM c m b) w) := by
 obtain ⟨x, hx, _, hxa, hx2, hx3⟩ := ok.phys hb
 have ER := fun (wx : World) (hx : StAt wx p c m) => erase7_18 hx ok hcn (by omega) x
 unfold eraE eraM
 rw [hx] at hcn2 ⊢
 obtain ⟨er, her⟩ : ∃ z, ersE c.S c.zs m.n c.who x = z := ⟨_, rfl⟩
 obtain ⟨s2, hs2⟩ : ∃ z, ersS c.S c.zs m.n c.who x = z := ⟨_, rfl⟩
 rw [her, hs2] at ER
 rw [hs2] at hcn2
 rw [her, hs2]
 have GU := fun (wx : World) (hx : StAt wx p c { m with n := s2 }) => giveUp18 hx ok hcn2 (by omega) hs hb 0
 obtain ⟨g, off, cap, hC, hSE, hSK⟩ := h.see ok hb hx2
 have HC := Lib.hid hC
 have HH := Lib.hid (And.intro h (And.intro hSE hSK))
 obtain ⟨n, hn⟩ : ∃ z, c.bl.length = z := ⟨_, rfl⟩
 rw [hn] at HC hb
 clear h hx hx2 hx3 hcn hcn2 hC hSE hSK her hs2 hn
 have hS := HH.out.2.1 _ (Ext.drew w)
 have hA2 := HH.out.1.ext ok (Ext.drew w)
 by_cases h0 : er = 10
 · rw [if_neg (by simp [h0]), if_neg (by simp [h0])]
   have h0' : (er != 10) = false := by simp [h0]
   clear h0
   go_enter Tryz.func70, Tryz.ntmps70
   go_wp2
   refine region_line [(0, true), (1, true), (2, true), (3, true), (4, true), (5, true), (6, true), (7, true), (8, true), (9, true), (10, true), (11, true), (12, true), (13, true), (14, true), (15, true), (16, false), (17, true)] (SeeB w [p.sb, g]) (by kernel_rfl) (by kernel_rfl) (fun _ _ _ d _ h => by cases d <;> exact h) hS ?_
   repeat (refine line_read (a' := ?_) rfl (by kernel_rfl) (by kernel_rfl) hS (fun y hy K hK => ?_) ?_; rotate_left; · obtain ⟨c0, c1, c6, ci⟩ := HC.out y hy; go_wp2; exact hK)
   refine line_act (by rfl) (fun K hK => ?_)
   go_wp2_with (go_at_call 106; refine (ER _ hA2).mono ?_; rintro e w3 ⟨⟨rfl, hN, hK3⟩, hK4⟩)
   have hS3 : SeeB w [p.sb, g] w3 := HH.out.2.2 w3 ⟨hK4.os, hK4.tape, hK4.output, hK4.size, hK4.block⟩
   refine hK _ _ (SeeB w [p.sb, g]) hS3 (fun _ h => h) ?_
   clear hK K
   repeat (refine line_read (a' := ?_) rfl (by kernel_rfl) (by kernel_rfl) hS3 (fun y hy K hK => ?_) ?_; rotate_left; · go_wp2; exact hK)
   refine line_end ?_
   go_wp2_with (go_at_call 105; refine (GU _ hN).mono ?_; rintro e w4 ⟨rfl, hN4, hK5⟩)
   go_ret
   exact ⟨rfl, hN4, ((Keeps.ext (Ext.drew w)).trans hK3).trans hK5⟩
 · rw [if_pos h0, if_pos h0]
   have h0' : (er != 10) = true := by simpa using h0
   clear h0
   go_enter Tryz.func70, Tryz.ntmps70
   go_wp2
   refine region_line [(0, true), (1, true), (2, true), (3, true), (4, true), (5, true), (6, true), (7, true), (8, true), (9, true), (10, true), (11, true), (12, true), (13, true), (14, true), (15, true), (16, false), (17, true)] (SeeB w [p.sb, g]) (by kernel_rfl) (by kernel_rfl) (fun _ _ _ d _ h => by cases d <;> exact h) hS ?_
   repeat (refine line_read (a' := ?_) rfl (by kernel_rfl) (by kernel_rfl) hS (fun y hy K hK => ?_) ?_; rotate_left; · obtain ⟨c0, c1, c6, ci⟩ := HC.out y hy; go_wp2; exact hK)
   refine line_act (by rfl) (fun K hK => ?_)
   go_wp2_with (go_at_call 106; refine (ER _ hA2).mono ?_; rintro e w3 ⟨⟨rfl, hN, hK3⟩, hK4⟩)
   have hS3 : SeeB w [p.sb, g] w3 := HH.out.2.2 w3 ⟨hK4.os, hK4.tape, hK4.output, hK4.size, hK4.block⟩
   refine hK _ _ (SeeB w [p.sb, g]) hS3 (fun _ h => h) ?_
   clear hK K
   repeat (refine line_read (a' := ?_) rfl (by kernel_rfl) (by kernel_rfl) hS3 (fun y hy K hK => ?_) ?_; rotate_left; · go_wp2; exact hK)
   refine line_end ?_
   go_wp2
   go_ret
   exact ⟨rfl, hN, (Keeps.ext (Ext.drew w)).trans hK3⟩
end
end Go.Proofs.YtdnpdoipipfkoaaGreatDoor

namespace Go.Proofs.YtdnpdoipipfkoaaGreatDoor
set_option linter.unusedVariables false
set_option linter.unusedSimpArgs false
set_option linter.unusedVariables false
set_option linter.unusedSimpArgs false
set_option maxRecDepth 100000
open Go.RowKit
structure CpyS (p : SP) (c : SC) (m : SM) (w0 wr : World) (v : Value) (L : List Fnd) (tg : Int) (k0 : Int) (j : Nat) (n : NS) : Prop where
 st : StAt wr p c { m with n := n }
 row : RowF wr v L
 kp : Keeps (tS p c) w0 wr
 eq : copyR c tg L 0 m.n = copyR c tg (L.drop j) j n
 cn : Cnt n (k0 + 3 * j)
section
variable {w w' : World} {p : SP} {c : SC} {m : SM}
set_option maxHeartbeats 3200000 in
theorem copyTo18 (h : StAt w p c m) (ok : StOk p c) {k : Int} (hcn : Cnt m.n k) (hk : k < 1152921504606846000) {b : Nat} (hb : b < c.bl.length) (v : Value) (L : List Fnd) (hv : RowF w v L) (hvo : ∀ q, v.ownBlock = some q → tS p c q = 0) (hl : L.length ≤ 64) (hd : ∀ f ∈ L, f.dt.size ≤ 160) :
   Calls Tryz.prog 103 #[.pointer (some ⟨p.sb, 0, none⟩), .int .i64 (b : Int), v] w (Gs p c (.int .i64 (copyR c b L 0 m.n).1) { m with n := (copyR c b L 0 m.n).2 } w) := by
 have PR := Lib.hid (fun (wx : World) (s : NS) (kk : Int) (hx : StAt wx p c { m with n := s }) (hc : Cnt s kk) (hk : kk < 1152921504606846976) (i : Nat) (f : Fnd) (hf : f.dt.size ≤ 160) => program18 hx ok hc hk hb (i : Int) f.te f.ep f.pl f.sq f.kd true f.dt (by omega))
 have HS := Lib.hid (show CpyS p c m w w v L b k 0 m.n from ⟨h, hv, Keeps.refl _ w, rfl, by simpa using hcn⟩)
 obtain ⟨ao, cap, hve, _⟩ := hv
 obtain ⟨n, hn⟩ : ∃ n, L.length = n := ⟨_, rfl⟩
 rw [hn] at hve hl
 subst hve
 have HN := Lib.hid (And.intro hn (And.intro hvo hd))
 clear h hcn hn hvo hd hb
 obtain ⟨E, hE⟩ : ∃ z, (copyR c b L 0 m.n).1 = z := ⟨_, rfl⟩
 obtain ⟨M, hM⟩ : ∃ z : SM, { m with n := (copyR c b L 0 m.n).2 } = z := ⟨_, rfl⟩
 rw [hE, hM]
 have HEM := Lib.hid (And.intro hE hM)
 clear hE hM
 go_enter Tryz.func103, Tryz.ntmps103
 go_wp2
 go_loopw [12] (fun i wr => ∃ (j : Nat) (s : NS), j ≤ n ∧ i = .int .i64 j ∧ CpyS p c m w wr (.slice ao n cap) L b k j s) (fun i _ => n - (intOf i).toNat)
 case atStart => exact ⟨0, m.n, by omega, rfl, HS.out⟩
 case round =>
   clear HS
   obtain ⟨j, s, hj, rfl, hS⟩ := hrel
   obtain ⟨wo, rfl⟩ : ∃ wo : World, wo = wr := ⟨_, rfl⟩
   have HS := Lib.hid hS
   clear hS
   by_cases hlt : j < n
   · obtain ⟨f, hf⟩ : ∃ f, L.getD j noF = f := ⟨_, rfl⟩
     obtain ⟨ao2, cap2, hv2, hc2⟩ := HS.out.row
     obtain ⟨g, off, hao, hr⟩ := hc2 j (by rw [HN.out.1]; exact hlt)
     simp only [Value.slice.injEq] at hv2
     obtain ⟨rfl, -, -⟩ := hv2
     subst hao
     rw [hf] at hr
     have hjl : j < L.length := by rw [HN.out.1]; exact hlt
     have hdrop : L.drop j = f :: L.drop (j + 1) := by
       rw [List.drop_eq_getElem_cons hjl]
       rw [List.getD_eq_getElem?_getD, List.getElem?_eq_getElem hjl] at hf
       congr 1
     have hfd : f.dt.size ≤ 160 := HN.out.2.2 f (by
       rw [List.getD_eq_getElem?_getD, List.getElem?_eq_getElem hjl] at hf
       have h2 : L[j] = f := hf
       rw [← h2]
       exact List.getElem_mem _)
     have HDR := Lib.hid hdrop
     have hBn := Blk.new wo 108 (fndC noF)
     clear hf hc2 hjl hdrop
     obtain ⟨fb, hfb⟩ : ∃ z, wo.heap.size = z := ⟨_, rfl⟩
     rw [hfb] at hBn
     have HFB := Lib.hid hfb
     have FR := Lib.hid (HS.out.st.fresh (k := fb) (by omega))
     go_upto_region 4 with (first
       | (refine fnd_load rfl _ rfl rfl hr ?_)
       | (refine fnd_store _ _ rfl rfl rfl hBn rfl rfl ?_; intro w2 hb2 hg2 hs2; have hE2 := g17_new (World.grownBy_alloc wo _ none) hg2 (by omega); have hb3 := hb2.set 8 (.bool true); have f8 := hb2.free 8; have c8 := hb2.cell 8; have HE2 := Lib.hid hE2; clear hBn hg2 hs2 hE2))
     clear hr hfb
     have c8 : w2.cell? ⟨fb, 8, none⟩ = some (.bool f.cp) := hb2.cell 8
     go_upto_region 5 with fail
     obtain ⟨w3, hw3⟩ : ∃ y, w2.setCell ⟨fb, 8, none⟩ (.bool true) = y := ⟨_, rfl⟩
     rw [hw3] at hb3 ⊢
     have hb4 : Blk w3 fb 108 (fndC { f with cp := true }) := hb3
     have hE3 : wo.grownBy w3 none := by rw [← hw3]; exact g17_new HE2.out (gb_set (gb_refl w2 (some fb)) _ _) (by have := HFB.out; omega)
     have h3 := HS.out.st.ext ok hE3
     have HE3 := Lib.hid hE3
     have c9 : w3.cell? ⟨fb, 9, none⟩ = some (.string f.dt) := hb4.cell 9
     clear c8 f8 hb2 hb3 hw3 HE2
     have P := PR.out w3 s (k + 3 * j) h3 HS.out.cn (by omega) j f hfd
     have hstep : copyR c b L 0 m.n = if prgE c s b j f.pl f.sq f.kd f.te f.ep true f.dt = 0 then copyR c b (L.drop (j + 1)) (j + 1) (prgS c s b j f.pl f.sq f.kd f.te f.ep true f.dt) else (prgE c s b j f.pl f.sq f.kd f.te f.ep true f.dt, prgS c s b j f.pl f.sq f.kd f.te f.ep true f.dt) := by
       rw [HS.out.eq, HDR.out, copyR]
     have hcn2 := cnt_prg HS.out.cn b j f.pl f.sq f.kd f.te f.ep true f.dt (c := c)
     generalize prgE c s b j f.pl f.sq f.kd f.te f.ep true f.dt = er at *
     generalize prgS c s b j f.pl f.sq f.kd f.te f.ep true f.dt = s2 at *
     have HST := Lib.hid (And.intro hstep hcn2)
     clear hstep hcn2 h3 hE3
     by_cases h0 : er = 0
     · have h0' : (er != 0) = false := by simp [h0]
       have H0 := Lib.hid h0
       clear h0
       go_wp2_with (first
         | (refine tag_load17 rfl _ rfl rfl hb4 ?_)
         | (go_at_call 131; refine P.mono ?_; rintro e w4 ⟨rfl, hA4, hk4⟩))
       go_roundw
       case rel =>
         have hkk := (Keeps.ext (T := tS p c) HE3.out).trans hk4
         refine ⟨j + 1, s2, by omega, by go_num, hA4, HS.out.row.keeps hkk (by rw [show (Value.slice (some ⟨g, off, none⟩) n cap) = _ from rfl]; exact HN.out.2.1), HS.out.kp.trans hkk, by rw [HST.out.1, if_pos H0.out], HST.out.2.mono18 (by omega)⟩
       case measure => simp [intOf]; omega
     · have h0' : (er != 0) = true := by simpa using h0
       have H0 := Lib.hid h0
       clear h0
       go_wp2_with (first
         | (refine tag_load17 rfl _ rfl rfl hb4 ?_)
         | (go_at_call 131; refine P.mono ?_; rintro e w4 ⟨rfl, hA4, hk4⟩))
       go_ret
       have hq := HEM.out
       rw [HST.out.1, if_neg H0.out] at hq
       obtain ⟨rfl, rfl⟩ := hq
       exact ⟨rfl, hA4, (HS.out.kp.trans (Keeps.ext HE3.out)).trans hk4⟩
   · obtain rfl : j = n := by omega
     go_wp2
     go_ret
     have hq := HEM.out
     rw [HS.out.eq, List.drop_of_length_le (by rw [HN.out.1]; exact Nat.le_refl _), copyR] at hq
     obtain ⟨rfl, rfl⟩ := hq
     exact ⟨rfl, HS.out.st, HS.out.kp⟩
end
end Go.Proofs.YtdnpdoipipfkoaaGreatDoor
