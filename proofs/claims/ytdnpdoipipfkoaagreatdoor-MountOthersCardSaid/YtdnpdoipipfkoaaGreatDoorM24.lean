/-
  Texts put together: IH IJ IC IK.
-/
import Derived.Test.YtdnpdoipipfkoaaGreatDoorM23
import Derived.Shelf.SlSortCmp.WholeK
import Derived.Test.YtdnpdoipipfkoaaGreatDoorM22
import Derived.Test.YtdnpdoipipfkoaaGreatDoorM06
namespace Go.Proofs.YtdnpdoipipfkoaaGreatDoor
set_option linter.unusedVariables false
set_option linter.unusedSimpArgs false
set_option linter.unusedVariables false
set_option linter.unusedSimpArgs false
set_option maxRecDepth 100000
open Go.RowKit Go.Sort
theorem progNewer_any (f g : Fnd) (w : World) : Calls Tryz.prog 151 #[.agg (tagC17 f), .agg (tagC17 g)] w fun e w' => e = .returned (.bool (newF f g)) ∧ w.grownBy w' none :=
 (newer_any f.te f.ep f.pl f.sq f.kd f.cp g.te g.ep g.pl g.sq g.kd g.cp w).mono fun e w' ⟨h1, h2⟩ => ⟨h1, by subst h2; exact ext_trans (World.grownBy_alloc w _ none) (World.grownBy_alloc _ _ none)⟩
def OrP (xs : List Int) (r : Int) : Prop := (r = 0 ∧ ∀ j, j < xs.length → xs.getD j 0 = 0) ∨ ∃ k, k < xs.length ∧ xs.getD k 0 = r ∧ r ≠ 0 ∧ ∀ j, j < k → xs.getD j 0 = 0
theorem or17_any (v : Value) (xs : List Int) (w : World) (hb : Ints w v xs) (hm : xs.length ≤ 1000) :
   Calls Tryz.prog 152 #[v] w fun e w' => (∃ r, e = .returned (.int .i64 r) ∧ OrP xs r) ∧ w = w' := by
 obtain ⟨ao, cap, b, off, rfl, hc⟩ := hb.form
 have HC := Lib.hid hc
 clear hc hb
 go_enter Tryz.func152, Tryz.ntmps152
 go_wp2
 go_loopw [8] (fun i wr => ∃ k : Nat, k ≤ xs.length ∧ i = .int .i64 k ∧ (∀ j, j < k → xs.getD j 0 = 0) ∧ w = wr) (fun i _ => xs.length - (intOf i).toNat)
 case atStart => exact ⟨0, by omega, rfl, fun j hj => by omega, rfl⟩
 case round =>
   obtain ⟨k, hk, rfl, hnot, rfl⟩ := hrel
   have NOT := Lib.hid hnot
   clear hnot
   by_cases hlt : k < xs.length
   · obtain ⟨rfl, hcell⟩ := HC.out k hlt
     obtain ⟨x, hx⟩ : ∃ x, xs.getD k 0 = x := ⟨_, rfl⟩
     rw [hx] at hcell
     have HX := Lib.hid hx
     clear hx
     by_cases he : x = 0
     · have hne : (x != 0) = false := by simpa using he
       have HE := Lib.hid he
       clear he
       go_wp2
       go_roundw
       case rel =>
         refine ⟨k + 1, by omega, by go_num, fun j hj => ?_, trivial⟩
         by_cases e : j = k
         · subst e; rw [HX.out]; exact HE.out
         · exact NOT.out j (by omega)
       case measure => simp [intOf]; omega
     · have hne : (x != 0) = true := by simpa using he
       have HE := Lib.hid he
       clear he
       go_wp2
       go_ret
       exact ⟨⟨x, rfl, .inr ⟨k, hlt, HX.out, HE.out, NOT.out⟩⟩, rfl⟩
   · obtain rfl : k = xs.length := by omega
     go_wp2
     go_ret
     exact ⟨⟨0, rfl, .inl ⟨rfl, NOT.out⟩⟩, rfl⟩
theorem or17_two (x y r : Int) (h : OrP [x, y] r) : r = if x = 0 then y else x := by
 rcases h with ⟨rfl, h⟩ | ⟨k, hk, h1, h2, h3⟩
 · have e0 := h 0 (by simp)
   have e1 := h 1 (by simp)
   simp at e0 e1
   rw [e0, e1]; rfl
 · match k, hk with
   | 0, _ => simp at h1; subst h1; rw [if_neg h2]
   | 1, _ => have e0 := h3 0 (by omega); simp at e0 h1; rw [if_pos e0, h1]
def BetR (g h : Nat) (x0 y0 x1 y1 : Int) (w : World) : Prop := w.cell? ⟨g, 0, none⟩ = some (.int .i64 x0) ∧ w.cell? ⟨h, 0, none⟩ = some (.int .i64 y0) ∧ w.cell? ⟨g, 1, none⟩ = some (.int .i64 x1) ∧ w.cell? ⟨h, 1, none⟩ = some (.int .i64 y1)
theorem low_is (f g : Fnd) (r : Int) (h : r = if cmpI f.bk g.bk = 0 then cmpI f.pg g.pg else cmpI f.bk g.bk) : decide (r < 0) = lowF f g := by
 subst h
 unfold lowF cmpI
 by_cases h1 : f.bk < g.bk
 · rw [if_pos h1, if_neg (by omega), decide_eq_true h1]; rfl
 · by_cases h2 : g.bk < f.bk
   · rw [if_neg h1, if_pos h2, if_neg (by omega), decide_eq_false h1]
     have : (f.bk == g.bk) = false := by simp; omega
     rw [this]; rfl
   · rw [if_neg h1, if_neg h2, if_pos rfl, decide_eq_false h1]
     have : (f.bk == g.bk) = true := by simp; omega
     rw [this, Bool.true_and, Bool.false_or]
     by_cases h3 : f.pg < g.pg
     · rw [if_pos h3, decide_eq_true h3]; rfl
     · rw [if_neg h3, decide_eq_false h3]
       split
       · rfl
       · rfl
set_option maxHeartbeats 800000 in
theorem isBetter_any (f g : Fnd) (w : World) : Calls Tryz.prog 121 #[.agg (fndC f), .agg (fndC g)] w fun e w' => e = .returned (.bool (betF f g)) ∧ w.grownBy w' none := by
 have hE := World.grownBy_alloc w (.cells (fndC f) 108) none
 have hE2 := World.grownBy_alloc (w.alloc (.cells (fndC f) 108)) (.cells (fndC g) 108) none
 have hbf := (Blk.new w 108 (fndC f)).ext hE2
 have hbg := Blk.new (w.alloc (.cells (fndC f) 108)) 108 (fndC g)
 rw [show (w.alloc (.cells (fndC f) 108)).heap.size = w.heap.size + 1 by simp] at hbg
 have HE := Lib.hid (ext_trans hE hE2)
 obtain ⟨w1, hw1⟩ : ∃ v, (w.alloc (.cells (fndC f) 108)).alloc (.cells (fndC g) 108) = v := ⟨_, rfl⟩
 rw [hw1] at hbf hbg HE
 obtain ⟨r1, hr1⟩ : ∃ z, w.heap.size = z := ⟨_, rfl⟩
 rw [hr1] at hbf hbg
 have HBF := Lib.hid hbf
 have HBG := Lib.hid hbg
 have N1 := fun wx => progNewer_any f g wx
 have N2 := fun wx => progNewer_any g f wx
 obtain ⟨n1, hn1⟩ : ∃ z, newF f g = z := ⟨_, rfl⟩
 obtain ⟨n2, hn2⟩ : ∃ z, newF g f = z := ⟨_, rfl⟩
 obtain ⟨lw, hlw⟩ : ∃ z, lowF f g = z := ⟨_, rfl⟩
 have HW := Lib.hid (show betF f g = (n1 || (!n2 && lw)) by unfold betF; rw [hn1, hn2, hlw])
 obtain ⟨z, hz⟩ : ∃ z, betF f g = z := ⟨_, rfl⟩
 rw [hz] at HW ⊢
 rw [hn1] at N1
 rw [hn2] at N2
 have HLW := Lib.hid hlw
 clear hE hE2 hn1 hn2 hlw hz
 cases n1
 · cases n2
   · go_enter Tryz.func121, Tryz.ntmps121
     go_upto_region 1 with fail
     clear hw1
     go_upto_region 3 with (first
       | (refine tag_load17 rfl _ rfl rfl hbf ?_)
       | (refine tag_load17 rfl _ rfl rfl hbg ?_)
       | (go_at_call 151; refine (N1 _).mono ?_; rintro e w2 ⟨rfl, hE2⟩; have HA := Lib.hid hE2; have hbf := HBF.out.ext hE2; have hbg := HBG.out.ext hE2; clear hE2))
     go_upto_region 5 with (first
       | (refine tag_load17 rfl _ rfl rfl hbf ?_)
       | (refine tag_load17 rfl _ rfl rfl hbg ?_)
       | (go_at_call 151; refine (N2 _).mono ?_; rintro e w3 ⟨rfl, hE3⟩; have HA := Lib.hid (ext_trans HA.out hE3); have hbf := HBF.out.ext HA.out; have hbg := HBG.out.ext HA.out; clear hE3))
     clear hbf hbg
     have c1 := (FCells.of (HBF.out.ext HA.out)).bk
     have c2 := (FCells.of (HBG.out.ext HA.out)).bk
     have c3 := (FCells.of (HBF.out.ext HA.out)).pg
     have c4 := (FCells.of (HBG.out.ext HA.out)).pg
     obtain ⟨x0, hx0⟩ : ∃ z, f.bk = z := ⟨_, rfl⟩
     obtain ⟨y0, hy0⟩ : ∃ z, g.bk = z := ⟨_, rfl⟩
     obtain ⟨x1, hx1⟩ : ∃ z, f.pg = z := ⟨_, rfl⟩
     obtain ⟨y1, hy1⟩ : ∃ z, g.pg = z := ⟨_, rfl⟩
     obtain ⟨q1, hq1⟩ : ∃ z, cmpI x0 y0 = z := ⟨_, rfl⟩
     obtain ⟨q2, hq2⟩ : ∃ z, cmpI x1 y1 = z := ⟨_, rfl⟩
     have C1 := fun wx => compare17_any x0 y0 wx
     have C2 := fun wx => compare17_any x1 y1 wx
     rw [hq1] at C1
     rw [hq2] at C2
     have HQ := Lib.hid (show ∀ r, r = (if q1 = 0 then q2 else q1) → decide (r < 0) = lw from fun r hr => by rw [← HLW.out]; exact low_is f g r (by rw [hx0, hy0, hx1, hy1, hq1, hq2]; exact hr))
     have hS : BetR r1 (r1 + 1) x0 y0 x1 y1 w3.drew := ⟨by rw [← hx0]; exact c1, by rw [← hy0]; exact c2, by rw [← hx1]; exact c3, by rw [← hy1]; exact c4⟩
     clear c1 c2 c3 c4 hx0 hy0 hx1 hy1 hq1 hq2
     refine region_line [(0, true), (1, true), (2, true), (3, true), (5, true), (6, true), (7, true), (8, true), (4, false), (9, false), (10, false), (11, false), (12, true), (13, true)] (BetR r1 (r1 + 1) x0 y0 x1 y1) (by kernel_rfl) (by kernel_rfl) (fun _ _ _ d _ h => by cases d <;> exact h) hS ?_
     iterate 8 (refine line_read (a' := ?_) rfl (by kernel_rfl) (by kernel_rfl) hS (fun z0 hx K hK => ?_) ?_; rotate_left; · (obtain ⟨d1, d2, d3, d4⟩ := hx; go_wp2; exact hK))
     refine line_act (by rfl) (fun K hK => ?_)
     go_wp2_with (go_at_call 124; refine (C1 _).mono ?_; rintro e w4 ⟨rfl, rfl⟩)
     refine hK _ _ (BetR r1 (r1 + 1) x0 y0 x1 y1) hS (fun x hx => hx) ?_
     clear hK K C1
     refine line_act (by rfl) (fun K hK => ?_)
     go_wp2_with (go_at_call 124; refine (C2 _).mono ?_; rintro e w4 ⟨rfl, rfl⟩)
     refine hK _ _ (BetR r1 (r1 + 1) x0 y0 x1 y1) hS (fun x hx => hx) ?_
     clear hK K C2
     refine line_act (by rfl) (fun K hK => ?_)
     go_wp2
     have hA := World.grownBy_alloc w3.drew (.cells #[.int .i64 q1, .int .i64 q2] 3) none
     have hS4 : BetR r1 (r1 + 1) x0 y0 x1 y1 (w3.drew.alloc (.cells #[.int .i64 q1, .int .i64 q2] 3)) := ⟨hA.cell hS.1 (by simp), hA.cell hS.2.1 (by simp), hA.cell hS.2.2.1 (by simp), hA.cell hS.2.2.2 (by simp)⟩
     refine hK _ _ (BetR r1 (r1 + 1) x0 y0 x1 y1) hS4 (fun x hx => hx) ?_
     clear hK K hS
     have OR := or17_any (.slice (some ⟨w3.drew.heap.size, 0, none⟩) 2 2) [q1, q2] (w3.drew.alloc (.cells #[.int .i64 q1, .int .i64 q2] 3)) (Ints.cells (xs := [q1, q2]) (by simp) (fun i hi => by
       have hb := (Blk.new w3.drew 3 #[.int .i64 q1, .int .i64 q2]).cell i
       rw [Nat.zero_add, hb]
       match i, hi with
       | 0, _ => rfl
       | 1, _ => rfl)) (by simp)
     have HFIN := Lib.hid (ext_trans (ext_trans (ext_trans HE.out HA.out) (Ext.drew w3)) hA)
     clear hA
     refine line_act (by rfl) (fun K hK => ?_)
     go_wp2_with (go_at_call 152; refine OR.mono ?_; rintro e w5 ⟨⟨r, rfl, hr⟩, rfl⟩; have HR := Lib.hid (HQ.out r (or17_two q1 q2 r hr)); clear hr)
     refine hK _ _ (BetR r1 (r1 + 1) x0 y0 x1 y1) hS4 (fun x hx => hx) ?_
     clear hK K OR
     iterate 2 (refine line_read (a' := ?_) rfl (by kernel_rfl) (by kernel_rfl) hS4 (fun z0 hx K hK => ?_) ?_; rotate_left; · (obtain ⟨d1, d2, d3, d4⟩ := hx; go_wp2; exact hK))
     refine line_end ?_
     clear hS4
     go_wp2
     go_ret
     exact ⟨by rw [HW.out, HR.out]; simp, HFIN.out⟩
   · go_enter Tryz.func121, Tryz.ntmps121
     go_upto_region 1 with fail
     clear hw1
     go_upto_region 3 with (first
       | (refine tag_load17 rfl _ rfl rfl hbf ?_)
       | (refine tag_load17 rfl _ rfl rfl hbg ?_)
       | (go_at_call 151; refine (N1 _).mono ?_; rintro e w2 ⟨rfl, hE2⟩; have HA := Lib.hid hE2; have hbf := HBF.out.ext hE2; have hbg := HBG.out.ext hE2; clear hE2))
     go_wp2_with (first
       | (refine tag_load17 rfl _ rfl rfl hbf ?_)
       | (refine tag_load17 rfl _ rfl rfl hbg ?_)
       | (go_at_call 151; refine (N2 _).mono ?_; rintro e w3 ⟨rfl, hE3⟩; have HA := Lib.hid (ext_trans HA.out hE3); clear hE3))
     go_ret
     exact ⟨by rw [HW.out]; simp, ext_trans HE.out HA.out⟩
 · go_enter Tryz.func121, Tryz.ntmps121
   go_upto_region 1 with fail
   clear hw1
   go_wp2_with (first
     | (refine tag_load17 rfl _ rfl rfl hbf ?_)
     | (refine tag_load17 rfl _ rfl rfl hbg ?_)
     | (go_at_call 151; refine (N1 _).mono ?_; rintro e w2 ⟨rfl, hE2⟩; have HA := Lib.hid hE2; clear hE2))
   go_ret
   exact ⟨by rw [HW.out]; simp, ext_trans HE.out HA.out⟩
end Go.Proofs.YtdnpdoipipfkoaaGreatDoor

namespace Go.Proofs.YtdnpdoipipfkoaaGreatDoor
set_option linter.unusedVariables false
set_option linter.unusedSimpArgs false
set_option linter.unusedVariables false
set_option linter.unusedSimpArgs false
set_option maxRecDepth 100000
open Go.RowKit Go.Sort
def encSp (x : Sp3) : List Value := [.int .i64 x.1, .int .i64 x.2.1, .int .i64 x.2.2]
theorem spotsL17_len (l : List Sp3) : (spotsL17 l).length = l.length * 3 := by
 unfold spotsL17
 induction l with
 | nil => rfl
 | cons c r ih => rw [List.flatMap_cons, List.length_append, ih, List.length_cons]; simp [spotC17]; omega
theorem spotsL17_get : ∀ (l : List Sp3) (j i : Nat), i < 3 → (hj : j < l.length) → (spotsL17 l)[j * 3 + i]? = (encSp l[j])[i]?
 | [], j, i, _, h => by simp at h
 | c :: r, 0, i, hi, _ => by
   show ((spotC17 c).toList ++ spotsL17 r)[0 * 3 + i]? = _
   rw [Nat.zero_mul, Nat.zero_add, List.getElem?_append_left (by show i < 3; exact hi)]
   rfl
 | c :: r, j + 1, i, hi, h => by
   show ((spotC17 c).toList ++ spotsL17 r)[(j + 1) * 3 + i]? = _
   have hl : (spotC17 c).toList.length = 3 := rfl
   rw [List.getElem?_append_right (by omega), hl, show (j + 1) * 3 + i - 3 = j * 3 + i by omega, spotsL17_get r j i hi (by simpa using h)]
   simp
theorem flat_spots (d : List Sp3) : flatK encSp 3 d.toArray = (spotsL17 d).toArray := by
 apply Array.ext
 · simp [spotsL17_len]
 · intro t h1 h2
   simp at h1
   have h3 := spotsL17_get d (t / 3) (t % 3) (by omega) (by omega)
   rw [show t / 3 * 3 + t % 3 = t by omega] at h3
   have h4 := get_flatK encSp 3 d.toArray t (by simpa using h1)
   rw [getElem!_pos (flatK encSp 3 d.toArray) t (by simpa using h1)] at h4
   rw [h4]
   have h5 : (d.toArray[t / 3]! : Sp3) = d[t / 3]'(by omega) := by rw [getElem!_pos d.toArray (t / 3) (by simp; omega)]; simp
   rw [h5]
   have h6 : t % 3 < (encSp (d[t / 3]'(by omega))).length := by show t % 3 < 3; omega
   rw [getElem!_pos (encSp (d[t / 3]'(by omega))) (t % 3) h6]
   rw [List.getElem?_eq_getElem h6] at h3
   rw [List.getElem_toArray]
   have h7 := List.getElem?_eq_getElem (l := spotsL17 d) (i := t) (by rw [spotsL17_len]; exact h1)
   rw [h7] at h3
   injection h3 with h3
   exact h3.symm
theorem heap_putId {w : World} {g n : Nat} {os : Array Obj} {cur : Array Value} {e : TypeId} {fr : Nat × Nat} (F : Array Value) (hb : w.heap[g]? = some (.cells cur e fr)) :
   (grow (putRow id (Sort.ahead w n) g 0 F) os).heap[g]? = some (.cells (putCells id 0 F cur) e fr) := by
 have hg : g < w.heap.size := (Array.getElem?_eq_some_iff.1 hb).1
 rw [heap_grow_old _ _ (by simpa using hg)]
 simp [putRow, mapBlock, Sort.ahead, Array.getElem?_modify, hb, onCells]
theorem grownBy_putId {w : World} {g n : Nat} {os : Array Obj} (F : Array Value) : w.grownBy (grow (putRow id (Sort.ahead w n) g 0 F) os) (some g) := by
 refine ⟨rfl, rfl, rfl, by simp, fun k hk hne => ?_⟩
 rw [heap_grow_old _ _ (by simpa using hk)]
 have : g ≠ k := fun e => hne (by rw [e])
 simp [putRow, mapBlock, Sort.ahead, Array.getElem?_modify, this]
theorem take_putId (cur : Array Value) (ts : List Value) (h : ts.length ≤ cur.size) : (putCells id 0 ts.toArray cur).toList.take ts.length = ts := by
 apply List.ext_getElem?
 intro j
 by_cases hj : j < ts.length
 · rw [List.getElem?_take_of_lt hj, Array.getElem?_toList]
   simp [putCells, hj, show j < cur.size by omega]
 · rw [List.getElem?_take_eq_none (by omega), List.getElem?_eq_none (by omega)]
theorem spotsOf1_any (x y : Sp3) (W : World) : Calls Tryz.prog 123 #[.agg #[.int .i64 x.1, .int .i64 x.2.1, .int .i64 x.2.2], .agg #[.int .i64 y.1, .int .i64 y.2.1, .int .i64 y.2.2]] W fun e w' => e = .returned (.int .i64 (cmpI x.1 y.1)) ∧ ∃ q os', w' = grow (W.drewN q) os' := by
 have CMP := fun wx => compare17_any x.1 y.1 wx
 obtain ⟨r, hr⟩ : ∃ z, cmpI x.1 y.1 = z := ⟨_, rfl⟩
 rw [hr] at CMP ⊢
 clear hr
 go_enter Tryz.func123, Tryz.ntmps123
 go_wp2_with (go_at_call 124; refine (CMP _).mono ?_; rintro e w' ⟨rfl, rfl⟩)
 go_ret
 exact ⟨rfl, 0, _, by rw [alloc_eq_grow, alloc_eq_grow, grow_grow]; rfl⟩
theorem ltSp (x y : Sp3) : ltOf (fun x y : Sp3 => cmpI x.1 y.1) x y = decide (x.1 < y.1) := by
 unfold ltOf cmpI
 by_cases h1 : x.1 < y.1
 · simp [h1]
 · by_cases h2 : y.1 < x.1 <;> simp [h1, h2]
theorem swoSp : SWO (ltOf fun x y : Sp3 => cmpI x.1 y.1) where
 irrefl x := by rw [ltSp]; simp
 trans x y z h1 h2 := by rw [ltSp] at *; simp at *; omega
 ntrans x y z h1 h2 := by rw [ltSp] at *; simp at *; omega
theorem Tryz.eg6 : ∀ args w, (callFunc 123 args).run Tryz.prog w = .ok (.enter 123 args) w := enters_of Tryz.func123 (by kernel_rfl) rfl
theorem sortFunc17_any (base g cap : Nat) (d : List Sp3) (w : World) (h : w.ownsRow base 144 3 (.slice (some ⟨g, 0, none⟩) d.length cap) d.length (spotsL17 d)) (hl : d.length ≤ 1000) :
   Calls Tryz.prog 122 #[.slice (some ⟨g, 0, none⟩) d.length cap, .func (.func 123) #[] #[]] w fun e w' =>
     e = .returned (.tuple #[]) ∧ ∃ d2 : List Sp3, d2.Perm d ∧ d2.Pairwise (fun a b => a.1 ≤ b.1) ∧ w'.ownsRow base 144 3 (.slice (some ⟨g, 0, none⟩) d.length cap) d.length (spotsL17 d2) ∧ w.grownBy w' (some g) := by
 rcases h.2 with ⟨hv, _⟩ | ⟨g', cap', cur, hv, hb, hg, hn, hm, hs, ht⟩
 · cases hv
 · simp only [Value.slice.injEq, Option.some.injEq, Addr.mk.injEq, true_and, and_true] at hv
   obtain ⟨rfl, rfl⟩ := hv
   have hlen : d.length * 3 ≤ cur.size := by have := Nat.mul_le_mul_right 3 hn; omega
   have hH : HoldsK encSp 3 w g 0 d.toArray := by
     unfold HoldsK
     rw [flat_spots]
     intro j hj
     have hj' : j < d.length * 3 := by simpa [spotsL17_len] using hj
     refine ⟨?_, by simp [World.frozen?, hg]⟩
     have h1 : (cur.toList.take (d.length * 3))[j]? = (spotsL17 d)[j]? := by rw [ht]
     rw [List.getElem?_take_of_lt hj', Array.getElem?_toList] at h1
     rw [cell_of_row w g _ cur _ _ hg, Nat.zero_add, h1, getElem!_pos _ j hj]
     simp [spotsL17_len, hj']
   have hcon := AnyQ.slices_SortFunc Tryz.sortSpot 3 Tryz.isAgg144 Tryz.sizeOf144 encSp (fun _ => rfl) (fun x v hv => by simp [encSp] at hv; rcases hv with rfl | rfl | rfl <;> rfl) (fun x y => cmpI x.1 y.1) swoSp 123 #[] g 0 cap d.toArray w Tryz.eg6 (fun _ _ _ _ x y => spotsOf1_any x y _) hH (Array.getElem?_eq_some_iff.1 hg).1 (by simp; omega)
   refine Calls.mono (P := Tryz.prog) hcon ?_
   rintro e w' ⟨rfl, d', n, os, hp, hsrt, rfl⟩
   obtain ⟨hp1, _, hp2⟩ := hp
   have e1 : d'.extract 0 d.toArray.size = d' := by rw [← hp1]; exact Array.extract_size
   have e2 : d.toArray.extract 0 d.toArray.size = d.toArray := Array.extract_size
   rw [e1, e2] at hp2
   have hsz : d'.toList.length = d.length := by simpa using hp1
   refine ⟨rfl, d'.toList, by simpa using hp2, ?_, ?_, ?_⟩
   · rw [List.pairwise_iff_getElem]
     intro i j hi hj hij
     have h1 := hsrt i j (Nat.zero_le _) hij (by rw [List.size_toArray]; omega)
     rw [ltSp, getElem!_pos d' j (by simpa using hj), getElem!_pos d' i (by simpa using hi)] at h1
     simp at h1 ⊢
     omega
   · refine ⟨by rw [spotsL17_len, hsz], .inr ⟨g, cap, _, rfl, hb, heap_putId _ hg, hn, hm, by simpa [putCells] using hs, ?_⟩⟩
     have e3 : flatK encSp 3 d' = (spotsL17 d'.toList).toArray := by have := flat_spots d'.toList; simpa using this
     rw [e3]
     have := take_putId cur (spotsL17 d'.toList) (by rw [spotsL17_len, hsz]; exact hlen)
     rw [spotsL17_len, hsz] at this
     exact this
   · exact grownBy_putId _
end Go.Proofs.YtdnpdoipipfkoaaGreatDoor

namespace Go.Proofs.YtdnpdoipipfkoaaGreatDoor
set_option linter.unusedVariables false
set_option linter.unusedSimpArgs false
set_option linter.unusedVariables false
set_option linter.unusedSimpArgs false
set_option maxRecDepth 100000
open Go.RowKit Go.Maps
def topC (t : TopT) : Array Value := #[.int .i64 t.1, .int .i64 t.2.1, .bool t.2.2]
def topV (t : TopT) : Value := .agg (topC t)
theorem topV_inj (x y : TopT) (h : topV x = topV y) : x = y := by
 obtain ⟨a, b, c⟩ := x
 obtain ⟨d, e, f⟩ := y
 simp [topV, topC] at h
 obtain ⟨rfl, rfl, rfl⟩ := h
 rfl
abbrev TopsM (w : World) (b n : Nat) (m : Int → Option TopT) : Prop := MapX Tryz.prog 3 topV w b n m
theorem Tryz.zeroTop (w : World) : (zeroValue 183).run Tryz.prog w = .ok (topV noT) w := by kernel_rfl
theorem Tryz.sizeTop : (Tryz.prog.info? 183).map (·.size) = some 3 := by kernel_rfl
section
variable {ops : Array Oper} {rest : List Oper} {o : Oper} {a : Act} {w : World} {Q : Exit → Act → World → Prop}
theorem top_load (hwt : Region.wanted o (yielded ops a.tmps) = true) (x : Operand) (ho : o.op = .load 183 x) {b off : Nat} (hx : a.eval x = .pointer (some ⟨b, off, none⟩)) {t1 t2 : Int} {t3 : Bool} (hr : w.rangeAt b off [.int .i64 t1, .int .i64 t2, .bool t3])
   (h : wpList Tryz.prog ops Q rest (a.put o.dst (.agg #[.int .i64 t1, .int .i64 t2, .bool t3])) w) : wpList Tryz.prog ops Q (o :: rest) a w :=
 wpList_want hwt fun K hK => wp_load_mid _ x ho b off hx _ _ hr Tryz.underlying183 rfl (by rw [Tryz.sizeTop]; rfl) (hK _ _ (by simpa using h))
theorem top_store (x y : Operand) (ho : o.op = .store 183 x y) {g : Nat} (hx : a.eval x = .pointer (some ⟨g, 0, none⟩)) {t1 t2 : Int} {t3 : Bool} (hy : a.eval y = .agg #[.int .i64 t1, .int .i64 t2, .bool t3]) {old : Array Value} (hg : Blk w g 183 old) (hold : old.size = 3) (hwt : Region.wanted o (yielded ops a.tmps) = true)
   (h : ∀ w', Blk w' g 183 (topC (t1, t2, t3)) → w.grownBy w' (some g) → w'.heap.size = w.heap.size → wpList Tryz.prog ops Q rest (a.put o.dst undef) w') : wpList Tryz.prog ops Q (o :: rest) a w :=
 wpList_store_part hwt _ x y ho g 0 3 _ hx hy _ old _ hg rfl Tryz.sizeTop (by omega) (by simp [Value.oneCell']) (by
   rw [List.drop_of_length_le (by simp; omega)]
   simp [topC]) h
end
theorem Blk.rangeT {w : World} {g : Nat} {t : TypeId} {u : TopT} (h : Blk w g t (topC u)) : w.rangeAt g 0 [.int .i64 u.1, .int .i64 u.2.1, .bool u.2.2] := World.rangeAt_of_block h 0 3
structure TpsS (w0 wr : World) (mb : Nat) (lv : Value) (A : List Fnd) (k : Nat) : Prop where
 l : RowF wr lv A
 m : TopsM wr mb k (topsF (A.take k))
 ext : w0.grownBy wr none
theorem TpsS.next {w0 wr w' : World} {mb : Nat} {lv : Value} {A : List Fnd} {k : Nat} (h : TpsS w0 wr mb lv A k) (hE : wr.grownBy w' none) : TpsS w0 w' mb lv A k := ⟨h.l.ext hE, h.m.ext hE, ext_trans h.ext hE⟩
set_option maxHeartbeats 1600000 in
theorem topsOf_any (lv : Value) (A : List Fnd) (w : World) (h : RowF w lv A) (hlb : ∀ k, lv.ownBlock = some k → k < w.heap.size) (hl : A.length ≤ 1000) (hok : ∀ f ∈ A, okI f.pl) :
   Calls Tryz.prog 117 #[lv] w fun e w' => (∃ b, e = .returned (.map (some b)) ∧ TopsM w' b 1000 (topsF A) ∧ w.heap.size ≤ b) ∧ w.grownBy w' none := by
 have hmm := @run_makeMap Tryz.prog
 have hE0 := World.grownBy_alloc w (.map #[] 0) none
 have HS := Lib.hid (show TpsS w (w.alloc (.map #[] 0)) w.heap.size lv A 0 from ⟨h.ext hE0, MapX.made _ _ _ w, hE0⟩)
 obtain ⟨ao, cap, hv, _⟩ := h
 obtain ⟨n, hn⟩ : ∃ n, A.length = n := ⟨_, rfl⟩
 rw [hn] at hv hl
 subst hv
 have HN := Lib.hid (And.intro hn (And.intro hlb hok))
 clear hn hlb hok hE0
 obtain ⟨w1, hw1⟩ : ∃ v, w.alloc (.map #[] 0) = v := ⟨_, rfl⟩
 obtain ⟨mb, hmb⟩ : ∃ v, w.heap.size = v := ⟨_, rfl⟩
 rw [hw1, hmb] at HS
 have HMB := Lib.hid hmb
 go_enter Tryz.func117, Tryz.ntmps117
 go_wp2
 clear hmm hw1 hmb
 go_loopw [13] (fun i wr => ∃ (k : Nat), k ≤ n ∧ i = .int .i64 k ∧ TpsS w wr mb (.slice ao n cap) A k) (fun i _ => n - (intOf i).toNat)
 case atStart => exact ⟨0, by omega, rfl, HS.out⟩
 case round =>
   clear HS
   obtain ⟨k, hk, rfl, hS⟩ := hrel
   obtain ⟨wo, rfl⟩ : ∃ wo : World, wo = wr := ⟨_, rfl⟩
   have HS := Lib.hid hS
   clear hS
   by_cases hlt : k < n
   · obtain ⟨f, hf⟩ : ∃ f, A.getD k noF = f := ⟨_, rfl⟩
     obtain ⟨ao2, cap2, hv2, hc2⟩ := HS.out.l
     obtain ⟨b, off, hao, hr⟩ := hc2 k (by rw [HN.out.1]; exact hlt)
     simp only [Value.slice.injEq] at hv2
     obtain ⟨rfl, -, -⟩ := hv2
     subst hao
     rw [hf] at hr
     have HF := Lib.hid (take17 (by rw [HN.out.1]; exact hlt) hf)
     have HOK := Lib.hid (HN.out.2.2 f (getD_mem17 (by rw [HN.out.1]; exact hlt) hf))
     have hBn := Blk.new wo 108 (fndC noF)
     clear hf hc2
     obtain ⟨fb, hfb⟩ : ∃ v, wo.heap.size = v := ⟨_, rfl⟩
     rw [hfb] at hBn
     go_upto_region 5 with (first
       | (refine fnd_load rfl _ rfl rfl hr ?_)
       | (refine fnd_store _ _ rfl rfl rfl hBn rfl rfl ?_; intro w2 hb2 hg2 hs2; have hE2 := g17_new (World.grownBy_alloc wo _ none) hg2 (by omega); have HS2 := Lib.hid (HS.out.next hE2); have HC2 := Lib.hid hb2; clear hBn hg2 hs2 hE2 hb2))
     clear hr hfb
     obtain ⟨x5, hx5⟩ : ∃ z, f.pl = z := ⟨_, rfl⟩
     obtain ⟨x6, hx6⟩ : ∃ z, f.sq = z := ⟨_, rfl⟩
     obtain ⟨x0, hx0⟩ : ∃ z, f.bk = z := ⟨_, rfl⟩
     go_frame
     go_cut [6, 7] (fun p q wx => p = .int .i64 x5 ∧ (∃ tb, q = .pointer (some ⟨tb, 0, none⟩) ∧ Blk wx tb 183 (topC (x6, x0, false))) ∧ w2.grownBy wx none)
     case first =>
       have d0 := (FCells.of HC2.out).bk
       have d5 := (FCells.of HC2.out).pl
       have d6 := (FCells.of HC2.out).sq
       rw [hx0] at d0
       rw [hx5] at d5
       rw [hx6] at d6
       have hlt2 : fb < w2.heap.size := HC2.out.lt
       go_region
       all_goals (go_wp2_with fail; go_meet)
       all_goals exact ⟨rfl, ⟨_, rfl, Blk.new _ _ _⟩, ext_trans (World.grownBy_alloc _ _ none) (Ext.drew _)⟩
     case rest =>
       obtain ⟨rfl, ⟨tb, rfl, hT⟩, hE3⟩ := hcut
       have HT := Lib.hid hT
       have HS3 := Lib.hid (HS2.out.next hE3)
       have HC3 := Lib.hid (HC2.out.ext hE3)
       clear hT hE3
       have hstep : topsF (A.take (k + 1)) = topStep (topsF (A.take k)) f := by rw [HF.out, topsF_snoc]
       unfold topStep at hstep
       rw [hx5, hx6, hx0] at hstep
       obtain ⟨c, hc⟩ : ∃ z, (topsF (A.take k) x5).isSome = z := ⟨_, rfl⟩
       obtain ⟨⟨t1, t2, t3⟩, ht⟩ : ∃ z, (topsF (A.take k) x5).getD noT = z := ⟨_, rfl⟩
       obtain ⟨z1, hz1⟩ : ∃ z, decide (t1 < x6) = z := ⟨_, rfl⟩
       obtain ⟨z2, hz2⟩ : ∃ z, (x6 == t1) = z := ⟨_, rfl⟩
       obtain ⟨z3, hz3⟩ : ∃ z, decide (t2 < x0) = z := ⟨_, rfl⟩
       have hbet : betT (t1, t2, t3) f = (z1 || (z2 && z3)) := by unfold betT; rw [hx6, hx0, hz1, hz2, hz3]
       rw [hc, ht, hbet] at hstep
       have HT3 := Lib.hid hstep
       have hok := HOK.out
       rw [hx5] at hok
       have hm3 := HS3.out.m
       have HTV := Lib.hid (show topV ((topsF (A.take k) x5).getD noT) = .agg #[.int .i64 t1, .int .i64 t2, .bool t3] by rw [ht]; rfl)
       have HCC := Lib.hid hc
       obtain ⟨nb, hnb⟩ : ∃ z, wc.heap.size = z := ⟨_, rfl⟩
       have hBn := Blk.new wc 183 (topC noT)
       rw [hnb] at hBn
       clear hstep hc ht hbet hx5 hx6 hx0 HF HC3
       go_upto_region 7 with (first
         | (at_lookup; refine wpList_lookXok rfl _ _ rfl topV_inj Tryz.underlying179 Tryz.underlying3 noT (Tryz.zeroTop _) hm3 rfl x5 rfl hok _ HTV.out c HCC.out ?_)
         | (refine top_store _ _ rfl rfl rfl hBn rfl rfl ?_; intro w4 hb4 hg4 hs4; have hE4 := g17_new (World.grownBy_alloc wc _ none) hg4 (by omega); have HS4 := Lib.hid (HS3.out.next hE4); have HT4 := Lib.hid (HT.out.ext hE4); have HN4 := Lib.hid hb4; clear hBn hg4 hs4 hE4 hb4))
       clear hnb hm3
       have e0 : w4.cell? ⟨tb, 0, none⟩ = some (.int .i64 x6) := HT4.out.cell 0
       have e1 : w4.cell? ⟨tb, 1, none⟩ = some (.int .i64 x0) := HT4.out.cell 1
       have n0 : w4.cell? ⟨nb, 0, none⟩ = some (.int .i64 t1) := HN4.out.cell 0
       have n1 : w4.cell? ⟨nb, 1, none⟩ = some (.int .i64 t2) := HN4.out.cell 1
       have hr4 : w4.rangeAt tb 0 [.int .i64 x6, .int .i64 x0, .bool false] := HT4.out.rangeT
       have hm4 := HS4.out.m
       have hk4 : k < maxLen := by unfold maxLen; omega
       have HPUT := Lib.hid (show ∀ w5, (!c || (z1 || (z2 && z3))) = true → TopsM w5 mb (k + 1) (updX (topsF (A.take k)) x5 (x6, x0, false)) → w4.grownBy w5 (some mb) → TpsS w w5 mb (.slice (some ⟨b, off, none⟩) n cap) A (k + 1) from fun w5 hc hm hg => by
         have h1 := HT3.out
         rw [if_pos hc] at h1
         have hmb := HMB.out
         refine ⟨HS4.out.l.kept hg (fun q hq e => by have := HN.out.2.1 q hq; injection e with e; omega), by rw [h1]; exact hm, g17_new HS4.out.ext hg (by omega)⟩)
       have HSTAY := Lib.hid (show (!c || (z1 || (z2 && z3))) = false → TpsS w w4 mb (.slice (some ⟨b, off, none⟩) n cap) A (k + 1) from fun hc => by
         have h1 := HT3.out
         rw [if_neg (by rw [hc]; decide)] at h1
         exact ⟨HS4.out.l, by rw [h1]; exact HS4.out.m.mono (by omega), HS4.out.ext⟩)
       cases c
       · clear hz1 hz2 hz3
         go_upto_region 8 with fail
         go_wp2_with (first
           | (refine top_load rfl _ rfl rfl hr4 ?_)
           | (at_mapUpdate; refine wpList_putX rfl _ _ _ rfl topV_inj Tryz.underlying179 Tryz.underlying3 hm4 hk4 rfl x5 rfl hok (x6, x0, false) rfl ?_; intro w5 hm5 hg5; have HM5 := Lib.hid hm5; have HG5 := Lib.hid hg5; clear hm5 hg5))
         go_roundw
         case rel => exact ⟨k + 1, by omega, by go_num, HPUT.out w5 (by simp) HM5.out HG5.out⟩
         case measure => simp [intOf]; omega
       · cases z1
         · cases z2
           · clear hz3
             go_wp2
             go_roundw
             case rel => exact ⟨k + 1, by omega, by go_num, HSTAY.out (by simp)⟩
             case measure => simp [intOf]; omega
           · cases z3
             · go_wp2
               go_roundw
               case rel => exact ⟨k + 1, by omega, by go_num, HSTAY.out (by simp)⟩
               case measure => simp [intOf]; omega
             · go_upto_region 8 with fail
               go_wp2_with (first
                 | (refine top_load rfl _ rfl rfl hr4 ?_)
                 | (at_mapUpdate; refine wpList_putX rfl _ _ _ rfl topV_inj Tryz.underlying179 Tryz.underlying3 hm4 hk4 rfl x5 rfl hok (x6, x0, false) rfl ?_; intro w5 hm5 hg5; have HM5 := Lib.hid hm5; have HG5 := Lib.hid hg5; clear hm5 hg5))
               go_roundw
               case rel => exact ⟨k + 1, by omega, by go_num, HPUT.out w5 (by simp) HM5.out HG5.out⟩
               case measure => simp [intOf]; omega
         · clear hz2 hz3
           go_upto_region 8 with fail
           go_wp2_with (first
             | (refine top_load rfl _ rfl rfl hr4 ?_)
             | (at_mapUpdate; refine wpList_putX rfl _ _ _ rfl topV_inj Tryz.underlying179 Tryz.underlying3 hm4 hk4 rfl x5 rfl hok (x6, x0, false) rfl ?_; intro w5 hm5 hg5; have HM5 := Lib.hid hm5; have HG5 := Lib.hid hg5; clear hm5 hg5))
           go_roundw
           case rel => exact ⟨k + 1, by omega, by go_num, HPUT.out w5 (by simp) HM5.out HG5.out⟩
           case measure => simp [intOf]; omega
   · obtain rfl : k = n := by omega
     go_wp2
     go_ret
     have hm := HS.out.m
     rw [List.take_of_length_le (by rw [HN.out.1]; exact Nat.le_refl _)] at hm
     exact ⟨⟨mb, rfl, hm.mono hl, by rw [HMB.out]; exact Nat.le_refl _⟩, HS.out.ext⟩
end Go.Proofs.YtdnpdoipipfkoaaGreatDoor

namespace Go.Proofs.YtdnpdoipipfkoaaGreatDoor
set_option linter.unusedVariables false
set_option linter.unusedSimpArgs false
set_option linter.unusedVariables false
set_option linter.unusedSimpArgs false
set_option maxRecDepth 100000
open Go.RowKit Go.Maps
def fndV (f : Fnd) : Value := .agg (fndC f)
theorem fndV_inj (x y : Fnd) (h : fndV x = fndV y) : x = y := by
 obtain ⟨a, b, c, d, e, f, g, h1, i, j⟩ := x
 obtain ⟨a2, b2, c2, d2, e2, f2, g2, h2, i2, j2⟩ := y
 simp [fndV, fndC] at h
 obtain ⟨rfl, rfl, rfl, rfl, rfl, rfl, rfl, rfl, rfl, rfl⟩ := h
 rfl
abbrev BestM (w : World) (b n : Nat) (m : Int → Option Fnd) : Prop := MapX Tryz.prog 3 fndV w b n m
theorem Tryz.zeroFnd (w : World) : (zeroValue 108).run Tryz.prog w = .ok (fndV noF) w := by kernel_rfl
theorem Tryz.infoSpt : (Tryz.prog.info? 144).map (fun i => (i.zero, i.size, i.bytes)) = some (some (.agg #[.int .i64 0, .int .i64 0, .int .i64 0]), 3, 24) := by kernel_rfl
theorem spotsL17_snoc (L : List Sp3) (x : Sp3) : spotsL17 (L ++ [x]) = spotsL17 L ++ encSp x := by simp [spotsL17, encSp, spotC17]
section
variable {X : Type} {P : Program} {K T E : TypeId} {mk : X → Value} {w w' : World} {b n : Nat} {m : Int → Option X}
variable {ops : Array Oper} {rest : List Oper} {o : Oper} {a : Act} {Q : Exit → Act → World → Prop}
theorem wpList_lenX (hg : o.guard = none) (mo : Operand) (hop : o.op = Op.call { callee := Callee.builtin Builtin.len, args := #[mo], argTypes := #[T] }) (hT : P.underlying T = some (.map K E)) (h : MapX P K mk w b n m) (hm : a.eval mo = .map (some b))
   (hk : ∀ s : Nat, s ≤ n → wpList P ops Q rest (a.put o.dst (.int .i64 (s : Int))) w) : wpList P ops Q (o :: rest) a w := by
 obtain ⟨D, hD, _⟩ := h
 exact wpList_len_own w hg mo T hop K E hT _ b n D hm hD (hk _ hD.size_le)
theorem wpList_make0 (hg : o.guard = none) (l c : Operand) {e : TypeId} {i : TypeInfo} {z : Value} {size : Nat} (hop : o.op = Op.makeSlice T l c) (hl : a.eval l = .int .i64 0) (hT : P.underlying T = some (.slice e)) (hi : P.info? e = some i) (hz : i.zero = some z) (hs : i.size = size) (s : Nat) (hc : a.eval c = .int .i64 (s : Int)) (hb : i.bytes * s ≤ 281474976710656) (h63 : s ≤ maxLen)
   (hk : ∀ w', w'.ownsRow w.heap.size e size (.slice (some ⟨w.heap.size, 0, none⟩) 0 s) 0 [] → w.grownBy w' none → wpList P ops Q rest (a.put o.dst (.slice (some ⟨w.heap.size, 0, none⟩) 0 s)) w') : wpList P ops Q (o :: rest) a w := by
 refine wpList_plain hg fun K' hK' => ?_
 obtain ⟨w', hrun, h1, h2⟩ := run_make_own w w.heap.size T e i z size hT hi hz hs .i64 .i64 s hb h63 (Nat.le_refl _)
 unfold Oper.wp
 simp [execOp, hop, hl, hc, hrun, Result.andThen]
 exact hK' _ _ (hk w' h1 h2)
end
section
variable {ops : Array Oper} {rest : List Oper} {o : Oper} {a : Act} {w : World} {Q : Exit → Act → World → Prop}
theorem append_spt (hgd : o.guard = none) (s x : Operand) (ho : o.op = .call { callee := .builtin .append, args := #[s, x], argTypes := #[97, 97] }) (base : Nat) (v : Value) (row : List Sp3) (n : Nat) (hn : row.length = n) (hs : a.eval s = v) (hown : w.ownsRow base 144 3 v n (spotsL17 row)) (hv : v ≠ .slice none 0 0)
   (ad : Addr) (cap : Nat) (y : Sp3) (hx : a.eval x = .slice (some ad) 1 cap) (hc : ∀ j u, (encSp y)[j]? = some u → w.cell? (ad.add j) = some u) (h63 : n ≤ 1000000) (hbase : base ≤ w.heap.size)
   (h : ∀ v' w', w'.ownsRow base 144 3 v' (n + 1) (spotsL17 (row ++ [y])) → w.grownBy w' v.ownBlock → v' ≠ .slice none 0 0 → wpList Tryz.prog ops Q rest (a.put o.dst v') w') : wpList Tryz.prog ops Q (o :: rest) a w := by
 obtain ⟨i0, hi, hz0, hz1, hz2⟩ := info_parts Tryz.infoSpt
 refine wpList_append_own w hgd s x 97 ho base 144 i0 _ 3 24 Tryz.underlying97 hi hz0 hz1 hz2 rfl (by decide) v n _ hs hown ad 1 cap (encSp y) hx rfl hc (by simp [encSp, Value.oneCell']) (by unfold maxLen; omega) (by omega) hbase ?_
 intro v' w' h1 h2 h3
 exact h v' w' (by rw [spotsL17_snoc]; exact h1) h2 (fun e => hv (h3.1 e).1)
end
theorem spt_new (w : World) (p x y : Int) (T : TypeId) : ∀ j u, (encSp (p, x, y))[j]? = some u → (w.alloc (.cells #[.int .i64 p, .int .i64 x, .int .i64 y] T)).cell? ((⟨w.heap.size, 0, none⟩ : Addr).add j) = some u := by
 intro j u hj
 have hb := Blk.new w T #[.int .i64 p, .int .i64 x, .int .i64 y]
 have h1 := hb.cell j
 rw [addr_add, Nat.zero_add]
 exact h1.trans (by simpa [encSp] using hj)
structure BesS (w0 wr : World) (mb : Nat) (lv : Value) (A : List Fnd) (k : Nat) : Prop where
 l : RowF wr lv A
 m : BestM wr mb k (bestsF (A.take k))
 ext : w0.grownBy wr none
theorem BesS.next {w0 wr w' : World} {mb : Nat} {lv : Value} {A : List Fnd} {k : Nat} (h : BesS w0 wr mb lv A k) (hE : wr.grownBy w' none) : BesS w0 w' mb lv A k := ⟨h.l.ext hE, h.m.ext hE, ext_trans h.ext hE⟩
def toSp (x : Int × Fnd) : Sp3 := (x.1, x.2.bk, x.2.pg)
structure RanS (w0 wr : World) (mb r n : Nat) (D : DataW Fnd) (m : Int → Option Fnd) (v : Value) (row : List (Int × Fnd)) (left : Lit → Bool) (cnt : Nat) : Prop where
 rg : wr.ranges Tryz.prog 3 (rdX fndV) mb r n D left cnt
 own : wr.ownsRow w0.heap.size 144 3 v row.length (spotsL17 (row.map toSp))
 nn : v ≠ .slice none 0 0
 mem : ∀ p f, (p, f) ∈ row ↔ m p = some f ∧ left (keyI p) = false
 nod : row.Pairwise (fun a b => a.1 ≠ b.1)
 cnt_ : row.length + cnt ≤ n
 ext : w0.grownBy wr none
theorem ran_ne {w : World} {mb r n : Nat} {D : DataW Fnd} {left : Lit → Bool} {cnt base : Nat} {e : TypeId} {sz k : Nat} {v : Value} {xs : List Value} (h : w.ranges Tryz.prog 3 (rdX fndV) mb r n D left cnt) (ho : w.ownsRow base e sz v k xs) : some mb ≠ v.ownBlock ∧ some r ≠ v.ownBlock := by
 obtain ⟨es, clock, since, seen, c0, hb, _, _, _, hr, _⟩ := h
 rcases ho.2 with ⟨rfl, _⟩ | ⟨g, cap, cur, rfl, _, hg, _⟩
 · simp [Value.ownBlock]
 · simp only [Value.ownBlock]
   constructor
   · intro e1; injection e1 with e1; subst e1; rw [hb] at hg; cases hg
   · intro e1; injection e1 with e1; subst e1; rw [hr] at hg; cases hg
set_option maxHeartbeats 3200000 in
theorem spotsOf_any (lv : Value) (A : List Fnd) (w : World) (h : RowF w lv A) (hlb : ∀ k, lv.ownBlock = some k → k < w.heap.size) (hl : A.length ≤ 1000) (hok : ∀ f ∈ A, okI f.pl) :
   Calls Tryz.prog 87 #[lv] w fun e w' => (∃ v l, e = .returned v ∧ w'.ownsRow w.heap.size 144 3 v l.length (spotsL17 l) ∧ l.Pairwise (fun a b => a.1 < b.1) ∧ ∀ s, s ∈ l ↔ ∃ p f, bestsF A p = some f ∧ s = (p, f.bk, f.pg)) ∧ w.grownBy w' none := by
 have hmm := @run_makeMap Tryz.prog
 have hE0 := World.grownBy_alloc w (.map #[] 0) none
 have HS := Lib.hid (show BesS w (w.alloc (.map #[] 0)) w.heap.size lv A 0 from ⟨h.ext hE0, MapX.made _ _ _ w, hE0⟩)
 obtain ⟨ao, cap, hv, _⟩ := h
 obtain ⟨n, hn⟩ : ∃ n, A.length = n := ⟨_, rfl⟩
 rw [hn] at hv hl
 subst hv
 have HN := Lib.hid (And.intro hn (And.intro hlb hok))
 clear hn hlb hok hE0
 obtain ⟨w1, hw1⟩ : ∃ v, w.alloc (.map #[] 0) = v := ⟨_, rfl⟩
 obtain ⟨mb, hmb⟩ : ∃ v, w.heap.size = v := ⟨_, rfl⟩
 rw [hw1, hmb] at HS
 have HMB := Lib.hid hmb
 go_enter Tryz.func87, Tryz.ntmps87
 go_wp2
 clear hmm hw1 hmb
 go_loopw [14] (fun i wr => ∃ (k : Nat), k ≤ n ∧ i = .int .i64 k ∧ BesS w wr mb (.slice ao n cap) A k) (fun i _ => n - (intOf i).toNat)
 case atStart => exact ⟨0, by omega, rfl, HS.out⟩
 case round =>
   clear HS
   obtain ⟨k, hk, rfl, hS⟩ := hrel
   obtain ⟨wo, rfl⟩ : ∃ wo : World, wo = wr := ⟨_, rfl⟩
   have HS := Lib.hid hS
   clear hS
   by_cases hlt : k < n
   · obtain ⟨f, hf⟩ : ∃ f, A.getD k noF = f := ⟨_, rfl⟩
     obtain ⟨ao2, cap2, hv2, hc2⟩ := HS.out.l
     obtain ⟨b, off, hao, hr⟩ := hc2 k (by rw [HN.out.1]; exact hlt)
     simp only [Value.slice.injEq] at hv2
     obtain ⟨rfl, -, -⟩ := hv2
     subst hao
     rw [hf] at hr
     have HF := Lib.hid (take17 (by rw [HN.out.1]; exact hlt) hf)
     have HOK := Lib.hid (HN.out.2.2 f (getD_mem17 (by rw [HN.out.1]; exact hlt) hf))
     have hBn := Blk.new wo 108 (fndC noF)
     clear hf hc2
     obtain ⟨fb, hfb⟩ : ∃ v, wo.heap.size = v := ⟨_, rfl⟩
     rw [hfb] at hBn
     go_upto_region 5 with (first
       | (refine fnd_load rfl _ rfl rfl hr ?_)
       | (refine fnd_store _ _ rfl rfl rfl hBn rfl rfl ?_; intro w2 hb2 hg2 hs2; have hE2 := g17_new (World.grownBy_alloc wo _ none) hg2 (by omega); have HS2 := Lib.hid (HS.out.next hE2); have HC2 := Lib.hid hb2; clear hBn hg2 hs2 hE2 hb2))
     clear hr hfb
     have hstep : bestsF (A.take (k + 1)) = bsM (bestsF (A.take k)) f := by rw [HF.out, bestsF_snoc]
     unfold bsM at hstep
     have hok := HOK.out
     have d5 := (FCells.of HC2.out).pl
     obtain ⟨x5, hx5⟩ : ∃ z, f.pl = z := ⟨_, rfl⟩
     rw [hx5] at hstep hok d5
     obtain ⟨c, hc⟩ : ∃ z, (bestsF (A.take k) x5).isSome = z := ⟨_, rfl⟩
     obtain ⟨now, hnow⟩ : ∃ z, (bestsF (A.take k) x5).getD noF = z := ⟨_, rfl⟩
     rw [hc, hnow] at hstep
     have HTV := Lib.hid (show fndV ((bestsF (A.take k) x5).getD noF) = .agg (fndC now) by rw [hnow]; rfl)
     have HCC := Lib.hid hc
     have hm2 := HS2.out.m
     obtain ⟨nb, hnb⟩ : ∃ z, w2.heap.size = z := ⟨_, rfl⟩
     have hBn := Blk.new w2 108 (fndC noF)
     rw [hnb] at hBn
     have HST := Lib.hid hstep
     clear hstep hc hnow
     go_upto_region 6 with (first
       | (at_lookup; refine wpList_lookXok rfl _ _ rfl fndV_inj Tryz.underlying184 Tryz.underlying3 noF (Tryz.zeroFnd _) hm2 rfl x5 rfl hok _ HTV.out c HCC.out ?_)
       | (refine fnd_store _ _ rfl rfl rfl hBn rfl rfl ?_; intro w4 hb4 hg4 hs4; have hE4 := g17_new (World.grownBy_alloc w2 _ none) hg4 (by omega); have HS4 := Lib.hid (HS2.out.next hE4); have HT4 := Lib.hid (HC2.out.ext hE4); have HN4 := Lib.hid hb4; clear hBn hg4 hs4 hE4 hb4))
     clear hnb hm2 d5
     have hk4 : k < maxLen := by unfold maxLen; omega
     cases c
     · have hbf := HT4.out
       have d5 := (FCells.of HT4.out).pl
       have hm4 := HS4.out.m
       rw [hx5] at d5
       go_upto_region 7 with fail
       go_wp2_with (first
         | (refine fnd_load rfl _ rfl rfl hbf.range17 ?_)
         | (at_mapUpdate; refine wpList_putX rfl _ _ _ rfl fndV_inj Tryz.underlying184 Tryz.underlying3 hm4 hk4 rfl x5 rfl hok f rfl ?_; intro w5 hm5 hg5; have HM5 := Lib.hid hm5; have HG5 := Lib.hid hg5; clear hm5 hg5))
       go_roundw
       case rel =>
         have hmbk := HMB.out
         exact ⟨k + 1, by omega, by go_num, HS4.out.l.kept HG5.out (fun q hq e => by have := HN.out.2.1 q hq; injection e with e; omega), by rw [HST.out]; exact HM5.out, g17_new HS4.out.ext HG5.out (by omega)⟩
       case measure => simp [intOf]; omega
     · have hbf := HT4.out
       have hbn := HN4.out
       have BET := fun wx => isBetter_any f now wx
       obtain ⟨z, hz⟩ : ∃ z, betF f now = z := ⟨_, rfl⟩
       have HST2 := HST.out
       rw [hz] at BET HST2
       have HST := Lib.hid HST2
       clear hz HST2
       cases z
       · go_wp2_with (first
           | (refine fnd_load rfl _ rfl rfl hbf.range17 ?_)
           | (refine fnd_load rfl _ rfl rfl hbn.range17 ?_)
           | (go_at_call 121; refine (BET _).mono ?_; rintro e w5 ⟨rfl, hE5⟩; have HE5 := Lib.hid hE5; clear hE5))
         go_roundw
         case rel => exact ⟨k + 1, by omega, by go_num, HS4.out.l.ext HE5.out, by rw [HST.out]; exact (HS4.out.m.ext HE5.out).mono (by omega), ext_trans HS4.out.ext HE5.out⟩
         case measure => simp [intOf]; omega
       · go_upto_region 7 with (first
           | (refine fnd_load rfl _ rfl rfl hbf.range17 ?_)
           | (refine fnd_load rfl _ rfl rfl hbn.range17 ?_)
           | (go_at_call 121; refine (BET _).mono ?_; rintro e w5 ⟨rfl, hE5⟩; have HS5 := Lib.hid (HS4.out.next hE5); have HT5 := Lib.hid (HT4.out.ext hE5); clear hE5))
         clear hbf hbn
         have hbf := HT5.out
         have d5 := (FCells.of HT5.out).pl
         have hm5 := HS5.out.m
         rw [hx5] at d5
         go_wp2_with (first
           | (refine fnd_load rfl _ rfl rfl hbf.range17 ?_)
           | (at_mapUpdate; refine wpList_putX rfl _ _ _ rfl fndV_inj Tryz.underlying184 Tryz.underlying3 hm5 hk4 rfl x5 rfl hok f rfl ?_; intro w6 hm6 hg6; have HM6 := Lib.hid hm6; have HG6 := Lib.hid hg6; clear hm6 hg6))
         go_roundw
         case rel =>
           have hmbk := HMB.out
           exact ⟨k + 1, by omega, by go_num, HS5.out.l.kept HG6.out (fun q hq e => by have := HN.out.2.1 q hq; injection e with e; omega), by rw [HST.out]; exact HM6.out, g17_new HS5.out.ext HG6.out (by omega)⟩
         case measure => simp [intOf]; omega
   · obtain rfl : k = n := by omega
     have hm := HS.out.m
     rw [List.take_of_length_le (by rw [HN.out.1]; exact Nat.le_refl _)] at hm
     have HM := Lib.hid hm
     obtain ⟨i0, hi, hz0, hz1, hz2⟩ := info_parts Tryz.infoSpt
     go_upto_region 10 with (first
       | (at_len; refine wpList_lenX rfl _ rfl Tryz.underlying184 hm rfl ?_; intro s hs; have HSL := Lib.hid hs; clear hs)
       | (refine wpList_make0 rfl _ _ rfl rfl Tryz.underlying97 hi hz0 hz1 s rfl (by have := HSL.out; rw [hz2]; omega) (by have := HSL.out; unfold maxLen; omega) ?_; intro w2 ho2 hE2; have HO2 := Lib.hid ho2; have HE2 := Lib.hid hE2; clear ho2 hE2))
     clear hm hi hz0 hz1 hz2
     obtain ⟨D, hD, hD1, hD2⟩ := HM.out
     have hown := hD.kept HE2.out (by simp)
     have HD := Lib.hid (And.intro hD1 hD2)
     have HMR := Lib.hid (show w.heap.size ≤ mb from by rw [HMB.out]; exact Nat.le_refl _)
     clear hD hD1 hD2
     go_wp2_with (first
       | (at_range; refine wpList_range_own _ rfl _ _ rfl 3 108 (int_keyed Tryz.underlying3) Tryz.underlying184 _ mb k D rfl hown ?_; intro w3 hrg3 hg3 hs3)
       | go_in)
     go_frame
     obtain ⟨r, hr⟩ : ∃ z, w2.heap.size = z := ⟨_, rfl⟩
     rw [hr] at hrg3 ⊢
     have HRN := Lib.hid (show wo.heap.size ≤ r from by have := HE2.out.size; omega)
     have HR0 := Lib.hid (show RanS wo w3 mb r k D (bestsF A) (.slice (some ⟨wo.heap.size, 0, none⟩) 0 s) [] (Maps.has D) (Maps.size D) from
       ⟨hrg3, HO2.out.kept hg3 (Classical.em _), by simp, fun p f => ⟨fun h => by simp at h, fun ⟨h1, h2⟩ => by rw [HD.out.1, h1] at h2; simp at h2⟩, List.Pairwise.nil, by simpa using hown.size_le, ext_trans HE2.out hg3⟩)
     clear hown hrg3 hg3 hs3 hr HO2
     go_loopw [8] (fun sv wr => ∃ (row : List (Int × Fnd)) (left : Lit → Bool) (cnt : Nat), RanS wo wr mb r k D (bestsF A) sv row left cnt) (fun _ wr => wr.rangeLeft mb r)
     case atStart => exact ⟨_, _, _, HR0.out⟩
     case round =>
       clear HR0
       obtain ⟨row, left, cnt, hR⟩ := hrel
       obtain ⟨wq, rfl⟩ : ∃ wq : World, wq = wr := ⟨_, rfl⟩
       have HR := Lib.hid hR
       obtain ⟨so, sc, hsv⟩ := owns_slice17 hR.own
       subst hsv
       have hrg := hR.rg
       clear hR
       go_wp2_with (first
         | (at_next; refine wpList_next_ranges _ rfl _ rfl 3 (int_keyed Tryz.underlying3) (rdX fndV) (Value.int .i64) fndV (fun key kl hkey => by obtain ⟨x, rfl, _⟩ := Maps.keyOf_int_inv Tryz.underlying3 hkey; exact ⟨x, rfl⟩) (fun v y hv => by obtain ⟨c, rfl, _⟩ := rdX_inv hv; exact ⟨c, rfl⟩) mb r k D left cnt rfl hrg ?_ ?_)
         | go_in)
       · intro hc0 hl0
         have hown := HR.out.own
         obtain ⟨g, rfl⟩ : ∃ g, so = some ⟨g, 0, none⟩ := by
           rcases hown.2 with ⟨hv, _⟩ | ⟨g, _, _, hv, _⟩
           · exact absurd hv HR.out.nn
           · simp only [Value.slice.injEq] at hv
             exact ⟨g, hv.1⟩
         have hln : (row.map toSp).length = row.length := List.length_map _
         have SF := sortFunc17_any wo.heap.size g sc (row.map toSp) wq (by rw [hln]; exact hown) (by have := HR.out.cnt_; omega)
         rw [hln] at SF
         have HL0 := Lib.hid hl0
         have HGL := Lib.hid (hown.lt g rfl)
         clear hown hln hl0 hc0 hrg
         go_wp2_with (go_at_call 122; refine SF.mono ?_; rintro e w5 ⟨rfl, d2, hp2, hs2, ho2, hg2⟩; have HP2 := Lib.hid (And.intro hp2 hs2); have HO5 := Lib.hid ho2; have HG5 := Lib.hid hg2; clear hp2 hs2 ho2 hg2)
         go_ret
         have hlen : d2.length = row.length := by rw [HP2.out.1.length_eq, List.length_map]
         have hws := HS.out.ext.size
         refine ⟨⟨_, d2, rfl, by rw [hlen]; exact owns_le17 HO5.out hws, ?_, fun sp => ?_⟩, ext_trans HS.out.ext (g17_new HR.out.ext HG5.out HGL.out.1)⟩
         · have h1 : (row.map toSp).Pairwise (fun a b => a.1 ≠ b.1) := by
             rw [List.pairwise_map]
             exact HR.out.nod
           have h2 : d2.Pairwise (fun a b => a.1 ≠ b.1) := (HP2.out.1.pairwise_iff (fun {_ _} h => Ne.symm h)).2 h1
           refine (h2.and HP2.out.2).imp ?_
           intro a b ⟨q1, q2⟩
           omega
         · rw [HP2.out.1.mem_iff, List.mem_map]
           constructor
           · rintro ⟨⟨p, f⟩, q1, rfl⟩
             exact ⟨p, f, ((HR.out.mem p f).1 q1).1, rfl⟩
           · rintro ⟨p, f, q1, rfl⟩
             exact ⟨(p, f), (HR.out.mem p f).2 ⟨q1, HL0.out _⟩, rfl⟩
       · intro x c kl ya yb w4 cnt4 hkey hlk hv hat hrg4 hlt4 hg4 hs4 hen
         obtain ⟨x', e1, hkl, hwx⟩ := Maps.keyOf_int_inv Tryz.underlying3 hkey
         simp only [Value.int.injEq, true_and] at e1
         subst e1
         subst hkl
         rw [rdX_mk fndV_inj] at hv
         simp only [Option.some.injEq, Prod.mk.injEq] at hv
         obtain ⟨rfl, rfl⟩ := hv
         have hmx : bestsF A x = some c := by
           have h1 : Maps.has D (keyI x) = true := Maps.has_true_of_atKey hat
           rw [HD.out.1] at h1
           obtain ⟨e, he⟩ := Option.isSome_iff_exists.1 h1
           have h2 := HD.out.2 x e (.held c) he
           have h3 : D.atKey (keyI x) (.held c) = .held c := hat _
           rw [h3] at h2
           injection h2 with h2
           rw [he, h2]
         have hne := ran_ne hrg HR.out.own
         have HO4 := Lib.hid (HR.out.own.kept hg4 (Or.inr (fun e => hne.2 e.symm)))
         have HE4 := Lib.hid (g17_new HR.out.ext hg4 HRN.out)
         have HX := Lib.hid (And.intro hlk (And.intro hmx hlt4))
         have HRG4 := Lib.hid hrg4
         have hBn := Blk.new w4 108 (fndC noF)
         have HRGO := Lib.hid hrg
         clear hkey hlk hat hrg4 hlt4 hg4 hs4 hwx hmx hne hrg
         go_upto_region 13 with (first
           | (refine fnd_store _ _ rfl rfl rfl hBn rfl rfl ?_; intro w5 hb5 hg5 hs5; have HE5 := Lib.hid (g17_new (World.grownBy_alloc w4 _ none) hg5 (Nat.le_refl _)); have d0 := (FCells.of hb5).bk; have d1 := (FCells.of hb5).pg; clear hBn hg5 hs5 hb5))
         clear hen
         obtain ⟨x0, hx0⟩ : ∃ z, c.bk = z := ⟨_, rfl⟩
         obtain ⟨x1, hx1⟩ : ∃ z, c.pg = z := ⟨_, rfl⟩
         rw [hx0] at d0
         rw [hx1] at d1
         have HXY := Lib.hid (And.intro hx0 hx1)
         have hown := (HO4.out.kept HE5.out (Classical.em _)).alloc (.cells #[.int .i64 x, .int .i64 x0, .int .i64 x1] 144)
         have hcn := HR.out.cnt_
         clear hx0 hx1
         go_wp2_with (first
           | (at_builtin; go_loud (refine append_spt rfl _ _ rfl wo.heap.size (.slice so row.length sc) (row.map toSp) row.length (List.length_map _) rfl hown HR.out.nn ⟨w5.heap.size, 0, none⟩ 1 (x, x0, x1) rfl (spt_new w5 x x0 x1 _) (by omega) (by have := HE4.out.size; have := HE5.out.size; simp; omega) ?_; intro v' w6 hrow' hg' hnn; have hE6 := Lib.hid (own_alloc17 HE5.out hg'); obtain ⟨ao6, cap6, hv6⟩ := owns_slice17 hrow'; subst hv6)))
         go_roundw
         case rel =>
           have hne4 := ran_ne HRG4.out HO4.out
           refine ⟨row ++ [(x, c)], _, cnt4, HRG4.out.kept hE6.out (fun e => hne4.1 (e.trans rfl)) (fun e => hne4.2 (e.trans rfl)), ?_, hnn, fun p f => ?_, ?_, ?_, ?_⟩
           · rw [List.length_append, List.map_append, List.map_singleton]
             have e2 : toSp (x, c) = (x, x0, x1) := by unfold toSp; rw [HXY.out.1, HXY.out.2]
             rw [e2]
             exact hrow'
           · rw [List.mem_append, List.mem_singleton, HR.out.mem]
             by_cases hp : p = x
             · subst hp
               have hk : (keyI p).sameKey (keyI p) = true := by simp [keyI, Lit.sameKey]
               constructor
               · rintro (⟨q1, q2⟩ | q)
                 · rw [show keyI p = Lit.int .i64 p from rfl, HX.out.1] at q2; cases q2
                 · injection q with _ q
                   subst q
                   exact ⟨HX.out.2.1, by show (_ && !(keyI p).sameKey (keyI p)) = false; rw [hk]; simp⟩
               · rintro ⟨q1, _⟩
                 rw [HX.out.2.1] at q1
                 injection q1 with q1
                 exact .inr (by rw [q1])
             · have hk : (keyI p).sameKey (Lit.int .i64 x) = false := Maps.sameKey_ne (fun e => by unfold keyI at e; injection e with _ e; exact hp e)
               constructor
               · rintro (⟨q1, q2⟩ | q)
                 · exact ⟨q1, by show (left (keyI p) && _) = false; rw [q2]; rfl⟩
                 · injection q with q _
                   exact absurd q hp
               · rintro ⟨q1, q2⟩
                 have q3 : (left (keyI p) && !(keyI p).sameKey (Lit.int .i64 x)) = false := q2
                 rw [hk] at q3
                 exact .inl ⟨q1, by simpa using q3⟩
           · refine List.pairwise_append.2 ⟨HR.out.nod, by simp, fun a ha b hb => ?_⟩
             obtain rfl := List.mem_singleton.1 hb
             intro e
             have h1 := ((HR.out.mem a.1 a.2).1 ha).2
             rw [e] at h1
             have h2 : left (keyI x) = true := HX.out.1
             rw [h2] at h1
             cases h1
           · have := HX.out.2.2
             rw [List.length_append]
             simp
             omega
           · exact own_ext17 HO4.out HE4.out hE6.out (Nat.le_refl _)
         case measure =>
           have hne4 := ran_ne HRG4.out HO4.out
           have h1 := HRG4.out.kept hE6.out (fun e => hne4.1 (e.trans rfl)) (fun e => hne4.2 (e.trans rfl))
           rw [h1.left_eq, HRGO.out.left_eq]
           exact HX.out.2.2
end Go.Proofs.YtdnpdoipipfkoaaGreatDoor
