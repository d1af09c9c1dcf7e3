/-
  Texts put together: NL NM NO NP WC WD WE WF WG WH WI WJ WK WL.
-/
import Derived.Test.YtdnpdoipipfkoaaGreatDoorM04
import Derived.Lib.SmallJoins
import Derived.Test.YtdnpdoipipfkoaaGreatDoorM03
import Derived.Lib.AppendStr
namespace Go.Proofs.YtdnpdoipipfkoaaGreatDoor
set_option linter.unusedVariables false
set_option linter.unusedSimpArgs false
set_option linter.unusedVariables false
set_option linter.unusedSimpArgs false
set_option maxRecDepth 100000
open Go.RowKit
def okM (al : Nat) (ms : List Int) : Bool := ms.all fun m => decide (2 ≤ m ∧ m < al)
theorem okM_at {al : Nat} {ms : List Int} (h : okM al ms = true) {k : Nat} (hk : k < ms.length) : 2 ≤ ms.getD k 0 ∧ ms.getD k 0 < al := by
 unfold okM at h
 rw [List.all_eq_true] at h
 have := h _ (List.getElem_mem hk)
 rw [List.getD_eq_getElem?_getD, List.getElem?_eq_getElem hk]
 simpa using this
theorem okM_of {al : Nat} {ms : List Int} (h : ∀ k, k < ms.length → 2 ≤ ms.getD k 0 ∧ ms.getD k 0 < al) : okM al ms = true := by
 unfold okM
 rw [List.all_eq_true]
 intro m hm
 obtain ⟨k, hk, rfl⟩ := List.mem_iff_getElem.1 hm
 have := h k hk
 rw [List.getD_eq_getElem?_getD, List.getElem?_eq_getElem hk] at this
 simpa using this
def Fresh (c d b : Int) (pg pb db al : Nat) (ms : List Int) (V : Nat → Value) (zs : Nat → List Int) (px : Int) (off : Bool) (po : Int) (N M : Nat → Int) (w : World) (e : Ending) (w' : World) : Prop :=
 ∃ S : NShape, Roles S ∧ (S.pb = pb ∧ S.db = db ∧ S.c = c ∧ S.d = d ∧ S.b = b ∧ S.p = pg ∧ S.all = al ∧ S.pg = pg) ∧ e = .returned (.tuple #[.pointer (some ⟨S.nb, 0, none⟩), .int .i64 0]) ∧ NandAt w' S V zs (blankS ms px off po N M) ∧ w.grownBy w' none ∧
   ∀ k, S.T k ≠ 0 → k = pb ∨ k = db ∨ w.heap.size ≤ k
def NewP7 (c d b : Int) (pg pb db al : Nat) (ms : List Int) (V : Nat → Value) (zs : Nat → List Int) (px : Int) (off : Bool) (po : Int) (N M : Nat → Int) (w : World) (e : Ending) (w' : World) : Prop :=
 if okM al ms then Fresh c d b pg pb db al ms V zs px off po N M w e w' else e = .returned (.tuple #[.pointer none, .int .i64 5]) ∧ w.grownBy w' none
theorem newP7_ok {c d b : Int} {pg pb db al : Nat} {ms : List Int} {V : Nat → Value} {zs : Nat → List Int} {px : Int} {off : Bool} {po : Int} {N M : Nat → Int} {w w' : World} {e : Ending} (h : okM al ms = true) (hF : Fresh c d b pg pb db al ms V zs px off po N M w e w') : NewP7 c d b pg pb db al ms V zs px off po N M w e w' := by
 unfold NewP7; rw [if_pos h]; exact hF
theorem newP7_bad {c d b : Int} {pg pb db al : Nat} {ms : List Int} {V : Nat → Value} {zs : Nat → List Int} {px : Int} {off : Bool} {po : Int} {N M : Nat → Int} {w w' : World} {e : Ending} (h : okM al ms = false) (hF : e = .returned (.tuple #[.pointer none, .int .i64 5]) ∧ w.grownBy w' none) : NewP7 c d b pg pb db al ms V zs px off po N M w e w' := by
 unfold NewP7; rw [if_neg (by simp [h])]; exact hF
theorem mkT_low {nb bl bm be pb db R0 al B k : Nat} (lo : B ≤ nb ∧ B ≤ bl ∧ B ≤ bm ∧ B ≤ be) (hR : B ≤ R0) (h : mkT nb bl bm be pb db R0 al k ≠ 0) : k = pb ∨ k = db ∨ B ≤ k := by
 refine Classical.byContradiction fun hne => h ?_
 unfold mkT
 rw [if_neg (by omega), if_neg (by omega), if_neg (by omega), if_neg (by omega), if_neg (by omega), if_neg (by omega), if_neg (by omega)]
theorem set_alloc_drew {x : World} {bl k : Nat} (o : Obj) (v : Value) (h : bl < x.heap.size) : (x.drew.alloc o).setCell ⟨bl, k, none⟩ v = ((x.setCell ⟨bl, k, none⟩ v).alloc o).drew := by
 show ((x.alloc o).setCell ⟨bl, k, none⟩ v).drew = _
 rw [World.setCell_alloc_past _ _ _ _ h]
def SeesN (w : World) (nb bl al pg : Nat) (x : World) : Prop := x.cell? ⟨nb, 6, none⟩ = some (.slice (some ⟨bl, 0, none⟩) al al) ∧ x.cell? ⟨w.heap.size, 3, none⟩ = some (.int .i64 (pg : Int))
set_option maxHeartbeats 1600000 in
theorem new7_any (pb db pg al : Nat) (c d b : Int) (v : Value) (ms : List Int) {V : Nat → Value} {zs : Nat → List Int} {px : Int} {off : Bool} {po : Int} {N M : Nat → Int} (w : World) (hg : geoE c d b pg = 0) (hal : c * d * b = al) (hm : Ints w v ms) (hml : ms.length ≤ 9223372036854775807)
   (hp : PowAt w pb px off po) (hd : DrAt w db V zs N M) (hV : ∀ j, j < 4 → ∀ k, (V j).ownBlock = some k → k < w.heap.size ∧ k ≠ pb) (hne : pb ≠ db) :
   Calls Tryz.prog 26 #[four c d b pg, .pointer (some ⟨pb, 0, none⟩), .pointer (some ⟨db, 0, none⟩), v] w (NewP7 c d b pg pb db al ms V zs px off po N M w) := by
 have HP := Lib.hid (And.intro hp (And.intro hd (And.intro hV (And.intro hne (And.intro hg hal)))))
 clear hp hd hV hne
 obtain ⟨m1, m2, m3, m4, m5, m6⟩ := geo_ok hg
 have C := check_any c d b pg
 have B := blocks_any c d b pg
 have hB : blocksN c d b pg = c * d * b := by unfold blocksN; rw [if_pos hg]
 rw [hg] at C
 rw [hB] at B
 rw [hal] at B m5 m6
 obtain ⟨ao, cp, bb, oo, hv, hvc⟩ := hm.form
 subst hv
 have HM := Lib.hid hvc
 clear hB hg hal hm hvc
 have mk1 := make_run Tryz.underlying120 Tryz.infoRows al (by omega) (by omega)
 have mk2 := make_run Tryz.underlying121 Tryz.infoBool al (by omega) (by omega)
 have mk3 := make_run Tryz.underlying22 Tryz.infoInt al (by omega) (by omega)
 have q1 := made_one (.slice none 0 0) al
 have q2 := made_one (.bool false) al
 have q3 := made_one (.int .i64 0) al
 simp only [Nat.mul_one, show (Value.slice none 0 0).cells = #[.slice none 0 0] from rfl, show (Value.bool false).cells = #[.bool false] from rfl, show (Value.int .i64 0).cells = #[.int .i64 0] from rfl] at mk1 mk2 mk3
 have mk4 := make_run Tryz.underlying124 Tryz.infoLeaf pg (by omega) (by omega)
 have q4 := made_three (.int .i64 0) (.slice none 0 0) (.string ⟨#[]⟩) pg
 simp only [show (Value.agg #[.int .i64 0, .slice none 0 0, .string ⟨#[]⟩]).cells = #[.int .i64 0, .slice none 0 0, .string ⟨#[]⟩] from rfl] at mk4
 generalize madeCells #[.int .i64 0, .slice none 0 0, .string ⟨#[]⟩] (pg * 3) = A4 at *
 have Q4 := Lib.hid q4
 have MK4 := Lib.hid mk4
 clear q4 mk4
 generalize madeCells #[.slice none 0 0] al = A1 at *
 generalize madeCells #[.bool false] al = A2 at *
 generalize madeCells #[.int .i64 0] al = A3 at *
 have Q := Lib.hid (And.intro q1 (And.intro q2 q3))
 clear q1 q2 q3
 unfold four fourObj at *
 go_enter Tryz.func26, Tryz.ntmps26
 go_upto_region 7 with (first
   | (go_at_call 50; refine (C _).mono ?_; rintro e w' ⟨rfl, rfl⟩)
   | (go_at_call 51; refine (B _).mono ?_; rintro e w' ⟨rfl, rfl⟩))
 go_cut [12] (fun s12 wx => ∃ nb bl bm be, s12 = .pointer (some ⟨nb, 0, none⟩) ∧ Laid w wx c d b pg pb db al nb bl bm be)
 case first =>
   have hE4 : w.grownBy ((((w.alloc (.cells #[.int .i64 c, .int .i64 d, .int .i64 b, .int .i64 pg] 72)).alloc (.cells #[.int .i64 c, .int .i64 d, .int .i64 b, .int .i64 pg] 72)).alloc (.cells #[.int .i64 c, .int .i64 d, .int .i64 b, .int .i64 pg] 72)).alloc (.cells #[.int .i64 c, .int .i64 d, .int .i64 b, .int .i64 pg] 72)) none := grown_alloc (grown_alloc (grown_alloc (World.grownBy_alloc w _ none) _) _) _
   have bx : ∀ o, (w.alloc (.cells #[.int .i64 c, .int .i64 d, .int .i64 b, .int .i64 pg] 72)).cell? ⟨w.heap.size, o, none⟩ = (#[.int .i64 c, .int .i64 d, .int .i64 b, .int .i64 pg] : Array Value)[o]? := fun o => World.cell?_alloc_at _ _ _ _ rfl
   have bx4 : ∀ o v, (#[.int .i64 c, .int .i64 d, .int .i64 b, .int .i64 pg] : Array Value)[o]? = some v → ((((w.alloc (.cells #[.int .i64 c, .int .i64 d, .int .i64 b, .int .i64 pg] 72)).alloc (.cells #[.int .i64 c, .int .i64 d, .int .i64 b, .int .i64 pg] 72)).alloc (.cells #[.int .i64 c, .int .i64 d, .int .i64 b, .int .i64 pg] 72)).alloc (.cells #[.int .i64 c, .int .i64 d, .int .i64 b, .int .i64 pg] 72)).cell? ⟨w.heap.size, o, none⟩ = some v := fun o v hv => by
     rw [World.cell?_alloc_past _ _ _ (by simp; omega), World.cell?_alloc_past _ _ _ (by simp; omega), World.cell?_alloc_past _ _ _ (by simp), bx]; exact hv
   have x0 := bx4 0 _ rfl
   have x1 := bx4 1 _ rfl
   have x2 := bx4 2 _ rfl
   have x3 := bx4 3 _ rfl
   clear bx bx4
   obtain ⟨w4, hw4⟩ : ∃ x, (((w.alloc (.cells #[.int .i64 c, .int .i64 d, .int .i64 b, .int .i64 pg] 72)).alloc (.cells #[.int .i64 c, .int .i64 d, .int .i64 b, .int .i64 pg] 72)).alloc (.cells #[.int .i64 c, .int .i64 d, .int .i64 b, .int .i64 pg] 72)).alloc (.cells #[.int .i64 c, .int .i64 d, .int .i64 b, .int .i64 pg] 72) = x := ⟨_, rfl⟩
   rw [hw4] at hE4 x0 x1 x2 x3 ⊢
   have hlt : w.heap.size < w4.heap.size := World.block_lt_of_cell? w4 _ x0
   have hlt2 : w.heap.size < w4.heap.size + 1 := by omega
   have hlt3 : w.heap.size < w4.heap.size + 1 + 1 := by omega
   clear hw4
   go_region
   all_goals (go_wp2_with fail; go_meet)
   all_goals first
     | exact ⟨w4.heap.size + 1 + 1 + 1, w4.heap.size, w4.heap.size + 1, w4.heap.size + 1 + 1, rfl, laid_of hE4 (alloc4_gb _ _ _ _ _) x3 Q.out.1 Q.out.2.1 Q.out.2.2 (alloc4_3 _ _ _ _ _) (alloc4_0 _ _ _ _ _) (alloc4_1 _ _ _ _ _) (alloc4_2 _ _ _ _ _) (by omega) (by omega)⟩
     | exact ⟨w4.heap.size + 1 + 1 + 1, w4.heap.size, w4.heap.size + 1 + 1, w4.heap.size + 1, rfl, laid_of hE4 (alloc4_gb _ _ _ _ _) x3 Q.out.1 Q.out.2.1 Q.out.2.2 (alloc4_3 _ _ _ _ _) (alloc4_0 _ _ _ _ _) (alloc4_2 _ _ _ _ _) (alloc4_1 _ _ _ _ _) (by omega) (by omega)⟩
     | exact ⟨w4.heap.size + 1 + 1 + 1, w4.heap.size + 1, w4.heap.size, w4.heap.size + 1 + 1, rfl, laid_of hE4 (alloc4_gb _ _ _ _ _) x3 Q.out.1 Q.out.2.1 Q.out.2.2 (alloc4_3 _ _ _ _ _) (alloc4_1 _ _ _ _ _) (alloc4_0 _ _ _ _ _) (alloc4_2 _ _ _ _ _) (by omega) (by omega)⟩
     | exact ⟨w4.heap.size + 1 + 1 + 1, w4.heap.size + 1, w4.heap.size + 1 + 1, w4.heap.size, rfl, laid_of hE4 (alloc4_gb _ _ _ _ _) x3 Q.out.1 Q.out.2.1 Q.out.2.2 (alloc4_3 _ _ _ _ _) (alloc4_1 _ _ _ _ _) (alloc4_2 _ _ _ _ _) (alloc4_0 _ _ _ _ _) (by omega) (by omega)⟩
     | exact ⟨w4.heap.size + 1 + 1 + 1, w4.heap.size + 1 + 1, w4.heap.size, w4.heap.size + 1, rfl, laid_of hE4 (alloc4_gb _ _ _ _ _) x3 Q.out.1 Q.out.2.1 Q.out.2.2 (alloc4_3 _ _ _ _ _) (alloc4_2 _ _ _ _ _) (alloc4_0 _ _ _ _ _) (alloc4_1 _ _ _ _ _) (by omega) (by omega)⟩
     | exact ⟨w4.heap.size + 1 + 1 + 1, w4.heap.size + 1 + 1, w4.heap.size + 1, w4.heap.size, rfl, laid_of hE4 (alloc4_gb _ _ _ _ _) x3 Q.out.1 Q.out.2.1 Q.out.2.2 (alloc4_3 _ _ _ _ _) (alloc4_2 _ _ _ _ _) (alloc4_1 _ _ _ _ _) (alloc4_0 _ _ _ _ _) (by omega) (by omega)⟩
 case rest =>
   clear C B mk1 mk2 mk3 Q
   obtain ⟨nb, bl, bm, be, rfl, hL⟩ := hcut
   have cl := hL.fix.cl
   have hsz0 := hL.fix.ext.size
   go_wp2
   have hlay0 : Laying w wc c d b pg pb db al nb bl bm be wc.heap.size 0 (mkT nb bl bm be pb db wc.heap.size al) := ⟨hL.fix, rfl, hL.fix.hi, fun i hi => by omega, fun i _ hi => hL.ls i hi⟩
   clear cl hL
   generalize wc.heap.size = R0 at *
   go_loopw [45] (fun t wr => ∃ k : Nat, k ≤ al ∧ t = .int .i64 k ∧ Laying w wr c d b pg pb db al nb bl bm be R0 k (mkT nb bl bm be pb db R0 al)) (fun t _ => al - (intOf t).toNat)
   case atStart => exact ⟨0, Nat.zero_le _, rfl, hlay0⟩
   case round =>
     clear hlay0
     obtain ⟨k, hk, rfl, hY⟩ := hrel
     have HY := Lib.hid hY
     by_cases hlt : k < al
     · have hS : SeesN w nb bl al pg wr.drew := ⟨hY.fix.cl, hY.fix.bx⟩
       have hN := hY.next (t := 172) hlt Q4.out
       have hS2 : SeesN w nb bl al pg ((wr.drew.alloc (.cells A4 172)).setCell ⟨bl, k, none⟩ (.slice (some ⟨wr.heap.size, 0, none⟩) pg pg)) := ⟨hN.fix.cl, hN.fix.bx⟩
       have hS3 : SeesN w nb bl al pg (wr.drew.alloc (.cells A4 172)) := ⟨(gb_trans7 (Ext.drew wr) (World.grownBy_alloc _ _ none)).cell hY.fix.cl (by simp), (gb_trans7 (Ext.drew wr) (World.grownBy_alloc _ _ none)).cell hY.fix.bx (by simp)⟩
       have e0 : (wr.drew.alloc (.cells A4 172)).setCell ⟨bl, k, none⟩ (.slice (some ⟨wr.heap.size, 0, none⟩) pg pg) = ((wr.setCell ⟨bl, k, none⟩ (.slice (some ⟨wr.heap.size, 0, none⟩) pg pg)).alloc (.cells A4 172)).drew := by
         exact set_alloc_drew _ _ hY.fix.hi.2.1
       rw [e0] at hN hS2
       have HN := Lib.hid hN
       have c0 := hY.ls k (Nat.le_refl _) hlt
       have f0 := hY.fix.fl k
       have b0 := hY.fix.hi.2.1
       have mk := MK4.out
       clear hY hN e0
       go_wp2
       refine region_line [(0, true), (1, true), (2, true), (3, true), (4, true), (5, true), (6, true), (7, false), (8, true), (9, false)] (SeesN w nb bl al pg) (by kernel_rfl) (by kernel_rfl) (fun _ _ _ d _ h => by cases d <;> exact h) hS ?_
       repeat (refine line_read (a' := ?_) rfl (by kernel_rfl) (by kernel_rfl) hS (fun x hx K hK => ?_) ?_; rotate_left; · obtain ⟨hx1, hx2⟩ := hx; go_wp2; exact hK)
       refine line_act (by rfl) (fun K hK => ?_)
       go_wp2
       refine hK _ _ _ hS3 (fun x hx => hx) ?_
       clear hK K
       repeat (refine line_read (a' := ?_) rfl (by kernel_rfl) (by kernel_rfl) hS3 (fun x hx K hK => ?_) ?_; rotate_left; · obtain ⟨hx1, hx2⟩ := hx; go_wp2; exact hK)
       refine line_act (by rfl) (fun K hK => ?_)
       go_wp2
       refine hK _ _ _ hS2 (fun x hx => hx) ?_
       clear hK K
       refine line_end ?_
       go_wp2
       go_roundw
       case rel => exact ⟨k + 1, by omega, by go_num, HN.out⟩
       case measure => simp [intOf]; omega
     · obtain rfl : al = k := by omega
       have hN := hY.nand HP.out.1 HP.out.2.1 HP.out.2.2.1
       have hRo := mkS_roles hY.fix.ne hY.fix.lo hY.low HP.out.1.lt HP.out.2.1.lt HP.out.2.2.2.1 HP.out.2.2.2.2.1 HP.out.2.2.2.2.2.symm
       have hT := fun k (h : mkT nb bl bm be pb db R0 al k ≠ 0) => mkT_low hY.fix.lo (by have := hY.fix.lo; have := hY.low; omega) h
       have hEx := hY.fix.ext
       have hbm := hY.fix.lo.2.2.1
       have HR := Lib.hid (And.intro hRo hT)
       clear hY HY hRo hT
       go_wp2
       go_loopw [60] (fun t wr => ∃ k : Nat, k ≤ ms.length ∧ t = .int .i64 k ∧ NandAt wr (mkS c d b pg pb db al nb bl bm be R0) V zs (blankS (ms.take k) px off po N M) ∧ w.grownBy wr none ∧ (∀ j, j < k → 2 ≤ ms.getD j 0 ∧ ms.getD j 0 < al)) (fun t _ => ms.length - (intOf t).toNat)
       case atStart => exact ⟨0, Nat.zero_le _, rfl, by simpa using hN, hEx, fun j hj => by omega⟩
       case round =>
         clear hN hEx
         obtain ⟨k, hk, rfl, hN, hE, hO⟩ := hrel
         have HO := Lib.hid hO
         clear hO
         by_cases hlt2 : k < ms.length
         · obtain ⟨hao, hcell⟩ := HM.out k hlt2
           subst hao
           have hcell2 := hE.cell hcell (by simp)
           obtain ⟨q, hq⟩ : ∃ q, ms.getD k 0 = q := ⟨_, rfl⟩
           rw [hq] at hcell2
           have HQ := Lib.hid hq
           have HS := has_is hN.fix q
           have HN := Lib.hid (And.intro hN hE)
           have hhe : hasB (mkS c d b pg pb db al nb bl bm be R0) q = decide (0 ≤ q ∧ q < al) := rfl
           have hnn : (mkS c d b pg pb db al nb bl bm be R0).nb = nb := rfl
           rw [hhe, hnn] at HS
           have cm : wr.cell? ⟨nb, 7, none⟩ = some (.slice (some ⟨bm, 0, none⟩) al al) := hN.fix.cm
           have ck : ∀ i, i < al → wr.cell? ⟨bm, i, none⟩ = some (.bool (mrk (ms.take k) i)) := hN.mks
           have cf : ∀ o, wr.frozen? ⟨bm, o, none⟩ = false := hN.mkf
           by_cases hq1 : 0 ≤ q ∧ q < al
           · rw [decide_eq_true hq1] at HS
             obtain ⟨n, rfl⟩ : ∃ n : Nat, q = n := ⟨q.toNat, by omega⟩
             have hnl : n < al := by omega
             by_cases hq2 : (n : Int) < 2
             · have hbad : okM al ms = false := by
                 cases h : okM al ms
                 · rfl
                 · have := okM_at h hlt2; rw [HQ.out] at this; omega
               have HB := Lib.hid hbad
               have HX := Lib.hid hE
               clear hN hE hq hq1 hhe hnn cm ck cf hcell hbad
               go_wp2_with (go_at_call 52; refine HS.mono ?_; rintro e w' ⟨rfl, rfl⟩)
               refine bodyPost_ret (v := .tuple #[.pointer none, .int .i64 5]) (by simp [results, Tryz.results26, go_sem]) rfl (newP7_bad HB.out ⟨rfl, HX.out⟩)
             · have ck1 := ck n hnl
               have cf1 := cf n
               have hM := hN.mark HR.out.1 (i := n) hnl true
               have hX : w.grownBy (wr.setCell ⟨bm, n, none⟩ (.bool true)) none := grown_trans hE (gb_set (gb_refl wr (some bm)) n _) (fun z hz hl => by cases hz; omega)
               have hM2 : NandAt (wr.setCell ⟨bm, n, none⟩ (.bool true)) (mkS c d b pg pb db al nb bl bm be R0) V zs (blankS (ms.take (k + 1)) px off po N M) := by
                 have e := mrk_take hlt2 HQ.out (Int.natCast_nonneg n)
                 simp only [Int.toNat_natCast] at e
                 unfold blankS
                 rw [← e]
                 exact hM
               have HX := Lib.hid (And.intro hM2 hX)
               clear hN hE hq hq1 hhe hnn ck cf hcell hM hX hM2
               go_wp2_with (go_at_call 52; refine HS.mono ?_; rintro e w' ⟨rfl, rfl⟩)
               go_roundw
               case rel =>
                 refine ⟨k + 1, by omega, by go_num, HX.out.1, HX.out.2, fun j hj => ?_⟩
                 by_cases e : j = k
                 · subst e; rw [HQ.out]; omega
                 · exact HO.out j (by omega)
               case measure => simp [intOf]; omega
           · rw [decide_eq_false hq1] at HS
             have hbad : okM al ms = false := by
               cases h : okM al ms
               · rfl
               · have := okM_at h hlt2; rw [HQ.out] at this; omega
             have HB := Lib.hid hbad
             have HX := Lib.hid hE
             clear hN hE hq hq1 hhe hnn cm ck cf hcell hbad
             go_wp2_with (go_at_call 52; refine HS.mono ?_; rintro e w' ⟨rfl, rfl⟩)
             refine bodyPost_ret (v := .tuple #[.pointer none, .int .i64 5]) (by simp [results, Tryz.results26, go_sem]) rfl (newP7_bad HB.out ⟨rfl, HX.out⟩)
         · obtain rfl : ms.length = k := by omega
           have hok := okM_of HO.out
           have HK := Lib.hid hok
           have HX := Lib.hid (And.intro hN hE)
           clear hN hE hok
           go_wp2
           refine bodyPost_ret (v := .tuple #[.pointer (some ⟨nb, 0, none⟩), .int .i64 0]) (by simp [results, Tryz.results26, go_sem]) rfl (newP7_ok HK.out ⟨_, HR.out.1, ⟨rfl, rfl, rfl, rfl, rfl, rfl, rfl, rfl⟩, rfl, ?_, HX.out.2, HR.out.2⟩)
           have := HX.out.1
           rwa [List.take_length] at this
end Go.Proofs.YtdnpdoipipfkoaaGreatDoor

namespace Go.Proofs.YtdnpdoipipfkoaaGreatDoor
set_option linter.unusedVariables false
set_option linter.unusedSimpArgs false
set_option linter.unusedVariables false
set_option linter.unusedSimpArgs false
set_option maxRecDepth 100000
open Go.RowKit
def noZs : Nat → List Int := fun _ => []
structure Calm (s : NS) (n : Int) : Prop where
 px : s.px = -1
 off : s.off = false
 cnt : Cnt s n
section
variable {w : World} {S : NShape} {V : Nat → Value} {s : NS}
end
end Go.Proofs.YtdnpdoipipfkoaaGreatDoor

namespace Go.Proofs.YtdnpdoipipfkoaaGreatDoor
set_option linter.unusedVariables false
set_option linter.unusedSimpArgs false
set_option linter.unusedVariables false
set_option linter.unusedSimpArgs false
set_option maxRecDepth 100000
open Go.RowKit
def NewPow (n : Int) (w : World) (e : Ending) (w' : World) : Prop := ∃ pb, e = .returned (.pointer (some ⟨pb, 0, none⟩)) ∧ PowAt w' pb n false 0 ∧ w.grownBy w' none ∧ w.heap.size ≤ pb
theorem newPow_is (n : Int) (w : World) : Calls Tryz.prog 23 #[.int .i64 n] w (NewPow n w) :=
 (new_is n w).mono fun _ _ ⟨he, hp, hg⟩ => ⟨_, he, hp, hg, Nat.le_refl _⟩
end Go.Proofs.YtdnpdoipipfkoaaGreatDoor

namespace Go.Proofs.YtdnpdoipipfkoaaGreatDoor
set_option linter.unusedVariables false
set_option linter.unusedSimpArgs false
set_option linter.unusedVariables false
set_option linter.unusedSimpArgs false
set_option maxRecDepth 100000
open Go.RowKit
section
variable {w : World} {S : NShape} {V : Nat → Value} {zs : Nat → List Int} {s : NS}
end
theorem nextN_blank : ∀ n : Nat, nextN (fun _ => Pg.none 0) n = 0
 | 0 => rfl
 | n + 1 => by unfold nextN; rw [if_pos (show (Pg.none 0).st = 0 from rfl)]; exact nextN_blank n
theorem blank_calm (ms : List Int) : Calm (blankS ms (-1) false 0 (fun _ => 0) (fun _ => 0)) 0 :=
 ⟨rfl, rfl, ⟨⟨Int.le_refl _, Int.le_refl _⟩, fun _ => ⟨Int.le_refl _, Int.le_refl _⟩, fun _ => ⟨Int.le_refl _, Int.le_refl _⟩, fun _ => ⟨Int.le_refl _, Int.le_refl _⟩, by show -9223372036854775808 ≤ (-1 : Int) ∧ (-1 : Int) ≤ 9223372036854775807; omega⟩⟩
theorem Keeps.grown {T : Nat → Nat} {w0 w w' : World} (h : w0.grownBy w none) (hk : Keeps T w w') (hT : ∀ k, T k ≠ 0 → w0.heap.size ≤ k) : w0.grownBy w' none :=
 ⟨hk.os.trans h.os, hk.tape.trans h.tape, hk.output.trans h.output, Nat.le_trans h.size hk.size, fun k hk2 _ => (hk.block k (Nat.lt_of_lt_of_le hk2 h.size) (Classical.byContradiction fun hne => by have := hT k hne; omega)).trans (h.block k hk2 (by simp))⟩
end Go.Proofs.YtdnpdoipipfkoaaGreatDoor

namespace Go.Proofs.YtdnpdoipipfkoaaGreatDoor
set_option linter.unusedVariables false
set_option linter.unusedSimpArgs false
set_option linter.unusedVariables false
set_option linter.unusedSimpArgs false
set_option maxRecDepth 100000
open Go.RowKit
def leB (v : Int) (n : Nat) : List Int := (List.range n).map fun k => v / 256 ^ k % 256
theorem leB_succ (v : Int) (n : Nat) : leB v (n + 1) = leB v n ++ [v / 256 ^ n % 256] := by simp [leB, List.range_succ]
theorem leB_len (v : Int) (n : Nat) : (leB v n).length = n := by simp [leB]
theorem p256 (k : Nat) : (0 : Int) < 256 ^ k := Int.pow_pos (by decide)
def putL (xs : List Int) (v n : Int) : List Int := if fitsB v n then xs ++ leB v n.toNat else xs
theorem Bts.le {w : World} {ao : Option Addr} {n cap : Nat} {xs : List Int} (h : Bts w (.slice ao n cap) xs) : n = xs.length ∧ xs.length ≤ cap := by
 rcases h with ⟨h1, h2⟩ | ⟨b, off, c, h1, h2, _⟩
 · simp at h1
   simp [h2, h1]
 · simp at h1
   exact ⟨h1.2.1, by omega⟩
def PutRel (w : World) (ao : Option Addr) (xs : List Int) (v : Int) (k : Nat) (o : Value) (wr : World) : Prop :=
 (k = 0 ∧ o = .slice ao xs.length xs.length ∧ wr = w) ∨
 (0 < k ∧ wr.ownsRow w.heap.size 5 1 o (xs.length + k) ((xs ++ leB v k).map (Value.int .u8)) ∧ w.grownBy wr none)
set_option maxHeartbeats 400000 in
theorem put_fits (ao : Option Addr) (cap : Nat) (xs : List Int) (v : Int) (n : Nat) (w : World) (hb : Bts w (.slice ao xs.length cap) xs) (hm : xs.length ≤ 140737488350000) (hf : fitsB v n = true) :
   Calls Tryz.prog 182 #[.slice ao xs.length cap, .int .i64 v, .int .i64 n] w (Made w.heap.size w (xs ++ leB v n)) := by
 have hv0 : 0 ≤ v ∧ v ≤ 9223372036854775807 := by simp [fitsB] at hf; omega
 have hn4 : n = 1 ∨ n = 2 ∨ n = 4 := by simp [fitsB] at hf; omega
 have hcap := hb.le.2
 obtain ⟨i0, hi, hz0, hz1, hz2⟩ := info_parts Tryz.infoU8
 have hadd : (if xs.length = 0 then ao else Option.map (fun x : Addr => x.add 0) ao) = ao := by
   split
   · rfl
   · cases ao <;> simp [Addr.add]
 go_enter Tryz.func182, Tryz.ntmps182
 go_wp2_with (go_at_call 200; refine (fits_any _ _ _ (by omega)).mono ?_; rintro e w' ⟨rfl, rfl⟩)
 go_loopw [1, 7, 21] (fun a o i wr => ∃ k : Nat, k ≤ n ∧ i = .int .i64 k ∧ a = .int .i64 (v / 256 ^ k) ∧ PutRel w ao xs v k o wr) (fun _ _ i _ => n - (intOf i).toNat)
 case atStart => exact ⟨0, Nat.zero_le _, rfl, by simp, .inl ⟨rfl, rfl, rfl⟩⟩
 case round =>
   obtain ⟨k, hk, rfl, rfl, hrel⟩ := hrel
   have hpos : 0 ≤ v / 256 ^ k := Int.ediv_nonneg hv0.1 (Int.le_of_lt (p256 k))
   by_cases hlt : k < n
   · rcases hrel with ⟨rfl, rfl, rfl⟩ | ⟨h0, hown, hgr⟩
     · go_wp2_with (at_builtin; refine wpList_append_grows _ rfl _ _ 26 rfl 5 i0 (.int .u8 0) 1 1 Tryz.underlying26 hi hz0 hz1 hz2 rfl (by decide) ao xs.length xs.length (xs.map (Value.int .u8)) rfl ?h1 ?h2 ?h3 ⟨wr.heap.size, 0, none⟩ 1 1 [.int .u8 (v % 256)] rfl rfl ?c1 ?c2 ?c3 ?c4 ?c5 ?_)
       case h1 => intro e; rw [e] at hb; have := hb.nil; simp [this]
       case h2 => simp
       case h3 => intro a ha j u hj; subst ha; exact cell_past (hb.cells j u hj) _
       case c1 => exact bytes_new _ _ _
       case c2 => intro u hu; simp at hu; subst hu; rfl
       case c3 => omega
       case c4 => unfold maxLen; omega
       case c5 => omega
       intro v' w1 hown1 hgr1
       go_wp2
       go_roundw
       case rel => exact ⟨1, by omega, by go_num, by simp, .inr ⟨by omega, by simpa [leB_succ, leB] using ownsRow_le hown1 (by simp), grown_trans (World.grownBy_alloc _ _ none) hgr1 (fun k hk => by cases hk)⟩⟩
       case measure => simp [intOf]; omega
     · go_wp2_with (at_builtin; refine wpList_append_own _ rfl _ _ 26 rfl w.heap.size 5 i0 (.int .u8 0) 1 1 Tryz.underlying26 hi hz0 hz1 hz2 rfl (by decide) _ _ _ rfl (hown.alloc _) ⟨wr.heap.size, 0, none⟩ 1 1 [.int .u8 (v / 256 ^ k % 256)] rfl rfl ?d1 ?d2 ?d3 ?d4 ?d5 ?_)
       case d1 => exact bytes_new _ _ _
       case d2 => intro u hu; simp at hu; subst hu; rfl
       case d3 => unfold maxLen; omega
       case d4 => omega
       case d5 => have := hgr.size; simp; omega
       intro v' w1 hown1 hgr1 _
       have e : v / 256 ^ k / 256 = v / 256 ^ (k + 1) := by rw [Int.ediv_ediv_of_nonneg (Int.le_of_lt (p256 k)), ← Int.pow_succ]
       have hlt' := hown.lt
       go_wp2
       go_roundw
       case rel =>
         refine ⟨k + 1, by omega, by go_num, ?_, .inr ⟨by omega, ?_, ?_⟩⟩
         · rw [← e]
         · simpa [leB_succ, Nat.add_assoc] using hown1
         · exact grown_trans (grown_trans hgr (World.grownBy_alloc _ _ none) (fun k hk => by cases hk)) hgr1 (fun k hk h => by have := hlt' k hk; omega)
       case measure => simp [intOf]; omega
   · have hkn : k = n := by omega
     subst hkn
     go_wp2
     go_ret
     rcases hrel with ⟨h0, _, _⟩ | ⟨h0, hown, hgr⟩
     · omega
     · exact ⟨_, rfl, by simpa [leB_len] using hown, hgr⟩
theorem put_any (v0 : Value) (xs : List Int) (v n : Int) (w : World) (hb : Bts w v0 xs) (hm : xs.length ≤ 140737488350000) (hv9 : v ≤ 9223372036854775807) :
   Calls Tryz.prog 182 #[v0, .int .i64 v, .int .i64 n] w (Made w.heap.size w (putL xs v n)) := by
 by_cases hf : fitsB v n = true
 · have hn : n = (n.toNat : Int) := by simp [fitsB] at hf; omega
   have hp : putL xs v n = xs ++ leB v n.toNat := by simp [putL, hf]
   rw [hp]
   rw [hn] at hf ⊢
   rcases hb with ⟨rfl, rfl⟩ | ⟨b, off, cap, rfl, h2, h3⟩
   · exact put_fits none 0 [] v n.toNat w (.inl ⟨rfl, rfl⟩) hm hf
   · exact put_fits (some ⟨b, off, none⟩) cap xs v n.toNat w (.inr ⟨b, off, cap, rfl, h2, h3⟩) hm hf
 · have hf' : fitsB v n = false := by simpa using hf
   have hp : putL xs v n = xs := by simp [putL, hf']
   rw [hp]
   rcases hb with ⟨rfl, rfl⟩ | ⟨b, off, cap, rfl, h2, h3⟩
   · go_enter Tryz.func182, Tryz.ntmps182
     go_wp2_with (first | (go_at_call 200; refine (fits_any _ _ _ (by omega)).mono ?_; rintro e w' ⟨rfl, rfl⟩) | (go_at_call 140; refine (clone_nil _).mono ?_; rintro e w' ⟨rfl, rfl⟩))
     go_ret
     exact ⟨_, rfl, World.ownsRow_nil _ _ _ _, World.grownBy.refl _ _⟩
   · go_enter Tryz.func182, Tryz.ntmps182
     go_wp2_with (first | (go_at_call 200; refine (fits_any _ _ _ (by omega)).mono ?_; rintro e w' ⟨rfl, rfl⟩) | (go_at_call 140; refine (clone_some b off cap xs _ h3 (by omega)).mono ?_; rintro e w1 ⟨v', rfl, hown, hgr⟩))
     go_ret
     exact ⟨_, rfl, hown, hgr⟩
end Go.Proofs.YtdnpdoipipfkoaaGreatDoor

namespace Go.Proofs.YtdnpdoipipfkoaaGreatDoor
set_option linter.unusedVariables false
set_option linter.unusedSimpArgs false
set_option linter.unusedVariables false
set_option linter.unusedSimpArgs false
set_option maxRecDepth 100000
open Go.RowKit
def byt (s : ByteArray) : List Int := s.data.toList.map fun b => (b.toNat : Int)
theorem byt_len (s : ByteArray) : (byt s).length = s.size := by simp [byt]
theorem strCells_byt (s : ByteArray) : Lib.strCells s = (byt s).map (Value.int .u8) := by simp [Lib.strCells, byt]
def textL (xs : List Int) (s : ByteArray) : List Int := if s.size ≤ 65535 then xs ++ leB s.size 2 ++ byt s else xs
set_option maxHeartbeats 400000 in
theorem text_any (v0 : Value) (xs : List Int) (s : ByteArray) (w : World) (hb : Bts w v0 xs) (hm : xs.length ≤ 140737488200000) (hs9 : s.size ≤ 9223372036854775807) :
   Calls Tryz.prog 201 #[v0, .string s] w (Made w.heap.size w (textL xs s)) := by
 obtain ⟨i0, hi, hz0, hz1, hz2⟩ := info_parts Tryz.infoU8
 by_cases hf : s.size ≤ 65535
 · have ht : textL xs s = xs ++ leB s.size 2 ++ byt s := by simp [textL, hf]
   have hft : fitsB s.size 2 = true := by simp [fitsB]; omega
   have hp : putL xs s.size 2 = xs ++ leB s.size 2 := by simp [putL, hft]
   rw [ht]
   have HP := Lib.hid hp
   clear hp ht
   go_enter Tryz.func201, Tryz.ntmps201
   go_wp2_with (first | (go_at_call 200; refine (fits_any _ _ _ (by omega)).mono ?_; rintro e w' ⟨rfl, rfl⟩) | (go_at_call 182; refine (put_any v0 xs _ _ _ hb (by omega) (by omega)).mono ?_; rintro e w1 ⟨v1, rfl, hown, hgr⟩) | (at_builtin; refine Lib.wpList_append_own_string _ rfl _ _ 26 9 rfl w.heap.size 5 i0 Tryz.underlying26 Tryz.underlying9 hi hz0 hz1 hz2 _ _ _ rfl hown s rfl ?c1 ?c2 ?c3 ?_))
   case c1 => rw [HP.out]; simp [leB_len]; unfold maxLen; omega
   case c2 => rw [HP.out]; simp [leB_len]; omega
   case c3 => exact hgr.size
   intro v' w2 hown2 hgr2 _
   have hlt := hown.lt
   go_wp2
   go_ret
   refine ⟨v', rfl, ?_, grown_trans hgr hgr2 (fun k hk h => by have := hlt k hk; omega)⟩
   rw [HP.out, strCells_byt, ← List.map_append] at hown2
   simpa [byt_len, Nat.add_assoc] using hown2
 · have ht : textL xs s = xs := by simp [textL, hf]
   have hft : fitsB s.size 2 = false := by simp [fitsB]; omega
   rw [ht]
   clear ht
   rcases hb with ⟨rfl, rfl⟩ | ⟨b, off, cap, rfl, h2, h3⟩
   · go_enter Tryz.func201, Tryz.ntmps201
     go_wp2_with (first | (go_at_call 200; refine (fits_any _ _ _ (by omega)).mono ?_; rintro e w' ⟨rfl, rfl⟩) | (go_at_call 140; refine (clone_nil _).mono ?_; rintro e w' ⟨rfl, rfl⟩))
     go_ret
     exact ⟨_, rfl, World.ownsRow_nil _ _ _ _, World.grownBy.refl _ _⟩
   · go_enter Tryz.func201, Tryz.ntmps201
     go_wp2_with (first | (go_at_call 200; refine (fits_any _ _ _ (by omega)).mono ?_; rintro e w' ⟨rfl, rfl⟩) | (go_at_call 140; refine (clone_some b off cap xs _ h3 (by omega)).mono ?_; rintro e w1 ⟨v', rfl, hown, hgr⟩))
     go_ret
     exact ⟨_, rfl, hown, hgr⟩
end Go.Proofs.YtdnpdoipipfkoaaGreatDoor

namespace Go.Proofs.YtdnpdoipipfkoaaGreatDoor
set_option linter.unusedVariables false
set_option linter.unusedSimpArgs false
set_option linter.unusedVariables false
set_option linter.unusedSimpArgs false
set_option maxRecDepth 100000
open Go.RowKit
end Go.Proofs.YtdnpdoipipfkoaaGreatDoor

namespace Go.Proofs.YtdnpdoipipfkoaaGreatDoor
set_option linter.unusedVariables false
set_option linter.unusedSimpArgs false
set_option linter.unusedVariables false
set_option linter.unusedSimpArgs false
set_option maxRecDepth 100000
open Go.RowKit
end Go.Proofs.YtdnpdoipipfkoaaGreatDoor

namespace Go.Proofs.YtdnpdoipipfkoaaGreatDoor
set_option linter.unusedVariables false
set_option linter.unusedSimpArgs false
set_option linter.unusedVariables false
set_option linter.unusedSimpArgs false
set_option maxRecDepth 100000
open Go.RowKit
def RdIs (T : TypeId) (w : World) (br c : Nat) (xs : List Int) (e : Int) : Prop :=
 ∃ v, w.heap[br]? = some (.cells #[v, .int .i64 e] T (0, 0)) ∧ Bts w v xs ∧ (∀ k, v.ownBlock = some k → k = c) ∧ c ≠ br
theorem two_cell0 {w : World} {b : Nat} {x y : Value} {T : TypeId} (h : w.heap[b]? = some (.cells #[x, y] T (0, 0))) : w.cell? ⟨b, 0, none⟩ = some x := by simp [World.cell?, h]
theorem two_cell1 {w : World} {b : Nat} {x y : Value} {T : TypeId} (h : w.heap[b]? = some (.cells #[x, y] T (0, 0))) : w.cell? ⟨b, 1, none⟩ = some y := by simp [World.cell?, h]
theorem two_free {w : World} {b o : Nat} {x y : Value} {T : TypeId} (h : w.heap[b]? = some (.cells #[x, y] T (0, 0))) : w.frozen? ⟨b, o, none⟩ = false := by simp [World.frozen?, h]
theorem two_set0 {w : World} {b : Nat} {x y u : Value} {T : TypeId} (h : w.heap[b]? = some (.cells #[x, y] T (0, 0))) : (w.setCell ⟨b, 0, none⟩ u).heap[b]? = some (.cells #[u, y] T (0, 0)) := by
 simp [World.setCell, Array.getElem?_modify, h]
theorem two_set1 {w : World} {b : Nat} {x y u : Value} {T : TypeId} (h : w.heap[b]? = some (.cells #[x, y] T (0, 0))) : (w.setCell ⟨b, 1, none⟩ u).heap[b]? = some (.cells #[x, u] T (0, 0)) := by
 simp [World.setCell, Array.getElem?_modify, h]
theorem grown_set (w : World) (a : Addr) (u : Value) : w.grownBy (w.setCell a u) (some a.block) :=
 ⟨rfl, rfl, rfl, by simp [World.setCell], fun k _ hk => Below.heap_setCell _ _ _ _ (fun e => hk (by rw [e]))⟩
theorem Bts.kept {w w' : World} {v : Value} {xs : List Int} {r : Option Nat} (h : Bts w v xs) (hg : w.grownBy w' r) (hne : ∀ k, v.ownBlock = some k → some k ≠ r) : Bts w' v xs := by
 rcases h with h | ⟨b, off, cap, rfl, h2, h3⟩
 · exact .inl h
 · exact .inr ⟨b, off, cap, rfl, h2, fun i hi => hg.cell (h3 i hi) (hne b rfl)⟩
theorem RdIs.kept {T : TypeId} {w w' : World} {br c : Nat} {xs : List Int} {e : Int} {r : Option Nat} (h : RdIs T w br c xs e) (hg : w.grownBy w' r) (h1 : some br ≠ r) (h2 : some c ≠ r) : RdIs T w' br c xs e := by
 obtain ⟨v, hb, hv, hc, hne⟩ := h
 exact ⟨v, (hg.block br (Array.getElem?_eq_some_iff.1 hb).1 h1).trans hb, hv.kept hg (fun k hk => by rw [hc k hk]; exact h2), hc, hne⟩
set_option maxHeartbeats 400000 in
theorem stopped_nil (w : World) : Calls Tryz.prog 160 #[.pointer none] w fun e w' => e = .returned (.bool true) ∧ w = w' := by
 go_enter Tryz.func160, Tryz.ntmps160
 go_wp2
 go_ret
 exact ⟨rfl, rfl⟩
set_option maxHeartbeats 400000 in
theorem stopped_any (br : Nat) (v : Value) (e : Int) (w : World) (hr : w.heap[br]? = some (.cells #[v, .int .i64 e] 218 (0, 0))) :
   Calls Tryz.prog 160 #[.pointer (some ⟨br, 0, none⟩)] w fun e' w' => e' = .returned (.bool (e != 0)) ∧ w = w' := by
 have h1 := two_cell1 hr
 go_enter Tryz.func160, Tryz.ntmps160
 go_wp2
 go_ret
 exact ⟨rfl, rfl⟩
theorem Bts.take {w : World} {b off cap n : Nat} {xs : List Int} (_h2 : xs.length ≤ cap) (h3 : ∀ i, i < xs.length → w.cell? ⟨b, off + i, none⟩ = some (.int .u8 (xs.getD i 0))) (hn : n ≤ xs.length) : Bts w (.slice (some ⟨b, off, none⟩) n n) (xs.take n) := by
 refine .inr ⟨b, off, n, by simp [Nat.min_eq_left hn], by simp; omega, fun i hi => ?_⟩
 have hi' : i < min n xs.length := by simpa using hi
 have hi2 : i < n := by omega
 rw [h3 i (by omega)]
 simp [hi2]
theorem Bts.drop {w : World} {b off cap n : Nat} {xs : List Int} (h2 : xs.length ≤ cap) (h3 : ∀ i, i < xs.length → w.cell? ⟨b, off + i, none⟩ = some (.int .u8 (xs.getD i 0))) (hn : n ≤ xs.length) : Bts w (.slice (some ⟨b, off + n, none⟩) (xs.length - n) (cap - n)) (xs.drop n) := by
 refine .inr ⟨b, off + n, cap - n, by simp, by simp; omega, fun i hi => ?_⟩
 simp at hi
 have := h3 (n + i) (by omega)
 rw [← Nat.add_assoc] at this
 rw [this]
 simp [List.getElem?_drop]
theorem Bts.empty {w : World} {b off n : Nat} {xs : List Int} (hn : xs.length ≤ n) : Bts w (.slice (some ⟨b, off, none⟩) 0 0) (xs.drop n) := by
 rw [List.drop_eq_nil_of_le hn]
 exact .inr ⟨b, off, 0, rfl, Nat.le_refl _, fun i hi => by simp at hi⟩
def Took (w : World) (br c : Nat) (xs : List Int) (n : Nat) (e : Ending) (w' : World) : Prop :=
 ∃ t, e = .returned t ∧ Bts w' t (xs.take n) ∧ (∀ k, t.ownBlock = some k → k = c) ∧ RdIs 218 w' br c (xs.drop n) 0 ∧ w.grownBy w' (some br)
set_option maxHeartbeats 400000 in
theorem take_short (br : Nat) (v : Value) (xs : List Int) (n : Nat) (w : World) (hr : w.heap[br]? = some (.cells #[v, .int .i64 0] 218 (0, 0))) (hv : Bts w v xs) (hn : xs.length < n) (hn9 : n ≤ 65535) :
   Calls Tryz.prog 162 #[.pointer (some ⟨br, 0, none⟩), .int .i64 n] w fun e' w' => e' = .returned (.slice none 0 0) ∧ w.setCell ⟨br, 1, none⟩ (.int .i64 2) = w' := by
 have h0 := two_cell0 hr
 have h1 := two_cell1 hr
 have hf := fun o => two_free (o := o) hr
 rcases hv with ⟨rfl, hx⟩ | ⟨b, off, cap, rfl, h2, h3⟩
 · have hx0 : 0 < n := by omega
   clear hx
   go_enter Tryz.func162, Tryz.ntmps162
   go_wp2
   go_ret
   exact ⟨rfl, rfl⟩
 · go_enter Tryz.func162, Tryz.ntmps162
   go_wp2
   go_ret
   exact ⟨rfl, rfl⟩
set_option maxHeartbeats 400000 in
theorem take_long (br c : Nat) (v : Value) (xs : List Int) (n : Nat) (w : World) (hr : w.heap[br]? = some (.cells #[v, .int .i64 0] 218 (0, 0))) (hv : Bts w v xs) (hc : ∀ k, v.ownBlock = some k → k = c) (hne : c ≠ br) (hn : n ≤ xs.length) (hn9 : n ≤ 65535) :
   Calls Tryz.prog 162 #[.pointer (some ⟨br, 0, none⟩), .int .i64 n] w (Took w br c xs n) := by
 have h0 := two_cell0 hr
 have h1 := two_cell1 hr
 have hf := fun o => two_free (o := o) hr
 rcases hv with ⟨rfl, hx⟩ | ⟨b, off, cap, rfl, h2, h3⟩
 · subst hx
   have hn0 : n = 0 := by simpa using hn
   subst hn0
   go_enter Tryz.func162, Tryz.ntmps162
   go_wp2
   go_ret
   exact ⟨_, rfl, .inl ⟨rfl, rfl⟩, by simp [Value.ownBlock], ⟨_, two_set0 hr, .inl ⟨rfl, rfl⟩, by simp [Value.ownBlock], hne⟩, grown_set w ⟨br, 0, none⟩ _⟩
 · obtain rfl : b = c := hc b rfl
   clear hc
   have hT := Bts.take h2 h3 hn
   have hD := Bts.drop h2 h3 hn
   have hE := fun (hcn : cap = n) => Bts.empty (w := w) (b := b) (off := off) (xs := xs) (n := n) (by omega)
   have hg := fun u => grown_set w ⟨br, 0, none⟩ u
   have hs0 := fun u => two_set0 (u := u) hr
   have HH := Lib.hid (And.intro hT (And.intro hD (And.intro hE (And.intro hg hs0))))
   clear hT hD hE hg hs0 h3
   go_enter Tryz.func162, Tryz.ntmps162
   go_wp2
   · have hcn : cap = n := by assumption
     go_ret
     obtain ⟨hT, hD, hE, hg, hs0⟩ := HH.out
     have hl : xs.length = n := by omega
     exact ⟨_, rfl, hT.kept (hg _) (fun k hk e => hne (by simp [Value.ownBlock] at hk e; omega)), by simp [Value.ownBlock], ⟨_, hs0 _, by simpa [hl] using (hE hcn).kept (hg _) (fun k hk e => hne (by simp [Value.ownBlock] at hk e; omega)), by simp [Value.ownBlock], hne⟩, hg _⟩
   · go_ret
     obtain ⟨hT, hD, hE, hg, hs0⟩ := HH.out
     exact ⟨_, rfl, hT.kept (hg _) (fun k hk e => hne (by simp [Value.ownBlock] at hk e; omega)), by simp [Value.ownBlock], ⟨_, hs0 _, hD.kept (hg _) (fun k hk e => hne (by simp [Value.ownBlock] at hk e; omega)), by simp [Value.ownBlock], hne⟩, hg _⟩
end Go.Proofs.YtdnpdoipipfkoaaGreatDoor

namespace Go.Proofs.YtdnpdoipipfkoaaGreatDoor
set_option linter.unusedVariables false
set_option linter.unusedSimpArgs false
set_option linter.unusedVariables false
set_option linter.unusedSimpArgs false
set_option maxRecDepth 100000
open Go.RowKit
def leV : List Int → Int
 | [] => 0
 | b :: l => b + 256 * leV l
def Byts (xs : List Int) : Prop := ∀ x ∈ xs, 0 ≤ x ∧ x < 256
def numV (n : Int) (xs : List Int) (e : Int) : Int := if e = 0 ∧ sizeB n = true ∧ n ≤ xs.length then leV (xs.take n.toNat) else 0
def numX (n : Int) (xs : List Int) (e : Int) : List Int := if e = 0 ∧ sizeB n = true ∧ n ≤ xs.length then xs.drop n.toNat else xs
def numE (n : Int) (xs : List Int) (e : Int) : Int := if e = 0 then (if sizeB n = true then (if n ≤ xs.length then 0 else 2) else 1) else e
theorem num_short {m : Nat} {xs : List Int} (hs : sizeB m = true) (hn : ¬ m ≤ xs.length) : numV m xs 0 = 0 ∧ numX m xs 0 = xs ∧ numE m xs 0 = 2 := by
 have h : ¬ (m : Int) ≤ (xs.length : Int) := by omega
 exact ⟨if_neg (fun x => h x.2.2), if_neg (fun x => h x.2.2), by unfold numE; rw [if_pos rfl, if_pos hs, if_neg h]⟩
theorem leV_bd : ∀ xs : List Int, Byts xs → 0 ≤ leV xs ∧ leV xs < 256 ^ xs.length
 | [], _ => by simp [leV]
 | b :: l, h => by
   have h1 := h b (by simp)
   have h2 := leV_bd l (fun x hx => h x (by simp [hx]))
   simp only [leV, List.length_cons, Int.pow_succ]
   omega
theorem leV_snoc : ∀ (xs : List Int) (c : Int), leV (xs ++ [c]) = leV xs + c * 256 ^ xs.length
 | [], c => by simp [leV]
 | b :: l, c => by
   simp only [List.cons_append, leV, leV_snoc l c, List.length_cons, Int.pow_succ]
   rw [Int.mul_add, Int.mul_comm (256 ^ l.length) 256, ← Int.mul_assoc, ← Int.mul_assoc, Int.mul_comm c 256, Int.add_assoc]
theorem Bts.pos {w : World} {v : Value} {xs : List Int} {n : Nat} (h : Bts w v xs) (hn : xs.length = n) (h0 : 0 < n) :
   ∃ b off cap, v = .slice (some ⟨b, off, none⟩) n cap ∧ ∀ i, i < n → w.cell? ⟨b, off + i, none⟩ = some (.int .u8 (xs.getD i 0)) := by
 rcases h with ⟨_, rfl⟩ | ⟨b, off, cap, rfl, _, h3⟩
 · simp at hn; omega
 · subst hn; exact ⟨b, off, cap, rfl, h3⟩
theorem wraps_i64 (n : Int) (h0 : 0 ≤ n) (h1 : n < 2 ^ 63) : IntKind.i64.wrap n = n := by rw [IntKind.wrap_i64]; omega
theorem pow_cases (k : Nat) (hk : k < 4) : ∃ p : Int, (2 : Int) ^ (8 * k) = p ∧ (256 : Int) ^ k = p ∧ 1 ≤ p ∧ p ≤ 16777216 := by
 have h : k = 0 ∨ k = 1 ∨ k = 2 ∨ k = 3 := by omega
 rcases h with rfl | rfl | rfl | rfl <;> exact ⟨_, rfl, by decide, by decide, by decide⟩
theorem num_or (V c : Int) (k : Nat) (hk : k < 4) (hc0 : 0 ≤ c) (hc1 : c < 256) (hV0 : 0 ≤ V) (hV1 : V < 256 ^ k) :
   bits .or .i64 V (wrap64 (wrap64 c * 2 ^ (8 * k))) = V + c * 256 ^ k := by
 obtain ⟨p, h1, h2, h3, h4⟩ := pow_cases k hk
 have hcp0 : 0 ≤ c * p := Int.mul_nonneg hc0 (by omega)
 have hcp1 : c * p ≤ 256 * 16777216 := Int.mul_le_mul (by omega) h4 (by omega) (by omega)
 have e1 : wrap64 c = c := IntWalk.wrap64_in _ ⟨by omega, by omega⟩
 have e2 : wrap64 (c * p) = c * p := IntWalk.wrap64_in _ ⟨by omega, by omega⟩
 have hm : c * p % 2 ^ (8 * k) = 0 := by rw [h1]; exact Int.mul_emod_left c p
 rw [e1, h1, e2, h2]
 have hcomm : bits .or .i64 V (c * p) = bits .or .i64 (c * p) V := by simp only [bits, BitVec.or_comm]
 rw [hcomm, bits_join .i64 63 (by decide) wraps_i64 (8 * k) (c * p) V hcp0 hm (by omega) hV0 (by rw [h1]; rw [h2] at hV1; exact hV1) (by rw [h2] at hV1; omega), Int.add_comm]
theorem num_step (ys : List Int) (k : Nat) (hk : k < ys.length) (hy : ys.length ≤ 4) (hB : Byts ys) :
   bits .or .i64 (leV (ys.take k)) (wrap64 (wrap64 (ys.getD k 0) * 2 ^ (8 * k))) = leV (ys.take (k + 1)) := by
 have hb := leV_bd (ys.take k) (fun x hx => hB x (List.mem_of_mem_take hx))
 have hl : (ys.take k).length = k := by simp; omega
 have hg : ys.getD k 0 = ys[k] := by simp [List.getD_eq_getElem?_getD, hk]
 have hc := hB ys[k] (List.getElem_mem hk)
 rw [hl] at hb
 rw [hg, num_or _ _ k (by omega) hc.1 hc.2 hb.1 hb.2, List.take_succ_eq_append_getElem hk, leV_snoc, hl]
def NumPost (T : TypeId) (w : World) (br c : Nat) (xs : List Int) (e0 n : Int) (e : Ending) (w' : World) : Prop :=
 e = .returned (.int .i64 (numV n xs e0)) ∧ RdIs T w' br c (numX n xs e0) (numE n xs e0) ∧ w.grownBy w' (some br)
set_option maxHeartbeats 400000 in
theorem number_good (br c : Nat) (v : Value) (xs : List Int) (n : Nat) (w : World) (hr : w.heap[br]? = some (.cells #[v, .int .i64 0] 218 (0, 0))) (hv : Bts w v xs) (hc : ∀ k, v.ownBlock = some k → k = c) (hne : c ≠ br)
   (hB : Byts xs) (hs : n = 1 ∨ n = 2 ∨ n = 4) (hn : n ≤ xs.length) :
   Calls Tryz.prog 143 #[.pointer (some ⟨br, 0, none⟩), .int .i64 n] w fun e w' => e = .returned (.int .i64 (leV (xs.take n))) ∧ RdIs 218 w' br c (xs.drop n) 0 ∧ w.grownBy w' (some br) := by
 have hsz : sizeB n = true := by simp [sizeB]; omega
 have h0 := two_cell0 hr
 have h1 := two_cell1 hr
 have hlen : (xs.take n).length = n := by simp; omega
 have HL := Lib.hid hlen
 clear hlen
 go_enter Tryz.func143, Tryz.ntmps143
 go_wp2_with (first | (go_at_call 160; refine (stopped_any _ _ _ _ hr).mono ?_; rintro e w' ⟨rfl, rfl⟩) | (go_at_call 161; refine (isSize_any _ _).mono ?_; rintro e w' ⟨rfl, rfl⟩) | (go_at_call 162; refine (take_long br c v xs n _ hr hv hc hne hn (by omega)).mono ?_; rintro e w1 ⟨t, rfl, ht, hct, hR, hgr⟩; obtain ⟨b, off, cap, rfl, hcell⟩ := ht.pos HL.out (by omega)))
 have hBy : Byts (xs.take n) := fun x hx => hB x (List.mem_of_mem_take hx)
 have HB := Lib.hid hBy
 have HR := Lib.hid hR
 clear hBy hR hct
 go_loop [5, 20] (fun v i => ∃ k : Nat, k ≤ n ∧ i = .int .i64 k ∧ v = .int .i64 (leV ((xs.take n).take k))) (fun _ i => n - (intOf i).toNat)
 case atStart => exact ⟨0, Nat.zero_le _, rfl, rfl⟩
 case round =>
   obtain ⟨k, hk, rfl, rfl⟩ := hrel
   by_cases hlt : k < n
   · have hce := hcell k hlt
     obtain ⟨c, hcd⟩ : ∃ c, c = (xs.take n).getD k 0 := ⟨_, rfl⟩
     rw [← hcd] at hce
     obtain ⟨V, hV⟩ : ∃ V, V = leV ((xs.take n).take k) := ⟨_, rfl⟩
     rw [← hV]
     have HV := Lib.hid hV
     have HC := Lib.hid hcd
     clear hV hcd hcell
     go_wp2
     go_round
     case rel =>
       refine ⟨k + 1, by omega, by go_num, ?_⟩
       have hl := HL.out
       have := num_step (xs.take n) k (by omega) (by omega) HB.out
       rw [HV.out, HC.out, this]
     case measure => simp [intOf]; omega
   · have hkn : k = n := by omega
     subst hkn
     go_wp2
     go_ret
     exact ⟨ret_int (by rw [List.take_of_length_le (Nat.le_of_eq HL.out)]), HR.out, hgr⟩
set_option maxHeartbeats 400000 in
theorem number_nil (n : Int) (w : World) :
   Calls Tryz.prog 143 #[.pointer none, .int .i64 n] w fun e w' => e = .returned (.int .i64 0) ∧ w = w' := by
 go_enter Tryz.func143, Tryz.ntmps143
 go_wp2_with (go_at_call 160; refine (stopped_nil _).mono ?_; rintro e w' ⟨rfl, rfl⟩)
 go_ret
 exact ⟨rfl, rfl⟩
set_option maxHeartbeats 400000 in
theorem number_any (br c : Nat) (xs : List Int) (e0 n : Int) (w : World) (hR : RdIs 218 w br c xs e0) (hB : Byts xs) :
   Calls Tryz.prog 143 #[.pointer (some ⟨br, 0, none⟩), .int .i64 n] w (NumPost 218 w br c xs e0 n) := by
 obtain ⟨v, hr, hv, hc, hne⟩ := hR
 by_cases he : e0 = 0
 · subst he
   by_cases hs : sizeB n = true
   · have hs' : n = 1 ∨ n = 2 ∨ n = 4 := by simpa [sizeB] using hs
     obtain ⟨m, rfl⟩ : ∃ m : Nat, n = (m : Int) := ⟨n.toNat, by omega⟩
     by_cases hn : m ≤ xs.length
     · refine (number_good br c v xs m w hr hv hc hne hB (by omega) hn).mono fun e w' h => ?_
       have hn' : (m : Int) ≤ (xs.length : Int) := by omega
       simpa [NumPost, numV, numX, numE, hs, hn'] using h
     · have h0 := two_cell0 hr
       have h1 := two_cell1 hr
       have hg := grown_set w ⟨br, 1, none⟩ (.int .i64 2)
       have hset := two_set1 (u := .int .i64 2) hr
       have hn' : ¬ (m : Int) ≤ (xs.length : Int) := by omega
       have HP := Lib.hid (And.intro hg hset)
       clear hg hset
       go_enter Tryz.func143, Tryz.ntmps143
       go_wp2_with (first | (go_at_call 160; refine (stopped_any _ _ _ _ hr).mono ?_; rintro e w' ⟨rfl, rfl⟩) | (go_at_call 161; refine (isSize_any _ _).mono ?_; rintro e w' ⟨rfl, rfl⟩) | (go_at_call 162; refine (take_short br v xs m _ hr hv (by omega) (by omega)).mono ?_; rintro e w1 ⟨rfl, rfl⟩))
       go_loop [5, 20] (fun v i => i = .int .i64 0 ∧ v = .int .i64 0) (fun _ i => 0)
       case atStart => exact ⟨rfl, rfl⟩
       case round =>
         obtain ⟨rfl, rfl⟩ := hrel
         go_wp2
         go_ret
         obtain ⟨hg, hset⟩ := HP.out
         obtain ⟨q1, q2, q3⟩ := num_short hs hn
         refine ⟨ret_int q1.symm, ⟨v, ?_, ?_, hc, hne⟩, hg⟩
         · rw [q3]; exact hset
         · rw [q2]
           exact hv.kept hg (fun k hk e => hne (by rw [← hc k hk]; simpa using e))
   · have hs' : sizeB n = false := by simpa using hs
     have h0 := two_cell0 hr
     have h1 := two_cell1 hr
     have hf := two_free (o := 1) hr
     have hg := grown_set w ⟨br, 1, none⟩ (.int .i64 1)
     have hset := two_set1 (u := .int .i64 1) hr
     have HP := Lib.hid (And.intro hg hset)
     clear hg hset
     go_enter Tryz.func143, Tryz.ntmps143
     go_wp2_with (first | (go_at_call 160; refine (stopped_any _ _ _ _ hr).mono ?_; rintro e w' ⟨rfl, rfl⟩) | (go_at_call 161; refine (isSize_any _ _).mono ?_; rintro e w' ⟨rfl, rfl⟩))
     go_ret
     obtain ⟨hg, hset⟩ := HP.out
     refine ⟨ret_int (by simp [numV, hs']), ⟨v, ?_, ?_, hc, hne⟩, hg⟩
     · simpa [numE, hs'] using hset
     · have : numX n xs 0 = xs := by simp [numX, hs']
       rw [this]
       exact hv.kept hg (fun k hk e => hne (by rw [← hc k hk]; simpa using e))
 · have h0 := two_cell0 hr
   have h1 := two_cell1 hr
   have hne0 : (e0 != 0) = true := by simpa using he
   go_enter Tryz.func143, Tryz.ntmps143
   go_wp2_with (first | (go_at_call 160; refine (stopped_any _ _ _ _ hr).mono ?_; rintro e w' ⟨rfl, rfl⟩))
   go_ret
   exact ⟨ret_int (by simp [numV, he]), ⟨v, by simpa [numE, he] using hr, by simpa [numX, he] using hv, hc, hne⟩, World.grownBy.refl _ _⟩
end Go.Proofs.YtdnpdoipipfkoaaGreatDoor

namespace Go.Proofs.YtdnpdoipipfkoaaGreatDoor
set_option linter.unusedVariables false
set_option linter.unusedSimpArgs false
set_option linter.unusedVariables false
set_option linter.unusedSimpArgs false
set_option maxRecDepth 100000
open Go.RowKit
end Go.Proofs.YtdnpdoipipfkoaaGreatDoor

namespace Go.Proofs.YtdnpdoipipfkoaaGreatDoor
set_option linter.unusedVariables false
set_option linter.unusedSimpArgs false
set_option linter.unusedVariables false
set_option linter.unusedSimpArgs false
set_option maxRecDepth 100000
open Go.RowKit
theorem numX_byts {n : Int} {xs : List Int} {e0 : Int} (hB : Byts xs) : Byts (numX n xs e0) := by
 unfold numX
 split
 · exact fun x hx => hB x (List.mem_of_mem_drop hx)
 · exact hB
theorem convert_bts {w : World} {v : Value} {xs : List Int} (h : Bts w v xs) : (convert 26 9 v).run Tryz.prog w = .ok (.string (strOfNums xs)) w := by
 rcases h with ⟨rfl, rfl⟩ | ⟨b, off, cap, rfl, h2, h3⟩
 · exact run_convert_bytes_nil w 26 5 Tryz.underlying26 Tryz.underlying5 0 0 9 Tryz.underlying9
 · exact run_convert_bytes_arg w 26 5 Tryz.underlying26 Tryz.underlying5 b off xs.length cap xs rfl h3 9 Tryz.underlying9
def txtOk (most : Int) (xs : List Int) (e0 : Int) : Prop := numE 2 xs e0 = 0 ∧ numV 2 xs e0 ≤ most ∧ numV 2 xs e0 ≤ (numX 2 xs e0).length
instance (most : Int) (xs : List Int) (e0 : Int) : Decidable (txtOk most xs e0) := by unfold txtOk; infer_instance
theorem number_is {br c : Nat} {xs : List Int} {e0 n : Int} {w : World} (hR : RdIs 218 w br c xs e0) (hB : Byts xs) {m e1 : Int} {x1 : List Int} (h1 : numV n xs e0 = m) (h2 : numX n xs e0 = x1) (h3 : numE n xs e0 = e1) :
   Calls Tryz.prog 143 #[.pointer (some ⟨br, 0, none⟩), .int .i64 n] w fun e w' => e = .returned (.int .i64 m) ∧ RdIs 218 w' br c x1 e1 ∧ w.grownBy w' (some br) := by
 subst h1 h2 h3
 exact number_any br c xs e0 n w hR hB
theorem grown_twice {w w1 w2 : World} {r : Option Nat} (h1 : w.grownBy w1 r) (h2 : w1.grownBy w2 r) : w.grownBy w2 r := grown_trans h1 h2 (fun _ hk _ => hk.symm)
def flagB (xs : List Int) (e0 : Int) : Bool := decide (numV 1 xs e0 = 1)
def flagE (xs : List Int) (e0 : Int) : Int := if 1 < numV 1 xs e0 then 2 else numE 1 xs e0
def FlagPost (T : TypeId) (w : World) (br c : Nat) (xs : List Int) (e0 : Int) (e : Ending) (w' : World) : Prop :=
 e = .returned (.bool (flagB xs e0)) ∧ RdIs T w' br c (numX 1 xs e0) (flagE xs e0) ∧ w.grownBy w' (some br)
set_option maxHeartbeats 400000 in
theorem flag_nil (w : World) :
   Calls Tryz.prog 145 #[.pointer none] w fun e w' => e = .returned (.bool false) ∧ w = w' := by
 go_enter Tryz.func145, Tryz.ntmps145
 go_wp2_with (first | (go_at_call 143; refine (number_nil _ _).mono ?_; rintro e w' ⟨rfl, rfl⟩))
 go_ret
 exact ⟨rfl, rfl⟩
set_option maxHeartbeats 400000 in
theorem flag_any (br c : Nat) (xs : List Int) (e0 : Int) (w : World) (hR : RdIs 218 w br c xs e0) (hB : Byts xs) :
   Calls Tryz.prog 145 #[.pointer (some ⟨br, 0, none⟩)] w (FlagPost 218 w br c xs e0) := by
 obtain ⟨m, hm⟩ : ∃ m, numV 1 xs e0 = m := ⟨_, rfl⟩
 obtain ⟨x1, hx1⟩ : ∃ x, numX 1 xs e0 = x := ⟨_, rfl⟩
 obtain ⟨e1, he1⟩ : ∃ x, numE 1 xs e0 = x := ⟨_, rfl⟩
 have fB : flagB xs e0 = (m == 1) := by unfold flagB; rw [hm]; rfl
 have fE : flagE xs e0 = if 1 < m then 2 else e1 := by unfold flagE; rw [hm, he1]
 have HF := Lib.hid (And.intro fB fE)
 have Hm := Lib.hid hm
 have Hx := Lib.hid hx1
 have He := Lib.hid he1
 clear hm hx1 he1 fB fE
 by_cases h1 : 1 < m
 · go_enter Tryz.func145, Tryz.ntmps145
   go_wp2_with (first | (go_at_call 143; refine (number_is hR hB Hm.out Hx.out He.out).mono ?_; rintro e w1 ⟨rfl, ⟨v1, hr1, hv1, hc1, hne1⟩, hgr1⟩; have q1 := two_cell1 hr1; have qf := two_free (o := 1) hr1))
   go_ret
   obtain ⟨fB, fE⟩ := HF.out
   have hg := grown_set w1 ⟨br, 1, none⟩ (.int .i64 2)
   exact ⟨ret_bool (by rw [fB]), by rw [fE, if_pos h1, Hx.out]; exact ⟨v1, two_set1 hr1, hv1.kept hg (fun k hk e => hne1 (by rw [← hc1 k hk]; simpa using e)), hc1, hne1⟩, grown_twice hgr1 hg⟩
 · go_enter Tryz.func145, Tryz.ntmps145
   go_wp2_with (first | (go_at_call 143; refine (number_is hR hB Hm.out Hx.out He.out).mono ?_; rintro e w1 ⟨rfl, ⟨v1, hr1, hv1, hc1, hne1⟩, hgr1⟩; have q1 := two_cell1 hr1; have qf := two_free (o := 1) hr1))
   go_ret
   obtain ⟨fB, fE⟩ := HF.out
   exact ⟨ret_bool (by rw [fB]), by rw [fE, if_neg (by omega), Hx.out]; exact ⟨v1, hr1, hv1, hc1, hne1⟩, hgr1⟩
theorem Bts.shape {w : World} {v : Value} {xs : List Int} (h : Bts w v xs) : ∃ ao cap, v = .slice ao xs.length cap := by
 rcases h with ⟨rfl, rfl⟩ | ⟨b, off, cap, rfl, _⟩
 · exact ⟨none, 0, rfl⟩
 · exact ⟨_, _, rfl⟩
def doneE (xs : List Int) (e0 : Int) : Int := if e0 = 0 ∧ 0 < xs.length then 2 else e0
def DonePost (T : TypeId) (w : World) (br c : Nat) (xs : List Int) (e0 : Int) (e : Ending) (w' : World) : Prop :=
 e = .returned (.int .i64 (doneE xs e0)) ∧ RdIs T w' br c xs (doneE xs e0) ∧ w.grownBy w' (some br)
set_option maxHeartbeats 400000 in
theorem done_any (br c : Nat) (xs : List Int) (e0 : Int) (w : World) (hR : RdIs 218 w br c xs e0) :
   Calls Tryz.prog 146 #[.pointer (some ⟨br, 0, none⟩)] w (DonePost 218 w br c xs e0) := by
 obtain ⟨v, hr, hv, hc, hne⟩ := hR
 obtain ⟨ao, cap, rfl⟩ := hv.shape
 have h0 := two_cell0 hr
 have h1 := two_cell1 hr
 have hf := two_free (o := 1) hr
 have hg := grown_set w ⟨br, 1, none⟩ (.int .i64 2)
 have hset := two_set1 (u := .int .i64 2) hr
 have HP := Lib.hid (And.intro hg hset)
 clear hg hset
 by_cases he : e0 = 0
 · subst he
   by_cases hl : 0 < xs.length
   · have fE : doneE xs 0 = 2 := if_pos ⟨rfl, hl⟩
     have HF := Lib.hid fE
     clear fE
     go_enter Tryz.func146, Tryz.ntmps146
     go_wp2
     go_ret
     obtain ⟨hg, hset⟩ := HP.out
     exact ⟨ret_int HF.out.symm, by rw [HF.out]; exact ⟨_, hset, hv.kept hg (fun k hk e => hne (by rw [← hc k hk]; simpa using e)), hc, hne⟩, hg⟩
   · have fE : doneE xs 0 = 0 := if_neg (fun h => hl h.2)
     have HF := Lib.hid fE
     clear fE
     go_enter Tryz.func146, Tryz.ntmps146
     go_wp2
     go_ret
     exact ⟨ret_int HF.out.symm, by rw [HF.out]; exact ⟨_, hr, hv, hc, hne⟩, World.grownBy.refl _ _⟩
 · have fE : doneE xs e0 = e0 := if_neg (fun h => he h.1)
   have HF := Lib.hid fE
   have hne0 : (e0 == 0) = false := by simpa using he
   clear fE
   go_enter Tryz.func146, Tryz.ntmps146
   go_wp2
   go_ret
   exact ⟨ret_int HF.out.symm, by rw [HF.out]; exact ⟨_, hr, hv, hc, hne⟩, World.grownBy.refl _ _⟩
end Go.Proofs.YtdnpdoipipfkoaaGreatDoor

namespace Go.Proofs.YtdnpdoipipfkoaaGreatDoor
set_option linter.unusedVariables false
set_option linter.unusedSimpArgs false
set_option linter.unusedVariables false
set_option linter.unusedSimpArgs false
set_option maxRecDepth 100000
open Go.RowKit
end Go.Proofs.YtdnpdoipipfkoaaGreatDoor

namespace Go.Proofs.YtdnpdoipipfkoaaGreatDoor
set_option linter.unusedVariables false
set_option linter.unusedSimpArgs false
set_option linter.unusedVariables false
set_option linter.unusedSimpArgs false
set_option maxRecDepth 100000
open Go.RowKit
def ReadPost (w : World) (xs : List Int) (e : Ending) (w' : World) : Prop :=
 ∃ br c, e = .returned (.pointer (some ⟨br, 0, none⟩)) ∧ RdIs 218 w' br c xs 0 ∧ w.grownBy w' none ∧ w.heap.size ≤ br ∧ br < w'.heap.size ∧ c < w'.heap.size
theorem Owns.bts {w : World} {B : Nat} {v : Value} {xs : List Int} {n : Nat} (hn : n = xs.length) (h : w.ownsRow B 5 1 v n (xs.map (Value.int .u8))) : Bts w v xs := by
 subst hn
 obtain ⟨h1, h2⟩ := h
 rcases h2 with ⟨h2, h3⟩ | ⟨g, cap, cur, rfl, hg, hh, hc, _, hs, ht⟩
 · exact .inl ⟨h2, List.eq_nil_of_length_eq_zero h3⟩
 · refine .inr ⟨g, 0, cap, rfl, hc, fun i hi => ?_⟩
   have : (⟨g, 0 + i, none⟩ : Addr) = ⟨g, i, none⟩ := by rw [Nat.zero_add]
   rw [this, cell_of_row w g i cur 5 (0, 0) hh]
   have hi' : (cur.toList.take (xs.length * 1))[i]? = (xs.map (Value.int .u8))[i]? := by rw [ht]
   rw [List.getElem?_take, if_pos (by omega)] at hi'
   rw [Array.getElem?_toList] at hi'
   rw [hi']
   simp [List.getD_eq_getElem?_getD, hi]
theorem owns_shape {w : World} {B : Nat} {v : Value} {n : Nat} {xs : List Value} {T : TypeId} (h : w.ownsRow B T 1 v n xs) : ∃ ao cap, v = .slice ao n cap := by
 rcases h.2 with ⟨h2, h3⟩ | ⟨g, cap, cur, rfl, _⟩
 · subst h3; exact ⟨none, 0, h2⟩
 · exact ⟨_, _, rfl⟩
set_option maxRecDepth 100000 in
set_option maxHeartbeats 400000 in
theorem read_any (v0 : Value) (xs : List Int) (w : World) (hb : Bts w v0 xs) (hm : xs.length ≤ 140737488351232) (h0 : 0 < w.heap.size) :
   Calls Tryz.prog 142 #[v0] w (ReadPost w xs) := by
 rcases hb with ⟨rfl, rfl⟩ | ⟨b, off, cap, rfl, h2, h3⟩
 · go_enter Tryz.func142, Tryz.ntmps142
   go_wp2_with (first | (go_at_call 140; refine (clone_nil _).mono ?_; rintro e w' ⟨rfl, rfl⟩))
   go_ret
   exact ⟨w.heap.size, 0, rfl, ⟨_, heap_alloc_new w _, .inl ⟨rfl, rfl⟩, by simp [Value.ownBlock], by omega⟩, World.grownBy_alloc _ _ none, Nat.le_refl _, by simp, by simp⟩
 · go_enter Tryz.func142, Tryz.ntmps142
   go_wp2_with (first | (go_at_call 140; refine (clone_some b off cap xs _ h3 (by omega)).mono ?_; rintro e w1 ⟨v', rfl, hown, hgr⟩; obtain ⟨ao, cp, rfl⟩ := owns_shape hown))
   go_ret
   have hv := Owns.bts rfl hown
   have hlt := hown.lt
   have hs := hgr.size
   have hga := World.grownBy_alloc w1 (.cells #[.slice ao xs.length cp, .int .i64 0] 218) none
   cases hao : (Value.slice ao xs.length cp).ownBlock with
   | none => exact ⟨w1.heap.size, 0, rfl, ⟨_, heap_alloc_new w1 _, hv.kept hga (fun k hk e => by cases e), by rw [hao]; simp, by omega⟩, grown_trans hgr hga (fun k hk => by cases hk), hs, by simp, by simp⟩
   | some c =>
     have hc := hlt c hao
     exact ⟨w1.heap.size, c, rfl, ⟨_, heap_alloc_new w1 _, hv.kept hga (fun k hk e => by cases e), by rw [hao]; simp, by omega⟩, grown_trans hgr hga (fun k hk => by cases hk), hs, by simp, by simp; omega⟩
end Go.Proofs.YtdnpdoipipfkoaaGreatDoor
