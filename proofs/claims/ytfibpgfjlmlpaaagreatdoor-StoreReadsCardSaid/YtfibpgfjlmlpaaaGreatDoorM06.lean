/-
  Texts put together: NL NM NO NP WC WD WE WF.
-/
import Derived.Test.YtfibpgfjlmlpaaaGreatDoorM05
import Derived.Lib.SmallJoins
import Derived.Test.YtfibpgfjlmlpaaaGreatDoorM03
import Derived.Lib.AppendStr
/-
  Package nand: New.
-/
namespace Go.Proofs.YtfibpgfjlmlpaaaGreatDoor
set_option linter.unusedVariables false
set_option linter.unusedSimpArgs false
set_option linter.unusedVariables false
set_option linter.unusedSimpArgs false
set_option maxRecDepth 100000
open Go.RowKit

def okM (al : Nat) (ms : List Int) : Bool := ms.all fun m => decide (2 ≤ m ∧ m < al)
theorem okM_at {al : Nat} {ms : List Int} (h : okM al ms = true) {k : Nat} (hk : k < ms.length) : 2 ≤ ms.getD k 0 ∧ ms.getD k 0 < al := by
  unfold okM at h
  rw [List.all_eq_true] at h
  have := h _ (List.getElem_mem hk)
  rw [List.getD_eq_getElem?_getD, List.getElem?_eq_getElem hk]
  simpa using this
theorem okM_of {al : Nat} {ms : List Int} (h : ∀ k, k < ms.length → 2 ≤ ms.getD k 0 ∧ ms.getD k 0 < al) : okM al ms = true := by
  unfold okM
  rw [List.all_eq_true]
  intro m hm
  obtain ⟨k, hk, rfl⟩ := List.mem_iff_getElem.1 hm
  have := h k hk
  rw [List.getD_eq_getElem?_getD, List.getElem?_eq_getElem hk] at this
  simpa using this

/-- A new array. -/
def Fresh (c d b : Int) (pg pb db al : Nat) (ms : List Int) (V : Nat → Value) (zs : Nat → List Int) (px : Int) (off : Bool) (po : Int) (N M : Nat → Int) (w : World) (e : Ending) (w' : World) : Prop :=
  ∃ S : NShape, Roles S ∧ (S.pb = pb ∧ S.db = db ∧ S.c = c ∧ S.d = d ∧ S.b = b ∧ S.p = pg ∧ S.all = al ∧ S.pg = pg) ∧ e = .returned (.tuple #[.pointer (some ⟨S.nb, 0, none⟩), .int .i64 0]) ∧ NandAt w' S V zs (blankS ms px off po N M) ∧ w.grownBy w' none ∧
    ∀ k, S.T k ≠ 0 → k = pb ∨ k = db ∨ w.heap.size ≤ k
def NewP7 (c d b : Int) (pg pb db al : Nat) (ms : List Int) (V : Nat → Value) (zs : Nat → List Int) (px : Int) (off : Bool) (po : Int) (N M : Nat → Int) (w : World) (e : Ending) (w' : World) : Prop :=
  if okM al ms then Fresh c d b pg pb db al ms V zs px off po N M w e w' else e = .returned (.tuple #[.pointer none, .int .i64 5]) ∧ w.grownBy w' none
theorem newP7_ok {c d b : Int} {pg pb db al : Nat} {ms : List Int} {V : Nat → Value} {zs : Nat → List Int} {px : Int} {off : Bool} {po : Int} {N M : Nat → Int} {w w' : World} {e : Ending} (h : okM al ms = true) (hF : Fresh c d b pg pb db al ms V zs px off po N M w e w') : NewP7 c d b pg pb db al ms V zs px off po N M w e w' := by
  unfold NewP7; rw [if_pos h]; exact hF
theorem newP7_bad {c d b : Int} {pg pb db al : Nat} {ms : List Int} {V : Nat → Value} {zs : Nat → List Int} {px : Int} {off : Bool} {po : Int} {N M : Nat → Int} {w w' : World} {e : Ending} (h : okM al ms = false) (hF : e = .returned (.tuple #[.pointer none, .int .i64 5]) ∧ w.grownBy w' none) : NewP7 c d b pg pb db al ms V zs px off po N M w e w' := by
  unfold NewP7; rw [if_neg (by simp [h])]; exact hF
theorem mkT_low {nb bl bm be pb db R0 al B k : Nat} (lo : B ≤ nb ∧ B ≤ bl ∧ B ≤ bm ∧ B ≤ be) (hR : B ≤ R0) (h : mkT nb bl bm be pb db R0 al k ≠ 0) : k = pb ∨ k = db ∨ B ≤ k := by
  refine Classical.byContradiction fun hne => h ?_
  unfold mkT
  rw [if_neg (by omega), if_neg (by omega), if_neg (by omega), if_neg (by omega), if_neg (by omega), if_neg (by omega), if_neg (by omega)]

theorem set_alloc_drew {x : World} {bl k : Nat} (o : Obj) (v : Value) (h : bl < x.heap.size) : (x.drew.alloc o).setCell ⟨bl, k, none⟩ v = ((x.setCell ⟨bl, k, none⟩ v).alloc o).drew := by
  show ((x.alloc o).setCell ⟨bl, k, none⟩ v).drew = _
  rw [World.setCell_alloc_past _ _ _ _ h]

/-- What laying a page's row reads. -/
def SeesN (w : World) (nb bl al pg : Nat) (x : World) : Prop := x.cell? ⟨nb, 6, none⟩ = some (.slice (some ⟨bl, 0, none⟩) al al) ∧ x.cell? ⟨w.heap.size, 3, none⟩ = some (.int .i64 (pg : Int))

set_option maxHeartbeats 1600000 in
theorem new7_any (pb db pg al : Nat) (c d b : Int) (v : Value) (ms : List Int) {V : Nat → Value} {zs : Nat → List Int} {px : Int} {off : Bool} {po : Int} {N M : Nat → Int} (w : World) (hg : geoE c d b pg = 0) (hal : c * d * b = al) (hm : Ints w v ms) (hml : ms.length ≤ 9223372036854775807)
    (hp : PowAt w pb px off po) (hd : DrAt w db V zs N M) (hV : ∀ j, j < 4 → ∀ k, (V j).ownBlock = some k → k < w.heap.size ∧ k ≠ pb) (hne : pb ≠ db) :
    Calls Tryz.prog 40 #[four c d b pg, .pointer (some ⟨pb, 0, none⟩), .pointer (some ⟨db, 0, none⟩), v] w (NewP7 c d b pg pb db al ms V zs px off po N M w) := by
  have HP := Lib.hid (And.intro hp (And.intro hd (And.intro hV (And.intro hne (And.intro hg hal)))))
  clear hp hd hV hne
  obtain ⟨m1, m2, m3, m4, m5, m6⟩ := geo_ok hg
  have C := check_any c d b pg
  have B := blocks_any c d b pg
  have hB : blocksN c d b pg = c * d * b := by unfold blocksN; rw [if_pos hg]
  rw [hg] at C
  rw [hB] at B
  rw [hal] at B m5 m6
  obtain ⟨ao, cp, bb, oo, hv, hvc⟩ := hm.form
  subst hv
  have HM := Lib.hid hvc
  clear hB hg hal hm hvc
  have mk1 := make_run Tryz.underlying115 Tryz.infoRows al (by omega) (by omega)
  have mk2 := make_run Tryz.underlying116 Tryz.infoBool al (by omega) (by omega)
  have mk3 := make_run Tryz.underlying22 Tryz.infoInt al (by omega) (by omega)
  have q1 := made_one (.slice none 0 0) al
  have q2 := made_one (.bool false) al
  have q3 := made_one (.int .i64 0) al
  simp only [Nat.mul_one, show (Value.slice none 0 0).cells = #[.slice none 0 0] from rfl, show (Value.bool false).cells = #[.bool false] from rfl, show (Value.int .i64 0).cells = #[.int .i64 0] from rfl] at mk1 mk2 mk3
  have mk4 := make_run Tryz.underlying134 Tryz.infoLeaf pg (by omega) (by omega)
  have q4 := made_three (.int .i64 0) (.slice none 0 0) (.string ⟨#[]⟩) pg
  simp only [show (Value.agg #[.int .i64 0, .slice none 0 0, .string ⟨#[]⟩]).cells = #[.int .i64 0, .slice none 0 0, .string ⟨#[]⟩] from rfl] at mk4
  generalize madeCells #[.int .i64 0, .slice none 0 0, .string ⟨#[]⟩] (pg * 3) = A4 at *
  have Q4 := Lib.hid q4
  have MK4 := Lib.hid mk4
  clear q4 mk4
  generalize madeCells #[.slice none 0 0] al = A1 at *
  generalize madeCells #[.bool false] al = A2 at *
  generalize madeCells #[.int .i64 0] al = A3 at *
  have Q := Lib.hid (And.intro q1 (And.intro q2 q3))
  clear q1 q2 q3
  unfold four fourObj at *
  go_enter Tryz.func40, Tryz.ntmps40
  go_upto_region 7 with (first
    | (go_at_call 69; refine (C _).mono ?_; rintro e w' ⟨rfl, rfl⟩)
    | (go_at_call 70; refine (B _).mono ?_; rintro e w' ⟨rfl, rfl⟩))
  go_cut [12] (fun s12 wx => ∃ nb bl bm be, s12 = .pointer (some ⟨nb, 0, none⟩) ∧ Laid w wx c d b pg pb db al nb bl bm be)
  case first =>
    have hE4 : w.grownBy ((((w.alloc (.cells #[.int .i64 c, .int .i64 d, .int .i64 b, .int .i64 pg] 49)).alloc (.cells #[.int .i64 c, .int .i64 d, .int .i64 b, .int .i64 pg] 49)).alloc (.cells #[.int .i64 c, .int .i64 d, .int .i64 b, .int .i64 pg] 49)).alloc (.cells #[.int .i64 c, .int .i64 d, .int .i64 b, .int .i64 pg] 49)) none := grown_alloc (grown_alloc (grown_alloc (World.grownBy_alloc w _ none) _) _) _
    have bx : ∀ o, (w.alloc (.cells #[.int .i64 c, .int .i64 d, .int .i64 b, .int .i64 pg] 49)).cell? ⟨w.heap.size, o, none⟩ = (#[.int .i64 c, .int .i64 d, .int .i64 b, .int .i64 pg] : Array Value)[o]? := fun o => World.cell?_alloc_at _ _ _ _ rfl
    have bx4 : ∀ o v, (#[.int .i64 c, .int .i64 d, .int .i64 b, .int .i64 pg] : Array Value)[o]? = some v → ((((w.alloc (.cells #[.int .i64 c, .int .i64 d, .int .i64 b, .int .i64 pg] 49)).alloc (.cells #[.int .i64 c, .int .i64 d, .int .i64 b, .int .i64 pg] 49)).alloc (.cells #[.int .i64 c, .int .i64 d, .int .i64 b, .int .i64 pg] 49)).alloc (.cells #[.int .i64 c, .int .i64 d, .int .i64 b, .int .i64 pg] 49)).cell? ⟨w.heap.size, o, none⟩ = some v := fun o v hv => by
      rw [World.cell?_alloc_past _ _ _ (by simp; omega), World.cell?_alloc_past _ _ _ (by simp; omega), World.cell?_alloc_past _ _ _ (by simp), bx]; exact hv
    have x0 := bx4 0 _ rfl
    have x1 := bx4 1 _ rfl
    have x2 := bx4 2 _ rfl
    have x3 := bx4 3 _ rfl
    clear bx bx4
    obtain ⟨w4, hw4⟩ : ∃ x, (((w.alloc (.cells #[.int .i64 c, .int .i64 d, .int .i64 b, .int .i64 pg] 49)).alloc (.cells #[.int .i64 c, .int .i64 d, .int .i64 b, .int .i64 pg] 49)).alloc (.cells #[.int .i64 c, .int .i64 d, .int .i64 b, .int .i64 pg] 49)).alloc (.cells #[.int .i64 c, .int .i64 d, .int .i64 b, .int .i64 pg] 49) = x := ⟨_, rfl⟩
    rw [hw4] at hE4 x0 x1 x2 x3 ⊢
    have hlt : w.heap.size < w4.heap.size := World.block_lt_of_cell? w4 _ x0
    have hlt2 : w.heap.size < w4.heap.size + 1 := by omega
    have hlt3 : w.heap.size < w4.heap.size + 1 + 1 := by omega
    clear hw4
    go_region
    all_goals (go_wp2_with fail; go_meet)
    all_goals first
      | exact ⟨w4.heap.size + 1 + 1 + 1, w4.heap.size, w4.heap.size + 1, w4.heap.size + 1 + 1, rfl, laid_of hE4 (alloc4_gb _ _ _ _ _) x3 Q.out.1 Q.out.2.1 Q.out.2.2 (alloc4_3 _ _ _ _ _) (alloc4_0 _ _ _ _ _) (alloc4_1 _ _ _ _ _) (alloc4_2 _ _ _ _ _) (by omega) (by omega)⟩
      | exact ⟨w4.heap.size + 1 + 1 + 1, w4.heap.size, w4.heap.size + 1 + 1, w4.heap.size + 1, rfl, laid_of hE4 (alloc4_gb _ _ _ _ _) x3 Q.out.1 Q.out.2.1 Q.out.2.2 (alloc4_3 _ _ _ _ _) (alloc4_0 _ _ _ _ _) (alloc4_2 _ _ _ _ _) (alloc4_1 _ _ _ _ _) (by omega) (by omega)⟩
      | exact ⟨w4.heap.size + 1 + 1 + 1, w4.heap.size + 1, w4.heap.size, w4.heap.size + 1 + 1, rfl, laid_of hE4 (alloc4_gb _ _ _ _ _) x3 Q.out.1 Q.out.2.1 Q.out.2.2 (alloc4_3 _ _ _ _ _) (alloc4_1 _ _ _ _ _) (alloc4_0 _ _ _ _ _) (alloc4_2 _ _ _ _ _) (by omega) (by omega)⟩
      | exact ⟨w4.heap.size + 1 + 1 + 1, w4.heap.size + 1, w4.heap.size + 1 + 1, w4.heap.size, rfl, laid_of hE4 (alloc4_gb _ _ _ _ _) x3 Q.out.1 Q.out.2.1 Q.out.2.2 (alloc4_3 _ _ _ _ _) (alloc4_1 _ _ _ _ _) (alloc4_2 _ _ _ _ _) (alloc4_0 _ _ _ _ _) (by omega) (by omega)⟩
      | exact ⟨w4.heap.size + 1 + 1 + 1, w4.heap.size + 1 + 1, w4.heap.size, w4.heap.size + 1, rfl, laid_of hE4 (alloc4_gb _ _ _ _ _) x3 Q.out.1 Q.out.2.1 Q.out.2.2 (alloc4_3 _ _ _ _ _) (alloc4_2 _ _ _ _ _) (alloc4_0 _ _ _ _ _) (alloc4_1 _ _ _ _ _) (by omega) (by omega)⟩
      | exact ⟨w4.heap.size + 1 + 1 + 1, w4.heap.size + 1 + 1, w4.heap.size + 1, w4.heap.size, rfl, laid_of hE4 (alloc4_gb _ _ _ _ _) x3 Q.out.1 Q.out.2.1 Q.out.2.2 (alloc4_3 _ _ _ _ _) (alloc4_2 _ _ _ _ _) (alloc4_1 _ _ _ _ _) (alloc4_0 _ _ _ _ _) (by omega) (by omega)⟩
  case rest =>
    clear C B mk1 mk2 mk3 Q
    obtain ⟨nb, bl, bm, be, rfl, hL⟩ := hcut
    have cl := hL.fix.cl
    have hsz0 := hL.fix.ext.size
    go_wp2
    have hlay0 : Laying w wc c d b pg pb db al nb bl bm be wc.heap.size 0 (mkT nb bl bm be pb db wc.heap.size al) := ⟨hL.fix, rfl, hL.fix.hi, fun i hi => by omega, fun i _ hi => hL.ls i hi⟩
    clear cl hL
    generalize wc.heap.size = R0 at *
    go_loopw [45] (fun t wr => ∃ k : Nat, k ≤ al ∧ t = .int .i64 k ∧ Laying w wr c d b pg pb db al nb bl bm be R0 k (mkT nb bl bm be pb db R0 al)) (fun t _ => al - (intOf t).toNat)
    case atStart => exact ⟨0, Nat.zero_le _, rfl, hlay0⟩
    case round =>
      clear hlay0
      obtain ⟨k, hk, rfl, hY⟩ := hrel
      have HY := Lib.hid hY
      by_cases hlt : k < al
      · have hS : SeesN w nb bl al pg wr.drew := ⟨hY.fix.cl, hY.fix.bx⟩
        have hN := hY.next (t := 180) hlt Q4.out
        have hS2 : SeesN w nb bl al pg ((wr.drew.alloc (.cells A4 180)).setCell ⟨bl, k, none⟩ (.slice (some ⟨wr.heap.size, 0, none⟩) pg pg)) := ⟨hN.fix.cl, hN.fix.bx⟩
        have hS3 : SeesN w nb bl al pg (wr.drew.alloc (.cells A4 180)) := ⟨(gb_trans7 (Ext.drew wr) (World.grownBy_alloc _ _ none)).cell hY.fix.cl (by simp), (gb_trans7 (Ext.drew wr) (World.grownBy_alloc _ _ none)).cell hY.fix.bx (by simp)⟩
        have e0 : (wr.drew.alloc (.cells A4 180)).setCell ⟨bl, k, none⟩ (.slice (some ⟨wr.heap.size, 0, none⟩) pg pg) = ((wr.setCell ⟨bl, k, none⟩ (.slice (some ⟨wr.heap.size, 0, none⟩) pg pg)).alloc (.cells A4 180)).drew := by
          exact set_alloc_drew _ _ hY.fix.hi.2.1
        rw [e0] at hN hS2
        have HN := Lib.hid hN
        have c0 := hY.ls k (Nat.le_refl _) hlt
        have f0 := hY.fix.fl k
        have b0 := hY.fix.hi.2.1
        have mk := MK4.out
        clear hY hN e0
        go_wp2
        refine region_line [(0, true), (1, true), (2, true), (3, true), (4, true), (5, true), (6, true), (7, false), (8, true), (9, false)] (SeesN w nb bl al pg) (by kernel_rfl) (by kernel_rfl) (fun _ _ _ d _ h => by cases d <;> exact h) hS ?_
        repeat (refine line_read (a' := ?_) rfl (by kernel_rfl) (by kernel_rfl) hS (fun x hx K hK => ?_) ?_; rotate_left; · obtain ⟨hx1, hx2⟩ := hx; go_wp2; exact hK)
        refine line_act (by rfl) (fun K hK => ?_)
        go_wp2
        refine hK _ _ _ hS3 (fun x hx => hx) ?_
        clear hK K
        repeat (refine line_read (a' := ?_) rfl (by kernel_rfl) (by kernel_rfl) hS3 (fun x hx K hK => ?_) ?_; rotate_left; · obtain ⟨hx1, hx2⟩ := hx; go_wp2; exact hK)
        refine line_act (by rfl) (fun K hK => ?_)
        go_wp2
        refine hK _ _ _ hS2 (fun x hx => hx) ?_
        clear hK K
        refine line_end ?_
        go_wp2
        go_roundw
        case rel => exact ⟨k + 1, by omega, by go_num, HN.out⟩
        case measure => simp [intOf]; omega
      · obtain rfl : al = k := by omega
        have hN := hY.nand HP.out.1 HP.out.2.1 HP.out.2.2.1
        have hRo := mkS_roles hY.fix.ne hY.fix.lo hY.low HP.out.1.lt HP.out.2.1.lt HP.out.2.2.2.1 HP.out.2.2.2.2.1 HP.out.2.2.2.2.2.symm
        have hT := fun k (h : mkT nb bl bm be pb db R0 al k ≠ 0) => mkT_low hY.fix.lo (by have := hY.fix.lo; have := hY.low; omega) h
        have hEx := hY.fix.ext
        have hbm := hY.fix.lo.2.2.1
        have HR := Lib.hid (And.intro hRo hT)
        clear hY HY hRo hT
        go_wp2
        go_loopw [60] (fun t wr => ∃ k : Nat, k ≤ ms.length ∧ t = .int .i64 k ∧ NandAt wr (mkS c d b pg pb db al nb bl bm be R0) V zs (blankS (ms.take k) px off po N M) ∧ w.grownBy wr none ∧ (∀ j, j < k → 2 ≤ ms.getD j 0 ∧ ms.getD j 0 < al)) (fun t _ => ms.length - (intOf t).toNat)
        case atStart => exact ⟨0, Nat.zero_le _, rfl, by simpa using hN, hEx, fun j hj => by omega⟩
        case round =>
          clear hN hEx
          obtain ⟨k, hk, rfl, hN, hE, hO⟩ := hrel
          have HO := Lib.hid hO
          clear hO
          by_cases hlt2 : k < ms.length
          · obtain ⟨hao, hcell⟩ := HM.out k hlt2
            subst hao
            have hcell2 := hE.cell hcell (by simp)
            obtain ⟨q, hq⟩ : ∃ q, ms.getD k 0 = q := ⟨_, rfl⟩
            rw [hq] at hcell2
            have HQ := Lib.hid hq
            have HS := has_is hN.fix q
            have HN := Lib.hid (And.intro hN hE)
            have hhe : hasB (mkS c d b pg pb db al nb bl bm be R0) q = decide (0 ≤ q ∧ q < al) := rfl
            have hnn : (mkS c d b pg pb db al nb bl bm be R0).nb = nb := rfl
            rw [hhe, hnn] at HS
            have cm : wr.cell? ⟨nb, 7, none⟩ = some (.slice (some ⟨bm, 0, none⟩) al al) := hN.fix.cm
            have ck : ∀ i, i < al → wr.cell? ⟨bm, i, none⟩ = some (.bool (mrk (ms.take k) i)) := hN.mks
            have cf : ∀ o, wr.frozen? ⟨bm, o, none⟩ = false := hN.mkf
            by_cases hq1 : 0 ≤ q ∧ q < al
            · rw [decide_eq_true hq1] at HS
              obtain ⟨n, rfl⟩ : ∃ n : Nat, q = n := ⟨q.toNat, by omega⟩
              have hnl : n < al := by omega
              by_cases hq2 : (n : Int) < 2
              · have hbad : okM al ms = false := by
                  cases h : okM al ms
                  · rfl
                  · have := okM_at h hlt2; rw [HQ.out] at this; omega
                have HB := Lib.hid hbad
                have HX := Lib.hid hE
                clear hN hE hq hq1 hhe hnn cm ck cf hcell hbad
                go_wp2_with (go_at_call 71; refine HS.mono ?_; rintro e w' ⟨rfl, rfl⟩)
                refine bodyPost_ret (v := .tuple #[.pointer none, .int .i64 5]) (by simp [results, Tryz.results40, go_sem]) rfl (newP7_bad HB.out ⟨rfl, HX.out⟩)
              · have ck1 := ck n hnl
                have cf1 := cf n
                have hM := hN.mark HR.out.1 (i := n) hnl true
                have hX : w.grownBy (wr.setCell ⟨bm, n, none⟩ (.bool true)) none := grown_trans hE (gb_set (gb_refl wr (some bm)) n _) (fun z hz hl => by cases hz; omega)
                have hM2 : NandAt (wr.setCell ⟨bm, n, none⟩ (.bool true)) (mkS c d b pg pb db al nb bl bm be R0) V zs (blankS (ms.take (k + 1)) px off po N M) := by
                  have e := mrk_take hlt2 HQ.out (Int.natCast_nonneg n)
                  simp only [Int.toNat_natCast] at e
                  unfold blankS
                  rw [← e]
                  exact hM
                have HX := Lib.hid (And.intro hM2 hX)
                clear hN hE hq hq1 hhe hnn ck cf hcell hM hX hM2
                go_wp2_with (go_at_call 71; refine HS.mono ?_; rintro e w' ⟨rfl, rfl⟩)
                go_roundw
                case rel =>
                  refine ⟨k + 1, by omega, by go_num, HX.out.1, HX.out.2, fun j hj => ?_⟩
                  by_cases e : j = k
                  · subst e; rw [HQ.out]; omega
                  · exact HO.out j (by omega)
                case measure => simp [intOf]; omega
            · rw [decide_eq_false hq1] at HS
              have hbad : okM al ms = false := by
                cases h : okM al ms
                · rfl
                · have := okM_at h hlt2; rw [HQ.out] at this; omega
              have HB := Lib.hid hbad
              have HX := Lib.hid hE
              clear hN hE hq hq1 hhe hnn cm ck cf hcell hbad
              go_wp2_with (go_at_call 71; refine HS.mono ?_; rintro e w' ⟨rfl, rfl⟩)
              refine bodyPost_ret (v := .tuple #[.pointer none, .int .i64 5]) (by simp [results, Tryz.results40, go_sem]) rfl (newP7_bad HB.out ⟨rfl, HX.out⟩)
          · obtain rfl : ms.length = k := by omega
            have hok := okM_of HO.out
            have HK := Lib.hid hok
            have HX := Lib.hid (And.intro hN hE)
            clear hN hE hok
            go_wp2
            refine bodyPost_ret (v := .tuple #[.pointer (some ⟨nb, 0, none⟩), .int .i64 0]) (by simp [results, Tryz.results40, go_sem]) rfl (newP7_ok HK.out ⟨_, HR.out.1, ⟨rfl, rfl, rfl, rfl, rfl, rfl, rfl, rfl⟩, rfl, ?_, HX.out.2, HR.out.2⟩)
            have := HX.out.1
            rwa [List.take_length] at this

end Go.Proofs.YtfibpgfjlmlpaaaGreatDoor

/-
  Package nand: what operations come to when the power lasts and nothing fails.
-/
namespace Go.Proofs.YtfibpgfjlmlpaaaGreatDoor
set_option linter.unusedVariables false
set_option linter.unusedSimpArgs false
set_option linter.unusedVariables false
set_option linter.unusedSimpArgs false
set_option maxRecDepth 100000
open Go.RowKit

/-- No faults. -/
def noZs : Nat → List Int := fun _ => []
/-- The power lasts. -/
structure Calm (s : NS) (n : Int) : Prop where
  px : s.px = -1
  off : s.off = false
  cnt : Cnt s n

theorem Calm.mono {s : NS} {n m : Int} (h : Calm s n) (hm : n ≤ m) : Calm s m := by
  obtain ⟨h1, h2, h3, h4, h5⟩ := h.cnt
  exact ⟨h.px, h.off, ⟨by omega, fun j => by have := h2 j; omega, fun j => by have := h3 j; omega, fun j => by have := h4 j; omega, h5⟩⟩

theorem drawB_none (s : NS) (who : Int) : drawB noZs s who = false := by
  unfold drawB hitB noZs
  split <;> simp
theorem calm_spend {s : NS} {n : Int} (h : Calm s n) (zs : Nat → List Int) (who : Int) : Calm (drawS zs (spendS s) who) (n + 2) := by
  have hx : (spendS s).px = -1 := by simp only [spendS, h.px, h.off]; rfl
  have ho : (spendS s).off = false := by simp only [spendS, h.px, h.off]; rfl
  have hc := h.cnt.spend.draw zs who
  refine ⟨?_, ?_, by rw [show n + 2 = n + 1 + 1 by omega]; exact hc⟩
  · unfold drawS; split <;> exact hx
  · unfold drawS; split <;> exact ho
theorem calm_E {s : NS} {n : Int} (h : Calm s n) (who : Int) : operE noZs s who = 0 := by
  unfold operE
  rw [h.px, h.off, drawB_none, if_pos (by decide), if_neg (by decide)]
theorem calm_S {s : NS} {n : Int} (h : Calm s n) (who : Int) (sp dn : NS → NS) : operS noZs s who sp dn = dn (drawS noZs (spendS s) who) := by
  unfold operS
  rw [h.px, h.off, drawB_none, if_neg (by decide), if_neg (by decide), if_neg (by decide)]
theorem draw_mr (zs : Nat → List Int) (s : NS) (who : Int) : (drawS zs s who).mr = s.mr := by unfold drawS; split <;> rfl
theorem draw_er (zs : Nat → List Int) (s : NS) (who : Int) : (drawS zs s who).er = s.er := by unfold drawS; split <;> rfl

theorem calm_of {s s' : NS} {n : Int} (h : Calm s n) (h1 : s'.px = s.px) (h2 : s'.off = s.off) (h3 : s'.po = s.po) (h4 : s'.N = s.N) (h5 : s'.M = s.M) (h6 : ∀ i, 0 ≤ s'.er i ∧ s'.er i ≤ n) : Calm s' n := by
  obtain ⟨g1, g2, g3, g4, g5⟩ := h.cnt
  exact ⟨by rw [h1]; exact h.px, by rw [h2]; exact h.off, ⟨by rw [h3]; exact g1, by rw [h4]; exact g2, by rw [h5]; exact g3, h6, by rw [h1]; exact g5⟩⟩

/-- One page is another one. -/
def updL (L : Nat → Nat → Pg) (i j : Nat) (x : Pg) : Nat → Nat → Pg := fun i' => if i' = i then (fun j' => if j' = j then x else L i j') else L i'

section
variable {w : World} {S : NShape} {V : Nat → Value} {s : NS}

def progDone (i j : Nat) (x : Pg) (s : NS) (who : Int) : NS := turnPg i j x (drawS noZs (spendS s) who)
theorem progDone_L (i j : Nat) (x : Pg) (s : NS) (who : Int) : (progDone i j x s who).L = updL s.L i j x := by
  show (turnPg i j x (drawS noZs (spendS s) who)).L = _
  simp only [turnPg, draw_L, spend_L]
  rfl
theorem progDone_mr (i j : Nat) (x : Pg) (s : NS) (who : Int) : (progDone i j x s who).mr = s.mr := by
  show (drawS noZs (spendS s) who).mr = _
  rw [draw_mr]; rfl
theorem progDone_er (i j : Nat) (x : Pg) (s : NS) (who : Int) : (progDone i j x s who).er = s.er := by
  show (drawS noZs (spendS s) who).er = _
  rw [draw_er]; rfl
theorem progDone_calm {n : Int} (i j : Nat) (x : Pg) (who : Int) (h : Calm s n) : Calm (progDone i j x s who) (n + 2) :=
  calm_of (calm_spend h noZs who) rfl rfl rfl rfl rfl (calm_spend h noZs who).cnt.er

def eraseDone (i pg : Nat) (s : NS) (who : Int) : NS := eraseS i pg (drawS noZs (spendS s) who)
theorem eraseDone_L (i pg : Nat) (s : NS) (who : Int) : (eraseDone i pg s who).L = (fun i' => if i' = i then (fun j => if j < pg then Pg.none 0 else s.L i j) else s.L i') := by
  show (fillTo i pg 0 (drawS noZs (spendS s) who)).L = _
  simp only [fillTo, draw_L, spend_L]
theorem eraseDone_mr (i pg : Nat) (s : NS) (who : Int) : (eraseDone i pg s who).mr = s.mr := by
  show (drawS noZs (spendS s) who).mr = _
  rw [draw_mr]; rfl
theorem eraseDone_er (i pg : Nat) (s : NS) (who : Int) : (eraseDone i pg s who).er = fun i' => if i' = i then s.er i + 1 else s.er i' := by
  show (fun i' => if i' = i then (drawS noZs (spendS s) who).er i + 1 else (drawS noZs (spendS s) who).er i') = _
  rw [draw_er]; rfl
theorem eraseDone_calm {n : Int} (i pg : Nat) (who : Int) (h : Calm s n) : Calm (eraseDone i pg s who) (n + 3) := by
  have hc := (calm_spend h noZs who).mono (m := n + 3) (by omega)
  refine calm_of hc rfl rfl rfl rfl rfl (fun i' => ?_)
  rw [eraseDone_er]
  have h1 := h.cnt.er i
  have h2 := h.cnt.er i'
  simp only
  split <;> omega

/-- Written: the page was the next one. -/
theorem prog_good {n who : Int} {i j : Nat} {v : Value} {bs : List Int} {dt : ByteArray} (h : NandAt w S V noZs s) (hR : Roles S) (hc : Calm s n) (hn : n < 80000) (hi : i < S.all) (hj : j < S.pg) (hm : s.mr i = false) (hx : j = nextN (s.L i) S.pg)
    (hv : BtsA w v bs) (hq : 0 < bs.length → ∀ k, v.ownBlock = some k → S.T k = 0) (hl : bs.length ≤ 32) (hd : dt.size ≤ 160) :
    Calls Tryz.prog 170 #[.pointer (some ⟨S.nb, 0, none⟩), .int .i64 who, .int .i64 i, .int .i64 j, v, .string dt] w (Goes S V noZs (.int .i64 0) (progDone i j ⟨1, bs, dt⟩ s who) w) := by
  have P := program_any h hR hc.cnt (by omega) (fun _ _ => by simp [noZs]) who i j hv hq (by omega) (by omega) (dt := dt)
  have e0 : lackE S i j = 0 := by unfold lackE hasB; rw [if_pos (by simp; omega), if_pos (by omega)]
  have e1 : progE S noZs s who i j bs.length dt.size = 0 := by
    unfold progE
    rw [if_pos e0, if_neg (by omega), Int.toNat_natCast, hm, if_neg (by decide), ← hx, if_pos rfl, calm_E hc]
  have e2 : progS S noZs s who i j bs dt = progDone i j ⟨1, bs, dt⟩ s who := by
    unfold progS
    rw [Int.toNat_natCast, Int.toNat_natCast, if_pos ⟨e0, by omega, hm, by rw [← hx]⟩, calm_S hc]
    rfl
  rw [e1, e2] at P
  exact P
/-- Out of order. -/
theorem prog_order {n who : Int} {i j : Nat} {v : Value} {bs : List Int} {dt : ByteArray} (h : NandAt w S V noZs s) (hR : Roles S) (hc : Calm s n) (hn : n < 80000) (hi : i < S.all) (hj : j < S.pg) (hm : s.mr i = false) (hx : j ≠ nextN (s.L i) S.pg)
    (hv : BtsA w v bs) (hq : 0 < bs.length → ∀ k, v.ownBlock = some k → S.T k = 0) (hl : bs.length ≤ 32) (hd : dt.size ≤ 160) :
    Calls Tryz.prog 170 #[.pointer (some ⟨S.nb, 0, none⟩), .int .i64 who, .int .i64 i, .int .i64 j, v, .string dt] w (Goes S V noZs (.int .i64 9) s w) := by
  have P := program_any h hR hc.cnt (by omega) (fun _ _ => by simp [noZs]) who i j hv hq (by omega) (by omega) (dt := dt)
  have e0 : lackE S i j = 0 := by unfold lackE hasB; rw [if_pos (by simp; omega), if_pos (by omega)]
  have e1 : progE S noZs s who i j bs.length dt.size = 9 := by
    unfold progE
    rw [if_pos e0, if_neg (by omega), Int.toNat_natCast, hm, if_neg (by decide), if_neg (by omega)]
  have e2 : progS S noZs s who i j bs dt = s := by
    unfold progS
    rw [Int.toNat_natCast, if_neg (by rintro ⟨_, _, _, h⟩; omega)]
  rw [e1, e2] at P
  exact P

/-- Whatever is done elsewhere: block 0's pages and mark stand. -/
def Apart (S : NShape) (V : Nat → Value) (s : NS) (n : Int) (w : World) (e : Ending) (w' : World) : Prop :=
  ∃ v s', e = .returned v ∧ NandAt w' S V noZs s' ∧ Keeps S.T w w' ∧ Calm s' n ∧ s'.L 0 = s.L 0 ∧ s'.mr 0 = s.mr 0 ∧ ((∀ i j, (s.L i j).bs.length ≤ 32) → ∀ i j, (s'.L i j).bs.length ≤ 32)
theorem apart_of {v : Value} {s' : NS} {n : Int} {e : Ending} {w' : World} (h : Goes S V noZs v s' w e w') (hc : Calm s' n) (h1 : s'.L 0 = s.L 0) (h2 : s'.mr 0 = s.mr 0) (h3 : (∀ i j, (s.L i j).bs.length ≤ 32) → ∀ i j, (s'.L i j).bs.length ≤ 32) : Apart S V s n w e w' :=
  ⟨v, s', h.1, h.2.1, h.2.2, hc, h1, h2, h3⟩

theorem prog_apart {c who n m : Int} {v : Value} {bs : List Int} {dt : ByteArray} (h : NandAt w S V noZs s) (hR : Roles S) (hc : Calm s c) (hn : c < 70000) (h0 : n ≠ 0)
    (hv : BtsA w v bs) (hq : 0 < bs.length → ∀ k, v.ownBlock = some k → S.T k = 0) (hl : bs.length ≤ 9223372036854775807) (hd : dt.size ≤ 9223372036854775807) :
    Calls Tryz.prog 170 #[.pointer (some ⟨S.nb, 0, none⟩), .int .i64 who, .int .i64 n, .int .i64 m, v, .string dt] w (Apart S V s (c + 3) w) := by
  refine (program_any h hR hc.cnt (by omega) (fun _ _ => by simp [noZs]) who n m hv hq hl hd).mono fun e w' hg => ?_
  unfold progS at hg
  split at hg
  · rename_i h1
    obtain ⟨i, j, rfl, rfl, hi, hj⟩ := lackE_zero h1.1
    rw [calm_S hc, Int.toNat_natCast, Int.toNat_natCast] at hg
    have hg' : Goes S V noZs (.int .i64 _) (progDone i j ⟨1, bs, dt⟩ s who) w e w' := hg
    exact apart_of hg' ((progDone_calm i j _ who hc).mono (by omega)) (by rw [progDone_L]; unfold updL; rw [if_neg (by omega)]) (by rw [progDone_mr]) (fun hs i' j' => by
      rw [progDone_L]; unfold updL
      split
      · simp only; split
        · have := h1.2.1; simp only; omega
        · exact hs _ _
      · exact hs _ _)
  · exact apart_of hg (hc.mono (by omega)) rfl rfl (fun hs => hs)

theorem erase_apart {c who n : Int} (h : NandAt w S V noZs s) (hR : Roles S) (hc : Calm s c) (hn : c < 70000) (h0 : n ≠ 0) :
    Calls Tryz.prog 122 #[.pointer (some ⟨S.nb, 0, none⟩), .int .i64 who, .int .i64 n] w (Apart S V s (c + 3) w) := by
  refine (erase_any h hR hc.cnt (by omega) (fun _ _ => by simp [noZs]) who n).mono fun e w' hg => ?_
  unfold ersS at hg
  split at hg
  · rename_i h1
    simp only [Bool.and_eq_true, hasB, decide_eq_true_eq] at h1
    rw [calm_S hc] at hg
    have hg' : Goes S V noZs (.int .i64 _) (eraseDone n.toNat S.pg s who) w e w' := hg
    exact apart_of hg' (eraseDone_calm _ _ who hc) (by rw [eraseDone_L]; simp only; rw [if_neg (by omega)]) (by rw [eraseDone_mr]) (fun hs i' j' => by
      rw [eraseDone_L]; simp only
      split
      · simp only; split
        · simp [Pg.none]
        · exact hs _ _
      · exact hs _ _)
  · exact apart_of hg (hc.mono (by omega)) rfl rfl (fun hs => hs)

theorem mark_apart {c n : Int} (h : NandAt w S V noZs s) (hR : Roles S) (hc : Calm s c) (hn : c < 70000) :
    Calls Tryz.prog 148 #[.pointer (some ⟨S.nb, 0, none⟩), .int .i64 n] w (Apart S V s (c + 3) w) := by
  have hsp : Calm (spendS s) (c + 3) := ⟨by simp only [spendS, hc.px, hc.off]; rfl, by simp only [spendS, hc.px, hc.off]; rfl, (Calm.mono ⟨by simp only [spendS, hc.px, hc.off]; rfl, by simp only [spendS, hc.px, hc.off]; rfl, hc.cnt.spend⟩ (m := c + 3) (by omega)).cnt⟩
  refine (mark_any h hR hc.cnt (by omega) n).mono fun e w' hg => ?_
  unfold markS at hg
  split at hg
  · rename_i h1
    simp only [Bool.and_eq_true, hasB, decide_eq_true_eq] at h1
    split at hg
    · exact apart_of hg (calm_of hsp rfl rfl rfl rfl rfl hsp.cnt.er) rfl (by simp only; rw [if_neg (by omega)]) (fun hs => hs)
    · exact apart_of hg hsp rfl rfl (fun hs => hs)
  · exact apart_of hg (hc.mono (by omega)) rfl rfl (fun hs => hs)
end

end Go.Proofs.YtfibpgfjlmlpaaaGreatDoor

/-
  Layer 7's law: made, few.
-/
namespace Go.Proofs.YtfibpgfjlmlpaaaGreatDoor
set_option linter.unusedVariables false
set_option linter.unusedSimpArgs false
set_option linter.unusedVariables false
set_option linter.unusedSimpArgs false
set_option maxRecDepth 100000
open Go.RowKit

theorem new7_geo (pb db : Nat) (c d b p : Int) (v : Value) (w : World) (hg : geoE c d b p ≠ 0) :
    Calls Tryz.prog 40 #[four c d b p, .pointer (some ⟨pb, 0, none⟩), .pointer (some ⟨db, 0, none⟩), v] w fun e w' => e = .returned (.tuple #[.pointer none, .int .i64 (geoE c d b p)]) ∧ w.grownBy w' none := by
  have C := check_any c d b p
  have hg' : (geoE c d b p != 0) = true := by simpa using hg
  generalize geoE c d b p = x at *
  clear hg
  unfold four fourObj at *
  go_enter Tryz.func40, Tryz.ntmps40
  go_wp2_with (go_at_call 69; refine (C _).mono ?_; rintro e w' ⟨rfl, rfl⟩)
  refine bodyPost_ret (v := .tuple #[.pointer none, .int .i64 x]) (by simp [results, Tryz.results40, go_sem]) rfl ⟨rfl, grown_alloc (World.grownBy_alloc w _ none) _⟩

/-- Draws without faults. -/
def NoDraws (w : World) (e : Ending) (w' : World) : Prop :=
  ∃ b V, e = .returned (.tuple #[.pointer (some ⟨b, 0, none⟩), .int .i64 0]) ∧ DrAt w' b V noZs (fun _ => 0) (fun _ => 0) ∧ w.grownBy w' none ∧ w.heap.size ≤ b ∧ ∀ j, j < 4 → ∀ k, (V j).ownBlock = some k → w.heap.size ≤ k ∧ k < w'.heap.size
theorem newD_none (w : World) : Calls Tryz.prog 39 #[.agg #[.slice none 0 0, .slice none 0 0, .slice none 0 0, .slice none 0 0]] w (NoDraws w) := by
  have hF : Four w (fun _ => .slice none 0 0) noZs := ⟨fun _ _ => .inl ⟨rfl, rfl⟩, fun _ _ => by simp [noZs], fun _ _ k hk => by simp [Value.ownBlock] at hk⟩
  have h0 : newE noZs = 0 := by decide
  refine (new_any (fun _ => .slice none 0 0) noZs w hF).mono fun e w' hp => ?_
  rcases hp with ⟨h', _⟩ | ⟨_, r⟩
  · exact absurd h0 h'
  · exact r

/-- An array, with all power, without faults. -/
def MadeP (c d b : Int) (pg al : Nat) (ms : List Int) (w : World) (e : Ending) (w' : World) : Prop :=
  ∃ (S : NShape) (V : Nat → Value), Roles S ∧ (S.c = c ∧ S.d = d ∧ S.b = b ∧ S.p = pg ∧ S.all = al ∧ S.pg = pg) ∧ e = .returned (.tuple #[.pointer (some ⟨S.nb, 0, none⟩), .pointer (some ⟨S.pb, 0, none⟩), .int .i64 0]) ∧
    NandAt w' S V noZs (blankS ms (-1) false 0 (fun _ => 0) (fun _ => 0)) ∧ w.grownBy w' none ∧ ∀ k, S.T k ≠ 0 → w.heap.size ≤ k

def NewPow (n : Int) (w : World) (e : Ending) (w' : World) : Prop := ∃ pb, e = .returned (.pointer (some ⟨pb, 0, none⟩)) ∧ PowAt w' pb n false 0 ∧ w.grownBy w' none ∧ w.heap.size ≤ pb
theorem newPow_is (n : Int) (w : World) : Calls Tryz.prog 37 #[.int .i64 n] w (NewPow n w) :=
  (new_is n w).mono fun _ _ ⟨he, hp, hg⟩ => ⟨_, he, hp, hg, Nat.le_refl _⟩

/-- The boxes of a geometry and of no faults. -/
structure BoxM (w : World) (c d b p : Int) (x : World) : Prop where
  g0 : x.cell? ⟨w.heap.size, 0, none⟩ = some (.int .i64 c)
  g1 : x.cell? ⟨w.heap.size, 1, none⟩ = some (.int .i64 d)
  g2 : x.cell? ⟨w.heap.size, 2, none⟩ = some (.int .i64 b)
  g3 : x.cell? ⟨w.heap.size, 3, none⟩ = some (.int .i64 p)
  f0 : x.cell? ⟨w.heap.size + 1, 0, none⟩ = some (.slice none 0 0)
  f1 : x.cell? ⟨w.heap.size + 1, 1, none⟩ = some (.slice none 0 0)
  f2 : x.cell? ⟨w.heap.size + 1, 2, none⟩ = some (.slice none 0 0)
  f3 : x.cell? ⟨w.heap.size + 1, 3, none⟩ = some (.slice none 0 0)
theorem BoxM.ext {w : World} {c d b p : Int} {x y : World} (h : BoxM w c d b p x) (hg : x.grownBy y none) : BoxM w c d b p y :=
  ⟨hg.cell h.g0 (by simp), hg.cell h.g1 (by simp), hg.cell h.g2 (by simp), hg.cell h.g3 (by simp), hg.cell h.f0 (by simp), hg.cell h.f1 (by simp), hg.cell h.f2 (by simp), hg.cell h.f3 (by simp)⟩
theorem boxM (w : World) (c d b p : Int) (T U : TypeId) : BoxM w c d b p ((w.alloc (fourObj c d b p T)).alloc (.cells #[.slice none 0 0, .slice none 0 0, .slice none 0 0, .slice none 0 0] U)) := by
  have e0 : ∀ o, ((w.alloc (fourObj c d b p T)).alloc (.cells #[.slice none 0 0, .slice none 0 0, .slice none 0 0, .slice none 0 0] U)).cell? ⟨w.heap.size, o, none⟩ = (#[.int .i64 c, .int .i64 d, .int .i64 b, .int .i64 p] : Array Value)[o]? := fun o => by
    rw [World.cell?_alloc_past _ _ _ (by simp), fourObj, World.cell?_alloc_at _ _ _ _ rfl]
  have e1 : ∀ o, ((w.alloc (fourObj c d b p T)).alloc (.cells #[.slice none 0 0, .slice none 0 0, .slice none 0 0, .slice none 0 0] U)).cell? ⟨w.heap.size + 1, o, none⟩ = (#[.slice none 0 0, .slice none 0 0, .slice none 0 0, .slice none 0 0] : Array Value)[o]? := fun o => by
    rw [World.cell?_alloc_at _ _ _ _ (by simp)]
  exact ⟨e0 0, e0 1, e0 2, e0 3, e1 0, e1 1, e1 2, e1 3⟩

end Go.Proofs.YtfibpgfjlmlpaaaGreatDoor

/-
  Layer 7's law: fixed.
-/
namespace Go.Proofs.YtfibpgfjlmlpaaaGreatDoor
set_option linter.unusedVariables false
set_option linter.unusedSimpArgs false
set_option linter.unusedVariables false
set_option linter.unusedSimpArgs false
set_option maxRecDepth 100000
open Go.RowKit

theorem convert7 {w : World} {v : Value} {xs : List Int} {s : ByteArray} (h : Bts w v xs) (hs : strOfNums xs = s) : (convert 54 9 v).run Tryz.prog w = .ok (.string s) w := by
  subst hs
  rcases h with ⟨rfl, rfl⟩ | ⟨b, off, cap, rfl, h2, h3⟩
  · exact run_convert_bytes_nil w 54 5 Tryz.underlying54 Tryz.underlying5 0 0 9 Tryz.underlying9
  · exact run_convert_bytes_arg w 54 5 Tryz.underlying54 Tryz.underlying5 b off xs.length cap xs rfl h3 9 Tryz.underlying9

section
variable {w : World} {S : NShape} {V : Nat → Value} {zs : Nat → List Int} {s : NS}

theorem read_good (h : NandAt w S V zs s) (hR : Roles S) {i j : Nat} (hi : i < S.all) (hj : j < S.pg) (ho : s.off = false) (hbs : ∀ i j, (s.L i j).bs.length ≤ 140737488351232) {bs : List Int} {dt : ByteArray} (hx : s.L i j = ⟨1, bs, dt⟩) :
    Calls Tryz.prog 123 #[.pointer (some ⟨S.nb, 0, none⟩), .int .i64 i, .int .i64 j] w (ReadsPg bs dt w) := by
  have e0 : lackE S i j = 0 := by unfold lackE hasB; rw [if_pos (by simp; omega), if_pos (by omega)]
  have e1 : readE S s i j = 0 := by unfold readE; rw [if_pos e0, ho, Int.toNat_natCast, Int.toNat_natCast, hx]; rfl
  refine (read7_any h hR i j hbs).mono fun e w' hr => ?_
  rcases hr with ⟨h1, _⟩ | ⟨_, h2⟩
  · exact absurd e1 h1
  · rw [Int.toNat_natCast, Int.toNat_natCast, hx] at h2; exact h2
theorem read_blank (h : NandAt w S V zs s) (hR : Roles S) {i j : Nat} (hi : i < S.all) (hj : j < S.pg) (ho : s.off = false) (hbs : ∀ i j, (s.L i j).bs.length ≤ 140737488351232) (hx : (s.L i j).st = 0) :
    Calls Tryz.prog 123 #[.pointer (some ⟨S.nb, 0, none⟩), .int .i64 i, .int .i64 j] w (ReadsNot 6 w) := by
  have e0 : lackE S i j = 0 := by unfold lackE hasB; rw [if_pos (by simp; omega), if_pos (by omega)]
  have e1 : readE S s i j = 6 := by unfold readE; rw [if_pos e0, ho, Int.toNat_natCast, Int.toNat_natCast, hx]; rfl
  refine (read7_any h hR i j hbs).mono fun e w' hr => ?_
  rcases hr with ⟨_, h2⟩ | ⟨h1, _⟩
  · rw [e1] at h2; exact h2
  · rw [e1] at h1; cases h1
theorem erase_good {n who : Int} {i : Nat} (h : NandAt w S V noZs s) (hR : Roles S) (hc : Calm s n) (hn : n < 80000) (hi : i < S.all) (hm : s.mr i = false) :
    Calls Tryz.prog 122 #[.pointer (some ⟨S.nb, 0, none⟩), .int .i64 who, .int .i64 i] w (Goes S V noZs (.int .i64 0) (eraseDone i S.pg s who) w) := by
  have P := erase_any h hR hc.cnt (by omega) (fun _ _ => by simp [noZs]) who i
  have e0 : hasB S i = true := by unfold hasB; simp; omega
  have e1 : ersE S noZs s who i = 0 := by unfold ersE; rw [e0, if_pos rfl, Int.toNat_natCast, hm, if_neg (by decide), calm_E hc]
  have e2 : ersS S noZs s who i = eraseDone i S.pg s who := by unfold ersS; rw [e0, Int.toNat_natCast, hm, if_pos (by decide), calm_S hc]; rfl
  rw [e1, e2] at P
  exact P
theorem erase_marked {n who : Int} {i : Nat} (h : NandAt w S V noZs s) (hR : Roles S) (hc : Calm s n) (hn : n < 80000) (hi : i < S.all) (hm : s.mr i = true) :
    Calls Tryz.prog 122 #[.pointer (some ⟨S.nb, 0, none⟩), .int .i64 who, .int .i64 i] w (Goes S V noZs (.int .i64 10) s w) := by
  have P := erase_any h hR hc.cnt (by omega) (fun _ _ => by simp [noZs]) who i
  have e0 : hasB S i = true := by unfold hasB; simp; omega
  have e1 : ersE S noZs s who i = 10 := by unfold ersE; rw [e0, if_pos rfl, Int.toNat_natCast, hm, if_pos rfl]
  have e2 : ersS S noZs s who i = s := by unfold ersS; rw [e0, Int.toNat_natCast, hm, if_neg (by decide)]
  rw [e1, e2] at P
  exact P
end

theorem nextN_blank : ∀ n : Nat, nextN (fun _ => Pg.none 0) n = 0
  | 0 => rfl
  | n + 1 => by unfold nextN; rw [if_pos (show (Pg.none 0).st = 0 from rfl)]; exact nextN_blank n
theorem blank_calm (ms : List Int) : Calm (blankS ms (-1) false 0 (fun _ => 0) (fun _ => 0)) 0 :=
  ⟨rfl, rfl, ⟨⟨Int.le_refl _, Int.le_refl _⟩, fun _ => ⟨Int.le_refl _, Int.le_refl _⟩, fun _ => ⟨Int.le_refl _, Int.le_refl _⟩, fun _ => ⟨Int.le_refl _, Int.le_refl _⟩, by show -9223372036854775808 ≤ (-1 : Int) ∧ (-1 : Int) ≤ 9223372036854775807; omega⟩⟩

def fS0 : NS := blankS [3] (-1) false 0 (fun _ => 0) (fun _ => 0)
def fS1 : NS := progDone 2 0 ⟨1, [116], ⟨#[120]⟩⟩ fS0 0
def fS2 : NS := eraseDone 2 2 fS1 0
theorem fC0 : Calm fS0 0 := blank_calm _
theorem fC1 : Calm fS1 2 := progDone_calm _ _ _ _ fC0
theorem fC2 : Calm fS2 5 := eraseDone_calm _ _ _ fC1
theorem fL1 : fS1.L = updL (fun _ _ => Pg.none 0) 2 0 ⟨1, [116], ⟨#[120]⟩⟩ := progDone_L _ _ _ _ _
theorem fL1_bs (i j : Nat) : (fS1.L i j).bs.length ≤ 140737488351232 := by
  rw [fL1]; unfold updL
  split
  · simp only; split <;> simp [Pg.none]
  · simp [Pg.none]
theorem fL2 (i j : Nat) : (fS2.L i j).bs.length ≤ 140737488351232 := by
  unfold fS2
  rw [eraseDone_L]
  simp only
  split
  · simp only
    split
    · simp [Pg.none]
    · exact fL1_bs _ _
  · exact fL1_bs _ _

theorem one_ints (x : World) (n : Int) (T : TypeId) : Ints (x.alloc (.cells #[.int .i64 n] T)) (.slice (some ⟨x.heap.size, 0, none⟩) 1 1) [n] := by
  refine .inr (.inl ⟨_, 0, 1, rfl, Nat.le_refl _, fun i hi => ?_⟩)
  have : i = 0 := by simp at hi; omega
  subst this
  rw [Nat.zero_add, World.cell?_alloc_at _ _ _ _ rfl]
  rfl
theorem one_btsA {x : World} {g : Nat} {n : Int} (h : x.cell? ⟨g, 0, none⟩ = some (.int .u8 n)) : BtsA x (.slice (some ⟨g, 0, none⟩) 1 1) [n] := by
  refine .inr ⟨_, 1, rfl, Nat.le_refl _, fun i hi => ?_⟩
  have : i = 0 := by simp at hi; omega
  subst this
  rw [addr_add]
  exact h

def TrueB7 (w : World) (e : Ending) (w' : World) : Prop := e = .returned (.bool true) ∧ w.grownBy w' none

theorem Keeps.grown {T : Nat → Nat} {w0 w w' : World} (h : w0.grownBy w none) (hk : Keeps T w w') (hT : ∀ k, T k ≠ 0 → w0.heap.size ≤ k) : w0.grownBy w' none :=
  ⟨hk.os.trans h.os, hk.tape.trans h.tape, hk.output.trans h.output, Nat.le_trans h.size hk.size, fun k hk2 _ => (hk.block k (Nat.lt_of_lt_of_le hk2 h.size) (Classical.byContradiction fun hne => by have := hT k hne; omega)).trans (h.block k hk2 (by simp))⟩

end Go.Proofs.YtfibpgfjlmlpaaaGreatDoor

/-
  word.Put: any number's bytes behind any others.
-/
namespace Go.Proofs.YtfibpgfjlmlpaaaGreatDoor
set_option linter.unusedVariables false
set_option linter.unusedSimpArgs false
set_option linter.unusedVariables false
set_option linter.unusedSimpArgs false
set_option maxRecDepth 100000
open Go.RowKit

def leB (v : Int) (n : Nat) : List Int := (List.range n).map fun k => v / 256 ^ k % 256
theorem leB_succ (v : Int) (n : Nat) : leB v (n + 1) = leB v n ++ [v / 256 ^ n % 256] := by simp [leB, List.range_succ]
theorem leB_len (v : Int) (n : Nat) : (leB v n).length = n := by simp [leB]
theorem p256 (k : Nat) : (0 : Int) < 256 ^ k := Int.pow_pos (by decide)
def putL (xs : List Int) (v n : Int) : List Int := if fitsB v n then xs ++ leB v n.toNat else xs

theorem Bts.le {w : World} {ao : Option Addr} {n cap : Nat} {xs : List Int} (h : Bts w (.slice ao n cap) xs) : n = xs.length ∧ xs.length ≤ cap := by
  rcases h with ⟨h1, h2⟩ | ⟨b, off, c, h1, h2, _⟩
  · simp at h1
    simp [h2, h1]
  · simp at h1
    exact ⟨h1.2.1, by omega⟩

def PutRel (w : World) (ao : Option Addr) (xs : List Int) (v : Int) (k : Nat) (o : Value) (wr : World) : Prop :=
  (k = 0 ∧ o = .slice ao xs.length xs.length ∧ wr = w) ∨
  (0 < k ∧ wr.ownsRow w.heap.size 5 1 o (xs.length + k) ((xs ++ leB v k).map (Value.int .u8)) ∧ w.grownBy wr none)

set_option maxHeartbeats 400000 in
theorem put_fits (ao : Option Addr) (cap : Nat) (xs : List Int) (v : Int) (n : Nat) (w : World) (hb : Bts w (.slice ao xs.length cap) xs) (hm : xs.length ≤ 140737488350000) (hf : fitsB v n = true) :
    Calls Tryz.prog 196 #[.slice ao xs.length cap, .int .i64 v, .int .i64 n] w (Made w.heap.size w (xs ++ leB v n)) := by
  have hv0 : 0 ≤ v ∧ v ≤ 9223372036854775807 := by simp [fitsB] at hf; omega
  have hn4 : n = 1 ∨ n = 2 ∨ n = 4 := by simp [fitsB] at hf; omega
  have hcap := hb.le.2
  obtain ⟨i0, hi, hz0, hz1, hz2⟩ := info_parts Tryz.infoU8
  have hadd : (if xs.length = 0 then ao else Option.map (fun x : Addr => x.add 0) ao) = ao := by
    split
    · rfl
    · cases ao <;> simp [Addr.add]
  go_enter Tryz.func196, Tryz.ntmps196
  go_wp2_with (go_at_call 212; refine (fits_any _ _ _ (by omega)).mono ?_; rintro e w' ⟨rfl, rfl⟩)
  go_loopw [1, 7, 21] (fun a o i wr => ∃ k : Nat, k ≤ n ∧ i = .int .i64 k ∧ a = .int .i64 (v / 256 ^ k) ∧ PutRel w ao xs v k o wr) (fun _ _ i _ => n - (intOf i).toNat)
  case atStart => exact ⟨0, Nat.zero_le _, rfl, by simp, .inl ⟨rfl, rfl, rfl⟩⟩
  case round =>
    obtain ⟨k, hk, rfl, rfl, hrel⟩ := hrel
    have hpos : 0 ≤ v / 256 ^ k := Int.ediv_nonneg hv0.1 (Int.le_of_lt (p256 k))
    by_cases hlt : k < n
    · rcases hrel with ⟨rfl, rfl, rfl⟩ | ⟨h0, hown, hgr⟩
      · go_wp2_with (at_builtin; refine wpList_append_grows _ rfl _ _ 54 rfl 5 i0 (.int .u8 0) 1 1 Tryz.underlying54 hi hz0 hz1 hz2 rfl (by decide) ao xs.length xs.length (xs.map (Value.int .u8)) rfl ?h1 ?h2 ?h3 ⟨wr.heap.size, 0, none⟩ 1 1 [.int .u8 (v % 256)] rfl rfl ?c1 ?c2 ?c3 ?c4 ?c5 ?_)
        case h1 => intro e; rw [e] at hb; have := hb.nil; simp [this]
        case h2 => simp
        case h3 => intro a ha j u hj; subst ha; exact cell_past (hb.cells j u hj) _
        case c1 => exact bytes_new _ _ _
        case c2 => intro u hu; simp at hu; subst hu; rfl
        case c3 => omega
        case c4 => unfold maxLen; omega
        case c5 => omega
        intro v' w1 hown1 hgr1
        go_wp2
        go_roundw
        case rel => exact ⟨1, by omega, by go_num, by simp, .inr ⟨by omega, by simpa [leB_succ, leB] using ownsRow_le hown1 (by simp), grown_trans (World.grownBy_alloc _ _ none) hgr1 (fun k hk => by cases hk)⟩⟩
        case measure => simp [intOf]; omega
      · go_wp2_with (at_builtin; refine wpList_append_own _ rfl _ _ 54 rfl w.heap.size 5 i0 (.int .u8 0) 1 1 Tryz.underlying54 hi hz0 hz1 hz2 rfl (by decide) _ _ _ rfl (hown.alloc _) ⟨wr.heap.size, 0, none⟩ 1 1 [.int .u8 (v / 256 ^ k % 256)] rfl rfl ?d1 ?d2 ?d3 ?d4 ?d5 ?_)
        case d1 => exact bytes_new _ _ _
        case d2 => intro u hu; simp at hu; subst hu; rfl
        case d3 => unfold maxLen; omega
        case d4 => omega
        case d5 => have := hgr.size; simp; omega
        intro v' w1 hown1 hgr1 _
        have e : v / 256 ^ k / 256 = v / 256 ^ (k + 1) := by rw [Int.ediv_ediv_of_nonneg (Int.le_of_lt (p256 k)), ← Int.pow_succ]
        have hlt' := hown.lt
        go_wp2
        go_roundw
        case rel =>
          refine ⟨k + 1, by omega, by go_num, ?_, .inr ⟨by omega, ?_, ?_⟩⟩
          · rw [← e]
          · simpa [leB_succ, Nat.add_assoc] using hown1
          · exact grown_trans (grown_trans hgr (World.grownBy_alloc _ _ none) (fun k hk => by cases hk)) hgr1 (fun k hk h => by have := hlt' k hk; omega)
        case measure => simp [intOf]; omega
    · have hkn : k = n := by omega
      subst hkn
      go_wp2
      go_ret
      rcases hrel with ⟨h0, _, _⟩ | ⟨h0, hown, hgr⟩
      · omega
      · exact ⟨_, rfl, by simpa [leB_len] using hown, hgr⟩

/-- Whatever is put: the bytes, and these behind; in new memory. -/
theorem put_any (v0 : Value) (xs : List Int) (v n : Int) (w : World) (hb : Bts w v0 xs) (hm : xs.length ≤ 140737488350000) (hv9 : v ≤ 9223372036854775807) :
    Calls Tryz.prog 196 #[v0, .int .i64 v, .int .i64 n] w (Made w.heap.size w (putL xs v n)) := by
  by_cases hf : fitsB v n = true
  · have hn : n = (n.toNat : Int) := by simp [fitsB] at hf; omega
    have hp : putL xs v n = xs ++ leB v n.toNat := by simp [putL, hf]
    rw [hp]
    rw [hn] at hf ⊢
    rcases hb with ⟨rfl, rfl⟩ | ⟨b, off, cap, rfl, h2, h3⟩
    · exact put_fits none 0 [] v n.toNat w (.inl ⟨rfl, rfl⟩) hm hf
    · exact put_fits (some ⟨b, off, none⟩) cap xs v n.toNat w (.inr ⟨b, off, cap, rfl, h2, h3⟩) hm hf
  · have hf' : fitsB v n = false := by simpa using hf
    have hp : putL xs v n = xs := by simp [putL, hf']
    rw [hp]
    rcases hb with ⟨rfl, rfl⟩ | ⟨b, off, cap, rfl, h2, h3⟩
    · go_enter Tryz.func196, Tryz.ntmps196
      go_wp2_with (first | (go_at_call 212; refine (fits_any _ _ _ (by omega)).mono ?_; rintro e w' ⟨rfl, rfl⟩) | (go_at_call 155; refine (clone_nil _).mono ?_; rintro e w' ⟨rfl, rfl⟩))
      go_ret
      exact ⟨_, rfl, World.ownsRow_nil _ _ _ _, World.grownBy.refl _ _⟩
    · go_enter Tryz.func196, Tryz.ntmps196
      go_wp2_with (first | (go_at_call 212; refine (fits_any _ _ _ (by omega)).mono ?_; rintro e w' ⟨rfl, rfl⟩) | (go_at_call 155; refine (clone_some b off cap xs _ h3 (by omega)).mono ?_; rintro e w1 ⟨v', rfl, hown, hgr⟩))
      go_ret
      exact ⟨_, rfl, hown, hgr⟩

end Go.Proofs.YtfibpgfjlmlpaaaGreatDoor

/-
  word.Text, and the document's own Put and Text: the same bytes.
-/
namespace Go.Proofs.YtfibpgfjlmlpaaaGreatDoor
set_option linter.unusedVariables false
set_option linter.unusedSimpArgs false
set_option linter.unusedVariables false
set_option linter.unusedSimpArgs false
set_option maxRecDepth 100000
open Go.RowKit

/-- A string's bytes as numbers. -/
def byt (s : ByteArray) : List Int := s.data.toList.map fun b => (b.toNat : Int)
theorem byt_len (s : ByteArray) : (byt s).length = s.size := by simp [byt]
theorem strCells_byt (s : ByteArray) : Lib.strCells s = (byt s).map (Value.int .u8) := by simp [Lib.strCells, byt]

theorem row_cells (w : World) (s : ByteArray) (c : Nat) (T : TypeId) (m : Nat × Nat) : ∀ j u, ((byt s).map (Value.int .u8))[j]? = some u → ((w.alloc (.cells (bytesRow s c) T m)).drew).cell? ((⟨w.heap.size, 0, none⟩ : Addr).add j) = some u := by
  intro j u hj
  rw [addr_add, Nat.zero_add]
  show (w.alloc _).cell? _ = _
  rw [World.cell?_alloc_mark]
  have hlt : j < s.data.size := by
    have := (List.getElem?_eq_some_iff.1 hj).1
    simpa [byt] using this
  simp [byt] at hj
  obtain ⟨a, ha, rfl⟩ := hj
  rw [Array.getElem?_eq_getElem hlt] at ha
  simp at ha
  subst ha
  have hlt' : j < s.size := hlt
  simp [bytesRow, hlt', Array.getElem?_append]

def textL (xs : List Int) (s : ByteArray) : List Int := if s.size ≤ 65535 then xs ++ leB s.size 2 ++ byt s else xs

set_option maxHeartbeats 400000 in
theorem text_any (v0 : Value) (xs : List Int) (s : ByteArray) (w : World) (hb : Bts w v0 xs) (hm : xs.length ≤ 140737488200000) (hs9 : s.size ≤ 9223372036854775807) :
    Calls Tryz.prog 213 #[v0, .string s] w (Made w.heap.size w (textL xs s)) := by
  obtain ⟨i0, hi, hz0, hz1, hz2⟩ := info_parts Tryz.infoU8
  by_cases hf : s.size ≤ 65535
  · have ht : textL xs s = xs ++ leB s.size 2 ++ byt s := by simp [textL, hf]
    have hft : fitsB s.size 2 = true := by simp [fitsB]; omega
    have hp : putL xs s.size 2 = xs ++ leB s.size 2 := by simp [putL, hft]
    rw [ht]
    have HP := Lib.hid hp
    clear hp ht
    go_enter Tryz.func213, Tryz.ntmps213
    go_wp2_with (first | (go_at_call 212; refine (fits_any _ _ _ (by omega)).mono ?_; rintro e w' ⟨rfl, rfl⟩) | (go_at_call 196; refine (put_any v0 xs _ _ _ hb (by omega) (by omega)).mono ?_; rintro e w1 ⟨v1, rfl, hown, hgr⟩) | (at_builtin; refine Lib.wpList_append_own_string _ rfl _ _ 54 9 rfl w.heap.size 5 i0 Tryz.underlying54 Tryz.underlying9 hi hz0 hz1 hz2 _ _ _ rfl hown s rfl ?c1 ?c2 ?c3 ?_))
    case c1 => rw [HP.out]; simp [leB_len]; unfold maxLen; omega
    case c2 => rw [HP.out]; simp [leB_len]; omega
    case c3 => exact hgr.size
    intro v' w2 hown2 hgr2 _
    have hlt := hown.lt
    go_wp2
    go_ret
    refine ⟨v', rfl, ?_, grown_trans hgr hgr2 (fun k hk h => by have := hlt k hk; omega)⟩
    rw [HP.out, strCells_byt, ← List.map_append] at hown2
    simpa [byt_len, Nat.add_assoc] using hown2
  · have ht : textL xs s = xs := by simp [textL, hf]
    have hft : fitsB s.size 2 = false := by simp [fitsB]; omega
    rw [ht]
    clear ht
    rcases hb with ⟨rfl, rfl⟩ | ⟨b, off, cap, rfl, h2, h3⟩
    · go_enter Tryz.func213, Tryz.ntmps213
      go_wp2_with (first | (go_at_call 212; refine (fits_any _ _ _ (by omega)).mono ?_; rintro e w' ⟨rfl, rfl⟩) | (go_at_call 155; refine (clone_nil _).mono ?_; rintro e w' ⟨rfl, rfl⟩))
      go_ret
      exact ⟨_, rfl, World.ownsRow_nil _ _ _ _, World.grownBy.refl _ _⟩
    · go_enter Tryz.func213, Tryz.ntmps213
      go_wp2_with (first | (go_at_call 212; refine (fits_any _ _ _ (by omega)).mono ?_; rintro e w' ⟨rfl, rfl⟩) | (go_at_call 155; refine (clone_some b off cap xs _ h3 (by omega)).mono ?_; rintro e w1 ⟨v', rfl, hown, hgr⟩))
      go_ret
      exact ⟨_, rfl, hown, hgr⟩

end Go.Proofs.YtfibpgfjlmlpaaaGreatDoor

/-
  The document's own Put and Text (layer 1): the same bytes as word's.
-/
namespace Go.Proofs.YtfibpgfjlmlpaaaGreatDoor
set_option linter.unusedVariables false
set_option linter.unusedSimpArgs false
set_option linter.unusedVariables false
set_option linter.unusedSimpArgs false
set_option maxRecDepth 100000
open Go.RowKit

theorem owns_copy {w : World} : (w.alloc (.cells #[] 5)).ownsRow w.heap.size 5 1 (.slice (some ⟨w.heap.size, 0, none⟩) 0 0) 0 [] :=
  World.ownsRow_made (base := w.heap.size) (e := 5) (size := 1) w #[] 0 (Nat.le_refl _) (Nat.zero_le _) rfl

theorem put_step {w wr w1 : World} {xs : List Int} {v : Int} {k : Nat} {o v' : Value} (o1 : Obj) (hgr : w.grownBy wr none) (hown : wr.ownsRow w.heap.size 5 1 o (xs.length + k) ((xs ++ leB v k).map (Value.int .u8)))
    (hown1 : w1.ownsRow w.heap.size 5 1 v' (xs.length + k + 1) (xs.map (Value.int .u8) ++ ((leB v k).map (Value.int .u8) ++ [Value.int .u8 (v / 256 ^ k % 256)]))) (hgr1 : (wr.alloc o1).grownBy w1 o.ownBlock) :
    w1.ownsRow w.heap.size 5 1 v' (xs.length + (k + 1)) ((xs ++ leB v (k + 1)).map (Value.int .u8)) ∧ w.grownBy w1 none :=
  ⟨by simpa [leB_succ, Nat.add_assoc] using hown1, grown_trans (grown_trans hgr (World.grownBy_alloc _ _ none) (fun k hk => by cases hk)) hgr1 (fun k hk h => by have := hown.lt k hk; omega)⟩

theorem div_step {v : Int} (k : Nat) : v / 256 ^ k / 256 = v / 256 ^ (k + 1) := by rw [Int.ediv_ediv_of_nonneg (Int.le_of_lt (p256 k)), ← Int.pow_succ]

end Go.Proofs.YtfibpgfjlmlpaaaGreatDoor

/-
  The document's own Text (layer 1): the same bytes as word's.
-/
namespace Go.Proofs.YtfibpgfjlmlpaaaGreatDoor
set_option linter.unusedVariables false
set_option linter.unusedSimpArgs false
set_option linter.unusedVariables false
set_option linter.unusedSimpArgs false
set_option maxRecDepth 100000
open Go.RowKit

end Go.Proofs.YtfibpgfjlmlpaaaGreatDoor
