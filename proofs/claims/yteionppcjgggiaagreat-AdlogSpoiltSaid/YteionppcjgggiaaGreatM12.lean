/-
  Texts put together: NL NM KA.
-/
import Derived.Test.YteionppcjgggiaaGreatM11
import Derived.Test.YteionppcjgggiaaGreatM09
/-
  Package nand: New.
-/
namespace Go.Proofs.YteionppcjgggiaaGreat
set_option linter.unusedVariables false
set_option linter.unusedSimpArgs false
set_option maxRecDepth 100000
open Go.RowKit

def okM (al : Nat) (ms : List Int) : Bool := ms.all fun m => decide (2 ≤ m ∧ m < al)
theorem okM_at {al : Nat} {ms : List Int} (h : okM al ms = true) {k : Nat} (hk : k < ms.length) : 2 ≤ ms.getD k 0 ∧ ms.getD k 0 < al := by
  unfold okM at h
  rw [List.all_eq_true] at h
  have := h _ (List.getElem_mem hk)
  rw [List.getD_eq_getElem?_getD, List.getElem?_eq_getElem hk]
  simpa using this
theorem okM_of {al : Nat} {ms : List Int} (h : ∀ k, k < ms.length → 2 ≤ ms.getD k 0 ∧ ms.getD k 0 < al) : okM al ms = true := by
  unfold okM
  rw [List.all_eq_true]
  intro m hm
  obtain ⟨k, hk, rfl⟩ := List.mem_iff_getElem.1 hm
  have := h k hk
  rw [List.getD_eq_getElem?_getD, List.getElem?_eq_getElem hk] at this
  simpa using this

/-- A new array. -/
def Fresh (c d b : Int) (pg pb db al : Nat) (ms : List Int) (V : Nat → Value) (zs : Nat → List Int) (px : Int) (off : Bool) (po : Int) (N M : Nat → Int) (w : World) (e : Ending) (w' : World) : Prop :=
  ∃ S : NShape, Roles S ∧ (S.pb = pb ∧ S.db = db ∧ S.c = c ∧ S.d = d ∧ S.b = b ∧ S.p = pg ∧ S.all = al ∧ S.pg = pg) ∧ e = .returned (.tuple #[.pointer (some ⟨S.nb, 0, none⟩), .int .i64 0]) ∧ NandAt w' S V zs (blankS ms px off po N M) ∧ w.grownBy w' none ∧
    ∀ k, S.T k ≠ 0 → k = pb ∨ k = db ∨ w.heap.size ≤ k
def NewP7 (c d b : Int) (pg pb db al : Nat) (ms : List Int) (V : Nat → Value) (zs : Nat → List Int) (px : Int) (off : Bool) (po : Int) (N M : Nat → Int) (w : World) (e : Ending) (w' : World) : Prop :=
  if okM al ms then Fresh c d b pg pb db al ms V zs px off po N M w e w' else e = .returned (.tuple #[.pointer none, .int .i64 5]) ∧ w.grownBy w' none
theorem newP7_ok {c d b : Int} {pg pb db al : Nat} {ms : List Int} {V : Nat → Value} {zs : Nat → List Int} {px : Int} {off : Bool} {po : Int} {N M : Nat → Int} {w w' : World} {e : Ending} (h : okM al ms = true) (hF : Fresh c d b pg pb db al ms V zs px off po N M w e w') : NewP7 c d b pg pb db al ms V zs px off po N M w e w' := by
  unfold NewP7; rw [if_pos h]; exact hF
theorem newP7_bad {c d b : Int} {pg pb db al : Nat} {ms : List Int} {V : Nat → Value} {zs : Nat → List Int} {px : Int} {off : Bool} {po : Int} {N M : Nat → Int} {w w' : World} {e : Ending} (h : okM al ms = false) (hF : e = .returned (.tuple #[.pointer none, .int .i64 5]) ∧ w.grownBy w' none) : NewP7 c d b pg pb db al ms V zs px off po N M w e w' := by
  unfold NewP7; rw [if_neg (by simp [h])]; exact hF
theorem mkT_low {nb bl bm be pb db R0 al B k : Nat} (lo : B ≤ nb ∧ B ≤ bl ∧ B ≤ bm ∧ B ≤ be) (hR : B ≤ R0) (h : mkT nb bl bm be pb db R0 al k ≠ 0) : k = pb ∨ k = db ∨ B ≤ k := by
  refine Classical.byContradiction fun hne => h ?_
  unfold mkT
  rw [if_neg (by omega), if_neg (by omega), if_neg (by omega), if_neg (by omega), if_neg (by omega), if_neg (by omega), if_neg (by omega)]

theorem set_alloc_drew {x : World} {bl k : Nat} (o : Obj) (v : Value) (h : bl < x.heap.size) : (x.drew.alloc o).setCell ⟨bl, k, none⟩ v = ((x.setCell ⟨bl, k, none⟩ v).alloc o).drew := by
  show ((x.alloc o).setCell ⟨bl, k, none⟩ v).drew = _
  rw [World.setCell_alloc_past _ _ _ _ h]

/-- What laying a page's row reads. -/
def SeesN (w : World) (nb bl al pg : Nat) (x : World) : Prop := x.cell? ⟨nb, 6, none⟩ = some (.slice (some ⟨bl, 0, none⟩) al al) ∧ x.cell? ⟨w.heap.size, 3, none⟩ = some (.int .i64 (pg : Int))

set_option maxHeartbeats 1600000 in
theorem new7_any (pb db pg al : Nat) (c d b : Int) (v : Value) (ms : List Int) {V : Nat → Value} {zs : Nat → List Int} {px : Int} {off : Bool} {po : Int} {N M : Nat → Int} (w : World) (hg : geoE c d b pg = 0) (hal : c * d * b = al) (hm : Ints w v ms) (hml : ms.length ≤ 9223372036854775807)
    (hp : PowAt w pb px off po) (hd : DrAt w db V zs N M) (hV : ∀ j, j < 4 → ∀ k, (V j).ownBlock = some k → k < w.heap.size ∧ k ≠ pb) (hne : pb ≠ db) :
    Calls Tryz.prog 16 #[four c d b pg, .pointer (some ⟨pb, 0, none⟩), .pointer (some ⟨db, 0, none⟩), v] w (NewP7 c d b pg pb db al ms V zs px off po N M w) := by
  have HP := Lib.hid (And.intro hp (And.intro hd (And.intro hV (And.intro hne (And.intro hg hal)))))
  clear hp hd hV hne
  obtain ⟨m1, m2, m3, m4, m5, m6⟩ := geo_ok hg
  have C := check_any c d b pg
  have B := blocks_any c d b pg
  have hB : blocksN c d b pg = c * d * b := by unfold blocksN; rw [if_pos hg]
  rw [hg] at C
  rw [hB] at B
  rw [hal] at B m5 m6
  obtain ⟨ao, cp, bb, oo, hv, hvc⟩ := hm.form
  subst hv
  have HM := Lib.hid hvc
  clear hB hg hal hm hvc
  have mk1 := make_run Tryz.underlying62 Tryz.infoRows al (by omega) (by omega)
  have mk2 := make_run Tryz.underlying24 Tryz.infoBool al (by omega) (by omega)
  have mk3 := make_run Tryz.underlying31 Tryz.infoInt al (by omega) (by omega)
  have q1 := made_one (.slice none 0 0) al
  have q2 := made_one (.bool false) al
  have q3 := made_one (.int .i64 0) al
  simp only [Nat.mul_one, show (Value.slice none 0 0).cells = #[.slice none 0 0] from rfl, show (Value.bool false).cells = #[.bool false] from rfl, show (Value.int .i64 0).cells = #[.int .i64 0] from rfl] at mk1 mk2 mk3
  have mk4 := make_run Tryz.underlying69 Tryz.infoLeaf pg (by omega) (by omega)
  have q4 := made_three (.int .i64 0) (.slice none 0 0) (.string ⟨#[]⟩) pg
  simp only [show (Value.agg #[.int .i64 0, .slice none 0 0, .string ⟨#[]⟩]).cells = #[.int .i64 0, .slice none 0 0, .string ⟨#[]⟩] from rfl] at mk4
  generalize madeCells #[.int .i64 0, .slice none 0 0, .string ⟨#[]⟩] (pg * 3) = A4 at *
  have Q4 := Lib.hid q4
  have MK4 := Lib.hid mk4
  clear q4 mk4
  generalize madeCells #[.slice none 0 0] al = A1 at *
  generalize madeCells #[.bool false] al = A2 at *
  generalize madeCells #[.int .i64 0] al = A3 at *
  have Q := Lib.hid (And.intro q1 (And.intro q2 q3))
  clear q1 q2 q3
  unfold four fourObj at *
  go_enter Tryz.func16, Tryz.ntmps16
  go_upto_region 7 with (first
    | (go_at_call 39; refine (C _).mono ?_; rintro e w' ⟨rfl, rfl⟩)
    | (go_at_call 40; refine (B _).mono ?_; rintro e w' ⟨rfl, rfl⟩))
  go_cut [12] (fun s12 wx => ∃ nb bl bm be, s12 = .pointer (some ⟨nb, 0, none⟩) ∧ Laid w wx c d b pg pb db al nb bl bm be)
  case first =>
    have hE4 : w.grownBy ((((w.alloc (.cells #[.int .i64 c, .int .i64 d, .int .i64 b, .int .i64 pg] 57)).alloc (.cells #[.int .i64 c, .int .i64 d, .int .i64 b, .int .i64 pg] 57)).alloc (.cells #[.int .i64 c, .int .i64 d, .int .i64 b, .int .i64 pg] 57)).alloc (.cells #[.int .i64 c, .int .i64 d, .int .i64 b, .int .i64 pg] 57)) none := grown_alloc (grown_alloc (grown_alloc (World.grownBy_alloc w _ none) _) _) _
    have bx : ∀ o, (w.alloc (.cells #[.int .i64 c, .int .i64 d, .int .i64 b, .int .i64 pg] 57)).cell? ⟨w.heap.size, o, none⟩ = (#[.int .i64 c, .int .i64 d, .int .i64 b, .int .i64 pg] : Array Value)[o]? := fun o => World.cell?_alloc_at _ _ _ _ rfl
    have bx4 : ∀ o v, (#[.int .i64 c, .int .i64 d, .int .i64 b, .int .i64 pg] : Array Value)[o]? = some v → ((((w.alloc (.cells #[.int .i64 c, .int .i64 d, .int .i64 b, .int .i64 pg] 57)).alloc (.cells #[.int .i64 c, .int .i64 d, .int .i64 b, .int .i64 pg] 57)).alloc (.cells #[.int .i64 c, .int .i64 d, .int .i64 b, .int .i64 pg] 57)).alloc (.cells #[.int .i64 c, .int .i64 d, .int .i64 b, .int .i64 pg] 57)).cell? ⟨w.heap.size, o, none⟩ = some v := fun o v hv => by
      rw [World.cell?_alloc_past _ _ _ (by simp; omega), World.cell?_alloc_past _ _ _ (by simp; omega), World.cell?_alloc_past _ _ _ (by simp), bx]; exact hv
    have x0 := bx4 0 _ rfl
    have x1 := bx4 1 _ rfl
    have x2 := bx4 2 _ rfl
    have x3 := bx4 3 _ rfl
    clear bx bx4
    obtain ⟨w4, hw4⟩ : ∃ x, (((w.alloc (.cells #[.int .i64 c, .int .i64 d, .int .i64 b, .int .i64 pg] 57)).alloc (.cells #[.int .i64 c, .int .i64 d, .int .i64 b, .int .i64 pg] 57)).alloc (.cells #[.int .i64 c, .int .i64 d, .int .i64 b, .int .i64 pg] 57)).alloc (.cells #[.int .i64 c, .int .i64 d, .int .i64 b, .int .i64 pg] 57) = x := ⟨_, rfl⟩
    rw [hw4] at hE4 x0 x1 x2 x3 ⊢
    have hlt : w.heap.size < w4.heap.size := World.block_lt_of_cell? w4 _ x0
    have hlt2 : w.heap.size < w4.heap.size + 1 := by omega
    have hlt3 : w.heap.size < w4.heap.size + 1 + 1 := by omega
    clear hw4
    go_region
    all_goals (go_wp2_with fail; go_meet)
    all_goals first
      | exact ⟨w4.heap.size + 1 + 1 + 1, w4.heap.size, w4.heap.size + 1, w4.heap.size + 1 + 1, rfl, laid_of hE4 (alloc4_gb _ _ _ _ _) x3 Q.out.1 Q.out.2.1 Q.out.2.2 (alloc4_3 _ _ _ _ _) (alloc4_0 _ _ _ _ _) (alloc4_1 _ _ _ _ _) (alloc4_2 _ _ _ _ _) (by omega) (by omega)⟩
      | exact ⟨w4.heap.size + 1 + 1 + 1, w4.heap.size, w4.heap.size + 1 + 1, w4.heap.size + 1, rfl, laid_of hE4 (alloc4_gb _ _ _ _ _) x3 Q.out.1 Q.out.2.1 Q.out.2.2 (alloc4_3 _ _ _ _ _) (alloc4_0 _ _ _ _ _) (alloc4_2 _ _ _ _ _) (alloc4_1 _ _ _ _ _) (by omega) (by omega)⟩
      | exact ⟨w4.heap.size + 1 + 1 + 1, w4.heap.size + 1, w4.heap.size, w4.heap.size + 1 + 1, rfl, laid_of hE4 (alloc4_gb _ _ _ _ _) x3 Q.out.1 Q.out.2.1 Q.out.2.2 (alloc4_3 _ _ _ _ _) (alloc4_1 _ _ _ _ _) (alloc4_0 _ _ _ _ _) (alloc4_2 _ _ _ _ _) (by omega) (by omega)⟩
      | exact ⟨w4.heap.size + 1 + 1 + 1, w4.heap.size + 1, w4.heap.size + 1 + 1, w4.heap.size, rfl, laid_of hE4 (alloc4_gb _ _ _ _ _) x3 Q.out.1 Q.out.2.1 Q.out.2.2 (alloc4_3 _ _ _ _ _) (alloc4_1 _ _ _ _ _) (alloc4_2 _ _ _ _ _) (alloc4_0 _ _ _ _ _) (by omega) (by omega)⟩
      | exact ⟨w4.heap.size + 1 + 1 + 1, w4.heap.size + 1 + 1, w4.heap.size, w4.heap.size + 1, rfl, laid_of hE4 (alloc4_gb _ _ _ _ _) x3 Q.out.1 Q.out.2.1 Q.out.2.2 (alloc4_3 _ _ _ _ _) (alloc4_2 _ _ _ _ _) (alloc4_0 _ _ _ _ _) (alloc4_1 _ _ _ _ _) (by omega) (by omega)⟩
      | exact ⟨w4.heap.size + 1 + 1 + 1, w4.heap.size + 1 + 1, w4.heap.size + 1, w4.heap.size, rfl, laid_of hE4 (alloc4_gb _ _ _ _ _) x3 Q.out.1 Q.out.2.1 Q.out.2.2 (alloc4_3 _ _ _ _ _) (alloc4_2 _ _ _ _ _) (alloc4_1 _ _ _ _ _) (alloc4_0 _ _ _ _ _) (by omega) (by omega)⟩
  case rest =>
    clear C B mk1 mk2 mk3 Q
    obtain ⟨nb, bl, bm, be, rfl, hL⟩ := hcut
    have cl := hL.fix.cl
    have hsz0 := hL.fix.ext.size
    go_wp2
    have hlay0 : Laying w wc c d b pg pb db al nb bl bm be wc.heap.size 0 (mkT nb bl bm be pb db wc.heap.size al) := ⟨hL.fix, rfl, hL.fix.hi, fun i hi => by omega, fun i _ hi => hL.ls i hi⟩
    clear cl hL
    generalize wc.heap.size = R0 at *
    go_loopw [45] (fun t wr => ∃ k : Nat, k ≤ al ∧ t = .int .i64 k ∧ Laying w wr c d b pg pb db al nb bl bm be R0 k (mkT nb bl bm be pb db R0 al)) (fun t _ => al - (intOf t).toNat)
    case atStart => exact ⟨0, Nat.zero_le _, rfl, hlay0⟩
    case round =>
      clear hlay0
      obtain ⟨k, hk, rfl, hY⟩ := hrel
      have HY := Lib.hid hY
      by_cases hlt : k < al
      · have hS : SeesN w nb bl al pg wr.drew := ⟨hY.fix.cl, hY.fix.bx⟩
        have hN := hY.next (t := 68) hlt Q4.out
        have hS2 : SeesN w nb bl al pg ((wr.drew.alloc (.cells A4 68)).setCell ⟨bl, k, none⟩ (.slice (some ⟨wr.heap.size, 0, none⟩) pg pg)) := ⟨hN.fix.cl, hN.fix.bx⟩
        have hS3 : SeesN w nb bl al pg (wr.drew.alloc (.cells A4 68)) := ⟨(gb_trans7 (Ext.drew wr) (World.grownBy_alloc _ _ none)).cell hY.fix.cl (by simp), (gb_trans7 (Ext.drew wr) (World.grownBy_alloc _ _ none)).cell hY.fix.bx (by simp)⟩
        have e0 : (wr.drew.alloc (.cells A4 68)).setCell ⟨bl, k, none⟩ (.slice (some ⟨wr.heap.size, 0, none⟩) pg pg) = ((wr.setCell ⟨bl, k, none⟩ (.slice (some ⟨wr.heap.size, 0, none⟩) pg pg)).alloc (.cells A4 68)).drew := by
          exact set_alloc_drew _ _ hY.fix.hi.2.1
        rw [e0] at hN hS2
        have HN := Lib.hid hN
        have c0 := hY.ls k (Nat.le_refl _) hlt
        have f0 := hY.fix.fl k
        have b0 := hY.fix.hi.2.1
        have mk := MK4.out
        clear hY hN e0
        go_wp2
        refine region_line [(0, true), (1, true), (2, true), (3, true), (4, true), (5, true), (6, true), (7, false), (8, true), (9, false)] (SeesN w nb bl al pg) (by kernel_rfl) (by kernel_rfl) (fun _ _ _ d _ h => by cases d <;> exact h) hS ?_
        repeat (refine line_read (a' := ?_) rfl (by kernel_rfl) (by kernel_rfl) hS (fun x hx K hK => ?_) ?_; rotate_left; · obtain ⟨hx1, hx2⟩ := hx; go_wp2; exact hK)
        refine line_act (by rfl) (fun K hK => ?_)
        go_wp2
        refine hK _ _ _ hS3 (fun x hx => hx) ?_
        clear hK K
        repeat (refine line_read (a' := ?_) rfl (by kernel_rfl) (by kernel_rfl) hS3 (fun x hx K hK => ?_) ?_; rotate_left; · obtain ⟨hx1, hx2⟩ := hx; go_wp2; exact hK)
        refine line_act (by rfl) (fun K hK => ?_)
        go_wp2
        refine hK _ _ _ hS2 (fun x hx => hx) ?_
        clear hK K
        refine line_end ?_
        go_wp2
        go_roundw
        case rel => exact ⟨k + 1, by omega, by go_num, HN.out⟩
        case measure => simp [intOf]; omega
      · obtain rfl : al = k := by omega
        have hN := hY.nand HP.out.1 HP.out.2.1 HP.out.2.2.1
        have hRo := mkS_roles hY.fix.ne hY.fix.lo hY.low HP.out.1.lt HP.out.2.1.lt HP.out.2.2.2.1 HP.out.2.2.2.2.1 HP.out.2.2.2.2.2.symm
        have hT := fun k (h : mkT nb bl bm be pb db R0 al k ≠ 0) => mkT_low hY.fix.lo (by have := hY.fix.lo; have := hY.low; omega) h
        have hEx := hY.fix.ext
        have hbm := hY.fix.lo.2.2.1
        have HR := Lib.hid (And.intro hRo hT)
        clear hY HY hRo hT
        go_wp2
        go_loopw [60] (fun t wr => ∃ k : Nat, k ≤ ms.length ∧ t = .int .i64 k ∧ NandAt wr (mkS c d b pg pb db al nb bl bm be R0) V zs (blankS (ms.take k) px off po N M) ∧ w.grownBy wr none ∧ (∀ j, j < k → 2 ≤ ms.getD j 0 ∧ ms.getD j 0 < al)) (fun t _ => ms.length - (intOf t).toNat)
        case atStart => exact ⟨0, Nat.zero_le _, rfl, by simpa using hN, hEx, fun j hj => by omega⟩
        case round =>
          clear hN hEx
          obtain ⟨k, hk, rfl, hN, hE, hO⟩ := hrel
          have HO := Lib.hid hO
          clear hO
          by_cases hlt2 : k < ms.length
          · obtain ⟨hao, hcell⟩ := HM.out k hlt2
            subst hao
            have hcell2 := hE.cell hcell (by simp)
            obtain ⟨q, hq⟩ : ∃ q, ms.getD k 0 = q := ⟨_, rfl⟩
            rw [hq] at hcell2
            have HQ := Lib.hid hq
            have HS := has_is hN.fix q
            have HN := Lib.hid (And.intro hN hE)
            have hhe : hasB (mkS c d b pg pb db al nb bl bm be R0) q = decide (0 ≤ q ∧ q < al) := rfl
            have hnn : (mkS c d b pg pb db al nb bl bm be R0).nb = nb := rfl
            rw [hhe, hnn] at HS
            have cm : wr.cell? ⟨nb, 7, none⟩ = some (.slice (some ⟨bm, 0, none⟩) al al) := hN.fix.cm
            have ck : ∀ i, i < al → wr.cell? ⟨bm, i, none⟩ = some (.bool (mrk (ms.take k) i)) := hN.mks
            have cf : ∀ o, wr.frozen? ⟨bm, o, none⟩ = false := hN.mkf
            by_cases hq1 : 0 ≤ q ∧ q < al
            · rw [decide_eq_true hq1] at HS
              obtain ⟨n, rfl⟩ : ∃ n : Nat, q = n := ⟨q.toNat, by omega⟩
              have hnl : n < al := by omega
              by_cases hq2 : (n : Int) < 2
              · have hbad : okM al ms = false := by
                  cases h : okM al ms
                  · rfl
                  · have := okM_at h hlt2; rw [HQ.out] at this; omega
                have HB := Lib.hid hbad
                have HX := Lib.hid hE
                clear hN hE hq hq1 hhe hnn cm ck cf hcell hbad
                go_wp2_with (go_at_call 25; refine HS.mono ?_; rintro e w' ⟨rfl, rfl⟩)
                refine bodyPost_ret (v := .tuple #[.pointer none, .int .i64 5]) (by simp [results, Tryz.results16, go_sem]) rfl (newP7_bad HB.out ⟨rfl, HX.out⟩)
              · have ck1 := ck n hnl
                have cf1 := cf n
                have hM := hN.mark HR.out.1 (i := n) hnl true
                have hX : w.grownBy (wr.setCell ⟨bm, n, none⟩ (.bool true)) none := grown_trans hE (gb_set (gb_refl wr (some bm)) n _) (fun z hz hl => by cases hz; omega)
                have hM2 : NandAt (wr.setCell ⟨bm, n, none⟩ (.bool true)) (mkS c d b pg pb db al nb bl bm be R0) V zs (blankS (ms.take (k + 1)) px off po N M) := by
                  have e := mrk_take hlt2 HQ.out (Int.natCast_nonneg n)
                  simp only [Int.toNat_natCast] at e
                  unfold blankS
                  rw [← e]
                  exact hM
                have HX := Lib.hid (And.intro hM2 hX)
                clear hN hE hq hq1 hhe hnn ck cf hcell hM hX hM2
                go_wp2_with (go_at_call 25; refine HS.mono ?_; rintro e w' ⟨rfl, rfl⟩)
                go_roundw
                case rel =>
                  refine ⟨k + 1, by omega, by go_num, HX.out.1, HX.out.2, fun j hj => ?_⟩
                  by_cases e : j = k
                  · subst e; rw [HQ.out]; omega
                  · exact HO.out j (by omega)
                case measure => simp [intOf]; omega
            · rw [decide_eq_false hq1] at HS
              have hbad : okM al ms = false := by
                cases h : okM al ms
                · rfl
                · have := okM_at h hlt2; rw [HQ.out] at this; omega
              have HB := Lib.hid hbad
              have HX := Lib.hid hE
              clear hN hE hq hq1 hhe hnn cm ck cf hcell hbad
              go_wp2_with (go_at_call 25; refine HS.mono ?_; rintro e w' ⟨rfl, rfl⟩)
              refine bodyPost_ret (v := .tuple #[.pointer none, .int .i64 5]) (by simp [results, Tryz.results16, go_sem]) rfl (newP7_bad HB.out ⟨rfl, HX.out⟩)
          · obtain rfl : ms.length = k := by omega
            have hok := okM_of HO.out
            have HK := Lib.hid hok
            have HX := Lib.hid (And.intro hN hE)
            clear hN hE hok
            go_wp2
            refine bodyPost_ret (v := .tuple #[.pointer (some ⟨nb, 0, none⟩), .int .i64 0]) (by simp [results, Tryz.results16, go_sem]) rfl (newP7_ok HK.out ⟨_, HR.out.1, ⟨rfl, rfl, rfl, rfl, rfl, rfl, rfl, rfl⟩, rfl, ?_, HX.out.2, HR.out.2⟩)
            have := HX.out.1
            rwa [List.take_length] at this

end Go.Proofs.YteionppcjgggiaaGreat

/-
  Package nand: what operations come to when the power lasts and nothing fails.
-/
namespace Go.Proofs.YteionppcjgggiaaGreat
set_option linter.unusedVariables false
set_option linter.unusedSimpArgs false
set_option maxRecDepth 100000
open Go.RowKit

/-- No faults. -/
def noZs : Nat → List Int := fun _ => []
/-- The power lasts. -/
structure Calm (s : NS) (n : Int) : Prop where
  px : s.px = -1
  off : s.off = false
  cnt : Cnt s n

theorem Calm.mono {s : NS} {n m : Int} (h : Calm s n) (hm : n ≤ m) : Calm s m := by
  obtain ⟨h1, h2, h3, h4, h5⟩ := h.cnt
  exact ⟨h.px, h.off, ⟨by omega, fun j => by have := h2 j; omega, fun j => by have := h3 j; omega, fun j => by have := h4 j; omega, h5⟩⟩

theorem drawB_none (s : NS) (who : Int) : drawB noZs s who = false := by
  unfold drawB hitB noZs
  split <;> simp
theorem calm_spend {s : NS} {n : Int} (h : Calm s n) (zs : Nat → List Int) (who : Int) : Calm (drawS zs (spendS s) who) (n + 2) := by
  have hx : (spendS s).px = -1 := by simp only [spendS, h.px, h.off]; rfl
  have ho : (spendS s).off = false := by simp only [spendS, h.px, h.off]; rfl
  have hc := h.cnt.spend.draw zs who
  refine ⟨?_, ?_, by rw [show n + 2 = n + 1 + 1 by omega]; exact hc⟩
  · unfold drawS; split <;> exact hx
  · unfold drawS; split <;> exact ho
theorem calm_E {s : NS} {n : Int} (h : Calm s n) (who : Int) : operE noZs s who = 0 := by
  unfold operE
  rw [h.px, h.off, drawB_none, if_pos (by decide), if_neg (by decide)]
theorem calm_S {s : NS} {n : Int} (h : Calm s n) (who : Int) (sp dn : NS → NS) : operS noZs s who sp dn = dn (drawS noZs (spendS s) who) := by
  unfold operS
  rw [h.px, h.off, drawB_none, if_neg (by decide), if_neg (by decide), if_neg (by decide)]
theorem draw_mr (zs : Nat → List Int) (s : NS) (who : Int) : (drawS zs s who).mr = s.mr := by unfold drawS; split <;> rfl
theorem draw_er (zs : Nat → List Int) (s : NS) (who : Int) : (drawS zs s who).er = s.er := by unfold drawS; split <;> rfl

theorem calm_of {s s' : NS} {n : Int} (h : Calm s n) (h1 : s'.px = s.px) (h2 : s'.off = s.off) (h3 : s'.po = s.po) (h4 : s'.N = s.N) (h5 : s'.M = s.M) (h6 : ∀ i, 0 ≤ s'.er i ∧ s'.er i ≤ n) : Calm s' n := by
  obtain ⟨g1, g2, g3, g4, g5⟩ := h.cnt
  exact ⟨by rw [h1]; exact h.px, by rw [h2]; exact h.off, ⟨by rw [h3]; exact g1, by rw [h4]; exact g2, by rw [h5]; exact g3, h6, by rw [h1]; exact g5⟩⟩

/-- One page is another one. -/
def updL (L : Nat → Nat → Pg) (i j : Nat) (x : Pg) : Nat → Nat → Pg := fun i' => if i' = i then (fun j' => if j' = j then x else L i j') else L i'

section
variable {w : World} {S : NShape} {V : Nat → Value} {s : NS}

def progDone (i j : Nat) (x : Pg) (s : NS) (who : Int) : NS := turnPg i j x (drawS noZs (spendS s) who)
theorem progDone_L (i j : Nat) (x : Pg) (s : NS) (who : Int) : (progDone i j x s who).L = updL s.L i j x := by
  show (turnPg i j x (drawS noZs (spendS s) who)).L = _
  simp only [turnPg, draw_L, spend_L]
  rfl
theorem progDone_mr (i j : Nat) (x : Pg) (s : NS) (who : Int) : (progDone i j x s who).mr = s.mr := by
  show (drawS noZs (spendS s) who).mr = _
  rw [draw_mr]; rfl
theorem progDone_er (i j : Nat) (x : Pg) (s : NS) (who : Int) : (progDone i j x s who).er = s.er := by
  show (drawS noZs (spendS s) who).er = _
  rw [draw_er]; rfl
theorem progDone_calm {n : Int} (i j : Nat) (x : Pg) (who : Int) (h : Calm s n) : Calm (progDone i j x s who) (n + 2) :=
  calm_of (calm_spend h noZs who) rfl rfl rfl rfl rfl (calm_spend h noZs who).cnt.er

def eraseDone (i pg : Nat) (s : NS) (who : Int) : NS := eraseS i pg (drawS noZs (spendS s) who)
theorem eraseDone_L (i pg : Nat) (s : NS) (who : Int) : (eraseDone i pg s who).L = (fun i' => if i' = i then (fun j => if j < pg then Pg.none 0 else s.L i j) else s.L i') := by
  show (fillTo i pg 0 (drawS noZs (spendS s) who)).L = _
  simp only [fillTo, draw_L, spend_L]
theorem eraseDone_mr (i pg : Nat) (s : NS) (who : Int) : (eraseDone i pg s who).mr = s.mr := by
  show (drawS noZs (spendS s) who).mr = _
  rw [draw_mr]; rfl
theorem eraseDone_er (i pg : Nat) (s : NS) (who : Int) : (eraseDone i pg s who).er = fun i' => if i' = i then s.er i + 1 else s.er i' := by
  show (fun i' => if i' = i then (drawS noZs (spendS s) who).er i + 1 else (drawS noZs (spendS s) who).er i') = _
  rw [draw_er]; rfl
theorem eraseDone_calm {n : Int} (i pg : Nat) (who : Int) (h : Calm s n) : Calm (eraseDone i pg s who) (n + 3) := by
  have hc := (calm_spend h noZs who).mono (m := n + 3) (by omega)
  refine calm_of hc rfl rfl rfl rfl rfl (fun i' => ?_)
  rw [eraseDone_er]
  have h1 := h.cnt.er i
  have h2 := h.cnt.er i'
  simp only
  split <;> omega

/-- Written: the page was the next one. -/
theorem prog_good {n who : Int} {i j : Nat} {v : Value} {bs : List Int} {dt : ByteArray} (h : NandAt w S V noZs s) (hR : Roles S) (hc : Calm s n) (hn : n < 80000) (hi : i < S.all) (hj : j < S.pg) (hm : s.mr i = false) (hx : j = nextN (s.L i) S.pg)
    (hv : BtsA w v bs) (hq : 0 < bs.length → ∀ k, v.ownBlock = some k → S.T k = 0) (hl : bs.length ≤ 32) (hd : dt.size ≤ 160) :
    Calls Tryz.prog 8 #[.pointer (some ⟨S.nb, 0, none⟩), .int .i64 who, .int .i64 i, .int .i64 j, v, .string dt] w (Goes S V noZs (.int .i64 0) (progDone i j ⟨1, bs, dt⟩ s who) w) := by
  have P := program_any h hR hc.cnt hn (fun _ _ => by simp [noZs]) who i j hv hq (by omega) (by omega) (dt := dt)
  have e0 : lackE S i j = 0 := by unfold lackE hasB; rw [if_pos (by simp; omega), if_pos (by omega)]
  have e1 : progE S noZs s who i j bs.length dt.size = 0 := by
    unfold progE
    rw [if_pos e0, if_neg (by omega), Int.toNat_natCast, hm, if_neg (by decide), ← hx, if_pos rfl, calm_E hc]
  have e2 : progS S noZs s who i j bs dt = progDone i j ⟨1, bs, dt⟩ s who := by
    unfold progS
    rw [Int.toNat_natCast, Int.toNat_natCast, if_pos ⟨e0, by omega, hm, by rw [← hx]⟩, calm_S hc]
    rfl
  rw [e1, e2] at P
  exact P
/-- Out of order. -/
theorem prog_order {n who : Int} {i j : Nat} {v : Value} {bs : List Int} {dt : ByteArray} (h : NandAt w S V noZs s) (hR : Roles S) (hc : Calm s n) (hn : n < 80000) (hi : i < S.all) (hj : j < S.pg) (hm : s.mr i = false) (hx : j ≠ nextN (s.L i) S.pg)
    (hv : BtsA w v bs) (hq : 0 < bs.length → ∀ k, v.ownBlock = some k → S.T k = 0) (hl : bs.length ≤ 32) (hd : dt.size ≤ 160) :
    Calls Tryz.prog 8 #[.pointer (some ⟨S.nb, 0, none⟩), .int .i64 who, .int .i64 i, .int .i64 j, v, .string dt] w (Goes S V noZs (.int .i64 9) s w) := by
  have P := program_any h hR hc.cnt hn (fun _ _ => by simp [noZs]) who i j hv hq (by omega) (by omega) (dt := dt)
  have e0 : lackE S i j = 0 := by unfold lackE hasB; rw [if_pos (by simp; omega), if_pos (by omega)]
  have e1 : progE S noZs s who i j bs.length dt.size = 9 := by
    unfold progE
    rw [if_pos e0, if_neg (by omega), Int.toNat_natCast, hm, if_neg (by decide), if_neg (by omega)]
  have e2 : progS S noZs s who i j bs dt = s := by
    unfold progS
    rw [Int.toNat_natCast, if_neg (by rintro ⟨_, _, _, h⟩; omega)]
  rw [e1, e2] at P
  exact P

/-- Whatever is done elsewhere: block 0's pages and mark stand. -/
def Apart (S : NShape) (V : Nat → Value) (s : NS) (n : Int) (w : World) (e : Ending) (w' : World) : Prop :=
  ∃ v s', e = .returned v ∧ NandAt w' S V noZs s' ∧ Keeps S.T w w' ∧ Calm s' n ∧ s'.L 0 = s.L 0 ∧ s'.mr 0 = s.mr 0 ∧ ((∀ i j, (s.L i j).bs.length ≤ 32) → ∀ i j, (s'.L i j).bs.length ≤ 32)
theorem apart_of {v : Value} {s' : NS} {n : Int} {e : Ending} {w' : World} (h : Goes S V noZs v s' w e w') (hc : Calm s' n) (h1 : s'.L 0 = s.L 0) (h2 : s'.mr 0 = s.mr 0) (h3 : (∀ i j, (s.L i j).bs.length ≤ 32) → ∀ i j, (s'.L i j).bs.length ≤ 32) : Apart S V s n w e w' :=
  ⟨v, s', h.1, h.2.1, h.2.2, hc, h1, h2, h3⟩

theorem prog_apart {c who n m : Int} {v : Value} {bs : List Int} {dt : ByteArray} (h : NandAt w S V noZs s) (hR : Roles S) (hc : Calm s c) (hn : c < 70000) (h0 : n ≠ 0)
    (hv : BtsA w v bs) (hq : 0 < bs.length → ∀ k, v.ownBlock = some k → S.T k = 0) (hl : bs.length ≤ 9223372036854775807) (hd : dt.size ≤ 9223372036854775807) :
    Calls Tryz.prog 8 #[.pointer (some ⟨S.nb, 0, none⟩), .int .i64 who, .int .i64 n, .int .i64 m, v, .string dt] w (Apart S V s (c + 3) w) := by
  refine (program_any h hR hc.cnt (by omega) (fun _ _ => by simp [noZs]) who n m hv hq hl hd).mono fun e w' hg => ?_
  unfold progS at hg
  split at hg
  · rename_i h1
    obtain ⟨i, j, rfl, rfl, hi, hj⟩ := lackE_zero h1.1
    rw [calm_S hc, Int.toNat_natCast, Int.toNat_natCast] at hg
    have hg' : Goes S V noZs (.int .i64 _) (progDone i j ⟨1, bs, dt⟩ s who) w e w' := hg
    exact apart_of hg' ((progDone_calm i j _ who hc).mono (by omega)) (by rw [progDone_L]; unfold updL; rw [if_neg (by omega)]) (by rw [progDone_mr]) (fun hs i' j' => by
      rw [progDone_L]; unfold updL
      split
      · simp only; split
        · have := h1.2.1; simp only; omega
        · exact hs _ _
      · exact hs _ _)
  · exact apart_of hg (hc.mono (by omega)) rfl rfl (fun hs => hs)

theorem erase_apart {c who n : Int} (h : NandAt w S V noZs s) (hR : Roles S) (hc : Calm s c) (hn : c < 70000) (h0 : n ≠ 0) :
    Calls Tryz.prog 55 #[.pointer (some ⟨S.nb, 0, none⟩), .int .i64 who, .int .i64 n] w (Apart S V s (c + 3) w) := by
  refine (erase_any h hR hc.cnt (by omega) (fun _ _ => by simp [noZs]) who n).mono fun e w' hg => ?_
  unfold ersS at hg
  split at hg
  · rename_i h1
    simp only [Bool.and_eq_true, hasB, decide_eq_true_eq] at h1
    rw [calm_S hc] at hg
    have hg' : Goes S V noZs (.int .i64 _) (eraseDone n.toNat S.pg s who) w e w' := hg
    exact apart_of hg' (eraseDone_calm _ _ who hc) (by rw [eraseDone_L]; simp only; rw [if_neg (by omega)]) (by rw [eraseDone_mr]) (fun hs i' j' => by
      rw [eraseDone_L]; simp only
      split
      · simp only; split
        · simp [Pg.none]
        · exact hs _ _
      · exact hs _ _)
  · exact apart_of hg (hc.mono (by omega)) rfl rfl (fun hs => hs)

end

end Go.Proofs.YteionppcjgggiaaGreat

/-
  Layer 12: which ledger the admin's pages tell; what saving one comes to.
-/
namespace Go.Proofs.YteionppcjgggiaaGreat
set_option linter.unusedVariables false
set_option linter.unusedSimpArgs false
set_option maxRecDepth 100000
open Go.RowKit

/-- The ledger that a page tells, if it tells one. -/
def pgLed (n p : Int) (x : Pg) : Option Led := if x.st = 1 ∧ snpE (byt x.dt) n p = 0 then some (snpL (byt x.dt) n p) else none
def stepN (n p : Int) (b : Nat) (acc : Option (Led × Nat)) (x : Pg) : Option (Led × Nat) :=
  match pgLed n p x with
  | none => acc
  | some m => match acc with
    | none => some (m, b)
    | some (l, c) => if l.gen < m.gen then some (m, b) else some (l, c)
def scanN (n p : Int) (b : Nat) (f : Nat → Pg) (acc : Option (Led × Nat)) : Nat → Option (Led × Nat)
  | 0 => acc
  | k + 1 => stepN n p b (scanN n p b f acc k) (f k)
/-- The newest ledger, and its block: of several the first one. -/
def newestN (n p : Int) (pg : Nat) (L : Nat → Nat → Pg) : Option (Led × Nat) := scanN n p 1 (L 1) (scanN n p 0 (L 0) none pg) pg
def hiGen (r : Option (Led × Nat)) : Int := match r with | none => 0 | some (l, _) => l.gen
def blkOf (r : Option (Led × Nat)) : Nat := match r with | none => 0 | some (_, b) => b
def ledOf (r : Option (Led × Nat)) : Led := match r with | none => noLed | some (l, _) => l

theorem pgLed_blank {n p : Int} {x : Pg} (h : x.st ≠ 1) : pgLed n p x = none := by
  unfold pgLed
  rw [if_neg (fun hh => h hh.1)]
theorem stepN_none {n p : Int} {b : Nat} {acc : Option (Led × Nat)} {x : Pg} (h : pgLed n p x = none) : stepN n p b acc x = acc := by
  unfold stepN; rw [h]
theorem nextN_past (f : Nat → Pg) : ∀ n j, nextN f n ≤ j → j < n → (f j).st = 0
  | 0, j, _, h => by omega
  | n + 1, j, h1, h2 => by
    unfold nextN at h1
    split at h1
    · rename_i h0
      by_cases e : j = n
      · subst e; exact h0
      · exact nextN_past f n j h1 (by omega)
    · omega
theorem scanN_next {n p : Int} {b : Nat} {f : Nat → Pg} {acc : Option (Led × Nat)} {pg : Nat} : ∀ d, nextN f pg + d ≤ pg → scanN n p b f acc (nextN f pg + d) = scanN n p b f acc (nextN f pg)
  | 0, _ => rfl
  | d + 1, h => by
    rw [← Nat.add_assoc, scanN, stepN_none (pgLed_blank (by rw [nextN_past f pg _ (by omega) (by omega)]; decide)), scanN_next d (by omega)]
theorem scanN_all {n p : Int} {b : Nat} {f : Nat → Pg} {acc : Option (Led × Nat)} {pg : Nat} : scanN n p b f acc (nextN f pg) = scanN n p b f acc pg := by
  have h := nextN_le f pg
  have := scanN_next (n := n) (p := p) (b := b) (f := f) (acc := acc) (pg := pg) (pg - nextN f pg) (by omega)
  rw [show nextN f pg + (pg - nextN f pg) = pg by omega] at this
  exact this.symm

/-- What a scan has found: something that was found ahead, or a page's; and nothing is greater. -/
structure Found (n p : Int) (b : Nat) (f : Nat → Pg) (acc : Option (Led × Nat)) (k : Nat) (r : Option (Led × Nat)) : Prop where
  from_ : ∀ l c, r = some (l, c) → acc = some (l, c) ∨ c = b ∧ ∃ j, j < k ∧ pgLed n p (f j) = some l
  keep : ∀ l c, acc = some (l, c) → ∃ m d, r = some (m, d) ∧ l.gen ≤ m.gen
  top : ∀ j m, j < k → pgLed n p (f j) = some m → ∃ l c, r = some (l, c) ∧ m.gen ≤ l.gen
theorem scan_found (n p : Int) (b : Nat) (f : Nat → Pg) (acc : Option (Led × Nat)) : ∀ k, Found n p b f acc k (scanN n p b f acc k)
  | 0 => ⟨fun l c h => .inl h, fun l c h => ⟨l, c, h, Int.le_refl _⟩, fun j m hj => by omega⟩
  | k + 1 => by
    have ih := scan_found n p b f acc k
    rw [scanN]
    unfold stepN
    cases hm : pgLed n p (f k) with
    | none =>
      refine ⟨fun l c h => ?_, ih.keep, fun j m hj h => ?_⟩
      · rcases ih.from_ l c h with h | ⟨h1, j, hj, h⟩
        · exact .inl h
        · exact .inr ⟨h1, j, by omega, h⟩
      · by_cases e : j = k
        · subst e; rw [hm] at h; cases h
        · exact ih.top j m (by omega) h
    | some m =>
      cases hs : scanN n p b f acc k with
      | none =>
        refine ⟨fun l c h => ?_, fun l c h => ?_, fun j m' hj h => ?_⟩
        · simp only [Option.some.injEq, Prod.mk.injEq] at h
          obtain ⟨rfl, rfl⟩ := h
          exact .inr ⟨rfl, k, by omega, hm⟩
        · obtain ⟨m', d, h1, _⟩ := ih.keep l c h
          rw [hs] at h1; cases h1
        · by_cases e : j = k
          · subst e; rw [hm] at h; cases h; exact ⟨m, b, rfl, Int.le_refl _⟩
          · obtain ⟨l, c, h1, _⟩ := ih.top j m' (by omega) h
            rw [hs] at h1; cases h1
      | some q =>
        obtain ⟨l0, c0⟩ := q
        dsimp only
        by_cases hlt : l0.gen < m.gen
        · rw [if_pos hlt]
          refine ⟨fun l c h => ?_, fun l c h => ?_, fun j m' hj h => ?_⟩
          · simp only [Option.some.injEq, Prod.mk.injEq] at h
            obtain ⟨rfl, rfl⟩ := h
            exact .inr ⟨rfl, k, by omega, hm⟩
          · obtain ⟨m', d, h1, h2⟩ := ih.keep l c h
            rw [hs] at h1
            cases h1
            exact ⟨m, b, rfl, by omega⟩
          · by_cases e : j = k
            · subst e; rw [hm] at h; cases h; exact ⟨m, b, rfl, Int.le_refl _⟩
            · obtain ⟨l, c, h1, h2⟩ := ih.top j m' (by omega) h
              rw [hs] at h1
              cases h1
              exact ⟨m, b, rfl, by omega⟩
        · rw [if_neg hlt]
          refine ⟨fun l c h => ?_, fun l c h => ?_, fun j m' hj h => ?_⟩
          · rcases ih.from_ l c (by rw [hs]; exact h) with h | ⟨h1, j, hj, h⟩
            · exact .inl h
            · exact .inr ⟨h1, j, by omega, h⟩
          · obtain ⟨m', d, h1, h2⟩ := ih.keep l c h
            rw [hs] at h1
            cases h1
            exact ⟨l0, c0, rfl, h2⟩
          · by_cases e : j = k
            · subst e; rw [hm] at h; cases h; exact ⟨l0, c0, rfl, by omega⟩
            · obtain ⟨l, c, h1, h2⟩ := ih.top j m' (by omega) h
              rw [hs] at h1
              cases h1
              exact ⟨l0, c0, rfl, h2⟩
theorem newest_none {n p : Int} {pg : Nat} {L : Nat → Nat → Pg} (h : newestN n p pg L = none) : ∀ b, b < 2 → ∀ j, j < pg → pgLed n p (L b j) = none := by
  have h1 := scan_found n p 1 (L 1) (scanN n p 0 (L 0) none pg) pg
  have h0 := scan_found n p 0 (L 0) none pg
  intro b hb j hj
  cases hm : pgLed n p (L b j) with
  | none => rfl
  | some m =>
    have : b = 0 ∨ b = 1 := by omega
    rcases this with rfl | rfl
    · obtain ⟨l, c, e1, _⟩ := h0.top j m hj hm
      obtain ⟨m', d, e2, _⟩ := h1.keep l c e1
      have : newestN n p pg L = some (m', d) := e2
      rw [h] at this; cases this
    · obtain ⟨l, c, e1, _⟩ := h1.top j m hj hm
      have : newestN n p pg L = some (l, c) := e1
      rw [h] at this; cases this
theorem newest_some {n p : Int} {pg : Nat} {L : Nat → Nat → Pg} {l : Led} {b : Nat} (h : newestN n p pg L = some (l, b)) :
    b < 2 ∧ (∃ j, j < pg ∧ pgLed n p (L b j) = some l) ∧ ∀ c, c < 2 → ∀ j, j < pg → ∀ m, pgLed n p (L c j) = some m → m.gen ≤ l.gen := by
  have h1 := scan_found n p 1 (L 1) (scanN n p 0 (L 0) none pg) pg
  have h0 := scan_found n p 0 (L 0) none pg
  have hr : scanN n p 1 (L 1) (scanN n p 0 (L 0) none pg) pg = some (l, b) := h
  refine ⟨?_, ?_, fun c hc j hj m hm => ?_⟩
  · rcases h1.from_ l b hr with e | ⟨rfl, _⟩
    · rcases h0.from_ l b e with e | ⟨rfl, _⟩
      · cases e
      · decide
    · decide
  · rcases h1.from_ l b hr with e | ⟨rfl, j, hj, e⟩
    · rcases h0.from_ l b e with e | ⟨rfl, j, hj, e⟩
      · cases e
      · exact ⟨j, hj, e⟩
    · exact ⟨j, hj, e⟩
  · have : c = 0 ∨ c = 1 := by omega
    rcases this with rfl | rfl
    · obtain ⟨l', c', e1, e2⟩ := h0.top j m hj hm
      obtain ⟨m', d, e3, e4⟩ := h1.keep l' c' e1
      rw [hr] at e3; cases e3
      omega
    · obtain ⟨l', c', e1, e2⟩ := h1.top j m hj hm
      rw [hr] at e1; cases e1
      exact e2

/-- The admin's blocks tell this ledger, and nothing newer; its block alone counts. -/
structure Tells (n p : Int) (pg : Nat) (L : Nat → Nat → Pg) (now : Led) : Prop where
  le : ∀ b, b < 2 → ∀ j, j < pg → ∀ m, pgLed n p (L b j) = some m → m.gen < now.gen ∨ EqL m now
  has : ((∀ b, b < 2 → ∀ j, j < pg → pgLed n p (L b j) = none) ∧ EqL now noLed) ∨ ∃ b j m, b < 2 ∧ j < pg ∧ pgLed n p (L b j) = some m ∧ EqL m now
theorem Tells.newest {n p : Int} {pg : Nat} {L : Nat → Nat → Pg} {now : Led} (h : Tells n p pg L now) : EqL (ledOf (newestN n p pg L)) now ∧ hiGen (newestN n p pg L) = now.gen ∧ blkOf (newestN n p pg L) < 2 := by
  cases hn : newestN n p pg L with
  | none =>
    have h0 := newest_none hn
    rcases h.has with ⟨_, h1⟩ | ⟨b, j, m, hb, hj, hm, _⟩
    · exact ⟨h1.symm, h1.gen.symm, by decide⟩
    · rw [h0 b hb j hj] at hm; cases hm
  | some q =>
    obtain ⟨l, b⟩ := q
    obtain ⟨hb, ⟨j, hj, hm⟩, htop⟩ := newest_some hn
    have he : EqL l now := by
      rcases h.le b hb j hj l hm with hlt | he
      · rcases h.has with ⟨h0, _⟩ | ⟨b', j', m', hb', hj', hm', he'⟩
        · rw [h0 b hb j hj] at hm; cases hm
        · have := htop b' hb' j' hj' m' hm'
          have := he'.gen
          omega
      · exact he
    exact ⟨he, he.gen, hb⟩
/-- Where nothing new is told, and its block's pages still tell what they told. -/
theorem Tells.less {n p : Int} {pg : Nat} {L L' : Nat → Nat → Pg} {now : Led} (h : Tells n p pg L now) (h1 : ∀ b, b < 2 → ∀ j, j < pg → ∀ m, pgLed n p (L' b j) = some m → pgLed n p (L b j) = some m)
    (h2 : ∀ j, j < pg → ∀ m, pgLed n p (L (blkOf (newestN n p pg L)) j) = some m → pgLed n p (L' (blkOf (newestN n p pg L)) j) = some m) : Tells n p pg L' now := by
  refine ⟨fun b hb j hj m hm => h.le b hb j hj m (h1 b hb j hj m hm), ?_⟩
  cases hn : newestN n p pg L with
  | none =>
    have h0 := newest_none hn
    rcases h.has with ⟨_, h3⟩ | ⟨b, j, m, hb, hj, hm, _⟩
    · refine .inl ⟨fun b hb j hj => ?_, h3⟩
      cases hm : pgLed n p (L' b j) with
      | none => rfl
      | some m => have := h1 b hb j hj m hm; rw [h0 b hb j hj] at this; cases this
    · rw [h0 b hb j hj] at hm; cases hm
  | some q =>
    obtain ⟨l, b⟩ := q
    have he := h.newest.1
    rw [hn] at h2 he
    obtain ⟨hb, ⟨j, hj, hm⟩, _⟩ := newest_some hn
    exact .inr ⟨b, j, l, hb, hj, h2 j hj l hm, he⟩
/-- One page more, newer than all. -/
theorem Tells.more {n p : Int} {pg : Nat} {L L' : Nat → Nat → Pg} {now x m0 : Led} (h : Tells n p pg L now) (hx : now.gen < x.gen) {b0 j0 : Nat} (hb0 : b0 < 2) (hj0 : j0 < pg) (hm0 : pgLed n p (L' b0 j0) = some m0) (he0 : EqL m0 x)
    (h1 : ∀ b, b < 2 → ∀ j, j < pg → (b = b0 ∧ j = j0) ∨ ∀ m, pgLed n p (L' b j) = some m → pgLed n p (L b j) = some m) : Tells n p pg L' x := by
  refine ⟨fun b hb j hj m hm => ?_, .inr ⟨b0, j0, m0, hb0, hj0, hm0, he0⟩⟩
  rcases h1 b hb j hj with ⟨rfl, rfl⟩ | h2
  · rw [hm0] at hm; cases hm; exact .inr he0
  · rcases h.le b hb j hj m (h2 m hm) with h3 | h3
    · exact .inl (by omega)
    · exact .inl (by have := h3.gen; omega)

/-! What the admin's operations come to. -/
theorem admin_B (zs : Nat → List Int) (s : NS) : drawB zs s 4 = false := by unfold drawB; rw [if_neg (by omega)]
theorem admin_D (zs : Nat → List Int) (s : NS) : drawS zs s 4 = s := by unfold drawS; rw [if_neg (by omega)]
theorem admin_E (zs : Nat → List Int) (s : NS) : operE zs s 4 = if spE s.px s.off = 0 then 0 else 12 := by unfold operE; rw [admin_B]; rfl
theorem admin_S (zs : Nat → List Int) (s : NS) (sp dn : NS → NS) : operS zs s 4 sp dn = if spE s.px s.off = 12 then spendS s else if spE s.px s.off = 11 then sp (spendS s) else dn (spendS s) := by
  unfold operS
  rw [admin_B, admin_D]
  rfl

end Go.Proofs.YteionppcjgggiaaGreat
