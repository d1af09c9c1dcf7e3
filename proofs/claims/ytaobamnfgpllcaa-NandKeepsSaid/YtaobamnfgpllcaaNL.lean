/-
  Package nand: New.
-/
import Derived.Test.YtaobamnfgpllcaaNK
namespace Go.Proofs.Ytaobamnfgpllcaa
open Go.RowKit

def okM (al : Nat) (ms : List Int) : Bool := ms.all fun m => decide (2 ≤ m ∧ m < al)
theorem okM_at {al : Nat} {ms : List Int} (h : okM al ms = true) {k : Nat} (hk : k < ms.length) : 2 ≤ ms.getD k 0 ∧ ms.getD k 0 < al := by
  unfold okM at h
  rw [List.all_eq_true] at h
  have := h _ (List.getElem_mem hk)
  rw [List.getD_eq_getElem?_getD, List.getElem?_eq_getElem hk]
  simpa using this
theorem okM_of {al : Nat} {ms : List Int} (h : ∀ k, k < ms.length → 2 ≤ ms.getD k 0 ∧ ms.getD k 0 < al) : okM al ms = true := by
  unfold okM
  rw [List.all_eq_true]
  intro m hm
  obtain ⟨k, hk, rfl⟩ := List.mem_iff_getElem.1 hm
  have := h k hk
  rw [List.getD_eq_getElem?_getD, List.getElem?_eq_getElem hk] at this
  simpa using this

/-- A new array. -/
def Fresh (c d b : Int) (pg pb db al : Nat) (ms : List Int) (V : Nat → Value) (zs : Nat → List Int) (px : Int) (off : Bool) (po : Int) (N M : Nat → Int) (w : World) (e : Ending) (w' : World) : Prop :=
  ∃ S : NShape, Roles S ∧ (S.pb = pb ∧ S.db = db ∧ S.c = c ∧ S.d = d ∧ S.b = b ∧ S.p = pg ∧ S.all = al ∧ S.pg = pg) ∧ e = .returned (.tuple #[.pointer (some ⟨S.nb, 0, none⟩), .int .i64 0]) ∧ NandAt w' S V zs (blankS ms px off po N M) ∧ w.grownBy w' none ∧
    ∀ k, S.T k ≠ 0 → k = pb ∨ k = db ∨ w.heap.size ≤ k
def NewP7 (c d b : Int) (pg pb db al : Nat) (ms : List Int) (V : Nat → Value) (zs : Nat → List Int) (px : Int) (off : Bool) (po : Int) (N M : Nat → Int) (w : World) (e : Ending) (w' : World) : Prop :=
  if okM al ms then Fresh c d b pg pb db al ms V zs px off po N M w e w' else e = .returned (.tuple #[.pointer none, .int .i64 5]) ∧ w.grownBy w' none
theorem newP7_ok {c d b : Int} {pg pb db al : Nat} {ms : List Int} {V : Nat → Value} {zs : Nat → List Int} {px : Int} {off : Bool} {po : Int} {N M : Nat → Int} {w w' : World} {e : Ending} (h : okM al ms = true) (hF : Fresh c d b pg pb db al ms V zs px off po N M w e w') : NewP7 c d b pg pb db al ms V zs px off po N M w e w' := by
  unfold NewP7; rw [if_pos h]; exact hF
theorem newP7_bad {c d b : Int} {pg pb db al : Nat} {ms : List Int} {V : Nat → Value} {zs : Nat → List Int} {px : Int} {off : Bool} {po : Int} {N M : Nat → Int} {w w' : World} {e : Ending} (h : okM al ms = false) (hF : e = .returned (.tuple #[.pointer none, .int .i64 5]) ∧ w.grownBy w' none) : NewP7 c d b pg pb db al ms V zs px off po N M w e w' := by
  unfold NewP7; rw [if_neg (by simp [h])]; exact hF
theorem mkT_low {nb bl bm be pb db R0 al B k : Nat} (lo : B ≤ nb ∧ B ≤ bl ∧ B ≤ bm ∧ B ≤ be) (hR : B ≤ R0) (h : mkT nb bl bm be pb db R0 al k ≠ 0) : k = pb ∨ k = db ∨ B ≤ k := by
  refine Classical.byContradiction fun hne => h ?_
  unfold mkT
  rw [if_neg (by omega), if_neg (by omega), if_neg (by omega), if_neg (by omega), if_neg (by omega), if_neg (by omega), if_neg (by omega)]

theorem set_alloc_drew {x : World} {bl k : Nat} (o : Obj) (v : Value) (h : bl < x.heap.size) : (x.drew.alloc o).setCell ⟨bl, k, none⟩ v = ((x.setCell ⟨bl, k, none⟩ v).alloc o).drew := by
  show ((x.alloc o).setCell ⟨bl, k, none⟩ v).drew = _
  rw [World.setCell_alloc_past _ _ _ _ h]

/-- What laying a page's row reads. -/
def SeesN (w : World) (nb bl al pg : Nat) (x : World) : Prop := x.cell? ⟨nb, 6, none⟩ = some (.slice (some ⟨bl, 0, none⟩) al al) ∧ x.cell? ⟨w.heap.size, 3, none⟩ = some (.int .i64 (pg : Int))

set_option maxHeartbeats 1600000 in
theorem new7_any (pb db pg al : Nat) (c d b : Int) (v : Value) (ms : List Int) {V : Nat → Value} {zs : Nat → List Int} {px : Int} {off : Bool} {po : Int} {N M : Nat → Int} (w : World) (hg : geoE c d b pg = 0) (hal : c * d * b = al) (hm : Ints w v ms) (hml : ms.length ≤ 9223372036854775807)
    (hp : PowAt w pb px off po) (hd : DrAt w db V zs N M) (hV : ∀ j, j < 4 → ∀ k, (V j).ownBlock = some k → k < w.heap.size ∧ k ≠ pb) (hne : pb ≠ db) :
    Calls Try.prog 18 #[four c d b pg, .pointer (some ⟨pb, 0, none⟩), .pointer (some ⟨db, 0, none⟩), v] w (NewP7 c d b pg pb db al ms V zs px off po N M w) := by
  have HP := Lib.hid (And.intro hp (And.intro hd (And.intro hV (And.intro hne (And.intro hg hal)))))
  clear hp hd hV hne
  obtain ⟨m1, m2, m3, m4, m5, m6⟩ := geo_ok hg
  have C := check_any c d b pg
  have B := blocks_any c d b pg
  have hB : blocksN c d b pg = c * d * b := by unfold blocksN; rw [if_pos hg]
  rw [hg] at C
  rw [hB] at B
  rw [hal] at B m5 m6
  obtain ⟨ao, cp, bb, oo, hv, hvc⟩ := hm.form
  subst hv
  have HM := Lib.hid hvc
  clear hB hg hal hm hvc
  have mk1 := make_run Try.underlying53 Try.infoRows al (by omega) (by omega)
  have mk2 := make_run Try.underlying54 Try.infoBool al (by omega) (by omega)
  have mk3 := make_run Try.underlying33 Try.infoInt al (by omega) (by omega)
  have q1 := made_one (.slice none 0 0) al
  have q2 := made_one (.bool false) al
  have q3 := made_one (.int .i64 0) al
  simp only [Nat.mul_one, show (Value.slice none 0 0).cells = #[.slice none 0 0] from rfl, show (Value.bool false).cells = #[.bool false] from rfl, show (Value.int .i64 0).cells = #[.int .i64 0] from rfl] at mk1 mk2 mk3
  have mk4 := make_run Try.underlying61 Try.infoLeaf pg (by omega) (by omega)
  have q4 := made_three (.int .i64 0) (.slice none 0 0) (.string ⟨#[]⟩) pg
  simp only [show (Value.agg #[.int .i64 0, .slice none 0 0, .string ⟨#[]⟩]).cells = #[.int .i64 0, .slice none 0 0, .string ⟨#[]⟩] from rfl] at mk4
  generalize madeCells #[.int .i64 0, .slice none 0 0, .string ⟨#[]⟩] (pg * 3) = A4 at *
  have Q4 := Lib.hid q4
  have MK4 := Lib.hid mk4
  clear q4 mk4
  generalize madeCells #[.slice none 0 0] al = A1 at *
  generalize madeCells #[.bool false] al = A2 at *
  generalize madeCells #[.int .i64 0] al = A3 at *
  have Q := Lib.hid (And.intro q1 (And.intro q2 q3))
  clear q1 q2 q3
  unfold four fourObj at *
  go_enter Try.func18, Try.ntmps18
  go_upto_region 7 with (first
    | (go_at_call 35; refine (C _).mono ?_; rintro e w' ⟨rfl, rfl⟩)
    | (go_at_call 36; refine (B _).mono ?_; rintro e w' ⟨rfl, rfl⟩))
  go_cut [12] (fun s12 wx => ∃ nb bl bm be, s12 = .pointer (some ⟨nb, 0, none⟩) ∧ Laid w wx c d b pg pb db al nb bl bm be)
  case first =>
    have hE4 : w.grownBy ((((w.alloc (.cells #[.int .i64 c, .int .i64 d, .int .i64 b, .int .i64 pg] 23)).alloc (.cells #[.int .i64 c, .int .i64 d, .int .i64 b, .int .i64 pg] 23)).alloc (.cells #[.int .i64 c, .int .i64 d, .int .i64 b, .int .i64 pg] 23)).alloc (.cells #[.int .i64 c, .int .i64 d, .int .i64 b, .int .i64 pg] 23)) none := grown_alloc (grown_alloc (grown_alloc (World.grownBy_alloc w _ none) _) _) _
    have bx : ∀ o, (w.alloc (.cells #[.int .i64 c, .int .i64 d, .int .i64 b, .int .i64 pg] 23)).cell? ⟨w.heap.size, o, none⟩ = (#[.int .i64 c, .int .i64 d, .int .i64 b, .int .i64 pg] : Array Value)[o]? := fun o => World.cell?_alloc_at _ _ _ _ rfl
    have bx4 : ∀ o v, (#[.int .i64 c, .int .i64 d, .int .i64 b, .int .i64 pg] : Array Value)[o]? = some v → ((((w.alloc (.cells #[.int .i64 c, .int .i64 d, .int .i64 b, .int .i64 pg] 23)).alloc (.cells #[.int .i64 c, .int .i64 d, .int .i64 b, .int .i64 pg] 23)).alloc (.cells #[.int .i64 c, .int .i64 d, .int .i64 b, .int .i64 pg] 23)).alloc (.cells #[.int .i64 c, .int .i64 d, .int .i64 b, .int .i64 pg] 23)).cell? ⟨w.heap.size, o, none⟩ = some v := fun o v hv => by
      rw [World.cell?_alloc_past _ _ _ (by simp; omega), World.cell?_alloc_past _ _ _ (by simp; omega), World.cell?_alloc_past _ _ _ (by simp), bx]; exact hv
    have x0 := bx4 0 _ rfl
    have x1 := bx4 1 _ rfl
    have x2 := bx4 2 _ rfl
    have x3 := bx4 3 _ rfl
    clear bx bx4
    obtain ⟨w4, hw4⟩ : ∃ x, (((w.alloc (.cells #[.int .i64 c, .int .i64 d, .int .i64 b, .int .i64 pg] 23)).alloc (.cells #[.int .i64 c, .int .i64 d, .int .i64 b, .int .i64 pg] 23)).alloc (.cells #[.int .i64 c, .int .i64 d, .int .i64 b, .int .i64 pg] 23)).alloc (.cells #[.int .i64 c, .int .i64 d, .int .i64 b, .int .i64 pg] 23) = x := ⟨_, rfl⟩
    rw [hw4] at hE4 x0 x1 x2 x3 ⊢
    have hlt : w.heap.size < w4.heap.size := World.block_lt_of_cell? w4 _ x0
    have hlt2 : w.heap.size < w4.heap.size + 1 := by omega
    have hlt3 : w.heap.size < w4.heap.size + 1 + 1 := by omega
    clear hw4
    go_region
    all_goals (go_wp2_with fail; go_meet)
    all_goals first
      | exact ⟨w4.heap.size + 1 + 1 + 1, w4.heap.size, w4.heap.size + 1, w4.heap.size + 1 + 1, rfl, laid_of hE4 (alloc4_gb _ _ _ _ _) x3 Q.out.1 Q.out.2.1 Q.out.2.2 (alloc4_3 _ _ _ _ _) (alloc4_0 _ _ _ _ _) (alloc4_1 _ _ _ _ _) (alloc4_2 _ _ _ _ _) (by omega) (by omega)⟩
      | exact ⟨w4.heap.size + 1 + 1 + 1, w4.heap.size, w4.heap.size + 1 + 1, w4.heap.size + 1, rfl, laid_of hE4 (alloc4_gb _ _ _ _ _) x3 Q.out.1 Q.out.2.1 Q.out.2.2 (alloc4_3 _ _ _ _ _) (alloc4_0 _ _ _ _ _) (alloc4_2 _ _ _ _ _) (alloc4_1 _ _ _ _ _) (by omega) (by omega)⟩
      | exact ⟨w4.heap.size + 1 + 1 + 1, w4.heap.size + 1, w4.heap.size, w4.heap.size + 1 + 1, rfl, laid_of hE4 (alloc4_gb _ _ _ _ _) x3 Q.out.1 Q.out.2.1 Q.out.2.2 (alloc4_3 _ _ _ _ _) (alloc4_1 _ _ _ _ _) (alloc4_0 _ _ _ _ _) (alloc4_2 _ _ _ _ _) (by omega) (by omega)⟩
      | exact ⟨w4.heap.size + 1 + 1 + 1, w4.heap.size + 1, w4.heap.size + 1 + 1, w4.heap.size, rfl, laid_of hE4 (alloc4_gb _ _ _ _ _) x3 Q.out.1 Q.out.2.1 Q.out.2.2 (alloc4_3 _ _ _ _ _) (alloc4_1 _ _ _ _ _) (alloc4_2 _ _ _ _ _) (alloc4_0 _ _ _ _ _) (by omega) (by omega)⟩
      | exact ⟨w4.heap.size + 1 + 1 + 1, w4.heap.size + 1 + 1, w4.heap.size, w4.heap.size + 1, rfl, laid_of hE4 (alloc4_gb _ _ _ _ _) x3 Q.out.1 Q.out.2.1 Q.out.2.2 (alloc4_3 _ _ _ _ _) (alloc4_2 _ _ _ _ _) (alloc4_0 _ _ _ _ _) (alloc4_1 _ _ _ _ _) (by omega) (by omega)⟩
      | exact ⟨w4.heap.size + 1 + 1 + 1, w4.heap.size + 1 + 1, w4.heap.size + 1, w4.heap.size, rfl, laid_of hE4 (alloc4_gb _ _ _ _ _) x3 Q.out.1 Q.out.2.1 Q.out.2.2 (alloc4_3 _ _ _ _ _) (alloc4_2 _ _ _ _ _) (alloc4_1 _ _ _ _ _) (alloc4_0 _ _ _ _ _) (by omega) (by omega)⟩
  case rest =>
    clear C B mk1 mk2 mk3 Q
    obtain ⟨nb, bl, bm, be, rfl, hL⟩ := hcut
    have cl := hL.fix.cl
    have hsz0 := hL.fix.ext.size
    go_wp2
    have hlay0 : Laying w wc c d b pg pb db al nb bl bm be wc.heap.size 0 (mkT nb bl bm be pb db wc.heap.size al) := ⟨hL.fix, rfl, hL.fix.hi, fun i hi => by omega, fun i _ hi => hL.ls i hi⟩
    clear cl hL
    generalize wc.heap.size = R0 at *
    go_loopw [45] (fun t wr => ∃ k : Nat, k ≤ al ∧ t = .int .i64 k ∧ Laying w wr c d b pg pb db al nb bl bm be R0 k (mkT nb bl bm be pb db R0 al)) (fun t _ => al - (intOf t).toNat)
    case atStart => exact ⟨0, Nat.zero_le _, rfl, hlay0⟩
    case round =>
      clear hlay0
      obtain ⟨k, hk, rfl, hY⟩ := hrel
      have HY := Lib.hid hY
      by_cases hlt : k < al
      · have hS : SeesN w nb bl al pg wr.drew := ⟨hY.fix.cl, hY.fix.bx⟩
        have hN := hY.next (t := 60) hlt Q4.out
        have hS2 : SeesN w nb bl al pg ((wr.drew.alloc (.cells A4 60)).setCell ⟨bl, k, none⟩ (.slice (some ⟨wr.heap.size, 0, none⟩) pg pg)) := ⟨hN.fix.cl, hN.fix.bx⟩
        have hS3 : SeesN w nb bl al pg (wr.drew.alloc (.cells A4 60)) := ⟨(gb_trans7 (Ext.drew wr) (World.grownBy_alloc _ _ none)).cell hY.fix.cl (by simp), (gb_trans7 (Ext.drew wr) (World.grownBy_alloc _ _ none)).cell hY.fix.bx (by simp)⟩
        have e0 : (wr.drew.alloc (.cells A4 60)).setCell ⟨bl, k, none⟩ (.slice (some ⟨wr.heap.size, 0, none⟩) pg pg) = ((wr.setCell ⟨bl, k, none⟩ (.slice (some ⟨wr.heap.size, 0, none⟩) pg pg)).alloc (.cells A4 60)).drew := by
          exact set_alloc_drew _ _ hY.fix.hi.2.1
        rw [e0] at hN hS2
        have HN := Lib.hid hN
        have c0 := hY.ls k (Nat.le_refl _) hlt
        have f0 := hY.fix.fl k
        have b0 := hY.fix.hi.2.1
        have mk := MK4.out
        clear hY hN e0
        go_wp2
        refine region_line [(0, true), (1, true), (2, true), (3, true), (4, true), (5, true), (6, true), (7, false), (8, true), (9, false)] (SeesN w nb bl al pg) (by kernel_rfl) (by kernel_rfl) (fun _ _ _ d _ h => by cases d <;> exact h) hS ?_
        repeat (refine line_read (a' := ?_) rfl (by kernel_rfl) (by kernel_rfl) hS (fun x hx K hK => ?_) ?_; rotate_left; · obtain ⟨hx1, hx2⟩ := hx; go_wp2; exact hK)
        refine line_act (by rfl) (fun K hK => ?_)
        go_wp2
        refine hK _ _ _ hS3 (fun x hx => hx) ?_
        clear hK K
        repeat (refine line_read (a' := ?_) rfl (by kernel_rfl) (by kernel_rfl) hS3 (fun x hx K hK => ?_) ?_; rotate_left; · obtain ⟨hx1, hx2⟩ := hx; go_wp2; exact hK)
        refine line_act (by rfl) (fun K hK => ?_)
        go_wp2
        refine hK _ _ _ hS2 (fun x hx => hx) ?_
        clear hK K
        refine line_end ?_
        go_wp2
        go_roundw
        case rel => exact ⟨k + 1, by omega, by go_num, HN.out⟩
        case measure => simp [intOf]; omega
      · obtain rfl : al = k := by omega
        have hN := hY.nand HP.out.1 HP.out.2.1 HP.out.2.2.1
        have hRo := mkS_roles hY.fix.ne hY.fix.lo hY.low HP.out.1.lt HP.out.2.1.lt HP.out.2.2.2.1 HP.out.2.2.2.2.1 HP.out.2.2.2.2.2.symm
        have hT := fun k (h : mkT nb bl bm be pb db R0 al k ≠ 0) => mkT_low hY.fix.lo (by have := hY.fix.lo; have := hY.low; omega) h
        have hEx := hY.fix.ext
        have hbm := hY.fix.lo.2.2.1
        have HR := Lib.hid (And.intro hRo hT)
        clear hY HY hRo hT
        go_wp2
        go_loopw [60] (fun t wr => ∃ k : Nat, k ≤ ms.length ∧ t = .int .i64 k ∧ NandAt wr (mkS c d b pg pb db al nb bl bm be R0) V zs (blankS (ms.take k) px off po N M) ∧ w.grownBy wr none ∧ (∀ j, j < k → 2 ≤ ms.getD j 0 ∧ ms.getD j 0 < al)) (fun t _ => ms.length - (intOf t).toNat)
        case atStart => exact ⟨0, Nat.zero_le _, rfl, by simpa using hN, hEx, fun j hj => by omega⟩
        case round =>
          clear hN hEx
          obtain ⟨k, hk, rfl, hN, hE, hO⟩ := hrel
          have HO := Lib.hid hO
          clear hO
          by_cases hlt2 : k < ms.length
          · obtain ⟨hao, hcell⟩ := HM.out k hlt2
            subst hao
            have hcell2 := hE.cell hcell (by simp)
            obtain ⟨q, hq⟩ : ∃ q, ms.getD k 0 = q := ⟨_, rfl⟩
            rw [hq] at hcell2
            have HQ := Lib.hid hq
            have HS := has_is hN.fix q
            have HN := Lib.hid (And.intro hN hE)
            have hhe : hasB (mkS c d b pg pb db al nb bl bm be R0) q = decide (0 ≤ q ∧ q < al) := rfl
            have hnn : (mkS c d b pg pb db al nb bl bm be R0).nb = nb := rfl
            rw [hhe, hnn] at HS
            have cm : wr.cell? ⟨nb, 7, none⟩ = some (.slice (some ⟨bm, 0, none⟩) al al) := hN.fix.cm
            have ck : ∀ i, i < al → wr.cell? ⟨bm, i, none⟩ = some (.bool (mrk (ms.take k) i)) := hN.mks
            have cf : ∀ o, wr.frozen? ⟨bm, o, none⟩ = false := hN.mkf
            by_cases hq1 : 0 ≤ q ∧ q < al
            · rw [decide_eq_true hq1] at HS
              obtain ⟨n, rfl⟩ : ∃ n : Nat, q = n := ⟨q.toNat, by omega⟩
              have hnl : n < al := by omega
              by_cases hq2 : (n : Int) < 2
              · have hbad : okM al ms = false := by
                  cases h : okM al ms
                  · rfl
                  · have := okM_at h hlt2; rw [HQ.out] at this; omega
                have HB := Lib.hid hbad
                have HX := Lib.hid hE
                clear hN hE hq hq1 hhe hnn cm ck cf hcell hbad
                go_wp2_with (go_at_call 24; refine HS.mono ?_; rintro e w' ⟨rfl, rfl⟩)
                refine bodyPost_ret (v := .tuple #[.pointer none, .int .i64 5]) (by simp [results, Try.results18, go_sem]) rfl (newP7_bad HB.out ⟨rfl, HX.out⟩)
              · have ck1 := ck n hnl
                have cf1 := cf n
                have hM := hN.mark HR.out.1 (i := n) hnl true
                have hX : w.grownBy (wr.setCell ⟨bm, n, none⟩ (.bool true)) none := grown_trans hE (gb_set (gb_refl wr (some bm)) n _) (fun z hz hl => by cases hz; omega)
                have hM2 : NandAt (wr.setCell ⟨bm, n, none⟩ (.bool true)) (mkS c d b pg pb db al nb bl bm be R0) V zs (blankS (ms.take (k + 1)) px off po N M) := by
                  have e := mrk_take hlt2 HQ.out (Int.natCast_nonneg n)
                  simp only [Int.toNat_natCast] at e
                  unfold blankS
                  rw [← e]
                  exact hM
                have HX := Lib.hid (And.intro hM2 hX)
                clear hN hE hq hq1 hhe hnn ck cf hcell hM hX hM2
                go_wp2_with (go_at_call 24; refine HS.mono ?_; rintro e w' ⟨rfl, rfl⟩)
                go_roundw
                case rel =>
                  refine ⟨k + 1, by omega, by go_num, HX.out.1, HX.out.2, fun j hj => ?_⟩
                  by_cases e : j = k
                  · subst e; rw [HQ.out]; omega
                  · exact HO.out j (by omega)
                case measure => simp [intOf]; omega
            · rw [decide_eq_false hq1] at HS
              have hbad : okM al ms = false := by
                cases h : okM al ms
                · rfl
                · have := okM_at h hlt2; rw [HQ.out] at this; omega
              have HB := Lib.hid hbad
              have HX := Lib.hid hE
              clear hN hE hq hq1 hhe hnn cm ck cf hcell hbad
              go_wp2_with (go_at_call 24; refine HS.mono ?_; rintro e w' ⟨rfl, rfl⟩)
              refine bodyPost_ret (v := .tuple #[.pointer none, .int .i64 5]) (by simp [results, Try.results18, go_sem]) rfl (newP7_bad HB.out ⟨rfl, HX.out⟩)
          · obtain rfl : ms.length = k := by omega
            have hok := okM_of HO.out
            have HK := Lib.hid hok
            have HX := Lib.hid (And.intro hN hE)
            clear hN hE hok
            go_wp2
            refine bodyPost_ret (v := .tuple #[.pointer (some ⟨nb, 0, none⟩), .int .i64 0]) (by simp [results, Try.results18, go_sem]) rfl (newP7_ok HK.out ⟨_, HR.out.1, ⟨rfl, rfl, rfl, rfl, rfl, rfl, rfl, rfl⟩, rfl, ?_, HX.out.2, HR.out.2⟩)
            have := HX.out.1
            rwa [List.take_length] at this

end Go.Proofs.Ytaobamnfgpllcaa
