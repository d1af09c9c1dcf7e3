/-
  Layer 17: HealTells over what Heal answers.
-/
import Derived.Test.YtigfohofbpjldaaHG
namespace Go.Proofs.Ytigfohofbpjldaa
set_option linter.unusedVariables false
set_option linter.unusedSimpArgs false
set_option maxRecDepth 100000
open Go.RowKit

theorem spotsN_prefix (A : List Fnd) (gone : List Int) (k : Nat) : ∀ m, k ≤ m → ∃ t, spotsN A gone m = spotsN A gone k ++ t
  | 0, h => by obtain rfl : k = 0 := by omega
               exact ⟨[], by simp⟩
  | m + 1, h => by
    by_cases e : k = m + 1
    · subst e; exact ⟨[], by simp⟩
    · obtain ⟨t, ht⟩ := spotsN_prefix A gone k m (by omega)
      have h1 : spotsN A gone (m + 1) = if (bestN A gone m).2 then spotsN A gone m ++ [((m : Int), (bestN A gone m).1.bk, (bestN A gone m).1.pg)] else spotsN A gone m := rfl
      rw [h1]
      split
      · exact ⟨t ++ [_], by rw [ht, List.append_assoc]⟩
      · exact ⟨t, ht⟩
theorem spotsN_len (A : List Fnd) (gone : List Int) : ∀ k, (spotsN A gone k).length ≤ k
  | 0 => by simp [spotsN]
  | k + 1 => by
    have := spotsN_len A gone k
    unfold spotsN
    split
    · simp; omega
    · omega
theorem spotsL17_at : ∀ (l t : List (Int × Int × Int)) (x : Int × Int × Int) (i : Nat), i < 3 → (spotsL17 (l ++ x :: t))[l.length * 3 + i]? = (spotC17 x).toList[i]?
  | [], t, x, i, hi => by
    show ((spotC17 x).toList ++ spotsL17 t)[0 * 3 + i]? = _
    rw [Nat.zero_mul, Nat.zero_add, List.getElem?_append_left (by show i < 3; exact hi)]
  | y :: l, t, x, i, hi => by
    show ((spotC17 y).toList ++ spotsL17 (l ++ x :: t))[(l.length + 1) * 3 + i]? = _
    have hl : (spotC17 y).toList.length = 3 := rfl
    rw [List.getElem?_append_right (by omega), hl, show (l.length + 1) * 3 + i - 3 = l.length * 3 + i by omega]
    exact spotsL17_at l t x i hi
theorem Try.sizeSpt : (Try.prog.info? 40).map (·.size) = some 3 := by kernel_rfl
theorem Try.sizeHld : (Try.prog.info? 28).map (·.size) = some 3 := by kernel_rfl
def hldC (so : Option Addr) (sn sc : Nat) (go : Option Addr) (gn gc : Nat) (q : Int) : Array Value := #[.slice so sn sc, .slice go gn gc, .int .i64 q]
section
variable {ops : Array Oper} {rest : List Oper} {o : Oper} {a : Act} {w : World} {Q : Exit → Act → World → Prop}
theorem spt_load0 (hwt : Region.wanted o (yielded ops a.tmps) = true) (x : Operand) (ho : o.op = .load 40 x) {b off : Nat} (hx : a.eval x = .pointer (some ⟨b, off, none⟩)) {s : Int × Int × Int} (hr : w.rangeAt b off (spotC17 s).toList)
    (h : wpList Try.prog ops Q rest (a.put o.dst (.agg (spotC17 s))) w) : wpList Try.prog ops Q (o :: rest) a w :=
  wpList_want hwt fun K hK => wp_load_mid _ x ho b off hx _ _ hr Try.underlying40 rfl (by rw [Try.sizeSpt]; rfl) (hK _ _ (by simpa using h))
theorem spt_load (hwt : Region.wanted o (yielded ops a.tmps) = true) (x : Operand) (ho : o.op = .load 40 x) {b off : Nat} (hx : a.eval x = .pointer (some ⟨b, off, none⟩)) {s : Int × Int × Int} (hr : w.rangeAt b off (spotC17 s).toList)
    (h : wpList Try.prog ops Q rest (a.put o.dst (.agg #[.int .i64 s.1, .int .i64 s.2.1, .int .i64 s.2.2])) w) : wpList Try.prog ops Q (o :: rest) a w := spt_load0 hwt x ho hx hr h
theorem hld_store (x y : Operand) (ho : o.op = .store 28 x y) {g : Nat} (hx : a.eval x = .pointer (some ⟨g, 0, none⟩)) {so go : Option Addr} {sn sc gn gc : Nat} {q : Int} (hy : a.eval y = .agg (hldC so sn sc go gn gc q)) {old : Array Value} (hg : Blk w g 28 old) (hold : old.size = 3) (hwt : Region.wanted o (yielded ops a.tmps) = true)
    (h : ∀ w', Blk w' g 28 (hldC so sn sc go gn gc q) → w.grownBy w' (some g) → w'.heap.size = w.heap.size → wpList Try.prog ops Q rest (a.put o.dst undef) w') : wpList Try.prog ops Q (o :: rest) a w :=
  wpList_store_part hwt _ x y ho g 0 3 _ hx hy _ old _ hg rfl Try.sizeHld (by omega) (by simp [hldC, Value.oneCell']) (by
    have h1 : (hldC so sn sc go gn gc q).toList.length = 3 := rfl
    rw [h1, List.drop_of_length_le (by simp; omega)]
    simp) h
end
/-- What stands while places are held against spots. -/
structure HtS (w0 wr : World) (hb : Nat) (so : Option Addr) (sn sc : Nat) (go : Option Addr) (gn gc : Nat) (q : Int) (sp : List (Int × Int × Int)) : Prop where
  blk : Blk wr hb 28 (hldC so sn sc go gn gc q)
  own : wr.ownsRow w0.heap.size 40 3 (.slice so sn sc) sn (spotsL17 sp)
  ext : w0.grownBy wr none
theorem HtS.next {w0 wr w' : World} {hb : Nat} {so : Option Addr} {sn sc : Nat} {go : Option Addr} {gn gc : Nat} {q : Int} {sp : List (Int × Int × Int)} (h : HtS w0 wr hb so sn sc go gn gc q sp) (hE : wr.grownBy w' none) : HtS w0 w' hb so sn sc go gn gc q sp :=
  ⟨h.blk.ext hE, h.own.kept hE (Classical.em _), ext_trans h.ext hE⟩
def HldR (hb : Nat) (go : Option Addr) (gn gc : Nat) (q : Int) (w : World) : Prop := w.cell? ⟨hb, 1, none⟩ = some (.slice go gn gc) ∧ w.cell? ⟨hb, 2, none⟩ = some (.int .i64 q)

/-- What is read of a spot. -/
def SptR (hb g sn sc k gb : Nat) (p : Nat) (x0 x1 : Int) (w : World) : Prop := w.cell? ⟨hb, 0, none⟩ = some (.slice (some ⟨g, 0, none⟩) sn sc) ∧ w.rangeAt g (k * 3) (spotC17 ((p : Int), x0, x1)).toList ∧ w.cell? ⟨gb, 0, none⟩ = some (.int .i64 x0) ∧ w.cell? ⟨gb, 1, none⟩ = some (.int .i64 x1)
set_option maxHeartbeats 3200000 in
theorem healTells_any (HL : HealC) (FX : Fix17) (lv : Value) (L : List Fnd) (B tn ep sz : Int) (w : World) (h : RowF w lv L) (hlb : ∀ k, lv.ownBlock = some k → k < w.heap.size) (hl : L.length ≤ 9223372036854775807) :
    Calls Try.prog 3 #[lv, .int .i64 B, .int .i64 tn, .int .i64 ep, .int .i64 sz] w fun e w' => e = .returned (.bool true) ∧ w.grownBy w' none := by
  have MAY := fun wx (hE : w.grownBy wx none) => may17_any lv L B wx (h.ext hE) hl
  cases hm : mayL L B
  · simp only [hm] at MAY
    clear hm
    go_enter Try.func3, Try.ntmps3
    go_wp2_with (first
      | (go_at_call 6; refine (FX _).mono ?_; rintro e w2 ⟨rfl, hE2⟩; have HE2 := Lib.hid hE2; clear hE2)
      | (go_at_call 7; refine (MAY _ HE2.out).mono ?_; rintro e w3 ⟨rfl, hE3⟩; have HE3 := Lib.hid (ext_trans HE2.out hE3); clear hE3))
    go_ret
    exact ⟨rfl, HE3.out⟩
  simp only [hm] at MAY
  have HASK := Lib.hid (show Ask17 w lv L B from ⟨h, hlb, hm⟩)
  obtain ⟨hokl, hl60, hB64⟩ := mayL_parts hm
  have HEAL := fun wx (hE : w.grownBy wx none) => HL lv L B tn ep sz wx (HASK.out.ext hE)
  have GO := fun wx (hE : w.grownBy wx none) => go17_any lv L B tn ep sz wx (HASK.out.ext hE).row (HASK.out.ext hE).lb (by omega) (by omega)
  have SEQ := fun wx (hE : w.grownBy wx none) => seq17_any lv L B tn ep wx (HASK.out.ext hE).row (by omega) hokl
  have BEST := fun wx (hE : w.grownBy wx none) (p : Nat) => best17_any lv L B tn ep sz p wx (HASK.out.ext hE).row (HASK.out.ext hE).lb (by omega) (by omega)
  obtain ⟨A, hA⟩ : ∃ A, cntL B tn ep sz L = A := ⟨_, rfl⟩
  obtain ⟨gone, hgo⟩ : ∃ z, goN L A B.toNat = z := ⟨_, rfl⟩
  obtain ⟨q, hq⟩ : ∃ z, seqN B tn ep L = z := ⟨_, rfl⟩
  have hgl : gone.length ≤ 1000000 := by rw [← hgo]; have := goN_len L A B.toNat; omega
  simp only [hA, hgo, hq] at HEAL GO SEQ BEST
  obtain ⟨sp, hsp⟩ : ∃ z, spotsN A gone 64 = z := ⟨_, rfl⟩
  obtain ⟨sn, hsn⟩ : ∃ z, sp.length = z := ⟨_, rfl⟩
  obtain ⟨gn, hgn⟩ : ∃ z, gone.length = z := ⟨_, rfl⟩
  simp only [hsp, hsn] at HEAL
  have HSP := Lib.hid (And.intro hsp (And.intro hsn (And.intro hgn hgl)))
  have SAME := fun (v u : Value) wx (h1 : Ints wx v gone) (h2 : Ints wx u gone) => same17_any v u gone gone wx h1 h2 hgl hgl
  rw [show decide (gone = gone) = true from decide_eq_true rfl] at SAME
  have HB := Lib.hid BEST
  clear hm hlb hokl hl60 hB64 h hl hA hgo hq hgl hsp hsn hgn BEST
  go_enter Try.func3, Try.ntmps3
  go_upto_region 6 with (first
    | (go_at_call 6; refine (FX _).mono ?_; rintro e w2 ⟨rfl, hE2⟩; have HE2 := Lib.hid hE2; clear hE2)
    | (go_at_call 7; refine (MAY _ HE2.out).mono ?_; rintro e w3 ⟨rfl, hE3⟩; have HE3 := Lib.hid (ext_trans HE2.out hE3); clear hE3)
    | (go_at_call 8; refine (HEAL _ HE3.out).mono ?_; rintro e w4 ⟨⟨sv, gv, rfl, hsv, hgv⟩, hE4⟩; have HE4 := Lib.hid hE4; have HSV := Lib.hid hsv; have HGV := Lib.hid hgv; obtain ⟨so, sc, hse⟩ := owns_slice17 hsv; obtain ⟨go, gc, hge⟩ := owns_slice17 hgv; subst hse; subst hge; have hbn := Blk.new w4 28 (hldC none 0 0 none 0 0 0); clear hsv hgv hE4)
    | (refine hld_store _ _ rfl rfl rfl hbn rfl rfl ?_; intro w5 hb5 hg5 hs5; have HE5 := Lib.hid (g17_new (World.grownBy_alloc w4 _ none) hg5 (Nat.le_refl _)); have HB5 := Lib.hid hb5; clear hbn hg5 hs5 hb5))
  clear MAY HEAL
  have HB6 := Lib.hid (HB5.out.ext (Ext.drew w5))
  have HW6 := Lib.hid (ext_trans (ext_trans HE4.out HE5.out) (Ext.drew w5))
  have hE6 : w.grownBy w5.drew none := ext_trans HE3.out HW6.out
  have hgi : Ints w5.drew (.slice go gone.length gc) gone := (HGV.out.ints.kept HE5.out (by simp)).kept (Ext.drew w5) (by simp)
  have HGI := Lib.hid hgi
  clear hgi
  have hS : HldR w4.heap.size go gone.length gc q w5.drew := ⟨HB6.out.cell 1, HB6.out.cell 2⟩
  have GO1 := GO _ hE6
  refine region_line [(0, true), (1, true), (2, true), (3, true), (4, true), (5, true), (6, true), (7, false), (8, false), (9, true), (10, true), (11, true), (12, true), (13, true), (14, true), (15, true), (16, true), (17, false), (18, true), (19, true)] (HldR w4.heap.size go gone.length gc q) (by kernel_rfl) (by kernel_rfl) (fun _ _ _ d _ h => by cases d <;> exact h) hS ?_
  iterate 7 (refine line_read (a' := ?_) rfl (by kernel_rfl) (by kernel_rfl) hS (fun x0 hx K hK => ?_) ?_; rotate_left; · (obtain ⟨d1, d2⟩ := hx; go_wp2; exact hK))
  refine line_act (by rfl) (fun K hK => ?_)
  go_wp2_with (go_at_call 10; refine GO1.mono ?_; rintro e w7 ⟨⟨vv, rfl, hvv⟩, hE7⟩; have HVV := Lib.hid hvv; obtain ⟨vo, vc, hve⟩ := owns_slice17 hvv; subst hve; have HE7 := Lib.hid hE7; clear hvv hE7)
  have hS7 : HldR w4.heap.size go gone.length gc q w7 := ⟨HE7.out.cell hS.1 (by simp), HE7.out.cell hS.2 (by simp)⟩
  refine hK _ _ (HldR w4.heap.size go gone.length gc q) hS7 (fun x hx => hx) ?_
  clear hK K GO1 hS
  refine line_act (by rfl) (fun K hK => ?_)
  go_wp2_with (go_at_call 9; refine (SAME _ _ _ (HGI.out.kept HE7.out (by simp)) HVV.out.ints).mono ?_; rintro e w8 ⟨rfl, hE8⟩; have HE8 := Lib.hid (ext_trans HE7.out hE8); clear hE8)
  have hS8 : HldR w4.heap.size go gone.length gc q w8 := ⟨(HE8.out.cell (HB6.out.cell 1) (by simp)), (HE8.out.cell (HB6.out.cell 2) (by simp))⟩
  refine hK _ _ (HldR w4.heap.size go gone.length gc q) hS8 (fun x hx => hx) ?_
  clear hK K hS7
  iterate 8 (refine line_read (a' := ?_) rfl (by kernel_rfl) (by kernel_rfl) hS8 (fun x0 hx K hK => ?_) ?_; rotate_left; · (obtain ⟨d1, d2⟩ := hx; go_wp2; exact hK))
  refine line_act (by rfl) (fun K hK => ?_)
  have SQ1 := SEQ _ (ext_trans hE6 HE8.out)
  go_wp2_with (go_at_call 11; refine SQ1.mono ?_; rintro e w9 ⟨rfl, hE9⟩; have HE9 := Lib.hid (ext_trans HE8.out hE9); clear hE9)
  have hS9 : HldR w4.heap.size go gone.length gc q w9 := ⟨(HE9.out.cell (HB6.out.cell 1) (by simp)), (HE9.out.cell (HB6.out.cell 2) (by simp))⟩
  refine hK _ _ (HldR w4.heap.size go gone.length gc q) hS9 (fun x hx => hx) ?_
  clear hK K SQ1 hS8
  iterate 2 (refine line_read (a' := ?_) rfl (by kernel_rfl) (by kernel_rfl) hS9 (fun x0 hx K hK => ?_) ?_; rotate_left; · (obtain ⟨d1, d2⟩ := hx; go_wp2; exact hK))
  refine line_end ?_
  have HT := Lib.hid (show HtS w3 w9 w4.heap.size so sn sc go gone.length gc q sp from ⟨HB6.out.ext HE9.out, ((HSV.out.kept HE5.out (Classical.em _)).kept (Ext.drew w5) (Classical.em _)).kept HE9.out (Classical.em _), ext_trans HW6.out HE9.out⟩)
  clear hS9 hE6 HGI HVV HE7 HE8 HE9 HB6 HW6 HB5 HSV HGV HE4 HE5 SAME GO SEQ
  go_wp2
  go_loopw [12, 48] (fun s i wr => ∃ k : Nat, k ≤ 64 ∧ i = .int .i64 k ∧ s = .int .i64 ((spotsN A gone k).length : Nat) ∧ HtS w3 wr w4.heap.size so sn sc go gone.length gc q sp) (fun _ i _ => 64 - (intOf i).toNat)
  case atStart => exact ⟨0, by omega, rfl, rfl, HT.out⟩
  case round =>
    clear HT
    obtain ⟨k, hk, rfl, rfl, hT⟩ := hrel
    obtain ⟨wo, rfl⟩ : ∃ wo : World, wo = wr := ⟨_, rfl⟩
    have HT := Lib.hid hT
    clear hT
    obtain ⟨at_, hat⟩ : ∃ z, (spotsN A gone k).length = z := ⟨_, rfl⟩
    have hat64 : at_ ≤ 64 := by rw [← hat]; have := spotsN_len A gone k; omega
    rw [hat]
    have HAT := Lib.hid hat
    clear hat
    by_cases hlt : k < 64
    · have BST := HB.out wo (ext_trans HE3.out HT.out.ext) k
      obtain ⟨⟨bst, sm⟩, hb⟩ : ∃ z, bestN A gone (k : Int) = z := ⟨_, rfl⟩
      rw [hb] at BST
      have HBB := Lib.hid hb
      have hstep : spotsN A gone (k + 1) = if sm then spotsN A gone k ++ [((k : Int), bst.bk, bst.pg)] else spotsN A gone k := by
        show (if (bestN A gone k).2 then _ else _) = _
        rw [hb]
      have HST := Lib.hid hstep
      clear hb hstep
      go_upto_region 13 with (first
        | (go_at_call 12; refine BST.mono ?_; rintro e wa ⟨rfl, hEa⟩; have HTa := Lib.hid (HT.out.next hEa); have hbn := Blk.new wa 36 (fndC noF); clear hEa)
        | (refine fnd_store _ _ rfl rfl rfl hbn rfl rfl ?_; intro wb hbb hgb hsb; have HTb := Lib.hid (HTa.out.next (g17_new (World.grownBy_alloc wa _ none) hgb (Nat.le_refl _))); have HFb := Lib.hid (FCells.of hbb); clear hbn hgb hsb hbb))
      clear BST
      cases sm
      · go_wp2
        go_roundw
        case rel => exact ⟨k + 1, by omega, by go_num, by rw [HST.out, if_neg (by decide), HAT.out], HTb.out⟩
        case measure => simp [intOf]; omega
      · obtain ⟨t, ht⟩ := spotsN_prefix A gone (k + 1) 64 (by omega)
        rw [HST.out, if_pos rfl, HSP.out.1, List.append_assoc, List.singleton_append] at ht
        have hsn : at_ < sn := by
          have h1 := HSP.out.2.1
          rw [ht, List.length_append, HAT.out, List.length_cons] at h1
          omega
        obtain ⟨g, hso, hrg⟩ : ∃ g, so = some ⟨g, 0, none⟩ ∧ wb.rangeAt g (at_ * 3) (spotC17 ((k : Int), bst.bk, bst.pg)).toList := by
          have hown := HTb.out.own
          rcases hown.2 with ⟨hv, h0⟩ | ⟨g, cap, cur, hv, _⟩
          · omega
          · simp only [Value.slice.injEq] at hv
            refine ⟨g, hv.1, fun j u hj => ?_⟩
            have hj3 : j < 3 := by
              have : (spotC17 ((k : Int), bst.bk, bst.pg)).toList.length = 3 := rfl
              rw [← this]
              exact (List.getElem?_eq_some_iff.1 hj).1
            rw [← spotsL17_at (spotsN A gone k) t _ j hj3, HAT.out, ← ht] at hj
            have h1 := hown.cells (g := g) (by rw [hv.1]; rfl) _ _ hj
            rw [addr_add, Nat.zero_add] at h1
            exact h1
        subst hso
        have hge : decide (sn ≤ at_) = false := decide_eq_false (by omega)
        have HSN := Lib.hid (show (spotsN A gone (k + 1)).length = at_ + 1 by rw [HST.out, if_pos rfl, List.length_append, HAT.out]; rfl)
        obtain ⟨x0, hx0⟩ : ∃ z, bst.bk = z := ⟨_, rfl⟩
        obtain ⟨x1, hx1⟩ : ∃ z, bst.pg = z := ⟨_, rfl⟩
        have hS : SptR w4.heap.size g sn sc at_ wa.heap.size k x0 x1 wb.drew := by
          rw [hx0, hx1] at hrg
          have c0 := HFb.out.bk
          have c1 := HFb.out.pg
          rw [hx0] at c0
          rw [hx1] at c1
          exact ⟨HTb.out.blk.cell 0, hrg, c0, c1⟩
        clear ht hrg hx0 hx1
        go_wp2
        refine region_line [(0, true), (1, true), (2, true), (3, true), (4, true), (5, true), (6, true), (7, true), (8, true), (9, true), (10, true), (11, true), (12, true), (13, true), (14, true), (15, true), (16, false), (17, true), (18, true)] (SptR w4.heap.size g sn sc at_ wa.heap.size k x0 x1) (by kernel_rfl) (by kernel_rfl) (fun _ _ _ d _ h => by cases d <;> exact h) hS ?_
        iterate 10 (refine line_read (a' := ?_) rfl (by kernel_rfl) (by kernel_rfl) hS (fun z0 hx K hK => ?_) ?_; rotate_left; · (obtain ⟨d1, d2, d3, d4⟩ := hx; go_wp2; exact hK))
        refine line_read (a' := ?_) rfl (by kernel_rfl) (by kernel_rfl) hS (fun z0 hx K hK => ?_) ?_
        rotate_left
        · obtain ⟨d1, d2, d3, d4⟩ := hx
          refine spt_load rfl _ rfl rfl d2 ?_
          go_wp2
          exact hK
        iterate 5 (refine line_read (a' := ?_) rfl (by kernel_rfl) (by kernel_rfl) hS (fun z0 hx K hK => ?_) ?_; rotate_left; · (obtain ⟨d1, d2, d3, d4⟩ := hx; go_wp2; exact hK))
        refine line_act (by rfl) (fun K hK => ?_)
        go_wp2
        refine hK _ _ (SptR w4.heap.size g sn sc at_ wa.heap.size k x0 x1) hS (fun x hx => hx) ?_
        clear hK K
        iterate 2 (refine line_read (a' := ?_) rfl (by kernel_rfl) (by kernel_rfl) hS (fun z0 hx K hK => ?_) ?_; rotate_left; · (obtain ⟨d1, d2, d3, d4⟩ := hx; go_wp2; exact hK))
        refine line_end ?_
        clear hS
        go_wp2
        go_roundw
        case rel => exact ⟨k + 1, by omega, by go_num, by rw [HSN.out]; go_num, HTb.out.next (Ext.drew wb)⟩
        case measure => simp [intOf]; omega
    · have hsn : at_ = sn := by
        have h1 := HAT.out
        rw [show k = 64 by omega, HSP.out.1, HSP.out.2.1] at h1
        exact h1.symm
      subst hsn
      have d1 := HT.out.blk.cell 0
      have c0 : wo.cell? ⟨w4.heap.size, 0, none⟩ = some (.slice so at_ sc) := d1
      clear d1
      go_wp2
      go_ret
      exact ⟨rfl, ext_trans HE3.out HT.out.ext⟩

end Go.Proofs.Ytigfohofbpjldaa
