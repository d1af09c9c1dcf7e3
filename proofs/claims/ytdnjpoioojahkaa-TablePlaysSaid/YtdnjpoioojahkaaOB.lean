/-
  Layer 14: the program's table: At, Clear, Set.
-/
import Derived.Test.YtdnjpoioojahkaaOA
import Derived.Test.YtdnjpoioojahkaaQC
import Derived.Test.YtdnjpoioojahkaaTree
namespace Go.Proofs.Ytdnjpoioojahkaa
set_option linter.unusedVariables false
set_option linter.unusedSimpArgs false
set_option maxRecDepth 100000
open Go.RowKit

theorem Try.sizeSpot : (Try.prog.info? 66).map (·.size) = some 3 := by kernel_rfl
section
variable {ops : Array Oper} {rest : List Oper} {o : Oper} {a : Act} {w : World} {Q : Exit → Act → World → Prop}
theorem spot_load (hwt : Region.wanted o (yielded ops a.tmps) = true) (x : Operand) (ho : o.op = .load 66 x) {b off : Nat} (hx : a.eval x = .pointer (some ⟨b, off, none⟩)) {s : Bool × Int × Int} (hr : w.rangeAt b off (spotC s).toList)
    (h : wpList Try.prog ops Q rest (a.put o.dst (.agg (spotC s))) w) : wpList Try.prog ops Q (o :: rest) a w :=
  wpList_want hwt fun K hK => wp_load_mid _ x ho b off hx _ _ hr Try.underlying66 rfl (by rw [Try.sizeSpot]; rfl) (hK _ _ (by simpa using h))
theorem spot_store (x y : Operand) (ho : o.op = .store 66 x y) {g : Nat} (hx : a.eval x = .pointer (some ⟨g, 0, none⟩)) {c : Bool × Int × Int} (hy : a.eval y = .agg (spotC c)) {old : Array Value} (hg : Blk w g 66 old) (hold : old.size = 3) (hwt : Region.wanted o (yielded ops a.tmps) = true)
    (h : ∀ w', Blk w' g 66 (spotC c) → w.grownBy w' (some g) → w'.heap.size = w.heap.size → wpList Try.prog ops Q rest (a.put o.dst undef) w') : wpList Try.prog ops Q (o :: rest) a w :=
  wpList_store_part hwt _ x y ho g 0 3 _ hx hy _ old _ hg rfl Try.sizeSpot (by omega) (by simp [spotC, Value.oneCell']) (by
    have h1 : (spotC c).toList.length = 3 := rfl
    rw [h1, List.drop_of_length_le (by simp; omega)]
    simp) h
theorem tab_store (x y : Operand) (ho : o.op = .store 66 x y) {t q : Nat} {B P : Nat} {R : Nat → Nat → Int} {W : Nat → Int} {S : Nat → Bool × Int × Int} (hq : q < 64) (hx : a.eval x = .pointer (some ⟨t, 1090 + q * 3, none⟩)) {s : Bool × Int × Int} (hy : a.eval y = .agg (spotC s)) (hs : TabS w t B P R W S) (hwt : Region.wanted o (yielded ops a.tmps) = true)
    (h : ∀ w', TabS w' t B P R W (upd1 S q s) → w.grownBy w' (some t) → wpList Try.prog ops Q rest (a.put o.dst undef) w') : wpList Try.prog ops Q (o :: rest) a w := by
  obtain ⟨cs, h1, h2⟩ := hs.is
  exact wpList_store_part hwt _ x y ho t (1090 + q * 3) 3 _ hx hy _ _ _ h1 rfl Try.sizeSpot (by rw [h2.size]; omega) (by simp [spotC, Value.oneCell']) rfl fun w' h3 h4 _ => h w' ⟨hs.bl, hs.pl, _, h3, h2.setSpot hq s⟩ h4
end

theorem grown_trans14 {w w1 w2 : World} (h : w.grownBy w1 none) (h2 : w1.grownBy w2 (some w.heap.size)) : w.grownBy w2 none := grown_trans13 h h2
theorem drew_any14 {w w' : World} {r : Option Nat} (h : w.grownBy w' r) : w.grownBy w'.drew r := ⟨h.os, h.tape, h.output, h.size, h.block⟩
section
variable {w : World} {t B P : Nat} {R : Nat → Nat → Int} {W : Nat → Int} {S : Nat → Bool × Int × Int}
theorem at_no (q : Int) (hq : ¬ (0 ≤ q ∧ q < 64)) : Calls Try.prog 19 #[.pointer (some ⟨t, 0, none⟩), .int .i64 q] w fun e w' => e = .returned (.tuple #[.int .i64 0, .int .i64 0, .bool false]) ∧ w = w' := by
  have IS := isPlace_is q w
  rw [show (decide (0 ≤ q) && decide (q < 64)) = false by simp; omega] at IS
  clear hq
  go_enter Try.func19, Try.ntmps19
  go_wp2_with (go_at_call 33; refine IS.mono ?_; rintro e w1 ⟨rfl, rfl⟩)
  refine bodyPost_ret (v := .tuple #[.int .i64 0, .int .i64 0, .bool false]) (by simp [results, Try.results19, go_sem]) rfl ?_
  exact ⟨rfl, rfl⟩
theorem at_none (q : Int) (w : World) : Calls Try.prog 19 #[.pointer none, .int .i64 q] w fun e w' => e = .returned (.tuple #[.int .i64 0, .int .i64 0, .bool false]) ∧ w = w' := by
  go_enter Try.func19, Try.ntmps19
  go_wp2
  refine bodyPost_ret (v := .tuple #[.int .i64 0, .int .i64 0, .bool false]) (by simp [results, Try.results19, go_sem]) rfl ?_
  exact ⟨rfl, rfl⟩
set_option maxHeartbeats 800000 in
theorem at_yes (h : TabS w t B P R W S) (q : Nat) (hq : q < 64) (s : Bool × Int × Int) (hs : S q = s) : Calls Try.prog 19 #[.pointer (some ⟨t, 0, none⟩), .int .i64 q] w fun e w' => e = .returned (.tuple #[.int .i64 s.2.1, .int .i64 s.2.2, .bool s.1]) ∧ w.grownBy w' none := by
  have IS := isPlace_is q w
  rw [show (decide (0 ≤ (q : Int)) && decide ((q : Int) < 64)) = true by simp; omega] at IS
  have hr := h.range hq hs
  have hb1 := Blk.new w 66 #[.bool false, .int .i64 0, .int .i64 0]
  have HE := Lib.hid (World.grownBy_alloc w (.cells #[.bool false, .int .i64 0, .int .i64 0] 66) none)
  clear h hs
  go_enter Try.func19, Try.ntmps19
  go_wp2_with (first
    | (go_at_call 33; refine IS.mono ?_; rintro e w1 ⟨rfl, rfl⟩)
    | (refine spot_load rfl _ rfl rfl hr ?_; clear hr)
    | (refine spot_store (c := s) _ _ rfl rfl rfl hb1 rfl rfl ?_; intro w6 hb6 hg6 hs6; have c0 := (hb6.cell 0).trans (show (spotC s)[0]? = some (.bool s.1) from rfl); have c1 := (hb6.cell 1).trans (show (spotC s)[1]? = some (.int .i64 s.2.1) from rfl); have c2 := (hb6.cell 2).trans (show (spotC s)[2]? = some (.int .i64 s.2.2) from rfl); have HE6 := Lib.hid (grown_trans14 HE.out hg6); clear hb6 hg6 hs6))
  go_quiet (fail)
  rename_i nq
  go_wp2
  refine bodyPost_ret (v := .tuple #[.int .i64 s.2.1, .int .i64 s.2.2, .bool s.1]) (by simp [results, Try.results19, go_sem]) rfl ?_
  exact ⟨rfl, drew14 HE6.out nq⟩

theorem clear_no (q : Int) (hq : ¬ (0 ≤ q ∧ q < 64)) : Calls Try.prog 21 #[.pointer (some ⟨t, 0, none⟩), .int .i64 q] w fun e w' => e = .returned (.bool false) ∧ w = w' := by
  have AT := at_no (w := w) (t := t) q hq
  clear hq
  go_enter Try.func21, Try.ntmps21
  go_wp2_with (go_at_call 19; refine AT.mono ?_; rintro e w1 ⟨rfl, rfl⟩)
  go_ret
  exact ⟨rfl, rfl⟩
theorem clear_none (q : Int) (w : World) : Calls Try.prog 21 #[.pointer none, .int .i64 q] w fun e w' => e = .returned (.bool false) ∧ w = w' := by
  have AT := at_none q w
  go_enter Try.func21, Try.ntmps21
  go_wp2_with (go_at_call 19; refine AT.mono ?_; rintro e w1 ⟨rfl, rfl⟩)
  go_ret
  exact ⟨rfl, rfl⟩
theorem clear_off (h : TabS w t B P R W S) (q : Nat) (hq : q < 64) (hs : S q = (false, 0, 0)) : Calls Try.prog 21 #[.pointer (some ⟨t, 0, none⟩), .int .i64 q] w fun e w' => e = .returned (.bool false) ∧ w.grownBy w' none := by
  have AT := at_yes h q hq _ hs
  clear h hs
  go_enter Try.func21, Try.ntmps21
  go_wp2_with (go_at_call 19; refine AT.mono ?_; rintro e w1 ⟨rfl, hE1⟩)
  go_ret
  exact ⟨rfl, hE1⟩
set_option maxHeartbeats 1600000 in
theorem clear_on (h : TabS w t B P R W S) (q : Nat) (hq : q < 64) (b p : Nat) (hb : b < 64) (hp : p < 16) (hs : S q = (true, (b : Int), (p : Int))) (x : Nat) (hx : W b = ((x + 1 : Nat) : Int)) (hx2 : x ≤ 1000000) :
    Calls Try.prog 21 #[.pointer (some ⟨t, 0, none⟩), .int .i64 q] w fun e w' => e = .returned (.bool true) ∧ TabS w' t B P (upd2 R b p (-1)) (upd1 W b x) (upd1 S q (false, 0, 0)) ∧ w.grownBy w' (some t) := by
  have AT := at_yes h q hq _ hs
  have HT := Lib.hid h
  have HX := Lib.hid hx
  clear h hs hx
  go_enter Try.func21, Try.ntmps21
  go_wp2_with (first
    | (go_at_call 19; refine AT.mono ?_; rintro e w1 ⟨rfl, hE1⟩; have HT1 := Lib.hid (HT.out.ext hE1); have c2 := HT1.out.row hb hp; have f2 := HT1.out.free (2 + b * 16 + p); have HG1 := Lib.hid hE1; clear hE1 HT))
  have HT2 := Lib.hid ((HT1.out.setRow hb hp (-1)).ext (Ext.drew _))
  have HG2 := Lib.hid (show w.grownBy (w1.setCell ⟨t, 2 + b * 16 + p, none⟩ (.int .i64 (-1))).drew (some t) from drew_any14 (g14_set HG1.out (g14_set1 w1 t _ _)))
  obtain ⟨w2, hw2⟩ : ∃ v, (w1.setCell ⟨t, 2 + b * 16 + p, none⟩ (.int .i64 (-1))).drew = v := ⟨_, rfl⟩
  clear c2 f2 AT
  refine region_line [(0, true), (1, true), (2, true), (3, true), (4, true), (7, true), (8, true), (5, false), (6, true), (9, true), (10, false)] (fun _ => True) (by kernel_rfl) (by kernel_rfl) (fun _ _ _ d _ h => by cases d <;> exact h) trivial ?_
  rw [hw2] at HT2 HG2 ⊢
  clear hw2
  iterate 7 (refine line_read (a' := ?_) rfl (by kernel_rfl) (by kernel_rfl) trivial (fun x0 hx K hK => ?_) ?_; rotate_left; · (go_wp2; exact hK))
  refine line_act (by rfl) (fun K hK => ?_)
  have c3 := HT2.out.wor hb
  rw [HX.out] at c3
  have f3 := HT2.out.free (1026 + b)
  go_wp2
  refine hK _ _ (fun _ => True) trivial (fun x hx => hx) ?_
  clear hK K c3 f3
  iterate 2 (refine line_read (a' := ?_) rfl (by kernel_rfl) (by kernel_rfl) trivial (fun x0 hx K hK => ?_) ?_; rotate_left; · (go_wp2; exact hK))
  refine line_act (by rfl) (fun K hK => ?_)
  have c3 := HT2.out.wor hb
  have f3 := HT2.out.free (1026 + b)
  go_wp2
  refine hK _ _ (fun _ => True) trivial (fun x hx => hx) ?_
  clear hK K c3 f3
  refine line_end ?_
  have HT3 := HT2.out.setWor hb (x : Int)
  have HG3 := Lib.hid (set_chain14 HG2.out (g14_set1 w2 t (1026 + b) (.int .i64 x)))
  go_wp2_with (refine tab_store (s := (false, 0, 0)) _ _ rfl hq rfl rfl HT3 rfl ?_; intro w6 ht6 hg6)
  go_ret
  exact ⟨rfl, ht6, set_chain14 HG3.out hg6⟩
end

end Go.Proofs.Ytdnjpoioojahkaa
