/-
  Texts put together: QK QE QF OA OB OC OD OE OF QV QW QX QY QM UA YA YB JA.
-/
import Derived.Test.YtfgifgglcafadaaGreatDoorM06
import Derived.Test.YtfgifgglcafadaaGreatDoorM01
import Derived.Lib.Hide
import Derived.Outline
import Derived.Deep.DeepCutAuto
import Derived.Deep.Cut
import Derived.Deep.LoopGhost
import Derived.ChangeKeysEq
import Derived.Test.YtfgifgglcafadaaGreatDoorM02
namespace Go.Proofs.YtfgifgglcafadaaGreatDoor
set_option linter.unusedVariables false
set_option linter.unusedSimpArgs false
set_option linter.unusedVariables false
set_option linter.unusedSimpArgs false
set_option maxRecDepth 100000
open Go.RowKit
section
variable {w : World} {b : Nat} {rs : List Chg} {f c : Nat}
theorem grown_of_drew_alloc {w w' : World} {o : Obj} {r : Option Nat} (h : (w.drew.alloc o).grownBy w' r) : (w.alloc o).grownBy w' r := ⟨h.os, h.tape, h.output, h.size, h.block⟩
structure LastS (w0 wr : World) (b : Nat) (rs : List Chg) (f c : Nat) (x : Chg) : Prop where
 buf : BufS wr b rs f c
 res : Blk wr w0.heap.size 144 (chgC noChg)
 lst : Blk wr (w0.heap.size + 1) 144 (chgC x)
 ext : w0.grownBy wr none
theorem LastS.next {w0 wr w6 : World} {b : Nat} {rs : List Chg} {f c : Nat} {x : Chg} (h : LastS w0 wr b rs f c x) (hg : wr.grownBy w6 none) : LastS w0 w6 b rs f c x :=
 ⟨h.buf.ext hg, h.res.ext hg, h.lst.ext hg, ext13_trans h.ext hg⟩
theorem LastS.put {w0 wr w6 : World} {b : Nat} {rs : List Chg} {f c : Nat} {x y : Chg} (h : LastS w0 wr b rs f c x) (hb : b < w0.heap.size) (h6 : Blk w6 (w0.heap.size + 1) 144 (chgC y)) (hg : wr.grownBy w6 (some (w0.heap.size + 1))) : LastS w0 w6 b rs f c y :=
 ⟨⟨h.buf.four, h.buf.fl, h.buf.cl, h.buf.blk.kept hg (fun e => by injection e with e; omega)⟩, h.res.kept hg (fun e => by injection e with e; omega), h6, g13_new h.ext hg (by omega)⟩
set_option maxHeartbeats 1600000 in
theorem last_is (h : BufS w b rs f c) (p : Int) : Calls Tryz.prog 97 #[.pointer (some ⟨b, 0, none⟩), .int .i64 p] w fun e w' => e = .returned (.tuple #[chgV (lastN (ringL rs f c) p).1, .bool (lastN (ringL rs f c) p).2]) ∧ w.grownBy w' none := by
 have hE1 := World.grownBy_alloc w (.cells #[.int .i64 0, .int .i64 0, .string ⟨#[]⟩] 144) none
 have hb1 := (Blk.new w 144 (chgC noChg)).alloc (.cells #[.int .i64 0, .int .i64 0, .string ⟨#[]⟩] 144)
 have hb2 := Blk.newAt (w.alloc (.cells #[.int .i64 0, .int .i64 0, .string ⟨#[]⟩] 144)) (w.heap.size + 1) (by simp) 144 (chgC noChg)
 have hE := ext13_trans hE1 (World.grownBy_alloc (w.alloc (.cells #[.int .i64 0, .int .i64 0, .string ⟨#[]⟩] 144)) (.cells #[.int .i64 0, .int .i64 0, .string ⟨#[]⟩] 144) none)
 have hB := h.ext hE
 have hbl := Lib.hid h.blk.lt
 obtain ⟨w2, hw2⟩ : ∃ v, (w.alloc (.cells #[.int .i64 0, .int .i64 0, .string ⟨#[]⟩] 144)).alloc (.cells #[.int .i64 0, .int .i64 0, .string ⟨#[]⟩] 144) = v := ⟨_, rfl⟩
 rw [show (w.alloc (.cells (chgC noChg) 144)).alloc (.cells #[.int .i64 0, .int .i64 0, .string ⟨#[]⟩] 144) = w2 from hw2] at hb1
 rw [show (w.alloc (.cells #[.int .i64 0, .int .i64 0, .string ⟨#[]⟩] 144)).alloc (.cells (chgC noChg) 144) = w2 from hw2] at hb2
 rw [hw2] at hE hB
 have LEN := len_is hB
 have HS := Lib.hid (show LastS w w2 b rs f c (lastN (ringL rs f 0) p).1 from ⟨hB, hb1, hb2, hE⟩)
 have hcl := h.cl
 clear hE hE1 hb1 hb2 hB h
 go_enter Tryz.func97, Tryz.ntmps97
 go_wp2_with (first
   | (go_at_call 95; refine LEN.mono ?_; rintro e w3 ⟨rfl, rfl⟩))
 clear LEN hw2
 go_loopw [7, 12] (fun s i wr => ∃ k : Nat, k ≤ c ∧ i = .int .i64 k ∧ s = .bool (lastN (ringL rs f k) p).2 ∧ LastS w wr b rs f c (lastN (ringL rs f k) p).1) (fun _ i _ => c - (intOf i).toNat)
 case atStart => exact ⟨0, by omega, rfl, rfl, HS.out⟩
 case round =>
   clear HS
   obtain ⟨k, hk, rfl, rfl, hS⟩ := hrel
   obtain ⟨lx, hlx⟩ : ∃ q, lastN (ringL rs f k) p = q := ⟨_, rfl⟩
   obtain ⟨lc, lf⟩ := lx
   rw [hlx] at hS
   have HL := Lib.hid hlx
   have HSR := Lib.hid hS
   clear hS
   rw [hlx]
   clear hlx
   by_cases hlt : k < c
   · obtain ⟨x, hx⟩ : ∃ x, rs.getD ((f + k) % 4) noChg = x := ⟨_, rfl⟩
     have HX := Lib.hid hx
     clear hx
     obtain ⟨g, hg⟩ : ∃ g, (f + k) % 4 = g := ⟨_, rfl⟩
     have hg4 : g < 4 := by omega
     rw [hg] at HX
     have HG := Lib.hid hg
     clear hg
     have hB := HSR.out.buf.ext (Ext.drew wr)
     have hBN := hB.ext (World.grownBy_alloc wr.drew (.cells #[.int .i64 0, .int .i64 0, .string ⟨#[]⟩] 144) none)
     have hbN : Blk (wr.drew.alloc (.cells #[.int .i64 0, .int .i64 0, .string ⟨#[]⟩] 144)) wr.heap.size 144 #[.int .i64 0, .int .i64 0, .string ⟨#[]⟩] := Blk.new wr.drew _ _
     go_wp2
     go_cut [9] (fun s9 wx => s9 = .pointer (some ⟨wr.heap.size, 0, none⟩) ∧ Blk wx wr.heap.size 144 (chgC x) ∧ LastS w wx b rs f c lc)
     case first =>
       refine region_tree (.read 0 (.read 1 (.read 2 (.read 4 (.read 5 (.two 3 8 (.read 6 (.read 7 (.one 8 (.one 9 .done)))) (.one 3 (.read 6 (.read 7 (.one 9 .done)))))))))) (fun x0 : World => BufS x0 b rs f c) (by kernel_rfl) (by kernel_rfl) (fun _ _ _ d _ h => by cases d <;> exact h) hB ?_
       iterate 5 (refine tree_read (a' := ?_) rfl (by kernel_rfl) (by kernel_rfl) hB (fun x0 hx K hK => ?_) ?_; rotate_left; · clear hx; go_wp2; exact hK)
       refine tree_two ?_ ?_
       · refine tree_one (by rfl) (fun K hK => ?_)
         have AT := at_is hB (i := k) (by omega)
         rw [HG.out] at AT
         go_wp2_with (go_at_call 132; refine AT.mono ?_; rintro e w7 ⟨rfl, rfl⟩)
         clear AT
         refine hK _ _ _ hB (fun x hx => hx) ?_
         clear hK K
         refine tree_read (a' := ?_) rfl (by kernel_rfl) (by kernel_rfl) hB (fun x0 hx K hK => ?_) ?_
         rotate_left
         · clear hx; go_wp2; exact hK
         refine tree_read (a' := ?_) rfl (by kernel_rfl) (by kernel_rfl) hB (fun x0 hx K hK => ?_) ?_
         rotate_left
         · have hr := hx.range hg4 HX.out
           clear hx
           refine chg_load_want rfl _ rfl rfl hr ?_
           go_wp2
           exact hK
         refine tree_one (by rfl) (fun K hK => ?_)
         go_wp2
         refine hK _ _ _ hBN (fun x hx => hx) ?_
         clear hK K
         refine tree_one (by rfl) (fun K hK => ?_)
         go_wp2_with (first
           | (refine chg_store (c := x) _ _ rfl rfl rfl hbN rfl rfl ?_; intro w6 hb6 hg6 hs6))
         have hE6 : wr.grownBy w6 none := g13_new (World.grownBy_alloc wr _ none) (grown_of_drew_alloc hg6) (Nat.le_refl _)
         have HN := Lib.hid (HSR.out.next hE6)
         refine hK _ _ _ HN.out.buf (fun x hx => hx) ?_
         clear hK K hg6 hs6 hE6 hbN hBN hB HSR
         refine tree_end ?_
         go_wp2
         go_meet
         exact ⟨rfl, hb6, HN.out⟩
       · refine tree_one (by rfl) (fun K hK => ?_)
         go_wp2
         refine hK _ _ _ hBN (fun x hx => hx) ?_
         clear hK K
         refine tree_one (by rfl) (fun K hK => ?_)
         have AT := at_is hBN (i := k) (by omega)
         rw [HG.out] at AT
         go_wp2_with (go_at_call 132; refine AT.mono ?_; rintro e w7 ⟨rfl, rfl⟩)
         clear AT
         refine hK _ _ _ hBN (fun x hx => hx) ?_
         clear hK K
         refine tree_read (a' := ?_) rfl (by kernel_rfl) (by kernel_rfl) hBN (fun x0 hx K hK => ?_) ?_
         rotate_left
         · clear hx; go_wp2; exact hK
         refine tree_read (a' := ?_) rfl (by kernel_rfl) (by kernel_rfl) hBN (fun x0 hx K hK => ?_) ?_
         rotate_left
         · have hr := hx.range hg4 HX.out
           clear hx
           refine chg_load_want rfl _ rfl rfl hr ?_
           go_wp2
           exact hK
         refine tree_one (by rfl) (fun K hK => ?_)
         go_wp2_with (first
           | (refine chg_store (c := x) _ _ rfl rfl rfl hbN rfl rfl ?_; intro w6 hb6 hg6 hs6))
         have hE6 : wr.grownBy w6 none := g13_new (World.grownBy_alloc wr _ none) (grown_of_drew_alloc hg6) (Nat.le_refl _)
         have HN := Lib.hid (HSR.out.next hE6)
         refine hK _ _ _ HN.out.buf (fun x hx => hx) ?_
         clear hK K hg6 hs6 hE6 hbN hBN hB HSR
         refine tree_end ?_
         go_wp2
         go_meet
         exact ⟨rfl, hb6, HN.out⟩
     case rest =>
       obtain ⟨rfl, hb6, hN6⟩ := hcut
       have HN := Lib.hid hN6
       have c0 := (hb6.cell 0).trans (show (chgC x)[0]? = some (.int .i64 x.pl) from rfl)
       clear hN6 hB hBN hbN
       by_cases hp : x.pl = p
       · have hpb : (x.pl == p) = true := by simpa using hp
         have HP := Lib.hid hp
         have hl := HN.out.lst
         clear hp
         go_wp2_with (first
           | (refine chg_load_want rfl _ rfl rfl (hb6.range 0 3 rfl) ?_)
           | (refine chg_store (c := x) _ _ rfl rfl rfl hl rfl rfl ?_; intro w8 hb8 hg8 hs8))
         have HN8 := Lib.hid (HN.out.put hbl.out hb8 hg8)
         clear hl hb6 hb8 hg8 hs8 HN
         go_wp2
         go_roundw
         case rel =>
           refine ⟨k + 1, by omega, by go_num, ?_⟩
           have hs := lastN_snoc (ringL rs f k) x p
           rw [if_pos HP.out] at hs
           rw [ringL_snoc, HG.out, HX.out, hs]
           exact ⟨rfl, HN8.out⟩
         case measure => simp [intOf]; omega
       · have hpb : (x.pl == p) = false := by simpa using hp
         have HP := Lib.hid hp
         clear hp hb6
         go_wp2
         go_roundw
         case rel =>
           refine ⟨k + 1, by omega, by go_num, ?_⟩
           have hs := lastN_snoc (ringL rs f k) x p
           rw [if_neg HP.out] at hs
           rw [ringL_snoc, HG.out, HX.out, hs, HL.out]
           exact ⟨rfl, HN.out⟩
         case measure => simp [intOf]; omega
   · obtain rfl : k = c := by omega
     have hl := HSR.out.lst
     have hr := HSR.out.res
     go_wp2_with (first
       | (refine chg_load_want rfl _ rfl rfl (hl.range 0 3 rfl) ?_)
       | (refine chg_store (c := lc) _ _ rfl rfl rfl hr rfl rfl ?_; intro w6 hb6 hg6 hs6))
     refine bodyPost_ret (v := .tuple #[.agg (chgC lc), .bool lf]) (results_cell_two (fn := Tryz.f97) rfl rfl rfl hb6 Tryz.underlying144 rfl Tryz.sizeChg) rfl ?_
     rw [HL.out]
     exact ⟨rfl, g13_new HSR.out.ext hg6 (Nat.le_refl _)⟩
end
section
variable {ops : Array Oper} {rest : List Oper} {o : Oper} {a : Act} {w : World} {Q : Exit → Act → World → Prop}
end
section
variable {w : World} {b : Nat} {rs : List Chg} {f c : Nat}
end
end Go.Proofs.YtfgifgglcafadaaGreatDoor

namespace Go.Proofs.YtfgifgglcafadaaGreatDoor
set_option linter.unusedVariables false
set_option linter.unusedSimpArgs false
set_option linter.unusedVariables false
set_option linter.unusedSimpArgs false
set_option maxRecDepth 100000
open Go.RowKit
structure R14 where
 pl : Int
 bk : Int
 pg : Int
def placeN (rs : List R14) (b p : Int) : Int := match rs.find? (fun r => r.bk == b && r.pg == p) with | some r => r.pl | none => -1
def atN (rs : List R14) (pl : Int) : Int × Int × Bool := match rs.find? (fun r => r.pl == pl) with | some r => (r.bk, r.pg, true) | none => (0, 0, false)
def worthN (rs : List R14) (b : Int) : Nat := (rs.filter fun r => r.bk == b).length
section
variable {ops : Array Oper} {rest : List Oper} {o : Oper} {a : Act} {w : World} {Q : Exit → Act → World → Prop}
end
theorem g14_new {w w1 w2 : World} {g : Nat} (h : w.grownBy w1 none) (h2 : w1.grownBy w2 (some g)) (hg : w.heap.size ≤ g) : w.grownBy w2 none :=
 ⟨h2.os.trans h.os, h2.tape.trans h.tape, h2.output.trans h.output, Nat.le_trans h.size h2.size, fun k hk hne => (h2.block k (Nat.lt_of_lt_of_le hk h.size) (fun e => by injection e with e; omega)).trans (h.block k hk hne)⟩
end Go.Proofs.YtfgifgglcafadaaGreatDoor

namespace Go.Proofs.YtfgifgglcafadaaGreatDoor
set_option linter.unusedVariables false
set_option linter.unusedSimpArgs false
set_option linter.unusedVariables false
set_option linter.unusedSimpArgs false
set_option maxRecDepth 100000
open Go.RowKit
theorem g14_set1 (w : World) (q i : Nat) (v : Value) : w.grownBy (w.setCell ⟨q, i, none⟩ v) (some q) :=
 ⟨rfl, rfl, rfl, by simp [World.setCell], fun k _ hne => heap_setCell_other w ⟨q, i, none⟩ k v (fun e => hne (by rw [e]))⟩
theorem set_chain14 {w w1 w2 : World} {q : Nat} (h : w.grownBy w1 (some q)) (h2 : w1.grownBy w2 (some q)) : w.grownBy w2 (some q) :=
 ⟨h2.os.trans h.os, h2.tape.trans h.tape, h2.output.trans h.output, Nat.le_trans h.size h2.size, fun k hk hne => (h2.block k (Nat.lt_of_lt_of_le hk h.size) hne).trans (h.block k hk hne)⟩
end Go.Proofs.YtfgifgglcafadaaGreatDoor

namespace Go.Proofs.YtfgifgglcafadaaGreatDoor
set_option linter.unusedVariables false
set_option linter.unusedSimpArgs false
set_option linter.unusedVariables false
set_option linter.unusedSimpArgs false
set_option maxRecDepth 100000
open Go.RowKit
structure TabC (cs : Array Value) (B P : Nat) (R : Nat → Nat → Int) (W : Nat → Int) (S : Nat → Bool × Int × Int) : Prop where
 size : cs.size = 1282
 b : cs[0]? = some (.int .i64 B)
 p : cs[1]? = some (.int .i64 P)
 row : ∀ b p, b < 64 → p < 16 → cs[2 + b * 16 + p]? = some (.int .i64 (R b p))
 wor : ∀ b, b < 64 → cs[1026 + b]? = some (.int .i64 (W b))
 th : ∀ q, q < 64 → cs[1090 + q * 3]? = some (.bool (S q).1)
 bk : ∀ q, q < 64 → cs[1090 + q * 3 + 1]? = some (.int .i64 (S q).2.1)
 pg : ∀ q, q < 64 → cs[1090 + q * 3 + 2]? = some (.int .i64 (S q).2.2)
def upd2 (R : Nat → Nat → Int) (b p : Nat) (x : Int) : Nat → Nat → Int := fun i j => if i = b ∧ j = p then x else R i j
section
variable {cs : Array Value} {B P : Nat} {R : Nat → Nat → Int} {W : Nat → Int} {S : Nat → Bool × Int × Int}
theorem TabC.setRow (h : TabC cs B P R W S) {b p : Nat} (hb : b < 64) (hp : p < 16) (x : Int) : TabC (cs.setIfInBounds (2 + b * 16 + p) (.int .i64 x)) B P (upd2 R b p x) W S where
 size := by rw [Array.size_setIfInBounds]; exact h.size
 b := by rw [Array.getElem?_setIfInBounds_ne (by omega)]; exact h.b
 p := by rw [Array.getElem?_setIfInBounds_ne (by omega)]; exact h.p
 row := fun i j hi hj => by
   unfold upd2
   by_cases e : i = b ∧ j = p
   · obtain ⟨rfl, rfl⟩ := e
     rw [if_pos ⟨rfl, rfl⟩, Array.getElem?_setIfInBounds_self_of_lt (by rw [h.size]; omega)]
   · rw [if_neg e, Array.getElem?_setIfInBounds_ne (by omega)]
     exact h.row i j hi hj
 wor := fun i hi => by rw [Array.getElem?_setIfInBounds_ne (by omega)]; exact h.wor i hi
 th := fun i hi => by rw [Array.getElem?_setIfInBounds_ne (by omega)]; exact h.th i hi
 bk := fun i hi => by rw [Array.getElem?_setIfInBounds_ne (by omega)]; exact h.bk i hi
 pg := fun i hi => by rw [Array.getElem?_setIfInBounds_ne (by omega)]; exact h.pg i hi
theorem TabC.setB (h : TabC cs B P R W S) (n : Nat) : TabC (cs.setIfInBounds 0 (.int .i64 n)) n P R W S where
 size := by rw [Array.size_setIfInBounds]; exact h.size
 b := by rw [Array.getElem?_setIfInBounds_self_of_lt (by rw [h.size]; omega)]
 p := by rw [Array.getElem?_setIfInBounds_ne (by omega)]; exact h.p
 row := fun i j hi hj => by rw [Array.getElem?_setIfInBounds_ne (by omega)]; exact h.row i j hi hj
 wor := fun i hi => by rw [Array.getElem?_setIfInBounds_ne (by omega)]; exact h.wor i hi
 th := fun i hi => by rw [Array.getElem?_setIfInBounds_ne (by omega)]; exact h.th i hi
 bk := fun i hi => by rw [Array.getElem?_setIfInBounds_ne (by omega)]; exact h.bk i hi
 pg := fun i hi => by rw [Array.getElem?_setIfInBounds_ne (by omega)]; exact h.pg i hi
end
structure TabS (w : World) (t : Nat) (B P : Nat) (R : Nat → Nat → Int) (W : Nat → Int) (S : Nat → Bool × Int × Int) : Prop where
 bl : B ≤ 64
 pl : 2 ≤ P ∧ P ≤ 16
 is : ∃ cs, Blk w t 192 cs ∧ TabC cs B P R W S
section
variable {w w' : World} {t B P : Nat} {R : Nat → Nat → Int} {W : Nat → Int} {S : Nat → Bool × Int × Int}
theorem TabS.lt (h : TabS w t B P R W S) : t < w.heap.size := by obtain ⟨_, h1, _⟩ := h.is; exact h1.lt
theorem TabS.b (h : TabS w t B P R W S) : w.cell? ⟨t, 0, none⟩ = some (.int .i64 B) := by obtain ⟨_, h1, h2⟩ := h.is; exact (h1.cell 0).trans h2.b
theorem TabS.row (h : TabS w t B P R W S) {b p : Nat} (hb : b < 64) (hp : p < 16) : w.cell? ⟨t, 2 + b * 16 + p, none⟩ = some (.int .i64 (R b p)) := by obtain ⟨_, h1, h2⟩ := h.is; exact (h1.cell _).trans (h2.row b p hb hp)
theorem TabS.free (h : TabS w t B P R W S) (i : Nat) : w.frozen? ⟨t, i, none⟩ = false := by obtain ⟨_, h1, _⟩ := h.is; exact h1.free i
theorem TabS.kept {r : Option Nat} (h : TabS w t B P R W S) (hg : w.grownBy w' r) (hne : some t ≠ r) : TabS w' t B P R W S := by obtain ⟨cs, h1, h2⟩ := h.is; exact ⟨h.bl, h.pl, cs, h1.kept hg hne, h2⟩
theorem TabS.ext (h : TabS w t B P R W S) (hg : w.grownBy w' none) : TabS w' t B P R W S := h.kept hg (by simp)
theorem TabS.setRow (h : TabS w t B P R W S) {b p : Nat} (hb : b < 64) (hp : p < 16) (x : Int) : TabS (w.setCell ⟨t, 2 + b * 16 + p, none⟩ (.int .i64 x)) t B P (upd2 R b p x) W S := by
 obtain ⟨cs, h1, h2⟩ := h.is
 exact ⟨h.bl, h.pl, _, h1.set _ _, h2.setRow hb hp x⟩
theorem TabS.setB (h : TabS w t B P R W S) {n : Nat} (hn : n ≤ 64) : TabS (w.setCell ⟨t, 0, none⟩ (.int .i64 n)) t n P R W S := by
 obtain ⟨cs, h1, h2⟩ := h.is
 exact ⟨hn, h.pl, _, h1.set _ _, h2.setB n⟩
end
end Go.Proofs.YtfgifgglcafadaaGreatDoor

namespace Go.Proofs.YtfgifgglcafadaaGreatDoor
set_option linter.unusedVariables false
set_option linter.unusedSimpArgs false
set_option linter.unusedVariables false
set_option linter.unusedSimpArgs false
set_option maxRecDepth 100000
open Go.RowKit
section
variable {ops : Array Oper} {rest : List Oper} {o : Oper} {a : Act} {w : World} {Q : Exit → Act → World → Prop}
end
theorem drew_any14 {w w' : World} {r : Option Nat} (h : w.grownBy w' r) : w.grownBy w'.drew r := ⟨h.os, h.tape, h.output, h.size, h.block⟩
section
variable {w : World} {t B P : Nat} {R : Nat → Nat → Int} {W : Nat → Int} {S : Nat → Bool × Int × Int}
end
end Go.Proofs.YtfgifgglcafadaaGreatDoor

namespace Go.Proofs.YtfgifgglcafadaaGreatDoor
set_option linter.unusedVariables false
set_option linter.unusedSimpArgs false
set_option linter.unusedVariables false
set_option linter.unusedSimpArgs false
set_option maxRecDepth 100000
open Go.RowKit
structure Inv14 (B P : Nat) (R : Nat → Nat → Int) (W : Nat → Int) (S : Nat → Bool × Int × Int) (rs : List R14) : Prop where
 ok : ∀ r ∈ rs, 0 ≤ r.pl ∧ r.pl < 64 ∧ 0 ≤ r.bk ∧ r.bk < B ∧ 0 ≤ r.pg ∧ r.pg < P
 pls : (rs.map (·.pl)).Nodup
 pgs : (rs.map fun r => (r.bk, r.pg)).Nodup
 row : ∀ b p : Nat, b < B → p < 16 → R b p = placeN rs b p
 wor : ∀ b : Nat, b < 64 → W b = (worthN rs b : Int)
 spo : ∀ q : Nat, q < 64 → S q = ((atN rs q).2.2, (atN rs q).1, (atN rs q).2.1)
section
variable {B P : Nat} {R : Nat → Nat → Int} {W : Nat → Int} {S : Nat → Bool × Int × Int} {rs : List R14}
theorem Inv14.none (B P : Nat) (R : Nat → Nat → Int) (h : ∀ b p : Nat, b < B → p < 16 → R b p = -1) : Inv14 B P R (fun _ => 0) (fun _ => (false, 0, 0)) [] :=
 ⟨fun r hr => (by cases hr), List.nodup_nil, List.nodup_nil, h, fun _ _ => rfl, fun _ _ => rfl⟩
end
end Go.Proofs.YtfgifgglcafadaaGreatDoor

namespace Go.Proofs.YtfgifgglcafadaaGreatDoor
set_option linter.unusedVariables false
set_option linter.unusedSimpArgs false
set_option linter.unusedVariables false
set_option linter.unusedSimpArgs false
set_option maxRecDepth 100000
open Go.RowKit
def TabA (w : World) (t B P : Nat) (rs : List R14) : Prop := ∃ R W S, TabS w t B P R W S ∧ Inv14 B P R W S rs
theorem grown_any14 {w w1 : World} {r : Option Nat} (h : w.grownBy w1 none) : w.grownBy w1 r := ⟨h.os, h.tape, h.output, h.size, fun k hk _ => h.block k hk (by simp)⟩
section
variable {w w' : World} {t B P : Nat} {rs : List R14}
theorem TabA.kept {r : Option Nat} (h : TabA w t B P rs) (hg : w.grownBy w' r) (hne : some t ≠ r) : TabA w' t B P rs := by obtain ⟨R, W, S, h1, h2⟩ := h; exact ⟨R, W, S, h1.kept hg hne, h2⟩
theorem TabA.ext (h : TabA w t B P rs) (hg : w.grownBy w' none) : TabA w' t B P rs := h.kept hg (by simp)
theorem TabA.lt (h : TabA w t B P rs) : t < w.heap.size := by obtain ⟨R, W, S, h1, _⟩ := h; exact h1.lt
end
end Go.Proofs.YtfgifgglcafadaaGreatDoor

namespace Go.Proofs.YtfgifgglcafadaaGreatDoor
set_option linter.unusedVariables false
set_option linter.unusedSimpArgs false
set_option linter.unusedVariables false
set_option linter.unusedSimpArgs false
set_option maxRecDepth 100000
open Go.RowKit
section
variable {w w' : World} {t B P : Nat} {rs : List R14}
end
def GrowS (w wr : World) (t B P : Nat) (R : Nat → Nat → Int) (W : Nat → Int) (S : Nat → Bool × Int × Int) (k j : Nat) : Prop :=
 ∃ R', TabS wr t (B + k) P R' W S ∧ (∀ b p, b < B → p < 16 → R' b p = R b p) ∧ (∀ b p, B ≤ b → b < B + k → p < 16 → R' b p = -1) ∧ (∀ p, p < j → R' (B + k) p = -1) ∧ w.grownBy wr (some t)
section
variable {w wr : World} {t B P k j : Nat} {R : Nat → Nat → Int} {W : Nat → Int} {S : Nat → Bool × Int × Int}
theorem GrowS.start (h : TabS w t B P R W S) : GrowS w w t B P R W S 0 0 := ⟨R, h, fun _ _ _ _ => rfl, fun b p h1 h2 => by omega, fun p hp => by omega, grown_any14 (Ext.refl w)⟩
theorem GrowS.tab (h : GrowS w wr t B P R W S k j) : ∃ R', TabS wr t (B + k) P R' W S := by obtain ⟨R', h, _⟩ := h; exact ⟨R', h⟩
theorem GrowS.put (h : GrowS w wr t B P R W S k j) (hb : B + k < 64) (hj : j < 16) : GrowS w (wr.drew.setCell ⟨t, 2 + (B + k) * 16 + j, none⟩ (.int .i64 (-1))) t B P R W S k (j + 1) := by
 obtain ⟨R', h1, h2, h3, h4, h5⟩ := h
 refine ⟨_, (h1.ext (Ext.drew wr)).setRow hb hj (-1), fun b p hb2 hp => ?_, fun b p hb2 hb3 hp => ?_, fun p hp => ?_, set_chain14 (drew_any14 h5) (g14_set1 _ t _ _)⟩
 · unfold upd2
   rw [if_neg (by omega)]
   exact h2 b p hb2 hp
 · unfold upd2
   rw [if_neg (by omega)]
   exact h3 b p hb2 hb3 hp
 · unfold upd2
   by_cases e : p = j
   · rw [if_pos ⟨rfl, e⟩]
   · rw [if_neg (by omega)]
     exact h4 p (by omega)
theorem GrowS.step (h : GrowS w wr t B P R W S k 16) (hb : B + k < 64) : GrowS w (wr.setCell ⟨t, 0, none⟩ (.int .i64 ((B + k + 1 : Nat) : Int))) t B P R W S (k + 1) 0 := by
 obtain ⟨R', h1, h2, h3, h4, h5⟩ := h
 refine ⟨R', h1.setB (by omega), h2, fun b p hb2 hb3 hp => ?_, fun p hp => by omega, set_chain14 h5 (g14_set1 wr t _ _)⟩
 by_cases e : b = B + k
 · subst e; exact h4 p hp
 · exact h3 b p hb2 (by omega) hp
set_option maxHeartbeats 1600000 in
theorem grow_is (h : TabS w t B P R W S) (g : Int) (hg : -9223372036854775808 ≤ g ∧ g ≤ 9223372036854775807) :
   Calls Tryz.prog 150 #[.pointer (some ⟨t, 0, none⟩), .int .i64 g] w fun e w' => e = .returned (.tuple #[]) ∧ GrowS w w' t B P R W S (min g (64 - (B : Int))).toNat 0 := by
 have c0 := h.b
 have hbl := h.bl
 have HS := Lib.hid (GrowS.start h)
 obtain ⟨m, hm⟩ : ∃ m, min g (64 - (B : Int)) = m := ⟨_, rfl⟩
 rw [hm]
 have hm64 : m ≤ 64 - (B : Int) := by rw [← hm]; exact Int.min_le_right _ _
 have HM := Lib.hid hm
 obtain ⟨M, hM⟩ : ∃ M, m.toNat = M := ⟨_, rfl⟩
 rw [hM]
 have hcond : ∀ k : Nat, decide ((k : Int) < m) = decide (k < M) := fun k => by
   by_cases hk : k < M
   · rw [decide_eq_true hk, decide_eq_true (by omega)]
   · rw [decide_eq_false hk, decide_eq_false (by omega)]
 have hMB : B + M ≤ 64 := by omega
 have HMM := Lib.hid (And.intro hM (And.intro hm64 hg))
 have HC := Lib.hid hcond
 clear h hm hM hcond hm64 hg
 go_enter Tryz.func150, Tryz.ntmps150
 go_upto_region 1 with fail
 go_cut [13, 14] (fun s i wx => s = .int .i64 m ∧ i = .int .i64 0 ∧ w = wx)
 case first =>
   have hg := HMM.out.2.2
   go_wp2
   all_goals
     go_meet
     exact ⟨congrArg (Value.int .i64) (by have := HM.out; omega), rfl, rfl⟩
 case rest =>
   obtain ⟨rfl, rfl, rfl⟩ := hcut
   clear c0
   go_wp2
   go_loopw [14] (fun i wr => ∃ k : Nat, k ≤ M ∧ i = .int .i64 k ∧ GrowS w wr t B P R W S k 0) (fun i _ => M - (intOf i).toNat)
   case atStart => exact ⟨0, Nat.zero_le _, rfl, HS.out⟩
   case round =>
     clear HS
     obtain ⟨k, hk, rfl, hG⟩ := hrel
     obtain ⟨wo, rfl⟩ : ∃ wo : World, wo = wr := ⟨_, rfl⟩
     have HG := Lib.hid hG
     clear hG
     have hck := HC.out k
     by_cases hlt : k < M
     · rw [decide_eq_true hlt] at hck
       go_wp2
       go_loopw [16] (fun i wx => ∃ j : Nat, j ≤ 16 ∧ i = .int .i64 j ∧ GrowS w wx t B P R W S k j) (fun i _ => 16 - (intOf i).toNat)
       case atStart => exact ⟨0, Nat.zero_le _, rfl, HG.out⟩
       case round =>
         clear HG
         obtain ⟨j, hj, rfl, hG⟩ := hrel
         obtain ⟨R1, hT⟩ := hG.tab
         have HG := Lib.hid hG
         clear hG
         by_cases hlt2 : j < 16
         · have hTd := hT.ext (Ext.drew wr)
           have hS : (fun x0 : World => x0.cell? ⟨t, 0, none⟩ = some (.int .i64 ((B + k : Nat) : Int))) wr.drew := hTd.b
           have c2 := hTd.row (b := B + k) (p := j) (by omega) hlt2
           have f2 := hTd.free (2 + (B + k) * 16 + j)
           have HN := Lib.hid (HG.out.put (by omega) hlt2)
           have hS6 : (fun x0 : World => x0.cell? ⟨t, 0, none⟩ = some (.int .i64 ((B + k : Nat) : Int))) (wr.drew.setCell ⟨t, 2 + (B + k) * 16 + j, none⟩ (.int .i64 (-1))) := by obtain ⟨_, h⟩ := HN.out.tab; exact h.b
           clear hT hTd HG
           have hBk : B + k < 64 := by omega
           obtain ⟨b, hb⟩ : ∃ b, B + k = b := ⟨_, rfl⟩
           rw [hb] at hS c2 f2 HN hS6 hBk
           have HBK := Lib.hid hb
           clear hb
           go_wp2
           refine region_line [(0, true), (1, true), (2, true), (3, true), (4, true), (5, true), (6, true), (7, true), (8, true), (9, true), (10, false)] (fun x0 : World => x0.cell? ⟨t, 0, none⟩ = some (.int .i64 (b : Int))) (by kernel_rfl) (by kernel_rfl) (fun _ _ _ d _ h => by cases d <;> exact h) hS ?_
           iterate 10 (refine line_read (a' := ?_) rfl (by kernel_rfl) (by kernel_rfl) hS (fun x0 hx K hK => ?_) ?_; rotate_left; · (go_wp2; exact hK))
           refine line_act (by rfl) (fun K hK => ?_)
           go_wp2
           refine hK _ _ (fun x0 : World => x0.cell? ⟨t, 0, none⟩ = some (.int .i64 (b : Int))) hS6 (fun x hx => hx) ?_
           clear hK K hS hS6 c2 f2
           refine line_end ?_
           go_wp2
           go_roundw
           case rel => exact ⟨j + 1, by omega, by go_num, HN.out⟩
           case measure => simp [intOf]; omega
         · obtain rfl : j = 16 := by omega
           have c0 := hT.b
           have f0 := hT.free 0
           have HN := Lib.hid (HG.out.step (by omega))
           have hBk : B + k < 64 := by omega
           clear hT HG
           go_wp2
           go_roundw
           case rel => exact ⟨k + 1, by omega, by go_num, HN.out⟩
           case measure => simp [intOf]; omega
     · rw [decide_eq_false hlt] at hck
       obtain rfl : k = M := by omega
       go_wp2
       go_end0
       exact ⟨rfl, HG.out⟩
end
end Go.Proofs.YtfgifgglcafadaaGreatDoor

namespace Go.Proofs.YtfgifgglcafadaaGreatDoor
set_option linter.unusedVariables false
set_option linter.unusedSimpArgs false
set_option linter.unusedVariables false
set_option linter.unusedSimpArgs false
set_option maxRecDepth 100000
open Go.RowKit
def zeroT (P : Int) : Array Value := (([Value.int .i64 0, Value.int .i64 P] : List Value) ++ List.replicate 1088 (Value.int .i64 0) ++ (List.replicate 64 [Value.bool false, Value.int .i64 0, Value.int .i64 0]).flatten).toArray
theorem tab_buildV (p : Int) (w : World) : (Instr.build 192 #[(1, .int .i64 p)]).run Tryz.prog w = .ok (.agg (zeroT p)) w := by kernel_rfl
theorem tab_build {ops : Array Oper} {rest : List Oper} {o : Oper} {a : Act} {w : World} {Q : Exit → Act → World → Prop} (hgd : o.guard = none) (x : Operand) (ho : o.op = .build 192 #[(1, x)]) {p : Int} (hx : a.eval x = .int .i64 p)
   (h : wpList Tryz.prog ops Q rest (a.put o.dst (.agg (zeroT p))) w) : wpList Tryz.prog ops Q (o :: rest) a w := by
 refine wpList_plain hgd fun K hK => ?_
 have hm : (#[((1 : Nat), x)].map fun (q : Nat × Operand) => (q.1, a.eval q.2)) = #[(1, .int .i64 p)] := by simp [hx]
 unfold Oper.wp execOp
 simp only [ho, hm, Sem.run_bind, tab_buildV, Result.andThen_ok, Sem.run_pure]
 exact hK _ _ h
theorem flat_rep (x y z : Value) : ∀ (n q i : Nat), q < n → i < 3 → (List.replicate n [x, y, z]).flatten[q * 3 + i]? = [x, y, z][i]?
 | 0, q, i, h, _ => by omega
 | n + 1, 0, i, _, hi => by
   rw [List.replicate_succ, List.flatten_cons, List.getElem?_append_left (by simp; omega)]
   congr 1
   omega
 | n + 1, q + 1, i, h, hi => by
   rw [List.replicate_succ, List.flatten_cons, List.getElem?_append_right (by simp; omega), ← flat_rep x y z n q i (by omega) hi]
   congr 1
   simp
   omega
theorem flat_len (l : List Value) : ∀ n, (List.replicate n l).flatten.length = n * l.length
 | 0 => by simp
 | n + 1 => by rw [List.replicate_succ, List.flatten_cons, List.length_append, flat_len l n, Nat.add_mul]; omega
theorem zeroT_is (P : Nat) : TabC (zeroT P) 0 P (fun _ _ => 0) (fun _ => 0) (fun _ => (false, 0, 0)) := by
 have low : ∀ i, 2 ≤ i → i < 1090 → (zeroT P)[i]? = some (.int .i64 0) := fun i h1 h2 => by
   unfold zeroT
   rw [List.getElem?_toArray, List.getElem?_append_left (by simp; omega), List.getElem?_append_right (by simp; omega), List.getElem?_replicate, if_pos (by simp; omega)]
 have hig : ∀ q i, q < 64 → i < 3 → (zeroT P)[1090 + q * 3 + i]? = [Value.bool false, Value.int .i64 0, Value.int .i64 0][i]? := fun q i h1 h2 => by
   unfold zeroT
   rw [List.getElem?_toArray, List.getElem?_append_right (by simp; omega), ← flat_rep _ _ _ 64 q i h1 h2]
   congr 1
   simp
   omega
 refine ⟨?_, rfl, rfl, fun b p hb hp => low _ (by omega) (by omega), fun b hb => low _ (by omega) (by omega), fun q hq => hig q 0 hq (by omega), fun q hq => hig q 1 hq (by omega), fun q hq => hig q 2 hq (by omega)⟩
 unfold zeroT
 rw [List.size_toArray, List.length_append, List.length_append, flat_len, List.length_replicate]
 rfl
def newOk (b p : Int) : Prop := 1 ≤ b ∧ b ≤ 64 ∧ 2 ≤ p ∧ p ≤ 16
theorem new14_ok (b p : Nat) (w : World) (h : newOk b p) : Calls Tryz.prog 142 #[.int .i64 b, .int .i64 p] w fun e w' => ∃ t, e = .returned (.pointer (some ⟨t, 0, none⟩)) ∧ TabA w' t b p [] ∧ w.heap.size ≤ t ∧ w.grownBy w' none := by
 unfold newOk at h
 have b1 : decide ((b : Int) < 1) = false := by simp; omega
 have b2 : decide (64 < (b : Int)) = false := by simp; omega
 have b3 : decide ((p : Int) < 2) = false := by simp; omega
 have b4 : decide (16 < (p : Int)) = false := by simp; omega
 have hE := World.grownBy_alloc w (.cells (zeroT p) 192) none
 have hT : TabS (w.alloc (.cells (zeroT p) 192)) w.heap.size 0 p (fun _ _ => 0) (fun _ => 0) (fun _ => (false, 0, 0)) := ⟨by omega, by omega, _, Blk.new w _ _, zeroT_is p⟩
 have GROW := grow_is hT b (by omega)
 have hM : 0 + (min (b : Int) (64 - ((0 : Nat) : Int))).toNat = b := by omega
 have HE := Lib.hid hE
 have HM := Lib.hid hM
 clear h hE hT hM
 obtain ⟨M, hM⟩ : ∃ M, (min (b : Int) (64 - ((0 : Nat) : Int))).toNat = M := ⟨_, rfl⟩
 rw [hM] at GROW
 have HM2 := Lib.hid hM
 clear hM
 go_enter Tryz.func142, Tryz.ntmps142
 go_wp2_with (first
   | (refine tab_build rfl _ rfl rfl ?_)
   | (go_at_call 150; refine GROW.mono ?_; rintro e w2 ⟨rfl, hG2⟩))
 go_ret
 obtain ⟨R', h2, h3, h4, _, h5⟩ := hG2
 have hMb : 0 + M = b := by have h6 := HM.out; have h7 := HM2.out; omega
 rw [hMb] at h2 h4
 exact ⟨_, rfl, ⟨R', _, _, h2, Inv14.none b p R' (fun i j hi hj => h4 i j (Nat.zero_le _) hi hj)⟩, Nat.le_refl _, g14_new HE.out h5 (Nat.le_refl _)⟩
section
variable {w w' : World} {t B P : Nat} {rs : List R14}
end
end Go.Proofs.YtfgifgglcafadaaGreatDoor

namespace Go.Proofs.YtfgifgglcafadaaGreatDoor
set_option linter.unusedVariables false
set_option linter.unusedSimpArgs false
set_option linter.unusedVariables false
set_option linter.unusedSimpArgs false
set_option maxRecDepth 100000
open Go.RowKit
end Go.Proofs.YtfgifgglcafadaaGreatDoor

namespace Go.Proofs.YtfgifgglcafadaaGreatDoor
set_option linter.unusedVariables false
set_option linter.unusedSimpArgs false
set_option linter.unusedVariables false
set_option linter.unusedSimpArgs false
set_option maxRecDepth 100000
open Go.RowKit
end Go.Proofs.YtfgifgglcafadaaGreatDoor

namespace Go.Proofs.YtfgifgglcafadaaGreatDoor
set_option linter.unusedVariables false
set_option linter.unusedSimpArgs false
set_option linter.unusedVariables false
set_option linter.unusedSimpArgs false
set_option maxRecDepth 100000
open Go.RowKit
end Go.Proofs.YtfgifgglcafadaaGreatDoor

namespace Go.Proofs.YtfgifgglcafadaaGreatDoor
set_option linter.unusedVariables false
set_option linter.unusedSimpArgs false
set_option linter.unusedVariables false
set_option linter.unusedSimpArgs false
set_option maxRecDepth 100000
open Go.RowKit
end Go.Proofs.YtfgifgglcafadaaGreatDoor

namespace Go.Proofs.YtfgifgglcafadaaGreatDoor
set_option linter.unusedVariables false
set_option linter.unusedSimpArgs false
set_option linter.unusedVariables false
set_option linter.unusedSimpArgs false
set_option maxRecDepth 100000
open Go.RowKit
end Go.Proofs.YtfgifgglcafadaaGreatDoor

namespace Go.Proofs.YtfgifgglcafadaaGreatDoor
set_option linter.unusedVariables false
set_option linter.unusedSimpArgs false
set_option linter.unusedVariables false
set_option linter.unusedSimpArgs false
set_option maxRecDepth 100000
open Go.RowKit
def inB (v l m : Int) : Bool := decide (l ≤ v ∧ v ≤ m)
set_option maxHeartbeats 400000 in
theorem ruleWithin_any (v l m : Int) (w : World) :
   Calls Tryz.prog 166 #[.int .i64 v, .int .i64 l, .int .i64 m] w fun e w' => e = .returned (.bool (inB v l m)) ∧ w = w' := by
 by_cases h0 : l ≤ v
 · have e0 : decide (l ≤ v) = true := by simpa using h0
   go_enter Tryz.func166, Tryz.ntmps166
   go_wp2
   go_ret
   exact ⟨ret_bool (by simp [inB, h0]), rfl⟩
 · have e0 : decide (l ≤ v) = false := by simpa using h0
   go_enter Tryz.func166, Tryz.ntmps166
   go_wp2
   go_ret
   exact ⟨ret_bool (by simp [inB]; omega), rfl⟩
theorem rulePages_any (p : Int) (w : World) :
   Calls Tryz.prog 170 #[.int .i64 p] w fun e w' => e = .returned (.bool (inB p 2 16)) ∧ w = w' := by
 go_enter Tryz.func170, Tryz.ntmps170
 go_wp2_with (go_at_call 166; refine (ruleWithin_any _ _ _ _).mono ?_; rintro e w' ⟨rfl, rfl⟩)
 go_ret
 exact ⟨rfl, rfl⟩
def roomE (s r : Int) : Int := if inB s 1 64 = true ∧ inB r 0 8 = true then 0 else 5
set_option maxHeartbeats 400000 in
theorem ruleCheck_any (s r : Int) (w : World) :
   Calls Tryz.prog 136 #[.int .i64 s, .int .i64 r] w fun e w' => e = .returned (.int .i64 (roomE s r)) ∧ w = w' := by
 unfold roomE
 generalize h1 : inB s 1 64 = b1
 generalize h2 : inB r 0 8 = b2
 have W1 := Lib.hid h1
 have W2 := Lib.hid h2
 clear h1 h2
 cases b1 <;> cases b2
 all_goals
   go_enter Tryz.func136, Tryz.ntmps136
   go_wp2_with (go_at_call 166; refine (ruleWithin_any _ _ _ _).mono ?_; rintro e w' ⟨rfl, rfl⟩; first | rw [W1.out] | rw [W2.out])
   go_ret
   exact ⟨rfl, rfl⟩
set_option maxHeartbeats 400000 in
theorem ruleData_any (s p : Int) (w : World) (hs : 1 ≤ s ∧ s ≤ 64) (hp : 2 ≤ p ∧ p ≤ 16) :
   Calls Tryz.prog 171 #[.int .i64 s, .int .i64 p] w fun e w' => e = .returned (.int .i64 (s / p + 2)) ∧ w = w' := by
 have C := ruleCheck_any s 0
 have P := rulePages_any p
 rw [show roomE s 0 = 0 by simp [roomE, inB]; omega] at C
 rw [show inB p 2 16 = true by simp [inB]; omega] at P
 obtain ⟨s0, s1⟩ := hs
 obtain ⟨p0, p1⟩ := hp
 have q0 : 0 ≤ s / p := Int.ediv_nonneg (by omega) (by omega)
 have q1 : s / p ≤ 64 := Int.le_trans (Int.ediv_le_self _ (by omega)) s1
 go_enter Tryz.func171, Tryz.ntmps171
 go_wp2_with (first
   | (go_at_call 136; refine (C _).mono ?_; rintro e w' ⟨rfl, rfl⟩)
   | (go_at_call 170; refine (P _).mono ?_; rintro e w' ⟨rfl, rfl⟩))
 go_ret
 exact ⟨rfl, rfl⟩
set_option maxHeartbeats 400000 in
theorem ruleTotal_any (s r p : Int) (w : World) (hs : 1 ≤ s ∧ s ≤ 64) (hr : 0 ≤ r ∧ r ≤ 8) (hp : 2 ≤ p ∧ p ≤ 16) :
   Calls Tryz.prog 140 #[.int .i64 s, .int .i64 r, .int .i64 p] w fun e w' => e = .returned (.int .i64 (s / p + 2 + r)) ∧ w = w' := by
 have C := ruleCheck_any s r
 have P := rulePages_any p
 have D := fun w => ruleData_any s p w hs hp
 rw [show roomE s r = 0 by simp [roomE, inB]; omega] at C
 rw [show inB p 2 16 = true by simp [inB]; omega] at P
 obtain ⟨s0, s1⟩ := hs
 obtain ⟨p0, p1⟩ := hp
 obtain ⟨r0, r1⟩ := hr
 have q0 : 0 ≤ s / p := Int.ediv_nonneg (by omega) (by omega)
 have q1 : s / p ≤ 64 := Int.le_trans (Int.ediv_le_self _ (by omega)) s1
 go_enter Tryz.func140, Tryz.ntmps140
 go_wp2_with (first
   | (go_at_call 136; refine (C _).mono ?_; rintro e w' ⟨rfl, rfl⟩)
   | (go_at_call 170; refine (P _).mono ?_; rintro e w' ⟨rfl, rfl⟩)
   | (go_at_call 171; refine (D _).mono ?_; rintro e w' ⟨rfl, rfl⟩))
 go_ret
 exact ⟨rfl, rfl⟩
end Go.Proofs.YtfgifgglcafadaaGreatDoor

namespace Go.Proofs.YtfgifgglcafadaaGreatDoor
set_option linter.unusedVariables false
set_option linter.unusedSimpArgs false
set_option linter.unusedVariables false
set_option linter.unusedSimpArgs false
set_option maxRecDepth 100000
open Go.RowKit
theorem buf_put18 (w : World) (b : Nat) (row : List Chg) (x : Chg) (hA : BufA w b row) (hl : row.length ≤ 4) (hd : x.dt.size ≤ 9223372036854775807) : Calls Tryz.prog 183 #[.pointer (some ⟨b, 0, none⟩), chgV x] w fun e w' => e = .returned (.int .i64 (putE row x)) ∧ BufA w' b (putR row x) ∧ w.grownBy w' (some b) := by
 obtain ⟨rs, f, c, hS, rfl⟩ := hA
 have hlen := ringL_len rs f c
 have hf := hS.fl
 unfold putR putE
 by_cases h0 : chkE x.pl x.kd x.dt = 0
 · rw [if_pos h0]
   by_cases h4 : (ringL rs f c).length = 4
   · rw [if_pos h4, if_neg (by decide)]
     have hc4 : c = 4 := by omega
     subst hc4
     exact (put_full hS x hd h0).mono fun e w' ⟨h1, h2⟩ => ⟨h1, ⟨rs, f, 4, hS.ext h2, rfl⟩, grown_any13 h2⟩
   · rw [if_neg h4, if_pos rfl]
     have hcl := hS.cl
     exact (put_ok hS (by omega) x hd h0).mono fun e w' ⟨h1, h2, h3⟩ => ⟨h1, ⟨_, f, c + 1, h2, (ringL_put hS.four f c (by omega) x).symm⟩, h3⟩
 · rw [if_neg h0, if_neg h0]
   exact (put_bad hS x hd h0).mono fun e w' ⟨h1, h2⟩ => ⟨h1, ⟨rs, f, c, hS.ext h2, rfl⟩, grown_any13 h2⟩
theorem buf_last18 (w : World) (b : Nat) (row : List Chg) (p : Int) (hA : BufA w b row) (hl : row.length ≤ 4) : Calls Tryz.prog 97 #[.pointer (some ⟨b, 0, none⟩), .int .i64 p] w fun e w' => e = .returned (.tuple #[chgV (lastN row p).1, .bool (lastN row p).2]) ∧ w.grownBy w' none := by
 obtain ⟨rs, f, c, hS, rfl⟩ := hA
 exact last_is hS p
theorem buf_len18 (w : World) (b : Nat) (row : List Chg) (hA : BufA w b row) (hl : row.length ≤ 4) : Calls Tryz.prog 95 #[.pointer (some ⟨b, 0, none⟩)] w fun e w' => e = .returned (.int .i64 row.length) ∧ w.grownBy w' none := by
 obtain ⟨rs, f, c, hS, rfl⟩ := hA
 rw [ringL_len]
 exact (len_is hS).mono fun e w' ⟨h1, h2⟩ => ⟨h1, by subst h2; exact Ext.refl w⟩
theorem buf_full18 (w : World) (b : Nat) (row : List Chg) (hA : BufA w b row) (hl : row.length ≤ 4) : Calls Tryz.prog 182 #[.pointer (some ⟨b, 0, none⟩)] w fun e w' => e = .returned (.bool (decide (row.length = 4))) ∧ w.grownBy w' none := by
 obtain ⟨rs, f, c, hS, rfl⟩ := hA
 rw [ringL_len]
 exact (full_is hS).mono fun e w' ⟨h1, h2⟩ => ⟨h1, by subst h2; exact Ext.refl w⟩
structure SC where
 S : NShape
 zs : Nat → List Int
 who : Int
 ep : Int
 sz : Int
 sp : Int
 bl : List Int
structure SM where
 n : NS
 rs : List R14
 q : List Chg
 sq : Int
 fr : Int
 ro : Bool
def SC.ph (c : SC) (b : Int) : Int := c.bl.getD b.toNat 0
def badB (c : SC) (m : SM) (b : Nat) : Bool := m.n.mr (c.ph b).toNat
def nextB (c : SC) (m : SM) (b : Nat) : Nat := nextN (m.n.L (c.ph b).toNat) c.S.pg
def badN (c : SC) (m : SM) : Nat := ((List.range c.bl.length).filter (badB c m)).length
def freeB (c : SC) (m : SM) (b : Nat) : Bool := decide ((b : Int) ≠ m.fr) && (decide (nextB c m b = 0) && !badB c m b)
def freeL (c : SC) (m : SM) : List Int := List.map (fun b : Nat => (b : Int)) ((List.range c.bl.length).filter (freeB c m))
def lacE (c : SC) (p : Int) : Int := if p < 0 ∨ c.sz ≤ p then 5 else 0
end Go.Proofs.YtfgifgglcafadaaGreatDoor

namespace Go.Proofs.YtfgifgglcafadaaGreatDoor
set_option linter.unusedVariables false
set_option linter.unusedSimpArgs false
set_option linter.unusedVariables false
set_option linter.unusedSimpArgs false
set_option maxRecDepth 100000
open Go.RowKit
structure SP where
 sb : Nat
 tb : Nat
 bb : Nat
 V : Nat → Value
 bv : Value
def stC (p : SP) (c : SC) (m : SM) : Array Value :=
 #[.pointer (some ⟨c.S.nb, 0, none⟩), .int .i64 c.who, .bool true, .int .i64 c.ep, .int .i64 c.sz, .int .i64 c.sp, p.bv, .pointer (some ⟨p.tb, 0, none⟩), .pointer (some ⟨p.bb, 0, none⟩), .int .i64 m.sq, .int .i64 m.fr, .bool m.ro]
structure StAt (w : World) (p : SP) (c : SC) (m : SM) : Prop where
 nd : NandAt w c.S p.V c.zs m.n
 tb : TabA w p.tb c.bl.length c.S.pg m.rs
 bf : BufA w p.bb m.q
 bk : Blk w p.sb 141 (stC p c m)
 iv : Ints w p.bv c.bl
 fl : Flds w
structure StOk (p : SP) (c : SC) : Prop where
 R : Roles c.S
 zl : ∀ j, j < 4 → (c.zs j).length ≤ 64
 t0 : c.S.T 0 = 0
 ts : c.S.T p.sb = 0
 tt : c.S.T p.tb = 0
 tu : c.S.T p.bb = 0
 s0 : p.sb ≠ 0
 u0 : p.tb ≠ 0
 v0 : p.bb ≠ 0
 st : p.sb ≠ p.tb
 su : p.sb ≠ p.bb
 tu2 : p.tb ≠ p.bb
 vV : ∀ j, j < 4 → ∀ k, (p.V j).ownBlock = some k → k ≠ p.sb ∧ k ≠ p.tb ∧ k ≠ p.bb
 vb : ∀ k, p.bv.ownBlock = some k → c.S.T k = 0 ∧ k ≠ p.sb ∧ k ≠ p.tb ∧ k ≠ p.bb
 bl : c.bl.length ≤ 64
 blr : ∀ i, i < c.bl.length → 2 ≤ c.bl.getD i 0 ∧ c.bl.getD i 0 < c.S.all
def tS (p : SP) (c : SC) : Nat → Nat := fun k => if k = p.sb ∨ k = p.tb ∨ k = p.bb then 7 else c.S.T k
theorem tS_zero {p : SP} {c : SC} {k : Nat} (h : tS p c k = 0) : c.S.T k = 0 ∧ k ≠ p.sb ∧ k ≠ p.tb ∧ k ≠ p.bb := by
 unfold tS at h
 split at h
 · cases h
 · rename_i hn
   exact ⟨h, fun e => hn (.inl e), fun e => hn (.inr (.inl e)), fun e => hn (.inr (.inr e))⟩
theorem Keeps.own18 {p : SP} {c : SC} {w w' : World} {r : Nat} (h : w.grownBy w' (some r)) (hr : r = p.sb ∨ r = p.tb ∨ r = p.bb) : Keeps (tS p c) w w' :=
 ⟨h.os, h.tape, h.output, h.size, fun k hk ht => h.block k hk (fun e => by
   injection e with e; subst e
   have := tS_zero ht
   rcases hr with e | e | e
   · exact this.2.1 e
   · exact this.2.2.1 e
   · exact this.2.2.2 e)⟩
theorem NandAt.other18 {w w' : World} {S : NShape} {V : Nat → Value} {zs : Nat → List Int} {s : NS} {r : Nat} (h : NandAt w S V zs s) (hR : Roles S) (hg : w.grownBy w' (some r)) (ht : S.T r = 0)
   (hb : ∀ o n, w.cell? ⟨r, o, none⟩ ≠ some (.int .u8 n)) (hV : ∀ j, j < 4 → ∀ k, (V j).ownBlock = some k → k ≠ r) : NandAt w' S V zs s := by
 have e : ∀ k, S.T k ≠ 0 → w'.heap[k]? = w.heap[k]? := fun k hk => hg.block k (h.hi k hk) (fun e => by injection e with e; rw [e] at hk; exact hk ht)
 have e3 := e S.bm (by rw [hR.tm]; decide)
 have e4 := e S.be (by rw [hR.te]; decide)
 have e6 := e S.db (by rw [hR.td]; decide)
 refine ⟨h.fix.stays (e _ (by rw [hR.tn]; decide)) (e _ (by rw [hR.tl]; decide)), fun i hi => ?_, fun i hi => (World.cell?_of_block e3).trans (h.mks i hi), fun o => (World.frozen?_of_block e3).trans (h.mkf o),
   fun i hi => (World.cell?_of_block e4).trans (h.ers i hi), fun o => (World.frozen?_of_block e4).trans (h.erf o), h.pow.stays (e _ (by rw [hR.tp]; decide)), ?_, h.tv, fun k hk => Nat.lt_of_lt_of_le (h.hi k hk) hg.size⟩
 · have hr := h.row i hi
   have er := e (S.row i) (by rw [hR.tr i hi]; omega)
   refine ⟨fun j hj => (World.cell?_of_block er).trans (hr.st j hj), fun j hj => ?_, fun j hj => (World.cell?_of_block er).trans (hr.dt j hj), fun o => (World.frozen?_of_block er).trans (hr.free o)⟩
   obtain ⟨v, h1, h2, h3⟩ := hr.bs j hj
   refine ⟨v, (World.cell?_of_block er).trans h1, ?_, h3⟩
   rcases h2 with h2 | ⟨b, off, cap, rfl, h5, h6⟩
   · exact .inl h2
   · refine .inr ⟨b, off, cap, rfl, h5, fun i hi => ?_⟩
     have hc := h6 i hi
     have hbr : b ≠ r := fun e => by subst e; exact hb _ _ hc
     exact (World.cell?_of_block (hg.block b (World.block_lt_of_cell? w _ hc) (fun e => by injection e with e; exact hbr e))).trans hc
 · exact h.drs.other hg (fun e => by injection e with e; have := hR.td; rw [e, ht] at this; cases this) (fun j hj k hk e => by injection e with e; exact hV j hj k hk e)
theorem BufA.nobyte {w : World} {b : Nat} {row : List Chg} (h : BufA w b row) (o : Nat) (n : Int) : w.cell? ⟨b, o, none⟩ ≠ some (.int .u8 n) := by
 obtain ⟨rs, f, c, hs, _⟩ := h
 intro hc
 rw [hs.blk.cell o] at hc
 obtain ⟨x0, x1, x2, x3, rfl⟩ := four_of hs.four
 have hm := Array.mem_of_getElem? hc
 simp [bufC, chgsL, chgC] at hm
section
variable {w w' : World} {p : SP} {c : SC} {m : SM}
theorem StAt.ext (h : StAt w p c m) (ok : StOk p c) (hg : w.grownBy w' none) : StAt w' p c m :=
 ⟨h.nd.ext hg ok.R, h.tb.ext hg, bufStays _ _ _ _ h.bf (hg.block _ (bufLt _ _ _ h.bf) (by simp)), h.bk.ext hg, h.iv.kept hg (by simp), h.fl.ext hg⟩
theorem StAt.buf (h : StAt w p c m) (ok : StOk p c) {q : List Chg} (hb : BufA w' p.bb q) (hg : w.grownBy w' (some p.bb)) : StAt w' p c { m with q := q } :=
 ⟨h.nd.other18 ok.R hg ok.tu h.bf.nobyte (fun j hj k hk => (ok.vV j hj k hk).2.2), h.tb.kept hg (fun e => by injection e with e; exact ok.tu2 e), hb, h.bk.kept hg (fun e => by injection e with e; exact ok.su e),
   h.iv.kept hg (fun k hk e => by injection e with e; exact (ok.vb k hk).2.2.2 e), h.fl.kept hg (fun e => by injection e with e; exact ok.v0 e.symm)⟩
theorem StAt.cells (h : StAt w p c m) : w.cell? ⟨p.sb, 0, none⟩ = some (.pointer (some ⟨c.S.nb, 0, none⟩)) ∧ w.cell? ⟨p.sb, 1, none⟩ = some (.int .i64 c.who) ∧ w.cell? ⟨p.sb, 3, none⟩ = some (.int .i64 c.ep) ∧ w.cell? ⟨p.sb, 4, none⟩ = some (.int .i64 c.sz) ∧ w.cell? ⟨p.sb, 5, none⟩ = some (.int .i64 c.sp)
   ∧ w.cell? ⟨p.sb, 6, none⟩ = some p.bv ∧ w.cell? ⟨p.sb, 7, none⟩ = some (.pointer (some ⟨p.tb, 0, none⟩)) ∧ w.cell? ⟨p.sb, 8, none⟩ = some (.pointer (some ⟨p.bb, 0, none⟩)) ∧ w.cell? ⟨p.sb, 9, none⟩ = some (.int .i64 m.sq) ∧ w.cell? ⟨p.sb, 10, none⟩ = some (.int .i64 m.fr) ∧ w.cell? ⟨p.sb, 11, none⟩ = some (.bool m.ro) :=
 ⟨(h.bk.cell 0).trans rfl, (h.bk.cell 1).trans rfl, (h.bk.cell 3).trans rfl, (h.bk.cell 4).trans rfl, (h.bk.cell 5).trans rfl, (h.bk.cell 6).trans rfl, (h.bk.cell 7).trans rfl, (h.bk.cell 8).trans rfl, (h.bk.cell 9).trans rfl, (h.bk.cell 10).trans rfl, (h.bk.cell 11).trans rfl⟩
def Gs (p : SP) (c : SC) (v : Value) (m' : SM) (w : World) (e : Ending) (w' : World) : Prop := e = .returned v ∧ StAt w' p c m' ∧ Keeps (tS p c) w w'
end
end Go.Proofs.YtfgifgglcafadaaGreatDoor

namespace Go.Proofs.YtfgifgglcafadaaGreatDoor
set_option linter.unusedVariables false
set_option linter.unusedSimpArgs false
set_option linter.unusedVariables false
set_option linter.unusedSimpArgs false
set_option maxRecDepth 100000
open Go.RowKit
theorem Tryz.sizeGeo18 : (Tryz.prog.info? 23).map (·.size) = some 4 := by kernel_rfl
theorem geo_load18 {ops : Array Oper} {rest : List Oper} {o : Oper} {a : Act} {w : World} {Q : Exit → Act → World → Prop} (hgd : o.guard = none) (x : Operand) (ho : o.op = .load 23 x) {g : Nat} (hx : a.eval x = .pointer (some ⟨g, 0, none⟩)) {c d b p : Int}
   (hr : w.rangeAt g 0 [.int .i64 c, .int .i64 d, .int .i64 b, .int .i64 p]) (h : wpList Tryz.prog ops Q rest (a.put o.dst (.agg #[.int .i64 c, .int .i64 d, .int .i64 b, .int .i64 p])) w) : wpList Tryz.prog ops Q (o :: rest) a w := by
 refine wpList_plain hgd fun K hK => wp_load_mid 23 x ho g 0 hx _ _ hr Tryz.underlying23 rfl (by rw [Tryz.sizeGeo18]; rfl) (hK _ _ h)
theorem geometry18_is {w : World} {S : NShape} (h : FixAt w S) :
   Calls Tryz.prog 141 #[.pointer (some ⟨S.nb, 0, none⟩)] w fun e w' => e = .returned (.agg #[.int .i64 S.c, .int .i64 S.d, .int .i64 S.b, .int .i64 S.p]) ∧ w.grownBy w' none := by
 have hr : (w.alloc (.cells #[.int .i64 0, .int .i64 0, .int .i64 0, .int .i64 0] 23)).rangeAt S.nb 0 [.int .i64 S.c, .int .i64 S.d, .int .i64 S.b, .int .i64 S.p] := fun j v hj => by
   have hg := World.grownBy_alloc w (.cells #[.int .i64 0, .int .i64 0, .int .i64 0, .int .i64 0] 23) none
   match j, hj with
   | 0, hj => simp at hj; subst hj; exact hg.cell h.g0 (by simp)
   | 1, hj => simp at hj; subst hj; exact hg.cell h.g1 (by simp)
   | 2, hj => simp at hj; subst hj; exact hg.cell h.g2 (by simp)
   | 3, hj => simp at hj; subst hj; exact hg.cell h.g3 (by simp)
   | j + 4, hj => simp at hj
 clear h
 generalize S.c = c at *
 generalize S.d = d at *
 generalize S.b = b at *
 generalize S.p = p at *
 go_enter Tryz.func141, Tryz.ntmps141
 go_wp2_with (refine geo_load18 rfl _ rfl rfl hr ?_)
 refine bodyPost_ret (v := .agg #[.int .i64 c, .int .i64 d, .int .i64 b, .int .i64 p]) (by simp [results, Tryz.results141, go_sem]) rfl ⟨rfl, ?_⟩
 exact World.grownBy_alloc w _ none
theorem geo_pages18 (c d b p : Int) (w : World) : (Instr.field 23 (.agg #[.int .i64 c, .int .i64 d, .int .i64 b, .int .i64 p]) 3).run Tryz.prog w = .ok (.int .i64 p) w := by kernel_rfl
def SeeB (w : World) (bs : List Nat) (x : World) : Prop := ∀ k ∈ bs, x.heap[k]? = w.heap[k]?
theorem SeeB.cell {w x : World} {bs : List Nat} (h : SeeB w bs x) {g : Nat} (hg : g ∈ bs) {o : Nat} {v : Value} (hc : w.cell? ⟨g, o, none⟩ = some v) : x.cell? ⟨g, o, none⟩ = some v := (World.cell?_of_block (h g hg)).trans hc
theorem SeeB.of_ext {w x : World} {bs : List Nat} (hg : w.grownBy x none) (hb : ∀ k ∈ bs, k < w.heap.size) : SeeB w bs x := fun k hk => hg.block k (hb k hk) (by simp)
theorem drewE {w x : World} (h : w.grownBy x none) : w.grownBy x.drew none := ⟨h.os, h.tape, h.output, h.size, h.block⟩
section
variable {w w' : World} {p : SP} {c : SC} {m : SM}
theorem StOk.phys (ok : StOk p c) {b : Nat} (hb : b < c.bl.length) : ∃ x : Nat, c.ph b = x ∧ 2 ≤ x ∧ x < c.S.all ∧ c.bl.getD b 0 = x ∧ (c.ph b).toNat = x := by
 have h := ok.blr b hb
 refine ⟨(c.bl.getD b 0).toNat, ?_, by omega, by omega, by omega, ?_⟩
 · show c.bl.getD (b : Int).toNat 0 = _
   rw [Int.toNat_natCast]; omega
 · show (c.bl.getD (b : Int).toNat 0).toNat = _
   rw [Int.toNat_natCast]
theorem StAt.at (h : StAt w p c m) {b : Nat} (hb : b < c.bl.length) : ∃ g off cap, p.bv = .slice (some ⟨g, off, none⟩) c.bl.length cap ∧ w.cell? ⟨g, off + b, none⟩ = some (.int .i64 (c.bl.getD b 0)) := by
 obtain ⟨ao, cap, g, off, hv, hc⟩ := h.iv.form
 obtain ⟨rfl, h2⟩ := hc b hb
 exact ⟨g, off, cap, hv, h2⟩
set_option maxHeartbeats 800000 in
theorem isBad18 (h : StAt w p c m) (ok : StOk p c) {b : Nat} (hb : b < c.bl.length) : Calls Tryz.prog 91 #[.pointer (some ⟨p.sb, 0, none⟩), .int .i64 (b : Int)] w fun e w' => e = .returned (.bool (badB c m b)) ∧ w.grownBy w' none := by
 obtain ⟨x, hx, _, hxa, hx2, hx3⟩ := ok.phys hb
 have B := fun (wx : World) (hE : w.grownBy wx none) => bad7_is (h.nd.ext hE ok.R) hxa
 obtain ⟨c0, _, _, _, _, c6, _⟩ := h.cells
 obtain ⟨g, off, cap, hv, hc⟩ := h.at hb
 rw [hv] at c6
 rw [hx2] at hc
 have HC := Lib.hid (show ∀ y, SeeB w [p.sb, g] y → y.cell? ⟨p.sb, 0, none⟩ = some (.pointer (some ⟨c.S.nb, 0, none⟩)) ∧ y.cell? ⟨p.sb, 6, none⟩ = some (.slice (some ⟨g, off, none⟩) c.bl.length cap) ∧ y.cell? ⟨g, off + b, none⟩ = some (.int .i64 (x : Int)) from fun y hy => ⟨hy.cell (by simp) c0, hy.cell (by simp) c6, hy.cell (by simp) hc⟩)
 have hS : SeeB w [p.sb, g] w.drew := fun k _ => rfl
 unfold badB
 rw [hx3]
 generalize m.n.mr x = y at *
 generalize c.bl.length = n at *
 clear h hv hx hx2 hx3 ok c0 c6 hc
 go_enter Tryz.func91, Tryz.ntmps91
 go_wp2
 refine region_line [(0, true), (1, true), (2, true), (3, true), (4, true), (5, true), (6, true), (7, true), (8, true), (9, true), (10, true), (11, true), (12, false), (13, true)] (SeeB w [p.sb, g]) (by kernel_rfl) (by kernel_rfl) (fun _ _ _ d _ h => by cases d <;> exact h) hS ?_
 repeat (refine line_read (a' := ?_) rfl (by kernel_rfl) (by kernel_rfl) hS (fun y hy K hK => ?_) ?_; rotate_left; · obtain ⟨c0, c6, ci⟩ := HC.out y hy; go_wp2; exact hK)
 refine line_act (by rfl) (fun K hK => ?_)
 go_wp2_with (go_at_call 25; refine (B _ (Ext.drew w)).mono ?_; rintro e w1 ⟨rfl, rfl⟩)
 refine hK _ _ (SeeB w [p.sb, g]) hS (fun _ h => h) ?_
 clear hK K
 repeat (refine line_read (a' := ?_) rfl (by kernel_rfl) (by kernel_rfl) hS (fun y hy K hK => ?_) ?_; rotate_left; · go_wp2; exact hK)
 refine line_end ?_
 go_wp2
 go_ret
 exact ⟨rfl, Ext.drew w⟩
set_option maxHeartbeats 800000 in
theorem isBlank18 (h : StAt w p c m) (ok : StOk p c) {b : Nat} (hb : b < c.bl.length) : Calls Tryz.prog 94 #[.pointer (some ⟨p.sb, 0, none⟩), .int .i64 (b : Int)] w fun e w' => e = .returned (.bool (decide (nextB c m b = 0))) ∧ w.grownBy w' none := by
 obtain ⟨x, hx, _, hxa, hx2, hx3⟩ := ok.phys hb
 have B := fun (wx : World) (hE : w.grownBy wx none) => blank7_is (h.nd.ext hE ok.R) ok.R hxa
 obtain ⟨c0, _, _, _, _, c6, _⟩ := h.cells
 obtain ⟨g, off, cap, hv, hc⟩ := h.at hb
 rw [hv] at c6
 rw [hx2] at hc
 have HC := Lib.hid (show ∀ y, SeeB w [p.sb, g] y → y.cell? ⟨p.sb, 0, none⟩ = some (.pointer (some ⟨c.S.nb, 0, none⟩)) ∧ y.cell? ⟨p.sb, 6, none⟩ = some (.slice (some ⟨g, off, none⟩) c.bl.length cap) ∧ y.cell? ⟨g, off + b, none⟩ = some (.int .i64 (x : Int)) from fun y hy => ⟨hy.cell (by simp) c0, hy.cell (by simp) c6, hy.cell (by simp) hc⟩)
 have hS : SeeB w [p.sb, g] w.drew := fun k _ => rfl
 unfold nextB
 rw [hx3]
 generalize decide (nextN (m.n.L x) c.S.pg = 0) = y at *
 generalize c.bl.length = n at *
 clear h hv hx hx2 hx3 ok c0 c6 hc
 go_enter Tryz.func94, Tryz.ntmps94
 go_wp2
 refine region_line [(0, true), (1, true), (2, true), (3, true), (4, true), (5, true), (6, true), (7, true), (8, true), (9, true), (10, true), (11, true), (12, false), (13, true)] (SeeB w [p.sb, g]) (by kernel_rfl) (by kernel_rfl) (fun _ _ _ d _ h => by cases d <;> exact h) hS ?_
 repeat (refine line_read (a' := ?_) rfl (by kernel_rfl) (by kernel_rfl) hS (fun y hy K hK => ?_) ?_; rotate_left; · obtain ⟨c0, c6, ci⟩ := HC.out y hy; go_wp2; exact hK)
 refine line_act (by rfl) (fun K hK => ?_)
 go_wp2_with (go_at_call 35; refine (B _ (Ext.drew w)).mono ?_; rintro e w1 ⟨rfl, rfl⟩)
 refine hK _ _ (SeeB w [p.sb, g]) hS (fun _ h => h) ?_
 clear hK K
 repeat (refine line_read (a' := ?_) rfl (by kernel_rfl) (by kernel_rfl) hS (fun y hy K hK => ?_) ?_; rotate_left; · go_wp2; exact hK)
 refine line_end ?_
 go_wp2
 go_ret
 exact ⟨rfl, Ext.drew w⟩
theorem lacks18 (h : StAt w p c m) (q : Int) : Calls Tryz.prog 96 #[.pointer (some ⟨p.sb, 0, none⟩), .int .i64 q] w fun e w' => e = .returned (.int .i64 (lacE c q)) ∧ w = w' := by
 obtain ⟨_, _, _, c4, _⟩ := h.cells
 unfold lacE
 clear h
 generalize c.sz = n at *
 by_cases h0 : q < 0
 · rw [if_pos (.inl h0)]
   go_enter Tryz.func96, Tryz.ntmps96
   go_wp2
   go_ret
   exact ⟨rfl, rfl⟩
 · by_cases h1 : n ≤ q
   · rw [if_pos (.inr h1)]
     go_enter Tryz.func96, Tryz.ntmps96
     go_wp2
     go_ret
     exact ⟨rfl, rfl⟩
   · rw [if_neg (by omega)]
     go_enter Tryz.func96, Tryz.ntmps96
     go_wp2
     go_ret
     exact ⟨rfl, rfl⟩
theorem readOnly18 (h : StAt w p c m) : Calls Tryz.prog 52 #[.pointer (some ⟨p.sb, 0, none⟩)] w fun e w' => e = .returned (.bool m.ro) ∧ w = w' := by
 obtain ⟨_, _, _, _, _, _, _, _, _, _, c11⟩ := h.cells
 clear h
 go_enter Tryz.func52, Tryz.ntmps52
 go_wp2
 go_ret
 exact ⟨rfl, rfl⟩
theorem waiting18 (h : StAt w p c m) (hq : m.q.length ≤ 4) : Calls Tryz.prog 54 #[.pointer (some ⟨p.sb, 0, none⟩)] w fun e w' => e = .returned (.int .i64 m.q.length) ∧ w.grownBy w' none := by
 obtain ⟨_, _, _, _, _, _, _, c8, _⟩ := h.cells
 have L := buf_len18 w p.bb m.q h.bf hq
 clear h
 go_enter Tryz.func54, Tryz.ntmps54
 go_wp2_with (go_at_call 95; refine L.mono ?_; rintro e w1 ⟨rfl, hg⟩)
 go_ret
 exact ⟨rfl, hg⟩
end
end Go.Proofs.YtfgifgglcafadaaGreatDoor
