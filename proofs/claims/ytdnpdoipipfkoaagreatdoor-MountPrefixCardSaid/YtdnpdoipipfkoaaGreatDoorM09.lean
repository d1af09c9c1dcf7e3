/-
  Texts put together: OA OB OC OD OE OF.
-/
import Derived.Test.YtdnpdoipipfkoaaGreatDoorM08
import Derived.ChangeKeysEq
import Derived.Test.YtdnpdoipipfkoaaGreatDoorM06
namespace Go.Proofs.YtdnpdoipipfkoaaGreatDoor
set_option linter.unusedVariables false
set_option linter.unusedSimpArgs false
set_option linter.unusedVariables false
set_option linter.unusedSimpArgs false
set_option maxRecDepth 100000
open Go.RowKit
structure TabC (cs : Array Value) (B P : Nat) (R : Nat → Nat → Int) (W : Nat → Int) (S : Nat → Bool × Int × Int) : Prop where
 size : cs.size = 1282
 b : cs[0]? = some (.int .i64 B)
 p : cs[1]? = some (.int .i64 P)
 row : ∀ b p, b < 64 → p < 16 → cs[2 + b * 16 + p]? = some (.int .i64 (R b p))
 wor : ∀ b, b < 64 → cs[1026 + b]? = some (.int .i64 (W b))
 th : ∀ q, q < 64 → cs[1090 + q * 3]? = some (.bool (S q).1)
 bk : ∀ q, q < 64 → cs[1090 + q * 3 + 1]? = some (.int .i64 (S q).2.1)
 pg : ∀ q, q < 64 → cs[1090 + q * 3 + 2]? = some (.int .i64 (S q).2.2)
def upd2 (R : Nat → Nat → Int) (b p : Nat) (x : Int) : Nat → Nat → Int := fun i j => if i = b ∧ j = p then x else R i j
def upd1 {α : Type} (W : Nat → α) (b : Nat) (x : α) : Nat → α := fun i => if i = b then x else W i
section
variable {cs : Array Value} {B P : Nat} {R : Nat → Nat → Int} {W : Nat → Int} {S : Nat → Bool × Int × Int}
theorem TabC.setRow (h : TabC cs B P R W S) {b p : Nat} (hb : b < 64) (hp : p < 16) (x : Int) : TabC (cs.setIfInBounds (2 + b * 16 + p) (.int .i64 x)) B P (upd2 R b p x) W S where
 size := by rw [Array.size_setIfInBounds]; exact h.size
 b := by rw [Array.getElem?_setIfInBounds_ne (by omega)]; exact h.b
 p := by rw [Array.getElem?_setIfInBounds_ne (by omega)]; exact h.p
 row := fun i j hi hj => by
   unfold upd2
   by_cases e : i = b ∧ j = p
   · obtain ⟨rfl, rfl⟩ := e
     rw [if_pos ⟨rfl, rfl⟩, Array.getElem?_setIfInBounds_self_of_lt (by rw [h.size]; omega)]
   · rw [if_neg e, Array.getElem?_setIfInBounds_ne (by omega)]
     exact h.row i j hi hj
 wor := fun i hi => by rw [Array.getElem?_setIfInBounds_ne (by omega)]; exact h.wor i hi
 th := fun i hi => by rw [Array.getElem?_setIfInBounds_ne (by omega)]; exact h.th i hi
 bk := fun i hi => by rw [Array.getElem?_setIfInBounds_ne (by omega)]; exact h.bk i hi
 pg := fun i hi => by rw [Array.getElem?_setIfInBounds_ne (by omega)]; exact h.pg i hi
theorem TabC.setWor (h : TabC cs B P R W S) {b : Nat} (hb : b < 64) (x : Int) : TabC (cs.setIfInBounds (1026 + b) (.int .i64 x)) B P R (upd1 W b x) S where
 size := by rw [Array.size_setIfInBounds]; exact h.size
 b := by rw [Array.getElem?_setIfInBounds_ne (by omega)]; exact h.b
 p := by rw [Array.getElem?_setIfInBounds_ne (by omega)]; exact h.p
 row := fun i j hi hj => by rw [Array.getElem?_setIfInBounds_ne (by omega)]; exact h.row i j hi hj
 wor := fun i hi => by
   unfold upd1
   by_cases e : i = b
   · subst e
     rw [if_pos rfl, Array.getElem?_setIfInBounds_self_of_lt (by rw [h.size]; omega)]
   · rw [if_neg e, Array.getElem?_setIfInBounds_ne (by omega)]
     exact h.wor i hi
 th := fun i hi => by rw [Array.getElem?_setIfInBounds_ne (by omega)]; exact h.th i hi
 bk := fun i hi => by rw [Array.getElem?_setIfInBounds_ne (by omega)]; exact h.bk i hi
 pg := fun i hi => by rw [Array.getElem?_setIfInBounds_ne (by omega)]; exact h.pg i hi
theorem TabC.setB (h : TabC cs B P R W S) (n : Nat) : TabC (cs.setIfInBounds 0 (.int .i64 n)) n P R W S where
 size := by rw [Array.size_setIfInBounds]; exact h.size
 b := by rw [Array.getElem?_setIfInBounds_self_of_lt (by rw [h.size]; omega)]
 p := by rw [Array.getElem?_setIfInBounds_ne (by omega)]; exact h.p
 row := fun i j hi hj => by rw [Array.getElem?_setIfInBounds_ne (by omega)]; exact h.row i j hi hj
 wor := fun i hi => by rw [Array.getElem?_setIfInBounds_ne (by omega)]; exact h.wor i hi
 th := fun i hi => by rw [Array.getElem?_setIfInBounds_ne (by omega)]; exact h.th i hi
 bk := fun i hi => by rw [Array.getElem?_setIfInBounds_ne (by omega)]; exact h.bk i hi
 pg := fun i hi => by rw [Array.getElem?_setIfInBounds_ne (by omega)]; exact h.pg i hi
def spotC (s : Bool × Int × Int) : Array Value := #[.bool s.1, .int .i64 s.2.1, .int .i64 s.2.2]
theorem TabC.setSpot (h : TabC cs B P R W S) {q : Nat} (hq : q < 64) (s : Bool × Int × Int) : TabC (cs.toList.take (1090 + q * 3) ++ (spotC s).toList ++ cs.toList.drop (1090 + q * 3 + (spotC s).toList.length)).toArray B P R W (upd1 S q s) := by
 have hl : (spotC s).toList.length = 3 := rfl
 have key : ∀ i, (cs.toList.take (1090 + q * 3) ++ (spotC s).toList ++ cs.toList.drop (1090 + q * 3 + (spotC s).toList.length)).toArray[i]? = if 1090 + q * 3 ≤ i ∧ i < 1090 + q * 3 + 3 then (spotC s).toList[i - (1090 + q * 3)]? else cs[i]? := by
   intro i
   have hs := h.size
   have ht : (cs.toList.take (1090 + q * 3)).length = 1090 + q * 3 := by simp; omega
   rw [List.getElem?_toArray, List.append_assoc]
   by_cases h1 : i < 1090 + q * 3
   · rw [List.getElem?_append_left (by omega), if_neg (by omega), List.getElem?_take, if_pos h1, Array.getElem?_toList]
   · rw [List.getElem?_append_right (by omega), ht]
     by_cases h2 : i < 1090 + q * 3 + 3
     · rw [if_pos (by omega), List.getElem?_append_left (by omega)]
     · rw [if_neg (by omega), List.getElem?_append_right (by omega), hl, List.getElem?_drop, Array.getElem?_toList]
       congr 1
       omega
 have hs := h.size
 refine ⟨by simp [spotC, hs]; omega, ?_, ?_, fun i j hi hj => ?_, fun i hi => ?_, fun i hi => ?_, fun i hi => ?_, fun i hi => ?_⟩
 · rw [key, if_neg (by omega)]; exact h.b
 · rw [key, if_neg (by omega)]; exact h.p
 · rw [key, if_neg (by omega)]; exact h.row i j hi hj
 · rw [key, if_neg (by omega)]; exact h.wor i hi
 · rw [key]
   unfold upd1
   by_cases e : i = q
   · subst e
     rw [if_pos rfl, if_pos (by omega), show 1090 + i * 3 - (1090 + i * 3) = 0 by omega]
     rfl
   · rw [if_neg e, if_neg (by omega)]; exact h.th i hi
 · rw [key]
   unfold upd1
   by_cases e : i = q
   · subst e
     rw [if_pos rfl, if_pos (by omega), show 1090 + i * 3 + 1 - (1090 + i * 3) = 1 by omega]
     rfl
   · rw [if_neg e, if_neg (by omega)]; exact h.bk i hi
 · rw [key]
   unfold upd1
   by_cases e : i = q
   · subst e
     rw [if_pos rfl, if_pos (by omega), show 1090 + i * 3 + 2 - (1090 + i * 3) = 2 by omega]
     rfl
   · rw [if_neg e, if_neg (by omega)]; exact h.pg i hi
theorem TabC.spot (h : TabC cs B P R W S) {q : Nat} (hq : q < 64) {s : Bool × Int × Int} (hs : S q = s) : cs.extract (1090 + q * 3) (1090 + q * 3 + 3) = spotC s := by
 subst hs
 have hz := h.size
 refine Array.ext_getElem? fun i => ?_
 rw [Array.getElem?_extract]
 have hm : min (1090 + q * 3 + 3) cs.size = 1090 + q * 3 + 3 := by omega
 rw [hm]
 by_cases hi : i < 3
 · rw [if_pos (by omega)]
   obtain rfl | rfl | rfl : i = 0 ∨ i = 1 ∨ i = 2 := by omega
   · exact h.th q hq
   · exact h.bk q hq
   · exact h.pg q hq
 · rw [if_neg (by omega), Array.getElem?_eq_none (by simp [spotC]; omega)]
end
structure TabS (w : World) (t : Nat) (B P : Nat) (R : Nat → Nat → Int) (W : Nat → Int) (S : Nat → Bool × Int × Int) : Prop where
 bl : B ≤ 64
 pl : 2 ≤ P ∧ P ≤ 16
 is : ∃ cs, Blk w t 163 cs ∧ TabC cs B P R W S
section
variable {w w' : World} {t B P : Nat} {R : Nat → Nat → Int} {W : Nat → Int} {S : Nat → Bool × Int × Int}
theorem TabS.lt (h : TabS w t B P R W S) : t < w.heap.size := by obtain ⟨_, h1, _⟩ := h.is; exact h1.lt
theorem TabS.b (h : TabS w t B P R W S) : w.cell? ⟨t, 0, none⟩ = some (.int .i64 B) := by obtain ⟨_, h1, h2⟩ := h.is; exact (h1.cell 0).trans h2.b
theorem TabS.p (h : TabS w t B P R W S) : w.cell? ⟨t, 1, none⟩ = some (.int .i64 P) := by obtain ⟨_, h1, h2⟩ := h.is; exact (h1.cell 1).trans h2.p
theorem TabS.row (h : TabS w t B P R W S) {b p : Nat} (hb : b < 64) (hp : p < 16) : w.cell? ⟨t, 2 + b * 16 + p, none⟩ = some (.int .i64 (R b p)) := by obtain ⟨_, h1, h2⟩ := h.is; exact (h1.cell _).trans (h2.row b p hb hp)
theorem TabS.wor (h : TabS w t B P R W S) {b : Nat} (hb : b < 64) : w.cell? ⟨t, 1026 + b, none⟩ = some (.int .i64 (W b)) := by obtain ⟨_, h1, h2⟩ := h.is; exact (h1.cell _).trans (h2.wor b hb)
theorem TabS.free (h : TabS w t B P R W S) (i : Nat) : w.frozen? ⟨t, i, none⟩ = false := by obtain ⟨_, h1, _⟩ := h.is; exact h1.free i
theorem TabS.kept {r : Option Nat} (h : TabS w t B P R W S) (hg : w.grownBy w' r) (hne : some t ≠ r) : TabS w' t B P R W S := by obtain ⟨cs, h1, h2⟩ := h.is; exact ⟨h.bl, h.pl, cs, h1.kept hg hne, h2⟩
theorem TabS.ext (h : TabS w t B P R W S) (hg : w.grownBy w' none) : TabS w' t B P R W S := h.kept hg (by simp)
theorem TabS.range (h : TabS w t B P R W S) {q : Nat} (hq : q < 64) {s : Bool × Int × Int} (hs : S q = s) : w.rangeAt t (1090 + q * 3) (spotC s).toList := by
 obtain ⟨cs, h1, h2⟩ := h.is
 have := h1.range14 (1090 + q * 3) 3 (by rw [h2.spot hq hs]; rfl)
 rw [h2.spot hq hs] at this
 exact this
theorem TabS.setRow (h : TabS w t B P R W S) {b p : Nat} (hb : b < 64) (hp : p < 16) (x : Int) : TabS (w.setCell ⟨t, 2 + b * 16 + p, none⟩ (.int .i64 x)) t B P (upd2 R b p x) W S := by
 obtain ⟨cs, h1, h2⟩ := h.is
 exact ⟨h.bl, h.pl, _, h1.set _ _, h2.setRow hb hp x⟩
theorem TabS.setWor (h : TabS w t B P R W S) {b : Nat} (hb : b < 64) (x : Int) : TabS (w.setCell ⟨t, 1026 + b, none⟩ (.int .i64 x)) t B P R (upd1 W b x) S := by
 obtain ⟨cs, h1, h2⟩ := h.is
 exact ⟨h.bl, h.pl, _, h1.set _ _, h2.setWor hb x⟩
theorem TabS.setB (h : TabS w t B P R W S) {n : Nat} (hn : n ≤ 64) : TabS (w.setCell ⟨t, 0, none⟩ (.int .i64 n)) t n P R W S := by
 obtain ⟨cs, h1, h2⟩ := h.is
 exact ⟨hn, h.pl, _, h1.set _ _, h2.setB n⟩
theorem isPlace_is (q : Int) (w : World) : Calls Tryz.prog 90 #[.int .i64 q] w fun e w' => e = .returned (.bool (decide (0 ≤ q) && decide (q < 64))) ∧ w = w' := by
 by_cases h : 0 ≤ q
 · have hb : decide (0 ≤ q) = true := by simpa using h
   rw [hb]
   go_enter Tryz.func90, Tryz.ntmps90
   go_wp2
   go_ret
   exact ⟨by simp, rfl⟩
 · have hb : decide (0 ≤ q) = false := by simpa using h
   rw [hb]
   go_enter Tryz.func90, Tryz.ntmps90
   go_wp2
   go_ret
   exact ⟨by simp, rfl⟩
def hasN (B P : Nat) (b p : Int) : Bool := decide (0 ≤ b) && decide (b < B) && decide (0 ≤ p) && decide (p < P)
theorem hasN_true {B P : Nat} {b p : Int} (h : hasN B P b p = true) : 0 ≤ b ∧ b < B ∧ 0 ≤ p ∧ p < P := by
 unfold hasN at h
 simp at h
 omega
theorem hasT_is (h : TabS w t B P R W S) (b p : Int) : Calls Tryz.prog 100 #[.pointer (some ⟨t, 0, none⟩), .int .i64 b, .int .i64 p] w fun e w' => e = .returned (.bool (hasN B P b p)) ∧ w = w' := by
 have c0 := h.b
 have c1 := h.p
 clear h
 unfold hasN
 by_cases h1 : 0 ≤ b
 · have hb1 : decide (0 ≤ b) = true := by simpa using h1
   rw [hb1]
   by_cases h2 : b < B
   · have hb2 : decide (b < B) = true := by simpa using h2
     rw [hb2]
     by_cases h3 : 0 ≤ p
     · have hb3 : decide (0 ≤ p) = true := by simpa using h3
       rw [hb3]
       go_enter Tryz.func100, Tryz.ntmps100
       go_wp2
       go_ret
       exact ⟨by simp, rfl⟩
     · have hb3 : decide (0 ≤ p) = false := by simpa using h3
       rw [hb3]
       go_enter Tryz.func100, Tryz.ntmps100
       go_wp2
       go_ret
       exact ⟨by simp, rfl⟩
   · have hb2 : decide (b < B) = false := by simpa using h2
     rw [hb2]
     go_enter Tryz.func100, Tryz.ntmps100
     go_wp2
     go_ret
     exact ⟨by simp, rfl⟩
 · have hb1 : decide (0 ≤ b) = false := by simpa using h1
   rw [hb1]
   go_enter Tryz.func100, Tryz.ntmps100
   go_wp2
   go_ret
   exact ⟨by simp, rfl⟩
theorem place_no (h : TabS w t B P R W S) (b p : Int) (hn : hasN B P b p = false) : Calls Tryz.prog 111 #[.pointer (some ⟨t, 0, none⟩), .int .i64 b, .int .i64 p] w fun e w' => e = .returned (.int .i64 (-1)) ∧ w = w' := by
 have HAS := hasT_is h b p
 rw [hn] at HAS
 clear h hn
 go_enter Tryz.func111, Tryz.ntmps111
 go_wp2_with (go_at_call 100; refine HAS.mono ?_; rintro e w1 ⟨rfl, rfl⟩)
 go_ret
 exact ⟨rfl, rfl⟩
theorem place_yes (h : TabS w t B P R W S) (b p : Nat) (hb : b < B) (hp : p < P) : Calls Tryz.prog 111 #[.pointer (some ⟨t, 0, none⟩), .int .i64 b, .int .i64 p] w fun e w' => e = .returned (.int .i64 (R b p)) ∧ w = w' := by
 have HAS := hasT_is h b p
 have hh : hasN B P b p = true := by unfold hasN; simp; omega
 have hb2 : b < 64 := by have := h.bl; omega
 have hp2 : p < 16 := by have := h.pl.2; omega
 have c2 := h.row hb2 hp2
 rw [hh] at HAS
 clear h hh
 go_enter Tryz.func111, Tryz.ntmps111
 go_wp2_with (go_at_call 100; refine HAS.mono ?_; rintro e w1 ⟨rfl, rfl⟩)
 go_ret
 exact ⟨rfl, rfl⟩
theorem worth_no (h : TabS w t B P R W S) (b : Int) (hn : hasN B P b 0 = false) : Calls Tryz.prog 67 #[.pointer (some ⟨t, 0, none⟩), .int .i64 b] w fun e w' => e = .returned (.int .i64 0) ∧ w = w' := by
 have HAS := hasT_is h b 0
 rw [hn] at HAS
 clear h hn
 go_enter Tryz.func67, Tryz.ntmps67
 go_wp2_with (go_at_call 100; refine HAS.mono ?_; rintro e w1 ⟨rfl, rfl⟩)
 go_ret
 exact ⟨rfl, rfl⟩
theorem worth_yes (h : TabS w t B P R W S) (b : Nat) (hb : b < B) : Calls Tryz.prog 67 #[.pointer (some ⟨t, 0, none⟩), .int .i64 b] w fun e w' => e = .returned (.int .i64 (W b)) ∧ w = w' := by
 have HAS := hasT_is h b 0
 have hh : hasN B P b 0 = true := by unfold hasN; have := h.pl; simp; omega
 have hb2 : b < 64 := by have := h.bl; omega
 have c2 := h.wor hb2
 rw [hh] at HAS
 clear h hh
 go_enter Tryz.func67, Tryz.ntmps67
 go_wp2_with (go_at_call 100; refine HAS.mono ?_; rintro e w1 ⟨rfl, rfl⟩)
 go_ret
 exact ⟨rfl, rfl⟩
end
end Go.Proofs.YtdnpdoipipfkoaaGreatDoor

namespace Go.Proofs.YtdnpdoipipfkoaaGreatDoor
set_option linter.unusedVariables false
set_option linter.unusedSimpArgs false
set_option linter.unusedVariables false
set_option linter.unusedSimpArgs false
set_option maxRecDepth 100000
open Go.RowKit
theorem Tryz.sizeSpot : (Tryz.prog.info? 157).map (·.size) = some 3 := by kernel_rfl
section
variable {ops : Array Oper} {rest : List Oper} {o : Oper} {a : Act} {w : World} {Q : Exit → Act → World → Prop}
theorem spot_load (hwt : Region.wanted o (yielded ops a.tmps) = true) (x : Operand) (ho : o.op = .load 157 x) {b off : Nat} (hx : a.eval x = .pointer (some ⟨b, off, none⟩)) {s : Bool × Int × Int} (hr : w.rangeAt b off (spotC s).toList)
   (h : wpList Tryz.prog ops Q rest (a.put o.dst (.agg (spotC s))) w) : wpList Tryz.prog ops Q (o :: rest) a w :=
 wpList_want hwt fun K hK => wp_load_mid _ x ho b off hx _ _ hr Tryz.underlying157 rfl (by rw [Tryz.sizeSpot]; rfl) (hK _ _ (by simpa using h))
theorem spot_store (x y : Operand) (ho : o.op = .store 157 x y) {g : Nat} (hx : a.eval x = .pointer (some ⟨g, 0, none⟩)) {c : Bool × Int × Int} (hy : a.eval y = .agg (spotC c)) {old : Array Value} (hg : Blk w g 157 old) (hold : old.size = 3) (hwt : Region.wanted o (yielded ops a.tmps) = true)
   (h : ∀ w', Blk w' g 157 (spotC c) → w.grownBy w' (some g) → w'.heap.size = w.heap.size → wpList Tryz.prog ops Q rest (a.put o.dst undef) w') : wpList Tryz.prog ops Q (o :: rest) a w :=
 wpList_store_part hwt _ x y ho g 0 3 _ hx hy _ old _ hg rfl Tryz.sizeSpot (by omega) (by simp [spotC, Value.oneCell']) (by
   have h1 : (spotC c).toList.length = 3 := rfl
   rw [h1, List.drop_of_length_le (by simp; omega)]
   simp) h
theorem tab_store (x y : Operand) (ho : o.op = .store 157 x y) {t q : Nat} {B P : Nat} {R : Nat → Nat → Int} {W : Nat → Int} {S : Nat → Bool × Int × Int} (hq : q < 64) (hx : a.eval x = .pointer (some ⟨t, 1090 + q * 3, none⟩)) {s : Bool × Int × Int} (hy : a.eval y = .agg (spotC s)) (hs : TabS w t B P R W S) (hwt : Region.wanted o (yielded ops a.tmps) = true)
   (h : ∀ w', TabS w' t B P R W (upd1 S q s) → w.grownBy w' (some t) → wpList Tryz.prog ops Q rest (a.put o.dst undef) w') : wpList Tryz.prog ops Q (o :: rest) a w := by
 obtain ⟨cs, h1, h2⟩ := hs.is
 exact wpList_store_part hwt _ x y ho t (1090 + q * 3) 3 _ hx hy _ _ _ h1 rfl Tryz.sizeSpot (by rw [h2.size]; omega) (by simp [spotC, Value.oneCell']) rfl fun w' h3 h4 _ => h w' ⟨hs.bl, hs.pl, _, h3, h2.setSpot hq s⟩ h4
end
theorem grown_trans14 {w w1 w2 : World} (h : w.grownBy w1 none) (h2 : w1.grownBy w2 (some w.heap.size)) : w.grownBy w2 none := grown_trans13 h h2
theorem drew_any14 {w w' : World} {r : Option Nat} (h : w.grownBy w' r) : w.grownBy w'.drew r := ⟨h.os, h.tape, h.output, h.size, h.block⟩
section
variable {w : World} {t B P : Nat} {R : Nat → Nat → Int} {W : Nat → Int} {S : Nat → Bool × Int × Int}
theorem at_no (q : Int) (hq : ¬ (0 ≤ q ∧ q < 64)) : Calls Tryz.prog 42 #[.pointer (some ⟨t, 0, none⟩), .int .i64 q] w fun e w' => e = .returned (.tuple #[.int .i64 0, .int .i64 0, .bool false]) ∧ w = w' := by
 have IS := isPlace_is q w
 rw [show (decide (0 ≤ q) && decide (q < 64)) = false by simp; omega] at IS
 clear hq
 go_enter Tryz.func42, Tryz.ntmps42
 go_wp2_with (go_at_call 90; refine IS.mono ?_; rintro e w1 ⟨rfl, rfl⟩)
 refine bodyPost_ret (v := .tuple #[.int .i64 0, .int .i64 0, .bool false]) (by simp [results, Tryz.results42, go_sem]) rfl ?_
 exact ⟨rfl, rfl⟩
set_option maxHeartbeats 800000 in
theorem at_yes (h : TabS w t B P R W S) (q : Nat) (hq : q < 64) (s : Bool × Int × Int) (hs : S q = s) : Calls Tryz.prog 42 #[.pointer (some ⟨t, 0, none⟩), .int .i64 q] w fun e w' => e = .returned (.tuple #[.int .i64 s.2.1, .int .i64 s.2.2, .bool s.1]) ∧ w.grownBy w' none := by
 have IS := isPlace_is q w
 rw [show (decide (0 ≤ (q : Int)) && decide ((q : Int) < 64)) = true by simp; omega] at IS
 have hr := h.range hq hs
 have hb1 := Blk.new w 157 #[.bool false, .int .i64 0, .int .i64 0]
 have HE := Lib.hid (World.grownBy_alloc w (.cells #[.bool false, .int .i64 0, .int .i64 0] 157) none)
 clear h hs
 go_enter Tryz.func42, Tryz.ntmps42
 go_wp2_with (first
   | (go_at_call 90; refine IS.mono ?_; rintro e w1 ⟨rfl, rfl⟩)
   | (refine spot_load rfl _ rfl rfl hr ?_; clear hr)
   | (refine spot_store (c := s) _ _ rfl rfl rfl hb1 rfl rfl ?_; intro w6 hb6 hg6 hs6; have c0 := (hb6.cell 0).trans (show (spotC s)[0]? = some (.bool s.1) from rfl); have c1 := (hb6.cell 1).trans (show (spotC s)[1]? = some (.int .i64 s.2.1) from rfl); have c2 := (hb6.cell 2).trans (show (spotC s)[2]? = some (.int .i64 s.2.2) from rfl); have HE6 := Lib.hid (grown_trans14 HE.out hg6); clear hb6 hg6 hs6))
 go_quiet (fail)
 rename_i nq
 go_wp2
 refine bodyPost_ret (v := .tuple #[.int .i64 s.2.1, .int .i64 s.2.2, .bool s.1]) (by simp [results, Tryz.results42, go_sem]) rfl ?_
 exact ⟨rfl, drew14 HE6.out nq⟩
theorem clear_no (q : Int) (hq : ¬ (0 ≤ q ∧ q < 64)) : Calls Tryz.prog 112 #[.pointer (some ⟨t, 0, none⟩), .int .i64 q] w fun e w' => e = .returned (.bool false) ∧ w = w' := by
 have AT := at_no (w := w) (t := t) q hq
 clear hq
 go_enter Tryz.func112, Tryz.ntmps112
 go_wp2_with (go_at_call 42; refine AT.mono ?_; rintro e w1 ⟨rfl, rfl⟩)
 go_ret
 exact ⟨rfl, rfl⟩
theorem clear_off (h : TabS w t B P R W S) (q : Nat) (hq : q < 64) (hs : S q = (false, 0, 0)) : Calls Tryz.prog 112 #[.pointer (some ⟨t, 0, none⟩), .int .i64 q] w fun e w' => e = .returned (.bool false) ∧ w.grownBy w' none := by
 have AT := at_yes h q hq _ hs
 clear h hs
 go_enter Tryz.func112, Tryz.ntmps112
 go_wp2_with (go_at_call 42; refine AT.mono ?_; rintro e w1 ⟨rfl, hE1⟩)
 go_ret
 exact ⟨rfl, hE1⟩
set_option maxHeartbeats 1600000 in
theorem clear_on (h : TabS w t B P R W S) (q : Nat) (hq : q < 64) (b p : Nat) (hb : b < 64) (hp : p < 16) (hs : S q = (true, (b : Int), (p : Int))) (x : Nat) (hx : W b = ((x + 1 : Nat) : Int)) (hx2 : x ≤ 1000000) :
   Calls Tryz.prog 112 #[.pointer (some ⟨t, 0, none⟩), .int .i64 q] w fun e w' => e = .returned (.bool true) ∧ TabS w' t B P (upd2 R b p (-1)) (upd1 W b x) (upd1 S q (false, 0, 0)) ∧ w.grownBy w' (some t) := by
 have AT := at_yes h q hq _ hs
 have HT := Lib.hid h
 have HX := Lib.hid hx
 clear h hs hx
 go_enter Tryz.func112, Tryz.ntmps112
 go_wp2_with (first
   | (go_at_call 42; refine AT.mono ?_; rintro e w1 ⟨rfl, hE1⟩; have HT1 := Lib.hid (HT.out.ext hE1); have c2 := HT1.out.row hb hp; have f2 := HT1.out.free (2 + b * 16 + p); have HG1 := Lib.hid hE1; clear hE1 HT))
 have HT2 := Lib.hid ((HT1.out.setRow hb hp (-1)).ext (Ext.drew _))
 have HG2 := Lib.hid (show w.grownBy (w1.setCell ⟨t, 2 + b * 16 + p, none⟩ (.int .i64 (-1))).drew (some t) from drew_any14 (g14_set HG1.out (g14_set1 w1 t _ _)))
 obtain ⟨w2, hw2⟩ : ∃ v, (w1.setCell ⟨t, 2 + b * 16 + p, none⟩ (.int .i64 (-1))).drew = v := ⟨_, rfl⟩
 clear c2 f2 AT
 refine region_line [(0, true), (1, true), (2, true), (3, true), (4, true), (7, true), (8, true), (5, false), (6, true), (9, true), (10, false)] (fun _ => True) (by kernel_rfl) (by kernel_rfl) (fun _ _ _ d _ h => by cases d <;> exact h) trivial ?_
 rw [hw2] at HT2 HG2 ⊢
 clear hw2
 iterate 7 (refine line_read (a' := ?_) rfl (by kernel_rfl) (by kernel_rfl) trivial (fun x0 hx K hK => ?_) ?_; rotate_left; · (go_wp2; exact hK))
 refine line_act (by rfl) (fun K hK => ?_)
 have c3 := HT2.out.wor hb
 rw [HX.out] at c3
 have f3 := HT2.out.free (1026 + b)
 go_wp2
 refine hK _ _ (fun _ => True) trivial (fun x hx => hx) ?_
 clear hK K c3 f3
 iterate 2 (refine line_read (a' := ?_) rfl (by kernel_rfl) (by kernel_rfl) trivial (fun x0 hx K hK => ?_) ?_; rotate_left; · (go_wp2; exact hK))
 refine line_act (by rfl) (fun K hK => ?_)
 have c3 := HT2.out.wor hb
 have f3 := HT2.out.free (1026 + b)
 go_wp2
 refine hK _ _ (fun _ => True) trivial (fun x hx => hx) ?_
 clear hK K c3 f3
 refine line_end ?_
 have HT3 := HT2.out.setWor hb (x : Int)
 have HG3 := Lib.hid (set_chain14 HG2.out (g14_set1 w2 t (1026 + b) (.int .i64 x)))
 go_wp2_with (refine tab_store (s := (false, 0, 0)) _ _ rfl hq rfl rfl HT3 rfl ?_; intro w6 ht6 hg6)
 go_ret
 exact ⟨rfl, ht6, set_chain14 HG3.out hg6⟩
end
end Go.Proofs.YtdnpdoipipfkoaaGreatDoor

namespace Go.Proofs.YtdnpdoipipfkoaaGreatDoor
set_option linter.unusedVariables false
set_option linter.unusedSimpArgs false
set_option linter.unusedVariables false
set_option linter.unusedSimpArgs false
set_option maxRecDepth 100000
open Go.RowKit
theorem nodup_inj {α β : Type} {f : α → β} : ∀ {rs : List α}, (rs.map f).Nodup → ∀ {r s : α}, r ∈ rs → s ∈ rs → f r = f s → r = s
 | [], _, r, _, hr, _, _ => by cases hr
 | x :: xs, h, r, s, hr, hs, e => by
   rw [List.map_cons, List.nodup_cons] at h
   rcases List.mem_cons.1 hr with rfl | hr2
   · rcases List.mem_cons.1 hs with rfl | hs2
     · rfl
     · exact absurd (List.mem_map.2 ⟨s, hs2, e.symm⟩) h.1
   · rcases List.mem_cons.1 hs with rfl | hs2
     · exact absurd (List.mem_map.2 ⟨r, hr2, e⟩) h.1
     · exact nodup_inj h.2 hr2 hs2 e
theorem placeN_none {rs : List R14} {b p : Int} (h : ∀ r ∈ rs, ¬ (r.bk = b ∧ r.pg = p)) : placeN rs b p = -1 := by
 unfold placeN
 rw [List.find?_eq_none.2 (fun r hr => by simpa using h r hr)]
theorem placeN_some {rs : List R14} {r : R14} (hn : (rs.map fun r => (r.bk, r.pg)).Nodup) (hr : r ∈ rs) : placeN rs r.bk r.pg = r.pl := by
 unfold placeN
 cases hf : rs.find? (fun s => s.bk == r.bk && s.pg == r.pg) with
 | none => have := List.find?_eq_none.1 hf r hr; simp at this
 | some s =>
   have h1 := List.mem_of_find?_eq_some hf
   have h2 := List.find?_some hf
   simp at h2
   obtain rfl := nodup_inj hn h1 hr (by simp [h2])
   rfl
theorem atN_none {rs : List R14} {q : Int} (h : ∀ r ∈ rs, r.pl ≠ q) : atN rs q = (0, 0, false) := by
 unfold atN
 rw [List.find?_eq_none.2 (fun r hr => by simpa using h r hr)]
theorem atN_some {rs : List R14} {r : R14} (hn : (rs.map (·.pl)).Nodup) (hr : r ∈ rs) : atN rs r.pl = (r.bk, r.pg, true) := by
 unfold atN
 cases hf : rs.find? (fun s => s.pl == r.pl) with
 | none => have := List.find?_eq_none.1 hf r hr; simp at this
 | some s =>
   have h1 := List.mem_of_find?_eq_some hf
   have h2 := List.find?_some hf
   simp at h2
   obtain rfl := nodup_inj hn h1 hr h2
   rfl
theorem mem_clear {rs : List R14} {q : Int} {r : R14} : r ∈ clearN rs q ↔ r ∈ rs ∧ r.pl ≠ q := by
 unfold clearN
 rw [List.mem_filter]
 simp
theorem clear_same {rs : List R14} {q : Int} (h : ∀ r ∈ rs, r.pl ≠ q) : clearN rs q = rs := by
 unfold clearN
 rw [List.filter_eq_self]
 intro r hr
 simpa using h r hr
theorem clear_len {rs : List R14} {r : R14} (hn : (rs.map (·.pl)).Nodup) (hr : r ∈ rs) : (clearN rs r.pl).length + 1 = rs.length := by
 induction rs with
 | nil => cases hr
 | cons x xs ih =>
   rw [List.map_cons, List.nodup_cons] at hn
   by_cases e : x.pl = r.pl
   · have hxs : ∀ s ∈ xs, s.pl ≠ r.pl := fun s hs h => hn.1 (List.mem_map.2 ⟨s, hs, h.trans e.symm⟩)
     have h1 : clearN (x :: xs) r.pl = clearN xs r.pl := by unfold clearN; rw [List.filter_cons, if_neg (by simpa using e)]
     rw [h1, clear_same hxs]
     rfl
   · have h1 : clearN (x :: xs) r.pl = x :: clearN xs r.pl := by unfold clearN; rw [List.filter_cons, if_pos (by simpa using e)]
     have hr2 : r ∈ xs := by
       rcases List.mem_cons.1 hr with rfl | h
       · exact absurd rfl e
       · exact h
     rw [h1, List.length_cons, List.length_cons, ih hn.2 hr2]
theorem clear_worth {rs : List R14} {r : R14} (hn : (rs.map (·.pl)).Nodup) (hr : r ∈ rs) (b : Int) : worthN (clearN rs r.pl) b + (if r.bk = b then 1 else 0) = worthN rs b := by
 induction rs with
 | nil => cases hr
 | cons x xs ih =>
   rw [List.map_cons, List.nodup_cons] at hn
   have hw : ∀ ys : List R14, worthN (x :: ys) b = worthN ys b + if x.bk = b then 1 else 0 := fun ys => by
     unfold worthN
     rw [List.filter_cons]
     by_cases hb : x.bk = b
     · rw [if_pos (by simpa using hb), if_pos hb, List.length_cons]
     · rw [if_neg (by simpa using hb), if_neg hb, Nat.add_zero]
   by_cases e : x.pl = r.pl
   · have hxs : ∀ s ∈ xs, s.pl ≠ r.pl := fun s hs h => hn.1 (List.mem_map.2 ⟨s, hs, h.trans e.symm⟩)
     have h1 : clearN (x :: xs) r.pl = clearN xs r.pl := by unfold clearN; rw [List.filter_cons, if_neg (by simpa using e)]
     have hx : r = x := by
       rcases List.mem_cons.1 hr with h | h
       · exact h
       · exact absurd rfl (hxs r h)
     subst hx
     rw [h1, clear_same hxs, hw]
   · have h1 : clearN (x :: xs) r.pl = x :: clearN xs r.pl := by unfold clearN; rw [List.filter_cons, if_pos (by simpa using e)]
     have hr2 : r ∈ xs := by
       rcases List.mem_cons.1 hr with rfl | h
       · exact absurd rfl e
       · exact h
     rw [h1, hw, hw, ← ih hn.2 hr2]
     omega
theorem worth_snoc14 (rs : List R14) (r : R14) (b : Int) : worthN (rs ++ [r]) b = worthN rs b + if r.bk = b then 1 else 0 := by
 unfold worthN
 rw [List.filter_append, List.length_append]
 congr 1
 by_cases hb : r.bk = b
 · rw [if_pos hb]; simp [hb]
 · rw [if_neg hb]; simp [hb]
theorem place_snoc14 {rs : List R14} {r : R14} (h : ∀ s ∈ rs, ¬ (s.bk = r.bk ∧ s.pg = r.pg)) (b p : Int) : placeN (rs ++ [r]) b p = if b = r.bk ∧ p = r.pg then r.pl else placeN rs b p := by
 unfold placeN
 rw [List.find?_append]
 by_cases e : b = r.bk ∧ p = r.pg
 · obtain ⟨rfl, rfl⟩ := e
   rw [if_pos ⟨rfl, rfl⟩, List.find?_eq_none.2 (fun s hs => by simpa using h s hs)]
   simp
 · rw [if_neg e]
   have h1 : (r.bk == b && r.pg == p) = false := by
     rw [Bool.eq_false_iff]
     intro h2
     simp at h2
     exact e ⟨h2.1.symm, h2.2.symm⟩
   rw [List.find?_cons, h1]
   simp
theorem at_snoc14 {rs : List R14} {r : R14} (h : ∀ s ∈ rs, s.pl ≠ r.pl) (q : Int) : atN (rs ++ [r]) q = if q = r.pl then (r.bk, r.pg, true) else atN rs q := by
 unfold atN
 rw [List.find?_append]
 by_cases e : q = r.pl
 · subst e
   rw [if_pos rfl, List.find?_eq_none.2 (fun s hs => by simpa using h s hs)]
   simp
 · rw [if_neg e]
   have h1 : (r.pl == q) = false := by simpa using fun h2 => e (Eq.symm h2)
   rw [List.find?_cons, h1]
   simp
structure Inv14 (B P : Nat) (R : Nat → Nat → Int) (W : Nat → Int) (S : Nat → Bool × Int × Int) (rs : List R14) : Prop where
 ok : ∀ r ∈ rs, 0 ≤ r.pl ∧ r.pl < 64 ∧ 0 ≤ r.bk ∧ r.bk < B ∧ 0 ≤ r.pg ∧ r.pg < P
 pls : (rs.map (·.pl)).Nodup
 pgs : (rs.map fun r => (r.bk, r.pg)).Nodup
 row : ∀ b p : Nat, b < B → p < 16 → R b p = placeN rs b p
 wor : ∀ b : Nat, b < 64 → W b = (worthN rs b : Int)
 spo : ∀ q : Nat, q < 64 → S q = ((atN rs q).2.2, (atN rs q).1, (atN rs q).2.1)
section
variable {B P : Nat} {R : Nat → Nat → Int} {W : Nat → Int} {S : Nat → Bool × Int × Int} {rs : List R14}
theorem Inv14.none (B P : Nat) (R : Nat → Nat → Int) (h : ∀ b p : Nat, b < B → p < 16 → R b p = -1) : Inv14 B P R (fun _ => 0) (fun _ => (false, 0, 0)) [] :=
 ⟨fun r hr => (by cases hr), List.nodup_nil, List.nodup_nil, h, fun _ _ => rfl, fun _ _ => rfl⟩
theorem nodup_clear {β : Type} {f : R14 → β} (h : (rs.map f).Nodup) (q : Int) : ((clearN rs q).map f).Nodup := h.sublist (List.filter_sublist.map f)
theorem Inv14.clear (h : Inv14 B P R W S rs) {r : R14} (hr : r ∈ rs) {q b p : Nat} (hq : r.pl = q) (hb : r.bk = b) (hp : r.pg = p) {x : Nat} (hx : W b = ((x + 1 : Nat) : Int)) :
   Inv14 B P (upd2 R b p (-1)) (upd1 W b x) (upd1 S q (false, 0, 0)) (clearN rs q) where
 ok := fun s hs => h.ok s (mem_clear.1 hs).1
 pls := nodup_clear h.pls _
 pgs := nodup_clear h.pgs _
 row := fun i j hi hj => by
   unfold upd2
   by_cases e : i = b ∧ j = p
   · obtain ⟨rfl, rfl⟩ := e
     rw [if_pos ⟨rfl, rfl⟩, placeN_none]
     intro s hs he
     obtain ⟨h1, h2⟩ := mem_clear.1 hs
     obtain rfl := nodup_inj h.pgs h1 hr (by simp [he, hb, hp])
     exact h2 hq
   · rw [if_neg e, h.row i j hi hj]
     by_cases hex : ∃ s ∈ rs, s.bk = i ∧ s.pg = j
     · obtain ⟨s, hs, h1, h2⟩ := hex
       have hne : s.pl ≠ q := fun hq2 => by
         obtain rfl := nodup_inj h.pls hs hr (hq2.trans hq.symm)
         omega
       rw [← h1, ← h2, placeN_some h.pgs hs, placeN_some (nodup_clear h.pgs _) (mem_clear.2 ⟨hs, hne⟩)]
     · rw [placeN_none (fun s hs he => hex ⟨s, hs, he⟩), placeN_none (fun s hs he => hex ⟨s, (mem_clear.1 hs).1, he⟩)]
 wor := fun i hi => by
   have hc := clear_worth h.pls hr (i : Int)
   rw [hq] at hc
   have hw := h.wor i hi
   unfold upd1
   by_cases e : i = b
   · subst e
     rw [if_pos hb] at hc
     rw [if_pos rfl]
     omega
   · rw [if_neg (by omega)] at hc
     rw [if_neg e]
     omega
 spo := fun i hi => by
   unfold upd1
   by_cases e : i = q
   · subst e
     rw [if_pos rfl, atN_none (fun s hs => (mem_clear.1 hs).2)]
   · rw [if_neg e, h.spo i hi]
     by_cases hex : ∃ s ∈ rs, s.pl = i
     · obtain ⟨s, hs, h1⟩ := hex
       rw [← h1, atN_some h.pls hs, atN_some (nodup_clear h.pls _) (mem_clear.2 ⟨hs, by omega⟩)]
     · rw [atN_none (fun s hs he => hex ⟨s, hs, he⟩), atN_none (fun s hs he => hex ⟨s, (mem_clear.1 hs).1, he⟩)]
theorem Inv14.put (h : Inv14 B P R W S rs) {q b p : Nat} (hq : q < 64) (hb : b < B) (hp : p < P) (h1 : ∀ s ∈ rs, s.pl ≠ q) (h2 : ∀ s ∈ rs, ¬ (s.bk = b ∧ s.pg = p)) {x : Nat} (hx : W b = (x : Int)) :
   Inv14 B P (upd2 R b p q) (upd1 W b ((x + 1 : Nat) : Int)) (upd1 S q (true, (b : Int), (p : Int))) (rs ++ [⟨q, b, p⟩]) where
 ok := fun s hs => by
   rcases List.mem_append.1 hs with h3 | h3
   · exact h.ok s h3
   · obtain rfl := List.mem_singleton.1 h3
     refine ⟨?_, ?_, ?_, ?_, ?_, ?_⟩ <;> simp <;> omega
 pls := by
   rw [List.map_append]
   refine List.nodup_append.2 ⟨h.pls, by simp, fun a ha c hc e => ?_⟩
   obtain ⟨s, hs, rfl⟩ := List.mem_map.1 ha
   simp at hc
   exact h1 s hs (e.trans hc)
 pgs := by
   rw [List.map_append]
   refine List.nodup_append.2 ⟨h.pgs, by simp, fun a ha c hc e => ?_⟩
   obtain ⟨s, hs, rfl⟩ := List.mem_map.1 ha
   simp at hc
   have := e.trans hc
   simp at this
   exact h2 s hs this
 row := fun i j hi hj => by
   rw [place_snoc14 h2]
   unfold upd2
   by_cases e : i = b ∧ j = p
   · obtain ⟨rfl, rfl⟩ := e
     rw [if_pos ⟨rfl, rfl⟩, if_pos ⟨rfl, rfl⟩]
   · rw [if_neg e, if_neg (by simpa [Int.ofNat_inj] using e)]
     exact h.row i j hi hj
 wor := fun i hi => by
   rw [worth_snoc14]
   have hw := h.wor i hi
   unfold upd1
   by_cases e : i = b
   · subst e
     rw [if_pos rfl, if_pos rfl]
     omega
   · rw [if_neg e, if_neg (by simp; omega)]
     exact hw
 spo := fun i hi => by
   rw [at_snoc14 h1]
   unfold upd1
   by_cases e : i = q
   · subst e
     rw [if_pos rfl, if_pos rfl]
   · rw [if_neg e, if_neg (by simp; omega)]
     exact h.spo i hi
theorem Inv14.spot_no (h : Inv14 B P R W S rs) {q : Nat} (hq : q < 64) (hn : ∀ r ∈ rs, r.pl ≠ q) : S q = (false, 0, 0) := by rw [h.spo q hq, atN_none hn]
theorem Inv14.spot_yes (h : Inv14 B P R W S rs) {q : Nat} (hq : q < 64) {r : R14} (hr : r ∈ rs) (hp : r.pl = q) : S q = (true, r.bk, r.pg) := by rw [h.spo q hq, ← hp, atN_some h.pls hr]
def sumN (f : Nat → Nat) : Nat → Nat
 | 0 => 0
 | n + 1 => sumN f n + f n
theorem sumN_add (f g : Nat → Nat) : ∀ n, sumN (fun i => f i + g i) n = sumN f n + sumN g n
 | 0 => rfl
 | n + 1 => by simp only [sumN]; rw [sumN_add f g n]; omega
theorem sumN_one (b : Nat) : ∀ n, sumN (fun i => if b = i then 1 else 0) n = if b < n then 1 else 0
 | 0 => rfl
 | n + 1 => by
   simp only [sumN]
   rw [sumN_one b n]
   by_cases h : b < n
   · rw [if_pos h, if_neg (by omega), if_pos (by omega)]
   · by_cases h2 : b = n
     · rw [if_neg h, if_pos h2, if_pos (by omega)]
     · rw [if_neg h, if_neg h2, if_neg (by omega)]
theorem sumN_worth : ∀ (rs : List R14) (n : Nat), (∀ r ∈ rs, 0 ≤ r.bk ∧ r.bk < n) → sumN (fun i => worthN rs i) n = rs.length
 | [], n, h => by
   clear h
   show sumN (fun _ => 0) n = 0
   induction n with
   | zero => rfl
   | succ n ih => simp only [sumN]; rw [ih]
 | r :: rs, n, h => by
   have h1 : (fun i : Nat => worthN (r :: rs) i) = fun i : Nat => worthN rs (i : Int) + (if r.bk.toNat = i then 1 else 0) := by
     funext i
     have := h r (by simp)
     unfold worthN
     rw [List.filter_cons]
     by_cases hb : r.bk = i
     · rw [if_pos (by simpa using hb), if_pos (by omega), List.length_cons]
     · rw [if_neg (by simpa using hb), if_neg (by omega), Nat.add_zero]
   have := h r (by simp)
   rw [h1, sumN_add, sumN_worth rs n (fun s hs => h s (by simp [hs])), sumN_one, if_pos (by omega), List.length_cons]
end
end Go.Proofs.YtdnpdoipipfkoaaGreatDoor

namespace Go.Proofs.YtdnpdoipipfkoaaGreatDoor
set_option linter.unusedVariables false
set_option linter.unusedSimpArgs false
set_option linter.unusedVariables false
set_option linter.unusedSimpArgs false
set_option maxRecDepth 100000
open Go.RowKit
def TabA (w : World) (t B P : Nat) (rs : List R14) : Prop := ∃ R W S, TabS w t B P R W S ∧ Inv14 B P R W S rs
theorem grown_any14 {w w1 : World} {r : Option Nat} (h : w.grownBy w1 none) : w.grownBy w1 r := ⟨h.os, h.tape, h.output, h.size, fun k hk _ => h.block k hk (by simp)⟩
section
variable {w w' : World} {t B P : Nat} {rs : List R14}
theorem TabA.kept {r : Option Nat} (h : TabA w t B P rs) (hg : w.grownBy w' r) (hne : some t ≠ r) : TabA w' t B P rs := by obtain ⟨R, W, S, h1, h2⟩ := h; exact ⟨R, W, S, h1.kept hg hne, h2⟩
theorem TabA.ext (h : TabA w t B P rs) (hg : w.grownBy w' none) : TabA w' t B P rs := h.kept hg (by simp)
theorem TabA.lt (h : TabA w t B P rs) : t < w.heap.size := by obtain ⟨R, W, S, h1, _⟩ := h; exact h1.lt
theorem TabA.bl (h : TabA w t B P rs) : B ≤ 64 := by obtain ⟨R, W, S, h1, _⟩ := h; exact h1.bl
theorem tabPlace (h : TabA w t B P rs) (b p : Int) : Calls Tryz.prog 111 #[.pointer (some ⟨t, 0, none⟩), .int .i64 b, .int .i64 p] w fun e w' => e = .returned (.int .i64 (placeN rs b p)) ∧ w = w' := by
 obtain ⟨R, W, S, hT, hI⟩ := h
 by_cases hh : hasN B P b p = true
 · obtain ⟨h1, h2, h3, h4⟩ := hasN_true hh
   obtain ⟨b, rfl⟩ := Int.eq_ofNat_of_zero_le h1
   obtain ⟨p, rfl⟩ := Int.eq_ofNat_of_zero_le h3
   have := hT.pl
   have hr := hI.row b p (by omega) (by omega)
   rw [← hr]
   exact place_yes hT b p (by omega) (by omega)
 · have hh2 : hasN B P b p = false := by simpa using hh
   rw [placeN_none (fun r hr he => by
     have := hI.ok r hr
     unfold hasN at hh
     simp at hh
     omega)]
   exact place_no hT b p hh2
theorem tabWorth (h : TabA w t B P rs) (b : Int) : Calls Tryz.prog 67 #[.pointer (some ⟨t, 0, none⟩), .int .i64 b] w fun e w' => e = .returned (.int .i64 (worthN rs b)) ∧ w = w' := by
 obtain ⟨R, W, S, hT, hI⟩ := h
 by_cases hh : 0 ≤ b ∧ b < B
 · obtain ⟨b, rfl⟩ := Int.eq_ofNat_of_zero_le hh.1
   have := hT.bl
   rw [← hI.wor b (by omega)]
   exact worth_yes hT b (by omega)
 · have hh2 : hasN B P b 0 = false := by unfold hasN; simp; omega
   have hw : worthN rs b = 0 := by
     unfold worthN
     rw [List.length_eq_zero_iff, List.filter_eq_nil_iff]
     intro r hr he
     have := hI.ok r hr
     simp at he
     omega
   rw [hw]
   exact worth_no hT b hh2
theorem tabAt (h : TabA w t B P rs) (q : Int) : Calls Tryz.prog 42 #[.pointer (some ⟨t, 0, none⟩), .int .i64 q] w fun e w' => e = .returned (.tuple #[.int .i64 (atN rs q).1, .int .i64 (atN rs q).2.1, .bool (atN rs q).2.2]) ∧ w.grownBy w' none := by
 obtain ⟨R, W, S, hT, hI⟩ := h
 by_cases hh : 0 ≤ q ∧ q < 64
 · obtain ⟨q, rfl⟩ := Int.eq_ofNat_of_zero_le hh.1
   exact at_yes hT q (by omega) _ (hI.spo q (by omega))
 · rw [atN_none (fun r hr he => by have := hI.ok r hr; omega)]
   exact (at_no q hh).mono fun e w' ⟨h1, h2⟩ => ⟨h1, by subst h2; exact Ext.refl w⟩
theorem tabClear (h : TabA w t B P rs) (q : Int) (hl : rs.length ≤ 1000000) : Calls Tryz.prog 112 #[.pointer (some ⟨t, 0, none⟩), .int .i64 q] w fun e w' => e = .returned (.bool (decide ((clearN rs q).length < rs.length))) ∧ TabA w' t B P (clearN rs q) ∧ w.grownBy w' (some t) := by
 obtain ⟨R, W, S, hT, hI⟩ := h
 by_cases hh : 0 ≤ q ∧ q < 64
 · obtain ⟨q, rfl⟩ := Int.eq_ofNat_of_zero_le hh.1
   by_cases hex : ∃ r ∈ rs, r.pl = q
   · obtain ⟨r, hr, hq⟩ := hex
     have hok := hI.ok r hr
     obtain ⟨b, hb⟩ := Int.eq_ofNat_of_zero_le hok.2.2.1
     obtain ⟨p, hp⟩ := Int.eq_ofNat_of_zero_le hok.2.2.2.2.1
     have hsp := hI.spot_yes (q := q) (by omega) hr hq
     rw [hb, hp] at hsp
     have hcl := clear_len hI.pls hr
     have hcw := clear_worth hI.pls hr (b : Int)
     rw [if_pos hb, hq] at hcw
     rw [hq] at hcl
     have hbl := hT.bl
     have hpl := hT.pl
     have hw := hI.wor b (by omega)
     rw [← hcw] at hw
     have hle : worthN (clearN rs q) b ≤ rs.length := by
       have h1 : worthN (clearN rs q) b ≤ (clearN rs q).length := List.length_filter_le _ _
       omega
     refine (clear_on hT q (by omega) b p (by omega) (by omega) hsp _ hw (by omega)).mono fun e w' ⟨h1, h2, h3⟩ => ⟨?_, ⟨_, _, _, h2, hI.clear hr hq hb hp hw⟩, h3⟩
     rw [h1, decide_eq_true (by omega)]
   · have hn : ∀ r ∈ rs, r.pl ≠ q := fun r hr he => hex ⟨r, hr, he⟩
     rw [clear_same hn, decide_eq_false (Nat.lt_irrefl _)]
     exact (clear_off hT q (by omega) (hI.spot_no (by omega) hn)).mono fun e w' ⟨h1, h2⟩ => ⟨h1, ⟨R, W, S, hT.ext h2, hI⟩, grown_any14 h2⟩
 · have hn : ∀ r ∈ rs, r.pl ≠ q := fun r hr he => by have := hI.ok r hr; omega
   rw [clear_same hn, decide_eq_false (Nat.lt_irrefl _)]
   exact (clear_no q hh).mono fun e w' ⟨h1, h2⟩ => ⟨h1, by subst h2; exact ⟨R, W, S, hT, hI⟩, by subst h2; exact grown_any14 (Ext.refl w)⟩
theorem set_range (h : TabA w t B P rs) (q b p : Int) (hn : (decide (0 ≤ q) && decide (q < 64)) = false ∨ hasN B P b p = false) : Calls Tryz.prog 77 #[.pointer (some ⟨t, 0, none⟩), .int .i64 q, .int .i64 b, .int .i64 p] w fun e w' => e = .returned (.int .i64 5) ∧ w = w' := by
 have IS := isPlace_is q w
 by_cases h1 : (decide (0 ≤ q) && decide (q < 64)) = false
 · rw [h1] at IS
   clear hn h h1
   go_enter Tryz.func77, Tryz.ntmps77
   go_wp2_with (go_at_call 90; refine IS.mono ?_; rintro e w1 ⟨rfl, rfl⟩)
   go_ret
   exact ⟨rfl, rfl⟩
 · have h2 : hasN B P b p = false := hn.resolve_left h1
   obtain ⟨R, W, S, hT, hI⟩ := h
   have HAS := hasT_is hT b p
   rw [show (decide (0 ≤ q) && decide (q < 64)) = true by simpa using h1] at IS
   rw [h2] at HAS
   clear hn hT hI h1 h2
   go_enter Tryz.func77, Tryz.ntmps77
   go_wp2_with (first
     | (go_at_call 90; refine IS.mono ?_; rintro e w1 ⟨rfl, rfl⟩)
     | (go_at_call 100; refine HAS.mono ?_; rintro e w1 ⟨rfl, rfl⟩))
   go_ret
   exact ⟨rfl, rfl⟩
theorem set_twice (h : TabA w t B P rs) (q : Int) (b p : Int) (h1 : (decide (0 ≤ q) && decide (q < 64)) = true) (h2 : hasN B P b p = true) (x : Int) (hx : placeN rs b p = x) (hx1 : x ≠ -1) (hx2 : x ≠ q) :
   Calls Tryz.prog 77 #[.pointer (some ⟨t, 0, none⟩), .int .i64 q, .int .i64 b, .int .i64 p] w fun e w' => e = .returned (.int .i64 7) ∧ w = w' := by
 have IS := isPlace_is q w
 have PL := tabPlace h b p
 obtain ⟨R, W, S, hT, hI⟩ := h
 have HAS := hasT_is hT b p
 rw [h1] at IS
 rw [h2] at HAS
 rw [hx] at PL
 have b1 : (x != -1) = true := by simpa using hx1
 have b2 : (x != q) = true := by simpa using hx2
 clear hT hI h1 h2 hx hx1 hx2
 go_enter Tryz.func77, Tryz.ntmps77
 go_wp2_with (first
   | (go_at_call 90; refine IS.mono ?_; rintro e w1 ⟨rfl, rfl⟩)
   | (go_at_call 100; refine HAS.mono ?_; rintro e w1 ⟨rfl, rfl⟩)
   | (go_at_call 111; refine PL.mono ?_; rintro e w1 ⟨rfl, rfl⟩))
 go_ret
 exact ⟨rfl, rfl⟩
def SetOk (w : World) (t : Nat) (rs : List R14) (q b p : Nat) (B P : Nat) (w' : World) : Prop := TabA w' t B P (clearN rs q ++ [⟨q, b, p⟩]) ∧ w.grownBy w' (some t)
set_option maxHeartbeats 1600000 in
theorem set_ok (h : TabA w t B P rs) (q b p : Nat) (hl : rs.length ≤ 1000000) (hq : q < 64) (hb : b < B) (hp : p < P) (x : Int) (hx : placeN rs b p = x) (hx1 : x = -1 ∨ x = q) :
   Calls Tryz.prog 77 #[.pointer (some ⟨t, 0, none⟩), .int .i64 q, .int .i64 b, .int .i64 p] w fun e w' => e = .returned (.int .i64 0) ∧ SetOk w t rs q b p B P w' := by
 have IS := isPlace_is q w
 have PL := tabPlace h b p
 have CL := tabClear h q hl
 have hbl := h.bl
 have hb64 : b < 64 := by omega
 obtain ⟨R, W, S, hT, hI⟩ := h
 have hp16 : p < 16 := by have := hT.pl; omega
 have HAS := hasT_is hT b p
 rw [show (decide (0 ≤ (q : Int)) && decide ((q : Int) < 64)) = true by simp; omega] at IS
 rw [show hasN B P (b : Int) (p : Int) = true by unfold hasN; simp; omega] at HAS
 rw [hx] at PL
 -- whose the page is, if not this place's
 have hfree : ∀ s ∈ clearN rs q, ¬ (s.bk = b ∧ s.pg = p) := fun s hs he => by
   obtain ⟨h1, h2⟩ := mem_clear.1 hs
   have h3 := placeN_some hI.pgs h1
   rw [he.1, he.2, hx] at h3
   have := hI.ok s h1
   omega
 have HF := Lib.hid hfree
 have HX := Lib.hid hx1
 obtain ⟨g0, hg0⟩ : ∃ z, decide ((clearN rs q).length < rs.length) = z := ⟨_, rfl⟩
 rw [hg0] at CL
 have hxc : ((x != -1) && (x != (q : Int))) = false := by
   rcases hx1 with rfl | rfl
   · rfl
   · simp
 obtain ⟨x1, hx1'⟩ : ∃ z, (x != -1) = z := ⟨_, rfl⟩
 obtain ⟨x2, hx2'⟩ : ∃ z, (x != (q : Int)) = z := ⟨_, rfl⟩
 rw [hx1', hx2'] at hxc
 clear hx hx1 hT hI hfree hg0
 have hcase : x1 = false ∨ (x1 = true ∧ x2 = false) := by cases x1 <;> simp_all
 clear hxc
 go_enter Tryz.func77, Tryz.ntmps77
 rcases hcase with rfl | ⟨rfl, rfl⟩
 all_goals
   go_wp2_with (first
     | (go_at_call 90; refine IS.mono ?_; rintro e w1 ⟨rfl, rfl⟩)
     | (go_at_call 100; refine HAS.mono ?_; rintro e w1 ⟨rfl, rfl⟩)
     | (go_at_call 111; refine PL.mono ?_; rintro e w1 ⟨rfl, rfl⟩)
     | (go_at_call 112; refine CL.mono ?_; rintro e w1 ⟨rfl, hA1, hg1⟩; obtain ⟨R, W, S, hT, hI⟩ := hA1; have HT1 := Lib.hid hT; have HI1 := Lib.hid hI; have HG1 := Lib.hid hg1; have c2 := hT.row hb64 hp16; have f2 := hT.free (2 + b * 16 + p); clear hT hI hg1))
   have HT2 := Lib.hid ((HT1.out.setRow hb64 hp16 q).ext (Ext.drew _))
   have HG2 := Lib.hid (show w.grownBy (w1.setCell ⟨t, 2 + b * 16 + p, none⟩ (.int .i64 q)).drew (some t) from drew_any14 (set_chain14 HG1.out (g14_set1 w1 t _ _)))
   obtain ⟨w2, hw2⟩ : ∃ v, (w1.setCell ⟨t, 2 + b * 16 + p, none⟩ (.int .i64 q)).drew = v := ⟨_, rfl⟩
   clear c2 f2 IS HAS PL CL HT1 HG1
   refine region_line [(0, true), (1, true), (2, true), (3, true), (4, true), (7, true), (8, true), (5, false), (6, true), (9, true), (10, false)] (fun _ => True) (by kernel_rfl) (by kernel_rfl) (fun _ _ _ d _ h => by cases d <;> exact h) trivial ?_
   rw [hw2] at HT2 HG2 ⊢
   clear hw2
   iterate 7 (refine line_read (a' := ?_) rfl (by kernel_rfl) (by kernel_rfl) trivial (fun x0 hx K hK => ?_) ?_; rotate_left; · (go_wp2; exact hK))
   refine line_act (by rfl) (fun K hK => ?_)
   obtain ⟨y, hy⟩ : ∃ y : Nat, W b = (y : Int) := ⟨_, HI1.out.wor b hb64⟩
   have hyl : y ≤ 1000000 := by
     have h1 := HI1.out.wor b hb64
     have h2 : worthN (clearN rs q) b ≤ (clearN rs q).length := List.length_filter_le _ _
     have h3 : (clearN rs q).length ≤ rs.length := List.length_filter_le _ _
     omega
   have HY := Lib.hid hy
   have c3 := HT2.out.wor hb64
   rw [hy] at c3
   clear hy
   go_wp2
   refine hK _ _ (fun _ => True) trivial (fun x hx => hx) ?_
   clear hK K c3
   iterate 2 (refine line_read (a' := ?_) rfl (by kernel_rfl) (by kernel_rfl) trivial (fun x0 hx K hK => ?_) ?_; rotate_left; · (go_wp2; exact hK))
   refine line_act (by rfl) (fun K hK => ?_)
   have c3 := HT2.out.wor hb64
   have f3 := HT2.out.free (1026 + b)
   go_wp2
   refine hK _ _ (fun _ => True) trivial (fun x hx => hx) ?_
   clear hK K c3 f3
   refine line_end ?_
   have HT3 := HT2.out.setWor hb64 ((y + 1 : Nat) : Int)
   have HG3 := Lib.hid (set_chain14 HG2.out (g14_set1 w2 t (1026 + b) (.int .i64 ((y + 1 : Nat) : Int))))
   clear HT2 HG2
   rw [show ((y + 1 : Nat) : Int) = (y : Int) + 1 by omega] at HT3 HG3
   go_wp2_with (refine tab_store (s := (true, (b : Int), (p : Int))) _ _ rfl hq rfl rfl HT3 rfl ?_; intro w6 ht6 hg6)
   go_ret
   refine ⟨rfl, ⟨_, _, _, ht6, ?_⟩, set_chain14 HG3.out hg6⟩
   have hI := HI1.out.put (q := q) hq hb hp (fun s hs => (mem_clear.1 hs).2) HF.out HY.out
   rw [show ((y + 1 : Nat) : Int) = (y : Int) + 1 by omega] at hI
   exact hI
end
end Go.Proofs.YtdnpdoipipfkoaaGreatDoor

namespace Go.Proofs.YtdnpdoipipfkoaaGreatDoor
set_option linter.unusedVariables false
set_option linter.unusedSimpArgs false
set_option linter.unusedVariables false
set_option linter.unusedSimpArgs false
set_option maxRecDepth 100000
open Go.RowKit
section
variable {w w' : World} {t B P : Nat} {rs : List R14}
theorem tabSet (h : TabA w t B P rs) (q b p : Int) (hl : rs.length ≤ 1000000) : Calls Tryz.prog 77 #[.pointer (some ⟨t, 0, none⟩), .int .i64 q, .int .i64 b, .int .i64 p] w fun e w' => e = .returned (.int .i64 (setE B P rs q b p)) ∧ TabA w' t B P (setR B P rs q b p) ∧ w.grownBy w' (some t) := by
 have stay : ∀ {e : Int} {w' : World}, setE B P rs q b p = e → e ≠ 0 → w = w' → TabA w' t B P (setR B P rs q b p) ∧ w.grownBy w' (some t) := fun h1 h2 h3 => by
   subst h3
   unfold setR
   rw [h1, if_neg h2]
   exact ⟨h, grown_any14 (Ext.refl w)⟩
 by_cases hr : q < 0 ∨ 63 < q ∨ b < 0 ∨ (B : Int) ≤ b ∨ p < 0 ∨ (P : Int) ≤ p
 · have he : setE B P rs q b p = 5 := by unfold setE; rw [if_pos hr]
   refine (set_range h q b p ?_).mono fun e w' ⟨h1, h2⟩ => ⟨by rw [h1, he], stay he (by decide) h2⟩
   unfold hasN
   simp
   omega
 · obtain ⟨q, rfl⟩ := Int.eq_ofNat_of_zero_le (show 0 ≤ q by omega)
   obtain ⟨b, rfl⟩ := Int.eq_ofNat_of_zero_le (show 0 ≤ b by omega)
   obtain ⟨p, rfl⟩ := Int.eq_ofNat_of_zero_le (show 0 ≤ p by omega)
   by_cases ht : 0 ≤ placeN rs b p ∧ placeN rs b p ≠ q
   · have he : setE B P rs q b p = 7 := by unfold setE; rw [if_neg hr, if_pos ht]
     refine (set_twice h q b p (by simp; omega) (by unfold hasN; simp; omega) _ rfl (by omega) ht.2).mono fun e w' ⟨h1, h2⟩ => ⟨by rw [h1, he], stay he (by decide) h2⟩
   · have he : setE B P rs q b p = 0 := by unfold setE; rw [if_neg hr, if_neg ht]
     have hR : setR B P rs q b p = clearN rs q ++ [⟨q, b, p⟩] := by unfold setR; rw [if_pos he]
     have hpl : placeN rs b p = -1 ∨ placeN rs b p = q := by
       by_cases h0 : 0 ≤ placeN rs b p
       · exact .inr (Classical.byContradiction fun hne => ht ⟨h0, hne⟩)
       · left
         obtain ⟨R, W, S, hT, hI⟩ := h
         have h1 := hI.row b p (by omega) (by have := hT.pl; omega)
         by_cases hex : ∃ r ∈ rs, r.bk = b ∧ r.pg = p
         · obtain ⟨r, hr2, h2, h3⟩ := hex
           have h4 := placeN_some hI.pgs hr2
           rw [h2, h3] at h4
           have := hI.ok r hr2
           omega
         · exact placeN_none fun r hr2 h2 => hex ⟨r, hr2, h2⟩
     rw [he, hR]
     exact set_ok h q b p hl (by omega) (by omega) (by omega) _ rfl hpl
end
def GrowS (w wr : World) (t B P : Nat) (R : Nat → Nat → Int) (W : Nat → Int) (S : Nat → Bool × Int × Int) (k j : Nat) : Prop :=
 ∃ R', TabS wr t (B + k) P R' W S ∧ (∀ b p, b < B → p < 16 → R' b p = R b p) ∧ (∀ b p, B ≤ b → b < B + k → p < 16 → R' b p = -1) ∧ (∀ p, p < j → R' (B + k) p = -1) ∧ w.grownBy wr (some t)
section
variable {w wr : World} {t B P k j : Nat} {R : Nat → Nat → Int} {W : Nat → Int} {S : Nat → Bool × Int × Int}
theorem GrowS.start (h : TabS w t B P R W S) : GrowS w w t B P R W S 0 0 := ⟨R, h, fun _ _ _ _ => rfl, fun b p h1 h2 => by omega, fun p hp => by omega, grown_any14 (Ext.refl w)⟩
theorem GrowS.tab (h : GrowS w wr t B P R W S k j) : ∃ R', TabS wr t (B + k) P R' W S := by obtain ⟨R', h, _⟩ := h; exact ⟨R', h⟩
theorem GrowS.put (h : GrowS w wr t B P R W S k j) (hb : B + k < 64) (hj : j < 16) : GrowS w (wr.drew.setCell ⟨t, 2 + (B + k) * 16 + j, none⟩ (.int .i64 (-1))) t B P R W S k (j + 1) := by
 obtain ⟨R', h1, h2, h3, h4, h5⟩ := h
 refine ⟨_, (h1.ext (Ext.drew wr)).setRow hb hj (-1), fun b p hb2 hp => ?_, fun b p hb2 hb3 hp => ?_, fun p hp => ?_, set_chain14 (drew_any14 h5) (g14_set1 _ t _ _)⟩
 · unfold upd2
   rw [if_neg (by omega)]
   exact h2 b p hb2 hp
 · unfold upd2
   rw [if_neg (by omega)]
   exact h3 b p hb2 hb3 hp
 · unfold upd2
   by_cases e : p = j
   · rw [if_pos ⟨rfl, e⟩]
   · rw [if_neg (by omega)]
     exact h4 p (by omega)
theorem GrowS.step (h : GrowS w wr t B P R W S k 16) (hb : B + k < 64) : GrowS w (wr.setCell ⟨t, 0, none⟩ (.int .i64 ((B + k + 1 : Nat) : Int))) t B P R W S (k + 1) 0 := by
 obtain ⟨R', h1, h2, h3, h4, h5⟩ := h
 refine ⟨R', h1.setB (by omega), h2, fun b p hb2 hb3 hp => ?_, fun p hp => by omega, set_chain14 h5 (g14_set1 wr t _ _)⟩
 by_cases e : b = B + k
 · subst e; exact h4 p hp
 · exact h3 b p hb2 (by omega) hp
set_option maxHeartbeats 1600000 in
theorem grow_is (h : TabS w t B P R W S) (g : Int) (hg : -9223372036854775808 ≤ g ∧ g ≤ 9223372036854775807) :
   Calls Tryz.prog 94 #[.pointer (some ⟨t, 0, none⟩), .int .i64 g] w fun e w' => e = .returned (.tuple #[]) ∧ GrowS w w' t B P R W S (min g (64 - (B : Int))).toNat 0 := by
 have c0 := h.b
 have hbl := h.bl
 have HS := Lib.hid (GrowS.start h)
 obtain ⟨m, hm⟩ : ∃ m, min g (64 - (B : Int)) = m := ⟨_, rfl⟩
 rw [hm]
 have hm64 : m ≤ 64 - (B : Int) := by rw [← hm]; exact Int.min_le_right _ _
 have HM := Lib.hid hm
 obtain ⟨M, hM⟩ : ∃ M, m.toNat = M := ⟨_, rfl⟩
 rw [hM]
 have hcond : ∀ k : Nat, decide ((k : Int) < m) = decide (k < M) := fun k => by
   by_cases hk : k < M
   · rw [decide_eq_true hk, decide_eq_true (by omega)]
   · rw [decide_eq_false hk, decide_eq_false (by omega)]
 have hMB : B + M ≤ 64 := by omega
 have HMM := Lib.hid (And.intro hM (And.intro hm64 hg))
 have HC := Lib.hid hcond
 clear h hm hM hcond hm64 hg
 go_enter Tryz.func94, Tryz.ntmps94
 go_upto_region 1 with fail
 go_cut [13, 14] (fun s i wx => s = .int .i64 m ∧ i = .int .i64 0 ∧ w = wx)
 case first =>
   have hg := HMM.out.2.2
   go_wp2
   all_goals
     go_meet
     exact ⟨congrArg (Value.int .i64) (by have := HM.out; omega), rfl, rfl⟩
 case rest =>
   obtain ⟨rfl, rfl, rfl⟩ := hcut
   clear c0
   go_wp2
   go_loopw [14] (fun i wr => ∃ k : Nat, k ≤ M ∧ i = .int .i64 k ∧ GrowS w wr t B P R W S k 0) (fun i _ => M - (intOf i).toNat)
   case atStart => exact ⟨0, Nat.zero_le _, rfl, HS.out⟩
   case round =>
     clear HS
     obtain ⟨k, hk, rfl, hG⟩ := hrel
     obtain ⟨wo, rfl⟩ : ∃ wo : World, wo = wr := ⟨_, rfl⟩
     have HG := Lib.hid hG
     clear hG
     have hck := HC.out k
     by_cases hlt : k < M
     · rw [decide_eq_true hlt] at hck
       go_wp2
       go_loopw [16] (fun i wx => ∃ j : Nat, j ≤ 16 ∧ i = .int .i64 j ∧ GrowS w wx t B P R W S k j) (fun i _ => 16 - (intOf i).toNat)
       case atStart => exact ⟨0, Nat.zero_le _, rfl, HG.out⟩
       case round =>
         clear HG
         obtain ⟨j, hj, rfl, hG⟩ := hrel
         obtain ⟨R1, hT⟩ := hG.tab
         have HG := Lib.hid hG
         clear hG
         by_cases hlt2 : j < 16
         · have hTd := hT.ext (Ext.drew wr)
           have hS : (fun x0 : World => x0.cell? ⟨t, 0, none⟩ = some (.int .i64 ((B + k : Nat) : Int))) wr.drew := hTd.b
           have c2 := hTd.row (b := B + k) (p := j) (by omega) hlt2
           have f2 := hTd.free (2 + (B + k) * 16 + j)
           have HN := Lib.hid (HG.out.put (by omega) hlt2)
           have hS6 : (fun x0 : World => x0.cell? ⟨t, 0, none⟩ = some (.int .i64 ((B + k : Nat) : Int))) (wr.drew.setCell ⟨t, 2 + (B + k) * 16 + j, none⟩ (.int .i64 (-1))) := by obtain ⟨_, h⟩ := HN.out.tab; exact h.b
           clear hT hTd HG
           have hBk : B + k < 64 := by omega
           obtain ⟨b, hb⟩ : ∃ b, B + k = b := ⟨_, rfl⟩
           rw [hb] at hS c2 f2 HN hS6 hBk
           have HBK := Lib.hid hb
           clear hb
           go_wp2
           refine region_line [(0, true), (1, true), (2, true), (3, true), (4, true), (5, true), (6, true), (7, true), (8, true), (9, true), (10, false)] (fun x0 : World => x0.cell? ⟨t, 0, none⟩ = some (.int .i64 (b : Int))) (by kernel_rfl) (by kernel_rfl) (fun _ _ _ d _ h => by cases d <;> exact h) hS ?_
           iterate 10 (refine line_read (a' := ?_) rfl (by kernel_rfl) (by kernel_rfl) hS (fun x0 hx K hK => ?_) ?_; rotate_left; · (go_wp2; exact hK))
           refine line_act (by rfl) (fun K hK => ?_)
           go_wp2
           refine hK _ _ (fun x0 : World => x0.cell? ⟨t, 0, none⟩ = some (.int .i64 (b : Int))) hS6 (fun x hx => hx) ?_
           clear hK K hS hS6 c2 f2
           refine line_end ?_
           go_wp2
           go_roundw
           case rel => exact ⟨j + 1, by omega, by go_num, HN.out⟩
           case measure => simp [intOf]; omega
         · obtain rfl : j = 16 := by omega
           have c0 := hT.b
           have f0 := hT.free 0
           have HN := Lib.hid (HG.out.step (by omega))
           have hBk : B + k < 64 := by omega
           clear hT HG
           go_wp2
           go_roundw
           case rel => exact ⟨k + 1, by omega, by go_num, HN.out⟩
           case measure => simp [intOf]; omega
     · rw [decide_eq_false hlt] at hck
       obtain rfl : k = M := by omega
       go_wp2
       go_end0
       exact ⟨rfl, HG.out⟩
end
end Go.Proofs.YtdnpdoipipfkoaaGreatDoor

namespace Go.Proofs.YtdnpdoipipfkoaaGreatDoor
set_option linter.unusedVariables false
set_option linter.unusedSimpArgs false
set_option linter.unusedVariables false
set_option linter.unusedSimpArgs false
set_option maxRecDepth 100000
open Go.RowKit
def zeroT (P : Int) : Array Value := (([Value.int .i64 0, Value.int .i64 P] : List Value) ++ List.replicate 1088 (Value.int .i64 0) ++ (List.replicate 64 [Value.bool false, Value.int .i64 0, Value.int .i64 0]).flatten).toArray
theorem tab_buildV (p : Int) (w : World) : (Instr.build 163 #[(1, .int .i64 p)]).run Tryz.prog w = .ok (.agg (zeroT p)) w := by kernel_rfl
theorem tab_build {ops : Array Oper} {rest : List Oper} {o : Oper} {a : Act} {w : World} {Q : Exit → Act → World → Prop} (hgd : o.guard = none) (x : Operand) (ho : o.op = .build 163 #[(1, x)]) {p : Int} (hx : a.eval x = .int .i64 p)
   (h : wpList Tryz.prog ops Q rest (a.put o.dst (.agg (zeroT p))) w) : wpList Tryz.prog ops Q (o :: rest) a w := by
 refine wpList_plain hgd fun K hK => ?_
 have hm : (#[((1 : Nat), x)].map fun (q : Nat × Operand) => (q.1, a.eval q.2)) = #[(1, .int .i64 p)] := by simp [hx]
 unfold Oper.wp execOp
 simp only [ho, hm, Sem.run_bind, tab_buildV, Result.andThen_ok, Sem.run_pure]
 exact hK _ _ h
theorem flat_rep (x y z : Value) : ∀ (n q i : Nat), q < n → i < 3 → (List.replicate n [x, y, z]).flatten[q * 3 + i]? = [x, y, z][i]?
 | 0, q, i, h, _ => by omega
 | n + 1, 0, i, _, hi => by
   rw [List.replicate_succ, List.flatten_cons, List.getElem?_append_left (by simp; omega)]
   congr 1
   omega
 | n + 1, q + 1, i, h, hi => by
   rw [List.replicate_succ, List.flatten_cons, List.getElem?_append_right (by simp; omega), ← flat_rep x y z n q i (by omega) hi]
   congr 1
   simp
   omega
theorem flat_len (l : List Value) : ∀ n, (List.replicate n l).flatten.length = n * l.length
 | 0 => by simp
 | n + 1 => by rw [List.replicate_succ, List.flatten_cons, List.length_append, flat_len l n, Nat.add_mul]; omega
theorem zeroT_is (P : Nat) : TabC (zeroT P) 0 P (fun _ _ => 0) (fun _ => 0) (fun _ => (false, 0, 0)) := by
 have low : ∀ i, 2 ≤ i → i < 1090 → (zeroT P)[i]? = some (.int .i64 0) := fun i h1 h2 => by
   unfold zeroT
   rw [List.getElem?_toArray, List.getElem?_append_left (by simp; omega), List.getElem?_append_right (by simp; omega), List.getElem?_replicate, if_pos (by simp; omega)]
 have hig : ∀ q i, q < 64 → i < 3 → (zeroT P)[1090 + q * 3 + i]? = [Value.bool false, Value.int .i64 0, Value.int .i64 0][i]? := fun q i h1 h2 => by
   unfold zeroT
   rw [List.getElem?_toArray, List.getElem?_append_right (by simp; omega), ← flat_rep _ _ _ 64 q i h1 h2]
   congr 1
   simp
   omega
 refine ⟨?_, rfl, rfl, fun b p hb hp => low _ (by omega) (by omega), fun b hb => low _ (by omega) (by omega), fun q hq => hig q 0 hq (by omega), fun q hq => hig q 1 hq (by omega), fun q hq => hig q 2 hq (by omega)⟩
 unfold zeroT
 rw [List.size_toArray, List.length_append, List.length_append, flat_len, List.length_replicate]
 rfl
def newOk (b p : Int) : Prop := 1 ≤ b ∧ b ≤ 64 ∧ 2 ≤ p ∧ p ≤ 16
theorem new14_ok (b p : Nat) (w : World) (h : newOk b p) : Calls Tryz.prog 53 #[.int .i64 b, .int .i64 p] w fun e w' => ∃ t, e = .returned (.pointer (some ⟨t, 0, none⟩)) ∧ TabA w' t b p [] ∧ w.heap.size ≤ t ∧ w.grownBy w' none := by
 unfold newOk at h
 have b1 : decide ((b : Int) < 1) = false := by simp; omega
 have b2 : decide (64 < (b : Int)) = false := by simp; omega
 have b3 : decide ((p : Int) < 2) = false := by simp; omega
 have b4 : decide (16 < (p : Int)) = false := by simp; omega
 have hE := World.grownBy_alloc w (.cells (zeroT p) 163) none
 have hT : TabS (w.alloc (.cells (zeroT p) 163)) w.heap.size 0 p (fun _ _ => 0) (fun _ => 0) (fun _ => (false, 0, 0)) := ⟨by omega, by omega, _, Blk.new w _ _, zeroT_is p⟩
 have GROW := grow_is hT b (by omega)
 have hM : 0 + (min (b : Int) (64 - ((0 : Nat) : Int))).toNat = b := by omega
 have HE := Lib.hid hE
 have HM := Lib.hid hM
 clear h hE hT hM
 obtain ⟨M, hM⟩ : ∃ M, (min (b : Int) (64 - ((0 : Nat) : Int))).toNat = M := ⟨_, rfl⟩
 rw [hM] at GROW
 have HM2 := Lib.hid hM
 clear hM
 go_enter Tryz.func53, Tryz.ntmps53
 go_wp2_with (first
   | (refine tab_build rfl _ rfl rfl ?_)
   | (go_at_call 94; refine GROW.mono ?_; rintro e w2 ⟨rfl, hG2⟩))
 go_ret
 obtain ⟨R', h2, h3, h4, _, h5⟩ := hG2
 have hMb : 0 + M = b := by have h6 := HM.out; have h7 := HM2.out; omega
 rw [hMb] at h2 h4
 exact ⟨_, rfl, ⟨R', _, _, h2, Inv14.none b p R' (fun i j hi hj => h4 i j (Nat.zero_le _) hi hj)⟩, Nat.le_refl _, g14_new HE.out h5 (Nat.le_refl _)⟩
section
variable {w w' : World} {t B P : Nat} {rs : List R14}
end
end Go.Proofs.YtdnpdoipipfkoaaGreatDoor
