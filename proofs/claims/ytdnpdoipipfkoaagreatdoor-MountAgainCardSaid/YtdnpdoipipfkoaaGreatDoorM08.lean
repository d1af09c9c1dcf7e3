/-
  Texts put together: QC QG QH QI QJ QK QE QF.
-/
import Derived.Test.YtdnpdoipipfkoaaGreatDoorM07
import Derived.Test.YtdnpdoipipfkoaaGreatDoorM02
import Derived.Outline
import Derived.Deep.DeepCutAuto
import Derived.Deep.Cut
import Derived.Deep.LoopGhost
import Derived.Test.YtdnpdoipipfkoaaGreatDoorM06
import Derived.Test.YtdnpdoipipfkoaaGreatDoorM01
import Derived.Lib.Hide
namespace Go.Proofs.YtdnpdoipipfkoaaGreatDoor
set_option linter.unusedVariables false
set_option linter.unusedSimpArgs false
set_option linter.unusedVariables false
set_option linter.unusedSimpArgs false
set_option maxRecDepth 100000
open Go.RowKit
def chgV (c : Chg) : Value := .agg #[.int .i64 c.pl, .int .i64 c.kd, .string c.dt]
def putE (row : List Chg) (c : Chg) : Int := if chkE c.pl c.kd c.dt = 0 then (if row.length = 4 then 8 else 0) else chkE c.pl c.kd c.dt
def putR (row : List Chg) (c : Chg) : List Chg := if putE row c = 0 then row ++ [c] else row
def firstC (row : List Chg) : Chg := row.headD noChg
def lastN (row : List Chg) (p : Int) : Chg × Bool := row.foldl (fun acc x => if x.pl = p then (x, true) else acc) (noChg, false)
abbrev Ext13 (w w' : World) : Prop := w.grownBy w' none
theorem ext13_trans {w w1 w2 : World} (h : Ext13 w w1) (h2 : Ext13 w1 w2) : Ext13 w w2 :=
 ⟨h2.os.trans h.os, h2.tape.trans h.tape, h2.output.trans h.output, Nat.le_trans h.size h2.size, fun k hk hne => (h2.block k (Nat.lt_of_lt_of_le hk h.size) hne).trans (h.block k hk hne)⟩
theorem Tryz.sizeChg : (Tryz.prog.info? 87).map (·.size) = some 3 := by kernel_rfl
section
variable {ops : Array Oper} {rest : List Oper} {o : Oper} {a : Act} {w : World} {Q : Exit → Act → World → Prop}
theorem chg_load_want (hwt : Region.wanted o (yielded ops a.tmps) = true) (x : Operand) (ho : o.op = .load 87 x) {b off : Nat} (hx : a.eval x = .pointer (some ⟨b, off, none⟩)) {c : Chg} (hr : w.rangeAt b off (chgC c).toList)
   (h : wpList Tryz.prog ops Q rest (a.put o.dst (.agg (chgC c))) w) : wpList Tryz.prog ops Q (o :: rest) a w :=
 wpList_want hwt fun K hK => wp_load_mid _ x ho b off hx _ _ hr Tryz.underlying87 rfl (by rw [Tryz.sizeChg]; rfl) (hK _ _ (by simpa using h))
theorem chg_store (x y : Operand) (ho : o.op = .store 87 x y) {g : Nat} (hx : a.eval x = .pointer (some ⟨g, 0, none⟩)) {c : Chg} (hy : a.eval y = .agg (chgC c)) {old : Array Value} (hg : Blk w g 87 old) (hold : old.size = 3) (hwt : Region.wanted o (yielded ops a.tmps) = true)
   (h : ∀ w', Blk w' g 87 (chgC c) → w.grownBy w' (some g) → w'.heap.size = w.heap.size → wpList Tryz.prog ops Q rest (a.put o.dst undef) w') : wpList Tryz.prog ops Q (o :: rest) a w :=
 wpList_store_part hwt _ x y ho g 0 3 _ hx hy _ old _ hg rfl Tryz.sizeChg (by omega) (by simp [chgC, Value.oneCell']) (by
   have h1 : (chgC c).toList.length = 3 := rfl
   rw [h1, List.drop_of_length_le (by simp; omega)]
   simp) h
end
theorem grown_trans13 {w w1 w2 : World} (h : w.grownBy w1 none) (h2 : w1.grownBy w2 (some w.heap.size)) : w.grownBy w2 none :=
 ⟨h2.os.trans h.os, h2.tape.trans h.tape, h2.output.trans h.output, Nat.le_trans h.size h2.size, fun k hk hne => (h2.block k (Nat.lt_of_lt_of_le hk h.size) (fun e => by injection e with e; omega)).trans (h.block k hk hne)⟩
theorem grown_past13 {w w1 w2 : World} {b : Nat} (h : w.grownBy w1 none) (h2 : w1.grownBy w2 (some b)) (hb : w.heap.size ≤ b) : w.grownBy w2 none :=
 ⟨h2.os.trans h.os, h2.tape.trans h.tape, h2.output.trans h.output, Nat.le_trans h.size h2.size, fun k hk hne => (h2.block k (Nat.lt_of_lt_of_le hk h.size) (fun e => by injection e with e; omega)).trans (h.block k hk hne)⟩
theorem owns_shape13 {w : World} {B : Nat} {e : TypeId} {sz : Nat} {v : Value} {n : Nat} {xs : List Value} (h : w.ownsRow B e sz v n xs) : ∃ ao cap, v = .slice ao n cap := by
 rcases h.2 with ⟨rfl, rfl⟩ | ⟨g, cap, _, rfl, _⟩
 · exact ⟨none, 0, rfl⟩
 · exact ⟨_, cap, rfl⟩
theorem chgV_is (c : Chg) : chgV c = .agg (chgC c) := rfl
theorem Blk.range {w : World} {g : Nat} {t : TypeId} {cs : Array Value} (h : Blk w g t cs) (off n : Nat) (hn : (cs.extract off (off + n)).size = n) : w.rangeAt g off (cs.extract off (off + n)).toList := by
 have := World.rangeAt_of_block h off n
 simpa using this
def fB : Chg := ⟨3, 2, ⟨#[]⟩⟩
end Go.Proofs.YtdnpdoipipfkoaaGreatDoor

namespace Go.Proofs.YtdnpdoipipfkoaaGreatDoor
set_option linter.unusedVariables false
set_option linter.unusedSimpArgs false
set_option linter.unusedVariables false
set_option linter.unusedSimpArgs false
set_option maxRecDepth 100000
open Go.RowKit
theorem lastN_snoc (row : List Chg) (c : Chg) (p : Int) : lastN (row ++ [c]) p = if c.pl = p then (c, true) else lastN row p := by simp [lastN]
def bufC (rs : List Chg) (f c : Int) : Array Value := (chgsL rs ++ [Value.int .i64 f, Value.int .i64 c]).toArray
theorem four_of {rs : List Chg} (h : rs.length = 4) : ∃ x0 x1 x2 x3, rs = [x0, x1, x2, x3] := by
 match rs, h with
 | [x0, x1, x2, x3], _ => exact ⟨x0, x1, x2, x3, rfl⟩
theorem bufC_first {rs : List Chg} (h : rs.length = 4) (f c : Int) : (bufC rs f c)[12]? = some (.int .i64 f) := by
 obtain ⟨_, _, _, _, rfl⟩ := four_of h; rfl
theorem bufC_count {rs : List Chg} (h : rs.length = 4) (f c : Int) : (bufC rs f c)[13]? = some (.int .i64 c) := by
 obtain ⟨_, _, _, _, rfl⟩ := four_of h; rfl
theorem bufC_size {rs : List Chg} (h : rs.length = 4) (f c : Int) : (bufC rs f c).size = 14 := by
 obtain ⟨_, _, _, _, rfl⟩ := four_of h; rfl
theorem bufC_at {rs : List Chg} (h : rs.length = 4) (f c : Int) {k : Nat} (hk : k < 4) : (bufC rs f c).extract (k * 3) (k * 3 + 3) = chgC (rs.getD k noChg) := by
 obtain ⟨_, _, _, _, rfl⟩ := four_of h
 obtain rfl | rfl | rfl | rfl : k = 0 ∨ k = 1 ∨ k = 2 ∨ k = 3 := by omega
 all_goals rfl
theorem bufC_set {rs : List Chg} (h : rs.length = 4) (f c : Int) {k : Nat} (hk : k < 4) (x : Chg) : ((bufC rs f c).toList.take (k * 3) ++ (chgC x).toList ++ (bufC rs f c).toList.drop (k * 3 + (chgC x).toList.length)).toArray = bufC (rs.set k x) f c := by
 obtain ⟨_, _, _, _, rfl⟩ := four_of h
 obtain rfl | rfl | rfl | rfl : k = 0 ∨ k = 1 ∨ k = 2 ∨ k = 3 := by omega
 all_goals rfl
theorem bufC_setFirst {rs : List Chg} (h : rs.length = 4) (f c g : Int) : (bufC rs f c).setIfInBounds 12 (.int .i64 g) = bufC rs g c := by
 obtain ⟨_, _, _, _, rfl⟩ := four_of h; rfl
theorem bufC_setCount {rs : List Chg} (h : rs.length = 4) (f c g : Int) : (bufC rs f c).setIfInBounds 13 (.int .i64 g) = bufC rs f g := by
 obtain ⟨_, _, _, _, rfl⟩ := four_of h; rfl
def ringL (rs : List Chg) (f c : Nat) : List Chg := (List.range c).map fun i => rs.getD ((f + i) % 4) noChg
theorem ringL_len (rs : List Chg) (f c : Nat) : (ringL rs f c).length = c := by simp [ringL]
theorem ringL_get (rs : List Chg) (f c : Nat) {i : Nat} (hi : i < c) : (ringL rs f c).getD i noChg = rs.getD ((f + i) % 4) noChg := by
 rw [List.getD_eq_getElem?_getD, ringL, List.getElem?_map, List.getElem?_range hi]
 rfl
theorem ringL_put {rs : List Chg} (h : rs.length = 4) (f c : Nat) (hc : c < 4) (x : Chg) : ringL (rs.set ((f + c) % 4) x) f (c + 1) = ringL rs f c ++ [x] := by
 unfold ringL
 rw [List.range_succ, List.map_append]
 congr 1
 · refine List.map_congr_left fun i hi => ?_
   have := List.mem_range.1 hi
   rw [List.getD_eq_getElem?_getD, List.getElem?_set_ne (by omega), ← List.getD_eq_getElem?_getD]
 · simp [List.getD_eq_getElem?_getD, h]
   rw [List.getElem?_set_self (by omega)]
   rfl
theorem ringL_drop {rs : List Chg} (f c : Nat) (x : Chg) (hc : 0 < c) (hc4 : c ≤ 4) : ringL (rs.set (f % 4) x) ((f + 1) % 4) (c - 1) = (ringL rs f c).drop 1 := by
 refine List.ext_getElem? fun j => ?_
 rw [List.getElem?_drop]
 unfold ringL
 rw [List.getElem?_map, List.getElem?_map]
 by_cases hj : j < c - 1
 · rw [List.getElem?_range hj, List.getElem?_range (by omega)]
   show some ((rs.set (f % 4) x).getD (((f + 1) % 4 + j) % 4) noChg) = some (rs.getD ((f + (1 + j)) % 4) noChg)
   rw [show ((f + 1) % 4 + j) % 4 = (f + (1 + j)) % 4 by omega, List.getD_eq_getElem?_getD, List.getElem?_set_ne (by omega), ← List.getD_eq_getElem?_getD]
 · rw [List.getElem?_eq_none (by simp; omega), List.getElem?_eq_none (by simp; omega)]
   rfl
theorem ringL_first (rs : List Chg) {f : Nat} (hf : f < 4) {c : Nat} (hc : 0 < c) : firstC (ringL rs f c) = rs.getD f noChg := by
 unfold firstC
 rw [List.headD_eq_head?_getD, List.head?_eq_getElem?, ← List.getD_eq_getElem?_getD, ringL_get rs f c hc, Nat.add_zero, Nat.mod_eq_of_lt hf]
theorem ringL_snoc (rs : List Chg) (f c : Nat) : ringL rs f (c + 1) = ringL rs f c ++ [rs.getD ((f + c) % 4) noChg] := by
 unfold ringL
 rw [List.range_succ, List.map_append]
 rfl
structure BufS (w : World) (b : Nat) (rs : List Chg) (f c : Nat) : Prop where
 four : rs.length = 4
 fl : f < 4
 cl : c ≤ 4
 blk : Blk w b 138 (bufC rs f c)
def BufA (w : World) (b : Nat) (row : List Chg) : Prop := ∃ rs f c, BufS w b rs f c ∧ row = ringL rs f c
section
variable {w w' : World} {b : Nat} {rs : List Chg} {f c : Nat}
theorem BufS.first (h : BufS w b rs f c) : w.cell? ⟨b, 12, none⟩ = some (.int .i64 f) := (h.blk.cell 12).trans (bufC_first h.four _ _)
theorem BufS.count (h : BufS w b rs f c) : w.cell? ⟨b, 13, none⟩ = some (.int .i64 c) := (h.blk.cell 13).trans (bufC_count h.four _ _)
theorem BufS.ext (h : BufS w b rs f c) (hg : w.grownBy w' none) : BufS w' b rs f c := ⟨h.four, h.fl, h.cl, h.blk.ext hg⟩
theorem BufS.range (h : BufS w b rs f c) {k : Nat} (hk : k < 4) {x : Chg} (hx : rs.getD k noChg = x) : w.rangeAt b (k * 3) (chgC x).toList := by
 have := h.blk.range (k * 3) 3 (by rw [bufC_at h.four _ _ hk]; rfl)
 rw [bufC_at h.four _ _ hk, hx] at this
 exact this
theorem bufStays (w w' : World) (b : Nat) (row : List Chg) (h : BufA w b row) (hq : w'.heap[b]? = w.heap[b]?) : BufA w' b row := by
 obtain ⟨rs, f, c, hs, hr⟩ := h
 exact ⟨rs, f, c, ⟨hs.four, hs.fl, hs.cl, hq.trans hs.blk⟩, hr⟩
theorem bufLt (w : World) (b : Nat) (row : List Chg) (h : BufA w b row) : b < w.heap.size := by
 obtain ⟨_, _, _, hs, _⟩ := h
 exact hs.blk.lt
theorem at_is (h : BufS w b rs f c) {i : Nat} (hi : i ≤ 4) : Calls Tryz.prog 89 #[.pointer (some ⟨b, 0, none⟩), .int .i64 i] w fun e w' => e = .returned (.int .i64 ((f + i) % 4 : Nat)) ∧ w = w' := by
 have c1 := h.first
 have hf := h.fl
 clear h
 go_enter Tryz.func89, Tryz.ntmps89
 go_wp2
 go_ret
 refine ⟨ret_int13 ?_, rfl⟩
 omega
theorem len_is (h : BufS w b rs f c) : Calls Tryz.prog 32 #[.pointer (some ⟨b, 0, none⟩)] w fun e w' => e = .returned (.int .i64 c) ∧ w = w' := by
 have c1 := h.count
 clear h
 go_enter Tryz.func32, Tryz.ntmps32
 go_wp2
 go_ret
 exact ⟨rfl, rfl⟩
theorem full_is (h : BufS w b rs f c) : Calls Tryz.prog 60 #[.pointer (some ⟨b, 0, none⟩)] w fun e w' => e = .returned (.bool (decide (c = 4))) ∧ w = w' := by
 have c1 := h.count
 clear h
 go_enter Tryz.func60, Tryz.ntmps60
 go_wp2
 go_ret
 refine ⟨congrArg (fun q => Ending.returned (.bool q)) ?_, rfl⟩
 by_cases h4 : c = 4
 · subst h4; rfl
 · rw [decide_eq_false h4]
   simp
   omega
end
end Go.Proofs.YtdnpdoipipfkoaaGreatDoor

namespace Go.Proofs.YtdnpdoipipfkoaaGreatDoor
set_option linter.unusedVariables false
set_option linter.unusedSimpArgs false
set_option linter.unusedVariables false
set_option linter.unusedSimpArgs false
set_option maxRecDepth 100000
open Go.RowKit
theorem results_cell_two {P : Program} {fn : Func} {p t : Tmp} {ty : TypeId} {tmps : Array Value} {w : World} {g : Nat} {bt : TypeId} {cs : Array Value} {v : Value} {d : TypeDesc} (h : fn.results = #[.cell p ty, .tmp t])
   (hp : tmps.getD p undef = .pointer (some ⟨g, 0, none⟩)) (hv : tmps.getD t undef = v) (hg : w.heap[g]? = some (.cells cs bt (0, 0)))
   (hu : P.underlying ty = some d) (hd : (match d with | .struct _ | .array _ _ => true | _ => false) = true) (hi : (P.info? ty).map (·.size) = some cs.size) :
   (results fn tmps).run P w = .ok (.tuple #[.agg cs, v]) w := by
 have hp' : tmps[p]?.getD undef = .pointer (some ⟨g, 0, none⟩) := by simpa using hp
 have hv' : tmps[t]?.getD undef = v := by simpa using hv
 simp [results, h, hp', hv', asAddr, run_loadVar_row w g bt ty cs (0, 0) d hg hu hd hi]
theorem g13_new {w w1 w2 : World} {g : Nat} (h : w.grownBy w1 none) (h2 : w1.grownBy w2 (some g)) (hg : w.heap.size ≤ g) : w.grownBy w2 none := grown_past13 h h2 hg
theorem grown_of_drew13 {w w' : World} {r : Option Nat} (h : w.drew.grownBy w' r) : w.grownBy w' r := ⟨h.os, h.tape, h.output, h.size, h.block⟩
section
variable {w : World} {b : Nat} {rs : List Chg} {f c : Nat}
theorem first_none (h : BufS w b rs f 0) : Calls Tryz.prog 62 #[.pointer (some ⟨b, 0, none⟩)] w fun e w' => e = .returned (.tuple #[chgV noChg, .bool false]) ∧ w.grownBy w' none := by
 have hs1 := h.ext (World.grownBy_alloc w (.cells #[.int .i64 0, .int .i64 0, .string ⟨#[]⟩] 87) none)
 have hb1 := Blk.new w 87 #[.int .i64 0, .int .i64 0, .string ⟨#[]⟩]
 have LEN := len_is hs1
 have hE := World.grownBy_alloc w (.cells #[.int .i64 0, .int .i64 0, .string ⟨#[]⟩] 87) none
 clear hs1
 obtain ⟨z0, hz0⟩ : ∃ z : Int, z = ((0 : Nat) : Int) := ⟨_, rfl⟩
 rw [← hz0] at LEN
 have hz : (z0 == 0) = true := by rw [hz0]; rfl
 have HE := Lib.hid hE
 clear hz0 hE h
 go_enter Tryz.func62, Tryz.ntmps62
 go_wp2_with (first
   | (go_at_call 32; refine LEN.mono ?_; rintro e w2 ⟨rfl, rfl⟩)
   | (refine chg_store (c := noChg) _ _ rfl rfl rfl hb1 rfl rfl ?_; intro w6 hb6 hg6 hs6))
 refine bodyPost_ret (v := .tuple #[.agg (chgC noChg), .bool false]) (results_cell_two (fn := Tryz.f62) rfl rfl rfl hb6 Tryz.underlying87 rfl Tryz.sizeChg) rfl ?_
 exact ⟨rfl, g13_new HE.out hg6 (Nat.le_refl _)⟩
theorem first_some (h : BufS w b rs f c) (hc : 0 < c) {x : Chg} (hx : rs.getD f noChg = x) : Calls Tryz.prog 62 #[.pointer (some ⟨b, 0, none⟩)] w fun e w' => e = .returned (.tuple #[chgV x, .bool true]) ∧ w.grownBy w' none := by
 have hs1 := h.ext (World.grownBy_alloc w (.cells #[.int .i64 0, .int .i64 0, .string ⟨#[]⟩] 87) none)
 have hb1 := Blk.new w 87 #[.int .i64 0, .int .i64 0, .string ⟨#[]⟩]
 have LEN := len_is hs1
 have hE := World.grownBy_alloc w (.cells #[.int .i64 0, .int .i64 0, .string ⟨#[]⟩] 87) none
 obtain ⟨z0, hz0⟩ : ∃ z : Int, z = (c : Int) := ⟨_, rfl⟩
 rw [← hz0] at LEN
 have hz : (z0 == 0) = false := by rw [beq_eq_false_iff_ne]; omega
 have hfl := h.fl
 have HX := Lib.hid hx
 obtain ⟨w1, hw1⟩ : ∃ v, w.alloc (.cells #[.int .i64 0, .int .i64 0, .string ⟨#[]⟩] 87) = v := ⟨_, rfl⟩
 rw [hw1] at hs1 hb1 LEN hE
 have HE := Lib.hid hE
 have hS : BufS w1.drew b rs f c := hs1.ext (Ext.drew w1)
 have hb2 : Blk w1.drew w.heap.size 87 #[.int .i64 0, .int .i64 0, .string ⟨#[]⟩] := hb1.ext (Ext.drew w1)
 clear hz0 hx hb1 hs1 hE
 have hbl := Lib.hid h.blk.lt
 clear h
 go_enter Tryz.func62, Tryz.ntmps62
 go_wp2_with (first
   | (go_at_call 32; refine LEN.mono ?_; rintro e w2 ⟨rfl, rfl⟩))
 clear LEN
 refine region_line [(0, true), (1, true), (2, true), (3, true), (4, true), (5, true), (6, true), (7, true), (8, true), (9, false), (10, true)] (fun x => BufS x b rs f c) (by kernel_rfl) (by kernel_rfl) (fun _ _ _ d _ h => by cases d <;> exact h) hS ?_
 iterate 8 (refine line_read (a' := ?_) rfl (by kernel_rfl) (by kernel_rfl) hS (fun x hx K hK => ?_) ?_; rotate_left; · have c1 := hx.first; clear hx; go_wp2; exact hK)
 refine line_read (a' := ?_) rfl (by kernel_rfl) (by kernel_rfl) hS (fun x hx K hK => ?_) ?_
 rotate_left
 · have hr := hx.range hfl HX.out
   clear hx
   refine chg_load_want rfl _ rfl rfl hr ?_
   go_wp2
   exact hK
 refine line_act (by rfl) (fun K hK => ?_)
 go_wp2_with (first
   | (refine chg_store (c := x) _ _ rfl rfl rfl hb2 rfl rfl ?_; intro w6 hb6 hg6 hs6))
 have hS6 : BufS w6 b rs f c := ⟨hS.four, hS.fl, hS.cl, hS.blk.kept hg6 (fun e => by injection e with e; have := hbl.out; omega)⟩
 refine hK _ _ _ hS6 (fun x hx => hx) ?_
 clear hK K
 refine line_read (a' := ?_) rfl (by kernel_rfl) (by kernel_rfl) hS6 (fun x hx K hK => ?_) ?_
 rotate_left
 · clear hx
   go_wp2
   exact hK
 refine line_end ?_
 go_wp2
 refine bodyPost_ret (v := .tuple #[.agg (chgC x), .bool true]) (results_cell_two (fn := Tryz.f62) rfl rfl rfl hb6 Tryz.underlying87 rfl Tryz.sizeChg) rfl ?_
 exact ⟨rfl, g13_new HE.out (w2 := w6) (grown_of_drew13 hg6) (Nat.le_refl _)⟩
end
end Go.Proofs.YtdnpdoipipfkoaaGreatDoor

namespace Go.Proofs.YtdnpdoipipfkoaaGreatDoor
set_option linter.unusedVariables false
set_option linter.unusedSimpArgs false
set_option linter.unusedVariables false
set_option linter.unusedSimpArgs false
set_option maxRecDepth 100000
open Go.RowKit
set_option maxHeartbeats 800000 in
theorem chk_is (pl kd : Int) (dt : ByteArray) (w : World) (hd : dt.size ≤ 9223372036854775807) :
   Calls Tryz.prog 95 #[.agg (chgC ⟨pl, kd, dt⟩)] w fun e w' => e = .returned (.int .i64 (chkE pl kd dt)) ∧ w.grownBy w' none := by
 have hz := str_none (s := dt)
 obtain ⟨r, hr⟩ : ∃ r, chkE pl kd dt = r := ⟨_, rfl⟩
 rw [hr]
 unfold chkE at hr
 have HE := Lib.hid (World.grownBy_alloc w (.cells (chgC ⟨pl, kd, dt⟩) 87) none)
 have hb := Blk.new w 87 (chgC ⟨pl, kd, dt⟩)
 have c0 := (hb.cell 0).trans (show (chgC ⟨pl, kd, dt⟩)[0]? = some (.int .i64 pl) from rfl)
 have c1 := (hb.cell 1).trans (show (chgC ⟨pl, kd, dt⟩)[1]? = some (.int .i64 kd) from rfl)
 have c2 := (hb.cell 2).trans (show (chgC ⟨pl, kd, dt⟩)[2]? = some (.string dt) from rfl)
 clear hb
 obtain ⟨n, hn⟩ : ∃ n, dt.size = n := ⟨_, rfl⟩
 have HD := Lib.hid (show (dt.size : Int) = n by rw [hn])
 rw [hn] at hz hd hr
 have HR := Lib.hid hr
 clear hr
 by_cases kk : kd ≠ 1 ∧ kd ≠ 2
 · have b1 : (kd != 1) = true := by simp [kk.1]
   have b2 : (kd != 2) = true := by simp [kk.2]
   have HK := Lib.hid kk
   clear kk hz
   go_enter Tryz.func95, Tryz.ntmps95
   go_wp2
   go_ret
   exact ⟨ret_int13 (by rw [← HR.out, if_pos (.inl HK.out)]), HE.out⟩
 by_cases k1 : kd = 1
 · have b1 : (kd != 1) = false := by simp [k1]
   have b2 : (kd == 2) = false := by simp [k1]
   have HK := Lib.hid (And.intro k1 kk)
   clear k1 kk hz
   by_cases hp : pl < 0
   · have b3 : decide (pl < 0) = true := by simpa using hp
     have HP := Lib.hid hp
     clear hp
     go_enter Tryz.func95, Tryz.ntmps95
     go_wp2
     go_ret
     exact ⟨ret_int13 (by rw [← HR.out, if_pos (.inr (.inl HP.out))]), HE.out⟩
   · have b3 : decide (pl < 0) = false := by simpa using hp
     have HP := Lib.hid hp
     clear hp
     by_cases hq : 63 < pl
     · have b4 : decide (64 ≤ pl) = true := by simpa using (show (64 : Int) ≤ pl by omega)
       have HQ := Lib.hid hq
       clear hq
       go_enter Tryz.func95, Tryz.ntmps95
       go_wp2
       go_ret
       exact ⟨ret_int13 (by rw [← HR.out, if_pos (.inr (.inr (.inl HQ.out)))]), HE.out⟩
     · have b4 : decide (64 ≤ pl) = false := by simpa using (show ¬ (64 : Int) ≤ pl by omega)
       have HQ := Lib.hid hq
       clear hq
       have HN := Lib.hid (show ¬ ((kd ≠ 1 ∧ kd ≠ 2) ∨ pl < 0 ∨ 63 < pl ∨ (kd = 2 ∧ n ≠ 0)) from fun h => by
         have h1 := HK.out.1; have h2 := HK.out.2; have h3 := HP.out; have h4 := HQ.out
         rcases h with h | h | h | h
         · exact h2 h
         · exact h3 h
         · exact h4 h
         · omega)
       by_cases hl : 16 < n
       · have b5 : (16 : Int) < n := by omega
         have HL := Lib.hid hl
         clear hl
         go_enter Tryz.func95, Tryz.ntmps95
         go_wp2
         go_ret
         exact ⟨ret_int13 (by rw [← HR.out, if_neg HN.out, if_pos HL.out]), HE.out⟩
       · have b5 : ¬ (16 : Int) < n := by omega
         have HL := Lib.hid hl
         clear hl
         go_enter Tryz.func95, Tryz.ntmps95
         go_wp2
         go_ret
         exact ⟨ret_int13 (by rw [← HR.out, if_neg HN.out, if_neg HL.out]), HE.out⟩
 · have k2 : kd = 2 := by omega
   have b1 : (kd != 1) = true := by simp [k2]
   have b2 : (kd != 2) = false := by simp [k2]
   have b22 : (kd == 2) = true := by simp [k2]
   have HK := Lib.hid (And.intro k2 kk)
   clear k1 kk k2
   by_cases hp : pl < 0
   · have b3 : decide (pl < 0) = true := by simpa using hp
     have HP := Lib.hid hp
     clear hp hz
     go_enter Tryz.func95, Tryz.ntmps95
     go_wp2
     go_ret
     exact ⟨ret_int13 (by rw [← HR.out, if_pos (.inr (.inl HP.out))]), HE.out⟩
   · have b3 : decide (pl < 0) = false := by simpa using hp
     have HP := Lib.hid hp
     clear hp
     by_cases hq : 63 < pl
     · have b4 : decide (64 ≤ pl) = true := by simpa using (show (64 : Int) ≤ pl by omega)
       have HQ := Lib.hid hq
       clear hq hz
       go_enter Tryz.func95, Tryz.ntmps95
       go_wp2
       go_ret
       exact ⟨ret_int13 (by rw [← HR.out, if_pos (.inr (.inr (.inl HQ.out)))]), HE.out⟩
     · have b4 : decide (64 ≤ pl) = false := by simpa using (show ¬ (64 : Int) ≤ pl by omega)
       have HQ := Lib.hid hq
       clear hq
       by_cases hl : n = 0
       · rw [decide_eq_true hl] at hz
         have HN := Lib.hid (show ¬ ((kd ≠ 1 ∧ kd ≠ 2) ∨ pl < 0 ∨ 63 < pl ∨ (kd = 2 ∧ n ≠ 0)) from fun h => by
           have h1 := HK.out.1; have h2 := HK.out.2; have h3 := HP.out; have h4 := HQ.out
           rcases h with h | h | h | h
           · exact h2 h
           · exact h3 h
           · exact h4 h
           · omega)
         have b5 : ¬ (16 : Int) < n := by omega
         have HL := Lib.hid (show ¬ 16 < n by omega)
         clear hl
         go_enter Tryz.func95, Tryz.ntmps95
         go_wp2
         go_ret
         exact ⟨ret_int13 (by rw [← HR.out, if_neg HN.out, if_neg HL.out]), HE.out⟩
       · rw [decide_eq_false hl] at hz
         have HL := Lib.hid hl
         clear hl
         go_enter Tryz.func95, Tryz.ntmps95
         go_wp2
         go_ret
         exact ⟨ret_int13 (by rw [← HR.out, if_pos (.inr (.inr (.inr ⟨HK.out.1, HL.out⟩)))]), HE.out⟩
theorem new13_is (w : World) : Calls Tryz.prog 55 #[] w fun e w' => ∃ b, e = .returned (.pointer (some ⟨b, 0, none⟩)) ∧ BufA w' b [] ∧ w.heap.size ≤ b ∧ w.grownBy w' none := by
 go_enter Tryz.func55, Tryz.ntmps55
 go_wp2
 go_ret
 exact ⟨_, rfl, ⟨[noChg, noChg, noChg, noChg], 0, 0, ⟨rfl, by omega, by omega, Blk.new w _ _⟩, rfl⟩, Nat.le_refl _, World.grownBy_alloc w _ none⟩
section
variable {ops : Array Oper} {rest : List Oper} {o : Oper} {a : Act} {w : World} {Q : Exit → Act → World → Prop}
theorem ring_store (x y : Operand) (ho : o.op = .store 87 x y) {b k : Nat} {rs : List Chg} {f n : Nat} (hk : k < 4) (hx : a.eval x = .pointer (some ⟨b, k * 3, none⟩)) {c : Chg} (hy : a.eval y = .agg (chgC c)) (hs : BufS w b rs f n) (hwt : Region.wanted o (yielded ops a.tmps) = true)
   (h : ∀ w', BufS w' b (rs.set k c) f n → w.grownBy w' (some b) → wpList Tryz.prog ops Q rest (a.put o.dst undef) w') : wpList Tryz.prog ops Q (o :: rest) a w :=
 wpList_store_part hwt _ x y ho b (k * 3) 3 _ hx hy _ _ _ hs.blk rfl Tryz.sizeChg (by rw [bufC_size hs.four]; omega) (by simp [chgC, Value.oneCell']) (bufC_set hs.four _ _ hk c) fun w' h1 h2 _ => h w' ⟨by rw [List.length_set]; exact hs.four, hs.fl, hs.cl, h1⟩ h2
end
section
variable {w : World} {b : Nat} {rs : List Chg} {f c : Nat}
theorem BufS.setFirst (h : BufS w b rs f c) {g : Nat} (hg : g < 4) : BufS (w.setCell ⟨b, 12, none⟩ (.int .i64 g)) b rs g c :=
 ⟨h.four, hg, h.cl, by have := h.blk.set 12 (.int .i64 g); rw [bufC_setFirst h.four] at this; exact this⟩
theorem BufS.setCount (h : BufS w b rs f c) {g : Nat} (hg : g ≤ 4) : BufS (w.setCell ⟨b, 13, none⟩ (.int .i64 g)) b rs f g :=
 ⟨h.four, h.fl, hg, by have := h.blk.set 13 (.int .i64 g); rw [bufC_setCount h.four] at this; exact this⟩
theorem drop_none (h : BufS w b rs f 0) : Calls Tryz.prog 64 #[.pointer (some ⟨b, 0, none⟩)] w fun e w' => e = .returned (.bool false) ∧ w = w' := by
 have LEN := len_is h
 obtain ⟨z0, hz0⟩ : ∃ z : Int, z = ((0 : Nat) : Int) := ⟨_, rfl⟩
 rw [← hz0] at LEN
 have hz : (z0 == 0) = true := by rw [hz0]; rfl
 clear hz0 h
 go_enter Tryz.func64, Tryz.ntmps64
 go_wp2_with (first
   | (go_at_call 32; refine LEN.mono ?_; rintro e w2 ⟨rfl, rfl⟩))
 go_ret
 exact ⟨rfl, rfl⟩
set_option maxHeartbeats 800000 in
theorem drop_some (h : BufS w b rs f c) (hc : 0 < c) : Calls Tryz.prog 64 #[.pointer (some ⟨b, 0, none⟩)] w fun e w' => e = .returned (.bool true) ∧ BufS w' b (rs.set f noChg) ((f + 1) % 4) (c - 1) ∧ w.grownBy w' (some b) := by
 have LEN := len_is h
 obtain ⟨z0, hz0⟩ : ∃ z : Int, z = (c : Int) := ⟨_, rfl⟩
 rw [← hz0] at LEN
 have hz : (z0 == 0) = false := by rw [beq_eq_false_iff_ne]; omega
 have hfl := h.fl
 have hcl := Lib.hid h.cl
 have hc := Lib.hid hc
 have hS : BufS w.drew b rs f c := h.ext (Ext.drew w)
 obtain ⟨g, hg⟩ : ∃ g, (f + 1) % 4 = g := ⟨_, rfl⟩
 rw [hg]
 have hg4 : g < 4 := by omega
 have hg := Lib.hid hg
 clear hz0 h
 go_enter Tryz.func64, Tryz.ntmps64
 go_wp2_with (first
   | (go_at_call 32; refine LEN.mono ?_; rintro e w2 ⟨rfl, rfl⟩))
 clear LEN
 refine region_line [(0, true), (1, true), (2, true), (3, true), (4, true), (6, true), (7, true), (5, false), (8, true), (9, false)] (fun x => ∃ rs', BufS x b rs' f c) (by kernel_rfl) (by kernel_rfl) (fun _ _ _ d _ h => by cases d <;> exact h) ⟨_, hS⟩ ?_
 iterate 7 (refine line_read (a' := ?_) rfl (by kernel_rfl) (by kernel_rfl) ⟨_, hS⟩ (fun x hx K hK => ?_) ?_; rotate_left; · obtain ⟨rs', hx⟩ := hx; have c1 := hx.first; clear hx; go_wp2; exact hK)
 refine line_act (by rfl) (fun K hK => ?_)
 go_wp2
 refine hK _ _ _ (⟨_, hS⟩ : ∃ rs', BufS w.drew b rs' f c) (fun x hx => hx) ?_
 clear hK K
 refine line_read (a' := ?_) rfl (by kernel_rfl) (by kernel_rfl) ⟨_, hS⟩ (fun x hx K hK => ?_) ?_
 rotate_left
 · clear hx
   go_wp2
   exact hK
 refine line_act (by rfl) (fun K hK => ?_)
 go_wp2_with (first
   | (refine ring_store (c := noChg) _ _ rfl hfl rfl rfl hS rfl ?_; intro w6 hs6 hg6))
 refine hK _ _ _ (⟨_, hs6⟩ : ∃ rs', BufS w6 b rs' f c) (fun x hx => hx) ?_
 clear hK K
 refine line_end ?_
 have AT := at_is hs6 (i := 1) (by omega)
 rw [hg.out] at AT
 have c12 := hs6.first
 have c13 := hs6.count
 have f12 := hs6.blk.free 12
 have f13 := hs6.blk.free 13
 have HG := Lib.hid (grown_of_drew13 hg6)
 have HF := Lib.hid ((hs6.setFirst hg4).setCount (g := c - 1) (by have := hcl.out; omega))
 have hcc : wrap64 ((c : Int) - 1) = ((c - 1 : Nat) : Int) := by have := hc.out; have := hcl.out; unfold wrap64; omega
 clear hs6 hg6 hS
 go_wp2_with (first
   | (go_at_call 89; refine AT.mono ?_; rintro e w7 ⟨rfl, rfl⟩))
 go_ret
 refine ⟨rfl, ?_, ?_⟩
 · exact HF.out
 · exact gb_set (gb_set HG.out _ _) _ _
end
end Go.Proofs.YtdnpdoipipfkoaaGreatDoor

namespace Go.Proofs.YtdnpdoipipfkoaaGreatDoor
set_option linter.unusedVariables false
set_option linter.unusedSimpArgs false
set_option linter.unusedVariables false
set_option linter.unusedSimpArgs false
set_option maxRecDepth 100000
open Go.RowKit
section
variable {w : World} {b : Nat} {rs : List Chg} {f c : Nat}
theorem grown_two13 {w w1 w2 : World} {r : Option Nat} (h : w.grownBy w1 none) (h2 : w1.grownBy w2 r) : w.grownBy w2 r :=
 ⟨h2.os.trans h.os, h2.tape.trans h.tape, h2.output.trans h.output, Nat.le_trans h.size h2.size, fun k hk hne => (h2.block k (Nat.lt_of_lt_of_le hk h.size) hne).trans (h.block k hk (by simp))⟩
theorem grown_any13 {w w1 : World} {r : Option Nat} (h : w.grownBy w1 none) : w.grownBy w1 r := ⟨h.os, h.tape, h.output, h.size, fun k hk _ => h.block k hk (by simp)⟩
theorem put_bad (h : BufS w b rs f c) (x : Chg) (hd : x.dt.size ≤ 9223372036854775807) (hne : chkE x.pl x.kd x.dt ≠ 0) :
   Calls Tryz.prog 61 #[.pointer (some ⟨b, 0, none⟩), chgV x] w fun e w' => e = .returned (.int .i64 (chkE x.pl x.kd x.dt)) ∧ w.grownBy w' none := by
 obtain ⟨r, hr⟩ : ∃ r, chkE x.pl x.kd x.dt = r := ⟨_, rfl⟩
 have CHK := fun wx => chk_is x.pl x.kd x.dt wx hd
 rw [hr] at CHK hne
 rw [hr, chgV_is]
 have hne2 : (r != 0) = true := by simpa using hne
 have HE := Lib.hid (World.grownBy_alloc w (.cells (chgC x) 87) none)
 have hb1 := Blk.new w 87 (chgC x)
 clear hne hr h
 go_enter Tryz.func61, Tryz.ntmps61
 go_upto_region 1 with fail
 go_wp2_with (first
   | (refine chg_load_want rfl _ rfl rfl (hb1.range 0 3 rfl) ?_)
   | (go_at_call 95; refine (CHK _).mono ?_; rintro e w2 ⟨rfl, hE2⟩; have HE2 := Lib.hid hE2; clear hE2))
 go_ret
 exact ⟨rfl, ext13_trans HE.out HE2.out⟩
theorem put_full (h : BufS w b rs f 4) (x : Chg) (hd : x.dt.size ≤ 9223372036854775807) (hne : chkE x.pl x.kd x.dt = 0) :
   Calls Tryz.prog 61 #[.pointer (some ⟨b, 0, none⟩), chgV x] w fun e w' => e = .returned (.int .i64 8) ∧ w.grownBy w' none := by
 obtain ⟨r, hr⟩ : ∃ r, chkE x.pl x.kd x.dt = r := ⟨_, rfl⟩
 have CHK := fun wx => chk_is x.pl x.kd x.dt wx hd
 rw [hr] at CHK hne
 rw [chgV_is]
 have hne2 : (r != 0) = false := by simpa using hne
 have HE := Lib.hid (World.grownBy_alloc w (.cells (chgC x) 87) none)
 have hb1 := Blk.new w 87 (chgC x)
 have hs1 := h.ext HE.out
 clear hne hr h
 go_enter Tryz.func61, Tryz.ntmps61
 go_upto_region 1 with fail
 go_wp2_with (first
   | (refine chg_load_want rfl _ rfl rfl (hb1.range 0 3 rfl) ?_)
   | (go_at_call 95; refine (CHK _).mono ?_; rintro e w2 ⟨rfl, hE2⟩; have hs2 := hs1.ext hE2; have HE2 := Lib.hid hE2; clear hE2 hs1)
   | (go_at_call 60; refine (full_is hs2).mono ?_; rintro e w3 ⟨rfl, rfl⟩))
 go_ret
 exact ⟨rfl, ext13_trans HE.out HE2.out⟩
set_option maxHeartbeats 1600000 in
theorem put_ok (h : BufS w b rs f c) (hc : c < 4) (x : Chg) (hd : x.dt.size ≤ 9223372036854775807) (hne : chkE x.pl x.kd x.dt = 0) :
   Calls Tryz.prog 61 #[.pointer (some ⟨b, 0, none⟩), chgV x] w fun e w' => e = .returned (.int .i64 0) ∧ BufS w' b (rs.set ((f + c) % 4) x) f (c + 1) ∧ w.grownBy w' (some b) := by
 obtain ⟨r, hr⟩ : ∃ r, chkE x.pl x.kd x.dt = r := ⟨_, rfl⟩
 have CHK := fun wx => chk_is x.pl x.kd x.dt wx hd
 rw [hr] at CHK hne
 rw [chgV_is]
 have hne2 : (r != 0) = false := by simpa using hne
 have HE := Lib.hid (World.grownBy_alloc w (.cells (chgC x) 87) none)
 have hb1 := Blk.new w 87 (chgC x)
 obtain ⟨g, hg⟩ : ∃ g, (f + c) % 4 = g := ⟨_, rfl⟩
 rw [hg]
 have hg4 : g < 4 := by omega
 have hlt := Lib.hid h.blk.lt
 have hs1 := h.ext HE.out
 have hg := Lib.hid hg
 have full : decide (c = 4) = false := decide_eq_false (by omega)
 clear hne hr h
 obtain ⟨L, hL⟩ : ∃ z, w.heap.size = z := ⟨_, rfl⟩
 obtain ⟨w1, hw1⟩ : ∃ v, w.alloc (.cells (chgC x) 87) = v := ⟨_, rfl⟩
 rw [hw1] at HE hb1 hs1
 rw [hL] at hb1 hlt
 go_enter Tryz.func61, Tryz.ntmps61
 go_upto_region 1 with fail
 clear hL hw1
 go_wp2_with (first
   | (refine chg_load_want rfl _ rfl rfl (hb1.range 0 3 rfl) ?_)
   | (go_at_call 95; refine (CHK _).mono ?_; rintro e w2 ⟨rfl, hE2⟩; have hs2 := hs1.ext hE2; have hb2 := hb1.ext hE2; have HE2 := Lib.hid (ext13_trans HE.out hE2); clear hE2 hs1 hb1)
   | (go_at_call 60; refine (full_is hs2).mono ?_; rintro e w3 ⟨rfl, rfl⟩; rw [full]))
 clear CHK full
 have hS : (fun x0 : World => ∃ rs', BufS x0 b rs' f c ∧ Blk x0 L 87 (chgC x)) w2.drew := ⟨rs, hs2.ext (Ext.drew w2), hb2.ext (Ext.drew w2)⟩
 have hs2 : BufS w2.drew b rs f c := hs2.ext (Ext.drew w2)
 have hb2 : Blk w2.drew L 87 (chgC x) := hb2.ext (Ext.drew w2)
 refine region_line [(0, true), (1, true), (2, true), (3, true), (4, true), (5, true), (7, true), (8, true), (9, true), (6, false), (10, true), (11, false)] (fun x0 : World => ∃ rs', BufS x0 b rs' f c ∧ Blk x0 L 87 (chgC x)) (by kernel_rfl) (by kernel_rfl) (fun _ _ _ d _ h => by cases d <;> exact h) hS ?_
 iterate 6 (refine line_read (a' := ?_) rfl (by kernel_rfl) (by kernel_rfl) hS (fun x hx K hK => ?_) ?_; rotate_left; · obtain ⟨_, hx, _⟩ := hx; have c1 := hx.count; clear hx; go_wp2; exact hK)
 refine line_read (a' := ?_) rfl (by kernel_rfl) (by kernel_rfl) hS (fun x hx K hK => ?_) ?_
 rotate_left
 · obtain ⟨_, _, hx⟩ := hx
   refine chg_load_want rfl _ rfl rfl (hx.range 0 3 rfl) ?_
   clear hx
   go_wp2
   exact hK
 iterate 2 (refine line_read (a' := ?_) rfl (by kernel_rfl) (by kernel_rfl) hS (fun x hx K hK => ?_) ?_; rotate_left; · clear hx; go_wp2; exact hK)
 refine line_act (by rfl) (fun K hK => ?_)
 have AT := at_is hs2 (i := c) (by omega)
 rw [hg.out] at AT
 go_wp2_with (go_at_call 89; refine AT.mono ?_; rintro e w7 ⟨rfl, rfl⟩)
 clear AT
 refine hK _ _ _ hS (fun x hx => hx) ?_
 clear hK K
 refine line_read (a' := ?_) rfl (by kernel_rfl) (by kernel_rfl) hS (fun x hx K hK => ?_) ?_
 rotate_left
 · clear hx
   go_wp2
   exact hK
 refine line_act (by rfl) (fun K hK => ?_)
 go_wp2_with (first
   | (refine ring_store (c := x) _ _ rfl hg4 rfl rfl hs2 rfl ?_; intro w6 hs6 hg6))
 have hb6 : Blk w6 L 87 (chgC x) := hb2.kept hg6 (fun e => by injection e with e; have := hlt.out; omega)
 refine hK _ _ _ (show (fun x0 : World => ∃ rs', BufS x0 b rs' f c ∧ Blk x0 L 87 (chgC x)) w6 from ⟨_, hs6, hb6⟩) (fun x hx => hx) ?_
 clear hK K
 refine line_end ?_
 have c13 := hs6.count
 have f13 := hs6.blk.free 13
 have HG := Lib.hid (grown_two13 HE2.out (grown_of_drew13 hg6))
 have HF := Lib.hid (hs6.setCount (g := c + 1) (by omega))
 clear hs6 hg6 hS hb6 hb2 hs2
 go_wp2
 go_ret
 refine ⟨rfl, ?_, gb_set HG.out _ _⟩
 have := HF.out
 rw [show ((c + 1 : Nat) : Int) = (c : Int) + 1 by omega] at this
 exact this
end
end Go.Proofs.YtdnpdoipipfkoaaGreatDoor

namespace Go.Proofs.YtdnpdoipipfkoaaGreatDoor
set_option linter.unusedVariables false
set_option linter.unusedSimpArgs false
set_option linter.unusedVariables false
set_option linter.unusedSimpArgs false
set_option maxRecDepth 100000
open Go.RowKit
section
variable {w : World} {b : Nat} {rs : List Chg} {f c : Nat}
theorem grown_of_drew_alloc {w w' : World} {o : Obj} {r : Option Nat} (h : (w.drew.alloc o).grownBy w' r) : (w.alloc o).grownBy w' r := ⟨h.os, h.tape, h.output, h.size, h.block⟩
structure LastS (w0 wr : World) (b : Nat) (rs : List Chg) (f c : Nat) (x : Chg) : Prop where
 buf : BufS wr b rs f c
 res : Blk wr w0.heap.size 87 (chgC noChg)
 lst : Blk wr (w0.heap.size + 1) 87 (chgC x)
 ext : w0.grownBy wr none
theorem LastS.next {w0 wr w6 : World} {b : Nat} {rs : List Chg} {f c : Nat} {x : Chg} (h : LastS w0 wr b rs f c x) (hg : wr.grownBy w6 none) : LastS w0 w6 b rs f c x :=
 ⟨h.buf.ext hg, h.res.ext hg, h.lst.ext hg, ext13_trans h.ext hg⟩
theorem LastS.put {w0 wr w6 : World} {b : Nat} {rs : List Chg} {f c : Nat} {x y : Chg} (h : LastS w0 wr b rs f c x) (hb : b < w0.heap.size) (h6 : Blk w6 (w0.heap.size + 1) 87 (chgC y)) (hg : wr.grownBy w6 (some (w0.heap.size + 1))) : LastS w0 w6 b rs f c y :=
 ⟨⟨h.buf.four, h.buf.fl, h.buf.cl, h.buf.blk.kept hg (fun e => by injection e with e; omega)⟩, h.res.kept hg (fun e => by injection e with e; omega), h6, g13_new h.ext hg (by omega)⟩
set_option maxHeartbeats 1600000 in
theorem last_is (h : BufS w b rs f c) (p : Int) : Calls Tryz.prog 41 #[.pointer (some ⟨b, 0, none⟩), .int .i64 p] w fun e w' => e = .returned (.tuple #[chgV (lastN (ringL rs f c) p).1, .bool (lastN (ringL rs f c) p).2]) ∧ w.grownBy w' none := by
 have hE1 := World.grownBy_alloc w (.cells #[.int .i64 0, .int .i64 0, .string ⟨#[]⟩] 87) none
 have hb1 := (Blk.new w 87 (chgC noChg)).alloc (.cells #[.int .i64 0, .int .i64 0, .string ⟨#[]⟩] 87)
 have hb2 := Blk.newAt (w.alloc (.cells #[.int .i64 0, .int .i64 0, .string ⟨#[]⟩] 87)) (w.heap.size + 1) (by simp) 87 (chgC noChg)
 have hE := ext13_trans hE1 (World.grownBy_alloc (w.alloc (.cells #[.int .i64 0, .int .i64 0, .string ⟨#[]⟩] 87)) (.cells #[.int .i64 0, .int .i64 0, .string ⟨#[]⟩] 87) none)
 have hB := h.ext hE
 have hbl := Lib.hid h.blk.lt
 obtain ⟨w2, hw2⟩ : ∃ v, (w.alloc (.cells #[.int .i64 0, .int .i64 0, .string ⟨#[]⟩] 87)).alloc (.cells #[.int .i64 0, .int .i64 0, .string ⟨#[]⟩] 87) = v := ⟨_, rfl⟩
 rw [show (w.alloc (.cells (chgC noChg) 87)).alloc (.cells #[.int .i64 0, .int .i64 0, .string ⟨#[]⟩] 87) = w2 from hw2] at hb1
 rw [show (w.alloc (.cells #[.int .i64 0, .int .i64 0, .string ⟨#[]⟩] 87)).alloc (.cells (chgC noChg) 87) = w2 from hw2] at hb2
 rw [hw2] at hE hB
 have LEN := len_is hB
 have HS := Lib.hid (show LastS w w2 b rs f c (lastN (ringL rs f 0) p).1 from ⟨hB, hb1, hb2, hE⟩)
 have hcl := h.cl
 clear hE hE1 hb1 hb2 hB h
 go_enter Tryz.func41, Tryz.ntmps41
 go_wp2_with (first
   | (go_at_call 32; refine LEN.mono ?_; rintro e w3 ⟨rfl, rfl⟩))
 clear LEN hw2
 go_loopw [7, 12] (fun s i wr => ∃ k : Nat, k ≤ c ∧ i = .int .i64 k ∧ s = .bool (lastN (ringL rs f k) p).2 ∧ LastS w wr b rs f c (lastN (ringL rs f k) p).1) (fun _ i _ => c - (intOf i).toNat)
 case atStart => exact ⟨0, by omega, rfl, rfl, HS.out⟩
 case round =>
   clear HS
   obtain ⟨k, hk, rfl, rfl, hS⟩ := hrel
   obtain ⟨lx, hlx⟩ : ∃ q, lastN (ringL rs f k) p = q := ⟨_, rfl⟩
   obtain ⟨lc, lf⟩ := lx
   rw [hlx] at hS
   have HL := Lib.hid hlx
   have HSR := Lib.hid hS
   clear hS
   rw [hlx]
   clear hlx
   by_cases hlt : k < c
   · obtain ⟨x, hx⟩ : ∃ x, rs.getD ((f + k) % 4) noChg = x := ⟨_, rfl⟩
     have HX := Lib.hid hx
     clear hx
     obtain ⟨g, hg⟩ : ∃ g, (f + k) % 4 = g := ⟨_, rfl⟩
     have hg4 : g < 4 := by omega
     rw [hg] at HX
     have HG := Lib.hid hg
     clear hg
     have hB := HSR.out.buf.ext (Ext.drew wr)
     have hBN := hB.ext (World.grownBy_alloc wr.drew (.cells #[.int .i64 0, .int .i64 0, .string ⟨#[]⟩] 87) none)
     have hbN : Blk (wr.drew.alloc (.cells #[.int .i64 0, .int .i64 0, .string ⟨#[]⟩] 87)) wr.heap.size 87 #[.int .i64 0, .int .i64 0, .string ⟨#[]⟩] := Blk.new wr.drew _ _
     go_wp2
     go_cut [9] (fun s9 wx => s9 = .pointer (some ⟨wr.heap.size, 0, none⟩) ∧ Blk wx wr.heap.size 87 (chgC x) ∧ LastS w wx b rs f c lc)
     case first =>
       refine region_tree (.read 0 (.read 1 (.read 2 (.read 4 (.read 5 (.two 3 8 (.read 6 (.read 7 (.one 8 (.one 9 .done)))) (.one 3 (.read 6 (.read 7 (.one 9 .done)))))))))) (fun x0 : World => BufS x0 b rs f c) (by kernel_rfl) (by kernel_rfl) (fun _ _ _ d _ h => by cases d <;> exact h) hB ?_
       iterate 5 (refine tree_read (a' := ?_) rfl (by kernel_rfl) (by kernel_rfl) hB (fun x0 hx K hK => ?_) ?_; rotate_left; · clear hx; go_wp2; exact hK)
       refine tree_two ?_ ?_
       · refine tree_one (by rfl) (fun K hK => ?_)
         have AT := at_is hB (i := k) (by omega)
         rw [HG.out] at AT
         go_wp2_with (go_at_call 89; refine AT.mono ?_; rintro e w7 ⟨rfl, rfl⟩)
         clear AT
         refine hK _ _ _ hB (fun x hx => hx) ?_
         clear hK K
         refine tree_read (a' := ?_) rfl (by kernel_rfl) (by kernel_rfl) hB (fun x0 hx K hK => ?_) ?_
         rotate_left
         · clear hx; go_wp2; exact hK
         refine tree_read (a' := ?_) rfl (by kernel_rfl) (by kernel_rfl) hB (fun x0 hx K hK => ?_) ?_
         rotate_left
         · have hr := hx.range hg4 HX.out
           clear hx
           refine chg_load_want rfl _ rfl rfl hr ?_
           go_wp2
           exact hK
         refine tree_one (by rfl) (fun K hK => ?_)
         go_wp2
         refine hK _ _ _ hBN (fun x hx => hx) ?_
         clear hK K
         refine tree_one (by rfl) (fun K hK => ?_)
         go_wp2_with (first
           | (refine chg_store (c := x) _ _ rfl rfl rfl hbN rfl rfl ?_; intro w6 hb6 hg6 hs6))
         have hE6 : wr.grownBy w6 none := g13_new (World.grownBy_alloc wr _ none) (grown_of_drew_alloc hg6) (Nat.le_refl _)
         have HN := Lib.hid (HSR.out.next hE6)
         refine hK _ _ _ HN.out.buf (fun x hx => hx) ?_
         clear hK K hg6 hs6 hE6 hbN hBN hB HSR
         refine tree_end ?_
         go_wp2
         go_meet
         exact ⟨rfl, hb6, HN.out⟩
       · refine tree_one (by rfl) (fun K hK => ?_)
         go_wp2
         refine hK _ _ _ hBN (fun x hx => hx) ?_
         clear hK K
         refine tree_one (by rfl) (fun K hK => ?_)
         have AT := at_is hBN (i := k) (by omega)
         rw [HG.out] at AT
         go_wp2_with (go_at_call 89; refine AT.mono ?_; rintro e w7 ⟨rfl, rfl⟩)
         clear AT
         refine hK _ _ _ hBN (fun x hx => hx) ?_
         clear hK K
         refine tree_read (a' := ?_) rfl (by kernel_rfl) (by kernel_rfl) hBN (fun x0 hx K hK => ?_) ?_
         rotate_left
         · clear hx; go_wp2; exact hK
         refine tree_read (a' := ?_) rfl (by kernel_rfl) (by kernel_rfl) hBN (fun x0 hx K hK => ?_) ?_
         rotate_left
         · have hr := hx.range hg4 HX.out
           clear hx
           refine chg_load_want rfl _ rfl rfl hr ?_
           go_wp2
           exact hK
         refine tree_one (by rfl) (fun K hK => ?_)
         go_wp2_with (first
           | (refine chg_store (c := x) _ _ rfl rfl rfl hbN rfl rfl ?_; intro w6 hb6 hg6 hs6))
         have hE6 : wr.grownBy w6 none := g13_new (World.grownBy_alloc wr _ none) (grown_of_drew_alloc hg6) (Nat.le_refl _)
         have HN := Lib.hid (HSR.out.next hE6)
         refine hK _ _ _ HN.out.buf (fun x hx => hx) ?_
         clear hK K hg6 hs6 hE6 hbN hBN hB HSR
         refine tree_end ?_
         go_wp2
         go_meet
         exact ⟨rfl, hb6, HN.out⟩
     case rest =>
       obtain ⟨rfl, hb6, hN6⟩ := hcut
       have HN := Lib.hid hN6
       have c0 := (hb6.cell 0).trans (show (chgC x)[0]? = some (.int .i64 x.pl) from rfl)
       clear hN6 hB hBN hbN
       by_cases hp : x.pl = p
       · have hpb : (x.pl == p) = true := by simpa using hp
         have HP := Lib.hid hp
         have hl := HN.out.lst
         clear hp
         go_wp2_with (first
           | (refine chg_load_want rfl _ rfl rfl (hb6.range 0 3 rfl) ?_)
           | (refine chg_store (c := x) _ _ rfl rfl rfl hl rfl rfl ?_; intro w8 hb8 hg8 hs8))
         have HN8 := Lib.hid (HN.out.put hbl.out hb8 hg8)
         clear hl hb6 hb8 hg8 hs8 HN
         go_wp2
         go_roundw
         case rel =>
           refine ⟨k + 1, by omega, by go_num, ?_⟩
           have hs := lastN_snoc (ringL rs f k) x p
           rw [if_pos HP.out] at hs
           rw [ringL_snoc, HG.out, HX.out, hs]
           exact ⟨rfl, HN8.out⟩
         case measure => simp [intOf]; omega
       · have hpb : (x.pl == p) = false := by simpa using hp
         have HP := Lib.hid hp
         clear hp hb6
         go_wp2
         go_roundw
         case rel =>
           refine ⟨k + 1, by omega, by go_num, ?_⟩
           have hs := lastN_snoc (ringL rs f k) x p
           rw [if_neg HP.out] at hs
           rw [ringL_snoc, HG.out, HX.out, hs, HL.out]
           exact ⟨rfl, HN.out⟩
         case measure => simp [intOf]; omega
   · obtain rfl : k = c := by omega
     have hl := HSR.out.lst
     have hr := HSR.out.res
     go_wp2_with (first
       | (refine chg_load_want rfl _ rfl rfl (hl.range 0 3 rfl) ?_)
       | (refine chg_store (c := lc) _ _ rfl rfl rfl hr rfl rfl ?_; intro w6 hb6 hg6 hs6))
     refine bodyPost_ret (v := .tuple #[.agg (chgC lc), .bool lf]) (results_cell_two (fn := Tryz.f41) rfl rfl rfl hb6 Tryz.underlying87 rfl Tryz.sizeChg) rfl ?_
     rw [HL.out]
     exact ⟨rfl, g13_new HSR.out.ext hg6 (Nat.le_refl _)⟩
end
section
variable {ops : Array Oper} {rest : List Oper} {o : Oper} {a : Act} {w : World} {Q : Exit → Act → World → Prop}
end
section
variable {w : World} {b : Nat} {rs : List Chg} {f c : Nat}
end
end Go.Proofs.YtdnpdoipipfkoaaGreatDoor

namespace Go.Proofs.YtdnpdoipipfkoaaGreatDoor
set_option linter.unusedVariables false
set_option linter.unusedSimpArgs false
set_option linter.unusedVariables false
set_option linter.unusedSimpArgs false
set_option maxRecDepth 100000
open Go.RowKit
structure R14 where
 pl : Int
 bk : Int
 pg : Int
def placeN (rs : List R14) (b p : Int) : Int := match rs.find? (fun r => r.bk == b && r.pg == p) with | some r => r.pl | none => -1
def atN (rs : List R14) (pl : Int) : Int × Int × Bool := match rs.find? (fun r => r.pl == pl) with | some r => (r.bk, r.pg, true) | none => (0, 0, false)
def worthN (rs : List R14) (b : Int) : Nat := (rs.filter fun r => r.bk == b).length
def clearN (rs : List R14) (pl : Int) : List R14 := rs.filter fun r => r.pl != pl
section
variable {ops : Array Oper} {rest : List Oper} {o : Oper} {a : Act} {w : World} {Q : Exit → Act → World → Prop}
end
theorem drew14 {w w' : World} (h : w.grownBy w' none) (n : Nat) : w.grownBy (w'.drewN n) none := ⟨h.os, h.tape, h.output, h.size, h.block⟩
theorem Blk.range14 {w : World} {g : Nat} {t : TypeId} {cs : Array Value} (h : Blk w g t cs) (off n : Nat) (_hn : (cs.extract off (off + n)).size = n) : w.rangeAt g off (cs.extract off (off + n)).toList := World.rangeAt_of_block h off n
theorem g14_new {w w1 w2 : World} {g : Nat} (h : w.grownBy w1 none) (h2 : w1.grownBy w2 (some g)) (hg : w.heap.size ≤ g) : w.grownBy w2 none :=
 ⟨h2.os.trans h.os, h2.tape.trans h.tape, h2.output.trans h.output, Nat.le_trans h.size h2.size, fun k hk hne => (h2.block k (Nat.lt_of_lt_of_le hk h.size) (fun e => by injection e with e; omega)).trans (h.block k hk hne)⟩
end Go.Proofs.YtdnpdoipipfkoaaGreatDoor

namespace Go.Proofs.YtdnpdoipipfkoaaGreatDoor
set_option linter.unusedVariables false
set_option linter.unusedSimpArgs false
set_option linter.unusedVariables false
set_option linter.unusedSimpArgs false
set_option maxRecDepth 100000
open Go.RowKit
theorem g14_set {w w1 w2 : World} {q : Nat} (h : w.grownBy w1 none) (h2 : w1.grownBy w2 (some q)) : w.grownBy w2 (some q) :=
 ⟨h2.os.trans h.os, h2.tape.trans h.tape, h2.output.trans h.output, Nat.le_trans h.size h2.size, fun k hk hne => (h2.block k (Nat.lt_of_lt_of_le hk h.size) hne).trans (h.block k hk (by simp))⟩
theorem g14_set1 (w : World) (q i : Nat) (v : Value) : w.grownBy (w.setCell ⟨q, i, none⟩ v) (some q) :=
 ⟨rfl, rfl, rfl, by simp [World.setCell], fun k _ hne => heap_setCell_other w ⟨q, i, none⟩ k v (fun e => hne (by rw [e]))⟩
theorem set_chain14 {w w1 w2 : World} {q : Nat} (h : w.grownBy w1 (some q)) (h2 : w1.grownBy w2 (some q)) : w.grownBy w2 (some q) :=
 ⟨h2.os.trans h.os, h2.tape.trans h.tape, h2.output.trans h.output, Nat.le_trans h.size h2.size, fun k hk hne => (h2.block k (Nat.lt_of_lt_of_le hk h.size) hne).trans (h.block k hk hne)⟩
def setE (B P : Int) (rs : List R14) (pl bk pg : Int) : Int := if pl < 0 ∨ 63 < pl ∨ bk < 0 ∨ B ≤ bk ∨ pg < 0 ∨ P ≤ pg then 5 else if 0 ≤ placeN rs bk pg ∧ placeN rs bk pg ≠ pl then 7 else 0
def setR (B P : Int) (rs : List R14) (pl bk pg : Int) : List R14 := if setE B P rs pl bk pg = 0 then clearN rs pl ++ [⟨pl, bk, pg⟩] else rs
end Go.Proofs.YtdnpdoipipfkoaaGreatDoor
