/-
  Layer 13: the program's buffer: check, First, Drop, New, and of nil.
-/
import Derived.Test.YtdnjpoioojahkaaQG
namespace Go.Proofs.Ytdnjpoioojahkaa
set_option linter.unusedVariables false
set_option linter.unusedSimpArgs false
set_option maxRecDepth 100000
open Go.RowKit

theorem results_cell_two {P : Program} {fn : Func} {p t : Tmp} {ty : TypeId} {tmps : Array Value} {w : World} {g : Nat} {bt : TypeId} {cs : Array Value} {v : Value} {d : TypeDesc} (h : fn.results = #[.cell p ty, .tmp t])
    (hp : tmps.getD p undef = .pointer (some ⟨g, 0, none⟩)) (hv : tmps.getD t undef = v) (hg : w.heap[g]? = some (.cells cs bt (0, 0)))
    (hu : P.underlying ty = some d) (hd : (match d with | .struct _ | .array _ _ => true | _ => false) = true) (hi : (P.info? ty).map (·.size) = some cs.size) :
    (results fn tmps).run P w = .ok (.tuple #[.agg cs, v]) w := by
  have hp' : tmps[p]?.getD undef = .pointer (some ⟨g, 0, none⟩) := by simpa using hp
  have hv' : tmps[t]?.getD undef = v := by simpa using hv
  simp [results, h, hp', hv', asAddr, run_loadVar_row w g bt ty cs (0, 0) d hg hu hd hi]

def zeroCh : Array Value := #[.int .i64 0, .int .i64 0, .string ⟨#[]⟩]
theorem zeroCh_is : zeroCh = chgC noChg := rfl
theorem g13_new {w w1 w2 : World} {g : Nat} (h : w.grownBy w1 none) (h2 : w1.grownBy w2 (some g)) (hg : w.heap.size ≤ g) : w.grownBy w2 none := grown_past13 h h2 hg
theorem drew13 {w w' : World} (h : w.grownBy w' none) (n : Nat) : w.grownBy (w'.drewN n) none := ⟨h.os, h.tape, h.output, h.size, h.block⟩
theorem grown_of_drew13 {w w' : World} {r : Option Nat} (h : w.drew.grownBy w' r) : w.grownBy w' r := ⟨h.os, h.tape, h.output, h.size, h.block⟩

section
variable {w : World} {b : Nat} {rs : List Chg} {f c : Nat}
/-- A buffer that has none. -/
theorem first_none (h : BufS w b rs f 0) : Calls Try.prog 12 #[.pointer (some ⟨b, 0, none⟩)] w fun e w' => e = .returned (.tuple #[chgV noChg, .bool false]) ∧ w.grownBy w' none := by
  have hs1 := h.ext (World.grownBy_alloc w (.cells #[.int .i64 0, .int .i64 0, .string ⟨#[]⟩] 28) none)
  have hb1 := Blk.new w 28 #[.int .i64 0, .int .i64 0, .string ⟨#[]⟩]
  have LEN := len_is hs1
  have hE := World.grownBy_alloc w (.cells #[.int .i64 0, .int .i64 0, .string ⟨#[]⟩] 28) none
  clear hs1
  obtain ⟨z0, hz0⟩ : ∃ z : Int, z = ((0 : Nat) : Int) := ⟨_, rfl⟩
  rw [← hz0] at LEN
  have hz : (z0 == 0) = true := by rw [hz0]; rfl
  have HE := Lib.hid hE
  clear hz0 hE h
  go_enter Try.func12, Try.ntmps12
  go_wp2_with (first
    | (go_at_call 14; refine LEN.mono ?_; rintro e w2 ⟨rfl, rfl⟩)
    | (refine chg_store (c := noChg) _ _ rfl rfl rfl hb1 rfl rfl ?_; intro w6 hb6 hg6 hs6))
  refine bodyPost_ret (v := .tuple #[.agg (chgC noChg), .bool false]) (results_cell_two (fn := Try.f12) rfl rfl rfl hb6 Try.underlying28 rfl Try.sizeChg) rfl ?_
  exact ⟨rfl, g13_new HE.out hg6 (Nat.le_refl _)⟩
theorem first_some (h : BufS w b rs f c) (hc : 0 < c) {x : Chg} (hx : rs.getD f noChg = x) : Calls Try.prog 12 #[.pointer (some ⟨b, 0, none⟩)] w fun e w' => e = .returned (.tuple #[chgV x, .bool true]) ∧ w.grownBy w' none := by
  have hs1 := h.ext (World.grownBy_alloc w (.cells #[.int .i64 0, .int .i64 0, .string ⟨#[]⟩] 28) none)
  have hb1 := Blk.new w 28 #[.int .i64 0, .int .i64 0, .string ⟨#[]⟩]
  have LEN := len_is hs1
  have hE := World.grownBy_alloc w (.cells #[.int .i64 0, .int .i64 0, .string ⟨#[]⟩] 28) none
  obtain ⟨z0, hz0⟩ : ∃ z : Int, z = (c : Int) := ⟨_, rfl⟩
  rw [← hz0] at LEN
  have hz : (z0 == 0) = false := by rw [beq_eq_false_iff_ne]; omega
  have hfl := h.fl
  have HX := Lib.hid hx
  obtain ⟨w1, hw1⟩ : ∃ v, w.alloc (.cells #[.int .i64 0, .int .i64 0, .string ⟨#[]⟩] 28) = v := ⟨_, rfl⟩
  rw [hw1] at hs1 hb1 LEN hE
  have HE := Lib.hid hE
  have hS : BufS w1.drew b rs f c := hs1.ext (Ext.drew w1)
  have hb2 : Blk w1.drew w.heap.size 28 #[.int .i64 0, .int .i64 0, .string ⟨#[]⟩] := hb1.ext (Ext.drew w1)
  clear hz0 hx hb1 hs1 hE
  have hbl := Lib.hid h.blk.lt
  clear h
  go_enter Try.func12, Try.ntmps12
  go_wp2_with (first
    | (go_at_call 14; refine LEN.mono ?_; rintro e w2 ⟨rfl, rfl⟩))
  clear LEN
  refine region_line [(0, true), (1, true), (2, true), (3, true), (4, true), (5, true), (6, true), (7, true), (8, true), (9, false), (10, true)] (fun x => BufS x b rs f c) (by kernel_rfl) (by kernel_rfl) (fun _ _ _ d _ h => by cases d <;> exact h) hS ?_
  iterate 8 (refine line_read (a' := ?_) rfl (by kernel_rfl) (by kernel_rfl) hS (fun x hx K hK => ?_) ?_; rotate_left; · have c1 := hx.first; clear hx; go_wp2; exact hK)
  refine line_read (a' := ?_) rfl (by kernel_rfl) (by kernel_rfl) hS (fun x hx K hK => ?_) ?_
  rotate_left
  · have hr := hx.range hfl HX.out
    clear hx
    refine chg_load_want rfl _ rfl rfl hr ?_
    go_wp2
    exact hK
  refine line_act (by rfl) (fun K hK => ?_)
  go_wp2_with (first
    | (refine chg_store (c := x) _ _ rfl rfl rfl hb2 rfl rfl ?_; intro w6 hb6 hg6 hs6))
  have hS6 : BufS w6 b rs f c := ⟨hS.four, hS.fl, hS.cl, hS.blk.kept hg6 (fun e => by injection e with e; have := hbl.out; omega)⟩
  refine hK _ _ _ hS6 (fun x hx => hx) ?_
  clear hK K
  refine line_read (a' := ?_) rfl (by kernel_rfl) (by kernel_rfl) hS6 (fun x hx K hK => ?_) ?_
  rotate_left
  · clear hx
    go_wp2
    exact hK
  refine line_end ?_
  go_wp2
  refine bodyPost_ret (v := .tuple #[.agg (chgC x), .bool true]) (results_cell_two (fn := Try.f12) rfl rfl rfl hb6 Try.underlying28 rfl Try.sizeChg) rfl ?_
  exact ⟨rfl, g13_new HE.out (w2 := w6) (grown_of_drew13 hg6) (Nat.le_refl _)⟩
end

end Go.Proofs.Ytdnjpoioojahkaa
