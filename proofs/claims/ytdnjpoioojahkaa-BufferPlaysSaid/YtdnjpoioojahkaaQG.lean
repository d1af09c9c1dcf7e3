/-
  Layer 13: the program's buffer in memory; its calls keep the contracts.
-/
import Derived.Test.YtdnjpoioojahkaaQC
namespace Go.Proofs.Ytdnjpoioojahkaa
set_option linter.unusedVariables false
set_option linter.unusedSimpArgs false
set_option maxRecDepth 100000
open Go.RowKit

/-- A ring of four changes, where its first one stands, how many there are. -/
def bufC (rs : List Chg) (f c : Int) : Array Value := (chgsL rs ++ [Value.int .i64 f, Value.int .i64 c]).toArray
theorem four_of {rs : List Chg} (h : rs.length = 4) : ∃ x0 x1 x2 x3, rs = [x0, x1, x2, x3] := by
  match rs, h with
  | [x0, x1, x2, x3], _ => exact ⟨x0, x1, x2, x3, rfl⟩
theorem bufC_first {rs : List Chg} (h : rs.length = 4) (f c : Int) : (bufC rs f c)[12]? = some (.int .i64 f) := by
  obtain ⟨_, _, _, _, rfl⟩ := four_of h; rfl
theorem bufC_count {rs : List Chg} (h : rs.length = 4) (f c : Int) : (bufC rs f c)[13]? = some (.int .i64 c) := by
  obtain ⟨_, _, _, _, rfl⟩ := four_of h; rfl
theorem bufC_size {rs : List Chg} (h : rs.length = 4) (f c : Int) : (bufC rs f c).size = 14 := by
  obtain ⟨_, _, _, _, rfl⟩ := four_of h; rfl
theorem bufC_at {rs : List Chg} (h : rs.length = 4) (f c : Int) {k : Nat} (hk : k < 4) : (bufC rs f c).extract (k * 3) (k * 3 + 3) = chgC (rs.getD k noChg) := by
  obtain ⟨_, _, _, _, rfl⟩ := four_of h
  obtain rfl | rfl | rfl | rfl : k = 0 ∨ k = 1 ∨ k = 2 ∨ k = 3 := by omega
  all_goals rfl
theorem bufC_set {rs : List Chg} (h : rs.length = 4) (f c : Int) {k : Nat} (hk : k < 4) (x : Chg) : ((bufC rs f c).toList.take (k * 3) ++ (chgC x).toList ++ (bufC rs f c).toList.drop (k * 3 + (chgC x).toList.length)).toArray = bufC (rs.set k x) f c := by
  obtain ⟨_, _, _, _, rfl⟩ := four_of h
  obtain rfl | rfl | rfl | rfl : k = 0 ∨ k = 1 ∨ k = 2 ∨ k = 3 := by omega
  all_goals rfl
theorem bufC_setFirst {rs : List Chg} (h : rs.length = 4) (f c g : Int) : (bufC rs f c).setIfInBounds 12 (.int .i64 g) = bufC rs g c := by
  obtain ⟨_, _, _, _, rfl⟩ := four_of h; rfl
theorem bufC_setCount {rs : List Chg} (h : rs.length = 4) (f c g : Int) : (bufC rs f c).setIfInBounds 13 (.int .i64 g) = bufC rs f g := by
  obtain ⟨_, _, _, _, rfl⟩ := four_of h; rfl

/-- The changes, in order. -/
def ringL (rs : List Chg) (f c : Nat) : List Chg := (List.range c).map fun i => rs.getD ((f + i) % 4) noChg
theorem ringL_len (rs : List Chg) (f c : Nat) : (ringL rs f c).length = c := by simp [ringL]
theorem ringL_get (rs : List Chg) (f c : Nat) {i : Nat} (hi : i < c) : (ringL rs f c).getD i noChg = rs.getD ((f + i) % 4) noChg := by
  rw [List.getD_eq_getElem?_getD, ringL, List.getElem?_map, List.getElem?_range hi]
  rfl
theorem ringL_put {rs : List Chg} (h : rs.length = 4) (f c : Nat) (hc : c < 4) (x : Chg) : ringL (rs.set ((f + c) % 4) x) f (c + 1) = ringL rs f c ++ [x] := by
  unfold ringL
  rw [List.range_succ, List.map_append]
  congr 1
  · refine List.map_congr_left fun i hi => ?_
    have := List.mem_range.1 hi
    rw [List.getD_eq_getElem?_getD, List.getElem?_set_ne (by omega), ← List.getD_eq_getElem?_getD]
  · simp [List.getD_eq_getElem?_getD, h]
    rw [List.getElem?_set_self (by omega)]
    rfl
theorem ringL_drop {rs : List Chg} (f c : Nat) (x : Chg) (hc : 0 < c) (hc4 : c ≤ 4) : ringL (rs.set (f % 4) x) ((f + 1) % 4) (c - 1) = (ringL rs f c).drop 1 := by
  refine List.ext_getElem? fun j => ?_
  rw [List.getElem?_drop]
  unfold ringL
  rw [List.getElem?_map, List.getElem?_map]
  by_cases hj : j < c - 1
  · rw [List.getElem?_range hj, List.getElem?_range (by omega)]
    show some ((rs.set (f % 4) x).getD (((f + 1) % 4 + j) % 4) noChg) = some (rs.getD ((f + (1 + j)) % 4) noChg)
    rw [show ((f + 1) % 4 + j) % 4 = (f + (1 + j)) % 4 by omega, List.getD_eq_getElem?_getD, List.getElem?_set_ne (by omega), ← List.getD_eq_getElem?_getD]
  · rw [List.getElem?_eq_none (by simp; omega), List.getElem?_eq_none (by simp; omega)]
    rfl
theorem ringL_first (rs : List Chg) {f : Nat} (hf : f < 4) {c : Nat} (hc : 0 < c) : firstC (ringL rs f c) = rs.getD f noChg := by
  unfold firstC
  rw [List.headD_eq_head?_getD, List.head?_eq_getElem?, ← List.getD_eq_getElem?_getD, ringL_get rs f c hc, Nat.add_zero, Nat.mod_eq_of_lt hf]
theorem ringL_snoc (rs : List Chg) (f c : Nat) : ringL rs f (c + 1) = ringL rs f c ++ [rs.getD ((f + c) % 4) noChg] := by
  unfold ringL
  rw [List.range_succ, List.map_append]
  rfl

structure BufS (w : World) (b : Nat) (rs : List Chg) (f c : Nat) : Prop where
  four : rs.length = 4
  fl : f < 4
  cl : c ≤ 4
  blk : Blk w b 61 (bufC rs f c)
/-- A buffer at b, and its changes. -/
def BufA (w : World) (b : Nat) (row : List Chg) : Prop := ∃ rs f c, BufS w b rs f c ∧ row = ringL rs f c
section
variable {w w' : World} {b : Nat} {rs : List Chg} {f c : Nat}
theorem BufS.first (h : BufS w b rs f c) : w.cell? ⟨b, 12, none⟩ = some (.int .i64 f) := (h.blk.cell 12).trans (bufC_first h.four _ _)
theorem BufS.count (h : BufS w b rs f c) : w.cell? ⟨b, 13, none⟩ = some (.int .i64 c) := (h.blk.cell 13).trans (bufC_count h.four _ _)
theorem BufS.ext (h : BufS w b rs f c) (hg : w.grownBy w' none) : BufS w' b rs f c := ⟨h.four, h.fl, h.cl, h.blk.ext hg⟩
theorem BufS.range (h : BufS w b rs f c) {k : Nat} (hk : k < 4) {x : Chg} (hx : rs.getD k noChg = x) : w.rangeAt b (k * 3) (chgC x).toList := by
  have := h.blk.range (k * 3) 3 (by rw [bufC_at h.four _ _ hk]; rfl)
  rw [bufC_at h.four _ _ hk, hx] at this
  exact this

theorem bufStays (w w' : World) (b : Nat) (row : List Chg) (h : BufA w b row) (hq : w'.heap[b]? = w.heap[b]?) : BufA w' b row := by
  obtain ⟨rs, f, c, hs, hr⟩ := h
  exact ⟨rs, f, c, ⟨hs.four, hs.fl, hs.cl, hq.trans hs.blk⟩, hr⟩
theorem bufLt (w : World) (b : Nat) (row : List Chg) (h : BufA w b row) : b < w.heap.size := by
  obtain ⟨_, _, _, hs, _⟩ := h
  exact hs.blk.lt

theorem at_is (h : BufS w b rs f c) {i : Nat} (hi : i ≤ 4) : Calls Try.prog 32 #[.pointer (some ⟨b, 0, none⟩), .int .i64 i] w fun e w' => e = .returned (.int .i64 ((f + i) % 4 : Nat)) ∧ w = w' := by
  have c1 := h.first
  have hf := h.fl
  clear h
  go_enter Try.func32, Try.ntmps32
  go_wp2
  go_ret
  refine ⟨ret_int13 ?_, rfl⟩
  omega
theorem len_is (h : BufS w b rs f c) : Calls Try.prog 14 #[.pointer (some ⟨b, 0, none⟩)] w fun e w' => e = .returned (.int .i64 c) ∧ w = w' := by
  have c1 := h.count
  clear h
  go_enter Try.func14, Try.ntmps14
  go_wp2
  go_ret
  exact ⟨rfl, rfl⟩
theorem full_is (h : BufS w b rs f c) : Calls Try.prog 15 #[.pointer (some ⟨b, 0, none⟩)] w fun e w' => e = .returned (.bool (decide (c = 4))) ∧ w = w' := by
  have c1 := h.count
  clear h
  go_enter Try.func15, Try.ntmps15
  go_wp2
  go_ret
  refine ⟨congrArg (fun q => Ending.returned (.bool q)) ?_, rfl⟩
  by_cases h4 : c = 4
  · subst h4; rfl
  · rw [decide_eq_false h4]
    simp
    omega
end

end Go.Proofs.Ytdnjpoioojahkaa
