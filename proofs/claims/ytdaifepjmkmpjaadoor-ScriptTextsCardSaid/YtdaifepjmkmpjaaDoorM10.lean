/-
  Texts put together: ScI ScM ScN.
-/
import Derived.Test.YtdaifepjmkmpjaaDoorM08
import Derived.Test.YtdaifepjmkmpjaaDoorM09
import Derived.Test.YtdaifepjmkmpjaaDoorM06
import Derived.Laws.OwnMore
import Derived.Deep.DeepCutAuto
import Derived.Deep.CutBlock
/-
  Layer 25's reference: Line (whole).
-/
namespace Go.Proofs.YtdaifepjmkmpjaaDoor
set_option linter.unusedVariables false
set_option linter.unusedSimpArgs false
set_option linter.unusedVariables false
set_option linter.unusedSimpArgs false
set_option maxRecDepth 100000
open Go.RowKit

set_option maxHeartbeats 1600000 in
theorem line25_no0 (w : World) (k t o a b op pl : Int) (d : List UInt8) (hk : k ≠ 1 ∧ k ≠ 2 ∧ k ≠ 3 ∧ k ≠ 4 ∧ k ≠ 6 ∧ k ≠ 7 ∧ k ≠ 8 ∧ k ≠ 5) (hj : kdL ⟨k, t, o, a, b, op, pl, d⟩ = 11) :
    Calls Tryd.prog 9 #[.agg (stpC ⟨k, t, o, a, b, op, pl, d⟩)] w (LineA ⟨k, t, o, a, b, op, pl, d⟩ w) := by
  have hk1 : (k == 1) = false := by rw [beq_eq_false_iff_ne]; omega
  have hk2 : (k == 2) = false := by rw [beq_eq_false_iff_ne]; omega
  have hk3 : (k == 3) = false := by rw [beq_eq_false_iff_ne]; omega
  have hk4 : (k == 4) = false := by rw [beq_eq_false_iff_ne]; omega
  have hk6 : (k == 6) = false := by rw [beq_eq_false_iff_ne]; omega
  have hk7 : (k == 7) = false := by rw [beq_eq_false_iff_ne]; omega
  have hk8 : (k == 8) = false := by rw [beq_eq_false_iff_ne]; omega
  have hk5 : (k == 5) = false := by rw [beq_eq_false_iff_ne]; omega
  unfold stpC
  simp only
  have HJ := Lib.hid hj
  have G : w.grownBy (((w.alloc (.cells #[.int .i64 k, .int .i64 t, .int .i64 o, .int .i64 a, .int .i64 b, .int .i64 op, .int .i64 pl, .string (bs d)] 25)).alloc (.cells #[.int .i64 op, .int .i64 pl, .string (bs d)] 23)).alloc (.cells #[.int .i64 k, .int .i64 t, .int .i64 0, .int .i64 0, .int .i64 0, .int .i64 0, .int .i64 0, .string ⟨#[]⟩] 25)) none := lnM_grown w ⟨k, t, o, a, b, op, pl, d⟩ ⟨k, t, 0, 0, 0, 0, 0, []⟩ #[.int .i64 op, .int .i64 pl, .string (bs d)]
  have HG := Lib.hid G
  clear hk hj G
  go_enter Tryd.func9, Tryd.ntmps9
  go_wp2
  go_ret2
  exact line_no HJ.out (fun h => absurd h (by decide)) _ _ HG.out

set_option maxHeartbeats 1600000 in
theorem line25_no1 (w : World) (k t o a b op pl : Int) (d : List UInt8) (hk : k ≠ 1 ∧ k ≠ 2 ∧ k ≠ 3 ∧ k ≠ 4 ∧ k ≠ 6 ∧ k ≠ 7 ∧ k ≠ 8 ∧ k = 5 ∧ op ≠ 1 ∧ op ≠ 2 ∧ op ≠ 3 ∧ op ≠ 4) (hj : kdL ⟨k, t, o, a, b, op, pl, d⟩ = 11) :
    Calls Tryd.prog 9 #[.agg (stpC ⟨k, t, o, a, b, op, pl, d⟩)] w (LineA ⟨k, t, o, a, b, op, pl, d⟩ w) := by
  have hk1 : (k == 1) = false := by rw [beq_eq_false_iff_ne]; omega
  have hk2 : (k == 2) = false := by rw [beq_eq_false_iff_ne]; omega
  have hk3 : (k == 3) = false := by rw [beq_eq_false_iff_ne]; omega
  have hk4 : (k == 4) = false := by rw [beq_eq_false_iff_ne]; omega
  have hk6 : (k == 6) = false := by rw [beq_eq_false_iff_ne]; omega
  have hk7 : (k == 7) = false := by rw [beq_eq_false_iff_ne]; omega
  have hk8 : (k == 8) = false := by rw [beq_eq_false_iff_ne]; omega
  have hk5 : (k == 5) = true := by rw [beq_iff_eq]; omega
  have ho1 : (op == 1) = false := by rw [beq_eq_false_iff_ne]; omega
  have ho2 : (op == 2) = false := by rw [beq_eq_false_iff_ne]; omega
  have ho3 : (op == 3) = false := by rw [beq_eq_false_iff_ne]; omega
  have ho4 : (op == 4) = false := by rw [beq_eq_false_iff_ne]; omega
  unfold stpC
  simp only
  have HJ := Lib.hid hj
  have G : w.grownBy (((w.alloc (.cells #[.int .i64 k, .int .i64 t, .int .i64 o, .int .i64 a, .int .i64 b, .int .i64 op, .int .i64 pl, .string (bs d)] 25)).alloc (.cells #[.int .i64 op, .int .i64 pl, .string (bs d)] 23)).alloc (.cells #[.int .i64 k, .int .i64 t, .int .i64 0, .int .i64 0, .int .i64 0, .int .i64 0, .int .i64 0, .string ⟨#[]⟩] 25)) none := lnM_grown w ⟨k, t, o, a, b, op, pl, d⟩ ⟨k, t, 0, 0, 0, 0, 0, []⟩ #[.int .i64 op, .int .i64 pl, .string (bs d)]
  have HG := Lib.hid G
  clear hk hj G
  go_enter Tryd.func9, Tryd.ntmps9
  go_wp2
  go_ret2
  exact line_no HJ.out (fun h => absurd h (by decide)) _ _ HG.out

/-- The document's Line. -/
theorem line25 (w : World) (x : Stp) (hx : x.rng) (hd : x.d.length ≤ 2000) : Calls Tryd.prog 9 #[.agg (stpC x)] w (LineA x w) := by
  have hc := kdL_cases x
  obtain ⟨k, t, o, a, b, op, pl, d⟩ := x
  simp only at hc hd
  rcases hc with ⟨e, h⟩ | ⟨e, h⟩ | ⟨e, h⟩ | ⟨e, h⟩ | ⟨e, h⟩ | ⟨e, h⟩ | ⟨e, h⟩ | ⟨e, h⟩ | ⟨e, h⟩ | ⟨e, h⟩ | ⟨e, h⟩ | ⟨e, h⟩
  · exact line25_0 w k t o a b op pl d hx hd h e
  · exact line25_1 w k t o a b op pl d hx hd h e
  · exact line25_2 w k t o a b op pl d hx hd h e
  · exact line25_3 w k t o a b op pl d hx hd h e
  · exact line25_4 w k t o a b op pl d hx hd h e
  · exact line25_5 w k t o a b op pl d hx hd h e
  · exact line25_6 w k t o a b op pl d hx hd h e
  · exact line25_7 w k t o a b op pl d hx hd h e
  · exact line25_8 w k t o a b op pl d hx hd h e
  · exact line25_9 w k t o a b op pl d hx hd h e
  · exact line25_10 w k t o a b op pl d hx hd h e
  · by_cases h5 : k = 5
    · exact line25_no1 w k t o a b op pl d (by omega) e
    · exact line25_no0 w k t o a b op pl d (by omega) e

end Go.Proofs.YtdaifepjmkmpjaaDoor

/-
  Layer 25's reference: Step.
-/
namespace Go.Proofs.YtdaifepjmkmpjaaDoor
set_option linter.unusedVariables false
set_option linter.unusedSimpArgs false
set_option linter.unusedVariables false
set_option linter.unusedSimpArgs false
set_option maxRecDepth 100000
open Go.RowKit

/-- What a line tells: a step, or none. -/
noncomputable def stepR (l : List UInt8) : Stp × Bool := match stepOf l with
  | some x => (x, true)
  | none => (noStp, false)
theorem stepR_some {l : List UInt8} {x : Stp} (h : StepIs l x) : stepR l = (x, true) := by unfold stepR; rw [stepOf_some h]
theorem stepR_none {l : List UInt8} (h : ∀ x, ¬ StepIs l x) : stepR l = (noStp, false) := by unfold stepR; rw [stepOf_none h]
def StepA (l : List UInt8) (w : World) (e : Ending) (w' : World) : Prop := e = .returned (.tuple #[.agg (stpC (stepR l).1), .bool (stepR l).2]) ∧ w.grownBy w' none
/-- Numbers that words tell: those from 1 up to k. -/
structure NumsA (W : List (List UInt8)) (k : Nat) (ns : List Int) : Prop where
  len : ns.length = 5
  rng : ∀ i, i64B (ns.getD i 0)
  is : ∀ i, 1 ≤ i → i < k → ∀ m, W[i]? = some (numL m) → i64B m → ns.getD i 0 = m
theorem numsA_zero (W : List (List UInt8)) : NumsA W 1 [0, 0, 0, 0, 0] := ⟨rfl, fun i => by
  match i with
  | 0 | 1 | 2 | 3 | 4 => simp [i64B]
  | i + 5 => simp [i64B], fun i h1 h2 => by omega⟩
theorem NumsA.set {W : List (List UInt8)} {k : Nat} {ns : List Int} {n : Int} (h : NumsA W k ns) (hk : k < 5) (hn : i64B n) (hi : ∀ m, W[k]? = some (numL m) → i64B m → n = m) : NumsA W (k + 1) (ns.set k n) := by
  have hg : ∀ i, (ns.set k n).getD i 0 = if i = k then n else ns.getD i 0 := fun i => by
    rw [List.getD_eq_getElem?_getD, List.getElem?_set]
    have := h.len
    by_cases e : i = k
    · subst e; rw [if_pos rfl, if_pos rfl, if_pos (by omega)]; rfl
    · rw [if_neg (fun e' => e e'.symm), if_neg e, List.getD_eq_getElem?_getD]
  refine ⟨by simp [h.len], fun i => ?_, fun i h1 h2 m hm hb => ?_⟩
  · rw [hg]; split
    · exact hn
    · exact h.rng i
  · rw [hg]; split
    · rename_i e; subst e; exact hi m hm hb
    · exact h.is i h1 (by omega) m hm hb
/-- A step that a line tells is one of eleven. -/
theorem step_cand {l : List UInt8} {ns : List Int} {d : List UInt8} {k : Nat} (hN : NumsA (splitL 32 l) k ns) (hk : (splitL 32 l).length ≤ k ∨ k = 5) (hd : ∀ c, (splitL 32 l)[3]? = some (txtL c) → d = c) {y : Stp} (hy : StepIs l y) :
    ∃ j, j < 11 ∧ lineL (candL j (ns.getD 1 0) (ns.getD 2 0) (ns.getD 3 0) d) = l := by
  obtain ⟨hr, ho, hl⟩ := hy
  have hj : kdL y < 11 := by simp only [okL, Bool.and_eq_true, decide_eq_true_eq] at ho; exact ho.1
  have hs : splitL 32 l = nmL (kdL y) :: wordsL (kdL y) y := by rw [← hl]; exact split_spell _ _
  obtain ⟨n1, n2, n3, c, ey, a0, a1, a2, a3⟩ := okL_cand ho
  refine ⟨kdL y, hj, ?_⟩
  have hw : ∀ i, (splitL 32 l)[i + 1]? = (wordsL (kdL y) y)[i]? := fun i => by rw [hs]; rfl
  have hlt : ∀ i x, (wordsL (kdL y) y)[i]? = some x → i < 3 → i + 1 < k := fun i x hx h3 => by
    have : i < (wordsL (kdL y) y).length := (List.getElem?_eq_some_iff.1 hx).1
    rw [hs] at hk
    rcases hk with hk | hk
    · simp at hk; omega
    · omega
  have key : ∀ i n, (wordsL (kdL y) y)[i]? = some (numL n) → i < 3 → i64B n → ns.getD (i + 1) 0 = n := fun i n hx h3 hb => hN.is (i + 1) (by omega) (hlt i _ hx h3) n ((hw i).trans hx) hb
  have hd' : ∀ c, (wordsL (kdL y) y)[2]? = some (txtL c) → d = c := fun c hc => hd c ((hw 2).trans hc)
  clear hN hk hd hw hlt hs a0 a1 a2 a3
  generalize kdL y = j at *
  subst ey
  match j, hj with
  | 0, _ => rw [key 0 n1 rfl (by omega) hr.t, key 1 n2 rfl (by omega) hr.a, key 2 n3 rfl (by omega) hr.b]; exact hl
  | 1, _ => rw [key 0 n1 rfl (by omega) hr.t, key 1 n2 rfl (by omega) hr.a]; exact hl
  | 2, _ => rw [key 0 n1 rfl (by omega) hr.t]; exact hl
  | 3, _ => rw [key 0 n1 rfl (by omega) hr.t, key 1 n2 rfl (by omega) hr.o]; exact hl
  | 4, _ => rw [key 0 n1 rfl (by omega) hr.t, key 1 n2 rfl (by omega) hr.pl]; exact hl
  | 5, _ => rw [key 0 n1 rfl (by omega) hr.t, key 1 n2 rfl (by omega) hr.pl, hd' c rfl]; exact hl
  | 6, _ => rw [key 0 n1 rfl (by omega) hr.t, key 1 n2 rfl (by omega) hr.pl]; exact hl
  | 7, _ => rw [key 0 n1 rfl (by omega) hr.t]; exact hl
  | 8, _ => rw [key 0 n1 rfl (by omega) hr.a]; exact hl
  | 9, _ => rw [key 0 n1 rfl (by omega) hr.a, key 1 n2 rfl (by omega) hr.b]; exact hl
  | 10, _ => rw [key 0 n1 rfl (by omega) hr.a]; exact hl

end Go.Proofs.YtdaifepjmkmpjaaDoor

/-
  Layer 25's reference: Step, walked.
-/
namespace Go.Proofs.YtdaifepjmkmpjaaDoor
set_option linter.unusedVariables false
set_option linter.unusedSimpArgs false
set_option linter.unusedVariables false
set_option linter.unusedSimpArgs false
set_option maxRecDepth 100000
open Go.RowKit

def SplA (b : UInt8) (s : List UInt8) (w : World) (e : Ending) (w' : World) : Prop := ∃ v, e = .returned v ∧ OwnS w.heap.size w' v (splitL b s) ∧ v.ownBlock ≠ none ∧ w.grownBy w' none
theorem split32 (w : World) (s : ByteArray) (hs : s.size ≤ 10000) : Calls Tryd.prog 29 #[.string s, .int .u8 32] w (SplA 32 s.data.toList w) := split25 w s 32 hs
theorem split10 (w : World) (s : ByteArray) (hs : s.size ≤ 10000) : Calls Tryd.prog 29 #[.string s, .int .u8 10] w (SplA 10 s.data.toList w) := split25 w s 10 hs
/-- Five numbers of the call's own. -/
def nsC (ns : List Int) : Array Value := (ns.map (Value.int .i64)).toArray
theorem nsC_set (ns : List Int) (k : Nat) (n : Int) : (nsC ns).setIfInBounds k (.int .i64 n) = nsC (ns.set k n) := by
  unfold nsC
  rw [List.map_set, List.setIfInBounds_toArray]
theorem nsC_at {ns : List Int} {k : Nat} (h : k < ns.length) : (nsC ns)[k]? = some (.int .i64 (ns.getD k 0)) := by
  unfold nsC
  simp [List.getD_eq_getElem?_getD, List.getElem?_eq_getElem h]
/-- What stands while words are read. -/
structure StW (w0 w : World) (rb nb : Nat) (v : Value) (W : List (List UInt8)) (ns : List Int) : Prop where
  res : Blk w rb 25 (stpC noStp)
  num : Blk w nb 3 (nsC ns)
  own : OwnS w0.heap.size w v W
  off : ∀ k, v.ownBlock = some k → k ≠ nb
  grn : w0.grownBy w none
  hi : w0.heap.size ≤ nb
  ne : rb ≠ nb
theorem StW.ext {w0 w w' : World} {rb nb : Nat} {v : Value} {W : List (List UInt8)} {ns : List Int} (h : StW w0 w rb nb v W ns) (hg : w.grownBy w' none) : StW w0 w' rb nb v W ns :=
  ⟨h.res.ext hg, h.num.ext hg, own_kept25 h.own hg (by simp), h.off, ext_trans h.grn hg, h.hi, h.ne⟩
theorem StW.put {w0 w : World} {rb nb : Nat} {v : Value} {W : List (List UInt8)} {ns : List Int} (h : StW w0 w rb nb v W ns) (k : Nat) (n : Int) : StW w0 (w.setCell ⟨nb, k, none⟩ (.int .i64 n)) rb nb v W (ns.set k n) :=
  ⟨h.res.far h.ne _, nsC_set ns k n ▸ h.num.set k _, own_kept25 h.own (grown_set w ⟨nb, k, none⟩ _) (fun k' hk' e => h.off k' hk' (by injection e)), h.off, grown_trans h.grn (grown_set w ⟨nb, k, none⟩ _) (fun p hp hlt => by injection hp with hp; have := h.hi; simp only at hp; omega), h.hi, h.ne⟩
theorem own_le25' {w : World} {B B' : Nat} {e : TypeId} {sz : Nat} {v : Value} {n : Nat} {xs : List Value} (h : w.ownsRow B e sz v n xs) (hB : B' ≤ B) : w.ownsRow B' e sz v n xs := ownsRow_le h hB
theorem word_len {l : List UInt8} {i : Nat} {x : List UInt8} (h : (splitL 32 l)[i]? = some x) : x.length ≤ l.length := splitL_mem l x (List.mem_of_getElem? h)

/-- Eleven steps, one behind the other. -/
def candsC (n1 n2 n3 : Int) (d : List UInt8) : Array Value := #[.int .i64 1, .int .i64 n1, .int .i64 0, .int .i64 n2, .int .i64 n3, .int .i64 0, .int .i64 0, .string ⟨#[]⟩, .int .i64 2, .int .i64 n1, .int .i64 0, .int .i64 n2, .int .i64 0, .int .i64 0, .int .i64 0, .string ⟨#[]⟩, .int .i64 3, .int .i64 n1, .int .i64 0, .int .i64 0, .int .i64 0, .int .i64 0, .int .i64 0, .string ⟨#[]⟩, .int .i64 4, .int .i64 n1, .int .i64 n2, .int .i64 0, .int .i64 0, .int .i64 0, .int .i64 0, .string ⟨#[]⟩, .int .i64 5, .int .i64 n1, .int .i64 0, .int .i64 0, .int .i64 0, .int .i64 1, .int .i64 n2, .string ⟨#[]⟩, .int .i64 5, .int .i64 n1, .int .i64 0, .int .i64 0, .int .i64 0, .int .i64 2, .int .i64 n2, .string (bs d), .int .i64 5, .int .i64 n1, .int .i64 0, .int .i64 0, .int .i64 0, .int .i64 3, .int .i64 n2, .string ⟨#[]⟩, .int .i64 5, .int .i64 n1, .int .i64 0, .int .i64 0, .int .i64 0, .int .i64 4, .int .i64 0, .string ⟨#[]⟩, .int .i64 6, .int .i64 0, .int .i64 0, .int .i64 n1, .int .i64 0, .int .i64 0, .int .i64 0, .string ⟨#[]⟩, .int .i64 7, .int .i64 0, .int .i64 0, .int .i64 n1, .int .i64 n2, .int .i64 0, .int .i64 0, .string ⟨#[]⟩, .int .i64 8, .int .i64 0, .int .i64 0, .int .i64 n1, .int .i64 0, .int .i64 0, .int .i64 0, .string ⟨#[]⟩]
theorem candsC_at (n1 n2 n3 : Int) (d : List UInt8) : ∀ j, j < 11 → ∀ i, i < 8 → (candsC n1 n2 n3 d)[j * 8 + i]? = (stpC (candL j n1 n2 n3 d))[i]? := by
  intro j hj i hi
  match j, hj with
  | 0, _ =>
    match i, hi with
    | 0, _ | 1, _ | 2, _ | 3, _ | 4, _ | 5, _ | 6, _ | 7, _ => rfl
  | 1, _ =>
    match i, hi with
    | 0, _ | 1, _ | 2, _ | 3, _ | 4, _ | 5, _ | 6, _ | 7, _ => rfl
  | 2, _ =>
    match i, hi with
    | 0, _ | 1, _ | 2, _ | 3, _ | 4, _ | 5, _ | 6, _ | 7, _ => rfl
  | 3, _ =>
    match i, hi with
    | 0, _ | 1, _ | 2, _ | 3, _ | 4, _ | 5, _ | 6, _ | 7, _ => rfl
  | 4, _ =>
    match i, hi with
    | 0, _ | 1, _ | 2, _ | 3, _ | 4, _ | 5, _ | 6, _ | 7, _ => rfl
  | 5, _ =>
    match i, hi with
    | 0, _ | 1, _ | 2, _ | 3, _ | 4, _ | 5, _ | 6, _ | 7, _ => rfl
  | 6, _ =>
    match i, hi with
    | 0, _ | 1, _ | 2, _ | 3, _ | 4, _ | 5, _ | 6, _ | 7, _ => rfl
  | 7, _ =>
    match i, hi with
    | 0, _ | 1, _ | 2, _ | 3, _ | 4, _ | 5, _ | 6, _ | 7, _ => rfl
  | 8, _ =>
    match i, hi with
    | 0, _ | 1, _ | 2, _ | 3, _ | 4, _ | 5, _ | 6, _ | 7, _ => rfl
  | 9, _ =>
    match i, hi with
    | 0, _ | 1, _ | 2, _ | 3, _ | 4, _ | 5, _ | 6, _ | 7, _ => rfl
  | 10, _ =>
    match i, hi with
    | 0, _ | 1, _ | 2, _ | 3, _ | 4, _ | 5, _ | 6, _ | 7, _ => rfl
/-- What stands while the eleven are tried. -/
structure CndM (w0 w : World) (rb cb : Nat) (n1 n2 n3 : Int) (d : List UInt8) : Prop where
  res : Blk w rb 25 (stpC noStp)
  cnd : Blk w cb 25 (candsC n1 n2 n3 d)
  grn : w0.grownBy w none
theorem CndM.ext {w0 w w' : World} {rb cb : Nat} {n1 n2 n3 : Int} {d : List UInt8} (h : CndM w0 w rb cb n1 n2 n3 d) (hg : w.grownBy w' none) : CndM w0 w' rb cb n1 n2 n3 d := ⟨h.res.ext hg, h.cnd.ext hg, ext_trans h.grn hg⟩
theorem results_cell25 {P : Program} {fn : Func} {p t : Tmp} {ty : TypeId} {tmps : Array Value} {w : World} {g : Nat} {bt : TypeId} {cs : Array Value} {v : Value} {d : TypeDesc} (h : fn.results = #[.cell p ty, .tmp t])
    (hp : tmps.getD p undef = .pointer (some ⟨g, 0, none⟩)) (hv : tmps.getD t undef = v) (hg : w.heap[g]? = some (.cells cs bt (0, 0)))
    (hu : P.underlying ty = some d) (hd : (match d with | .struct _ | .array _ _ => true | _ => false) = true) (hi : (P.info? ty).map (·.size) = some cs.size) :
    (results fn tmps).run P w = .ok (.tuple #[.agg cs, v]) w := by
  have hp' : tmps[p]?.getD undef = .pointer (some ⟨g, 0, none⟩) := by simpa using hp
  have hv' : tmps[t]?.getD undef = v := by simpa using hv
  simp [results, h, hp', hv', asAddr, run_loadVar_row w g bt ty cs (0, 0) d hg hu hd hi]
section
variable {ops : Array Oper} {rest : List Oper} {o : Oper} {a : Act} {w : World} {Q : Exit → Act → World → Prop}
theorem stp_store (hwt : Region.wanted o (yielded ops a.tmps) = true) (x y : Operand) (ho : o.op = .store 25 x y) {g : Nat} (hx : a.eval x = .pointer (some ⟨g, 0, none⟩)) {z : Stp} (hy : a.eval y = .agg (stpC z)) {old : Array Value} (hg : Blk w g 25 old) (hl : old.size = 8)
    (h : ∀ w', Blk w' g 25 (stpC z) → w.grownBy w' (some g) → w'.heap.size = w.heap.size → wpList Tryd.prog ops Q rest (a.put o.dst undef) w') : wpList Tryd.prog ops Q (o :: rest) a w :=
  wpList_store_part hwt _ x y ho g 0 8 _ hx hy _ old _ hg rfl Tryd.sizeStp25 (by omega) (by simp [stpC, Value.oneCell']) (by
    have h1 : (stpC z).toList.length = 8 := rfl
    rw [h1, List.drop_of_length_le (by simp; omega)]
    simp) h
end
theorem candL_rng {j : Nat} (hj : j < 11) {n1 n2 n3 : Int} {d : List UInt8} (h : i64B n1 ∧ i64B n2 ∧ i64B n3) : (candL j n1 n2 n3 d).rng := by
  obtain ⟨h1, h2, h3⟩ := h
  have z : ∀ k : Int, -100 ≤ k → k ≤ 100 → i64B k := fun k _ _ => by unfold i64B; omega
  match j, hj with
  | 0, _ => exact ⟨z 1 (by omega) (by omega), h1, z 0 (by omega) (by omega), h2, h3, z 0 (by omega) (by omega), z 0 (by omega) (by omega)⟩
  | 1, _ => exact ⟨z 2 (by omega) (by omega), h1, z 0 (by omega) (by omega), h2, z 0 (by omega) (by omega), z 0 (by omega) (by omega), z 0 (by omega) (by omega)⟩
  | 2, _ => exact ⟨z 3 (by omega) (by omega), h1, z 0 (by omega) (by omega), z 0 (by omega) (by omega), z 0 (by omega) (by omega), z 0 (by omega) (by omega), z 0 (by omega) (by omega)⟩
  | 3, _ => exact ⟨z 4 (by omega) (by omega), h1, h2, z 0 (by omega) (by omega), z 0 (by omega) (by omega), z 0 (by omega) (by omega), z 0 (by omega) (by omega)⟩
  | 4, _ => exact ⟨z 5 (by omega) (by omega), h1, z 0 (by omega) (by omega), z 0 (by omega) (by omega), z 0 (by omega) (by omega), z 1 (by omega) (by omega), h2⟩
  | 5, _ => exact ⟨z 5 (by omega) (by omega), h1, z 0 (by omega) (by omega), z 0 (by omega) (by omega), z 0 (by omega) (by omega), z 2 (by omega) (by omega), h2⟩
  | 6, _ => exact ⟨z 5 (by omega) (by omega), h1, z 0 (by omega) (by omega), z 0 (by omega) (by omega), z 0 (by omega) (by omega), z 3 (by omega) (by omega), h2⟩
  | 7, _ => exact ⟨z 5 (by omega) (by omega), h1, z 0 (by omega) (by omega), z 0 (by omega) (by omega), z 0 (by omega) (by omega), z 4 (by omega) (by omega), z 0 (by omega) (by omega)⟩
  | 8, _ => exact ⟨z 6 (by omega) (by omega), z 0 (by omega) (by omega), z 0 (by omega) (by omega), h1, z 0 (by omega) (by omega), z 0 (by omega) (by omega), z 0 (by omega) (by omega)⟩
  | 9, _ => exact ⟨z 7 (by omega) (by omega), z 0 (by omega) (by omega), z 0 (by omega) (by omega), h1, h2, z 0 (by omega) (by omega), z 0 (by omega) (by omega)⟩
  | 10, _ => exact ⟨z 8 (by omega) (by omega), z 0 (by omega) (by omega), z 0 (by omega) (by omega), h1, z 0 (by omega) (by omega), z 0 (by omega) (by omega), z 0 (by omega) (by omega)⟩
theorem candL_d {j : Nat} {n1 n2 n3 : Int} {d : List UInt8} : (candL j n1 n2 n3 d).d.length ≤ d.length := by
  unfold candL
  split <;> simp [noStp]
theorem lineA_ok {x : Stp} {w w' : World} {e : Ending} (h : LineA x w e w') (ho : okL x = true) : e = .returned (.tuple #[.string (bs (lineL x)), .bool true]) ∧ w.grownBy w' none := by
  obtain ⟨h1, h2⟩ := h
  rw [ho, if_pos rfl] at h1
  exact ⟨h1, h2⟩
theorem CndM.range {w0 w : World} {rb cb : Nat} {n1 n2 n3 : Int} {d : List UInt8} (h : CndM w0 w rb cb n1 n2 n3 d) {j : Nat} (hj : j < 11) : w.rangeAt cb (j * 8) (stpC (candL j n1 n2 n3 d)).toList := fun i u hi => by
  have h8 : i < 8 := (List.getElem?_eq_some_iff.1 hi).1
  rw [h.cnd.cell, candsC_at n1 n2 n3 d j hj i h8, ← hi, Array.getElem?_toList]
theorem make5 (w : World) : (Instr.makeSlice 35 (.int .i64 5) (.int .i64 5)).run Tryd.prog w = .ok (.slice (some ⟨w.heap.size, 0, none⟩) 5 5) (w.alloc (.cells (nsC [0, 0, 0, 0, 0]) 3)) := by
  obtain ⟨i, hi, h1, h2, h3⟩ := info_parts Tryd.infoInt
  have := run_make (P := Tryd.prog) w 35 3 i (.int .i64 0) Tryd.underlying35 hi h1 .i64 .i64 5 5 (by omega) (Int.le_refl _) (by omega) (by omega)
  rw [h2] at this
  have hz : madeCells (Value.int IntKind.i64 0).cells (Int.toNat 5 * 1) = nsC [0, 0, 0, 0, 0] := by
    have : (Array.range 5) = #[0, 1, 2, 3, 4] := by decide
    simp [madeCells, nsC, Value.cells, this]
  rw [hz] at this
  exact this
set_option maxHeartbeats 1600000 in
theorem step25 (w : World) (s : ByteArray) (hs : s.size ≤ 2000) :
    Calls Tryd.prog 11 #[.string s] w (StepA s.data.toList w) := by
  have g0 := World.grownBy_alloc w (.cells (stpC noStp) 25) none
  have b0 := Blk.new w 25 (stpC noStp)
  obtain ⟨w1, hw1⟩ : ∃ z, w.alloc (.cells #[.int .i64 0, .int .i64 0, .int .i64 0, .int .i64 0, .int .i64 0, .int .i64 0, .int .i64 0, .string ⟨#[]⟩] 25) = z := ⟨_, rfl⟩
  have g0 : w.grownBy w1 none := hw1 ▸ g0
  have b0 : Blk w1 w.heap.size 25 (stpC noStp) := hw1 ▸ b0
  have G0 := Lib.hid g0
  have B0 := Lib.hid b0
  have HW := Lib.hid hw1
  clear g0 b0 hw1
  go_enter Tryd.func11, Tryd.ntmps11
  go_upto_region 1 with fail
  rw [HW.out]
  obtain ⟨rb, hrb⟩ : ∃ n, w.heap.size = n := ⟨_, rfl⟩
  have B := B0.out
  rw [hrb] at B
  rw [hrb]
  have HRB := Lib.hid hrb
  clear hrb HW B0
  have B0 := Lib.hid B
  clear B
  go_wp2_with fail
  go_at_call 29
  refine (split32 _ s (by omega)).mono ?_
  rintro e w2 ⟨v, rfl, hO, hnv, hg2⟩
  have HO := Lib.hid hO
  have HG2 := Lib.hid hg2
  have HNV := Lib.hid hnv
  obtain ⟨g, cap, rfl, -⟩ := hO.open hnv
  clear hO hg2 hnv
  have M5 := make5 w2
  have hS0 : StW w (w2.alloc (.cells (nsC [0, 0, 0, 0, 0]) 3)) rb w2.heap.size (.slice (some ⟨g, 0, none⟩) (splitL 32 s.data.toList).length cap) (splitL 32 s.data.toList) [0, 0, 0, 0, 0] := by
    have hE := ext_trans G0.out HG2.out
    have hs1 := G0.out.size
    have hs2 := HG2.out.size
    have hlt := B0.out.lt
    exact ⟨(B0.out.ext HG2.out).alloc _, Blk.new w2 _ _, own_kept25 (own_le25' HO.out hs1) (World.grownBy_alloc w2 _ none) (by simp), fun k hk => by (have := (own_le25' HO.out hs1).lt k hk); omega, ext_trans hE (World.grownBy_alloc w2 _ none), hE.size, by omega⟩
  obtain ⟨w3, hw3⟩ : ∃ z, w2.alloc (.cells (nsC [0, 0, 0, 0, 0]) 3) = z := ⟨_, rfl⟩
  obtain ⟨nb, hnb⟩ : ∃ n, w2.heap.size = n := ⟨_, rfl⟩
  rw [hw3, hnb] at M5 hS0
  obtain ⟨L, hL⟩ : ∃ L, splitL 32 s.data.toList = L := ⟨_, rfl⟩
  rw [hL] at hS0 ⊢
  have hln : 1 ≤ L.length := by rw [← hL]; exact List.length_pos_iff.2 (splitL_ne 32 _)
  have hlm : L.length ≤ 2001 := by rw [← hL]; have := splitL_length (b := 32) s.data.toList; have : s.data.toList.length = s.size := by simp
                                   omega
  have HL := Lib.hid hL
  have HS0 := Lib.hid hS0
  clear hL hS0 hw3 hnb HO HG2 HNV G0 B0
  go_upto_block 0 with fail
  go_cut [7] (fun i wx => ∃ (k : Nat) (ns : List Int), (L.length ≤ k ∨ k = 5) ∧ NumsA L k ns ∧ StW w wx rb nb (.slice (some ⟨g, 0, none⟩) L.length cap) L ns)
  case first =>
    go_wp2
    go_loopw [7] (fun i wr => ∃ (k : Nat) (ns : List Int), 1 ≤ k ∧ k ≤ 5 ∧ k ≤ L.length ∧ i = .int .i64 k ∧ NumsA L k ns ∧ StW w wr rb nb (.slice (some ⟨g, 0, none⟩) L.length cap) L ns) (fun i _ => 5 - (intOf i).toNat)
    case atStart => exact ⟨1, _, by omega, by omega, hln, rfl, numsA_zero L, HS0.out⟩
    case round =>
      obtain ⟨k, ns, hk1, hk5, hkl, rfl, hN, hS⟩ := hrel
      have HN := Lib.hid hN
      have HS := Lib.hid hS
      have hnl := hN.len
      obtain ⟨g', cap', he, hgB, hcap, hmax, hfz, hcl⟩ := hS.own.open (by simp [Value.ownBlock])
      simp only [Value.slice.injEq, Option.some.injEq, Addr.mk.injEq] at he
      obtain ⟨⟨rfl, -, -⟩, -, rfl⟩ := he
      by_cases hlt : k < L.length
      · by_cases h5 : k < 5
        · have hc := hcl k hlt
          obtain ⟨x, hx⟩ : ∃ x, L.getD k [] = x := ⟨_, rfl⟩
          rw [hx] at hc
          have hx2 : L[k]? = some x := by rw [← hx, List.getD_eq_getElem?_getD, List.getElem?_eq_getElem hlt]; rfl
          have hxl : x.length ≤ 2000 := by have := word_len (HL.out.symm ▸ hx2 : (splitL 32 s.data.toList)[k]? = some x); have : s.data.toList.length = s.size := by simp
                                           omega
          have HX := Lib.hid hx2
          clear hx hx2 hcl hfz hN hS hnl
          have hnl := Lib.hid HN.out.len
          go_wp2_with (first | (go_at_call 30; refine (value25 _ (bs x) (by rw [bs_size]; omega)).mono ?_; rintro e w5 ⟨n, ok, rfl, hB, hT, hI, hg5⟩; have HS5 := Lib.hid (HS.out.ext hg5); have hcn := (HS.out.ext hg5).num.cell k; rw [nsC_at (by rw [hnl.out]; exact h5)] at hcn; have hfn := (HS.out.ext hg5).num.free k; have HB := Lib.hid hB; have HI := Lib.hid hI; clear hB hT hI hg5 hc))
          go_roundw
          case rel => exact ⟨k + 1, ns.set k n, by omega, by omega, by omega, by go_num, HN.out.set h5 HB.out (fun m hm hb => (HI.out m ⟨hb, by rw [bs_data]; rw [HX.out] at hm; exact Option.some.inj hm⟩).2), HS5.out.put k n⟩
          case measure => simp [intOf]; omega
        · clear hcl hfz
          go_wp2
          go_meet
          exact ⟨k, ns, .inr (by omega), hN, hS⟩
      · clear hcl hfz
        go_wp2
        go_meet
        exact ⟨k, ns, .inl (by omega), hN, hS⟩
  case rest =>
    obtain ⟨k, ns, hk, hN, hS⟩ := hcut
    have HN := Lib.hid hN
    have HK := Lib.hid hk
    have HS := Lib.hid hS
    clear hN hk hS
    obtain ⟨g', cap', he, hgB, hcap, hmax, hfz, hcl⟩ := HS.out.own.open (by simp [Value.ownBlock])
    simp only [Value.slice.injEq, Option.some.injEq, Addr.mk.injEq] at he
    obtain ⟨⟨rfl, -, -⟩, -, rfl⟩ := he
    go_upto_if 38 with fail
    go_cut [6] (fun dv wx => ∃ d : List UInt8, dv = .string (bs d) ∧ d.length ≤ 2000 ∧ (∀ c, L[3]? = some (txtL c) → d = c) ∧ StW w wx rb nb (.slice (some ⟨g, 0, none⟩) L.length cap) L ns)
    case first =>
      by_cases h3 : 3 < L.length
      · have hc := hcl 3 h3
        obtain ⟨x, hx⟩ : ∃ x, L.getD 3 [] = x := ⟨_, rfl⟩
        rw [hx] at hc
        have hx2 : L[3]? = some x := by rw [← hx, List.getD_eq_getElem?_getD, List.getElem?_eq_getElem h3]; rfl
        have hxl : x.length ≤ 2000 := by have := word_len (HL.out.symm ▸ hx2 : (splitL 32 s.data.toList)[3]? = some x); have : s.data.toList.length = s.size := by simp
                                         omega
        have HX := Lib.hid hx2
        clear hx hx2 hcl hfz
        go_wp2_with (first | (go_at_call 31; refine (bytes25 _ (bs x) (by rw [bs_size]; omega)).mono ?_; rintro e w5 ⟨d, ok, rfl, hdl, hT, hI, hg5⟩; have HS5 := Lib.hid (HS.out.ext hg5); have HI := Lib.hid hI; have HDL := Lib.hid hdl; clear hT hI hg5 hc hdl))
        go_meet
        exact ⟨d, rfl, by have := HDL.out; rw [bs_data] at this; omega, fun c hc => (HI.out c (by rw [bs_data]; rw [HX.out] at hc; exact Option.some.inj hc)).2, HS5.out⟩
      · clear hcl hfz
        go_wp2
        go_meet
        exact ⟨[], rfl, by simp, (fun c hc => by rw [List.getElem?_eq_none (by omega)] at hc; cases hc), HS.out⟩
    case rest =>
      obtain ⟨d, rfl, hdl, hdI, hS⟩ := hcut
      obtain ⟨n1, h1⟩ : ∃ n, ns.getD 1 0 = n := ⟨_, rfl⟩
      obtain ⟨n2, h2⟩ : ∃ n, ns.getD 2 0 = n := ⟨_, rfl⟩
      obtain ⟨n3, h3⟩ : ∃ n, ns.getD 3 0 = n := ⟨_, rfl⟩
      have r1 : i64B n1 := h1 ▸ HN.out.rng 1
      have r2 : i64B n2 := h2 ▸ HN.out.rng 2
      have r3 : i64B n3 := h3 ▸ HN.out.rng 3
      have HC := Lib.hid (fun y (hy : StepIs s.data.toList y) => by
        have := step_cand (d := d) (by rw [HL.out]; exact HN.out) (by rw [HL.out]; exact HK.out) (by rw [HL.out]; exact hdI) hy
        rw [h1, h2, h3] at this
        exact this)
      have HR := Lib.hid (And.intro r1 (And.intro r2 r3))
      have hln5 := HN.out.len
      have hc1 : wc.cell? ⟨nb, 1, none⟩ = some (.int .i64 n1) := by rw [hS.num.cell 1, nsC_at (by omega), h1]
      have hc2 : wc.cell? ⟨nb, 2, none⟩ = some (.int .i64 n2) := by rw [hS.num.cell 2, nsC_at (by omega), h2]
      have hc3 : wc.cell? ⟨nb, 3, none⟩ = some (.int .i64 n3) := by rw [hS.num.cell 3, nsC_at (by omega), h3]
      have HRES := Lib.hid (And.intro hS.res (And.intro hS.grn hS.res.lt))
      have HDL := Lib.hid hdl
      clear h1 h2 h3 r1 r2 r3 hdI hS hln5 HN HK HS HL hcl hfz hgB hcap hmax hdl HS0
      go_upto_region 10 with fail
      go_cut [119, 120, 121] (fun a b c wx => ∃ cb, a = .slice (some ⟨cb, 0, none⟩) 11 11 ∧ b = .int .i64 11 ∧ c = .int .i64 0 ∧ CndM w wx rb cb n1 n2 n3 d)
      case first =>
        have hS : (fun z : World => z.cell? ⟨nb, 1, none⟩ = some (.int .i64 n1) ∧ z.cell? ⟨nb, 2, none⟩ = some (.int .i64 n2) ∧ z.cell? ⟨nb, 3, none⟩ = some (.int .i64 n3)) wc.drew := ⟨hc1, hc2, hc3⟩
        have HM := Lib.hid (show CndM w (wc.drew.alloc (.cells (candsC n1 n2 n3 d) 25)) rb wc.heap.size n1 n2 n3 d from ⟨(HRES.out.1.drew).alloc _, Blk.new wc.drew _ _, ext_trans (ext_trans HRES.out.2.1 (Ext.drew wc)) (World.grownBy_alloc _ _ none)⟩)
        clear hc1 hc2 hc3 HRES HC HR HDL
        refine region_line [(0, true), (1, true), (2, true), (3, true), (4, true), (5, true), (6, true), (7, true), (8, true), (9, true), (10, true), (11, true), (12, true), (13, true), (14, true), (15, true), (16, true), (17, true), (18, true), (19, true), (20, true), (21, true), (22, true), (23, true), (24, true), (25, true), (26, true), (27, true), (28, true), (29, true), (30, true), (31, true), (32, true), (33, true), (34, true), (35, true), (36, true), (37, true), (38, true), (39, true), (40, true), (41, true), (42, true), (43, true), (44, true), (45, true), (46, true), (47, true), (48, true), (49, true), (50, true), (51, true), (52, true), (53, true), (54, true), (55, true), (56, true), (57, true), (58, true), (59, true), (60, true), (61, true), (62, true), (63, true), (64, true), (65, true), (66, true), (67, true), (68, true), (69, true), (70, true), (71, true), (72, true), (75, true), (73, false), (74, true)] (fun z : World => z.cell? ⟨nb, 1, none⟩ = some (.int .i64 n1) ∧ z.cell? ⟨nb, 2, none⟩ = some (.int .i64 n2) ∧ z.cell? ⟨nb, 3, none⟩ = some (.int .i64 n3)) (by kernel_rfl) (by kernel_rfl) (fun _ _ _ d _ h => by cases d <;> exact h) hS ?_
        dsimp only
        iterate 74 (refine line_read (a' := ?_) rfl (by kernel_rfl) (by kernel_rfl) hS (fun z hz K hK => ?_) ?_; rotate_left; · (obtain ⟨c1, c2, c3⟩ := hz; go_wp2; exact hK))
        refine line_act rfl fun K hK => ?_
        go_wp2
        have hS6 : (fun z : World => z.cell? ⟨nb, 1, none⟩ = some (.int .i64 n1) ∧ z.cell? ⟨nb, 2, none⟩ = some (.int .i64 n2) ∧ z.cell? ⟨nb, 3, none⟩ = some (.int .i64 n3)) (wc.alloc (.cells (candsC n1 n2 n3 d) 25)).drew := ⟨(World.grownBy_alloc wc (.cells (candsC n1 n2 n3 d) 25) none).cell hS.1 (by simp), (World.grownBy_alloc wc (.cells (candsC n1 n2 n3 d) 25) none).cell hS.2.1 (by simp), (World.grownBy_alloc wc (.cells (candsC n1 n2 n3 d) 25) none).cell hS.2.2 (by simp)⟩
        refine hK _ (wc.alloc (.cells (candsC n1 n2 n3 d) 25)).drew (fun z : World => z.cell? ⟨nb, 1, none⟩ = some (.int .i64 n1) ∧ z.cell? ⟨nb, 2, none⟩ = some (.int .i64 n2) ∧ z.cell? ⟨nb, 3, none⟩ = some (.int .i64 n3)) hS6 (fun _ h => h) ?_
        obtain ⟨w6, hw6⟩ : ∃ z, (wc.alloc (.cells (candsC n1 n2 n3 d) 25)).drew = z := ⟨_, rfl⟩
        have hM : CndM w (wc.alloc (.cells (candsC n1 n2 n3 d) 25)).drew rb wc.heap.size n1 n2 n3 d := HM.out
        rw [hw6] at hS6 hM ⊢
        clear hw6 hK K HM hS
        refine line_read (a' := ?_) rfl (by kernel_rfl) (by kernel_rfl) hS6 (fun z hz K hK => ?_) ?_
        rotate_left
        · (obtain ⟨c1, c2, c3⟩ := hz; go_wp2; exact hK)
        refine line_end ?_
        go_wp2
        go_meet
        exact ⟨_, rfl, rfl, rfl, hM⟩
      case rest =>
        obtain ⟨cb, rfl, rfl, rfl, hM⟩ := hcut
        clear hc1 hc2 hc3 HRES
        have HM := Lib.hid hM
        clear hM
        go_wp2
        go_loopw [121] (fun i wr => ∃ j : Nat, j ≤ 11 ∧ i = .int .i64 j ∧ CndM w wr rb cb n1 n2 n3 d ∧ ∀ q, q < j → lineL (candL q n1 n2 n3 d) ≠ s.data.toList) (fun i _ => 11 - (intOf i).toNat)
        case atStart => exact ⟨0, by omega, rfl, HM.out, fun q hq => by omega⟩
        case round =>
          obtain ⟨j, hj, rfl, hM, hq⟩ := hrel
          by_cases hlt : j < 11
          · obtain ⟨x, hx⟩ : ∃ x, candL j n1 n2 n3 d = x := ⟨_, rfl⟩
            have hr : wr.rangeAt cb (j * 8) (stpC x).toList := hx ▸ hM.range hlt
            have hno := Lib.hid (show x.d.length ≤ 2000 from Nat.le_trans (hx ▸ candL_d) HDL.out)
            have hok : okL x = true := hx ▸ ok_cand hlt _ _ _ _
            have hrg : x.rng := hx ▸ candL_rng hlt HR.out
            have HX := Lib.hid (And.intro hx (And.intro hok hrg))
            have HQ := Lib.hid hq
            have HM := Lib.hid hM
            have hBn := Blk.new wr 25 (stpC noStp)
            obtain ⟨r, hlr⟩ : ∃ r, lineL x = r := ⟨_, rfl⟩
            have HLR := Lib.hid hlr
            clear hx hok hrg hq hM hlr
            by_cases hh : r = s.data.toList
            · have b1 : ((bs r).toList == s.toList) = true := by rw [bs_toList, ByteArray.toList_eq, beq_iff_eq]; exact hh
              have HSI := Lib.hid (show StepIs s.data.toList x from ⟨HX.out.2.2, HX.out.2.1, by rw [HLR.out]; exact hh⟩)
              clear hh
              go_wp2_with (first
                | (refine stp_store (z := x) rfl _ _ rfl rfl rfl hB5 rfl ?_; intro w9 hb9 hg9 hs9)
                | (refine stp_load rfl _ rfl rfl hr5 ?_)
                | (go_at_call 9; refine (line25 _ x HX.out.2.2 hno.out).mono ?_; rintro e w5 hL; obtain ⟨rfl, hg5⟩ := lineA_ok hL HX.out.2.1; rw [HLR.out]; clear hL; have HM5 := Lib.hid (HM.out.ext (ext_trans HE4.out hg5)); have hB5 := HM5.out.res; have hr5 := (HB4.out.ext hg5).range25; clear hr4 hg5)
                | (refine stp_store (z := x) rfl _ _ rfl rfl rfl hBn rfl ?_; intro w4 hb4 hg4 hs4; have hr4 := hb4.range25; have HE4 := Lib.hid (new24 (World.grownBy_alloc wr _ none) hg4 (Nat.le_refl _)); have HB4 := Lib.hid hb4; clear hg4 hs4 hb4 hBn)
                | (refine stp_load rfl _ rfl rfl hr4 ?_)
                | (refine stp_load rfl _ rfl rfl hr ?_))
              refine bodyPost_ret (v := .tuple #[.agg (stpC x), .bool true]) (results_cell25 (fn := Tryd.f11) rfl rfl rfl hb9 Tryd.underlying25 rfl Tryd.sizeStp25) rfl ?_
              unfold StepA
              rw [stepR_some HSI.out]
              exact ⟨rfl, grown_trans HM5.out.grn hg9 (fun p hp hlt => by injection hp with hp; have := HRB.out; omega)⟩
            · have b1 : ((bs r).toList == s.toList) = false := by rw [bs_toList, ByteArray.toList_eq, beq_eq_false_iff_ne]; exact hh
              have HNE := Lib.hid hh
              clear hh
              go_wp2_with (first
                | (go_at_call 9; refine (line25 _ x HX.out.2.2 hno.out).mono ?_; rintro e w5 hL; obtain ⟨rfl, hg5⟩ := lineA_ok hL HX.out.2.1; rw [HLR.out]; clear hL; have HM5 := Lib.hid (HM.out.ext (ext_trans HE4.out hg5)); clear hr4 hg5)
                | (refine stp_store (z := x) rfl _ _ rfl rfl rfl hBn rfl ?_; intro w4 hb4 hg4 hs4; have hr4 := hb4.range25; have HE4 := Lib.hid (new24 (World.grownBy_alloc wr _ none) hg4 (Nat.le_refl _)); have HB4 := Lib.hid hb4; clear hg4 hs4 hb4 hBn)
                | (refine stp_load rfl _ rfl rfl hr4 ?_)
                | (refine stp_load rfl _ rfl rfl hr ?_))
              go_roundw
              case rel => exact ⟨j + 1, by omega, by go_num, HM5.out, fun q hq1 => by
                by_cases e : q = j
                · subst e; rw [HX.out.1, HLR.out]; exact HNE.out
                · exact HQ.out q (by omega)⟩
              case measure => simp [intOf]; omega
          · obtain rfl : j = 11 := by omega
            have HNO := Lib.hid (show ∀ y, ¬ StepIs s.data.toList y from fun y hy => by
              obtain ⟨q, hq1, hq2⟩ := HC.out y hy
              exact hq q hq1 hq2)
            have hB := hM.res
            have HG := Lib.hid hM.grn
            clear hq hM
            go_wp2_with (first | (refine stp_store (z := noStp) rfl _ _ rfl rfl rfl hB rfl ?_; intro w9 hb9 hg9 hs9))
            refine bodyPost_ret (v := .tuple #[.agg (stpC noStp), .bool false]) (results_cell25 (fn := Tryd.f11) rfl rfl rfl hb9 Tryd.underlying25 rfl Tryd.sizeStp25) rfl ?_
            unfold StepA
            rw [stepR_none HNO.out]
            exact ⟨rfl, grown_trans HG.out hg9 (fun p hp hlt => by injection hp with hp; have := HRB.out; omega)⟩

end Go.Proofs.YtdaifepjmkmpjaaDoor
