/-
  Texts put together: SpK SpL Tree SpM.
-/
import Derived.Test.YtdaifepjmkmpjaaDoorM18
import Derived.Test.YtdaifepjmkmpjaaDoorM02
/-
  Package script: a parser in memory; comes, geometry; what a line tells, by its first word and the rest.
-/
namespace Go.Proofs.YtdaifepjmkmpjaaDoor
set_option linter.unusedVariables false
set_option linter.unusedSimpArgs false
set_option linter.unusedVariables false
set_option linter.unusedSimpArgs false
set_option maxRecDepth 100000
open Go.RowKit

/-! ### pure -/
theorem split_headC (l : List UInt8) : (splitL 32 l).headD [] = (cutL 32 l).1 := by
  rw [split_cut]; split <;> rfl
theorem split_tailC (l : List UInt8) : (splitL 32 l).tail = if (cutL 32 l).2.2 then splitL 32 (cutL 32 l).2.1 else [] := by
  rw [split_cut]; split <;> rfl
theorem vals_nil : valsOf [] = none := rfl
theorem vals_empty : valsOf (splitL 32 []) = none := by
  have e : splitL 32 ([] : List UInt8) = [[]] := rfl
  have h : valOf [] = none := valOf_none fun n hn => numL_ne n hn.2.symm
  unfold valsOf
  rw [e, List.mapM_cons, h]; rfl
/-- The values behind a line's first word. -/
theorem vals_tail (l : List UInt8) : valsOf (splitL 32 l).tail = valsOf (splitL 32 (cutL 32 l).2.1) := by
  rw [split_tailC]
  cases h : (cutL 32 l).2.2
  · rw [(cutL_no h).2, vals_empty]; rfl
  · rfl
theorem splN_split : ∀ (k : Nat) (l : List UInt8), ((splitL 32 l).length ≤ k + 1 → splN 32 k l = splitL 32 l) ∧ (k + 1 < (splitL 32 l).length → (splN 32 k l).length = k + 1)
  | 0, l => by
    rw [split_cut]
    cases h : (cutL 32 l).2.2
    · simp [splN, (cutL_no h).1]
    · simp only [if_true, splN]
      have : 1 ≤ (splitL 32 (cutL 32 l).2.1).length := by
        cases h : splitL 32 (cutL 32 l).2.1 with
        | nil => exact absurd h (splitL_ne 32 _)
        | cons a r => simp
      constructor
      · intro h2; rw [List.length_cons] at h2; omega
      · simp
  | k + 1, l => by
    rw [split_cut]
    cases h : (cutL 32 l).2.2
    · simp [splN, h, (cutL_no h).1]
    · have ih := splN_split k (cutL 32 l).2.1
      simp only [splN, h, if_true]
      constructor
      · intro h2
        rw [ih.1 (by simpa using h2)]
      · intro h2
        have := ih.2 (by simp at h2; omega)
        simp [this]
theorem vals_some {ws : List (List UInt8)} {v : List Int} : valsOf ws = some v ↔ ws.mapM valOf = some v ∧ v ≠ [] := by
  unfold valsOf
  cases h : ws.mapM valOf with
  | none => simp
  | some u =>
    by_cases hu : u = []
    · simp [hu]
      try (rintro rfl; simp)
    · simp only [hu, if_false, Option.some.injEq]
      constructor
      · rintro rfl; exact ⟨rfl, hu⟩
      · exact fun h => h.1
/-- Four words, all numbers. -/
theorem vals_four (l : List UInt8) (v : List Int) (hv : v.length = 4) : valsOf (splitL 32 l) = some v ↔ (splN 32 4 l).length = 4 ∧ (splN 32 4 l).mapM valOf = some v := by
  have hs := splN_split 4 l
  rw [vals_some]
  constructor
  · rintro ⟨h1, _⟩
    have h2 := mapM_len25 h1
    rw [hs.1 (by omega)]
    exact ⟨by omega, h1⟩
  · rintro ⟨h1, h2⟩
    rcases Nat.lt_or_ge (4 + 1) (splitL 32 l).length with h | h
    · have := hs.2 h; omega
    · rw [hs.1 h] at h2
      exact ⟨h2, by rintro rfl; simp at hv⟩
theorem vals_cut (l : List UInt8) : valsOf (splitL 32 l) = match valOf (cutL 32 l).1 with
    | none => none
    | some n => if (cutL 32 l).2.2 then (match valsOf (splitL 32 (cutL 32 l).2.1) with | some r => some (n :: r) | none => none) else some [n] := by
  rw [split_cut]
  cases hn : valOf (cutL 32 l).1 with
  | none =>
    have e : ∀ ws, valsOf ((cutL 32 l).1 :: ws) = none := fun ws => by unfold valsOf; rw [List.mapM_cons, hn]; rfl
    split
    · exact e _
    · exact e _
  | some n =>
    cases h : (cutL 32 l).2.2
    · simp [valsOf, hn]
    · simp only [if_true]
      unfold valsOf
      rw [List.mapM_cons, hn]
      cases hr : (splitL 32 (cutL 32 l).2.1).mapM valOf with
      | none => simp
      | some r =>
        have : r ≠ [] := by
          rintro rfl
          have h1 := mapM_len25 hr
          exact splitL_ne 32 _ (List.length_eq_zero_iff.1 h1.symm)
        simp [this]
/-- A tenant's number, and numbers behind it. -/
theorem vals_two (l : List UInt8) (n : Int) (r : List Int) : (valsOf (splitL 32 l) = some (n :: r) ∧ r ≠ []) ↔ valOf (cutL 32 l).1 = some n ∧ valsOf (splitL 32 (cutL 32 l).2.1) = some r := by
  rw [vals_cut]
  cases hn : valOf (cutL 32 l).1 with
  | none => simp
  | some m =>
    cases h : (cutL 32 l).2.2
    · rw [(cutL_no h).2, vals_empty]
      simp
      try (rintro rfl rfl; rfl)
    · simp only [if_true]
      cases hr : valsOf (splitL 32 (cutL 32 l).2.1) with
      | none => simp
      | some u =>
        have hu := (vals_some.1 hr).2
        simp
        rintro _ rfl
        exact hu
def comB (rk r : Int) : Prop := ¬ (rk = 0 ∧ r ≠ 1) ∧ ¬ (r ≤ rk ∧ r ≠ 7)
def rkOf (p : PSt) : Int := if p.st ≠ [] then 7 else if p.s.m ≠ [] then 6 else if 0 ≤ p.last then 2 + p.last else 1
structure RkOk (rk : Int) (i : Nat) (p : PSt) : Prop where
  z : i = 0 → rk = 0 ∧ p = noPSt
  s : 0 < i → rk = rkOf p
  lo : -1 ≤ p.last
  hi : p.last ≤ 3
theorem RkOk.com {rk : Int} {i : Nat} {p : PSt} (h : RkOk rk i p) (hi : 0 < i) : (∀ n : Int, 0 ≤ n → n ≤ 3 → (comB rk (2 + n) ↔ p.last < n ∧ p.s.m = [] ∧ p.st = [])) ∧ (comB rk 6 ↔ p.s.m = [] ∧ p.st = []) ∧ comB rk 7 ∧ ¬ comB rk 1 := by
  have hr := h.s hi
  have h1 := h.lo
  have h2 := h.hi
  unfold rkOf at hr
  unfold comB
  by_cases hs : p.st = []
  · by_cases hm : p.s.m = []
    · simp only [hs, hm, ne_eq, not_true, if_false] at hr
      by_cases hl : 0 ≤ p.last
      · rw [if_pos hl] at hr
        refine ⟨fun n hn hn2 => ?_, ?_, by omega, by omega⟩
        · simp only [hs, hm, and_true]; omega
        · simp only [hs, hm, and_true, iff_true]; omega
      · rw [if_neg hl] at hr
        refine ⟨fun n hn hn2 => ?_, ?_, by omega, by omega⟩
        · simp only [hs, hm, and_true]; omega
        · simp only [hs, hm, and_true, iff_true]; omega
    · simp only [hs, hm, ne_eq, not_true, not_false_iff, if_false, if_true] at hr
      subst hr
      refine ⟨fun n hn hn2 => ?_, ?_, by omega, by omega⟩
      · simp only [hm, false_and, and_false, iff_false]; omega
      · simp only [hm, false_and, iff_false]; omega
  · simp only [hs, ne_eq, not_false_iff, if_true] at hr
    subst hr
    refine ⟨fun n hn hn2 => ?_, ?_, by omega, by omega⟩
    · simp only [hs, and_false, iff_false]; omega
    · simp only [hs, and_false, iff_false]; omega
theorem com_zero (r : Int) : comB 0 r ↔ r = 1 := by unfold comB; omega

/-! ### a parser in memory -/
def parC (s : Stu) (V : Nat → Value) (vm sv : Value) (rk : Int) (mb : Nat) : Array Value := #[.int .i64 s.c, .int .i64 s.d, .int .i64 s.b, .int .i64 s.p, V 0, V 1, V 2, V 3, vm, sv, .bool false, .int .i64 rk, .map (some mb)]
theorem own_ne25 {w : World} {B : Nat} {e : TypeId} {sz : Nat} {v : Value} {n : Nat} {xs : List Value} {g : Nat} {T : TypeId} {cs : Array Value} (h : w.ownsRow B e sz v n xs) (hb : Blk w g T cs) (hT : e ≠ T) : v.ownBlock ≠ some g := by
  rcases h.2 with ⟨rfl, _⟩ | ⟨k, cap, cur, rfl, _, hh, _⟩
  · simp [Value.ownBlock]
  · intro e1
    simp only [Value.ownBlock, Option.some.injEq] at e1
    subst e1
    have hb2 : w.heap[k]? = some (.cells cs T (0, 0)) := hb
    rw [hh] at hb2
    injection hb2 with hb2
    injection hb2 with _ hb3
    exact hT hb3
theorem own_ne2 {w : World} {B B' : Nat} {e e' : TypeId} {sz sz' : Nat} {v v' : Value} {n n' : Nat} {xs xs' : List Value} (h : w.ownsRow B e sz v n xs) (h' : w.ownsRow B' e' sz' v' n' xs') (hT : e ≠ e') : v.ownBlock = none ∨ v.ownBlock ≠ v'.ownBlock := by
  rcases h.2 with ⟨rfl, _⟩ | ⟨k, cap, cur, rfl, _, hh, _⟩
  · left; rfl
  · right
    rcases h'.2 with ⟨rfl, _⟩ | ⟨k', cap', cur', rfl, _, hh', _⟩
    · simp [Value.ownBlock]
    · intro e1
      simp only [Value.ownBlock, Option.some.injEq] at e1
      subst e1
      rw [hh] at hh'
      injection hh' with hh'
      injection hh' with _ hb3
      exact hT hb3
theorem MapK.obj {w : World} {b n : Nat} {m : List UInt8 → Option (Int × Int)} (h : MapK w b n m) : ∃ es clock, w.heap[b]? = some (.map es clock) := by
  obtain ⟨D, hD, _⟩ := h
  obtain ⟨es, h2⟩ := hD
  obtain ⟨clock, h3, _⟩ := h2
  exact ⟨es, clock, h3⟩
theorem MapK.ne_blk {w : World} {b n : Nat} {m : List UInt8 → Option (Int × Int)} (h : MapK w b n m) {g : Nat} {T : TypeId} {cs : Array Value} (hb : Blk w g T cs) : b ≠ g := by
  obtain ⟨es, clock, hm⟩ := h.obj
  rintro rfl
  have hb2 : w.heap[b]? = some (.cells cs T (0, 0)) := hb
  rw [hm] at hb2
  cases hb2
theorem MapK.ne_own {w : World} {b n : Nat} {m : List UInt8 → Option (Int × Int)} (h : MapK w b n m) {B : Nat} {e : TypeId} {sz : Nat} {v : Value} {k : Nat} {xs : List Value} (ho : w.ownsRow B e sz v k xs) : some b ≠ v.ownBlock := by
  rcases ho.2 with ⟨rfl, _⟩ | ⟨g, cap, cur, rfl, _, hh, _⟩
  · simp [Value.ownBlock]
  · simp only [Value.ownBlock]
    intro e1
    injection e1 with e1
    exact h.ne_blk (g := g) (T := e) (cs := cur) hh e1
/-- What a parser holds besides its own cells. -/
structure PaR (w0 w : World) (mb : Nat) (V : Nat → Value) (vm sv : Value) (p : PSt) : Prop where
  f : ∀ t, t < 4 → OwnI25 w0.heap.size w (V t) (p.s.f t)
  m : OwnI25 w0.heap.size w vm p.s.m
  t : OwnP w0.heap.size w sv p.st
  k : Kds w mb
  g : w0.grownBy w none
theorem PaR.ext {w0 w w' : World} {mb : Nat} {V : Nat → Value} {vm sv : Value} {p : PSt} (h : PaR w0 w mb V vm sv p) (hg : w.grownBy w' none) : PaR w0 w' mb V vm sv p :=
  ⟨fun t ht => own_kept25 (h.f t ht) hg (by simp), own_kept25 h.m hg (by simp), own_kept25 h.t hg (by simp), h.k.ext hg, ext_trans h.g hg⟩
theorem ne_some {a b : Option Nat} (h : a ≠ b) : ∀ k, a = some k → some k ≠ b := fun k hk e => h (hk.trans e)
theorem PaR.at {w0 w w' : World} {mb pb : Nat} {V : Nat → Value} {vm sv : Value} {p : PSt} {cs : Array Value} (h : PaR w0 w mb V vm sv p) (hb : Blk w pb 68 cs) (hlo : w0.heap.size ≤ pb) (hg : w.grownBy w' (some pb)) : PaR w0 w' mb V vm sv p :=
  ⟨fun t ht => own_kept25 (h.f t ht) hg (ne_some (own_ne25 (h.f t ht) hb (by decide))), own_kept25 h.m hg (ne_some (own_ne25 h.m hb (by decide))), own_kept25 h.t hg (ne_some (own_ne25 h.t hb (by decide))), h.k.kept hg (fun e => h.k.ne_blk hb (by injection e)), grown_fill h.g hg hlo⟩
/-- A parser, i lines read. -/
structure PaM (w0 w : World) (pb mb : Nat) (V : Nat → Value) (vm sv : Value) (rk : Int) (i : Nat) (p : PSt) : Prop where
  b : Blk w pb 68 (parC p.s V vm sv rk mb)
  r : PaR w0 w mb V vm sv p
  lo : w0.heap.size ≤ pb
  k : RkOk rk i p
theorem PaM.ext {w0 w w' : World} {pb mb : Nat} {V : Nat → Value} {vm sv : Value} {rk : Int} {i : Nat} {p : PSt} (h : PaM w0 w pb mb V vm sv rk i p) (hg : w.grownBy w' none) : PaM w0 w' pb mb V vm sv rk i p := ⟨h.b.ext hg, h.r.ext hg, h.lo, h.k⟩
/-- What comes tells and leaves. -/
def ComA (pb : Nat) (cs : Array Value) (rk r : Int) (w : World) (e : Ending) (w' : World) : Prop := ∃ ok, e = .returned (.bool ok) ∧ w.grownBy w' (some pb) ∧ ((ok = true ∧ comB rk r ∧ Blk w' pb 68 (cs.setIfInBounds 11 (.int .i64 r))) ∨ (ok = false ∧ ¬ comB rk r))
theorem comA_no {pb : Nat} {cs : Array Value} {rk r : Int} {w : World} (h : ¬ comB rk r) : ComA pb cs rk r w (.returned (.bool false)) w := ⟨false, rfl, ⟨rfl, rfl, rfl, Nat.le_refl _, fun _ _ _ => rfl⟩, .inr ⟨rfl, h⟩⟩
set_option maxHeartbeats 1600000 in
theorem comes_c (w : World) (pb : Nat) (cs : Array Value) (rk r : Int) (hB : Blk w pb 68 cs) (h11 : cs[11]? = some (.int .i64 rk)) : Calls Tryd.prog 42 #[.pointer (some ⟨pb, 0, none⟩), .int .i64 r] w (ComA pb cs rk r w) := by
  have c11 : w.cell? ⟨pb, 11, none⟩ = some (.int .i64 rk) := (hB.cell 11).trans h11
  have f11 : w.frozen? ⟨pb, 11, none⟩ = false := hB.free 11
  have HB := Lib.hid hB
  clear hB h11
  by_cases h0 : rk = 0
  · have b0 : (rk == 0) = true := by rw [beq_iff_eq]; exact h0
    by_cases h1 : r = 1
    · have b1 : (r != 1) = false := by rw [bne_eq_false_iff_eq]; exact h1
      have b7 : (r != 7) = true := by rw [bne_iff_ne]; omega
      have b2 : decide (r ≤ rk) = false := by rw [decide_eq_false_iff_not]; omega
      have HC := Lib.hid (show comB rk r from by unfold comB; omega)
      clear h0 h1
      go_enter Tryd.func42, Tryd.ntmps42
      go_wp2
      go_ret
      exact ⟨true, rfl, grown_set w ⟨pb, 11, none⟩ _, .inl ⟨rfl, HC.out, HB.out.set 11 _⟩⟩
    · have b1 : (r != 1) = true := by rw [bne_iff_ne]; exact h1
      have HC := Lib.hid (show ¬ comB rk r from by unfold comB; omega)
      clear h0 h1
      go_enter Tryd.func42, Tryd.ntmps42
      go_wp2
      go_ret
      exact comA_no HC.out
  · have b0 : (rk == 0) = false := by rw [beq_eq_false_iff_ne]; exact h0
    by_cases h2 : r ≤ rk
    · by_cases h7 : r = 7
      · have b7 : (r != 7) = false := by rw [bne_eq_false_iff_eq]; exact h7
        have HC := Lib.hid (show comB rk r from by unfold comB; omega)
        clear h0 h7
        go_enter Tryd.func42, Tryd.ntmps42
        go_wp2
        go_ret
        exact ⟨true, rfl, grown_set w ⟨pb, 11, none⟩ _, .inl ⟨rfl, HC.out, HB.out.set 11 _⟩⟩
      · have b7 : (r != 7) = true := by rw [bne_iff_ne]; exact h7
        have HC := Lib.hid (show ¬ comB rk r from by unfold comB; omega)
        clear h0 h7
        go_enter Tryd.func42, Tryd.ntmps42
        go_wp2
        go_ret
        exact comA_no HC.out
    · have HC := Lib.hid (show comB rk r from by unfold comB; omega)
      clear h0
      go_enter Tryd.func42, Tryd.ntmps42
      go_wp2
      go_ret
      exact ⟨true, rfl, grown_set w ⟨pb, 11, none⟩ _, .inl ⟨rfl, HC.out, HB.out.set 11 _⟩⟩
/-- What geometry tells and leaves. -/
def GeoA (pb : Nat) (cs : Array Value) (l : List UInt8) (w : World) (e : Ending) (w' : World) : Prop := ∃ ok, e = .returned (.bool ok) ∧ w.grownBy w' (some pb) ∧ ((ok = true ∧ ∃ c d b q : Int, valsOf (splitL 32 l) = some [c, d, b, q] ∧ Blk w' pb 68 (fillC cs [0, 1, 2, 3] [c, d, b, q])) ∨ (ok = false ∧ ∀ c d b q : Int, valsOf (splitL 32 l) ≠ some [c, d, b, q]))
set_option maxHeartbeats 1600000 in
theorem geometry_c (w : World) (pb : Nat) (cs : Array Value) (l : List UInt8) (hL : ∀ wx, w.grownBy wx (some pb) → Lib25 wx) (hB : Blk w pb 68 cs) (hs : cs.size = 13) (hl : l.length ≤ 1000000) : Calls Tryd.prog 43 #[.pointer (some ⟨pb, 0, none⟩), .string (bs l)] w (GeoA pb cs l w) := by
  have HL := Lib.hid hL
  have HB := Lib.hid hB
  have hn0 : ∀ wx, w.grownBy wx none → w.grownBy wx (some pb) := fun wx h => ⟨h.os, h.tape, h.output, h.size, fun k hk _ => h.block k hk (by simp)⟩
  have HN0 := Lib.hid hn0
  have SI := Lib.hid (sides_c w pb hB.lt)
  have hwl := splN_len 32 4 l
  have HWW := Lib.hid (splN_word 32 4 l)
  have HV := Lib.hid (vals_four l)
  obtain ⟨ws, hws⟩ : ∃ ws, splN 32 4 l = ws := ⟨_, rfl⟩
  rw [hws] at hwl HWW HV
  have HWS := Lib.hid hws
  have hw5 := hwl.2
  clear hL hB hn0 hwl hws
  go_enter Tryd.func43, Tryd.ntmps43
  go_upto_region 2 with (go_at_call 56; refine SI.out.mono ?_; rintro e w1 ⟨n, rfl, hbn, hnl, hg1⟩; have HP := Lib.hid hbn; have HG1 := Lib.hid hg1; have HNE := Lib.hid (show n ≠ pb from by have := HB.out.lt; omega); clear hbn hnl hg1)
  have SP := Lib.hid (show Calls Tryd.prog 38 #[.string (bs l), .string ⟨#[32]⟩, .int .i64 5] w1 fun e w' => ∃ cap, e = .returned (.slice (some ⟨w1.heap.size, 0, none⟩) ws.length cap) ∧ ws.length ≤ cap ∧ cap ≤ 100 ∧ TxR w' (some ⟨w1.heap.size, 0, none⟩) (ws.map bs) ∧ w1.grownBy w' none ∧ w1.heap.size < w'.heap.size from by
    have h1 := splitN_c l 32 ⟨#[32]⟩ rfl 5 (by omega) (by omega) w1 (HL.out w1 (HN0.out w1 HG1.out)) hl
    rw [show 5 - 1 = 4 from rfl, HWS.out] at h1
    exact h1)
  go_wp2_with (first
    | (go_at_call 40; refine (fill_c w2 n pb 68 cs [0, 1, 2, 3] ws (some ⟨w1.heap.size, 0, none⟩) cap (fun wx hx => HL.out wx (grown_trans (HN0.out w2 HE2.out) hx (fun k hk _ => hk.symm ▸ rfl))) (HP.out.ext HG2.out) (HB.out.ext HE2.out) HTX.out HNE.out (fun ad h => by injection h with h; rw [← h]; have := (HB.out.ext HG1.out).lt; show w1.heap.size ≠ pb; omega) (by rw [hs]; decide) (by decide) (fun x hx => by have := HWW.out x hx; omega) (by omega) HCP.out).mono ?_; rintro e w3 ⟨ok, rfl, hg3, hok⟩; have HOK := Lib.hid hok; have HG3 := Lib.hid hg3; clear hg3 hok)
    | (go_at_call 38; refine SP.out.mono ?_; rintro e w2 ⟨cap, rfl, hcp, hcp2, htx, hg2, hlt2⟩; have HTX := Lib.hid htx; have HG2 := Lib.hid hg2; have HE2 := Lib.hid (ext_trans HG1.out hg2); have HCP := Lib.hid hcp; clear htx hg2 hcp hlt2))
  go_ret
  refine ⟨ok, rfl, grown_trans (HN0.out w2 HE2.out) HG3.out (fun k hk _ => hk.symm ▸ rfl), ?_⟩
  rcases HOK.out with ⟨h, vs, h1, h2, h3⟩ | ⟨h, h1⟩
  · have hv4 : vs.length = 4 := by rw [mapM_len25 h1, h2]; rfl
    obtain ⟨c, d, b, q, rfl⟩ : ∃ c d b q, vs = [c, d, b, q] := by
      match vs, hv4 with
      | [c, d, b, q], _ => exact ⟨c, d, b, q, rfl⟩
    exact .inl ⟨h, c, d, b, q, (HV.out _ rfl).2 ⟨h2, h1⟩, h3⟩
  · refine .inr ⟨h, fun c d b q hv => ?_⟩
    obtain ⟨h2, h3⟩ := (HV.out _ rfl).1 hv
    rw [h1 (by rw [h2]; rfl)] at h3
    cases h3
end Go.Proofs.YtdaifepjmkmpjaaDoor

/-
  Package script: faults, step.
-/
namespace Go.Proofs.YtdaifepjmkmpjaaDoor
set_option linter.unusedVariables false
set_option linter.unusedSimpArgs false
set_option linter.unusedVariables false
set_option linter.unusedSimpArgs false
set_option maxRecDepth 100000
open Go.RowKit

/-- What faults tells and leaves. -/
def FauA (pb : Nat) (cs : Array Value) (rk : Int) (l : List UInt8) (w : World) (e : Ending) (w' : World) : Prop := ∃ ok, e = .returned (.bool ok) ∧ w.grownBy w' (some pb) ∧ ((ok = true ∧ ∃ (n : Nat) (r : List Int) (v : Value), valOf (cutL 32 l).1 = some (n : Int) ∧ valsOf (splitL 32 (cutL 32 l).2.1) = some r ∧ n < 4 ∧ comB rk (2 + n) ∧ OwnI25 w.heap.size w' v r ∧ Blk w' pb 68 ((cs.setIfInBounds 11 (.int .i64 (2 + n))).setIfInBounds (4 + n) v)) ∨ (ok = false ∧ ∀ n r, valOf (cutL 32 l).1 = some n → valsOf (splitL 32 (cutL 32 l).2.1) = some r → 0 ≤ n → n ≤ 3 → ¬ comB rk (2 + n)))
theorem some_of_none {w w' : World} {b : Nat} (h : w.grownBy w' none) : w.grownBy w' (some b) := ⟨h.os, h.tape, h.output, h.size, fun k hk _ => h.block k hk (by simp)⟩
theorem some_trans {a b c : World} {g : Nat} (h : a.grownBy b (some g)) (k : b.grownBy c (some g)) : a.grownBy c (some g) := grown_trans h k (fun k hk _ => hk.symm ▸ rfl)
theorem some_le {w : World} {v : Value} {l : List Int} {B B' : Nat} (h : OwnI25 B w v l) (hb : B' ≤ B) : OwnI25 B' w v l := ownsRow_le h hb
set_option maxHeartbeats 3200000 in
theorem faults_c (w : World) (pb : Nat) (cs : Array Value) (rk : Int) (l : List UInt8) (hL : ∀ wx, w.grownBy wx (some pb) → Lib25 wx) (hB : Blk w pb 68 cs) (hs : cs.size = 13) (h11 : cs[11]? = some (.int .i64 rk)) (hl : l.length ≤ 1000000) : Calls Tryd.prog 44 #[.pointer (some ⟨pb, 0, none⟩), .string (bs l)] w (FauA pb cs rk l w) := by
  have HL := Lib.hid hL
  have HB := Lib.hid (And.intro hB (And.intro hs h11))
  have hcl := cutL_len 32 l
  have C := fun wx h => cut_c l 32 ⟨#[32]⟩ rfl wx h hl
  obtain ⟨q1, hq1⟩ : ∃ q, (cutL 32 l).1 = q := ⟨_, rfl⟩
  obtain ⟨q2, hq2⟩ : ∃ q, (cutL 32 l).2.1 = q := ⟨_, rfl⟩
  obtain ⟨q3, hq3⟩ : ∃ q, (cutL 32 l).2.2 = q := ⟨_, rfl⟩
  rw [hq1, hq2, hq3] at C
  rw [hq1, hq2] at hcl
  have HC := Lib.hid C
  have HQ := Lib.hid (And.intro hq1 hq2)
  have hq1l : q1.length ≤ 1000000 := by omega
  have hq2l : q2.length ≤ 1000000 := by omega
  have HQL := Lib.hid (And.intro hq1l hq2l)
  clear hL hB hs h11 hcl C hq1 hq2 hq3 hq1l hq2l
  go_enter Tryd.func44, Tryd.ntmps44
  go_upto_region 2 with (go_at_call 32; refine (HC.out w (HL.out w (some_of_none (Ext.refl w)))).mono ?_; rintro e w1 ⟨rfl, hg1⟩; have HG1 := Lib.hid hg1; clear hg1)
  go_upto_region 3 with (go_at_call 54; refine (numberOf_c q1 _ (HL.out _ (some_of_none HG1.out)) HQL.out.1).mono ?_; rintro e w2 ⟨n, ok, rfl, hok, hg2⟩; have HG2 := Lib.hid (ext_trans HG1.out hg2); have HOK := Lib.hid hok; clear hg2 hok)
  cases ok
  · have HV := Lib.hid (show valOf q1 = none from by rcases HOK.out with ⟨h, _⟩ | ⟨_, h⟩; cases h; exact h)
    go_wp2
    go_ret
    exact ⟨false, rfl, some_of_none HG2.out, .inr ⟨rfl, fun n r h => by rw [HQ.out.1, HV.out] at h; cases h⟩⟩
  · have HV := Lib.hid (show valOf q1 = some n from by rcases HOK.out with ⟨_, h⟩ | ⟨h, _⟩; exact h; cases h)
    have HNO := Lib.hid (show ∀ w', w.grownBy w' (some pb) → (0 ≤ n → n ≤ 3 → ¬ comB rk (2 + n)) → FauA pb cs rk l w (.returned (.bool false)) w' from fun w' hg h => ⟨false, rfl, hg, .inr ⟨rfl, fun m r h1 _ h2 h3 => by
      rw [HQ.out.1, HV.out] at h1; injection h1 with h1; subst h1; exact h h2 h3⟩⟩)
    by_cases hn0 : n < 0
    · go_wp2
      go_ret
      exact HNO.out _ (some_of_none HG2.out) (fun h => by omega)
    by_cases hn4 : 4 ≤ n
    · go_wp2
      go_ret
      exact HNO.out _ (some_of_none HG2.out) (fun _ h => by omega)
    obtain ⟨N, rfl⟩ : ∃ N : Nat, n = (N : Int) := ⟨n.toNat, by omega⟩
    have hN4 : N < 4 := by omega
    have CM := Lib.hid (comes_c w2 pb cs rk (2 + (N : Int)) (HB.out.1.ext HG2.out) HB.out.2.2)
    clear hn0 hn4
    have hnn : ¬ (N : Int) < 0 := by omega
    have hnm : ¬ 4 ≤ (N : Int) := by omega
    go_upto_if 37 with (go_at_call 42; refine CM.out.mono ?_; rintro e w3 ⟨ok, rfl, hg3, hcm⟩; have HG3 := Lib.hid (some_trans (some_of_none HG2.out) hg3); have HCM := Lib.hid hcm; clear hg3 hcm)
    cases ok
    · have HF := Lib.hid (show ¬ comB rk (2 + N) from by rcases HCM.out with ⟨h, _⟩ | ⟨_, h⟩; cases h; exact h)
      go_wp2
      go_ret
      exact HNO.out _ HG3.out (fun _ _ => HF.out)
    · have HT := Lib.hid (show comB rk (2 + N) ∧ Blk w3 pb 68 (cs.setIfInBounds 11 (.int .i64 (2 + N))) from by rcases HCM.out with ⟨_, h⟩ | ⟨h, _⟩; exact h; cases h)
      clear hnn hnm CM HCM HOK HNO
      go_upto_region 5 with fail
      refine region_line [(0, true), (1, true), (2, true), (7, true), (8, true), (9, true), (3, false), (4, true), (5, true), (6, true), (10, true), (11, false), (12, true)] (fun _ => True) (by kernel_rfl) (by kernel_rfl) (fun _ _ _ d _ h => by cases d <;> exact h) trivial ?_
      iterate 6 (refine line_read (a' := ?_) rfl (by kernel_rfl) (by kernel_rfl) trivial (fun z hz K hK => ?_) ?_; rotate_left; · go_wp2; exact hK)

      have LSD := Lib.hid (listOf_c q2 w3.drew (HL.out _ (some_trans HG3.out (some_of_none (Ext.drew w3)))) HQL.out.2)
      refine line_act rfl fun K hK => ?_
      go_wp2_with (go_at_call 45; refine LSD.out.mono ?_; rintro e w4 ⟨v, ok, xs, rfl, hov, hok, hg4⟩; have HOV := Lib.hid hov; have HOK2 := Lib.hid hok; have HG4 := Lib.hid (ext_trans (Ext.drew w3) hg4); obtain ⟨ao, ac, rfl⟩ := owns_shape25 hov; clear hov hok hg4)
      refine hK _ _ (fun _ => True) trivial (fun _ h => h) ?_
      clear hK K
      iterate 4 (refine line_read (a' := ?_) rfl (by kernel_rfl) (by kernel_rfl) trivial (fun z hz K hK => ?_) ?_; rotate_left; · go_wp2; exact hK)
      have hb4 := HT.out.2.ext HG4.out
      have HB4 := Lib.hid hb4
      have p1 : w4.cell? ⟨pb, 4 + N, none⟩ = some ((cs.setIfInBounds 11 (.int .i64 (2 + N)))[4 + N]'(by simp; have := HB.out.2.1; omega)) := (hb4.cell (4 + N)).trans (Array.getElem?_eq_getElem _)
      have f1 : w4.frozen? ⟨pb, 4 + N, none⟩ = false := hb4.free (4 + N)
      obtain ⟨u, hu⟩ : ∃ u, (cs.setIfInBounds 11 (.int .i64 (2 + N)))[4 + N]'(by simp; have := HB.out.2.1; omega) = u := ⟨_, rfl⟩
      rw [hu] at p1
      clear hb4 hu
      refine line_act rfl fun K hK => ?_
      go_wp2
      refine hK _ _ (fun _ => True) trivial (fun _ h => h) ?_
      clear hK K
      iterate 1 (refine line_read (a' := ?_) rfl (by kernel_rfl) (by kernel_rfl) trivial (fun z hz K hK => ?_) ?_; rotate_left; · go_wp2; exact hK)
      refine line_end ?_
      go_wp2
      go_ret
      refine ⟨ok, rfl, some_trans (some_trans HG3.out (some_of_none HG4.out)) (grown_set w4 ⟨pb, 4 + N, none⟩ _), ?_⟩
      rcases HOK2.out with ⟨h1, h2⟩ | ⟨h1, h2⟩
      · refine .inl ⟨h1, N, xs, _, by rw [HQ.out.1]; exact HV.out, by rw [HQ.out.2]; exact h2, hN4, HT.out.1, ?_, HB4.out.set (4 + N) _⟩
        have ho := own_kept25 HOV.out (grown_set w4 ⟨pb, 4 + N, none⟩ (.slice ao xs.length ac)) (ne_some (own_ne25 HOV.out HB4.out (by decide)))
        exact some_le ho HG3.out.size
      · exact .inr ⟨h1, fun n r _ h => by rw [HQ.out.2, h2] at h; cases h⟩
end Go.Proofs.YtdaifepjmkmpjaaDoor

/-
  A statement that draws its order, where two operations that act may come in either order (a call, and a new block): walked as a tree.
-/
namespace Go.Proofs.YtdaifepjmkmpjaaDoor
set_option linter.unusedVariables false
set_option linter.unusedSimpArgs false
set_option linter.unusedVariables false
set_option linter.unusedSimpArgs false
set_option maxRecDepth 100000
open Go.RowKit

inductive Tree where
  | done : Tree
  | read : Nat → Tree → Tree
  | one : Nat → Tree → Tree
  | two : Nat → Nat → Tree → Tree → Tree

def Tree.len : Tree → Nat
  | .done => 0
  | .read _ t => t.len + 1
  | .one _ t => t.len + 1
  | .two _ _ t _ => t.len + 1

def treeOk (md : Region.Mode) (ops : Array Oper) : Array Bool → Tree → Bool
  | listed, .done => Region.ready md ops listed == []
  | listed, .read i t => Region.free md ops listed i && (Region.ready md ops listed).contains i && treeOk md ops (listed.setIfInBounds i true) t
  | listed, .one i t => Region.ready md ops listed == [i] && treeOk md ops (listed.setIfInBounds i true) t
  | listed, .two i j t u => Region.ready md ops listed == [i, j] && (t.len == u.len) && treeOk md ops (listed.setIfInBounds i true) t && treeOk md ops (listed.setIfInBounds j true) u

/-- The region, in these orders. -/
def wpTree (P : Program) (ops : Array Oper) (Q : Exit → Act → World → Prop) : (World → Prop) → Tree → Act → World → Prop
  | _, .done, a, w => Q .normal a w
  | S, .read i t, a, w => ∃ o v, ops[i]? = some o ∧ YieldsIf P ops S o v a ∧ wpTree P ops Q S t (a.put o.dst v) w
  | S, .one i t, a, w => wpOp P ops Q i (fun a' w' => ∃ S' : World → Prop, S' w' ∧ (∀ x, S' x → S x) ∧ wpTree P ops Q S' t a' w') a w
  | S, .two i j t u, a, w => wpOp P ops Q i (fun a' w' => ∃ S' : World → Prop, S' w' ∧ (∀ x, S' x → S x) ∧ wpTree P ops Q S' t a' w') a w ∧
      wpOp P ops Q j (fun a' w' => ∃ S' : World → Prop, S' w' ∧ (∀ x, S' x → S x) ∧ wpTree P ops Q S' u a' w') a w

theorem wpTree_any {P : Program} {ops : Array Oper} {Q : Exit → Act → World → Prop} {md : Region.Mode} (hsel : Region.noSelect ops = true)
    (hQ : ∀ c a w d v, Q (.panic c) (a.put d v) w → Q (.panic c) a w) :
    ∀ (t : Tree) (S : World → Prop) (listed : Array Bool) (a : Act) (w : World), treeOk md ops listed t = true → S w → wpTree P ops Q S t a w → wpAnyH P md ops Q S t.len listed a w
  | .done, S, listed, a, w, hl, _, h => ⟨by simpa [treeOk] using hl, h⟩
  | .read i t, S, listed, a, w, hl, hS, h => by
    obtain ⟨o, v, ho, hy, h⟩ := h
    simp only [treeOk, Bool.and_eq_true] at hl
    exact wpAnyH_take ho hsel hl.1.1 hl.1.2 (fun c a w => hQ c a w _ _) hy hS (wpTree_any hsel hQ t S _ _ w hl.2 hS h)
  | .one i t, S, listed, a, w, hl, hS, h => by
    simp only [treeOk, Bool.and_eq_true, beq_iff_eq] at hl
    refine wpAnyH_all hl.1 (by simp) ?_
    intro j hj
    simp at hj
    subst hj
    exact wpOp_mono (fun a' w' ⟨S', hS', hsub, h'⟩ => ⟨hsub _ hS', wpAnyH_weaken hsub _ _ _ _ (wpTree_any hsel hQ t S' _ _ w' hl.2 hS' h')⟩) h
  | .two i j t u, S, listed, a, w, hl, hS, h => by
    simp only [treeOk, Bool.and_eq_true, beq_iff_eq] at hl
    obtain ⟨⟨⟨h1, h2⟩, h3⟩, h4⟩ := hl
    refine wpAnyH_all h1 (by simp) ?_
    intro k hk
    simp at hk
    rcases hk with rfl | rfl
    · exact wpOp_mono (fun a' w' ⟨S', hS', hsub, h'⟩ => ⟨hsub _ hS', wpAnyH_weaken hsub _ _ _ _ (wpTree_any hsel hQ t S' _ _ w' h3 hS' h')⟩) h.1
    · exact wpOp_mono (fun a' w' ⟨S', hS', hsub, h'⟩ => ⟨hsub _ hS', wpAnyH_weaken hsub _ _ _ _ (by rw [h2]; exact wpTree_any hsel hQ u S' _ _ w' h4 hS' h')⟩) h.2

/-- The beginning. -/
theorem region_tree {P : Program} {ops : Array Oper} {Q : Exit → Act → World → Prop} {id : Nat} {a : Act} {w : World} (t : Tree) (S : World → Prop) (hm : P.follows .mixedOrders = true)
    (hc : (Region.noSelect ops && (t.len == ops.size) && treeOk .any ops (Array.replicate ops.size false) t) = true)
    (hQ : ∀ c a w d v, Q (.panic c) (a.put d v) w → Q (.panic c) a w) (hS : S w.drew)
    (h : wpTree P ops Q S t a w.drew) : (Code.region id ops true).wp P Q a w := by
  simp only [Bool.and_eq_true, beq_iff_eq] at hc
  refine wp_region_any hm (wpAny_of_held (S := S) _ _ _ _ ?_)
  rw [← hc.1.2]
  have := wpTree_any hc.1.1 hQ t S _ a w.drew hc.2 hS h
  rw [← hc.1.2] at this
  exact this

theorem tree_read {P : Program} {ops : Array Oper} {Q : Exit → Act → World → Prop} {S : World → Prop} {i : Nat} {t : Tree} {o : Oper} {a a' : Act} {w : World} (ho : ops[i]? = some o)
    (hk : (!Region.wanted o (yielded ops a.tmps) || readerOp o.op || nilGood a o.op) = true) (hd : (o.dst.any fun d => decide (d < a.tmps.size)) = true) (hS : S w)
    (h : ∀ x, S x → ∀ K : Act → World → Prop, K a' x → wpList P ops (OnlyK K) [o] a x) (hr : wpTree P ops Q S t a' w) : wpTree P ops Q S (.read i t) a w := by
  obtain ⟨v, hy, hp⟩ := reads_one hk hd hS h
  exact ⟨o, v, ho, hy, by rw [hp]; exact hr⟩

theorem tree_one {P : Program} {ops : Array Oper} {Q : Exit → Act → World → Prop} {S : World → Prop} {i : Nat} {t : Tree} {o : Oper} {a : Act} {w : World} (ho : ops[i]? = some o)
    (h : ∀ K : Act → World → Prop, (∀ a' w' (S' : World → Prop), S' w' → (∀ x, S' x → S x) → wpTree P ops Q S' t a' w' → K a' w') → wpList P ops (ElseQ K Q) [o] a w) : wpTree P ops Q S (.one i t) a w := by
  have h1 := h _ (fun a' w' S' h1 h2 h3 => (⟨S', h1, h2, h3⟩ : ∃ S' : World → Prop, S' w' ∧ (∀ x, S' x → S x) ∧ wpTree P ops Q S' t a' w'))
  show wpOp P ops Q i _ a w
  unfold wpOp
  simp only [ho]
  simp only [wpList] at h1
  split
  · rename_i hw
    rw [if_pos hw] at h1
    rcases h1 with h1 | ⟨h1, b, x, h2⟩
    · refine .inl ?_
      unfold Oper.wp at h1 ⊢
      generalize (execOp a.eval o).run P w = res at h1
      cases res with
      | ok n w1 =>
        cases n <;> first | exact h1 | exact Calls.mono h1 (fun e w2 he => by cases e <;> exact he) | exact Rows.mono h1 (fun _ _ he => he)
      | halt hh w1 => cases hh <;> exact h1
    · exact .inr ⟨h1, b, x, h2⟩
  · rename_i hw
    rw [if_neg hw] at h1
    exact h1

theorem tree_two {P : Program} {ops : Array Oper} {Q : Exit → Act → World → Prop} {S : World → Prop} {i j : Nat} {t u : Tree} {a : Act} {w : World}
    (h1 : wpTree P ops Q S (.one i t) a w) (h2 : wpTree P ops Q S (.one j u) a w) : wpTree P ops Q S (.two i j t u) a w := ⟨h1, h2⟩

theorem tree_end {P : Program} {ops : Array Oper} {Q : Exit → Act → World → Prop} {S : World → Prop} {a : Act} {w : World} (h : Q .normal a w) : wpTree P ops Q S .done a w := h

end Go.Proofs.YtdaifepjmkmpjaaDoor

/-
  Package script: step, line.
-/
namespace Go.Proofs.YtdaifepjmkmpjaaDoor
set_option linter.unusedVariables false
set_option linter.unusedSimpArgs false
set_option linter.unusedVariables false
set_option linter.unusedSimpArgs false
set_option maxRecDepth 100000
open Go.RowKit

theorem parC_rank (s : Stu) (V : Nat → Value) (vm sv : Value) (rk r : Int) (mb : Nat) : (parC s V vm sv rk mb).setIfInBounds 11 (.int .i64 r) = parC s V vm sv r mb := rfl
theorem parC_steps (s : Stu) (V : Nat → Value) (vm sv sv' : Value) (rk : Int) (mb : Nat) : (parC s V vm sv rk mb).setIfInBounds 9 sv' = parC s V vm sv' rk mb := rfl
theorem parC_marked (s : Stu) (V : Nat → Value) (vm vm' sv : Value) (rk : Int) (mb : Nat) (r : List Int) : (parC s V vm sv rk mb).setIfInBounds 8 vm' = parC { s with m := r } V vm' sv rk mb := rfl
theorem parC_fault (s : Stu) (V : Nat → Value) (vm sv v : Value) (rk : Int) (mb : Nat) (q : Nat) (h : q < 4) (r : List Int) : (parC s V vm sv rk mb).setIfInBounds (4 + q) v = parC { s with f := updF25 s.f q r } (fun t => if t = q then v else V t) vm sv rk mb := by
  obtain rfl | rfl | rfl | rfl : q = 0 ∨ q = 1 ∨ q = 2 ∨ q = 3 := by omega
  all_goals rfl
theorem parC_geo (s : Stu) (V : Nat → Value) (vm sv : Value) (rk : Int) (mb : Nat) (c d b q : Int) : fillC (parC s V vm sv rk mb) [0, 1, 2, 3] [c, d, b, q] = parC { s with c := c, d := d, b := b, p := q } V vm sv rk mb := rfl
theorem parC_size (s : Stu) (V : Nat → Value) (vm sv : Value) (rk : Int) (mb : Nat) : (parC s V vm sv rk mb).size = 13 := rfl
theorem rangeAt_far25 {w : World} {b o : Nat} {xs : List Value} (h : w.rangeAt b o xs) {a : Addr} (hne : b ≠ a.block) (v : Value) : (w.setCell a v).rangeAt b o xs := fun j u hj => by
  rw [World.cell?_of_block (w := w) (heap_setCell_other w a b v hne)]
  exact h j u hj
/-- What step tells and leaves. -/
def StpB (w0 : World) (pb mb : Nat) (V : Nat → Value) (vm : Value) (rk : Int) (p : PSt) (l : List UInt8) (e : Ending) (w' : World) : Prop := ∃ ok, e = .returned (.bool ok) ∧ w0.grownBy w' none ∧ ((ok = true ∧ ∃ x sv', stepR l = (x, true) ∧ comB rk 7 ∧ Blk w' pb 68 (parC p.s V vm sv' 7 mb) ∧ PaR w0 w' mb V vm sv' { p with st := p.st ++ [x] }) ∨ (ok = false ∧ ((stepR l).2 = true → ¬ comB rk 7)))
theorem OwnP.slv {B : Nat} {w : World} {v : Value} {l : List Stp} (h : OwnP B w v l) : ∃ ao cap, v = .slice ao l.length cap := by
  obtain ⟨a, cap, e, _⟩ := h.read
  exact ⟨a, cap, e⟩
set_option maxHeartbeats 3200000 in
theorem step_c (w0 w : World) (pb mb : Nat) (V : Nat → Value) (vm sv : Value) (rk : Int) (p : PSt) (l : List UInt8) (hL : Lib25 w0) (hB : Blk w pb 68 (parC p.s V vm sv rk mb)) (hR : PaR w0 w mb V vm sv p) (hlo : w0.heap.size ≤ pb) (hp : p.st.length < 4096) (hl : l.length ≤ 200000) :
    Calls Tryd.prog 46 #[.pointer (some ⟨pb, 0, none⟩), .string (bs l)] w (StpB w0 pb mb V vm rk p l) := by
  have HL := Lib.hid hL
  have HB := Lib.hid hB
  have HR := Lib.hid hR
  have HLO := Lib.hid hlo
  obtain ⟨y, hy⟩ : ∃ y, (stepR l).1 = y := ⟨_, rfl⟩
  obtain ⟨b, hb⟩ : ∃ b, (stepR l).2 = b := ⟨_, rfl⟩
  have HY := Lib.hid (And.intro hy hb)
  have c12 : w.cell? ⟨pb, 12, none⟩ = some (.map (some mb)) := hB.cell 12
  clear hL hB hR hlo hy hb
  go_enter Tryd.func46, Tryd.ntmps46
  go_upto_region 2 with (first
    | (go_at_call 27; refine (read_c mb l _ (HL.out.ext HR.out.g) HR.out.k hl).mono ?_; rintro e w1 ⟨rfl, hg1⟩; rw [HY.out.1, HY.out.2]; have hBn := Blk.new w1 25 (stpC noStp); have HG1 := Lib.hid hg1; clear hg1)
    | (refine stp_store (z := y) rfl _ _ rfl rfl rfl hBn rfl ?_; intro w2 hb2 hg2 hs2; have hE2 := new24 (World.grownBy_alloc w1 _ none) hg2 (Nat.le_refl _); have HS2 := Lib.hid hb2; have HG2 := Lib.hid (ext_trans HG1.out hE2); clear hBn hb2 hg2 hs2 hE2))
  clear c12
  have HNP := Lib.hid (show w1.heap.size ≠ pb from by have := HB.out.lt; have := HG1.out.size; omega)
  obtain ⟨yb, hyb⟩ : ∃ z, w1.heap.size = z := ⟨_, rfl⟩
  have HYG := Lib.hid (show w.heap.size ≤ yb from by rw [← hyb]; exact HG1.out.size)
  rw [hyb] at HS2 HNP ⊢
  clear hyb
  cases b
  · have HN := Lib.hid (show (stepR l).2 = false from HY.out.2)
    go_wp2
    go_ret
    exact ⟨false, rfl, ext_trans HR.out.g HG2.out, .inr ⟨rfl, fun h => by rw [HN.out] at h; cases h⟩⟩
  · have CM := Lib.hid (comes_c w2 pb _ rk 7 (HB.out.ext HG2.out) rfl)
    go_upto_if 22 with (go_at_call 42; refine CM.out.mono ?_; rintro e w3 ⟨ok, rfl, hg3, hcm⟩; have HG3 := Lib.hid hg3; have HCM := Lib.hid hcm; clear hg3 hcm)
    have HR3 := Lib.hid ((HR.out.ext HG2.out).at (HB.out.ext HG2.out) HLO.out HG3.out)
    cases ok
    · have HF := Lib.hid (show ¬ comB rk 7 from by rcases HCM.out with ⟨h, _⟩ | ⟨_, h⟩; cases h; exact h)
      clear HCM
      go_wp2
      go_ret
      exact ⟨false, rfl, HR3.out.g, .inr ⟨rfl, fun _ => HF.out⟩⟩
    · have HT := Lib.hid (show comB rk 7 ∧ Blk w3 pb 68 (parC p.s V vm sv 7 mb) from by rcases HCM.out with ⟨_, h⟩ | ⟨h, _⟩; exact h; cases h)
      have HS3 := Lib.hid (HS2.out.kept HG3.out (by intro e; injection e with e; exact HNP.out e))
      obtain ⟨ao, ac, rfl⟩ := OwnP.slv HR3.out.t
      have c9 : w3.cell? ⟨pb, 9, none⟩ = some (.slice ao p.st.length ac) := HT.out.2.cell 9
      clear HCM CM
      obtain ⟨m, hm⟩ : ∃ m, p.st.length = m := ⟨_, rfl⟩
      rw [hm] at c9 hp HT HR3
      have HM := Lib.hid hm
      clear hm
      go_upto_region 5 with fail
      have r3 := HS3.out.range25
      have HC9 := Lib.hid (And.intro c9 r3)
      clear c9 r3
      have hB4 := Blk.new w3.drew 25 (stpC y)
      have hE4 : w3.grownBy (w3.drew.alloc (.cells (stpC y) 25)) none := ext_trans (Ext.drew w3) (World.grownBy_alloc w3.drew _ none)
      obtain ⟨w4, hw4⟩ : ∃ z, w3.drew.alloc (.cells (stpC y) 25) = z := ⟨_, rfl⟩
      obtain ⟨nb, hnb⟩ : ∃ z, w3.drew.heap.size = z := ⟨_, rfl⟩
      rw [hw4, hnb] at hB4
      rw [hw4] at hE4
      have HW4 := Lib.hid hw4
      have HNB := Lib.hid hnb
      have HB4 := Lib.hid (show ∀ j u, (stpC y).toList[j]? = some u → w4.cell? ((⟨nb, 0, none⟩ : Addr).add j) = some u from fun j u hj => by
        have h1 := hB4.range25 j u hj
        rw [addr_add]; exact h1)
      have HR4 := Lib.hid (HR3.out.ext hE4)
      have HP4 := Lib.hid (HT.out.2.ext hE4)
      have HY4 := Lib.hid (HS3.out.ext hE4)
      have HO4 := Lib.hid HR4.out.t
      have TAIL := Lib.hid (show ∀ v' w5, OwnP w0.heap.size w5 v' (p.st ++ [y]) → w4.grownBy w5 (Value.slice ao m ac).ownBlock → Blk w5 pb 68 (parC p.s V vm (.slice ao m ac) 7 mb) ∧ PaR w0 w5 mb V vm v' { p with st := p.st ++ [y] } ∧ w5.rangeAt yb 0 (stpC y).toList from fun v' w5 ho5 hg5 => by
        have ho4 := HO4.out
        have hne : ∀ {B : Nat} {e : TypeId} {sz : Nat} {u : Value} {n : Nat} {xs : List Value}, w4.ownsRow B e sz u n xs → e ≠ 25 → ∀ k, u.ownBlock = some k → some k ≠ (Value.slice ao m ac).ownBlock := fun h he k hk e => by
          rcases own_ne2 h ho4 he with h1 | h1
          · rw [h1] at hk; cases hk
          · exact h1 (hk.trans e)
        refine ⟨HP4.out.kept hg5 (fun e => own_ne25 ho4 HP4.out (by decide) e.symm), ⟨fun t ht => own_kept25 (HR4.out.f t ht) hg5 (hne (HR4.out.f t ht) (by decide)), own_kept25 HR4.out.m hg5 (hne HR4.out.m (by decide)), ho5, HR4.out.k.kept hg5 (HR4.out.k.ne_own ho4), grown_trans HR4.out.g hg5 (fun k hk hlt => by have := (ho4.lt k hk).1; omega)⟩, ?_⟩
        refine (HY4.out.kept hg5 (fun e => ?_)).range25
        have h1 := (HR.out.t.lt yb (by rw [HM.out]; exact e.symm)).2
        have := HYG.out
        omega)
      clear hB4 hE4 hw4 hnb
      refine region_tree (.read 0 (.read 1 (.read 2 (.read 3 (.read 5 (.two 4 6 (.one 6 (.one 7 (.read 8 (.read 9 (.one 10 .done))))) (.one 4 (.one 7 (.read 8 (.read 9 (.one 10 .done))))))))))) (fun z => z.rangeAt yb 0 (stpC y).toList) (by kernel_rfl) (by kernel_rfl) (fun _ _ _ d _ h => by cases d <;> exact h) HC9.out.2 ?_
      iterate 5 (refine tree_read (a' := ?_) rfl (by kernel_rfl) (by kernel_rfl) HC9.out.2 (fun z r2 K hK => ?_) ?_; rotate_left; · (go_wp2_with (refine stp_load rfl _ rfl rfl r2 ?_); exact hK))
      refine tree_two ?_ ?_
      · skip
        refine tree_one (by rfl) (fun K hK => ?_)
        have c9 : w3.drew.cell? ⟨pb, 9, none⟩ = some (.slice ao m ac) := HC9.out.1
        go_wp2
        refine hK _ _ (fun z => z.rangeAt yb 0 (stpC y).toList) HC9.out.2 (fun _ h => h) ?_
        clear hK K c9
        refine tree_one (by rfl) (fun K hK => ?_)
        refine stp_lit rfl _ rfl rfl ?_
        rw [HW4.out, HNB.out]
        go_wp2
        refine hK _ _ (fun z => z.rangeAt yb 0 (stpC y).toList) HY4.out.range25 (fun _ h => h) ?_
        clear hK K
        refine tree_one (by rfl) (fun K hK => ?_)
        refine append_p25 rfl _ _ rfl w0.heap.size (.slice ao m ac) p.st rfl HO4.out ⟨nb, 0, none⟩ 1 y rfl HB4.out (by rw [HM.out]; omega) HR4.out.g.size ?_
        intro v' w5 ho5 hg5 _
        have H5 := Lib.hid (TAIL.out v' w5 ho5 hg5)
        obtain ⟨ao5, ac5, rfl⟩ := OwnP.slv ho5
        obtain ⟨n5, hn5⟩ : ∃ n, (p.st ++ [y]).length = n := ⟨_, rfl⟩
        rw [hn5] at H5 ⊢
        clear ho5 hg5 hn5
        go_wp2
        refine hK _ _ (fun z => z.rangeAt yb 0 (stpC y).toList) H5.out.2.2 (fun _ h => h) ?_
        clear hK K
        iterate 2 (refine tree_read (a' := ?_) rfl (by kernel_rfl) (by kernel_rfl) H5.out.2.2 (fun z r2 K hK => ?_) ?_; rotate_left; · (go_wp2; exact hK))
        refine tree_one (by rfl) (fun K hK => ?_)
        have c9 : w5.cell? ⟨pb, 9, none⟩ = some (.slice ao m ac) := H5.out.1.cell 9
        have f9 : w5.frozen? ⟨pb, 9, none⟩ = false := H5.out.1.free 9
        go_wp2
        refine hK _ _ (fun z => z.rangeAt yb 0 (stpC y).toList) (rangeAt_far25 H5.out.2.2 HNP.out _) (fun _ h => h) ?_
        clear hK K c9 f9
        refine tree_end ?_
        go_wp2
        go_ret
        have hb6 := H5.out.1.set 9 (.slice ao5 n5 ac5)
        rw [parC_steps] at hb6
        have hr6 := H5.out.2.1.at H5.out.1 HLO.out (grown_set w5 ⟨pb, 9, none⟩ (.slice ao5 n5 ac5))
        exact ⟨true, rfl, hr6.g, .inl ⟨rfl, y, _, by rw [← HY.out.1, ← HY.out.2], HT.out.1, hb6, hr6⟩⟩
      · skip
        refine tree_one (by rfl) (fun K hK => ?_)
        refine stp_lit rfl _ rfl rfl ?_
        rw [HW4.out, HNB.out]
        go_wp2
        refine hK _ _ (fun z => z.rangeAt yb 0 (stpC y).toList) HY4.out.range25 (fun _ h => h) ?_
        clear hK K
        refine tree_one (by rfl) (fun K hK => ?_)
        have c9 : w4.cell? ⟨pb, 9, none⟩ = some (.slice ao m ac) := HP4.out.cell 9
        go_wp2
        refine hK _ _ (fun z => z.rangeAt yb 0 (stpC y).toList) HY4.out.range25 (fun _ h => h) ?_
        clear hK K c9
        refine tree_one (by rfl) (fun K hK => ?_)
        refine append_p25 rfl _ _ rfl w0.heap.size (.slice ao m ac) p.st rfl HO4.out ⟨nb, 0, none⟩ 1 y rfl HB4.out (by rw [HM.out]; omega) HR4.out.g.size ?_
        intro v' w5 ho5 hg5 _
        have H5 := Lib.hid (TAIL.out v' w5 ho5 hg5)
        obtain ⟨ao5, ac5, rfl⟩ := OwnP.slv ho5
        obtain ⟨n5, hn5⟩ : ∃ n, (p.st ++ [y]).length = n := ⟨_, rfl⟩
        rw [hn5] at H5 ⊢
        clear ho5 hg5 hn5
        go_wp2
        refine hK _ _ (fun z => z.rangeAt yb 0 (stpC y).toList) H5.out.2.2 (fun _ h => h) ?_
        clear hK K
        iterate 2 (refine tree_read (a' := ?_) rfl (by kernel_rfl) (by kernel_rfl) H5.out.2.2 (fun z r2 K hK => ?_) ?_; rotate_left; · (go_wp2; exact hK))
        refine tree_one (by rfl) (fun K hK => ?_)
        have c9 : w5.cell? ⟨pb, 9, none⟩ = some (.slice ao m ac) := H5.out.1.cell 9
        have f9 : w5.frozen? ⟨pb, 9, none⟩ = false := H5.out.1.free 9
        go_wp2
        refine hK _ _ (fun z => z.rangeAt yb 0 (stpC y).toList) (rangeAt_far25 H5.out.2.2 HNP.out _) (fun _ h => h) ?_
        clear hK K c9 f9
        refine tree_end ?_
        go_wp2
        go_ret
        have hb6 := H5.out.1.set 9 (.slice ao5 n5 ac5)
        rw [parC_steps] at hb6
        have hr6 := H5.out.2.1.at H5.out.1 HLO.out (grown_set w5 ⟨pb, 9, none⟩ (.slice ao5 n5 ac5))
        exact ⟨true, rfl, hr6.g, .inl ⟨rfl, y, _, by rw [← HY.out.1, ← HY.out.2], HT.out.1, hb6, hr6⟩⟩
end Go.Proofs.YtdaifepjmkmpjaaDoor
