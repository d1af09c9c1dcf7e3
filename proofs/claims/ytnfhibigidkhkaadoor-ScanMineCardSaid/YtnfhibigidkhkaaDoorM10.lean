/-
  Texts put together: CE TL.
-/
import Derived.Test.YtnfhibigidkhkaaDoorM09
import Derived.Test.YtnfhibigidkhkaaDoorM02
import Derived.Test.YtnfhibigidkhkaaDoorTie
import Derived.ProofKit
import Derived.LaidMore
import Derived.OpenShut
import Derived.Stop.Joined
/-
  Layer 16's law: fixed; ScanMine.
-/
namespace Go.Proofs.YtnfhibigidkhkaaDoor
set_option linter.unusedVariables false
set_option linter.unusedSimpArgs false
set_option linter.unusedVariables false
set_option linter.unusedSimpArgs false
set_option maxRecDepth 100000
open Go.RowKit

def s16 : NS := blankS [] (-1) false 0 (fun _ => 0) (fun _ => 0)
def t16 : NS := progDone 5 0 ⟨1, tagB16, ⟨#[120]⟩⟩ s16 1
def F16 : Fnd := ⟨1, 0, false, 1, 2, 0, 0, 1, false, ⟨#[120]⟩⟩
theorem t16_L : t16.L = updL (fun _ _ => Pg.none 0) 5 0 ⟨1, tagB16, ⟨#[120]⟩⟩ := progDone_L _ _ _ _ _
theorem t16_calm : Calm t16 2 := progDone_calm _ _ _ _ (blank_calm _)
theorem t16_mr (i : Nat) : t16.mr i = false := by unfold t16; rw [progDone_mr]; rfl
theorem tag16_len : tagB16.length = 19 := by unfold tagB16; rw [frL_len, tagL_len]
theorem t16_cases (i j : Nat) : t16.L i j = ⟨1, tagB16, ⟨#[120]⟩⟩ ∨ t16.L i j = Pg.none 0 := by
  rw [t16_L]
  unfold updL
  by_cases hi : i = 5
  · rw [if_pos hi]
    by_cases hj : j = 0
    · exact .inl (by show (if j = 0 then _ else _) = _; rw [if_pos hj])
    · exact .inr (by show (if j = 0 then _ else _) = _; rw [if_neg hj])
  · rw [if_neg hi]
    exact .inr rfl
theorem t16_byts (i j : Nat) : Byts (t16.L i j).bs := by
  rcases t16_cases i j with h | h <;> rw [h]
  · exact frL_byts (tagL_byts 1 2 0 0 1 false)
  · intro x hx; cases hx
theorem t16_len (i j : Nat) : (t16.L i j).bs.length ≤ 140737488351232 := by
  rcases t16_cases i j with h | h <;> rw [h]
  · show tagB16.length ≤ _; rw [tag16_len]; decide
  · exact Nat.zero_le _
theorem t16_none : t16.L 3 = fun _ => Pg.none 0 := by rw [t16_L]; unfold updL; rw [if_neg (by decide)]
theorem t16_five (j : Nat) : t16.L 5 j = if j = 0 then ⟨1, tagB16, ⟨#[120]⟩⟩ else Pg.none 0 := by rw [t16_L]; unfold updL; rw [if_pos rfl]
theorem t16_next : nextN (t16.L 5) 4 = 1 := by
  have h0 : (t16.L 5 0).st = 1 := by rw [t16_five]; rfl
  have h1 : ∀ j, j ≠ 0 → (t16.L 5 j).st = 0 := fun j hj => by rw [t16_five, if_neg hj]; rfl
  unfold nextN
  rw [if_pos (h1 3 (by decide))]
  unfold nextN
  rw [if_pos (h1 2 (by decide))]
  unfold nextN
  rw [if_pos (h1 1 (by decide))]
  unfold nextN
  rw [if_neg (by rw [h0]; decide)]

section
variable {S : NShape} (h10 : S.all = 10) (h4 : S.pg = 4)
set_option linter.unusedSectionVars false
include h10 h4
theorem read16_five : readE S t16 5 0 = 0 := by
  have e0 : lackE S 5 0 = 0 := by unfold lackE hasB; rw [h10, h4, if_pos (by decide), if_pos (by decide)]
  unfold readE
  rw [if_pos e0, t16_calm.off]
  show (if (t16.L 5 0).st = 0 then (6 : Int) else if (t16.L 5 0).st = 2 then 11 else 0) = 0
  rw [t16_five, if_pos rfl]
  decide
theorem read16_three : readE S t16 3 0 = 6 := by
  have e0 : lackE S 3 0 = 0 := by unfold lackE hasB; rw [h10, h4, if_pos (by decide), if_pos (by decide)]
  unfold readE
  rw [if_pos e0, t16_calm.off]
  show (if (t16.L 3 0).st = 0 then (6 : Int) else if (t16.L 3 0).st = 2 then 11 else 0) = 6
  rw [t16_none]
  rfl
theorem find16_five : findF S t16 5 0 1 = F16 ∧ findE S t16 5 0 = 0 := by
  unfold findF findE
  rw [read16_five h10 h4]
  refine ⟨?_, by decide⟩
  rw [if_neg (by decide), if_pos rfl]
  show fndOf 1 0 (t16.L 5 0).bs (t16.L 5 0).dt = F16
  rw [t16_five, if_pos rfl]
  obtain ⟨q0, q1, q2, q3, q4, q5, q6⟩ := ps_back (a := 1) (b := 2) (c := 0) (d := 0) (k := 1) (p := false) (by decide)
  unfold fndOf tagB16
  rw [if_pos q0, q1, q2, q3, q4, q5, q6]
  rfl
theorem find16_three : findF S t16 3 0 0 = noF ∧ findE S t16 3 0 = 6 := by
  unfold findF findE
  rw [read16_three h10 h4]
  exact ⟨by rw [if_neg (by decide), if_neg (by decide)], by decide⟩
theorem pages16_two : pagesR S t16 [3, 5] = ([F16], 0) := by
  have e1 : blksN S t16 [3, 5] 1 = ([], 0) := by
    unfold blksN blksN
    simp only [List.getD_cons_zero, t16_mr, h4]
    rw [show (3 : Int).toNat = 3 from rfl, t16_none, nextN_blank]
    rfl
  obtain ⟨f1, f2⟩ := find16_five h10 h4
  have e2 : pgsN S t16 5 1 1 = ([F16], 0) := by
    unfold pgsN pgsN
    rw [if_pos rfl]
    show (if findE S t16 5 0 = 0 then ([] ++ [findF S t16 5 0 1], 0) else ([], findE S t16 5 0)) = ([F16], (0 : Int))
    rw [f1, f2, if_pos rfl]
    rfl
  unfold pagesR
  rw [if_neg (by rw [h10]; decide)]
  show blksN S t16 [3, 5] 2 = _
  rw [blksN, e1, if_pos rfl, show ([3, 5] : List Int).getD 1 0 = 5 from rfl, show (5 : Int).toNat = 5 from rfl, t16_mr, h4, t16_next, e2]
  rfl
theorem pages16_ten : pagesR S t16 [10] = ([], 5) := by
  unfold pagesR
  rw [if_pos (by rw [h10]; decide)]
end

theorem ints_lit16 {x : World} {g : Nat} {T : TypeId} (zs : List Int) (h : Blk x g T (zs.map (Value.int .i64)).toArray) : Ints x (.slice (some ⟨g, 0, none⟩) zs.length zs.length) zs := by
  refine .inr (.inl ⟨g, 0, _, rfl, Nat.le_refl _, fun i hi => ?_⟩)
  rw [Nat.zero_add, h.cell i]
  simp [hi, List.getD_eq_getElem?_getD]
theorem rangeAt_ext {w w' : World} {b off : Nat} {cs : List Value} (h : w.rangeAt b off cs) (hE : w.grownBy w' none) : w'.rangeAt b off cs := fun j v hv => hE.cell (h j v hv) (by simp)
theorem flds_keeps {w w' : World} {T : Nat → Nat} (h : Flds w) (hk : Keeps T w w') (h0 : T 0 = 0) : Flds w' := fun j hj => by
  have e := World.cell?_of_block (a := ⟨0, j * 3, none⟩) (hk.block 0 h.lt h0)
  have e1 := World.cell?_of_block (a := ⟨0, j * 3 + 1, none⟩) (hk.block 0 h.lt h0)
  have e2 := World.cell?_of_block (a := ⟨0, j * 3 + 2, none⟩) (hk.block 0 h.lt h0)
  obtain ⟨a, b, c⟩ := h j hj
  exact ⟨e.trans a, e1.trans b, e2.trans c⟩

set_option maxHeartbeats 3200000 in
theorem fixed16_any (w : World) (hF : Flds w) : Calls Tryd.prog 4 #[] w fun e w' => e = .returned (.bool true) ∧ w.grownBy w' none := by
  have PR := fun (S : NShape) (V : Nat → Value) (x : World) (v : Value) (hR : Roles S) (h10 : S.all = 10) (h4 : S.pg = 4) (hN : NandAt x S V noZs s16) (hv : BtsA x v tagB16) (hq : ∀ k, v.ownBlock = some k → S.T k = 0) =>
    (show Calls Tryd.prog 7 #[.pointer (some ⟨S.nb, 0, none⟩), .int .i64 1, .int .i64 5, .int .i64 0, v, .string ⟨#[120]⟩] x (Goes S V noZs (.int .i64 0) t16 x) from prog_good (who := 1) (i := 5) (j := 0) (bs := tagB16) (dt := ⟨#[120]⟩) hN hR (blank_calm _) (by decide) (by omega) (by omega) rfl (by show 0 = nextN (fun _ => Pg.none 0) S.pg; rw [nextN_blank]) hv (fun _ => hq) (by rw [tag16_len]; decide) (by decide))
  have P2 := fun (S : NShape) (V : Nat → Value) (x : World) (g : Nat) (hR : Roles S) (h10 : S.all = 10) (h4 : S.pg = 4) (hN : NandAt x S V noZs t16) (hF : Flds x) (hb : Blk x g 3 #[.int .i64 3, .int .i64 5]) => (show Calls Tryd.prog 9 #[.pointer (some ⟨S.nb, 0, none⟩), .slice (some ⟨g, 0, none⟩) 2 2] x (PagesP x [F16] 0) from by
    have h := pages16_any hN hR hF t16_byts t16_len _ [3, 5] (ints_lit16 [3, 5] hb) (fun k hk => by simp [Value.ownBlock] at hk; subst hk; exact hb.lt) (by decide)
    rw [pages16_two h10 h4] at h
    exact h)
  have P1 := fun (S : NShape) (V : Nat → Value) (x : World) (g : Nat) (hR : Roles S) (h10 : S.all = 10) (h4 : S.pg = 4) (hN : NandAt x S V noZs t16) (hF : Flds x) (hb : Blk x g 3 #[.int .i64 10]) => (show Calls Tryd.prog 9 #[.pointer (some ⟨S.nb, 0, none⟩), .slice (some ⟨g, 0, none⟩) 1 1] x (PagesP x [] 5) from by
    have h := pages16_any hN hR hF t16_byts t16_len _ [10] (ints_lit16 [10] hb) (fun k hk => by simp [Value.ownBlock] at hk; subst hk; exact hb.lt) (by decide)
    rw [pages16_ten h10 h4] at h
    exact h)
  have P0 := fun (S : NShape) (V : Nat → Value) (x : World) (g : Nat) (hR : Roles S) (h10 : S.all = 10) (h4 : S.pg = 4) (hN : NandAt x S V noZs t16) (hF : Flds x) (hb : Blk x g 3 #[.int .i64 3]) => (show Calls Tryd.prog 10 #[.pointer (some ⟨S.nb, 0, none⟩), .slice (some ⟨g, 0, none⟩) 1 1, .int .i64 0, .int .i64 0] x (FoundP x noF 6) from by
    have h := one16_any hN hR hF t16_byts t16_len _ [3] (ints_lit16 [3] hb) (by decide) 0 0
    rw [if_pos (by decide)] at h
    have e : ([3] : List Int).getD (0 : Int).toNat 0 = 3 := rfl
    rw [e, (find16_three h10 h4).1, (find16_three h10 h4).2] at h
    exact h)
  have M1 := fun x => mine16_any F16 1 2 x
  have M2 := fun x => mine16_any F16 1 3 x
  rw [show mineF 1 2 F16 = true by decide] at M1
  rw [show mineF 1 3 F16 = false by decide] at M2
  have BS := beside16_is
  have hs0 : s16 = blankS [] (-1) false 0 (fun _ => 0) (fun _ => 0) := rfl
  have AR := array16_any w
  unfold Arr16 at AR
  rw [← hs0] at AR
  clear hs0
  have hf16 : fndC F16 = #[.int .i64 1, .int .i64 0, .bool false, .int .i64 1, .int .i64 2, .int .i64 0, .int .i64 0, .int .i64 1, .bool false, .string ⟨#[120]⟩] := rfl
  generalize t16 = t at *
  generalize s16 = s at *
  generalize tagB16 = tb at *
  go_enter Tryd.func4, Tryd.ntmps4
  go_upto_region 2 with (go_at_call 6; refine AR.mono ?_; rintro e w1 ⟨S, V, hR, ⟨q1, q2, q3, q4, q5, q6⟩, rfl, hN, hE1, hT⟩)
  have hz : S.T 0 = 0 := Classical.byContradiction fun h => by have h1 := hT 0 h; have h2 := hF.lt; omega
  have HT := Lib.hid (And.intro hT hz)
  have HN1 := Lib.hid hN
  have HE1 := Lib.hid hE1
  have HF1 := Lib.hid (hF.ext hE1)
  have hBw := Blk.new w1 36 #[.int .i64 0, .int .i64 0, .int .i64 0, .int .i64 0, .int .i64 0, .int .i64 0, .int .i64 0, .bool false, .slice none 0 0, .string ⟨#[]⟩, .bool false, .bool false]
  have HQ := Lib.hid (And.intro q5 q6)
  clear hN hE1 hF hT hz q1 q2 q3 q4 q5 q6
  go_wp2_with (first
    | (refine wr_store _ _ rfl rfl rfl hBw rfl rfl ?_; intro w2 hb2 hg2 hs2; have hE2 := g17_new (World.grownBy_alloc w1 _ none) hg2 (Nat.le_refl _); have HN2 := Lib.hid (HN1.out.ext hE2 hR); have HE2 := Lib.hid (ext_trans HE1.out hE2); have HF2 := Lib.hid (HF1.out.ext hE2); clear hg2 hs2 hE2 hBw)
    | (refine wr_read rfl _ rfl rfl hb2 ?_)
    | (go_at_call 8; refine (BS _).mono ?_; rintro e w3 ⟨v3, rfl, hown3, hg3⟩; have HN3 := Lib.hid (HN2.out.ext hg3 hR); have HE3 := Lib.hid (ext_trans HE2.out hg3); have HF3 := Lib.hid (HF2.out.ext hg3); have HO3 := Lib.hid hown3; clear hown3 hg3)
    | (go_at_call 7; refine (PR S V w3 v3 hR HQ.out.1 HQ.out.2 HN3.out (Owns.bts rfl HO3.out).wide (fun k hk => HN2.out.fresh (HO3.out.lt k hk).1)).mono ?_; rintro e w4 ⟨rfl, hN4, hk4⟩; have HN4 := Lib.hid hN4; have HE4 := Lib.hid (Keeps.grown HE3.out hk4 HT.out.1); have HF4 := Lib.hid (flds_keeps HF3.out hk4 HT.out.2); clear hN4 hk4)
    | (go_at_call 9; refine (P1 S V _ w5.heap.size hR HQ.out.1 HQ.out.2 (HN5.out.ext (World.grownBy_alloc w5 _ none) hR) (HF5.out.ext (World.grownBy_alloc w5 _ none)) (Blk.new w5 _ _)).mono ?_; rintro e w6 ⟨v6, rfl, hown6, hg6⟩; have hE6 := ext_trans (World.grownBy_alloc w5 _ none) hg6; have HN6 := Lib.hid (HN5.out.ext hE6 hR); have HE6 := Lib.hid (ext_trans HE5.out hE6); have HF6 := Lib.hid (HF5.out.ext hE6); have HR6 := Lib.hid (rangeAt_ext HR5.out hE6); clear hown6 hg6 hE6)
    | (go_at_call 9; refine (P2 S V _ w4.heap.size hR HQ.out.1 HQ.out.2 (HN4.out.ext (World.grownBy_alloc w4 _ none) hR) (HF4.out.ext (World.grownBy_alloc w4 _ none)) (Blk.new w4 _ _)).mono ?_; rintro e w5 ⟨v5, rfl, hown5, hg5⟩; have hE5 := ext_trans (World.grownBy_alloc w4 _ none) hg5; have HN5 := Lib.hid (HN4.out.ext hE5 hR); have HE5 := Lib.hid (ext_trans HE4.out hE5); have HF5 := Lib.hid (HF4.out.ext hE5); obtain ⟨a5, cp5, hv5, hr5⟩ := RowF.owns hown5; have hv5' : v5 = .slice a5 1 cp5 := hv5; subst hv5'; obtain ⟨b5, o5, rfl, hr⟩ := hr5 0 (by decide); have HR5 := Lib.hid (show w5.rangeAt b5 o5 (fndC F16).toList from hr); clear hown5 hg5 hE5 hv5 hr5 hr)
    | (go_at_call 10; refine (P0 S V _ w6.heap.size hR HQ.out.1 HQ.out.2 (HN6.out.ext (World.grownBy_alloc w6 _ none) hR) (HF6.out.ext (World.grownBy_alloc w6 _ none)) (Blk.new w6 _ _)).mono ?_; rintro e w7 ⟨rfl, hg7⟩; have hE7 := ext_trans (World.grownBy_alloc w6 _ none) hg7; have HE7 := Lib.hid (ext_trans HE6.out hE7); have HR7 := Lib.hid (rangeAt_ext HR6.out hE7); have hB8 := Blk.new w7 25 (fndC noF); clear hg7 hE7)
    | (refine fnd_store (f := noF) _ _ rfl rfl rfl hB8 rfl rfl ?_; intro w8 hb8 hg8 hs8; have hE8 := g17_new (World.grownBy_alloc w7 _ none) hg8 (Nat.le_refl _); have HE8 := Lib.hid (ext_trans HE7.out hE8); have HR8 := Lib.hid (rangeAt_ext HR7.out hE8); have c0 : w8.cell? ⟨b5, o5, none⟩ = some (.int .i64 1) := HR8.out 0 _ rfl; have c9 : w8.cell? ⟨b5, o5 + 9, none⟩ = some (.string ⟨#[120]⟩) := HR8.out 9 _ rfl; have hr8 := HR8.out; clear hb8 hg8 hs8 hE8)
    | (refine fnd_load rfl _ rfl rfl hr9 ?_)
    | (have _q := c9; refine fnd_load rfl _ rfl rfl hr8 ?_)
    | (have _q := HE9.out; go_at_call 5; refine (M2 _).mono ?_; rintro e w10 ⟨rfl, hg10⟩; have HE10 := Lib.hid (ext_trans HE9.out hg10))
    | (go_at_call 5; refine (M1 _).mono ?_; rintro e w9 ⟨rfl, hg9⟩; have HE9 := Lib.hid (ext_trans HE8.out hg9); have hr9 := rangeAt_ext hr8 hg9; clear hr8 c0 c9 hg9))
  go_ret
  exact ⟨rfl, HE10.out⟩

set_option maxHeartbeats 1600000 in
theorem scanMine16_any (f : Fnd) (tn ep : Int) (w : World) (hF : Flds w) : Calls Tryd.prog 3 #[.agg (fndC f), .int .i64 tn, .int .i64 ep] w fun e w' => e = .returned (.bool true) ∧ w.grownBy w' none := by
  have hE1 := World.grownBy_alloc w (.cells (fndC f) 25) none
  have FX := fixed16_any (w.alloc (.cells (fndC f) 25)) (hF.ext hE1)
  have M := fun x => mine16_any f tn ep x
  obtain ⟨m, hm⟩ : ∃ m, mineF tn ep f = m := ⟨_, rfl⟩
  rw [hm] at M
  unfold mineF at hm
  have hb1 := Blk.new w 25 (fndC f)
  have HB := Lib.hid (And.intro hb1 hE1)
  clear hb1 hE1 hF
  obtain ⟨tr, ht⟩ : ∃ z, f.torn = z := ⟨_, rfl⟩
  obtain ⟨b1, hb1⟩ : ∃ z, (f.te == tn) = z := ⟨_, rfl⟩
  obtain ⟨b2, hb2⟩ : ∃ z, (f.ep == ep) = z := ⟨_, rfl⟩
  rw [ht, hb1, hb2] at hm
  subst hm
  obtain ⟨x1, h1⟩ : ∃ z, f.te = z := ⟨_, rfl⟩
  obtain ⟨x2, h2⟩ : ∃ z, f.ep = z := ⟨_, rfl⟩
  rw [h1] at hb1
  rw [h2] at hb2
  have HV := Lib.hid (And.intro ht (And.intro h1 h2))
  clear ht h1 h2
  go_enter Tryd.func3, Tryd.ntmps3
  go_upto_region 3 with (go_at_call 4; refine FX.mono ?_; rintro e w1 ⟨rfl, hg1⟩)
  have hB1 := HB.out.1.ext hg1
  have HE1 := Lib.hid (ext_trans HB.out.2 hg1)
  have hS : Blk w1.drew w.heap.size 25 (fndC f) ∧ w.grownBy w1.drew none := ⟨hB1.drew, grown_drew HE1.out⟩
  clear FX hg1 hB1
  refine region_line [(0, true), (1, true), (2, true), (4, true), (5, true), (6, true), (3, false), (7, true), (8, true), (9, true), (10, true), (11, true), (12, true), (13, true), (14, true), (15, true), (16, true), (17, true), (18, true), (19, true), (20, true), (21, true), (22, true)] (fun x => Blk x w.heap.size 25 (fndC f) ∧ w.grownBy x none) (by kernel_rfl) (by kernel_rfl) (fun _ _ _ d _ h => by cases d <;> exact h) hS ?_
  repeat (refine line_read (a' := ?_) rfl (by kernel_rfl) (by kernel_rfl) hS (fun x hx K hK => ?_) ?_; rotate_left; · obtain ⟨hx0, hx1⟩ := hx; have c2 := (FCells.of hx0).torn; have c3 := (FCells.of hx0).te; have c4 := (FCells.of hx0).ep; rw [HV.out.1] at c2; rw [HV.out.2.1] at c3; rw [HV.out.2.2] at c4; go_wp2_with (refine fnd_load rfl _ rfl rfl hx0.range17 ?_); exact hK)
  refine line_act (by rfl) (fun K hK => ?_)
  go_wp2_with (go_at_call 5; refine (M _).mono ?_; rintro e w2 ⟨rfl, hg2⟩)
  replace hS := And.intro (hS.1.ext hg2) (ext_trans hS.2 hg2)
  refine hK _ _ _ hS (fun x hx => hx) ?_
  clear hK K
  cases tr <;> cases b1 <;> cases b2
  all_goals
    repeat (refine line_read (a' := ?_) rfl (by kernel_rfl) (by kernel_rfl) hS (fun x hx K hK => ?_) ?_; rotate_left; · obtain ⟨hx0, hx1⟩ := hx; have c2 := (FCells.of hx0).torn; have c3 := (FCells.of hx0).te; have c4 := (FCells.of hx0).ep; rw [HV.out.1] at c2; rw [HV.out.2.1] at c3; rw [HV.out.2.2] at c4; go_wp2_with (refine fnd_load rfl _ rfl rfl hx0.range17 ?_); exact hK)
    refine line_end ?_
    go_wp2
    go_ret
    exact ⟨rfl, hS.2⟩

end Go.Proofs.YtnfhibigidkhkaaDoor

/-
  Where start-up lays package tag's table of fields: what the rows' condition gives the walks.
-/
namespace Go.Proofs.YtnfhibigidkhkaaDoor
set_option linter.unusedVariables false
set_option linter.unusedSimpArgs false
set_option linter.unusedVariables false
set_option linter.unusedSimpArgs false
set_option maxRecDepth 100000
open Go.ChangeShapes Go.WideShapes Go.ChangeAt Go.WideMaps Go.WideElems Go.RowKit

def laidTag : List (String × DataW Unit) := [("almshouse/tag.fields", Rows.laid_almshouse_tag_fields)]
theorem gFields : Tryd.prog.globalNamed "almshouse/tag.fields" = some 0 := by kernel_rfl
theorem tFields : (Tryd.prog.globals[0]?).map (·.type) = some 111 := by kernel_rfl

/-- The door's own heap meets the condition: three closed facts. -/
theorem door_met (os : Os) (args : Array Value) : laidMetH Tryd.prog laidTag ((World.doorLaid Tryd.prog 19 os).forCall (fun _ _ => 0) ⟨#[], args, []⟩).memory :=
  laidMetH_of_parts3 (fuel := 8) (laidMet_of_run' 8 (by kernel_rfl) (by kernel_rfl)) (by kernel_rfl) (by kernel_rfl)

theorem one_of {H : Type} {enc : TypeId × Value → H} {W : World} {base : Nat} {sp : Nat → Bool} {held : Bool} {fuel : Nat} {cs : List Value} {x : DataW H × List MemPlace} {a b c : Int}
    (h : DataW.trod enc Tryd.prog W base sp held fuel 110 cs = some x) (hx : x.1 = .agg [.lit (.int .i64 a), .lit (.int .i64 b), .lit (.int .i64 c)]) :
    cs.take 1 = [.int .i64 a] ∧ (cs.drop 1).take 1 = [.int .i64 b] ∧ (cs.drop 2).take 1 = [.int .i64 c] := by
  obtain ⟨ys, n, _, rfl, hlen, hn, hel⟩ := DataW.trod_struct Tryd.underlying110 h
  have c3 : Tryd.prog.cellsOf 3 = 1 := by kernel_rfl
  have h0 : DataW.trod enc Tryd.prog W base sp held n 3 ((cs.drop 0).take (Tryd.prog.cellsOf 3)) = ys[0]? := hel 0 _ rfl
  have h1 : DataW.trod enc Tryd.prog W base sp held n 3 ((cs.drop 1).take (Tryd.prog.cellsOf 3)) = ys[1]? := hel 1 _ rfl
  have h2 : DataW.trod enc Tryd.prog W base sp held n 3 ((cs.drop 2).take (Tryd.prog.cellsOf 3)) = ys[2]? := hel 2 _ rfl
  rw [c3] at h0 h1 h2
  match ys, hn, hx, h0, h1, h2 with
  | [y0, y1, y2], _, hx, h0, h1, h2 =>
    obtain ⟨k0, e0, f0, _⟩ := DataW.trod_int Tryd.underlying3 (show DataW.trod _ Tryd.prog W base sp held n 3 _ = some y0 from h0)
    obtain ⟨k1, e1, f1, _⟩ := DataW.trod_int Tryd.underlying3 (show DataW.trod _ Tryd.prog W base sp held n 3 _ = some y1 from h1)
    obtain ⟨k2, e2, f2, _⟩ := DataW.trod_int Tryd.underlying3 (show DataW.trod _ Tryd.prog W base sp held n 3 _ = some y2 from h2)
    simp only [List.map_cons, List.map_nil, DataW.agg.injEq, List.cons.injEq, f0, f1, f2, DataW.lit.injEq, Lit.int.injEq, true_and, and_true] at hx
    obtain ⟨rfl, rfl, rfl⟩ := hx
    exact ⟨by simpa using e0, e1, e2⟩

theorem cell_at {l : List Value} {i : Nat} {u : Value} (h : (l.drop i).take 1 = [u]) : l[i]? = some u := by
  have : ((l.drop i).take 1)[0]? = some u := by rw [h]; rfl
  simpa using this

/-- WHAT THE CONDITION GIVES THE WALKS. -/
theorem flds_of {W : World} (h : laidMetH Tryd.prog laidTag W) : Flds W := by
  rw [MakeChecks.laidMetH_plain _ _ _ (by kernel_rfl)] at h
  obtain ⟨ps, ⟨g0, t0, cs0, f0, p0, q0, hg0, ht0, hv0, hd0, _, _⟩, _, _⟩ := h
  obtain rfl := Option.some.inj (gFields.symm.trans hg0)
  obtain rfl := Option.some.inj (tFields.symm.trans ht0)
  have c40 : Tryd.prog.cellsOf 110 = 3 := by kernel_rfl
  obtain ⟨xs, m1, rfl, hx1, hlen, hn, hel⟩ := DataW.trod_array Tryd.underlying111 hd0
  simp only [c40] at hel
  have hcell : ∀ i u, cs0.toList[i]? = some u → W.cell? ⟨0, i, none⟩ = some u := fun i u hu => by
    rw [World.var?_cell hg0 hv0 i]
    simpa using hu
  simp only [Prod.mk.injEq, Rows.laid_almshouse_tag_fields, DataW.agg.injEq] at hx1
  match xs, hn, hx1, hel with
  | [x0, x1, x2, x3, x4], _, hx1, hel =>
    simp only [List.map_cons, List.map_nil, List.cons.injEq, and_true] at hx1
    obtain ⟨⟨e0, e1, e2, e3, e4⟩, _⟩ := hx1
    have get : ∀ (i : Nat) (a b c : Int), (((cs0.toList.drop (i * 3)).take 3).take 1 = [.int .i64 a] ∧ (((cs0.toList.drop (i * 3)).take 3).drop 1).take 1 = [.int .i64 b] ∧ (((cs0.toList.drop (i * 3)).take 3).drop 2).take 1 = [.int .i64 c]) →
        W.cell? ⟨0, i * 3, none⟩ = some (.int .i64 a) ∧ W.cell? ⟨0, i * 3 + 1, none⟩ = some (.int .i64 b) ∧ W.cell? ⟨0, i * 3 + 2, none⟩ = some (.int .i64 c) := fun i a b c ⟨h0, h1, h2⟩ => by
      refine ⟨hcell _ _ (cell_at ?_), hcell _ _ (cell_at ?_), hcell _ _ (cell_at ?_)⟩
      · simpa [List.take_take] using h0
      · rw [← List.drop_drop]; simpa [List.drop_take, List.take_take] using h1
      · rw [← List.drop_drop]; simpa [List.drop_take, List.take_take] using h2
    intro j hj
    have : j = 0 ∨ j = 1 ∨ j = 2 ∨ j = 3 ∨ j = 4 := by omega
    rcases this with rfl | rfl | rfl | rfl | rfl
    · exact get 0 1 0 3 (one_of (show DataW.trod _ Tryd.prog W 0 _ _ m1 110 _ = some x0 from hel 0 (by decide)) e0.symm)
    · exact get 1 4 0 2147483647 (one_of (show DataW.trod _ Tryd.prog W 0 _ _ m1 110 _ = some x1 from hel 1 (by decide)) e1.symm)
    · exact get 2 1 0 63 (one_of (show DataW.trod _ Tryd.prog W 0 _ _ m1 110 _ = some x2 from hel 2 (by decide)) e2.symm)
    · exact get 3 4 0 2147483647 (one_of (show DataW.trod _ Tryd.prog W 0 _ _ m1 110 _ = some x3 from hel 3 (by decide)) e3.symm)
    · exact get 4 1 1 2 (one_of (show DataW.trod _ Tryd.prog W 0 _ _ m1 110 _ = some x4 from hel 4 (by decide)) e4.symm)

end Go.Proofs.YtnfhibigidkhkaaDoor
