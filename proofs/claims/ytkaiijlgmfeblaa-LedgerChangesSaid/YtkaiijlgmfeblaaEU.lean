/-
  The law LedgerChanges.
-/
import Derived.Test.YtkaiijlgmfeblaaET
namespace Go.Proofs.Ytkaiijlgmfeblaa
open Go.RowKit

def LenL (L : Led) : Prop := ∀ j, j < 4 → (L.t j).bs.length ≤ 9223372036854775807
theorem lenL_no : LenL noLed := fun j _ => by simp [noLed, noTen]
theorem lenL_upd {L : Led} {k : Nat} {x : Ten} (h : LenL L) (hx : x.bs.length ≤ 9223372036854775807) : LenL (updT L k x) := fun j hj => by
  unfold updT
  simp only []
  split
  · exact hx
  · exact h j hj
theorem lenL_changed {L L2 : Led} (h : LenL L2) : LenL (changedS L L2).1 := by
  unfold changedS; split
  · exact lenL_no
  · exact h
theorem create_len {L : Led} {t s r : Int} {xs : List Int} (h : LenL L) (hx : xs.length ≤ 9223372036854775807) : LenL (createS L t s r xs).1 := by
  unfold createS
  split
  · split
    · exact lenL_no
    · split
      · split
        · exact lenL_no
        · exact lenL_changed (lenL_upd h hx)
      · exact lenL_no
  · exact lenL_no
theorem destroy_len {L : Led} {t : Int} (h : LenL L) : LenL (destroyS L t).1 := by
  unfold destroyS
  split
  · exact lenL_changed (lenL_upd h (by simp [noTen]))
  · exact lenL_no
theorem resize_len {L : Led} {t s : Int} {xs : List Int} (h : ∀ j, j < 4 → (L.t j).bs.length ≤ 1048576) (hx : xs.length ≤ 1048576) : LenL (resizeS L t s xs).1 := by
  unfold resizeS
  split
  · rename_i ht
    split
    · obtain ⟨k, rfl, hk, _⟩ := missT_ok ht
      refine lenL_changed (lenL_upd (fun j hj => by have := h j hj; show (L.t j).bs.length ≤ _; omega) ?_)
      have := h k hk
      simp only [Int.toNat_natCast, List.length_append]
      show (L.t k).bs.length + _ ≤ _
      omega
    · exact lenL_no
  · exact lenL_no
theorem swap_len {L : Led} {a i b j : Int} (h : LenL L) : LenL (swapS L a i b j).1 := by
  unfold swapS
  split
  · rename_i hA
    obtain ⟨ka, rfl, hka, _⟩ := missT_ok hA
    split
    · rename_i hB
      obtain ⟨kb, rfl, hkb, _⟩ := missT_ok hB
      split
      · exact lenL_no
      · split
        · simp only [Int.toNat_natCast]
          exact lenL_changed (lenL_upd (lenL_upd h (by rw [List.length_set]; exact h ka hka)) (by rw [List.length_set]; exact h kb hkb))
        · exact lenL_no
    · exact lenL_no
  · exact lenL_no

/-- What stands while the changes are tried. -/
structure Chg (w0 : World) (n W : Nat) (L : Led) (V VW : Nat → Value) (got : Value) (xs : List Int) (wr : World) : Prop where
  lb : Blk wr n 27 (ledC L V)
  wb : Blk wr W 27 (ledC L VW)
  iv : LedIs wr L V
  iw : LedIs wr L VW
  ig : Ints wr got xs
  n0 : w0.heap.size ≤ n
  nW : n < W
  lowV : ∀ j, j < 4 → ∀ p, (V j).ownBlock = some p → p < n
  lowW : ∀ j, j < 4 → ∀ p, (VW j).ownBlock = some p → p < W
  lowG : ∀ p, got.ownBlock = some p → p < n
  ext : Ext w0 wr
theorem Chg.next {w0 wr wr' : World} {n W : Nat} {L : Led} {V VW : Nat → Value} {got : Value} {xs : List Int} (h : Chg w0 n W L V VW got xs wr) (hE : Ext wr wr') : Chg w0 n W L V VW got xs wr' :=
  ⟨h.lb.ext hE, h.wb.ext hE, h.iv.ext hE, h.iw.ext hE, h.ig.kept hE (by simp), h.n0, h.nW, h.lowV, h.lowW, h.lowG, ext_trans h.ext hE⟩
theorem Chg.store {w0 wr wr' : World} {n W A : Nat} {L : Led} {V VW : Nat → Value} {got : Value} {xs : List Int} (h : Chg w0 n W L V VW got xs wr) (hg : wr.grownBy wr' (some A)) (hA : W < A) : Chg w0 n W L V VW got xs wr' := by
  have hn := h.nW
  have h0 := h.n0
  exact ⟨h.lb.kept hg (fun e => by injection e with e; omega), h.wb.kept hg (fun e => by injection e with e; omega), h.iv.kept hg (fun j hj p hp e => by have := h.lowV j hj p hp; injection e with e; omega),
    h.iw.kept hg (fun j hj p hp e => by have := h.lowW j hj p hp; injection e with e; omega), h.ig.kept hg (fun p hp e => by have := h.lowG p hp; injection e with e; omega), h.n0, h.nW, h.lowV, h.lowW, h.lowG,
    grown_trans h.ext hg (fun p hp hlt => by injection hp with hp; omega)⟩
theorem led_far {w w' : World} {L : Led} {V : Nat → Value} {B A : Nat} (h : LedIs w L V) (hl : ∀ j, j < 4 → ∀ p, (V j).ownBlock = some p → B ≤ p ∧ p < w.heap.size) (hA : A < B) (hg : w.grownBy w' (some A)) : LedIs w' L V :=
  h.kept hg (fun j hj p hp e => by have := hl j hj p hp; injection e with e; omega)
theorem led_far2 {w w' : World} {L : Led} {V : Nat → Value} {B C A : Nat} (h : LedIs w L V) (hl : ∀ j, j < 4 → ∀ p, (V j).ownBlock = some p → B ≤ p ∧ p < C) (hA : A < B ∨ C ≤ A) (hg : w.grownBy w' (some A)) : LedIs w' L V :=
  h.kept hg (fun j hj p hp e => by have := hl j hj p hp; injection e with e; omega)

theorem chg_begin {w w3 w4 w5 : World} {L : Led} {V VW : Nat → Value} {got : Value} {xs : List Int} {n : Nat} (hL : LedIs w L V) (hI : Ints w got xs) (hgo : ∀ p, got.ownBlock = some p → p < w.heap.size) (hlow : ∀ j, j < 4 → ∀ p, (V j).ownBlock = some p → p < w.heap.size)
    (hE : Ext w w4) (hl : Blk w4 n 27 (ledC L V)) (hO : Owned w3.heap.size w4 L VW 4) (hb : Blk w5 w4.heap.size 27 (ledC L VW)) (hg : (w4.alloc (.cells zeroC 27)).grownBy w5 (some w4.heap.size)) (hn : n = w.heap.size) (h3 : w.heap.size ≤ w3.heap.size) :
    Chg w n w4.heap.size L V VW got xs w5 := by
  have e : w4.grownBy w5 none := grown_trans (World.grownBy_alloc w4 (.cells zeroC 27) none) hg (fun p hp hlt => by injection hp with hp; omega)
  have hE5 := ext_trans hE e
  exact ⟨hl.ext e, hb, hL.ext hE5, hO.is.ext e, hI.kept hE5 (by simp), by omega, hl.lt, fun j hj p hp => by have := hlow j hj p hp; omega, fun j hj p hp => (own_lt (hO.own j hj) p hp).2, fun p hp => by have := hgo p hp; omega, hE5⟩

set_option maxRecDepth 100000 in
set_option maxHeartbeats 12800000 in
theorem ledgerChanges_any (L : Led) (V : Nat → Value) (t sz sp o i j : Int) (got : Value) (xs : List Int) (w : World) (hL : LedIs w L V) (hI : Ints w got xs) (hgo : ∀ p, got.ownBlock = some p → p < w.heap.size) (hlow : ∀ j, j < 4 → ∀ p, (V j).ownBlock = some p → p < w.heap.size) :
    Calls Try.prog 3 #[.agg (ledC L V), .int .i64 t, .int .i64 sz, .int .i64 sp, got, .int .i64 o, .int .i64 i, .int .i64 j] w fun e w' => e = .returned (.bool true) ∧ Ext w w' := by
  have hl0 := Blk.new w 27 (ledC L V)
  have hE0 := World.grownBy_alloc w (.cells (ledC L V) 27) none
  obtain ⟨n, hn⟩ : ∃ n, w.heap.size = n := ⟨_, rfl⟩
  obtain ⟨w1, hw1⟩ : ∃ v, w.alloc (.cells (ledC L V) 27) = v := ⟨_, rfl⟩
  rw [hw1] at hl0 hE0
  rw [hn] at hl0
  have HZ0 := Lib.hid hn.symm
  have HL := Lib.hid hL
  have HI := Lib.hid hI
  have HE0 := Lib.hid hE0
  obtain ⟨ga, gc, _, _, rfl, _⟩ := hI.form
  clear hL hI hE0
  obtain ⟨f, hf⟩ : ∃ f, fewB L = f := ⟨_, rfl⟩
  have HFEW := Lib.hid hf
  cases f
  · clear hf
    go_enter Try.func3, Try.ntmps3
    go_wp2_with (first
      | (go_at_call 5; refine (fixed10_any _).mono ?_; rintro e w2 ⟨rfl, hE2⟩; have HE2 := Lib.hid (ext_trans HE0.out hE2); have hl2 := hl0.ext hE2; clear hE2 hl0)
      | (refine led_load _ rfl rfl hl2 rfl ?_)
      | (go_at_call 6; refine (few10_any L V _ (HL.out.ext HE2.out)).mono ?_; rintro e w3 ⟨rfl, hE3⟩; rw [HFEW.out]; have HE3 := Lib.hid (ext_trans HE2.out hE3); have hl3 := hl2.ext hE3; clear hE3 hl2))
    go_ret
    exact ⟨rfl, HE3.out⟩
  · have hle := fewB_le hf
    have hm : ∀ j, j < 4 → (L.t j).bs.length ≤ 1048576 := fun j hj => by have := hle j hj; omega
    have hmL : LenL L := fun j hj => by have := hle j hj; omega
    clear hf
    by_cases hbig : 80 < xs.length
    · have hb1 : (80 : Int) < (xs.length : Int) := by omega
      clear hm hmL hle
      go_enter Try.func3, Try.ntmps3
      go_wp2_with (first
        | (go_at_call 5; refine (fixed10_any _).mono ?_; rintro e w2 ⟨rfl, hE2⟩; have HE2 := Lib.hid (ext_trans HE0.out hE2); have hl2 := hl0.ext hE2; clear hE2 hl0)
        | (refine led_load _ rfl rfl hl2 rfl ?_)
        | (go_at_call 6; refine (few10_any L V _ (HL.out.ext HE2.out)).mono ?_; rintro e w3 ⟨rfl, hE3⟩; rw [HFEW.out]; have HE3 := Lib.hid (ext_trans HE2.out hE3); have hl3 := hl2.ext hE3; clear hE3 hl2))
      go_ret
      exact ⟨rfl, HE3.out⟩
    · have hb1 : ¬ (80 : Int) < (xs.length : Int) := by omega
      have hx : xs.length ≤ 1048576 := by omega
      have low : ∀ wr W VW (h : Chg w n W L V VW (.slice ga xs.length gc) xs wr), ∀ p, (Value.slice ga xs.length gc).ownBlock = some p → p < wr.heap.size := fun wr W VW h p hp => by have := h.lowG p hp; have := h.lb.lt; omega
      have P0 := fun wr W VW (h : Chg w n W L V VW (.slice ga xs.length gc) xs wr) => create_any L V t sz sp (.slice ga xs.length gc) xs wr h.iv hm h.ig hx (low wr W VW h)
      have Q0 := fun wr W VW (h : Chg w n W L V VW (.slice ga xs.length gc) xs wr) => refCreate_any L V t sz sp (.slice ga xs.length gc) xs wr h.iv hm h.ig hx (low wr W VW h)
      have P1 := fun wr W VW (h : Chg w n W L V VW (.slice ga xs.length gc) xs wr) => destroy_any L V t wr h.iv hm
      have Q1 := fun wr W VW (h : Chg w n W L V VW (.slice ga xs.length gc) xs wr) => refDestroy_any L V t wr h.iv hm
      have P2 := fun wr W VW (h : Chg w n W L V VW (.slice ga xs.length gc) xs wr) => resize_any L V t sz (.slice ga xs.length gc) xs wr h.iv hm h.ig hx (low wr W VW h)
      have Q2 := fun wr W VW (h : Chg w n W L V VW (.slice ga xs.length gc) xs wr) => refResize_any L V t sz (.slice ga xs.length gc) xs wr h.iv hm h.ig hx (low wr W VW h)
      have P3 := fun wr W VW (h : Chg w n W L V VW (.slice ga xs.length gc) xs wr) => swap_any L V t i o j wr h.iv hm
      have Q3 := fun wr W VW (h : Chg w n W L V VW (.slice ga xs.length gc) xs wr) => refSwap_any L V t i o j wr h.iv hm
      have N0 := create_len (t := t) (s := sz) (r := sp) (xs := xs) hmL (by omega)
      have N1 := destroy_len (t := t) hmL
      have N2 := resize_len (t := t) (s := sz) hm hx
      have N3 := swap_len (a := t) (i := i) (b := o) (j := j) hmL
      obtain ⟨R0, hR0⟩ : ∃ R, createS L t sz sp xs = R := ⟨_, rfl⟩
      obtain ⟨R1, hR1⟩ : ∃ R, destroyS L t = R := ⟨_, rfl⟩
      obtain ⟨R2, hR2⟩ : ∃ R, resizeS L t sz xs = R := ⟨_, rfl⟩
      obtain ⟨R3, hR3⟩ : ∃ R, swapS L t i o j = R := ⟨_, rfl⟩
      rw [hR0] at P0 Q0 N0
      rw [hR1] at P1 Q1 N1
      rw [hR2] at P2 Q2 N2
      rw [hR3] at P3 Q3 N3
      clear hR0 hR1 hR2 hR3 low hle
      go_enter Try.func3, Try.ntmps3
      go_wp2_with (first
        | (go_at_call 5; refine (fixed10_any _).mono ?_; rintro e w2 ⟨rfl, hE2⟩; have HE2 := Lib.hid (ext_trans HE0.out hE2); have hl2 := hl0.ext hE2; clear hE2 hl0)
        | (refine led_load _ rfl rfl hl2 rfl ?_)
        | (go_at_call 6; refine (few10_any L V _ (HL.out.ext HE2.out)).mono ?_; rintro e w3 ⟨rfl, hE3⟩; rw [HFEW.out]; have HE3 := Lib.hid (ext_trans HE2.out hE3); have hl3 := hl2.ext hE3; clear hE3 hl2)
        | (refine led_load _ rfl rfl hl3 rfl ?_)
        | (go_at_call 7; refine (refTwin10_any L V _ (HL.out.ext HE3.out) hm).mono ?_; rintro e w4 ⟨VW, rfl, hO4, hE4⟩; have hBw := Blk.new w4 27 zeroC; have HE4 := Lib.hid (ext_trans HE3.out hE4); have hl4 := hl3.ext hE4; have HO4 := Lib.hid hO4; have hsw := hO4.is.slices; clear hE4 hl3 hO4)
        | (refine led_store _ _ rfl rfl rfl hBw rfl hsw rfl ?_; intro w5 hb5 hg5 hs5; clear hBw hsw hs5; have HC5 := Lib.hid (chg_begin HL.out HI.out hgo hlow HE4.out hl4 HO4.out hb5 hg5 HZ0.out HE3.out.size); have hl5 := HC5.out.lb; clear hl4 hb5 hg5)
        | (refine led_load _ rfl rfl hl5 rfl ?_)
        | (go_at_call 8; refine (P0 _ _ _ HC5.out).mono ?_; rintro e w6 ⟨Va, rfl, hIa, hla, hEa⟩; have HC6 := Lib.hid (HC5.out.next hEa); have hBA := Blk.new w6 27 zeroC; have HZ5 := Lib.hid (And.intro HC5.out.wb.lt hEa.size); clear hEa hl5)
        | (refine led_store _ _ rfl rfl rfl hBA rfl hIa.slices rfl ?_; intro w7 hA7 hg7 hs7; clear hBA hs7; have hE7 := grown_trans (World.grownBy_alloc w6 (.cells zeroC 27) none) hg7 (fun p hp hlt => by injection hp with hp; omega); have HC7 := Lib.hid (HC6.out.next hE7); have HIa7 := Lib.hid (hIa.ext hE7); have HLa := Lib.hid hla; have hl7 := HC7.out.lb; clear hg7 hE7 hIa hla)
        | (refine led_load _ rfl rfl hl7 rfl ?_)
        | (go_at_call 9; refine (Q0 _ _ _ HC7.out).mono ?_; rintro e w8 ⟨Vb, rfl, hIb, hlb, hEb⟩; have HC8 := Lib.hid (HC7.out.next hEb); have hBB := Blk.new w8 27 zeroC; have HIa8 := Lib.hid (HIa7.out.ext hEb); have hA8 := hA7.ext hEb; have HZ7 := Lib.hid (And.intro hA7.lt hEb.size); clear hEb hA7 hl7)
        | (refine led_store _ _ rfl rfl rfl hBB rfl hIb.slices rfl ?_; intro w9 hB9 hg9 hs9; clear hBB hs9; have hE9 := grown_trans (World.grownBy_alloc w8 (.cells zeroC 27) none) hg9 (fun p hp hlt => by injection hp with hp; omega); have HC9 := Lib.hid (HC8.out.next hE9); have HIa9 := Lib.hid (HIa8.out.ext hE9); have HIb9 := Lib.hid (hIb.ext hE9); have hA9 := hA8.ext hE9; have HAB := Lib.hid (show w4.heap.size < w6.heap.size ∧ w6.heap.size < w8.heap.size from ⟨by have := HZ5.out; omega, by have := HZ7.out; omega⟩); have S0 := same10_eq R0.1 Va Vb w9 HIa9.out HIb9.out N0; clear hg9 hE9 hIb hlb hA8)
        | (refine led_load _ rfl rfl hA9 rfl ?_)
        | (refine led_load _ rfl rfl hB9 rfl ?_)
        | (refine led_load _ rfl rfl hl1 rfl ?_)
        | (go_at_call 11; refine (P1 _ _ _ HC1.out).mono ?_; rintro e wp1 ⟨Va1, rfl, hIa1, hla1, hEa1⟩; have HD1 := Lib.hid (HC1.out.next hEa1); have hA1 := hAb.ext hEa1; have hB1 := hBb.ext hEa1; have HZ1 := Lib.hid (And.intro hAb.lt hBb.lt); clear hEa1 hAb hBb hl1)
        | (refine led_store _ _ rfl rfl rfl hA1 rfl hIa1.slices rfl ?_; intro wa1 hAx1 hga1 hsa1; clear hA1 hsa1; have HE1 := Lib.hid (HD1.out.store hga1 HAB.out.1); have HIa1 := Lib.hid (led_far hIa1 hla1 HZ1.out.1 hga1); have HLa1 := Lib.hid hla1; have hB1x := hB1.kept hga1 (fun e => by have := HAB.out.2; injection e with e; omega); have hl1x := HE1.out.lb; clear hga1 hIa1 hla1 hB1)
        | (refine led_load _ rfl rfl hl1x rfl ?_)
        | (go_at_call 12; refine (Q1 _ _ _ HE1.out).mono ?_; rintro e wq1 ⟨Vb1, rfl, hIb1, hlb1, hEb1⟩; have HF1 := Lib.hid (HE1.out.next hEb1); have HIaq1 := Lib.hid (HIa1.out.ext hEb1); have hAy1 := hAx1.ext hEb1; have hBy1 := hB1x.ext hEb1; have HY1 := Lib.hid hB1x.lt; clear hEb1 hAx1 hB1x hl1x)
        | (refine led_store _ _ rfl rfl rfl hBy1 rfl hIb1.slices rfl ?_; intro wb1 hBz1 hgb1 hsb1; clear hBy1 hsb1; have HG1 := Lib.hid (HF1.out.store hgb1 (by have := HAB.out; omega)); have HIb1 := Lib.hid (led_far hIb1 hlb1 HY1.out hgb1); have HIaz1 := Lib.hid (led_far2 HIaq1.out HLa1.out (.inl HZ1.out.2) hgb1); have hAz1 := hAy1.kept hgb1 (fun e => by have := HAB.out.2; injection e with e; omega); have S1 := same10_eq R1.1 Va1 Vb1 wb1 HIaz1.out HIb1.out N1; clear hgb1 hIb1 hlb1 hAy1)
        | (refine led_load _ rfl rfl hAz1 rfl ?_)
        | (refine led_load _ rfl rfl hBz1 rfl ?_)
        | (go_at_call 13; refine (P2 _ _ _ HC2.out).mono ?_; rintro e wp2 ⟨Va2, rfl, hIa2, hla2, hEa2⟩; have HD2 := Lib.hid (HC2.out.next hEa2); have hA2 := hAb.ext hEa2; have hB2 := hBb.ext hEa2; have HZ2 := Lib.hid (And.intro hAb.lt hBb.lt); clear hEa2 hAb hBb hl2)
        | (refine led_store _ _ rfl rfl rfl hA2 rfl hIa2.slices rfl ?_; intro wa2 hAx2 hga2 hsa2; clear hA2 hsa2; have HE2 := Lib.hid (HD2.out.store hga2 HAB.out.1); have HIa2 := Lib.hid (led_far hIa2 hla2 HZ2.out.1 hga2); have HLa2 := Lib.hid hla2; have hB2x := hB2.kept hga2 (fun e => by have := HAB.out.2; injection e with e; omega); have hl2x := HE2.out.lb; clear hga2 hIa2 hla2 hB2)
        | (refine led_load _ rfl rfl hl2x rfl ?_)
        | (go_at_call 14; refine (Q2 _ _ _ HE2.out).mono ?_; rintro e wq2 ⟨Vb2, rfl, hIb2, hlb2, hEb2⟩; have HF2 := Lib.hid (HE2.out.next hEb2); have HIaq2 := Lib.hid (HIa2.out.ext hEb2); have hAy2 := hAx2.ext hEb2; have hBy2 := hB2x.ext hEb2; have HY2 := Lib.hid hB2x.lt; clear hEb2 hAx2 hB2x hl2x)
        | (refine led_store _ _ rfl rfl rfl hBy2 rfl hIb2.slices rfl ?_; intro wb2 hBz2 hgb2 hsb2; clear hBy2 hsb2; have HG2 := Lib.hid (HF2.out.store hgb2 (by have := HAB.out; omega)); have HIb2 := Lib.hid (led_far hIb2 hlb2 HY2.out hgb2); have HIaz2 := Lib.hid (led_far2 HIaq2.out HLa2.out (.inl HZ2.out.2) hgb2); have hAz2 := hAy2.kept hgb2 (fun e => by have := HAB.out.2; injection e with e; omega); have S2 := same10_eq R2.1 Va2 Vb2 wb2 HIaz2.out HIb2.out N2; clear hgb2 hIb2 hlb2 hAy2)
        | (refine led_load _ rfl rfl hAz2 rfl ?_)
        | (refine led_load _ rfl rfl hBz2 rfl ?_)
        | (refine led_load _ rfl rfl hl3 rfl ?_)
        | (go_at_call 15; refine (P3 _ _ _ HC3.out).mono ?_; rintro e wp3 ⟨Va3, rfl, hIa3, hla3, hEa3⟩; have HD3 := Lib.hid (HC3.out.next hEa3); have hA3 := hAb.ext hEa3; have hB3 := hBb.ext hEa3; have HZ3 := Lib.hid (And.intro hAb.lt hBb.lt); clear hEa3 hAb hBb hl3)
        | (refine led_store _ _ rfl rfl rfl hA3 rfl hIa3.slices rfl ?_; intro wa3 hAx3 hga3 hsa3; clear hA3 hsa3; have HE3 := Lib.hid (HD3.out.store hga3 HAB.out.1); have HIa3 := Lib.hid (led_far hIa3 hla3 HZ3.out.1 hga3); have HLa3 := Lib.hid hla3; have hB3x := hB3.kept hga3 (fun e => by have := HAB.out.2; injection e with e; omega); have hl3x := HE3.out.lb; clear hga3 hIa3 hla3 hB3)
        | (refine led_load _ rfl rfl hl3x rfl ?_)
        | (go_at_call 16; refine (Q3 _ _ _ HE3.out).mono ?_; rintro e wq3 ⟨Vb3, rfl, hIb3, hlb3, hEb3⟩; have HF3 := Lib.hid (HE3.out.next hEb3); have HIaq3 := Lib.hid (HIa3.out.ext hEb3); have hAy3 := hAx3.ext hEb3; have hBy3 := hB3x.ext hEb3; have HY3 := Lib.hid hB3x.lt; clear hEb3 hAx3 hB3x hl3x)
        | (refine led_store _ _ rfl rfl rfl hBy3 rfl hIb3.slices rfl ?_; intro wb3 hBz3 hgb3 hsb3; clear hBy3 hsb3; have HG3 := Lib.hid (HF3.out.store hgb3 (by have := HAB.out; omega)); have HIb3 := Lib.hid (led_far hIb3 hlb3 HY3.out hgb3); have HIaz3 := Lib.hid (led_far2 HIaq3.out HLa3.out (.inl HZ3.out.2) hgb3); have hAz3 := hAy3.kept hgb3 (fun e => by have := HAB.out.2; injection e with e; omega); have S3 := same10_eq R3.1 Va3 Vb3 wb3 HIaz3.out HIb3.out N3; clear hgb3 hIb3 hlb3 hAy3)
        | (refine led_load _ rfl rfl hAz3 rfl ?_)
        | (refine led_load _ rfl rfl hBz3 rfl ?_)
        | (refine led_load _ rfl rfl hl4 rfl ?_)
        | (refine led_load _ rfl rfl hw4 rfl ?_)
        | (go_at_call 10; have hx := hw4; refine (same10_eq L V VW _ HC4.out.iv HC4.out.iw hmL).mono ?_; rintro e w99 ⟨rfl, hE99⟩; have HE99 := Lib.hid (ext_trans HC4.out.ext hE99); clear hE99 hx)
        | (go_at_call 10; refine S3.mono ?_; rintro e ws3 ⟨rfl, hEs3⟩; have HC4 := Lib.hid (HG3.out.next hEs3); have hAb := hAz3.ext hEs3; have hBb := hBz3.ext hEs3; have hl4 := HC4.out.lb; have hw4 := HC4.out.wb; clear hEs3 hAz3 hBz3 S3)
        | (go_at_call 10; refine S2.mono ?_; rintro e ws2 ⟨rfl, hEs2⟩; have HC3 := Lib.hid (HG2.out.next hEs2); have hAb := hAz2.ext hEs2; have hBb := hBz2.ext hEs2; have hl3 := HC3.out.lb; have hw3 := HC3.out.wb; clear hEs2 hAz2 hBz2 S2)
        | (go_at_call 10; refine S1.mono ?_; rintro e ws1 ⟨rfl, hEs1⟩; have HC2 := Lib.hid (HG1.out.next hEs1); have hAb := hAz1.ext hEs1; have hBb := hBz1.ext hEs1; have hl2 := HC2.out.lb; have hw2 := HC2.out.wb; clear hEs1 hAz1 hBz1 S1)
        | (go_at_call 10; have hx := hA9; refine S0.mono ?_; rintro e w10 ⟨rfl, hE10⟩; clear hx; have HC1 := Lib.hid (HC9.out.next hE10); have hAb := hA9.ext hE10; have hBb := hB9.ext hE10; have hl1 := HC1.out.lb; clear hE10 hA9 hB9 S0))
      go_ret
      exact ⟨rfl, HE99.out⟩

end Go.Proofs.Ytkaiijlgmfeblaa
