/-
  Layer 17: the law's fixed answers, over what Heal and Void answer.
-/
import Derived.Test.YtigfohofbpjldaaIO
namespace Go.Proofs.Ytigfohofbpjldaa
set_option linter.unusedVariables false
set_option linter.unusedSimpArgs false
set_option maxRecDepth 100000
open Go.RowKit

def pgF (a b c d : Int) (z : Bool) : Fnd := ⟨a, b, false, 0, 1, c, d, 1, z, ⟨#[]⟩⟩
theorem page17_any (a b c d : Int) (z : Bool) (w : World) : Calls Try.prog 15 #[.int .i64 a, .int .i64 b, .int .i64 c, .int .i64 d, .bool z] w fun e w' =>
    e = .returned (.agg #[.int .i64 a, .int .i64 b, .bool false, .int .i64 0, .int .i64 1, .int .i64 c, .int .i64 d, .int .i64 1, .bool z, .string ⟨#[]⟩]) ∧ w.grownBy w' none := by
  have hBn := Blk.new w 36 (fndC noF)
  go_enter Try.func15, Try.ntmps15
  go_wp2_with (refine fnd_store (f := pgF a b c d z) _ _ rfl rfl rfl hBn rfl rfl ?_; intro w2 hb2 hg2 hs2)
  refine bodyPost_ret (v := .agg (fndC (pgF a b c d z))) (results_cell_row rfl _ _ w.heap.size _ _ (0, 0) _ rfl hb2 Try.underlying36 rfl Try.sizeFnd) rfl ?_
  exact ⟨rfl, g17_new (World.grownBy_alloc w _ none) hg2 (Nat.le_refl _)⟩

theorem rowF_new (w : World) (T : TypeId) (L : List Fnd) : RowF (w.alloc (.cells (fndsL L).toArray T)) (.slice (some ⟨w.heap.size, 0, none⟩) L.length L.length) L := by
  refine ⟨_, _, rfl, fun i hi => ⟨_, _, rfl, fun j u hj => ?_⟩⟩
  have hj10 : j < 10 := by
    have h1 := (List.getElem?_eq_some_iff.1 hj).1
    exact h1
  have h2 := (Blk.new w T (fndsL L).toArray).cell (i * 10 + j)
  rw [show (0 + i * 10 + j) = i * 10 + j by omega, h2]
  rw [List.getElem?_toArray, fndsL_at L i j hj10 hi]
  exact hj
theorem own_some {w : World} {B : Nat} {e : TypeId} {sz : Nat} {ao : Option Addr} {n cap : Nat} {xs : List Value} (h : w.ownsRow B e sz (.slice ao n cap) n xs) (hn : n ≠ 0) : ∃ g, ao = some ⟨g, 0, none⟩ ∧ ∀ j u, xs[j]? = some u → w.cell? ⟨g, j, none⟩ = some u := by
  rcases h.2 with ⟨_, h0⟩ | ⟨g, c, cur, hv, _⟩
  · exact absurd h0 hn
  · simp only [Value.slice.injEq] at hv
    refine ⟨g, hv.1, fun j u hj => ?_⟩
    have h1 := h.cells (g := g) (by rw [hv.1]; rfl) j u hj
    rw [addr_add, Nat.zero_add] at h1
    exact h1

def fxA : List Fnd := [pgF 0 0 3 7 true, pgF 1 0 3 7 true]
def fxB : List Fnd := [pgF 0 0 3 7 false, pgF 0 1 4 8 false, pgF 1 0 3 7 true]
def fxC : List Fnd := [pgF 1 0 9 0 false]
theorem fxA_is : goN fxA (cntL 2 0 1 9 fxA) 2 = [0] ∧ spotsN (cntL 2 0 1 9 fxA) [0] 64 = [(3, 1, 0)] ∧ seqN 2 0 1 fxA = 8 := by
  refine ⟨by kernel_rfl, by kernel_rfl, by kernel_rfl⟩
theorem fxB_is : goN fxB (cntL 2 0 1 9 fxB) 2 = [1] ∧ (spotsN (cntL 2 0 1 9 fxB) [1] 64).length = 2 := by
  refine ⟨by kernel_rfl, by kernel_rfl⟩
theorem fxC_is : voidN fxC 0 1 9 2 = [1] := by kernel_rfl
theorem ask_new (w : World) (L : List Fnd) (h : mayL L 2 = true) : Ask17 (w.alloc (.cells (fndsL L).toArray 36)) (.slice (some ⟨w.heap.size, 0, none⟩) L.length L.length) L 2 :=
  ⟨rowF_new w _ L, fun k hk => by injection hk with hk; subst hk; simp, h⟩

theorem healA (w : World) : Calls Try.prog 8 #[.slice (some ⟨w.heap.size, 0, none⟩) 2 2, .int .i64 2, .int .i64 0, .int .i64 1, .int .i64 9] (w.alloc (.cells (fndsL fxA).toArray 36)) fun e w' =>
    (∃ s g sc gc, e = .returned (.agg #[.slice (some ⟨s, 0, none⟩) 1 sc, .slice (some ⟨g, 0, none⟩) 1 gc, .int .i64 8]) ∧ w'.cell? ⟨s, 1, none⟩ = some (.int .i64 1) ∧ w'.cell? ⟨g, 0, none⟩ = some (.int .i64 0)) ∧ w.grownBy w' none := by
  have h := heal_c _ fxA 2 0 1 9 _ (ask_new w fxA (by kernel_rfl))
  rw [show (2 : Int).toNat = 2 from rfl, fxA_is.1, fxA_is.2.1, fxA_is.2.2] at h
  refine Calls.mono h ?_
  rintro e w' ⟨⟨sv, gv, rfl, hs, hg⟩, hE⟩
  obtain ⟨so, sc, rfl⟩ := owns_slice17 hs
  obtain ⟨go_, gc, rfl⟩ := owns_slice17 hg
  obtain ⟨s, rfl, hs2⟩ := own_some hs (by decide)
  obtain ⟨g, rfl, hg2⟩ := own_some hg (by decide)
  exact ⟨⟨s, g, sc, gc, rfl, hs2 1 _ rfl, hg2 0 _ rfl⟩, ext_trans (World.grownBy_alloc w _ none) hE⟩
theorem healB (w : World) : Calls Try.prog 8 #[.slice (some ⟨w.heap.size, 0, none⟩) 3 3, .int .i64 2, .int .i64 0, .int .i64 1, .int .i64 9] (w.alloc (.cells (fndsL fxB).toArray 36)) fun e w' =>
    (∃ so g sc gc q, e = .returned (.agg #[.slice so 2 sc, .slice (some ⟨g, 0, none⟩) 1 gc, .int .i64 q]) ∧ w'.cell? ⟨g, 0, none⟩ = some (.int .i64 1)) ∧ w.grownBy w' none := by
  have h := heal_c _ fxB 2 0 1 9 _ (ask_new w fxB (by kernel_rfl))
  rw [show (2 : Int).toNat = 2 from rfl, fxB_is.1, fxB_is.2] at h
  refine Calls.mono h ?_
  rintro e w' ⟨⟨sv, gv, rfl, hs, hg⟩, hE⟩
  obtain ⟨so, sc, rfl⟩ := owns_slice17 hs
  obtain ⟨go_, gc, rfl⟩ := owns_slice17 hg
  obtain ⟨g, rfl, hg2⟩ := own_some hg (by decide)
  exact ⟨⟨so, g, sc, gc, _, rfl, hg2 0 _ rfl⟩, ext_trans (World.grownBy_alloc w _ none) hE⟩
theorem voidC (w : World) : Calls Try.prog 14 #[.slice (some ⟨w.heap.size, 0, none⟩) 1 1, .int .i64 2, .int .i64 0, .int .i64 1, .int .i64 9] (w.alloc (.cells (fndsL fxC).toArray 36)) fun e w' =>
    (∃ so sc, e = .returned (.slice so 1 sc)) ∧ w.grownBy w' none := by
  have h := void_c _ fxC 2 0 1 9 _ (ask_new w fxC (by kernel_rfl))
  rw [show (2 : Int).toNat = 2 from rfl, fxC_is] at h
  refine Calls.mono h ?_
  rintro e w' ⟨⟨v, rfl, hs⟩, hE⟩
  obtain ⟨so, sc, rfl⟩ := owns_slice17 hs
  exact ⟨⟨so, sc, rfl⟩, ext_trans (World.grownBy_alloc w _ none) hE⟩

set_option maxHeartbeats 3200000 in
theorem fix_17 : Fix17 := by
  intro w
  go_enter Try.func6, Try.ntmps6
  have HA := Lib.hid (Ext.refl w)
  go_upto_region 2 with (first
    | (go_at_call 15; refine (page17_any _ _ _ _ _ _).mono ?_; rintro e w1 ⟨rfl, hE1⟩; have HA := Lib.hid (ext_trans HA.out hE1); have HW := Lib.hid (healA w1); clear hE1)
    | (go_at_call 8; refine HW.out.mono ?_; rintro e w4 ⟨⟨s, g, sc, gc, rfl, hs1, hg1⟩, hE4⟩; have HA := Lib.hid (ext_trans HA.out hE4); have HC := Lib.hid (And.intro hs1 hg1); have hbn := Blk.new w4 28 (hldC none 0 0 none 0 0 0); clear hs1 hg1 hE4)
    | (refine hld_store (so := some ⟨s, 0, none⟩) (sn := 1) (sc := sc) (go := some ⟨g, 0, none⟩) (gn := 1) (gc := gc) (q := 8) _ _ rfl rfl rfl hbn rfl rfl ?_; intro w5 hb5 hg5 hs5; have HB5 := Lib.hid hb5; have hE5 := g17_new (World.grownBy_alloc w4 _ none) hg5 (Nat.le_refl _); have HA := Lib.hid (ext_trans HA.out hE5); have HC := Lib.hid (And.intro (hE5.cell HC.out.1 (by simp)) (hE5.cell HC.out.2 (by simp))); clear hbn hg5 hs5 hb5 hE5))
  have HH := Lib.hid (And.intro HB5.out HC.out)
  clear HC HB5
  have HA0 := HA
  have HZ := Lib.hid (Ext.refl w5)
  go_upto_region 3 with (first
    | (go_at_call 15; refine (page17_any _ _ _ _ _ _).mono ?_; rintro e w6 ⟨rfl, hE1⟩; have HZ := Lib.hid (ext_trans HZ.out hE1); have HW := Lib.hid (healB w6); clear hE1)
    | (go_at_call 8; refine HW.out.mono ?_; rintro e w8 ⟨⟨so, g2, sc2, gc2, q2, rfl, hg1⟩, hE4⟩; have HZ := Lib.hid (ext_trans HZ.out hE4); have HC := Lib.hid hg1; have hbn := Blk.new w8 28 (hldC none 0 0 none 0 0 0); clear hg1 hE4)
    | (refine hld_store (so := so) (sn := 2) (sc := sc2) (go := some ⟨g2, 0, none⟩) (gn := 1) (gc := gc2) (q := q2) _ _ rfl rfl rfl hbn rfl rfl ?_; intro w10 hb5 hg5 hs5; have HB10 := Lib.hid hb5; have hE5 := g17_new (World.grownBy_alloc w8 _ none) hg5 (Nat.le_refl _); have HZ := Lib.hid (ext_trans HZ.out hE5); have HC := Lib.hid (hE5.cell HC.out (by simp)); clear hbn hg5 hs5 hb5 hE5))
  have a0 : w10.cell? ⟨w4.heap.size, 0, none⟩ = some (.slice (some ⟨s, 0, none⟩) 1 sc) := (HH.out.1.ext HZ.out).cell 0
  have a1 : w10.cell? ⟨w4.heap.size, 1, none⟩ = some (.slice (some ⟨g, 0, none⟩) 1 gc) := (HH.out.1.ext HZ.out).cell 1
  have a2 : w10.cell? ⟨w4.heap.size, 2, none⟩ = some (.int .i64 8) := (HH.out.1.ext HZ.out).cell 2
  have b0 : w10.cell? ⟨w8.heap.size, 0, none⟩ = some (.slice so 2 sc2) := HB10.out.cell 0
  have b1 : w10.cell? ⟨w8.heap.size, 1, none⟩ = some (.slice (some ⟨g2, 0, none⟩) 1 gc2) := HB10.out.cell 1
  have c0 : w10.cell? ⟨s, 1, none⟩ = some (.int .i64 1) := HZ.out.cell HH.out.2.1 (by simp)
  have c1 : w10.cell? ⟨g, 0, none⟩ = some (.int .i64 0) := HZ.out.cell HH.out.2.2 (by simp)
  have c2 : w10.cell? ⟨g2, 0, none⟩ = some (.int .i64 1) := HC.out
  have HF := Lib.hid (ext_trans HA.out HZ.out)
  go_wp2_with (first
    | (go_at_call 15; refine (page17_any _ _ _ _ _ _).mono ?_; rintro e w11 ⟨rfl, hE1⟩; have HF := Lib.hid (ext_trans HF.out hE1); have HW := Lib.hid (voidC w11); clear hE1)
    | (go_at_call 14; refine HW.out.mono ?_; rintro e w12 ⟨⟨vo, vc, rfl⟩, hE4⟩; have HF := Lib.hid (ext_trans HF.out hE4); clear hE4))
  go_ret
  exact ⟨rfl, HF.out⟩

end Go.Proofs.Ytigfohofbpjldaa
