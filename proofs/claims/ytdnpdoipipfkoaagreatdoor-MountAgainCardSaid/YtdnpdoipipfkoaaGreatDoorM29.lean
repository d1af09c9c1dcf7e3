/-
  Texts put together: TL.
-/
import Derived.Test.YtdnpdoipipfkoaaGreatDoorM01
import Derived.Test.YtdnpdoipipfkoaaGreatDoorTie
import Derived.ProofKit
import Derived.LaidMore
import Derived.OpenShut
import Derived.Stop.Joined
namespace Go.Proofs.YtdnpdoipipfkoaaGreatDoor
set_option linter.unusedVariables false
set_option linter.unusedSimpArgs false
set_option linter.unusedVariables false
set_option linter.unusedSimpArgs false
set_option maxRecDepth 100000
open Go.ChangeShapes Go.WideShapes Go.ChangeAt Go.WideMaps Go.WideElems Go.RowKit
def laidTag : List (String × DataW Unit) := [("almshouse/tag.fields", Rows.laid_almshouse_tag_fields)]
theorem gFields : Tryz.prog.globalNamed "almshouse/tag.fields" = some 0 := by kernel_rfl
theorem tFields : (Tryz.prog.globals[0]?).map (·.type) = some 204 := by kernel_rfl
theorem door_met (os : Os) (args : Array Value) : laidMetH Tryz.prog laidTag ((World.doorLaid Tryz.prog 19 os).forCall (fun _ _ => 0) ⟨#[], args, []⟩).memory :=
 laidMetH_of_parts3 (fuel := 8) (laidMet_of_run' 8 (by kernel_rfl) (by kernel_rfl)) (by kernel_rfl) (by kernel_rfl)
theorem one_of {H : Type} {enc : TypeId × Value → H} {W : World} {base : Nat} {sp : Nat → Bool} {held : Bool} {fuel : Nat} {cs : List Value} {x : DataW H × List MemPlace} {a b c : Int}
   (h : DataW.trod enc Tryz.prog W base sp held fuel 203 cs = some x) (hx : x.1 = .agg [.lit (.int .i64 a), .lit (.int .i64 b), .lit (.int .i64 c)]) :
   cs.take 1 = [.int .i64 a] ∧ (cs.drop 1).take 1 = [.int .i64 b] ∧ (cs.drop 2).take 1 = [.int .i64 c] := by
 obtain ⟨ys, n, _, rfl, hlen, hn, hel⟩ := DataW.trod_struct Tryz.underlying203 h
 have c3 : Tryz.prog.cellsOf 3 = 1 := by kernel_rfl
 have h0 : DataW.trod enc Tryz.prog W base sp held n 3 ((cs.drop 0).take (Tryz.prog.cellsOf 3)) = ys[0]? := hel 0 _ rfl
 have h1 : DataW.trod enc Tryz.prog W base sp held n 3 ((cs.drop 1).take (Tryz.prog.cellsOf 3)) = ys[1]? := hel 1 _ rfl
 have h2 : DataW.trod enc Tryz.prog W base sp held n 3 ((cs.drop 2).take (Tryz.prog.cellsOf 3)) = ys[2]? := hel 2 _ rfl
 rw [c3] at h0 h1 h2
 match ys, hn, hx, h0, h1, h2 with
 | [y0, y1, y2], _, hx, h0, h1, h2 =>
   obtain ⟨k0, e0, f0, _⟩ := DataW.trod_int Tryz.underlying3 (show DataW.trod _ Tryz.prog W base sp held n 3 _ = some y0 from h0)
   obtain ⟨k1, e1, f1, _⟩ := DataW.trod_int Tryz.underlying3 (show DataW.trod _ Tryz.prog W base sp held n 3 _ = some y1 from h1)
   obtain ⟨k2, e2, f2, _⟩ := DataW.trod_int Tryz.underlying3 (show DataW.trod _ Tryz.prog W base sp held n 3 _ = some y2 from h2)
   simp only [List.map_cons, List.map_nil, DataW.agg.injEq, List.cons.injEq, f0, f1, f2, DataW.lit.injEq, Lit.int.injEq, true_and, and_true] at hx
   obtain ⟨rfl, rfl, rfl⟩ := hx
   exact ⟨by simpa using e0, e1, e2⟩
theorem cell_at {l : List Value} {i : Nat} {u : Value} (h : (l.drop i).take 1 = [u]) : l[i]? = some u := by
 have : ((l.drop i).take 1)[0]? = some u := by rw [h]; rfl
 simpa using this
theorem flds_of {W : World} (h : laidMetH Tryz.prog laidTag W) : Flds W := by
 rw [MakeChecks.laidMetH_plain _ _ _ (by kernel_rfl)] at h
 obtain ⟨ps, ⟨g0, t0, cs0, f0, p0, q0, hg0, ht0, hv0, hd0, _, _⟩, _, _⟩ := h
 obtain rfl := Option.some.inj (gFields.symm.trans hg0)
 obtain rfl := Option.some.inj (tFields.symm.trans ht0)
 have c40 : Tryz.prog.cellsOf 203 = 3 := by kernel_rfl
 obtain ⟨xs, m1, rfl, hx1, hlen, hn, hel⟩ := DataW.trod_array Tryz.underlying204 hd0
 simp only [c40] at hel
 have hcell : ∀ i u, cs0.toList[i]? = some u → W.cell? ⟨0, i, none⟩ = some u := fun i u hu => by
   rw [World.var?_cell hg0 hv0 i]
   simpa using hu
 simp only [Prod.mk.injEq, Rows.laid_almshouse_tag_fields, DataW.agg.injEq] at hx1
 match xs, hn, hx1, hel with
 | [x0, x1, x2, x3, x4], _, hx1, hel =>
   simp only [List.map_cons, List.map_nil, List.cons.injEq, and_true] at hx1
   obtain ⟨⟨e0, e1, e2, e3, e4⟩, _⟩ := hx1
   have get : ∀ (i : Nat) (a b c : Int), (((cs0.toList.drop (i * 3)).take 3).take 1 = [.int .i64 a] ∧ (((cs0.toList.drop (i * 3)).take 3).drop 1).take 1 = [.int .i64 b] ∧ (((cs0.toList.drop (i * 3)).take 3).drop 2).take 1 = [.int .i64 c]) →
       W.cell? ⟨0, i * 3, none⟩ = some (.int .i64 a) ∧ W.cell? ⟨0, i * 3 + 1, none⟩ = some (.int .i64 b) ∧ W.cell? ⟨0, i * 3 + 2, none⟩ = some (.int .i64 c) := fun i a b c ⟨h0, h1, h2⟩ => by
     refine ⟨hcell _ _ (cell_at ?_), hcell _ _ (cell_at ?_), hcell _ _ (cell_at ?_)⟩
     · simpa [List.take_take] using h0
     · rw [← List.drop_drop]; simpa [List.drop_take, List.take_take] using h1
     · rw [← List.drop_drop]; simpa [List.drop_take, List.take_take] using h2
   intro j hj
   have : j = 0 ∨ j = 1 ∨ j = 2 ∨ j = 3 ∨ j = 4 := by omega
   rcases this with rfl | rfl | rfl | rfl | rfl
   · exact get 0 1 0 3 (one_of (show DataW.trod _ Tryz.prog W 0 _ _ m1 203 _ = some x0 from hel 0 (by decide)) e0.symm)
   · exact get 1 4 0 2147483647 (one_of (show DataW.trod _ Tryz.prog W 0 _ _ m1 203 _ = some x1 from hel 1 (by decide)) e1.symm)
   · exact get 2 1 0 63 (one_of (show DataW.trod _ Tryz.prog W 0 _ _ m1 203 _ = some x2 from hel 2 (by decide)) e2.symm)
   · exact get 3 4 0 2147483647 (one_of (show DataW.trod _ Tryz.prog W 0 _ _ m1 203 _ = some x3 from hel 3 (by decide)) e3.symm)
   · exact get 4 1 1 2 (one_of (show DataW.trod _ Tryz.prog W 0 _ _ m1 203 _ = some x4 from hel 4 (by decide)) e4.symm)
end Go.Proofs.YtdnpdoipipfkoaaGreatDoor
