/-
  THE LAW GeomPlaces: whatever the input, the function returns true, and each argument reads behind the call as it read before. No condition.
-/
import Derived.Test.YtlbgakhoillpcaaRows
import Derived.WalkKit
import Derived.ProofKit
import Derived.OpenShut
import Derived.ShutString
import Derived.ChangeOld
import Derived.Below
import Derived.Test.YtlbgakhoillpcaaRec
import Derived.Test.YtlbgakhoillpcaaGI
namespace Go.Proofs.Ytlbgakhoillpcaa.geomPlaces
open Go.ChangeShapes Go.WideShapes Go.ChangeAt Go.RowKit
open Go.ChangeMaps (open_string shut_string)
set_option linter.unusedVariables false

theorem own : ownKnob Try.prog.godebug = none := by kernel_rfl
theorem laidOut : laidOutB Try.prog = true := by kernel_rfl

theorem walk (a0_0 : Int) (a0_1 : Int) (a0_2 : Int) (a0_3 : Int) (a1 : Int) (a2_0 : Int) (a2_1 : Int) (a2_2 : Int) (a2_3 : Int) (w : World) (w0_0 : (Lit.int .i64 a0_0).wf = true) (w0_1 : (Lit.int .i64 a0_1).wf = true) (w0_2 : (Lit.int .i64 a0_2).wf = true) (w0_3 : (Lit.int .i64 a0_3).wf = true) (w1 : (Lit.int .i64 a1).wf = true) (w2_0 : (Lit.int .i64 a2_0).wf = true) (w2_1 : (Lit.int .i64 a2_1).wf = true) (w2_2 : (Lit.int .i64 a2_2).wf = true) (w2_3 : (Lit.int .i64 a2_3).wf = true) :
    Calls Try.prog 6 #[.agg #[.int .i64 a0_0, .int .i64 a0_1, .int .i64 a0_2, .int .i64 a0_3], .int .i64 a1, .agg #[.int .i64 a2_0, .int .i64 a2_1, .int .i64 a2_2, .int .i64 a2_3]] w fun e w' => e = .returned (.bool true) ∧ Below w.heap.size w w' := by
  by_cases hg : geoE a0_0 a0_1 a0_2 a0_3 = 0
  · obtain ⟨g1, g2, g3, g4, _, _⟩ := geo_ok hg
    obtain ⟨c, rfl⟩ := Int.eq_ofNat_of_zero_le (show 0 ≤ a0_0 by omega)
    obtain ⟨d, rfl⟩ := Int.eq_ofNat_of_zero_le (show 0 ≤ a0_1 by omega)
    obtain ⟨b, rfl⟩ := Int.eq_ofNat_of_zero_le (show 0 ≤ a0_2 by omega)
    obtain ⟨p, rfl⟩ := Int.eq_ofNat_of_zero_le (show 0 ≤ a0_3 by omega)
    exact geomPlaces_good c d b p a1 a2_0 a2_1 a2_2 a2_3 w hg
  · exact geomPlaces_bad a0_0 a0_1 a0_2 a0_3 a1 a2_0 a2_1 a2_2 a2_3 w hg

set_option maxRecDepth 100000 in
theorem lifted (os : Os) (started : os.Started) (H : Type) (enc : TypeId × Value → H) :
    ReturnsInHanded {} Try.checked os 6 .any (Rows.geomPlacesSpec.pre6 enc Try.prog Try.f6 Rows.geomPlacesRow.domain false) (Rows.geomPlacesSpec.post enc Try.prog Try.f6 false true false false) := by
  refine returnsInHanded_of_change (C := Try.checked) own started (by kernel_rfl) Try.func6
    (ChangeSpec.witness6 (enc := enc) (C := Try.checked) false ⟨#[], #[.agg #[.int .i64 0, .int .i64 0, .int .i64 0, .int .i64 0], .int .i64 0, .agg #[.int .i64 0, .int .i64 0, .int .i64 0, .int .i64 0]], []⟩ 8 (by kernel_rfl) (by kernel_rfl) (by kernel_rfl) (by kernel_rfl)) ?_
  intro W base args ds gs before hval0 hW hcnd _
  have hval : ∀ (j : Nat) t v, Try.f6.params[j]? = some t → args[j]? = some v → Value.okWide Try.prog W .any base t v := hval0
  have hW' := hW
  obtain ⟨p, q, hA0, hV, rfl, hfz, hnd⟩ := hW
  have hA : DataW.TrodAll enc Try.prog W 0 (fun _ => true) true Try.f6.params.toList args.toList ds p := hA0
  rw [Try.params6] at hA hval
  obtain ⟨v0, vs0, d0, ds0, p0, q0, hargs, rfl, rfl, h0, r0⟩ := trodAll_cons hA
  obtain ⟨v1, vs1, d1, ds1, p1, q1, rfl, rfl, rfl, h1, r1⟩ := trodAll_cons r0
  obtain ⟨v2, vs2, d2, ds2, p2, q2, rfl, rfl, rfl, h2, r2⟩ := trodAll_cons r1
  obtain ⟨rfl, rfl, rfl⟩ := trodAll_nil r2
  obtain rfl : args = #[v0, v1, v2] := by cases args; simp_all
  obtain ⟨rfl, rfl⟩ := trodVars_none hV
  have k0 := h0
  have lt0 : ∀ x ∈ p0, x.block < W.heap.size := by obtain ⟨m, hm⟩ := k0; exact DataW.trod_lt m _ _ _ hm
  obtain ⟨vs0', rfl, len0, all0⟩ := open_struct (ks := [.inl .i64, .inl .i64, .inl .i64, .inl .i64]) Try.underlying45 (by kernel_rfl) (by kernel_rfl) rfl (fun j k hj => by
      match j, hj with
      | 0, hj => cases hj; exact ⟨_, rfl, Try.underlying3⟩
      | 1, hj => cases hj; exact ⟨_, rfl, Try.underlying3⟩
      | 2, hj => cases hj; exact ⟨_, rfl, Try.underlying3⟩
      | 3, hj => cases hj; exact ⟨_, rfl, Try.underlying3⟩
      | q + 4, hj => simp at hj) (hval 0 45 v0 rfl rfl) h0
  obtain ⟨x0_0, x0_1, x0_2, x0_3, rfl⟩ := list4 len0
  obtain ⟨_, g0_0, ⟨a0_0, e0_0, w0_0⟩⟩ := all0 0 _ rfl
  obtain rfl := Option.some.inj g0_0
  subst e0_0
  obtain ⟨_, g0_1, ⟨a0_1, e0_1, w0_1⟩⟩ := all0 1 _ rfl
  obtain rfl := Option.some.inj g0_1
  subst e0_1
  obtain ⟨_, g0_2, ⟨a0_2, e0_2, w0_2⟩⟩ := all0 2 _ rfl
  obtain rfl := Option.some.inj g0_2
  subst e0_2
  obtain ⟨_, g0_3, ⟨a0_3, e0_3, w0_3⟩⟩ := all0 3 _ rfl
  obtain rfl := Option.some.inj g0_3
  subst e0_3
  obtain ⟨a1, rfl, rfl, rfl, w1⟩ := open_int Try.underlying3 (hval 1 3 v1 rfl rfl) h1
  have k2 := h2
  have lt2 : ∀ x ∈ p2, x.block < W.heap.size := by obtain ⟨m, hm⟩ := k2; exact DataW.trod_lt m _ _ _ hm
  obtain ⟨vs2', rfl, len2, all2⟩ := open_struct (ks := [.inl .i64, .inl .i64, .inl .i64, .inl .i64]) Try.underlying47 (by kernel_rfl) (by kernel_rfl) rfl (fun j k hj => by
      match j, hj with
      | 0, hj => cases hj; exact ⟨_, rfl, Try.underlying3⟩
      | 1, hj => cases hj; exact ⟨_, rfl, Try.underlying3⟩
      | 2, hj => cases hj; exact ⟨_, rfl, Try.underlying3⟩
      | 3, hj => cases hj; exact ⟨_, rfl, Try.underlying3⟩
      | q + 4, hj => simp at hj) (hval 2 47 v2 rfl rfl) h2
  obtain ⟨x2_0, x2_1, x2_2, x2_3, rfl⟩ := list4 len2
  obtain ⟨_, g2_0, ⟨a2_0, e2_0, w2_0⟩⟩ := all2 0 _ rfl
  obtain rfl := Option.some.inj g2_0
  subst e2_0
  obtain ⟨_, g2_1, ⟨a2_1, e2_1, w2_1⟩⟩ := all2 1 _ rfl
  obtain rfl := Option.some.inj g2_1
  subst e2_1
  obtain ⟨_, g2_2, ⟨a2_2, e2_2, w2_2⟩⟩ := all2 2 _ rfl
  obtain rfl := Option.some.inj g2_2
  subst e2_2
  obtain ⟨_, g2_3, ⟨a2_3, e2_3, w2_3⟩⟩ := all2 3 _ rfl
  obtain rfl := Option.some.inj g2_3
  subst e2_3
  clear hA0 hval0
  refine (walk a0_0 a0_1 a0_2 a0_3 a1 a2_0 a2_1 a2_2 a2_3 W w0_0 w0_1 w0_2 w0_3 w1 w2_0 w2_1 w2_2 w2_3).mono fun e W' ⟨he, bel⟩ => ?_
  subst he
  exact ⟨_, rfl, _, _, _, [], _, [], hW', trodAll_mk1 (shut_bool Try.underlying4 _), (trodAll_cons_mk (Below.trod laidOut (by kernel_rfl) (of_decide_eq_true (by kernel_rfl)) k0 bel lt0) (trodAll_cons_mk (shut_int Try.underlying3 w1) (trodAll_cons_mk (Below.trod laidOut (by kernel_rfl) (of_decide_eq_true (by kernel_rfl)) k2 bel lt2) trodAll_mk0))), rfl, bel.frame _, fun h => by cases h⟩

theorem over : Rows.geomPlacesRow.holds Try.pinned (OpenSpec.ofChange Rows.geomPlacesSpec) :=
  OpenClaim.holds_of_wide 6 Try.f6 rfl rfl rfl rfl rfl rfl rfl ⟨rfl, rfl, rfl, rfl, rfl⟩ rfl rfl rfl rfl rfl (by kernel_rfl) Try.func6 (by kernel_rfl)
    (of_decide_eq_true (by kernel_rfl)) (by unfold Func.isWrapper; first | (rw [if_pos (by decide +kernel)]; kernel_rfl) | (rw [if_neg (by decide +kernel)]; exact ⟨rfl, rfl⟩))
    (fun os started H enc _ => lifted os started H enc)

theorem proved : Rows.GeomPlacesSaid := over
end Go.Proofs.Ytlbgakhoillpcaa.geomPlaces
