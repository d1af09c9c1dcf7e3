/-
  THE LAW TagBytes: whatever the input, the function returns true, and each argument reads behind the call as it read before. No condition.
-/
import Derived.Test.YtjlecncamfdcfaaDoorRows
import Derived.WalkKit
import Derived.ProofKit
import Derived.OpenShut
import Derived.ShutString
import Derived.ChangeOld
import Derived.Below
import Derived.Test.YtjlecncamfdcfaaDoorRec
import Derived.Test.YtjlecncamfdcfaaDoorTH
import Derived.Test.YtjlecncamfdcfaaDoorTL
import Derived.Test.YtjlecncamfdcfaaDoorCards
import Derived.SevenTiedAt
namespace Go.Proofs.YtjlecncamfdcfaaDoor.tagBytes
open Go.ChangeShapes Go.WideShapes Go.ChangeAt Go.RowKit
open Go.ChangeMaps (open_string shut_string)
set_option linter.unusedVariables false

theorem own : ownKnob Tryd.prog.godebug = none := by kernel_rfl
theorem laidOut : laidOutB Tryd.prog = true := by kernel_rfl

theorem walk (a0_0 : Int) (a0_1 : Int) (a0_2 : Int) (a0_3 : Int) (a0_4 : Int) (a0_5 : Bool) (a1_0 : Int) (a1_1 : Int) (a1_2 : Int) (a1_3 : Int) (a1_4 : Int) (a1_5 : Bool) (w : World) (w0_0 : (Lit.int .i64 a0_0).wf = true) (w0_1 : (Lit.int .i64 a0_1).wf = true) (w0_2 : (Lit.int .i64 a0_2).wf = true) (w0_3 : (Lit.int .i64 a0_3).wf = true) (w0_4 : (Lit.int .i64 a0_4).wf = true) (w1_0 : (Lit.int .i64 a1_0).wf = true) (w1_1 : (Lit.int .i64 a1_1).wf = true) (w1_2 : (Lit.int .i64 a1_2).wf = true) (w1_3 : (Lit.int .i64 a1_3).wf = true) (w1_4 : (Lit.int .i64 a1_4).wf = true) (hD : Flds w) :
    Calls Tryd.prog 3 #[.agg #[.int .i64 a0_0, .int .i64 a0_1, .int .i64 a0_2, .int .i64 a0_3, .int .i64 a0_4, .bool a0_5], .agg #[.int .i64 a1_0, .int .i64 a1_1, .int .i64 a1_2, .int .i64 a1_3, .int .i64 a1_4, .bool a1_5]] w fun e w' => e = .returned (.bool true) ∧ Below w.heap.size w w' := by
  refine (tagBytesLaw_any a0_0 a0_1 a0_2 a0_3 a0_4 a0_5 a1_0 a1_1 a1_2 a1_3 a1_4 a1_5 w hD).mono ?_
  rintro e w' ⟨rfl, hg⟩
  exact ⟨rfl, ext_below8 hg⟩

set_option maxRecDepth 100000 in
theorem lifted (os : Os) (started : os.Started) (H : Type) (enc : TypeId × Value → H) :
    ReturnsInHanded {} Tryd.checked os 3 .any (fun w args => (Rows.tagBytesSpec.pre enc Tryd.prog Tryd.f3 [] false w args ∧ laidMetH Tryd.prog laidTag w) ∧ sizedMet enc Tryd.prog Tryd.f3 (OpenSpec.ofChange Rows.tagBytesSpec) false w args) (Rows.tagBytesSpec.post enc Tryd.prog Tryd.f3 false true false false) := by
  refine returnsInHanded_of_change_and (C := Tryd.checked) (X := fun w _ => laidMetH Tryd.prog laidTag w) (fun _ _ _ hh h => h.of_heap hh) own started (by kernel_rfl) Tryd.func3
    (ChangeSpec.witness_shaped (enc := enc) (C := Tryd.checked) (os := os) (X := fun w _ => laidMetH Tryd.prog laidTag w) false (World.doorLaid Tryd.prog 19 os) #[.agg #[.int .i64 0, .int .i64 0, .int .i64 0, .int .i64 0, .int .i64 0, .bool false], .agg #[.int .i64 0, .int .i64 0, .int .i64 0, .int .i64 0, .int .i64 0, .bool false]] 8 rfl (World.shaped_of_RefB (by kernel_rfl) (by kernel_rfl)) (by kernel_rfl) (by kernel_rfl) (by kernel_rfl) (door_met os _)) ?_
  intro W base args ds gs before hval0 hW _ _ hL _
  have hval : ∀ (j : Nat) t v, Tryd.f3.params[j]? = some t → args[j]? = some v → Value.okWide Tryd.prog W .any base t v := hval0
  have hW' := hW
  obtain ⟨p, q, hA0, hV, rfl, hfz, hnd⟩ := hW
  have hA : DataW.TrodAll enc Tryd.prog W 0 (fun _ => true) true Tryd.f3.params.toList args.toList ds p := hA0
  rw [Tryd.params3] at hA hval
  obtain ⟨v0, vs0, d0, ds0, p0, q0, hargs, rfl, rfl, h0, r0⟩ := trodAll_cons hA
  obtain ⟨v1, vs1, d1, ds1, p1, q1, rfl, rfl, rfl, h1, r1⟩ := trodAll_cons r0
  obtain ⟨rfl, rfl, rfl⟩ := trodAll_nil r1
  have hD := flds_of hL
  obtain rfl : args = #[v0, v1] := by cases args; simp_all
  obtain ⟨rfl, rfl⟩ := trodVars_none hV
  have k0 := h0
  have lt0 : ∀ x ∈ p0, x.block < W.heap.size := by obtain ⟨m, hm⟩ := k0; exact DataW.trod_lt m _ _ _ hm
  obtain ⟨vs0', rfl, len0, all0⟩ := open_struct (ks := [.inl .i64, .inl .i64, .inl .i64, .inl .i64, .inl .i64, .inr false]) Tryd.underlying23 (by kernel_rfl) (by kernel_rfl) rfl (fun j k hj => by
      match j, hj with
      | 0, hj => cases hj; exact ⟨_, rfl, Tryd.underlying3⟩
      | 1, hj => cases hj; exact ⟨_, rfl, Tryd.underlying3⟩
      | 2, hj => cases hj; exact ⟨_, rfl, Tryd.underlying3⟩
      | 3, hj => cases hj; exact ⟨_, rfl, Tryd.underlying3⟩
      | 4, hj => cases hj; exact ⟨_, rfl, Tryd.underlying3⟩
      | 5, hj => cases hj; exact ⟨_, rfl, Tryd.underlying4⟩
      | q + 6, hj => simp at hj) (hval 0 23 v0 rfl rfl) h0
  obtain ⟨x0_0, x0_1, x0_2, x0_3, x0_4, x0_5, rfl⟩ := list6 len0
  obtain ⟨_, g0_0, ⟨a0_0, e0_0, w0_0⟩⟩ := all0 0 _ rfl
  obtain rfl := Option.some.inj g0_0
  subst e0_0
  obtain ⟨_, g0_1, ⟨a0_1, e0_1, w0_1⟩⟩ := all0 1 _ rfl
  obtain rfl := Option.some.inj g0_1
  subst e0_1
  obtain ⟨_, g0_2, ⟨a0_2, e0_2, w0_2⟩⟩ := all0 2 _ rfl
  obtain rfl := Option.some.inj g0_2
  subst e0_2
  obtain ⟨_, g0_3, ⟨a0_3, e0_3, w0_3⟩⟩ := all0 3 _ rfl
  obtain rfl := Option.some.inj g0_3
  subst e0_3
  obtain ⟨_, g0_4, ⟨a0_4, e0_4, w0_4⟩⟩ := all0 4 _ rfl
  obtain rfl := Option.some.inj g0_4
  subst e0_4
  obtain ⟨_, g0_5, ⟨a0_5, e0_5⟩⟩ := all0 5 _ rfl
  obtain rfl := Option.some.inj g0_5
  subst e0_5
  have k1 := h1
  have lt1 : ∀ x ∈ p1, x.block < W.heap.size := by obtain ⟨m, hm⟩ := k1; exact DataW.trod_lt m _ _ _ hm
  obtain ⟨vs1', rfl, len1, all1⟩ := open_struct (ks := [.inl .i64, .inl .i64, .inl .i64, .inl .i64, .inl .i64, .inr false]) Tryd.underlying23 (by kernel_rfl) (by kernel_rfl) rfl (fun j k hj => by
      match j, hj with
      | 0, hj => cases hj; exact ⟨_, rfl, Tryd.underlying3⟩
      | 1, hj => cases hj; exact ⟨_, rfl, Tryd.underlying3⟩
      | 2, hj => cases hj; exact ⟨_, rfl, Tryd.underlying3⟩
      | 3, hj => cases hj; exact ⟨_, rfl, Tryd.underlying3⟩
      | 4, hj => cases hj; exact ⟨_, rfl, Tryd.underlying3⟩
      | 5, hj => cases hj; exact ⟨_, rfl, Tryd.underlying4⟩
      | q + 6, hj => simp at hj) (hval 1 23 v1 rfl rfl) h1
  obtain ⟨x1_0, x1_1, x1_2, x1_3, x1_4, x1_5, rfl⟩ := list6 len1
  obtain ⟨_, g1_0, ⟨a1_0, e1_0, w1_0⟩⟩ := all1 0 _ rfl
  obtain rfl := Option.some.inj g1_0
  subst e1_0
  obtain ⟨_, g1_1, ⟨a1_1, e1_1, w1_1⟩⟩ := all1 1 _ rfl
  obtain rfl := Option.some.inj g1_1
  subst e1_1
  obtain ⟨_, g1_2, ⟨a1_2, e1_2, w1_2⟩⟩ := all1 2 _ rfl
  obtain rfl := Option.some.inj g1_2
  subst e1_2
  obtain ⟨_, g1_3, ⟨a1_3, e1_3, w1_3⟩⟩ := all1 3 _ rfl
  obtain rfl := Option.some.inj g1_3
  subst e1_3
  obtain ⟨_, g1_4, ⟨a1_4, e1_4, w1_4⟩⟩ := all1 4 _ rfl
  obtain rfl := Option.some.inj g1_4
  subst e1_4
  obtain ⟨_, g1_5, ⟨a1_5, e1_5⟩⟩ := all1 5 _ rfl
  obtain rfl := Option.some.inj g1_5
  subst e1_5
  clear hA0 hval0
  refine (walk a0_0 a0_1 a0_2 a0_3 a0_4 a0_5 a1_0 a1_1 a1_2 a1_3 a1_4 a1_5 W w0_0 w0_1 w0_2 w0_3 w0_4 w1_0 w1_1 w1_2 w1_3 w1_4 hD).mono fun e W' ⟨he, bel⟩ => ?_
  subst he
  exact ⟨_, rfl, _, _, _, [], _, [], hW', trodAll_mk1 (shut_bool Tryd.underlying4 _), (trodAll_cons_mk (Below.trod laidOut (by kernel_rfl) (of_decide_eq_true (by kernel_rfl)) k0 bel lt0) (trodAll_cons_mk (Below.trod laidOut (by kernel_rfl) (of_decide_eq_true (by kernel_rfl)) k1 bel lt1) trodAll_mk0)), rfl, bel.frame _, fun h => by cases h⟩

theorem over : Rows.tagBytesRow.holds Tryd.pinned (OpenSpec.ofChange Rows.tagBytesSpec) :=
  OpenClaim.holds_of_wide 3 Tryd.f3 rfl rfl rfl rfl rfl rfl rfl ⟨rfl, rfl, rfl, rfl, rfl⟩ rfl rfl rfl rfl rfl (by kernel_rfl) Tryd.func3 (by kernel_rfl)
    (of_decide_eq_true (by kernel_rfl)) (by unfold Func.isWrapper; first | (rw [if_pos (by decide +kernel)]; kernel_rfl) | (rw [if_neg (by decide +kernel)]; exact ⟨rfl, rfl⟩))
    (fun os started H enc _ => lifted os started H enc)

theorem card : Rows.TagBytesCardSaid :=
  Claim7.holds_tied_plain_at .later [] [.data] true (true, "9e38f3035a277b140a5e984021d98e7b2c7b7e700b83b7ed9e7d074b1580dea5") false
    over (fun _ h => by cases h) (by kernel_rfl) (fun _ h => by cases h) tagBytes_row_tie rfl ⟨rfl, rfl⟩ (by kernel_rfl) rfl
    (fun f fn hf hfn => by
      obtain rfl : f = 3 := Option.some.inj ((show Tryd.prog.funcNamed "almshouse/almshouselaw08.TagBytes" = some 3 by kernel_rfl).symm.trans hf) |>.symm
      obtain rfl : fn = Tryd.f3 := (Option.some.inj (Tryd.func3.symm.trans hfn)).symm
      exact ⟨by kernel_rfl, fun j t ht => by
        rw [Tryd.params3] at ht
        have hm : t ∈ [23, 23] := by simpa using Array.mem_of_getElem? ht
        have hall : ([23, 23].all fun u => !Tryd.prog.wantsStandIn u) = true := by kernel_rfl
        exact (show Tryd.prog.wantsStandIn t = false by simpa using List.all_eq_true.1 hall t hm)⟩)
    (by kernel_rfl)
end Go.Proofs.YtjlecncamfdcfaaDoor.tagBytes
