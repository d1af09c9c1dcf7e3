/-
  THE LAW QueueNone: whatever the input, the function returns true, and each argument reads behind the call as it read before. No condition.
-/
import Derived.Test.YtlljkcpopfencaaRows
import Derived.WalkKit
import Derived.ProofKit
import Derived.OpenShut
import Derived.ShutString
import Derived.ChangeOld
import Derived.Below
import Derived.Test.YtlljkcpopfencaaRec
import Derived.Test.YtlljkcpopfencaaLH
namespace Go.Proofs.Ytlljkcpopfencaa.queueNone
open Go.ChangeShapes Go.WideShapes Go.ChangeAt Go.RowKit
open Go.ChangeMaps (open_string shut_string)
set_option linter.unusedVariables false

theorem own : ownKnob Try.prog.godebug = none := by kernel_rfl
theorem laidOut : laidOutB Try.prog = true := by kernel_rfl

theorem walk (a0_0 : Int) (a0_1 : Int) (a0_2 : ByteArray) (a1_0 : Int) (a1_1 : Int) (a1_2 : ByteArray) (w : World) (w0_0 : (Lit.int .i64 a0_0).wf = true) (w0_1 : (Lit.int .i64 a0_1).wf = true) (w0_2 : a0_2.size ≤ maxLen) (w1_0 : (Lit.int .i64 a1_0).wf = true) (w1_1 : (Lit.int .i64 a1_1).wf = true) (w1_2 : a1_2.size ≤ maxLen) :
    Calls Try.prog 4 #[.agg #[.int .i64 a0_0, .int .i64 a0_1, .string a0_2], .agg #[.int .i64 a1_0, .int .i64 a1_1, .string a1_2]] w fun e w' => e = .returned (.bool true) ∧ Below w.heap.size w w' := by
  exact queueNone_own ⟨a0_0, a0_1, a0_2⟩ ⟨a1_0, a1_1, a1_2⟩ w

set_option maxRecDepth 100000 in
theorem lifted (os : Os) (started : os.Started) (H : Type) (enc : TypeId × Value → H) :
    ReturnsInHanded {} Try.checked os 4 .any (Rows.queueNoneSpec.pre6 enc Try.prog Try.f4 Rows.queueNoneRow.domain false) (Rows.queueNoneSpec.post enc Try.prog Try.f4 false true false false) := by
  refine returnsInHanded_of_change (C := Try.checked) own started (by kernel_rfl) Try.func4
    (ChangeSpec.witness6 (enc := enc) (C := Try.checked) false ⟨#[], #[.agg #[.int .i64 0, .int .i64 0, .string ByteArray.empty], .agg #[.int .i64 0, .int .i64 0, .string ByteArray.empty]], []⟩ 8 (by kernel_rfl) (by kernel_rfl) (by kernel_rfl) (by kernel_rfl)) ?_
  intro W base args ds gs before hval0 hW hcnd _
  have hval : ∀ (j : Nat) t v, Try.f4.params[j]? = some t → args[j]? = some v → Value.okWide Try.prog W .any base t v := hval0
  have hW' := hW
  obtain ⟨p, q, hA0, hV, rfl, hfz, hnd⟩ := hW
  have hA : DataW.TrodAll enc Try.prog W 0 (fun _ => true) true Try.f4.params.toList args.toList ds p := hA0
  rw [Try.params4] at hA hval
  obtain ⟨v0, vs0, d0, ds0, p0, q0, hargs, rfl, rfl, h0, r0⟩ := trodAll_cons hA
  obtain ⟨v1, vs1, d1, ds1, p1, q1, rfl, rfl, rfl, h1, r1⟩ := trodAll_cons r0
  obtain ⟨rfl, rfl, rfl⟩ := trodAll_nil r1
  obtain rfl : args = #[v0, v1] := by cases args; simp_all
  obtain ⟨rfl, rfl⟩ := trodVars_none hV
  have k0 := h0
  have lt0 : ∀ x ∈ p0, x.block < W.heap.size := by obtain ⟨m, hm⟩ := k0; exact DataW.trod_lt m _ _ _ hm
  obtain ⟨vs0', rfl, len0, all0⟩ := open_struct (ks := [.inl .i64, .inl .i64, .inr true]) Try.underlying29 (by kernel_rfl) (by kernel_rfl) rfl (fun j k hj => by
      match j, hj with
      | 0, hj => cases hj; exact ⟨_, rfl, Try.underlying3⟩
      | 1, hj => cases hj; exact ⟨_, rfl, Try.underlying3⟩
      | 2, hj => cases hj; exact ⟨_, rfl, Try.underlying9⟩
      | q + 3, hj => simp at hj) (hval 0 29 v0 rfl rfl) h0
  obtain ⟨x0_0, x0_1, x0_2, rfl⟩ := list3 len0
  obtain ⟨_, g0_0, ⟨a0_0, e0_0, w0_0⟩⟩ := all0 0 _ rfl
  obtain rfl := Option.some.inj g0_0
  subst e0_0
  obtain ⟨_, g0_1, ⟨a0_1, e0_1, w0_1⟩⟩ := all0 1 _ rfl
  obtain rfl := Option.some.inj g0_1
  subst e0_1
  obtain ⟨_, g0_2, ⟨a0_2, e0_2, w0_2⟩⟩ := all0 2 _ rfl
  obtain rfl := Option.some.inj g0_2
  subst e0_2
  have k1 := h1
  have lt1 : ∀ x ∈ p1, x.block < W.heap.size := by obtain ⟨m, hm⟩ := k1; exact DataW.trod_lt m _ _ _ hm
  obtain ⟨vs1', rfl, len1, all1⟩ := open_struct (ks := [.inl .i64, .inl .i64, .inr true]) Try.underlying32 (by kernel_rfl) (by kernel_rfl) rfl (fun j k hj => by
      match j, hj with
      | 0, hj => cases hj; exact ⟨_, rfl, Try.underlying3⟩
      | 1, hj => cases hj; exact ⟨_, rfl, Try.underlying30⟩
      | 2, hj => cases hj; exact ⟨_, rfl, Try.underlying9⟩
      | q + 3, hj => simp at hj) (hval 1 32 v1 rfl rfl) h1
  obtain ⟨x1_0, x1_1, x1_2, rfl⟩ := list3 len1
  obtain ⟨_, g1_0, ⟨a1_0, e1_0, w1_0⟩⟩ := all1 0 _ rfl
  obtain rfl := Option.some.inj g1_0
  subst e1_0
  obtain ⟨_, g1_1, ⟨a1_1, e1_1, w1_1⟩⟩ := all1 1 _ rfl
  obtain rfl := Option.some.inj g1_1
  subst e1_1
  obtain ⟨_, g1_2, ⟨a1_2, e1_2, w1_2⟩⟩ := all1 2 _ rfl
  obtain rfl := Option.some.inj g1_2
  subst e1_2
  clear hA0 hval0
  refine (walk a0_0 a0_1 a0_2 a1_0 a1_1 a1_2 W w0_0 w0_1 w0_2 w1_0 w1_1 w1_2).mono fun e W' ⟨he, bel⟩ => ?_
  subst he
  exact ⟨_, rfl, _, _, _, [], _, [], hW', trodAll_mk1 (shut_bool Try.underlying4 _), (trodAll_cons_mk (Below.trod laidOut (by kernel_rfl) (of_decide_eq_true (by kernel_rfl)) k0 bel lt0) (trodAll_cons_mk (Below.trod laidOut (by kernel_rfl) (of_decide_eq_true (by kernel_rfl)) k1 bel lt1) trodAll_mk0)), rfl, bel.frame _, fun h => by cases h⟩

theorem over : Rows.queueNoneRow.holds Try.pinned (OpenSpec.ofChange Rows.queueNoneSpec) :=
  OpenClaim.holds_of_wide 4 Try.f4 rfl rfl rfl rfl rfl rfl rfl ⟨rfl, rfl, rfl, rfl, rfl⟩ rfl rfl rfl rfl rfl (by kernel_rfl) Try.func4 (by kernel_rfl)
    (of_decide_eq_true (by kernel_rfl)) (by unfold Func.isWrapper; first | (rw [if_pos (by decide +kernel)]; kernel_rfl) | (rw [if_neg (by decide +kernel)]; exact ⟨rfl, rfl⟩))
    (fun os started H enc _ => lifted os started H enc)

theorem proved : Rows.QueueNoneSaid := over
end Go.Proofs.Ytlljkcpopfencaa.queueNone
