/-
  THE LAW PrefixFinds: whatever the input, the function returns true, and each argument reads behind the call as it read before. Where the input is of bulk at most 1048576 (the given statement's own bound).
-/
import Derived.Test.YthailmoeggdfhaaRows
import Derived.WalkKit
import Derived.ProofKit
import Derived.OpenShut
import Derived.ShutString
import Derived.ChangeOld
import Derived.Below
import Derived.Test.YthailmoeggdfhaaRec
import Derived.Test.YthailmoeggdfhaaKU
import Derived.Test.YthailmoeggdfhaaRX
import Derived.Test.YthailmoeggdfhaaUL
namespace Go.Proofs.Ythailmoeggdfhaa.prefixFinds
open Go.ChangeShapes Go.WideShapes Go.ChangeAt Go.RowKit
open Go.ChangeMaps (open_string shut_string)
set_option linter.unusedVariables false

theorem own : ownKnob Try.prog.godebug = none := by kernel_rfl
theorem laidOut : laidOutB Try.prog = true := by kernel_rfl

theorem walk (a0 : Option Addr) (len0 cap0 : Nat) (z0 : List ByteArray) (a1 : Option Addr) (len1 cap1 : Nat) (a2 : Option Addr) (len2 cap2 : Nat) (z2 : List ByteArray) (w : World) (w0 : IsStrs w a0 len0 cap0 z0) (s0 : ∀ x, a0 = some x → x.spot = none ∧ x.block < w.heap.size) (w1 : IsRecs [.inl .i64, .inr true] w a1 len1 cap1) (s1 : ∀ x, a1 = some x → x.spot = none ∧ x.block < w.heap.size) (w2 : IsStrs w a2 len2 cap2 z2) (s2 : ∀ x, a2 = some x → x.spot = none ∧ x.block < w.heap.size) (u0 : len0 ≤ 1048576) (u1 : len1 ≤ 1048576) (u2 : len2 ≤ 1048576) :
    Calls Try.prog 3 #[.slice a0 len0 cap0, .slice a1 len1 cap1, .slice a2 len2 cap2] w fun e w' => e = .returned (.bool true) ∧ Below w.heap.size w w' := by
  obtain ⟨e1, e2, e3⟩ := txR_of w0 (fun x hx => (s0 x hx).1)
  obtain ⟨X, f1, f2, f3⟩ := chT_recs w1 (fun x hx => (s1 x hx).1)
  obtain ⟨g1, g2, g3⟩ := txR_of w2 (fun x hx => (s2 x hx).1)
  have H := prefixFinds_any (fix24_of aft_c find_c long_c) aft_c find_c long_c w a0 a1 a2 cap0 cap1 cap2 (z0.take len0) (z2.take len2) X e1 (by rw [e2]; exact e3) f2 (by rw [f1]; exact f3) g1 (by rw [g2]; exact g3) (by omega) (by omega) (by omega)
  rw [e2, f1, g2] at H
  exact H.mono fun e w' h => ⟨h.1, h.2.os, h.2.tape, h.2.output, h.2.size, fun k hk => h.2.block k hk (by simp)⟩

set_option maxRecDepth 100000 in
theorem lifted (os : Os) (started : os.Started) (H : Type) (enc : TypeId × Value → H) (F : Stop.Interp) :
    ReturnsInHanded {} Try.checked os 3 .any ((Rows.OpenSpec.upto Rows.prefixFindsSpec).pre6 enc Try.prog Try.f3 Rows.prefixFindsUptoRow.domain false) (((Rows.OpenSpec.upto Rows.prefixFindsSpec).at F).post enc Try.prog Try.f3 false true false false) := by
  refine returnsInHanded_of_cond (C := Try.checked) (s := Rows.OpenSpec.upto Rows.prefixFindsSpec) (k := Rows.uptoSmall) rfl own started (by kernel_rfl) Try.func3
    (OpenSpec.witness (enc := enc) (C := Try.checked) (s := Rows.OpenSpec.upto Rows.prefixFindsSpec) (k := Rows.uptoSmall) rfl false ⟨#[], #[.slice none 0 0, .slice none 0 0, .slice none 0 0], []⟩ 8 (by kernel_rfl) (by kernel_rfl) (by kernel_rfl) (x := ([.nil, .nil, .nil], [], [])) (by kernel_rfl) rfl (by kernel_rfl)) ?_
  intro W base args ds gs before hval0 hW hcnd hk _
  have hval : ∀ (j : Nat) t v, Try.f3.params[j]? = some t → args[j]? = some v → Value.okWide Try.prog W .any base t v := hval0
  have hW' := hW
  obtain ⟨p, q, hA0, hV, rfl, hfz, hnd⟩ := hW
  have hA : DataW.TrodAll enc Try.prog W 0 (fun _ => true) true Try.f3.params.toList args.toList ds p := hA0
  rw [Try.params3] at hA hval
  obtain ⟨v0, vs0, d0, ds0, p0, q0, hargs, rfl, rfl, h0, r0⟩ := trodAll_cons hA
  obtain ⟨v1, vs1, d1, ds1, p1, q1, rfl, rfl, rfl, h1, r1⟩ := trodAll_cons r0
  obtain ⟨v2, vs2, d2, ds2, p2, q2, rfl, rfl, rfl, h2, r2⟩ := trodAll_cons r1
  obtain ⟨rfl, rfl, rfl⟩ := trodAll_nil r2
  obtain rfl : args = #[v0, v1, v2] := by cases args; simp_all
  obtain ⟨rfl, rfl⟩ := trodVars_none hV
  obtain ⟨a0, len0, cap0, rfl⟩ := okWide_slice Try.underlying22 (hval 0 22 v0 rfl rfl)
  have k0 := h0
  have u0 : len0 ≤ 1048576 := by
    obtain ⟨fuel, hf⟩ := h0
    exact slice_upto Try.underlying22 (by simpa [Value.cells] using hf) (bound_upto (by simp) hk)
  have lt0 : ∀ x ∈ p0, x.block < W.heap.size := by obtain ⟨m, hm⟩ := k0; exact DataW.trod_lt m _ _ _ hm
  obtain ⟨z0, w0⟩ : ∃ ss, IsStrs W a0 len0 cap0 ss := by
    obtain ⟨fuel, hf⟩ := h0
    exact open_strs7 Try.underlying22 Try.underlying9 (by kernel_rfl) (by simpa [Value.cells] using hf)
  obtain ⟨a1, len1, cap1, rfl⟩ := okWide_slice Try.underlying23 (hval 1 23 v1 rfl rfl)
  have k1 := h1
  have u1 : len1 ≤ 1048576 := by
    obtain ⟨fuel, hf⟩ := h1
    exact slice_upto Try.underlying23 (by simpa [Value.cells] using hf) (bound_upto (by simp) hk)
  have lt1 : ∀ x ∈ p1, x.block < W.heap.size := by obtain ⟨m, hm⟩ := k1; exact DataW.trod_lt m _ _ _ hm
  have w1 : IsRecs [.inl .i64, .inr true] W a1 len1 cap1 := by
    obtain ⟨fuel, hf⟩ := h1
    exact open_recs Try.underlying23 Try.underlying28 (by kernel_rfl) (by kernel_rfl) rfl (fun j k hj => by
        match j, hj with
        | 0, hj => cases hj; exact ⟨_, rfl, Try.underlying3⟩
        | 1, hj => cases hj; exact ⟨_, rfl, Try.underlying9⟩
        | q + 2, hj => simp at hj) (by simpa [Value.cells] using hf)
  obtain ⟨a2, len2, cap2, rfl⟩ := okWide_slice Try.underlying22 (hval 2 22 v2 rfl rfl)
  have k2 := h2
  have u2 : len2 ≤ 1048576 := by
    obtain ⟨fuel, hf⟩ := h2
    exact slice_upto Try.underlying22 (by simpa [Value.cells] using hf) (bound_upto (by simp) hk)
  have lt2 : ∀ x ∈ p2, x.block < W.heap.size := by obtain ⟨m, hm⟩ := k2; exact DataW.trod_lt m _ _ _ hm
  obtain ⟨z2, w2⟩ : ∃ ss, IsStrs W a2 len2 cap2 ss := by
    obtain ⟨fuel, hf⟩ := h2
    exact open_strs7 Try.underlying22 Try.underlying9 (by kernel_rfl) (by simpa [Value.cells] using hf)
  clear hA0 hval0
  refine (walk a0 len0 cap0 z0 a1 len1 cap1 a2 len2 cap2 z2 W w0 (fun x hx => by subst hx; exact slice_good Try.underlying22 (hval 0 22 _ rfl rfl)) w1 (fun x hx => by subst hx; exact slice_good Try.underlying23 (hval 1 23 _ rfl rfl)) w2 (fun x hx => by subst hx; exact slice_good Try.underlying22 (hval 2 22 _ rfl rfl)) u0 u1 u2).mono fun e W' ⟨he, bel⟩ => ?_
  subst he
  exact ⟨_, rfl, _, _, _, [], _, [], hW', trodAll_mk1 (shut_bool Try.underlying4 _), (trodAll_cons_mk (Below.trod laidOut (by kernel_rfl) (of_decide_eq_true (by kernel_rfl)) k0 bel lt0) (trodAll_cons_mk (Below.trod laidOut (by kernel_rfl) (of_decide_eq_true (by kernel_rfl)) k1 bel lt1) (trodAll_cons_mk (Below.trod laidOut (by kernel_rfl) (of_decide_eq_true (by kernel_rfl)) k2 bel lt2) trodAll_mk0))), rfl, bel.frame _, fun h => by cases h⟩

theorem over : Rows.prefixFindsUptoRow.holds Try.pinned (Rows.OpenSpec.upto Rows.prefixFindsSpec) :=
  OpenClaim.holds_of_cond 3 Try.f3 rfl rfl rfl rfl rfl rfl rfl ⟨rfl, rfl, rfl, rfl, rfl⟩ rfl rfl rfl rfl rfl (by kernel_rfl) Try.func3 (by kernel_rfl)
    (of_decide_eq_true (by kernel_rfl)) (by unfold Func.isWrapper; first | (rw [if_pos (by decide +kernel)]; kernel_rfl) | (rw [if_neg (by decide +kernel)]; exact ⟨rfl, rfl⟩))
    (fun os started H enc _ F => lifted os started H enc F)

theorem proved : Rows.PrefixFindsUptoSaid := over
end Go.Proofs.Ythailmoeggdfhaa.prefixFinds
