/-
  THE LAW PrefixBack: whatever the input, the function returns true, and each argument reads behind the call as it read before. No condition.
-/
import Derived.Test.YthailmoeggdfhaaRows
import Derived.WalkKit
import Derived.ProofKit
import Derived.OpenShut
import Derived.ShutString
import Derived.ChangeOld
import Derived.Below
import Derived.Test.YthailmoeggdfhaaRec
import Derived.Test.YthailmoeggdfhaaKS
import Derived.Test.YthailmoeggdfhaaRX
import Derived.Test.YthailmoeggdfhaaUL
namespace Go.Proofs.Ythailmoeggdfhaa.prefixBack
open Go.ChangeShapes Go.WideShapes Go.ChangeAt Go.RowKit
open Go.ChangeMaps (open_string shut_string)
set_option linter.unusedVariables false

theorem own : ownKnob Try.prog.godebug = none := by kernel_rfl
theorem laidOut : laidOutB Try.prog = true := by kernel_rfl

theorem walk (a0 : Option Addr) (len0 cap0 : Nat) (z0 : List ByteArray) (a1 : Option Addr) (len1 cap1 : Nat) (a2 : Int) (w : World) (w0 : IsStrs w a0 len0 cap0 z0) (s0 : ∀ x, a0 = some x → x.spot = none ∧ x.block < w.heap.size) (c0 : len0 ≤ cap0 ∧ cap0 ≤ 9223372036854775807) (b0 : ∀ s ∈ z0, s.size ≤ 140737488351232) (w1 : IsRecs [.inl .i64, .inr true] w a1 len1 cap1) (s1 : ∀ x, a1 = some x → x.spot = none ∧ x.block < w.heap.size) (w2 : (Lit.int .u8 a2).wf = true) (m0 : len0 * Try.prog.bytesOf 9 ≤ 140737488351232) (m1 : len1 * Try.prog.bytesOf 28 ≤ 140737488351232) :
    Calls Try.prog 4 #[.slice a0 len0 cap0, .slice a1 len1 cap1, .int .u8 a2] w fun e w' => e = .returned (.bool true) ∧ Below w.heap.size w w' := by
  obtain ⟨e1, e2, e3⟩ := txR_of w0 (fun x hx => (s0 x hx).1)
  obtain ⟨X, f1, f2, f3⟩ := chT_recs w1 (fun x hx => (s1 x hx).1)
  rw [show Try.prog.bytesOf 9 = 16 by kernel_rfl] at m0
  rw [show Try.prog.bytesOf 28 = 24 by kernel_rfl] at m1
  obtain ⟨u, rfl, hu⟩ : ∃ u : Nat, a2 = u ∧ u ≤ 255 := by
    have := w2
    simp [Lit.wf, IntKind.min, IntKind.max, IntKind.bits, IntKind.signed] at this
    exact ⟨a2.toNat, by omega, by omega⟩
  have H := prefixBack_any (fix24_of aft_c find_c long_c) aft_c find_c long_c w a0 a1 cap0 cap1 u (z0.take len0) X e1 (by rw [e2]; exact e3) f2 (by rw [f1]; exact f3) hu (by omega) (by omega)
  rw [e2, f1] at H
  exact H.mono fun e w' h => ⟨h.1, h.2.os, h.2.tape, h.2.output, h.2.size, fun k hk => h.2.block k hk (by simp)⟩

set_option maxRecDepth 100000 in
theorem lifted (os : Os) (started : os.Started) (H : Type) (enc : TypeId × Value → H) :
    ReturnsInHanded {} Try.checked os 4 .any (Rows.prefixBackSpec.pre6 enc Try.prog Try.f4 Rows.prefixBackRow.domain false) (Rows.prefixBackSpec.post enc Try.prog Try.f4 false true false false) := by
  refine returnsInHanded_of_change_sized (C := Try.checked) own started (by kernel_rfl) Try.func4
    (ChangeSpec.witness6 (enc := enc) (C := Try.checked) false ⟨#[], #[.slice none 0 0, .slice none 0 0, .int .u8 0], []⟩ 8 (by kernel_rfl) (by kernel_rfl) (by kernel_rfl) (by kernel_rfl)) ?_
  intro W base args ds gs before hval0 hW hcnd hsz _
  have hval : ∀ (j : Nat) t v, Try.f4.params[j]? = some t → args[j]? = some v → Value.okWide Try.prog W .any base t v := hval0
  have hW' := hW
  obtain ⟨p, q, hA0, hV, rfl, hfz, hnd⟩ := hW
  have hA : DataW.TrodAll enc Try.prog W 0 (fun _ => true) true Try.f4.params.toList args.toList ds p := hA0
  rw [Try.params4] at hA hval
  obtain ⟨v0, vs0, d0, ds0, p0, q0, hargs, rfl, rfl, h0, r0⟩ := trodAll_cons hA
  obtain ⟨v1, vs1, d1, ds1, p1, q1, rfl, rfl, rfl, h1, r1⟩ := trodAll_cons r0
  obtain ⟨v2, vs2, d2, ds2, p2, q2, rfl, rfl, rfl, h2, r2⟩ := trodAll_cons r1
  obtain ⟨rfl, rfl, rfl⟩ := trodAll_nil r2
  obtain rfl : args = #[v0, v1, v2] := by cases args; simp_all
  obtain ⟨rfl, rfl⟩ := trodVars_none hV
  obtain ⟨a0, len0, cap0, rfl⟩ := okWide_slice Try.underlying22 (hval 0 22 v0 rfl rfl)
  have k0 := h0
  have m0 : len0 * Try.prog.bytesOf 9 ≤ 140737488351232 := by
    obtain ⟨fuel, hf⟩ := h0
    exact slice_reach Try.underlying22 (by simpa [Value.cells] using hf) (fun n hn => by have := List.all_eq_true.1 hsz n (DataW.weights_mem_each (j := 0) (t := 22) rfl rfl n hn); simpa using this)
  have lt0 : ∀ x ∈ p0, x.block < W.heap.size := by obtain ⟨m, hm⟩ := k0; exact DataW.trod_lt m _ _ _ hm
  obtain ⟨z0, w0, b0⟩ : ∃ ss, IsStrs W a0 len0 cap0 ss ∧ ∀ s ∈ ss, s.size ≤ 140737488351232 := by
    obtain ⟨fuel, hf⟩ := h0
    exact open_strs_sized Try.underlying22 Try.underlying9 (by kernel_rfl) (by simpa [Value.cells] using hf) (fun n hn => by have := List.all_eq_true.1 hsz n (DataW.weights_mem_each (j := 0) (t := 22) rfl rfl n hn); simpa using this)
  obtain ⟨a1, len1, cap1, rfl⟩ := okWide_slice Try.underlying23 (hval 1 23 v1 rfl rfl)
  have k1 := h1
  have m1 : len1 * Try.prog.bytesOf 28 ≤ 140737488351232 := by
    obtain ⟨fuel, hf⟩ := h1
    exact slice_reach Try.underlying23 (by simpa [Value.cells] using hf) (fun n hn => by have := List.all_eq_true.1 hsz n (DataW.weights_mem_each (j := 1) (t := 23) rfl rfl n hn); simpa using this)
  have lt1 : ∀ x ∈ p1, x.block < W.heap.size := by obtain ⟨m, hm⟩ := k1; exact DataW.trod_lt m _ _ _ hm
  have w1 : IsRecs [.inl .i64, .inr true] W a1 len1 cap1 := by
    obtain ⟨fuel, hf⟩ := h1
    exact open_recs Try.underlying23 Try.underlying28 (by kernel_rfl) (by kernel_rfl) rfl (fun j k hj => by
        match j, hj with
        | 0, hj => cases hj; exact ⟨_, rfl, Try.underlying3⟩
        | 1, hj => cases hj; exact ⟨_, rfl, Try.underlying9⟩
        | q + 2, hj => simp at hj) (by simpa [Value.cells] using hf)
  obtain ⟨a2, rfl, rfl, rfl, w2⟩ := open_int Try.underlying5 (hval 2 5 v2 rfl rfl) h2
  clear hA0 hval0
  refine (walk a0 len0 cap0 z0 a1 len1 cap1 a2 W w0 (fun x hx => by subst hx; exact slice_good Try.underlying22 (hval 0 22 _ rfl rfl)) (slice_lens Try.underlying22 (hval 0 22 _ rfl rfl)) b0 w1 (fun x hx => by subst hx; exact slice_good Try.underlying23 (hval 1 23 _ rfl rfl)) w2 m0 m1).mono fun e W' ⟨he, bel⟩ => ?_
  subst he
  exact ⟨_, rfl, _, _, _, [], _, [], hW', trodAll_mk1 (shut_bool Try.underlying4 _), (trodAll_cons_mk (Below.trod laidOut (by kernel_rfl) (of_decide_eq_true (by kernel_rfl)) k0 bel lt0) (trodAll_cons_mk (Below.trod laidOut (by kernel_rfl) (of_decide_eq_true (by kernel_rfl)) k1 bel lt1) (trodAll_cons_mk (shut_int Try.underlying5 w2) trodAll_mk0))), rfl, bel.frame _, fun h => by cases h⟩

theorem over : Rows.prefixBackRow.holds Try.pinned (OpenSpec.ofChange Rows.prefixBackSpec) :=
  OpenClaim.holds_of_wide 4 Try.f4 rfl rfl rfl rfl rfl rfl rfl ⟨rfl, rfl, rfl, rfl, rfl⟩ rfl rfl rfl rfl rfl (by kernel_rfl) Try.func4 (by kernel_rfl)
    (of_decide_eq_true (by kernel_rfl)) (by unfold Func.isWrapper; first | (rw [if_pos (by decide +kernel)]; kernel_rfl) | (rw [if_neg (by decide +kernel)]; exact ⟨rfl, rfl⟩))
    (fun os started H enc _ => lifted os started H enc)

theorem proved : Rows.PrefixBackSaid := over
end Go.Proofs.Ythailmoeggdfhaa.prefixBack
