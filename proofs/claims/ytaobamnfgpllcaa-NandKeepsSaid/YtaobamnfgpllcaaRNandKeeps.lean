/-
  THE LAW NandKeeps: whatever the input, the function returns true, and each argument reads behind the call as it read before. No condition.
-/
import Derived.Test.YtaobamnfgpllcaaRows
import Derived.WalkKit
import Derived.ProofKit
import Derived.OpenShut
import Derived.ShutString
import Derived.ChangeOld
import Derived.Below
import Derived.Test.YtaobamnfgpllcaaRec
import Derived.Test.YtaobamnfgpllcaaRX
import Derived.Test.YtaobamnfgpllcaaNR
namespace Go.Proofs.Ytaobamnfgpllcaa.nandKeeps
open Go.ChangeShapes Go.WideShapes Go.ChangeAt Go.RowKit
open Go.ChangeMaps (open_string shut_string)
set_option linter.unusedVariables false

theorem own : ownKnob Try.prog.godebug = none := by kernel_rfl
theorem laidOut : laidOutB Try.prog = true := by kernel_rfl

theorem walk (a0_0 : Int) (a0_1 : Int) (a0_2 : Int) (a0_3 : Int) (a1 : Option Addr) (len1 cap1 : Nat) (z1 : List ByteArray) (a2 : Option Addr) (len2 cap2 : Nat) (w : World) (w0_0 : (Lit.int .i64 a0_0).wf = true) (w0_1 : (Lit.int .i64 a0_1).wf = true) (w0_2 : (Lit.int .i64 a0_2).wf = true) (w0_3 : (Lit.int .i64 a0_3).wf = true) (w1 : IsStrs w a1 len1 cap1 z1) (s1 : ∀ x, a1 = some x → x.spot = none ∧ x.block < w.heap.size) (w2 : IsRecX [.int .u8, .int .i64, .int .i64, .int .i64, .byts, .str, .bool] w a2 len2 cap2) (s2 : ∀ x, a2 = some x → x.spot = none ∧ x.block < w.heap.size) :
    Calls Try.prog 3 #[.agg #[.int .i64 a0_0, .int .i64 a0_1, .int .i64 a0_2, .int .i64 a0_3], .slice a1 len1 cap1, .slice a2 len2 cap2] w fun e w' => e = .returned (.bool true) ∧ Below w.heap.size w w' := by
  have hm1 : len1 ≤ 9223372036854775807 := by
    rcases w1 with ⟨_, h, _⟩ | ⟨_, _, h, h2, _⟩
    · omega
    · unfold maxLen at h2; omega
  have hm2 : len2 ≤ 9223372036854775807 := by
    rcases w2 with ⟨_, h, _⟩ | ⟨_, _, h, h2, _⟩
    · omega
    · unfold maxLen at h2; omega
  have fin : ∀ e w', TrueB7 w e w' → e = .returned (.bool true) ∧ Below w.heap.size w w' := fun e w' h => ⟨h.1, h.2.os, h.2.tape, h.2.output, h.2.size, fun k hk => h.2.block k hk (by simp)⟩
  by_cases hg : geoE a0_0 a0_1 a0_2 a0_3 = 0 ∧ ¬ (16 : Int) < len1
  · obtain ⟨g1, g2, g3, g4, g5, g6⟩ := geo_ok hg.1
    obtain ⟨pg, rfl⟩ := Int.eq_ofNat_of_zero_le (show 0 ≤ a0_3 by omega)
    obtain ⟨al, hal⟩ : ∃ al : Nat, a0_0 * a0_1 * a0_2 = al := ⟨(a0_0 * a0_1 * a0_2).toNat, by omega⟩
    exact (nandKeeps_good a0_0 a0_1 a0_2 pg al a1 len1 cap1 z1 a2 len2 cap2 w hg.1 hal w1 s1 w2 s2 hg.2 hm2).mono fin
  · have h2 : geoE a0_0 a0_1 a0_2 a0_3 ≠ 0 ∨ (16 : Int) < len1 := by
      by_cases h : geoE a0_0 a0_1 a0_2 a0_3 = 0
      · right; exact Classical.byContradiction fun hn => hg ⟨h, hn⟩
      · exact .inl h
    exact (nandKeeps_rest a0_0 a0_1 a0_2 a0_3 a1 len1 cap1 z1 a2 len2 cap2 w h2 w1 s1 w2 s2 hm1 hm2).mono fin

set_option maxRecDepth 100000 in
theorem lifted (os : Os) (started : os.Started) (H : Type) (enc : TypeId × Value → H) :
    ReturnsInHanded {} Try.checked os 3 .any (Rows.nandKeepsSpec.pre6 enc Try.prog Try.f3 Rows.nandKeepsRow.domain false) (Rows.nandKeepsSpec.post enc Try.prog Try.f3 false true false false) := by
  refine returnsInHanded_of_change (C := Try.checked) own started (by kernel_rfl) Try.func3
    (ChangeSpec.witness6 (enc := enc) (C := Try.checked) false ⟨#[], #[.agg #[.int .i64 0, .int .i64 0, .int .i64 0, .int .i64 0], .slice none 0 0, .slice none 0 0], []⟩ 8 (by kernel_rfl) (by kernel_rfl) (by kernel_rfl) (by kernel_rfl)) ?_
  intro W base args ds gs before hval0 hW hcnd _
  have hval : ∀ (j : Nat) t v, Try.f3.params[j]? = some t → args[j]? = some v → Value.okWide Try.prog W .any base t v := hval0
  have hW' := hW
  obtain ⟨p, q, hA0, hV, rfl, hfz, hnd⟩ := hW
  have hA : DataW.TrodAll enc Try.prog W 0 (fun _ => true) true Try.f3.params.toList args.toList ds p := hA0
  rw [Try.params3] at hA hval
  obtain ⟨v0, vs0, d0, ds0, p0, q0, hargs, rfl, rfl, h0, r0⟩ := trodAll_cons hA
  obtain ⟨v1, vs1, d1, ds1, p1, q1, rfl, rfl, rfl, h1, r1⟩ := trodAll_cons r0
  obtain ⟨v2, vs2, d2, ds2, p2, q2, rfl, rfl, rfl, h2, r2⟩ := trodAll_cons r1
  obtain ⟨rfl, rfl, rfl⟩ := trodAll_nil r2
  obtain rfl : args = #[v0, v1, v2] := by cases args; simp_all
  obtain ⟨rfl, rfl⟩ := trodVars_none hV
  have k0 := h0
  have lt0 : ∀ x ∈ p0, x.block < W.heap.size := by obtain ⟨m, hm⟩ := k0; exact DataW.trod_lt m _ _ _ hm
  obtain ⟨vs0', rfl, len0, all0⟩ := open_struct (ks := [.inl .i64, .inl .i64, .inl .i64, .inl .i64]) Try.underlying23 (by kernel_rfl) (by kernel_rfl) rfl (fun j k hj => by
      match j, hj with
      | 0, hj => cases hj; exact ⟨_, rfl, Try.underlying3⟩
      | 1, hj => cases hj; exact ⟨_, rfl, Try.underlying3⟩
      | 2, hj => cases hj; exact ⟨_, rfl, Try.underlying3⟩
      | 3, hj => cases hj; exact ⟨_, rfl, Try.underlying3⟩
      | q + 4, hj => simp at hj) (hval 0 23 v0 rfl rfl) h0
  obtain ⟨x0_0, x0_1, x0_2, x0_3, rfl⟩ := list4 len0
  obtain ⟨_, g0_0, ⟨a0_0, e0_0, w0_0⟩⟩ := all0 0 _ rfl
  obtain rfl := Option.some.inj g0_0
  subst e0_0
  obtain ⟨_, g0_1, ⟨a0_1, e0_1, w0_1⟩⟩ := all0 1 _ rfl
  obtain rfl := Option.some.inj g0_1
  subst e0_1
  obtain ⟨_, g0_2, ⟨a0_2, e0_2, w0_2⟩⟩ := all0 2 _ rfl
  obtain rfl := Option.some.inj g0_2
  subst e0_2
  obtain ⟨_, g0_3, ⟨a0_3, e0_3, w0_3⟩⟩ := all0 3 _ rfl
  obtain rfl := Option.some.inj g0_3
  subst e0_3
  obtain ⟨a1, len1, cap1, rfl⟩ := okWide_slice Try.underlying24 (hval 1 24 v1 rfl rfl)
  have k1 := h1
  have lt1 : ∀ x ∈ p1, x.block < W.heap.size := by obtain ⟨m, hm⟩ := k1; exact DataW.trod_lt m _ _ _ hm
  obtain ⟨z1, w1⟩ : ∃ ss, IsStrs W a1 len1 cap1 ss := by
    obtain ⟨fuel, hf⟩ := h1
    exact open_strs7 Try.underlying24 Try.underlying9 (by kernel_rfl) (by simpa [Value.cells] using hf)
  obtain ⟨a2, len2, cap2, rfl⟩ := okWide_slice Try.underlying25 (hval 2 25 v2 rfl rfl)
  have k2 := h2
  have lt2 : ∀ x ∈ p2, x.block < W.heap.size := by obtain ⟨m, hm⟩ := k2; exact DataW.trod_lt m _ _ _ hm
  have w2 : IsRecX [.int .u8, .int .i64, .int .i64, .int .i64, .byts, .str, .bool] W a2 len2 cap2 := by
    obtain ⟨fuel, hf⟩ := h2
    exact open_recX Try.underlying25 Try.underlying38 (by kernel_rfl) (by kernel_rfl) rfl (fun j k hj => by
        match j, hj with
        | 0, hj => cases hj; exact ⟨_, rfl, Try.underlying5⟩
        | 1, hj => cases hj; exact ⟨_, rfl, Try.underlying3⟩
        | 2, hj => cases hj; exact ⟨_, rfl, Try.underlying3⟩
        | 3, hj => cases hj; exact ⟨_, rfl, Try.underlying3⟩
        | 4, hj => cases hj; exact ⟨_, rfl, ⟨_, Try.underlying36, Try.underlying5, by kernel_rfl⟩⟩
        | 5, hj => cases hj; exact ⟨_, rfl, Try.underlying9⟩
        | 6, hj => cases hj; exact ⟨_, rfl, Try.underlying4⟩
        | q + 7, hj => simp at hj) (by simpa [Value.cells] using hf)
  clear hA0 hval0
  refine (walk a0_0 a0_1 a0_2 a0_3 a1 len1 cap1 z1 a2 len2 cap2 W w0_0 w0_1 w0_2 w0_3 w1 (fun x hx => by subst hx; exact slice_good Try.underlying24 (hval 1 24 _ rfl rfl)) w2 (fun x hx => by subst hx; exact slice_good Try.underlying25 (hval 2 25 _ rfl rfl))).mono fun e W' ⟨he, bel⟩ => ?_
  subst he
  exact ⟨_, rfl, _, _, _, [], _, [], hW', trodAll_mk1 (shut_bool Try.underlying4 _), (trodAll_cons_mk (Below.trod laidOut (by kernel_rfl) (of_decide_eq_true (by kernel_rfl)) k0 bel lt0) (trodAll_cons_mk (Below.trod laidOut (by kernel_rfl) (of_decide_eq_true (by kernel_rfl)) k1 bel lt1) (trodAll_cons_mk (Below.trod laidOut (by kernel_rfl) (of_decide_eq_true (by kernel_rfl)) k2 bel lt2) trodAll_mk0))), rfl, bel.frame _, fun h => by cases h⟩

theorem over : Rows.nandKeepsRow.holds Try.pinned (OpenSpec.ofChange Rows.nandKeepsSpec) :=
  OpenClaim.holds_of_wide 3 Try.f3 rfl rfl rfl rfl rfl rfl rfl ⟨rfl, rfl, rfl, rfl, rfl⟩ rfl rfl rfl rfl rfl (by kernel_rfl) Try.func3 (by kernel_rfl)
    (of_decide_eq_true (by kernel_rfl)) (by unfold Func.isWrapper; first | (rw [if_pos (by decide +kernel)]; kernel_rfl) | (rw [if_neg (by decide +kernel)]; exact ⟨rfl, rfl⟩))
    (fun os started H enc _ => lifted os started H enc)

theorem proved : Rows.NandKeepsSaid := over
end Go.Proofs.Ytaobamnfgpllcaa.nandKeeps
