/-
  THE LAW AdlogSpoilt: whatever the input, the function returns true, and each argument reads behind the call as it read before. No condition.
-/
import Derived.Test.YteionppcjgggiaaGreatRows
import Derived.WalkKit
import Derived.ProofKit
import Derived.OpenShut
import Derived.ShutString
import Derived.ChangeOld
import Derived.Below
import Derived.Test.YteionppcjgggiaaGreatM01
import Derived.Test.YteionppcjgggiaaGreatM02
import Derived.Test.YteionppcjgggiaaGreatM20
namespace Go.Proofs.YteionppcjgggiaaGreat.adlogSpoilt
open Go.ChangeShapes Go.WideShapes Go.ChangeAt Go.RowKit
open Go.ChangeMaps (open_string shut_string)
set_option linter.unusedVariables false

theorem own : ownKnob Tryz.prog.godebug = none := by kernel_rfl
theorem laidOut : laidOutB Tryz.prog = true := by kernel_rfl

theorem walk (a0 : Option Addr) (len0 cap0 : Nat) (L0 : Nat → Led) (V0 : Nat → Nat → Value) (a1 : Option Addr) (len1 cap1 : Nat) (z1 : List ByteArray) (a2 : Option Addr) (len2 cap2 : Nat) (z2 : Nat → Bool) (w : World) (w0 : IsLeds w a0 len0 cap0 L0 V0) (s0 : ∀ x, a0 = some x → x.spot = none ∧ x.block < w.heap.size) (c0 : len0 ≤ cap0 ∧ cap0 ≤ 9223372036854775807) (w1 : IsStrs w a1 len1 cap1 z1) (s1 : ∀ x, a1 = some x → x.spot = none ∧ x.block < w.heap.size) (c1 : len1 ≤ cap1 ∧ cap1 ≤ 9223372036854775807) (b1 : ∀ s ∈ z1, s.size ≤ 140737488351232) (w2 : IsBools w a2 len2 cap2 z2) (s2 : ∀ x, a2 = some x → x.spot = none ∧ x.block < w.heap.size) (c2 : len2 ≤ cap2 ∧ cap2 ≤ 9223372036854775807) :
    Calls Tryz.prog 3 #[.slice a0 len0 cap0, .slice a1 len1 cap1, .slice a2 len2 cap2] w fun e w' => e = .returned (.bool true) ∧ Below w.heap.size w w' := by
  exact (adlogSpoilt_own a0 len0 cap0 L0 V0 a1 len1 cap1 _ a2 len2 cap2 z2 w w0 c0 (strs_F w1 s1 b1) w2).mono fun e w' h => ⟨h.1, below_ext h.2⟩

set_option maxRecDepth 100000 in
theorem lifted (os : Os) (started : os.Started) (H : Type) (enc : TypeId × Value → H) :
    ReturnsInHanded {} Tryz.checked os 3 .any (Rows.adlogSpoiltSpec.pre6 enc Tryz.prog Tryz.f3 Rows.adlogSpoiltRow.domain false) (Rows.adlogSpoiltSpec.post enc Tryz.prog Tryz.f3 false true false false) := by
  refine returnsInHanded_of_change_sized (C := Tryz.checked) own started (by kernel_rfl) Tryz.func3
    (ChangeSpec.witness6 (enc := enc) (C := Tryz.checked) false ⟨#[], #[.slice none 0 0, .slice none 0 0, .slice none 0 0], []⟩ 8 (by kernel_rfl) (by kernel_rfl) (by kernel_rfl) (by kernel_rfl)) ?_
  intro W base args ds gs before hval0 hW hcnd hsz _
  have hval : ∀ (j : Nat) t v, Tryz.f3.params[j]? = some t → args[j]? = some v → Value.okWide Tryz.prog W .any base t v := hval0
  have hW' := hW
  obtain ⟨p, q, hA0, hV, rfl, hfz, hnd⟩ := hW
  have hA : DataW.TrodAll enc Tryz.prog W 0 (fun _ => true) true Tryz.f3.params.toList args.toList ds p := hA0
  rw [Tryz.params3] at hA hval
  obtain ⟨v0, vs0, d0, ds0, p0, q0, hargs, rfl, rfl, h0, r0⟩ := trodAll_cons hA
  obtain ⟨v1, vs1, d1, ds1, p1, q1, rfl, rfl, rfl, h1, r1⟩ := trodAll_cons r0
  obtain ⟨v2, vs2, d2, ds2, p2, q2, rfl, rfl, rfl, h2, r2⟩ := trodAll_cons r1
  obtain ⟨rfl, rfl, rfl⟩ := trodAll_nil r2
  obtain rfl : args = #[v0, v1, v2] := by cases args; simp_all
  obtain ⟨rfl, rfl⟩ := trodVars_none hV
  obtain ⟨a0, len0, cap0, rfl⟩ := okWide_slice Tryz.underlying22 (hval 0 22 v0 rfl rfl)
  have k0 := h0
  have lt0 : ∀ x ∈ p0, x.block < W.heap.size := by obtain ⟨m, hm⟩ := k0; exact DataW.trod_lt m _ _ _ hm
  obtain ⟨L0, V0, w0⟩ : ∃ Ls Vs, IsLeds W a0 len0 cap0 Ls Vs := by
    obtain ⟨fuel, hf⟩ := h0
    exact open_leds (by simpa [Value.cells] using hf)
  obtain ⟨a1, len1, cap1, rfl⟩ := okWide_slice Tryz.underlying23 (hval 1 23 v1 rfl rfl)
  have k1 := h1
  have lt1 : ∀ x ∈ p1, x.block < W.heap.size := by obtain ⟨m, hm⟩ := k1; exact DataW.trod_lt m _ _ _ hm
  obtain ⟨z1, w1, b1⟩ : ∃ ss, IsStrs W a1 len1 cap1 ss ∧ ∀ s ∈ ss, s.size ≤ 140737488351232 := by
    obtain ⟨fuel, hf⟩ := h1
    exact open_strs_sized Tryz.underlying23 Tryz.underlying9 (by kernel_rfl) (by simpa [Value.cells] using hf) (fun n hn => by have := List.all_eq_true.1 hsz n (DataW.weights_mem_each (j := 1) (t := 23) rfl rfl n hn); simpa using this)
  obtain ⟨a2, len2, cap2, rfl⟩ := okWide_slice Tryz.underlying24 (hval 2 24 v2 rfl rfl)
  have k2 := h2
  have lt2 : ∀ x ∈ p2, x.block < W.heap.size := by obtain ⟨m, hm⟩ := k2; exact DataW.trod_lt m _ _ _ hm
  obtain ⟨z2, w2⟩ : ∃ bs, IsBools W a2 len2 cap2 bs := by
    obtain ⟨fuel, hf⟩ := h2
    exact open_bools0 Tryz.underlying24 Tryz.underlying4 (by kernel_rfl) (by simpa [Value.cells] using hf)
  clear hA0 hval0
  refine (walk a0 len0 cap0 L0 V0 a1 len1 cap1 z1 a2 len2 cap2 z2 W w0 (fun x hx => by subst hx; exact slice_good Tryz.underlying22 (hval 0 22 _ rfl rfl)) (slice_lens Tryz.underlying22 (hval 0 22 _ rfl rfl)) w1 (fun x hx => by subst hx; exact slice_good Tryz.underlying23 (hval 1 23 _ rfl rfl)) (slice_lens Tryz.underlying23 (hval 1 23 _ rfl rfl)) b1 w2 (fun x hx => by subst hx; exact slice_good Tryz.underlying24 (hval 2 24 _ rfl rfl)) (slice_lens Tryz.underlying24 (hval 2 24 _ rfl rfl))).mono fun e W' ⟨he, bel⟩ => ?_
  subst he
  exact ⟨_, rfl, _, _, _, [], _, [], hW', trodAll_mk1 (shut_bool Tryz.underlying4 _), (trodAll_cons_mk (Below.trod laidOut (by kernel_rfl) (of_decide_eq_true (by kernel_rfl)) k0 bel lt0) (trodAll_cons_mk (Below.trod laidOut (by kernel_rfl) (of_decide_eq_true (by kernel_rfl)) k1 bel lt1) (trodAll_cons_mk (Below.trod laidOut (by kernel_rfl) (of_decide_eq_true (by kernel_rfl)) k2 bel lt2) trodAll_mk0))), rfl, bel.frame _, fun h => by cases h⟩

theorem over : Rows.adlogSpoiltRow.holds Tryz.pinned (OpenSpec.ofChange Rows.adlogSpoiltSpec) :=
  OpenClaim.holds_of_wide 3 Tryz.f3 rfl rfl rfl rfl rfl rfl rfl ⟨rfl, rfl, rfl, rfl, rfl⟩ rfl rfl rfl rfl rfl (by kernel_rfl) Tryz.func3 (by kernel_rfl)
    (of_decide_eq_true (by kernel_rfl)) (by unfold Func.isWrapper; first | (rw [if_pos (by decide +kernel)]; kernel_rfl) | (rw [if_neg (by decide +kernel)]; exact ⟨rfl, rfl⟩))
    (fun os started H enc _ => lifted os started H enc)

theorem proved : Rows.AdlogSpoiltSaid := over
end Go.Proofs.YteionppcjgggiaaGreat.adlogSpoilt
