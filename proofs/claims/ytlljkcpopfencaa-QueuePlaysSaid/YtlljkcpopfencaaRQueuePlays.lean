/-
  THE LAW QueuePlays: whatever the input, the function returns true, and each argument reads behind the call as it read before. No condition.
-/
import Derived.Test.YtlljkcpopfencaaRows
import Derived.WalkKit
import Derived.ProofKit
import Derived.OpenShut
import Derived.ShutString
import Derived.ChangeOld
import Derived.Below
import Derived.Test.YtlljkcpopfencaaRec
import Derived.Test.YtlljkcpopfencaaRY
import Derived.Test.YtlljkcpopfencaaLH
namespace Go.Proofs.Ytlljkcpopfencaa.queuePlays
open Go.ChangeShapes Go.WideShapes Go.ChangeAt Go.RowKit
open Go.ChangeMaps (open_string shut_string)
set_option linter.unusedVariables false

theorem own : ownKnob Try.prog.godebug = none := by kernel_rfl
theorem laidOut : laidOutB Try.prog = true := by kernel_rfl

theorem walk (a0 : Option Addr) (len0 cap0 : Nat) (w : World) (w0 : IsRecX [.int .u8, .int .i64, .int .i64, .str, .int .i64, .int .i64, .str] w a0 len0 cap0) (s0 : ∀ x, a0 = some x → x.spot = none ∧ x.block < w.heap.size) :
    Calls Try.prog 3 #[.slice a0 len0 cap0] w fun e w' => e = .returned (.bool true) ∧ Below w.heap.size w w' := by
  exact queuePlays_own a0 len0 cap0 w w0 s0

set_option maxRecDepth 100000 in
theorem lifted (os : Os) (started : os.Started) (H : Type) (enc : TypeId × Value → H) :
    ReturnsInHanded {} Try.checked os 3 .any (Rows.queuePlaysSpec.pre6 enc Try.prog Try.f3 Rows.queuePlaysRow.domain false) (Rows.queuePlaysSpec.post enc Try.prog Try.f3 false true false false) := by
  refine returnsInHanded_of_change (C := Try.checked) own started (by kernel_rfl) Try.func3
    (ChangeSpec.witness6 (enc := enc) (C := Try.checked) false ⟨#[], #[.slice none 0 0], []⟩ 8 (by kernel_rfl) (by kernel_rfl) (by kernel_rfl) (by kernel_rfl)) ?_
  intro W base args ds gs before hval0 hW hcnd _
  have hval : ∀ (j : Nat) t v, Try.f3.params[j]? = some t → args[j]? = some v → Value.okWide Try.prog W .any base t v := hval0
  have hW' := hW
  obtain ⟨p, q, hA0, hV, rfl, hfz, hnd⟩ := hW
  have hA : DataW.TrodAll enc Try.prog W 0 (fun _ => true) true Try.f3.params.toList args.toList ds p := hA0
  rw [Try.params3] at hA hval
  obtain ⟨v0, vs0, d0, ds0, p0, q0, hargs, rfl, rfl, h0, r0⟩ := trodAll_cons hA
  obtain ⟨rfl, rfl, rfl⟩ := trodAll_nil r0
  obtain rfl : args = #[v0] := by cases args; simp_all
  obtain ⟨rfl, rfl⟩ := trodVars_none hV
  obtain ⟨a0, len0, cap0, rfl⟩ := okWide_slice Try.underlying22 (hval 0 22 v0 rfl rfl)
  have k0 := h0
  have lt0 : ∀ x ∈ p0, x.block < W.heap.size := by obtain ⟨m, hm⟩ := k0; exact DataW.trod_lt m _ _ _ hm
  have w0 : IsRecX [.int .u8, .int .i64, .int .i64, .str, .int .i64, .int .i64, .str] W a0 len0 cap0 := by
    obtain ⟨fuel, hf⟩ := h0
    exact open_recF Try.underlying22 (show TypeFlat Try.prog 34 [.int .u8, .int .i64, .int .i64, .str, .int .i64, .int .i64, .str] from (.row [[.int .u8], [.int .i64, .int .i64, .str], [.int .i64, .int .i64, .str]] Try.underlying34 rfl (by kernel_rfl) (fun i f h => match i, h with | 0, h => by cases h; exact ⟨rfl, by kernel_rfl⟩ | 1, h => by cases h; exact ⟨rfl, by kernel_rfl⟩ | 2, h => by cases h; exact ⟨rfl, by kernel_rfl⟩ | q + 3, h => by simp at h) (fun i f h => match i, h with | 0, h => by cases h; exact (.one Try.underlying5) | 1, h => by cases h; exact (.row [[.int .i64], [.int .i64], [.str]] Try.underlying29 rfl (by kernel_rfl) (fun i f h => match i, h with | 0, h => by cases h; exact ⟨rfl, by kernel_rfl⟩ | 1, h => by cases h; exact ⟨rfl, by kernel_rfl⟩ | 2, h => by cases h; exact ⟨rfl, by kernel_rfl⟩ | q + 3, h => by simp at h) (fun i f h => match i, h with | 0, h => by cases h; exact (.one Try.underlying3) | 1, h => by cases h; exact (.one Try.underlying3) | 2, h => by cases h; exact (.one Try.underlying9) | q + 3, h => by simp at h)) | 2, h => by cases h; exact (.row [[.int .i64], [.int .i64], [.str]] Try.underlying32 rfl (by kernel_rfl) (fun i f h => match i, h with | 0, h => by cases h; exact ⟨rfl, by kernel_rfl⟩ | 1, h => by cases h; exact ⟨rfl, by kernel_rfl⟩ | 2, h => by cases h; exact ⟨rfl, by kernel_rfl⟩ | q + 3, h => by simp at h) (fun i f h => match i, h with | 0, h => by cases h; exact (.one Try.underlying3) | 1, h => by cases h; exact (.one Try.underlying30) | 2, h => by cases h; exact (.one Try.underlying9) | q + 3, h => by simp at h)) | q + 3, h => by simp at h))) (by kernel_rfl) (by simpa [Value.cells] using hf)
  clear hA0 hval0
  refine (walk a0 len0 cap0 W w0 (fun x hx => by subst hx; exact slice_good Try.underlying22 (hval 0 22 _ rfl rfl))).mono fun e W' ⟨he, bel⟩ => ?_
  subst he
  exact ⟨_, rfl, _, _, _, [], _, [], hW', trodAll_mk1 (shut_bool Try.underlying4 _), (trodAll_cons_mk (Below.trod laidOut (by kernel_rfl) (of_decide_eq_true (by kernel_rfl)) k0 bel lt0) trodAll_mk0), rfl, bel.frame _, fun h => by cases h⟩

theorem over : Rows.queuePlaysRow.holds Try.pinned (OpenSpec.ofChange Rows.queuePlaysSpec) :=
  OpenClaim.holds_of_wide 3 Try.f3 rfl rfl rfl rfl rfl rfl rfl ⟨rfl, rfl, rfl, rfl, rfl⟩ rfl rfl rfl rfl rfl (by kernel_rfl) Try.func3 (by kernel_rfl)
    (of_decide_eq_true (by kernel_rfl)) (by unfold Func.isWrapper; first | (rw [if_pos (by decide +kernel)]; kernel_rfl) | (rw [if_neg (by decide +kernel)]; exact ⟨rfl, rfl⟩))
    (fun os started H enc _ => lifted os started H enc)

theorem proved : Rows.QueuePlaysSaid := over
end Go.Proofs.Ytlljkcpopfencaa.queuePlays
