/-
  THE LAW ScriptLines: whatever the input, the function returns true, and each argument reads behind the call as it read before. No condition.
-/
import Derived.Test.YtdaifepjmkmpjaaDoorRows
import Derived.WalkKit
import Derived.ProofKit
import Derived.OpenShut
import Derived.ShutString
import Derived.ChangeOld
import Derived.Below
import Derived.Test.YtdaifepjmkmpjaaDoorM01
import Derived.Test.YtdaifepjmkmpjaaDoorM22
import Derived.Test.YtdaifepjmkmpjaaDoorCards
import Derived.SevenTiedAt
namespace Go.Proofs.YtdaifepjmkmpjaaDoor.scriptLines
open Go.ChangeShapes Go.WideShapes Go.ChangeAt Go.RowKit
open Go.ChangeMaps (open_string shut_string)
set_option linter.unusedVariables false

theorem own : ownKnob Tryd.prog.godebug = none := by kernel_rfl
theorem laidOut : laidOutB Tryd.prog = true := by kernel_rfl

theorem walk (a0_0 : Int) (a0_1 : Int) (a0_2 : Int) (a0_3 : Int) (a0_4 : Int) (a0_5 : Int) (a0_6 : Int) (a0_7 : ByteArray) (w : World) (w0_0 : (Lit.int .i64 a0_0).wf = true) (w0_1 : (Lit.int .i64 a0_1).wf = true) (w0_2 : (Lit.int .i64 a0_2).wf = true) (w0_3 : (Lit.int .i64 a0_3).wf = true) (w0_4 : (Lit.int .i64 a0_4).wf = true) (w0_5 : (Lit.int .i64 a0_5).wf = true) (w0_6 : (Lit.int .i64 a0_6).wf = true) (w0_7 : a0_7.size ≤ maxLen) (hD : Lib25 w) :
    Calls Tryd.prog 3 #[.agg #[.int .i64 a0_0, .int .i64 a0_1, .int .i64 a0_2, .int .i64 a0_3, .int .i64 a0_4, .int .i64 a0_5, .int .i64 a0_6, .string a0_7]] w fun e w' => e = .returned (.bool true) ∧ Below w.heap.size w w' := by
  have hr : Stp.rng ⟨a0_0, a0_1, a0_2, a0_3, a0_4, a0_5, a0_6, a0_7.data.toList⟩ := ⟨i64_of_wf w0_0, i64_of_wf w0_1, i64_of_wf w0_2, i64_of_wf w0_3, i64_of_wf w0_4, i64_of_wf w0_5, i64_of_wf w0_6⟩
  unfold maxLen at w0_7
  have hl : a0_7.data.toList.length = a0_7.size := by simp
  exact (scriptLines_any lin25 stp25 fxd25 w hD ⟨a0_0, a0_1, a0_2, a0_3, a0_4, a0_5, a0_6, a0_7.data.toList⟩ hr (by simp only; omega)).mono fun e w' h => ⟨h.1, below_ext25 h.2⟩

set_option maxRecDepth 100000 in
theorem lifted (os : Os) (started : os.Started) (H : Type) (enc : TypeId × Value → H) :
    ReturnsInHanded {} Tryd.checked os 3 .any (fun w args => (Rows.scriptLinesSpec.pre enc Tryd.prog Tryd.f3 [] false w args ∧ laidMetH Tryd.prog laidSc w) ∧ sizedMet enc Tryd.prog Tryd.f3 (OpenSpec.ofChange Rows.scriptLinesSpec) false w args) (Rows.scriptLinesSpec.post enc Tryd.prog Tryd.f3 false true false false) := by
  refine returnsInHanded_of_change_and_shaped (C := Tryd.checked) (X := fun w _ => laidMetH Tryd.prog laidSc w) (fun _ _ _ hh h => h.of_heap hh) own started (by kernel_rfl) Tryd.func3
    (ChangeSpec.witness_shaped (enc := enc) (C := Tryd.checked) (os := os) (X := fun w _ => laidMetH Tryd.prog laidSc w) false (World.laidAll Tryd.prog os laidSc) #[.agg #[.int .i64 0, .int .i64 0, .int .i64 0, .int .i64 0, .int .i64 0, .int .i64 0, .int .i64 0, .string ByteArray.empty]] 8 (World.laidAll_os _ _ _) (World.shaped_of_ZipB (by kernel_rfl) (by kernel_rfl)) (by kernel_rfl) (by kernel_rfl) (by kernel_rfl)
      (by rw [MakeChecks.laidMetH_plain _ _ _ (by kernel_rfl)]; exact laidMet_laidAll _ (by kernel_rfl) (by kernel_rfl))) ?_
  intro W base args ds gs before hsh hval0 hW _ _ hL _
  have hval : ∀ (j : Nat) t v, Tryd.f3.params[j]? = some t → args[j]? = some v → Value.okWide Tryd.prog W .any base t v := hval0
  have hW' := hW
  obtain ⟨p, q, hA0, hV, rfl, hfz, hnd⟩ := hW
  have hA : DataW.TrodAll enc Tryd.prog W 0 (fun _ => true) true Tryd.f3.params.toList args.toList ds p := hA0
  rw [Tryd.params3] at hA hval
  obtain ⟨v0, vs0, d0, ds0, p0, q0, hargs, rfl, rfl, h0, r0⟩ := trodAll_cons hA
  obtain ⟨rfl, rfl, rfl⟩ := trodAll_nil r0
  have hD := lib_of hsh hL
  obtain rfl : args = #[v0] := by cases args; simp_all
  obtain ⟨rfl, rfl⟩ := trodVars_none hV
  have k0 := h0
  have lt0 : ∀ x ∈ p0, x.block < W.heap.size := by obtain ⟨m, hm⟩ := k0; exact DataW.trod_lt m _ _ _ hm
  obtain ⟨vs0', rfl, len0, all0⟩ := open_flat Tryd.underlying25 (show TypeFlat Tryd.prog 25 [.int .i64, .int .i64, .int .i64, .int .i64, .int .i64, .int .i64, .int .i64, .str] from (.row [[.int .i64], [.int .i64], [.int .i64], [.int .i64], [.int .i64], [.int .i64, .int .i64, .str]] Tryd.underlying25 rfl (by kernel_rfl) (fun i f h => match i, h with | 0, h => by cases h; exact ⟨rfl, by kernel_rfl⟩ | 1, h => by cases h; exact ⟨rfl, by kernel_rfl⟩ | 2, h => by cases h; exact ⟨rfl, by kernel_rfl⟩ | 3, h => by cases h; exact ⟨rfl, by kernel_rfl⟩ | 4, h => by cases h; exact ⟨rfl, by kernel_rfl⟩ | 5, h => by cases h; exact ⟨rfl, by kernel_rfl⟩ | q + 6, h => by simp at h) (fun i f h => match i, h with | 0, h => by cases h; exact (.one Tryd.underlying3) | 1, h => by cases h; exact (.one Tryd.underlying3) | 2, h => by cases h; exact (.one Tryd.underlying3) | 3, h => by cases h; exact (.one Tryd.underlying3) | 4, h => by cases h; exact (.one Tryd.underlying3) | 5, h => by cases h; exact (.row [[.int .i64], [.int .i64], [.str]] Tryd.underlying23 rfl (by kernel_rfl) (fun i f h => match i, h with | 0, h => by cases h; exact ⟨rfl, by kernel_rfl⟩ | 1, h => by cases h; exact ⟨rfl, by kernel_rfl⟩ | 2, h => by cases h; exact ⟨rfl, by kernel_rfl⟩ | q + 3, h => by simp at h) (fun i f h => match i, h with | 0, h => by cases h; exact (.one Tryd.underlying3) | 1, h => by cases h; exact (.one Tryd.underlying3) | 2, h => by cases h; exact (.one Tryd.underlying9) | q + 3, h => by simp at h)) | q + 6, h => by simp at h))) (hval 0 25 v0 rfl rfl) h0
  obtain ⟨x0_0, x0_1, x0_2, x0_3, x0_4, x0_5, x0_6, x0_7, rfl⟩ := list8 len0
  obtain ⟨_, g0_0, ⟨a0_0, e0_0, w0_0⟩⟩ := all0 0 _ rfl
  obtain rfl := Option.some.inj g0_0
  subst e0_0
  obtain ⟨_, g0_1, ⟨a0_1, e0_1, w0_1⟩⟩ := all0 1 _ rfl
  obtain rfl := Option.some.inj g0_1
  subst e0_1
  obtain ⟨_, g0_2, ⟨a0_2, e0_2, w0_2⟩⟩ := all0 2 _ rfl
  obtain rfl := Option.some.inj g0_2
  subst e0_2
  obtain ⟨_, g0_3, ⟨a0_3, e0_3, w0_3⟩⟩ := all0 3 _ rfl
  obtain rfl := Option.some.inj g0_3
  subst e0_3
  obtain ⟨_, g0_4, ⟨a0_4, e0_4, w0_4⟩⟩ := all0 4 _ rfl
  obtain rfl := Option.some.inj g0_4
  subst e0_4
  obtain ⟨_, g0_5, ⟨a0_5, e0_5, w0_5⟩⟩ := all0 5 _ rfl
  obtain rfl := Option.some.inj g0_5
  subst e0_5
  obtain ⟨_, g0_6, ⟨a0_6, e0_6, w0_6⟩⟩ := all0 6 _ rfl
  obtain rfl := Option.some.inj g0_6
  subst e0_6
  obtain ⟨_, g0_7, ⟨a0_7, e0_7, w0_7⟩⟩ := all0 7 _ rfl
  obtain rfl := Option.some.inj g0_7
  subst e0_7
  clear hA0 hval0
  refine (walk a0_0 a0_1 a0_2 a0_3 a0_4 a0_5 a0_6 a0_7 W w0_0 w0_1 w0_2 w0_3 w0_4 w0_5 w0_6 w0_7 hD).mono fun e W' ⟨he, bel⟩ => ?_
  subst he
  exact ⟨_, rfl, _, _, _, [], _, [], hW', trodAll_mk1 (shut_bool Tryd.underlying4 _), (trodAll_cons_mk (Below.trod laidOut (by kernel_rfl) (of_decide_eq_true (by kernel_rfl)) k0 bel lt0) trodAll_mk0), rfl, bel.frame _, fun h => by cases h⟩

theorem over : Rows.scriptLinesRow.holds Tryd.pinned (OpenSpec.ofChange Rows.scriptLinesSpec) :=
  OpenClaim.holds_of_wide 3 Tryd.f3 rfl rfl rfl rfl rfl rfl rfl ⟨rfl, rfl, rfl, rfl, rfl⟩ rfl rfl rfl rfl rfl (by kernel_rfl) Tryd.func3 (by kernel_rfl)
    (of_decide_eq_true (by kernel_rfl)) (by unfold Func.isWrapper; first | (rw [if_pos (by decide +kernel)]; kernel_rfl) | (rw [if_neg (by decide +kernel)]; exact ⟨rfl, rfl⟩))
    (fun os started H enc _ => lifted os started H enc)

theorem card : Rows.ScriptLinesCardSaid :=
  Claim7.holds_tied_plain_at .later [] [.data, .data, .data, .data, .sentinel, .sentinel, .pinned] true (true, "57a74d71ab8903e2bbad4f41f059229c40e1d6a80483be316f9b4c06e0735178") true
    over (fun _ h => by cases h) (by kernel_rfl) (fun _ h => by cases h) scriptLines_row_tie rfl ⟨rfl, rfl⟩ (by kernel_rfl) rfl
    (fun f fn hf hfn => by
      obtain rfl : f = 3 := Option.some.inj ((show Tryd.prog.funcNamed "almshouse/almshouselaw25.ScriptLines" = some 3 by kernel_rfl).symm.trans hf) |>.symm
      obtain rfl : fn = Tryd.f3 := (Option.some.inj (Tryd.func3.symm.trans hfn)).symm
      exact ⟨by kernel_rfl, fun j t ht => by
        rw [Tryd.params3] at ht
        have hm : t ∈ [25] := by simpa using Array.mem_of_getElem? ht
        have hall : ([25].all fun u => !Tryd.prog.wantsStandIn u) = true := by kernel_rfl
        exact (show Tryd.prog.wantsStandIn t = false by simpa using List.all_eq_true.1 hall t hm)⟩)
    (by kernel_rfl)
end Go.Proofs.YtdaifepjmkmpjaaDoor.scriptLines
