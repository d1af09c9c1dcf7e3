/-
  THE LAW ScriptPrints: whatever the input, the function returns true, and each argument reads behind the call as it read before. No condition.
-/
import Derived.Test.YtdaifepjmkmpjaaDoorRows
import Derived.WalkKit
import Derived.ProofKit
import Derived.OpenShut
import Derived.ShutString
import Derived.ChangeOld
import Derived.Below
import Derived.Test.YtdaifepjmkmpjaaDoorM01
import Derived.Test.YtdaifepjmkmpjaaDoorM22
import Derived.Test.YtdaifepjmkmpjaaDoorCards
import Derived.SevenTiedAt
namespace Go.Proofs.YtdaifepjmkmpjaaDoor.scriptPrints
open Go.ChangeShapes Go.WideShapes Go.ChangeAt Go.RowKit
open Go.ChangeMaps (open_string shut_string)
set_option linter.unusedVariables false

theorem own : ownKnob Tryd.prog.godebug = none := by kernel_rfl
theorem laidOut : laidOutB Tryd.prog = true := by kernel_rfl

theorem walk (a0 : Stu) (v0' : Nat → Value) (m0' : Value) (a1 : Option Addr) (len1 cap1 : Nat) (w : World) (w0 : StuP w a0 v0' m0') (w1 : IsRecX [.int .i64, .int .i64, .int .i64, .int .i64, .int .i64, .int .i64, .int .i64, .str] w a1 len1 cap1) (s1 : ∀ x, a1 = some x → x.spot = none ∧ x.block < w.heap.size) (hD : Lib25 w) :
    Calls Tryd.prog 6 #[.agg (stuC a0 v0' m0'), .slice a1 len1 cap1] w fun e w' => e = .returned (.bool true) ∧ Below w.heap.size w w' := by
  obtain ⟨l, rfl, hR, hrl, hl, hdl⟩ := stpR_of w1 fun x hx => (s1 x hx).1
  exact (scriptPrints_any pri25 par25 set25 fxd25 w hD a0 v0' m0' a1 cap1 l w0.is w0.rng hR hrl hl w0.f w0.m hdl).mono fun e w' h => ⟨h.1, below_ext25 h.2⟩

set_option maxRecDepth 100000 in
theorem lifted (os : Os) (started : os.Started) (H : Type) (enc : TypeId × Value → H) :
    ReturnsInHanded {} Tryd.checked os 6 .any (fun w args => (Rows.scriptPrintsSpec.pre enc Tryd.prog Tryd.f6 [] false w args ∧ laidMetH Tryd.prog laidSc w) ∧ sizedMet enc Tryd.prog Tryd.f6 (OpenSpec.ofChange Rows.scriptPrintsSpec) false w args) (Rows.scriptPrintsSpec.post enc Tryd.prog Tryd.f6 false true false false) := by
  refine returnsInHanded_of_change_and_shaped (C := Tryd.checked) (X := fun w _ => laidMetH Tryd.prog laidSc w) (fun _ _ _ hh h => h.of_heap hh) own started (by kernel_rfl) Tryd.func6
    (ChangeSpec.witness_shaped (enc := enc) (C := Tryd.checked) (os := os) (X := fun w _ => laidMetH Tryd.prog laidSc w) false (World.laidAll Tryd.prog os laidSc) #[.agg #[.int .i64 0, .int .i64 0, .int .i64 0, .int .i64 0, .slice none 0 0, .slice none 0 0, .slice none 0 0, .slice none 0 0, .slice none 0 0], .slice none 0 0] 8 (World.laidAll_os _ _ _) (World.shaped_of_ZipB (by kernel_rfl) (by kernel_rfl)) (by kernel_rfl) (by kernel_rfl) (by kernel_rfl)
      (by rw [MakeChecks.laidMetH_plain _ _ _ (by kernel_rfl)]; exact laidMet_laidAll _ (by kernel_rfl) (by kernel_rfl))) ?_
  intro W base args ds gs before hsh hval0 hW _ _ hL _
  have hval : ∀ (j : Nat) t v, Tryd.f6.params[j]? = some t → args[j]? = some v → Value.okWide Tryd.prog W .any base t v := hval0
  have hW' := hW
  obtain ⟨p, q, hA0, hV, rfl, hfz, hnd⟩ := hW
  have hA : DataW.TrodAll enc Tryd.prog W 0 (fun _ => true) true Tryd.f6.params.toList args.toList ds p := hA0
  rw [Tryd.params6] at hA hval
  obtain ⟨v0, vs0, d0, ds0, p0, q0, hargs, rfl, rfl, h0, r0⟩ := trodAll_cons hA
  obtain ⟨v1, vs1, d1, ds1, p1, q1, rfl, rfl, rfl, h1, r1⟩ := trodAll_cons r0
  obtain ⟨rfl, rfl, rfl⟩ := trodAll_nil r1
  have hD := lib_of hsh hL
  obtain rfl : args = #[v0, v1] := by cases args; simp_all
  obtain ⟨rfl, rfl⟩ := trodVars_none hV
  have k0 := h0
  have lt0 : ∀ x ∈ p0, x.block < W.heap.size := by obtain ⟨m, hm⟩ := k0; exact DataW.trod_lt m _ _ _ hm
  obtain ⟨a0, v0', m0', rfl, w0⟩ := open_stu (hval 0 38 v0 rfl rfl) h0
  obtain ⟨a1, len1, cap1, rfl⟩ := okWide_slice Tryd.underlying39 (hval 1 39 v1 rfl rfl)
  have k1 := h1
  have lt1 : ∀ x ∈ p1, x.block < W.heap.size := by obtain ⟨m, hm⟩ := k1; exact DataW.trod_lt m _ _ _ hm
  have w1 : IsRecX [.int .i64, .int .i64, .int .i64, .int .i64, .int .i64, .int .i64, .int .i64, .str] W a1 len1 cap1 := by
    obtain ⟨fuel, hf⟩ := h1
    exact open_recF Tryd.underlying39 (show TypeFlat Tryd.prog 25 [.int .i64, .int .i64, .int .i64, .int .i64, .int .i64, .int .i64, .int .i64, .str] from (.row [[.int .i64], [.int .i64], [.int .i64], [.int .i64], [.int .i64], [.int .i64, .int .i64, .str]] Tryd.underlying25 rfl (by kernel_rfl) (fun i f h => match i, h with | 0, h => by cases h; exact ⟨rfl, by kernel_rfl⟩ | 1, h => by cases h; exact ⟨rfl, by kernel_rfl⟩ | 2, h => by cases h; exact ⟨rfl, by kernel_rfl⟩ | 3, h => by cases h; exact ⟨rfl, by kernel_rfl⟩ | 4, h => by cases h; exact ⟨rfl, by kernel_rfl⟩ | 5, h => by cases h; exact ⟨rfl, by kernel_rfl⟩ | q + 6, h => by simp at h) (fun i f h => match i, h with | 0, h => by cases h; exact (.one Tryd.underlying3) | 1, h => by cases h; exact (.one Tryd.underlying3) | 2, h => by cases h; exact (.one Tryd.underlying3) | 3, h => by cases h; exact (.one Tryd.underlying3) | 4, h => by cases h; exact (.one Tryd.underlying3) | 5, h => by cases h; exact (.row [[.int .i64], [.int .i64], [.str]] Tryd.underlying23 rfl (by kernel_rfl) (fun i f h => match i, h with | 0, h => by cases h; exact ⟨rfl, by kernel_rfl⟩ | 1, h => by cases h; exact ⟨rfl, by kernel_rfl⟩ | 2, h => by cases h; exact ⟨rfl, by kernel_rfl⟩ | q + 3, h => by simp at h) (fun i f h => match i, h with | 0, h => by cases h; exact (.one Tryd.underlying3) | 1, h => by cases h; exact (.one Tryd.underlying3) | 2, h => by cases h; exact (.one Tryd.underlying9) | q + 3, h => by simp at h)) | q + 6, h => by simp at h))) (by kernel_rfl) (by simpa [Value.cells] using hf)
  clear hA0 hval0
  refine (walk a0 v0' m0' a1 len1 cap1 W w0 w1 (fun x hx => by subst hx; exact slice_good Tryd.underlying39 (hval 1 39 _ rfl rfl)) hD).mono fun e W' ⟨he, bel⟩ => ?_
  subst he
  exact ⟨_, rfl, _, _, _, [], _, [], hW', trodAll_mk1 (shut_bool Tryd.underlying4 _), (trodAll_cons_mk (Below.trod laidOut (by kernel_rfl) (of_decide_eq_true (by kernel_rfl)) k0 bel lt0) (trodAll_cons_mk (Below.trod laidOut (by kernel_rfl) (of_decide_eq_true (by kernel_rfl)) k1 bel lt1) trodAll_mk0)), rfl, bel.frame _, fun h => by cases h⟩

theorem over : Rows.scriptPrintsRow.holds Tryd.pinned (OpenSpec.ofChange Rows.scriptPrintsSpec) :=
  OpenClaim.holds_of_wide 6 Tryd.f6 rfl rfl rfl rfl rfl rfl rfl ⟨rfl, rfl, rfl, rfl, rfl⟩ rfl rfl rfl rfl rfl (by kernel_rfl) Tryd.func6 (by kernel_rfl)
    (of_decide_eq_true (by kernel_rfl)) (by unfold Func.isWrapper; first | (rw [if_pos (by decide +kernel)]; kernel_rfl) | (rw [if_neg (by decide +kernel)]; exact ⟨rfl, rfl⟩))
    (fun os started H enc _ => lifted os started H enc)

theorem card : Rows.ScriptPrintsCardSaid :=
  Claim7.holds_tied_plain_at .later [] [.data, .data, .data, .data, .sentinel, .sentinel, .pinned] true (true, "57a74d71ab8903e2bbad4f41f059229c40e1d6a80483be316f9b4c06e0735178") true
    over (fun _ h => by cases h) (by kernel_rfl) (fun _ h => by cases h) scriptPrints_row_tie rfl ⟨rfl, rfl⟩ (by kernel_rfl) rfl
    (fun f fn hf hfn => by
      obtain rfl : f = 6 := Option.some.inj ((show Tryd.prog.funcNamed "almshouse/almshouselaw25.ScriptPrints" = some 6 by kernel_rfl).symm.trans hf) |>.symm
      obtain rfl : fn = Tryd.f6 := (Option.some.inj (Tryd.func6.symm.trans hfn)).symm
      exact ⟨by kernel_rfl, fun j t ht => by
        rw [Tryd.params6] at ht
        have hm : t ∈ [38, 39] := by simpa using Array.mem_of_getElem? ht
        have hall : ([38, 39].all fun u => !Tryd.prog.wantsStandIn u) = true := by kernel_rfl
        exact (show Tryd.prog.wantsStandIn t = false by simpa using List.all_eq_true.1 hall t hm)⟩)
    (by kernel_rfl)
end Go.Proofs.YtdaifepjmkmpjaaDoor.scriptPrints
