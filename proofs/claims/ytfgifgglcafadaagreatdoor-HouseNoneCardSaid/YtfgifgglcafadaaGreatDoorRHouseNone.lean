/-
  THE LAW HouseNone: whatever the input, the function returns true, and each argument reads behind the call as it read before. No condition.
-/
import Derived.Test.YtfgifgglcafadaaGreatDoorRows
import Derived.WalkKit
import Derived.ProofKit
import Derived.OpenShut
import Derived.ShutString
import Derived.ChangeOld
import Derived.Below
import Derived.Test.YtfgifgglcafadaaGreatDoorM01
import Derived.Test.YtfgifgglcafadaaGreatDoorJHouseNone
import Derived.Test.YtfgifgglcafadaaGreatDoorM19
import Derived.Test.YtfgifgglcafadaaGreatDoorCards
import Derived.SevenTiedAt
namespace Go.Proofs.YtfgifgglcafadaaGreatDoor.houseNone
open Go.ChangeShapes Go.WideShapes Go.ChangeAt Go.RowKit
open Go.ChangeMaps (open_string shut_string)
set_option linter.unusedVariables false

theorem own : ownKnob Tryz.prog.godebug = none := by kernel_rfl
theorem laidOut : laidOutB Tryz.prog = true := by kernel_rfl

theorem walk (a0_0 : Int) (a0_1 : Int) (a0_2 : Int) (a0_3 : Int) (a0_4 : Int) (a0_5 : Int) (a0_6 : Int) (a0_7 : ByteArray) (w : World) (w0_0 : (Lit.int .u8 a0_0).wf = true) (w0_1 : (Lit.int .i64 a0_1).wf = true) (w0_2 : (Lit.int .i64 a0_2).wf = true) (w0_3 : (Lit.int .i64 a0_3).wf = true) (w0_4 : (Lit.int .i64 a0_4).wf = true) (w0_5 : (Lit.int .i64 a0_5).wf = true) (w0_6 : (Lit.int .i64 a0_6).wf = true) (w0_7 : a0_7.size ≤ maxLen) (hD : Flds w) :
    Calls Tryz.prog 6 #[.agg #[.int .u8 a0_0, .int .i64 a0_1, .int .i64 a0_2, .int .i64 a0_3, .int .i64 a0_4, .int .i64 a0_5, .int .i64 a0_6, .string a0_7]] w fun e w' => e = .returned (.bool true) ∧ Below w.heap.size w w' := by
  refine (houseNone21 a0_0 a0_1 a0_2 a0_3 a0_4 ⟨a0_5, a0_6, a0_7⟩ w hD).mono ?_
  rintro e w' ⟨rfl, hg⟩
  exact ⟨rfl, ⟨hg.os, hg.tape, hg.output, hg.size, fun k hk => hg.block k hk (by simp)⟩⟩

set_option maxRecDepth 100000 in
theorem lifted (os : Os) (started : os.Started) (H : Type) (enc : TypeId × Value → H) :
    ReturnsInHanded {} Tryz.checked os 6 .any (fun w args => (Rows.houseNoneSpec.pre enc Tryz.prog Tryz.f6 [] false w args ∧ laidMetH Tryz.prog laidTag w) ∧ sizedMet enc Tryz.prog Tryz.f6 (OpenSpec.ofChange Rows.houseNoneSpec) false w args) (Rows.houseNoneSpec.post enc Tryz.prog Tryz.f6 false true false false) := by
  refine returnsInHanded_of_change_and (C := Tryz.checked) (X := fun w _ => laidMetH Tryz.prog laidTag w) (fun _ _ _ hh h => h.of_heap hh) own started (by kernel_rfl) Tryz.func6
    (ChangeSpec.witness_shaped (enc := enc) (C := Tryz.checked) (os := os) (X := fun w _ => laidMetH Tryz.prog laidTag w) false (World.doorLaid Tryz.prog 19 os) #[.agg #[.int .u8 0, .int .i64 0, .int .i64 0, .int .i64 0, .int .i64 0, .int .i64 0, .int .i64 0, .string ByteArray.empty]] 8 rfl (World.shaped_of_RefB (by kernel_rfl) (by kernel_rfl)) (by kernel_rfl) (by kernel_rfl) (by kernel_rfl) (door_met os _)) ?_
  intro W base args ds gs before hval0 hW _ _ hL _
  have hval : ∀ (j : Nat) t v, Tryz.f6.params[j]? = some t → args[j]? = some v → Value.okWide Tryz.prog W .any base t v := hval0
  have hW' := hW
  obtain ⟨p, q, hA0, hV, rfl, hfz, hnd⟩ := hW
  have hA : DataW.TrodAll enc Tryz.prog W 0 (fun _ => true) true Tryz.f6.params.toList args.toList ds p := hA0
  rw [Tryz.params6] at hA hval
  obtain ⟨v0, vs0, d0, ds0, p0, q0, hargs, rfl, rfl, h0, r0⟩ := trodAll_cons hA
  obtain ⟨rfl, rfl, rfl⟩ := trodAll_nil r0
  have hD := flds_of hL
  obtain rfl : args = #[v0] := by cases args; simp_all
  obtain ⟨rfl, rfl⟩ := trodVars_none hV
  have k0 := h0
  have lt0 : ∀ x ∈ p0, x.block < W.heap.size := by obtain ⟨m, hm⟩ := k0; exact DataW.trod_lt m _ _ _ hm
  obtain ⟨vs0', rfl, len0, all0⟩ := open_flat Tryz.underlying32 (show TypeFlat Tryz.prog 32 [.int .u8, .int .i64, .int .i64, .int .i64, .int .i64, .int .i64, .int .i64, .str] from (.row [[.int .u8], [.int .i64], [.int .i64], [.int .i64], [.int .i64], [.int .i64, .int .i64, .str]] Tryz.underlying32 rfl (by kernel_rfl) (fun i f h => match i, h with | 0, h => by cases h; exact ⟨rfl, by kernel_rfl⟩ | 1, h => by cases h; exact ⟨rfl, by kernel_rfl⟩ | 2, h => by cases h; exact ⟨rfl, by kernel_rfl⟩ | 3, h => by cases h; exact ⟨rfl, by kernel_rfl⟩ | 4, h => by cases h; exact ⟨rfl, by kernel_rfl⟩ | 5, h => by cases h; exact ⟨rfl, by kernel_rfl⟩ | q + 6, h => by simp at h) (fun i f h => match i, h with | 0, h => by cases h; exact (.one Tryz.underlying5) | 1, h => by cases h; exact (.one Tryz.underlying3) | 2, h => by cases h; exact (.one Tryz.underlying3) | 3, h => by cases h; exact (.one Tryz.underlying3) | 4, h => by cases h; exact (.one Tryz.underlying3) | 5, h => by cases h; exact (.row [[.int .i64], [.int .i64], [.str]] Tryz.underlying30 rfl (by kernel_rfl) (fun i f h => match i, h with | 0, h => by cases h; exact ⟨rfl, by kernel_rfl⟩ | 1, h => by cases h; exact ⟨rfl, by kernel_rfl⟩ | 2, h => by cases h; exact ⟨rfl, by kernel_rfl⟩ | q + 3, h => by simp at h) (fun i f h => match i, h with | 0, h => by cases h; exact (.one Tryz.underlying3) | 1, h => by cases h; exact (.one Tryz.underlying3) | 2, h => by cases h; exact (.one Tryz.underlying9) | q + 3, h => by simp at h)) | q + 6, h => by simp at h))) (hval 0 32 v0 rfl rfl) h0
  obtain ⟨x0_0, x0_1, x0_2, x0_3, x0_4, x0_5, x0_6, x0_7, rfl⟩ := list8 len0
  obtain ⟨_, g0_0, ⟨a0_0, e0_0, w0_0⟩⟩ := all0 0 _ rfl
  obtain rfl := Option.some.inj g0_0
  subst e0_0
  obtain ⟨_, g0_1, ⟨a0_1, e0_1, w0_1⟩⟩ := all0 1 _ rfl
  obtain rfl := Option.some.inj g0_1
  subst e0_1
  obtain ⟨_, g0_2, ⟨a0_2, e0_2, w0_2⟩⟩ := all0 2 _ rfl
  obtain rfl := Option.some.inj g0_2
  subst e0_2
  obtain ⟨_, g0_3, ⟨a0_3, e0_3, w0_3⟩⟩ := all0 3 _ rfl
  obtain rfl := Option.some.inj g0_3
  subst e0_3
  obtain ⟨_, g0_4, ⟨a0_4, e0_4, w0_4⟩⟩ := all0 4 _ rfl
  obtain rfl := Option.some.inj g0_4
  subst e0_4
  obtain ⟨_, g0_5, ⟨a0_5, e0_5, w0_5⟩⟩ := all0 5 _ rfl
  obtain rfl := Option.some.inj g0_5
  subst e0_5
  obtain ⟨_, g0_6, ⟨a0_6, e0_6, w0_6⟩⟩ := all0 6 _ rfl
  obtain rfl := Option.some.inj g0_6
  subst e0_6
  obtain ⟨_, g0_7, ⟨a0_7, e0_7, w0_7⟩⟩ := all0 7 _ rfl
  obtain rfl := Option.some.inj g0_7
  subst e0_7
  clear hA0 hval0
  refine (walk a0_0 a0_1 a0_2 a0_3 a0_4 a0_5 a0_6 a0_7 W w0_0 w0_1 w0_2 w0_3 w0_4 w0_5 w0_6 w0_7 hD).mono fun e W' ⟨he, bel⟩ => ?_
  subst he
  exact ⟨_, rfl, _, _, _, [], _, [], hW', trodAll_mk1 (shut_bool Tryz.underlying4 _), (trodAll_cons_mk (Below.trod laidOut (by kernel_rfl) (of_decide_eq_true (by kernel_rfl)) k0 bel lt0) trodAll_mk0), rfl, bel.frame _, fun h => by cases h⟩

theorem over : Rows.houseNoneRow.holds Tryz.pinned (OpenSpec.ofChange Rows.houseNoneSpec) :=
  OpenClaim.holds_of_wide 6 Tryz.f6 rfl rfl rfl rfl rfl rfl rfl ⟨rfl, rfl, rfl, rfl, rfl⟩ rfl rfl rfl rfl rfl (by kernel_rfl) Tryz.func6 facts
    (of_decide_eq_true (by kernel_rfl)) (by unfold Func.isWrapper; first | (rw [if_pos (by decide +kernel)]; kernel_rfl) | (rw [if_neg (by decide +kernel)]; exact ⟨rfl, rfl⟩))
    (fun os started H enc _ => lifted os started H enc)

theorem card : Rows.HouseNoneCardSaid :=
  Claim7.holds_tied_plain_at .later [] [.data] true (true, "6c3556467d7b87eb9e45ee87f6605414251cb1ee8ff9d354b4da3fae740bd5a3") false
    over (fun _ h => by cases h) (by kernel_rfl) (fun _ h => by cases h) houseNone_row_tie rfl ⟨rfl, rfl⟩ (by kernel_rfl) rfl
    (fun f fn hf hfn => by
      obtain rfl : f = 6 := Option.some.inj ((show Tryz.prog.funcNamed "almshouse/almshouselaw21.HouseNone" = some 6 by kernel_rfl).symm.trans hf) |>.symm
      obtain rfl : fn = Tryz.f6 := (Option.some.inj (Tryz.func6.symm.trans hfn)).symm
      exact ⟨by kernel_rfl, fun j t ht => by
        rw [Tryz.params6] at ht
        have hm : t ∈ [32] := by simpa using Array.mem_of_getElem? ht
        have hall : ([32].all fun u => !Tryz.prog.wantsStandIn u) = true := by kernel_rfl
        exact (show Tryz.prog.wantsStandIn t = false by simpa using List.all_eq_true.1 hall t hm)⟩)
    (by kernel_rfl)
end Go.Proofs.YtfgifgglcafadaaGreatDoor.houseNone
