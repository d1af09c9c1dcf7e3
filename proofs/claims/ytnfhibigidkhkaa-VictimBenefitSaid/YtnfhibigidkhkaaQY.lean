/-
  Layer 15: VictimBenefit over what Benefit and Spread answer.
-/
import Derived.Test.YtnfhibigidkhkaaQX
namespace Go.Proofs.Ytnfhibigidkhkaa
set_option linter.unusedVariables false
set_option linter.unusedSimpArgs false
set_option maxRecDepth 100000
open Go.RowKit

/-- What the program's Benefit and Spread answer. -/
def VicB : Prop := ∀ (v u : Value) (zs gs : List Int) (p : Int) (w : World), Ints w v zs → Ints w u gs → zs.length ≤ 9223372036854775807 → gs.length ≤ 9223372036854775807 →
  Calls Try.prog 9 #[v, u, .int .i64 p] w fun e w' => (∃ r, BenP zs gs p r ∧ e = .returned (.int .i64 r)) ∧ w.grownBy w' none
def VicS : Prop := ∀ (v : Value) (zs : List Int) (w : World), Ints w v zs → zs.length ≤ 9223372036854775807 →
  Calls Try.prog 11 #[v] w fun e w' => (∃ r, SprP zs r ∧ e = .returned (.int .i64 r)) ∧ w.grownBy w' none

set_option maxHeartbeats 800000 in
theorem victimBenefit_any (VB : VicB) (VS : VicS) (FX : Fix15) (v u x : Value) (zs gs es : List Int) (p : Int) (w : World) (hv : Ints w v zs) (hu : Ints w u gs) (hx : Ints w x es) (hl : zs.length ≤ 9223372036854775807) (hl2 : gs.length ≤ 9223372036854775807) (hl3 : es.length ≤ 9223372036854775807) :
    Calls Try.prog 4 #[v, u, .int .i64 p, x] w fun e w' => e = .returned (.bool true) ∧ w.grownBy w' none := by
  have B1 := fun wx (hE : w.grownBy wx none) => VB v u zs gs p wx (hv.kept hE (by simp)) (hu.kept hE (by simp)) hl hl2
  have B2 := fun wx (hE : w.grownBy wx none) => refBenefit_any v u zs gs p wx (hv.kept hE (by simp)) (hu.kept hE (by simp)) hl hl2
  have S1 := fun wx (hE : w.grownBy wx none) => VS x es wx (hx.kept hE (by simp)) hl3
  have S2 := fun wx (hE : w.grownBy wx none) => refSpread_any x es wx (hx.kept hE (by simp)) hl3
  obtain ⟨ao, cap, hve, _⟩ := hv.cells15
  obtain ⟨bo, cbp, hue, _⟩ := hu.cells15
  obtain ⟨co, ccp, hxe, _⟩ := hx.cells15
  obtain ⟨n1, hn1⟩ : ∃ n, zs.length = n := ⟨_, rfl⟩
  obtain ⟨n2, hn2⟩ : ∃ n, gs.length = n := ⟨_, rfl⟩
  obtain ⟨n3, hn3⟩ : ∃ n, es.length = n := ⟨_, rfl⟩
  rw [hn1] at hve hl
  rw [hn2] at hue hl2
  rw [hn3] at hxe hl3
  subst hve hue hxe
  have HB1 := Lib.hid B1
  have HB2 := Lib.hid B2
  have HS1 := Lib.hid S1
  have HS2 := Lib.hid S2
  clear hv hu hx hn1 hn2 hn3 B1 B2 S1 S2
  by_cases h1 : (40 : Int) < n1
  · go_enter Try.func4, Try.ntmps4
    go_wp2_with (go_at_call 6; refine (FX _).mono ?_; rintro e w2 ⟨rfl, hE2⟩)
    go_ret
    exact ⟨rfl, hE2⟩
  by_cases h2 : (40 : Int) < n2
  · go_enter Try.func4, Try.ntmps4
    go_wp2_with (go_at_call 6; refine (FX _).mono ?_; rintro e w2 ⟨rfl, hE2⟩)
    go_ret
    exact ⟨rfl, hE2⟩
  by_cases h3 : (60 : Int) < n3
  · go_enter Try.func4, Try.ntmps4
    go_wp2_with (go_at_call 6; refine (FX _).mono ?_; rintro e w2 ⟨rfl, hE2⟩)
    go_ret
    exact ⟨rfl, hE2⟩
  go_enter Try.func4, Try.ntmps4
  go_wp2_with (first
    | (go_at_call 6; refine (FX _).mono ?_; rintro e w2 ⟨rfl, hE2⟩; have HE2 := Lib.hid hE2; clear hE2)
    | (go_at_call 9; refine (HB1.out _ HE2.out).mono ?_; rintro e w3 ⟨⟨r, hr, rfl⟩, hE3⟩; have HR := Lib.hid hr; have HE3 := Lib.hid (g15_trans HE2.out hE3); clear hr hE3)
    | (go_at_call 10; refine (HB2.out _ HE3.out).mono ?_; rintro e w4 ⟨⟨r2, hr2, rfl⟩, hE4⟩; obtain rfl := hr2.eq HR.out; have HE4 := Lib.hid (g15_trans HE3.out hE4); clear hr2 hE4)
    | (go_at_call 11; refine (HS1.out _ HE4.out).mono ?_; rintro e w5 ⟨⟨s, hs, rfl⟩, hE5⟩; have HSS := Lib.hid hs; have HE5 := Lib.hid (g15_trans HE4.out hE5); clear hs hE5)
    | (go_at_call 12; refine (HS2.out _ HE5.out).mono ?_; rintro e w6 ⟨⟨s2, hs2, rfl⟩, rfl⟩; obtain rfl := hs2.eq HSS.out; clear hs2))
  go_ret
  exact ⟨rfl, HE5.out⟩

end Go.Proofs.Ytnfhibigidkhkaa
