/-
  Layer 15: the document's clamp and Spread.
-/
import Derived.Test.YtnfhibigidkhkaaQV
namespace Go.Proofs.Ytnfhibigidkhkaa
set_option linter.unusedVariables false
set_option linter.unusedSimpArgs false
set_option maxRecDepth 100000
open Go.RowKit

def clampN (v m : Int) : Int := if v < 0 then 0 else if m < v then m else v
theorem clampN_bd {v m : Int} (hm : 0 ≤ m) : 0 ≤ clampN v m ∧ clampN v m ≤ m := by
  unfold clampN
  split
  · omega
  · split <;> omega
theorem clamp15_any (v m : Int) (w : World) : Calls Try.prog 17 #[.int .i64 v, .int .i64 m] w fun e w' => e = .returned (.int .i64 (clampN v m)) ∧ w = w' := by
  by_cases h0 : v < 0
  · rw [show clampN v m = 0 by unfold clampN; rw [if_pos h0]]
    go_enter Try.func17, Try.ntmps17
    go_wp2
    go_ret
    exact ⟨rfl, rfl⟩
  · by_cases h1 : m < v
    · rw [show clampN v m = m by unfold clampN; rw [if_neg h0, if_pos h1]]
      go_enter Try.func17, Try.ntmps17
      go_wp2
      go_ret
      exact ⟨rfl, rfl⟩
    · rw [show clampN v m = v by unfold clampN; rw [if_neg h0, if_neg h1]]
      go_enter Try.func17, Try.ntmps17
      go_wp2
      go_ret
      exact ⟨rfl, rfl⟩

/-- How much they differ. -/
abbrev cl40 (zs : List Int) (j : Nat) : Int := clampN (zs.getD j 0) 1099511627776
def SprP (zs : List Int) (r : Int) : Prop := 0 ≤ r ∧ (∀ a, a < zs.length → ∀ b, b < zs.length → cl40 zs a - cl40 zs b ≤ r) ∧ (r = 0 ∨ ∃ a b, a < zs.length ∧ b < zs.length ∧ r = cl40 zs a - cl40 zs b)
theorem SprP.eq {zs : List Int} {r s : Int} (h : SprP zs r) (h2 : SprP zs s) : r = s := by
  obtain ⟨a0, a1, a2⟩ := h
  obtain ⟨b0, b1, b2⟩ := h2
  have h3 : r ≤ s := by
    rcases a2 with rfl | ⟨a, b, ha, hb, rfl⟩
    · exact b0
    · exact b1 a ha b hb
  have h4 : s ≤ r := by
    rcases b2 with rfl | ⟨a, b, ha, hb, rfl⟩
    · exact a0
    · exact a1 a ha b hb
  omega

set_option maxHeartbeats 1600000 in
theorem refSpread_any (v : Value) (zs : List Int) (w : World) (h : Ints w v zs) (hl : zs.length ≤ 9223372036854775807) :
    Calls Try.prog 12 #[v] w fun e w' => (∃ r, SprP zs r ∧ e = .returned (.int .i64 r)) ∧ w = w' := by
  obtain ⟨ao, cap, rfl, hc⟩ := h.cells15
  obtain ⟨n, hn⟩ : ∃ n, zs.length = n := ⟨_, rfl⟩
  rw [hn] at hl hc ⊢
  have HC := Lib.hid (And.intro hc hn)
  clear h hc hn
  go_enter Try.func12, Try.ntmps12
  go_wp2
  go_loopw [3, 10] (fun s i wr => ∃ (k : Nat) (r : Int), k ≤ n ∧ i = .int .i64 k ∧ s = .int .i64 r ∧ w = wr ∧ 0 ≤ r ∧ r ≤ 1099511627776 ∧ (∀ a, a < k → ∀ b, b < n → cl40 zs a - cl40 zs b ≤ r) ∧ (r = 0 ∨ ∃ a b, a < n ∧ b < n ∧ r = cl40 zs a - cl40 zs b)) (fun _ i _ => n - (intOf i).toNat)
  case atStart => exact ⟨0, 0, by omega, rfl, rfl, rfl, by decide, by decide, fun a ha => by omega, .inl rfl⟩
  case round =>
    obtain ⟨k, r, hk, rfl, rfl, rfl, hr0, hr1, hall, hex⟩ := hrel
    have HA := Lib.hid (And.intro hr0 (And.intro hall hex))
    clear hr0 hall hex
    by_cases hlt : k < n
    · obtain ⟨b0, off, rfl, hcell⟩ := HC.out.1 k hlt
      obtain ⟨x, hx⟩ : ∃ z, zs.getD k 0 = z := ⟨_, rfl⟩
      rw [hx] at hcell
      have HCL := Lib.hid (show cl40 zs k = clampN x 1099511627776 by unfold cl40; rw [hx])
      clear hx
      go_wp2
      go_loopw [3, 16] (fun s i wr => ∃ (j : Nat) (q : Int), j ≤ n ∧ i = .int .i64 j ∧ s = .int .i64 q ∧ w = wr ∧ 0 ≤ q ∧ q ≤ 1099511627776 ∧ r ≤ q ∧ (∀ b, b < j → cl40 zs k - cl40 zs b ≤ q) ∧ (q = r ∨ ∃ b, b < n ∧ q = cl40 zs k - cl40 zs b)) (fun _ i _ => n - (intOf i).toNat)
      case atStart => exact ⟨0, r, by omega, rfl, rfl, rfl, HA.out.1, hr1, Int.le_refl _, fun b hb => by omega, .inl rfl⟩
      case round =>
        obtain ⟨j, q, hj, rfl, rfl, rfl, hq0, hq1, hrq, hin, hqx⟩ := hrel
        have HB := Lib.hid (And.intro hq0 (And.intro hrq (And.intro hin hqx)))
        clear hrq hin hqx
        by_cases hlt2 : j < n
        · obtain ⟨b1, off1, hao, hcell2⟩ := HC.out.1 j hlt2
          simp only [Option.some.injEq, Addr.mk.injEq, and_true] at hao
          obtain ⟨rfl, rfl⟩ := hao
          obtain ⟨y, hy⟩ : ∃ z, zs.getD j 0 = z := ⟨_, rfl⟩
          rw [hy] at hcell2
          have HDL := Lib.hid (show cl40 zs j = clampN y 1099511627776 by unfold cl40; rw [hy])
          clear hy
          have hcb := clampN_bd (v := x) (m := 1099511627776) (by decide)
          have hdb := clampN_bd (v := y) (m := 1099511627776) (by decide)
          go_wp2_with (first
              | (go_at_call 17; refine (clamp15_any _ _ _).mono ?_; rintro e w' ⟨rfl, rfl⟩))
          case roundEnd =>
            obtain ⟨hb1, hb2, hb3, hb4⟩ := HB.out
            have hcl := HCL.out
            have hdl := HDL.out
            refine ⟨⟨j + 1, if q < clampN x 1099511627776 - clampN y 1099511627776 then clampN x 1099511627776 - clampN y 1099511627776 else q, by omega, rfl, rfl, trivial, ?_, ?_, ?_, ?_, ?_⟩, ?_⟩
            · split <;> omega
            · split <;> omega
            · split <;> omega
            · intro b hb
              rcases Nat.lt_succ_iff_lt_or_eq.mp hb with hb | rfl
              · have := hb3 b hb
                split <;> omega
              · rw [hcl, hdl]
                split <;> omega
            · split
              · exact .inr ⟨j, hlt2, by rw [hcl, hdl]⟩
              · exact hb4
            · simp only [intOf]
              omega
        · go_wp2
          case roundEnd =>
            obtain ⟨hb1, hb2, hb3, hb4⟩ := HB.out
            obtain ⟨ha1, ha2, ha3⟩ := HA.out
            obtain rfl : j = n := by omega
            refine ⟨⟨k + 1, q, by omega, rfl, rfl, trivial, hb1, hq1, ?_, ?_⟩, ?_⟩
            · intro a ha b hb
              rcases Nat.lt_succ_iff_lt_or_eq.mp ha with ha | rfl
              · have := ha2 a ha b hb
                omega
              · exact hb3 b hb
            · rcases hb4 with rfl | ⟨b, hb, he⟩
              · exact ha3
              · exact .inr ⟨k, b, hlt, hb, he⟩
            · simp only [intOf]
              omega
    · go_wp2
      go_ret
      obtain ⟨ha1, ha2, ha3⟩ := HA.out
      have hn := HC.out.2
      obtain rfl : k = n := by omega
      subst hn
      exact ⟨⟨r, ⟨ha1, ha2, ha3⟩, rfl⟩, rfl⟩

end Go.Proofs.Ytnfhibigidkhkaa
