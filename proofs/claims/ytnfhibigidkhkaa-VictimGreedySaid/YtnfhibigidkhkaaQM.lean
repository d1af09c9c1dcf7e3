/-
  Package victim: Greedy, bounded, Spread.
-/
import Derived.Test.YtnfhibigidkhkaaQY
namespace Go.Proofs.Ytnfhibigidkhkaa
set_option linter.unusedVariables false
set_option linter.unusedSimpArgs false
set_option maxRecDepth 100000
open Go.RowKit

set_option maxHeartbeats 1600000 in
theorem vicGreedy_any : VicG := by
  intro v zs w h hl
  have key : Calls Try.prog 7 #[v] w fun e w' => (∃ r, GreedyP zs r ∧ e = .returned (.int .i64 r)) ∧ w = w' := by
    obtain ⟨ao, cap, rfl, hc⟩ := h.cells15
    obtain ⟨n, hn⟩ : ∃ n, zs.length = n := ⟨_, rfl⟩
    rw [hn] at hl hc ⊢
    have HC := Lib.hid (And.intro hc hn)
    clear h hc hn
    go_enter Try.func7, Try.ntmps7
    go_wp2
    go_loopw [3, 8] (fun s i wr => ∃ (k : Nat) (r : Int), k ≤ n ∧ i = .int .i64 k ∧ s = .int .i64 r ∧ w = wr ∧ ((r = -1 ∧ ∀ j, j < k → zs.getD j 0 < 0) ∨ ∃ m : Nat, r = m ∧ m < k ∧ 0 ≤ zs.getD m 0 ∧ (∀ j, j < k → 0 ≤ zs.getD j 0 → zs.getD m 0 ≤ zs.getD j 0) ∧ ∀ j, j < m → 0 ≤ zs.getD j 0 → zs.getD m 0 < zs.getD j 0)) (fun _ i _ => n - (intOf i).toNat)
    case atStart => exact ⟨0, -1, by omega, rfl, rfl, rfl, .inl ⟨rfl, fun j hj => by omega⟩⟩
    case round =>
      obtain ⟨k, r, hk, rfl, rfl, rfl, hrel⟩ := hrel
      by_cases hlt : k < n
      · obtain ⟨b, off, rfl, hcell⟩ := HC.out.1 k hlt
        obtain ⟨x, hx⟩ : ∃ z, zs.getD k 0 = z := ⟨_, rfl⟩
        rw [hx] at hcell
        have HX := Lib.hid hx
        clear hx
        by_cases h0 : 0 ≤ x
        · have hg : x ≥ 0 := h0
          rcases hrel with ⟨hr, hneg⟩ | ⟨m, hr, hmk, hm0, hm1, hm2⟩
          · have hrb : (r == -1) = true := by simpa using hr
            have HG := Lib.hid (And.intro hr hneg)
            clear hr hneg
            go_wp2
            go_roundw
            case rel => exact ⟨k + 1, (k : Int), by omega, by go_num, rfl, (by first | rfl | trivial), .inr ⟨k, rfl, by omega, by rw [HX.out]; exact h0, fun j hj hj0 => by
              by_cases e : j = k
              · subst e; omega
              · have := HG.out.2 j (by omega); omega, fun j hj hj0 => by have := HG.out.2 j hj; omega⟩⟩
            case measure => simp [intOf]; omega
          · obtain ⟨b', off', hao, hcm⟩ := HC.out.1 m (by omega)
            simp only [Option.some.injEq, Addr.mk.injEq, and_true] at hao
            obtain ⟨rfl, rfl⟩ := hao
            subst hr
            have hrb : ((m : Int) == -1) = false := by simp
            obtain ⟨y, hy⟩ : ∃ z, zs.getD m 0 = z := ⟨_, rfl⟩
            rw [hy] at hcm
            have HG := Lib.hid (And.intro hy (And.intro hm0 (And.intro hm1 hm2)))
            have hmn : m < n := by omega
            clear hy hm0 hm1 hm2
            by_cases hxy : x < y
            · go_wp2
              go_roundw
              case rel => exact ⟨k + 1, (k : Int), by omega, by go_num, rfl, (by first | rfl | trivial), .inr ⟨k, rfl, by omega, by rw [HX.out]; exact h0, fun j hj hj0 => by
                by_cases e : j = k
                · subst e; omega
                · have := HG.out.2.2.1 j (by omega) hj0; rw [HG.out.1] at this; rw [HX.out]; omega, fun j hj hj0 => by
                  have := HG.out.2.2.1 j hj hj0; rw [HG.out.1] at this; rw [HX.out]; omega⟩⟩
              case measure => simp [intOf]; omega
            · go_wp2
              go_roundw
              case rel => exact ⟨k + 1, (m : Int), by omega, by go_num, rfl, (by first | rfl | trivial), .inr ⟨m, rfl, by omega, HG.out.2.1, fun j hj hj0 => by
                by_cases e : j = k
                · subst e; rw [HX.out, HG.out.1]; omega
                · exact HG.out.2.2.1 j (by omega) hj0, HG.out.2.2.2⟩⟩
              case measure => simp [intOf]; omega
        · have hg : ¬ x ≥ 0 := h0
          have HR := Lib.hid hrel
          clear hrel
          go_wp2
          go_roundw
          case rel =>
            refine ⟨k + 1, r, by omega, by go_num, rfl, (by first | rfl | trivial), ?_⟩
            rcases HR.out with ⟨rfl, hneg⟩ | ⟨m, rfl, hmk, hm0, hm1, hm2⟩
            · refine .inl ⟨rfl, fun j hj => ?_⟩
              by_cases e : j = k
              · subst e; rw [HX.out]; omega
              · exact hneg j (by omega)
            · refine .inr ⟨m, rfl, by omega, hm0, fun j hj hj0 => ?_, hm2⟩
              by_cases e : j = k
              · subst e; rw [HX.out] at hj0; omega
              · exact hm1 j (by omega) hj0
          case measure => simp [intOf]; omega
      · obtain rfl : k = n := by omega
        have HR := Lib.hid hrel
        clear hrel
        go_wp2
        go_ret
        refine ⟨⟨r, ?_, rfl⟩, rfl⟩
        unfold GreedyP
        rw [HC.out.2]
        rcases HR.out with h | ⟨m, h1, h2, h3, h4, h5⟩
        · exact .inl h
        · exact .inr ⟨m, h1, h2, h3, h4, h5⟩
  obtain ⟨r, hr⟩ : ∃ r, GreedyP zs r := greedy_some zs
  exact ⟨r, hr, key.mono fun e w' ⟨⟨s, hs2, he⟩, hw⟩ => ⟨by rw [he, hs2.eq hr], by rw [← hw]; exact g15_refl w⟩⟩

theorem bounded_any (v m : Int) (hm : 0 ≤ m) (w : World) : Calls Try.prog 13 #[.int .i64 v, .int .i64 m] w fun e w' => e = .returned (.int .i64 (clampN v m)) ∧ w = w' := by
  have hE : clampN v m = min (max v 0) m := by
    unfold clampN
    split
    · omega
    · split <;> omega
  rw [hE]
  by_cases h0 : v < 0
  · by_cases h0' : 0 > v
    · have e : min (max v 0) m = 0 := by omega
      rw [e]
      have h1 : ¬ m < 0 := by omega
      go_enter Try.func13, Try.ntmps13
      go_wp2
      go_ret
      exact ⟨by go_num, rfl⟩
    · exact absurd h0 h0'
  · have h0' : ¬ 0 > v := by omega
    by_cases h1 : m < v
    · have e : min (max v 0) m = m := by omega
      rw [e]
      go_enter Try.func13, Try.ntmps13
      go_wp2
      go_ret
      exact ⟨by go_num, rfl⟩
    · have e : min (max v 0) m = v := by omega
      rw [e]
      go_enter Try.func13, Try.ntmps13
      go_wp2
      go_ret
      exact ⟨by go_num, rfl⟩

/-- The least and the greatest of what was met. -/
structure LG (zs : List Int) (k : Nat) (l g : Int) : Prop where
  l0 : 0 ≤ l
  l1 : l ≤ 1099511627776
  g0 : 0 ≤ g
  g1 : g ≤ 1099511627776
  all : ∀ j, j < k → l ≤ cl40 zs j ∧ cl40 zs j ≤ g
  some : (k = 0 ∧ l = 1099511627776 ∧ g = 0) ∨ ∃ a b, a < k ∧ b < k ∧ l = cl40 zs a ∧ g = cl40 zs b
theorem LG.next {zs : List Int} {k : Nat} {l g c : Int} (h : LG zs k l g) (hc : cl40 zs k = c) (h0 : 0 ≤ c) (h1 : c ≤ 1099511627776) : LG zs (k + 1) (min l c) (max g c) := by
  obtain ⟨a0, a1, a2, a3, a4, a5⟩ := h
  refine ⟨by omega, by omega, by omega, by omega, fun j hj => ?_, ?_⟩
  · by_cases e : j = k
    · subst e; rw [hc]; omega
    · have := a4 j (by omega); omega
  · right
    rcases a5 with ⟨rfl, rfl, rfl⟩ | ⟨a, b, ha, hb, rfl, rfl⟩
    · exact ⟨0, 0, by omega, by omega, by rw [hc]; omega, by rw [hc]; omega⟩
    · by_cases e1 : cl40 zs a ≤ c
      · by_cases e2 : c ≤ cl40 zs b
        · exact ⟨a, b, by omega, by omega, by omega, by omega⟩
        · exact ⟨a, k, by omega, by omega, by omega, by omega⟩
      · by_cases e2 : c ≤ cl40 zs b
        · exact ⟨k, b, by omega, by omega, by omega, by omega⟩
        · exact ⟨k, k, by omega, by omega, by omega, by omega⟩
theorem LG.spr {zs : List Int} {k : Nat} {l g : Int} (h : LG zs k l g) (hk : zs.length = k) (h0 : k ≠ 0) : SprP zs (g - l) := by
  obtain ⟨a0, a1, a2, a3, a4, a5⟩ := h
  rcases a5 with ⟨h, _⟩ | ⟨a, b, ha, hb, e1, e2⟩
  · exact absurd h h0
  refine ⟨by have := a4 0 (by omega); omega, fun x hx y hy => ?_, .inr ⟨b, a, by omega, by omega, by omega⟩⟩
  have h1 := a4 x (by omega)
  have h2 := a4 y (by omega)
  omega

set_option maxHeartbeats 1600000 in
theorem vicSpread_any : VicS := by
  intro v zs w h hl
  obtain ⟨ao, cap, rfl, hc⟩ := h.cells15
  obtain ⟨n, hn⟩ : ∃ n, zs.length = n := ⟨_, rfl⟩
  rw [hn] at hl hc ⊢
  refine Calls.mono (R := fun e w' => (∃ r, SprP zs r ∧ e = .returned (.int .i64 r)) ∧ w = w') ?_ (fun e w' h => ⟨h.1, by rw [← h.2]; exact g15_refl w⟩)
  have HC := Lib.hid (And.intro hc hn)
  clear h hc hn
  by_cases hz : n = 0
  · have hzb : ((n : Int) == 0) = true := by simpa using hz
    have HZ := Lib.hid hz
    clear hz
    go_enter Try.func11, Try.ntmps11
    go_wp2
    go_ret
    refine ⟨⟨0, ⟨Int.le_refl _, fun a ha => ?_, .inl rfl⟩, rfl⟩, rfl⟩
    rw [HC.out.2, HZ.out] at ha
    omega
  · have hzb : ((n : Int) == 0) = false := by simpa using hz
    have HZ := Lib.hid hz
    clear hz
    go_enter Try.func11, Try.ntmps11
    go_wp2
    go_loopw [3, 4, 12] (fun s t i wr => ∃ (k : Nat) (l g : Int), k ≤ n ∧ i = .int .i64 k ∧ s = .int .i64 l ∧ t = .int .i64 g ∧ w = wr ∧ LG zs k l g) (fun _ _ i _ => n - (intOf i).toNat)
    case atStart => exact ⟨0, 1099511627776, 0, by omega, rfl, rfl, rfl, rfl, ⟨by omega, by omega, by omega, by omega, fun j hj => by omega, .inl ⟨rfl, rfl, rfl⟩⟩⟩
    case round =>
      obtain ⟨k, l, g, hk, rfl, rfl, rfl, rfl, hLG⟩ := hrel
      have HL := Lib.hid hLG
      have b0 := hLG.l0
      have b1 := hLG.l1
      have b2 := hLG.g0
      have b3 := hLG.g1
      clear hLG
      by_cases hlt : k < n
      · obtain ⟨b, off, rfl, hcell⟩ := HC.out.1 k hlt
        obtain ⟨x, hx⟩ : ∃ z, zs.getD k 0 = z := ⟨_, rfl⟩
        rw [hx] at hcell
        have HX := Lib.hid (show cl40 zs k = clampN x 1099511627776 by unfold cl40; rw [hx])
        have hcb := clampN_bd (v := x) (m := 1099511627776) (by decide)
        have B := bounded_any x 1099511627776 (by decide)
        obtain ⟨c, hcc⟩ : ∃ z, clampN x 1099511627776 = z := ⟨_, rfl⟩
        rw [hcc] at B hcb HX
        obtain ⟨c0, c1⟩ := hcb
        clear hx hcc
        have hN := Lib.hid (HL.out.next HX.out c0 c1)
        by_cases e1 : c < l
        · by_cases e2 : c > g
          · go_wp2_with (go_at_call 13; refine (B _).mono ?_; rintro e w' ⟨rfl, rfl⟩)
            go_roundw
            case rel => exact ⟨k + 1, c, c, by omega, by go_num, rfl, rfl, (by first | rfl | trivial), by have := hN.out; rwa [show min l c = c by omega, show max g c = c by omega] at this⟩
            case measure => simp [intOf]; omega
          · go_wp2_with (go_at_call 13; refine (B _).mono ?_; rintro e w' ⟨rfl, rfl⟩)
            go_roundw
            case rel => exact ⟨k + 1, c, g, by omega, by go_num, rfl, rfl, (by first | rfl | trivial), by have := hN.out; rwa [show min l c = c by omega, show max g c = g by omega] at this⟩
            case measure => simp [intOf]; omega
        · by_cases e2 : c > g
          · go_wp2_with (go_at_call 13; refine (B _).mono ?_; rintro e w' ⟨rfl, rfl⟩)
            go_roundw
            case rel => exact ⟨k + 1, l, c, by omega, by go_num, rfl, rfl, (by first | rfl | trivial), by have := hN.out; rwa [show min l c = l by omega, show max g c = c by omega] at this⟩
            case measure => simp [intOf]; omega
          · go_wp2_with (go_at_call 13; refine (B _).mono ?_; rintro e w' ⟨rfl, rfl⟩)
            go_roundw
            case rel => exact ⟨k + 1, l, g, by omega, by go_num, rfl, rfl, (by first | rfl | trivial), by have := hN.out; rwa [show min l c = l by omega, show max g c = g by omega] at this⟩
            case measure => simp [intOf]; omega
      · obtain rfl : k = n := by omega
        have hb := HL.out.spr HC.out.2 HZ.out
        have HB := Lib.hid hb
        clear hb
        go_wp2
        go_ret
        exact ⟨⟨g - l, HB.out, rfl⟩, rfl⟩

end Go.Proofs.Ytnfhibigidkhkaa
