/-
  Texts put together: QM UA YA YB.
-/
import Derived.Test.YtdadgcfpcneaiaaGreatDoorM15
import Derived.Test.YtdadgcfpcneaiaaGreatDoorM02
import Derived.Lib.Hide
import Derived.Test.YtdadgcfpcneaiaaGreatDoorM12
import Derived.Test.YtdadgcfpcneaiaaGreatDoorM13
/-
  Package victim: Greedy, bounded, Spread.
-/
namespace Go.Proofs.YtdadgcfpcneaiaaGreatDoor
set_option linter.unusedVariables false
set_option linter.unusedSimpArgs false
set_option linter.unusedVariables false
set_option linter.unusedSimpArgs false
set_option maxRecDepth 100000
open Go.RowKit

set_option maxHeartbeats 1600000 in
theorem vicGreedy_any : VicG := by
  intro v zs w h hl
  have key : Calls Tryz.prog 123 #[v] w fun e w' => (∃ r, GreedyP zs r ∧ e = .returned (.int .i64 r)) ∧ w = w' := by
    obtain ⟨ao, cap, rfl, hc⟩ := h.cells15
    obtain ⟨n, hn⟩ : ∃ n, zs.length = n := ⟨_, rfl⟩
    rw [hn] at hl hc ⊢
    have HC := Lib.hid (And.intro hc hn)
    clear h hc hn
    go_enter Tryz.func123, Tryz.ntmps123
    go_wp2
    go_loopw [3, 8] (fun s i wr => ∃ (k : Nat) (r : Int), k ≤ n ∧ i = .int .i64 k ∧ s = .int .i64 r ∧ w = wr ∧ ((r = -1 ∧ ∀ j, j < k → zs.getD j 0 < 0) ∨ ∃ m : Nat, r = m ∧ m < k ∧ 0 ≤ zs.getD m 0 ∧ (∀ j, j < k → 0 ≤ zs.getD j 0 → zs.getD m 0 ≤ zs.getD j 0) ∧ ∀ j, j < m → 0 ≤ zs.getD j 0 → zs.getD m 0 < zs.getD j 0)) (fun _ i _ => n - (intOf i).toNat)
    case atStart => exact ⟨0, -1, by omega, rfl, rfl, rfl, .inl ⟨rfl, fun j hj => by omega⟩⟩
    case round =>
      obtain ⟨k, r, hk, rfl, rfl, rfl, hrel⟩ := hrel
      by_cases hlt : k < n
      · obtain ⟨b, off, rfl, hcell⟩ := HC.out.1 k hlt
        obtain ⟨x, hx⟩ : ∃ z, zs.getD k 0 = z := ⟨_, rfl⟩
        rw [hx] at hcell
        have HX := Lib.hid hx
        clear hx
        by_cases h0 : 0 ≤ x
        · have hg : x ≥ 0 := h0
          rcases hrel with ⟨hr, hneg⟩ | ⟨m, hr, hmk, hm0, hm1, hm2⟩
          · have hrb : (r == -1) = true := by simpa using hr
            have HG := Lib.hid (And.intro hr hneg)
            clear hr hneg
            go_wp2
            go_roundw
            case rel => exact ⟨k + 1, (k : Int), by omega, by go_num, rfl, (by first | rfl | trivial), .inr ⟨k, rfl, by omega, by rw [HX.out]; exact h0, fun j hj hj0 => by
              by_cases e : j = k
              · subst e; omega
              · have := HG.out.2 j (by omega); omega, fun j hj hj0 => by have := HG.out.2 j hj; omega⟩⟩
            case measure => simp [intOf]; omega
          · obtain ⟨b', off', hao, hcm⟩ := HC.out.1 m (by omega)
            simp only [Option.some.injEq, Addr.mk.injEq, and_true] at hao
            obtain ⟨rfl, rfl⟩ := hao
            subst hr
            have hrb : ((m : Int) == -1) = false := by simp
            obtain ⟨y, hy⟩ : ∃ z, zs.getD m 0 = z := ⟨_, rfl⟩
            rw [hy] at hcm
            have HG := Lib.hid (And.intro hy (And.intro hm0 (And.intro hm1 hm2)))
            have hmn : m < n := by omega
            clear hy hm0 hm1 hm2
            by_cases hxy : x < y
            · go_wp2
              go_roundw
              case rel => exact ⟨k + 1, (k : Int), by omega, by go_num, rfl, (by first | rfl | trivial), .inr ⟨k, rfl, by omega, by rw [HX.out]; exact h0, fun j hj hj0 => by
                by_cases e : j = k
                · subst e; omega
                · have := HG.out.2.2.1 j (by omega) hj0; rw [HG.out.1] at this; rw [HX.out]; omega, fun j hj hj0 => by
                  have := HG.out.2.2.1 j hj hj0; rw [HG.out.1] at this; rw [HX.out]; omega⟩⟩
              case measure => simp [intOf]; omega
            · go_wp2
              go_roundw
              case rel => exact ⟨k + 1, (m : Int), by omega, by go_num, rfl, (by first | rfl | trivial), .inr ⟨m, rfl, by omega, HG.out.2.1, fun j hj hj0 => by
                by_cases e : j = k
                · subst e; rw [HX.out, HG.out.1]; omega
                · exact HG.out.2.2.1 j (by omega) hj0, HG.out.2.2.2⟩⟩
              case measure => simp [intOf]; omega
        · have hg : ¬ x ≥ 0 := h0
          have HR := Lib.hid hrel
          clear hrel
          go_wp2
          go_roundw
          case rel =>
            refine ⟨k + 1, r, by omega, by go_num, rfl, (by first | rfl | trivial), ?_⟩
            rcases HR.out with ⟨rfl, hneg⟩ | ⟨m, rfl, hmk, hm0, hm1, hm2⟩
            · refine .inl ⟨rfl, fun j hj => ?_⟩
              by_cases e : j = k
              · subst e; rw [HX.out]; omega
              · exact hneg j (by omega)
            · refine .inr ⟨m, rfl, by omega, hm0, fun j hj hj0 => ?_, hm2⟩
              by_cases e : j = k
              · subst e; rw [HX.out] at hj0; omega
              · exact hm1 j (by omega) hj0
          case measure => simp [intOf]; omega
      · obtain rfl : k = n := by omega
        have HR := Lib.hid hrel
        clear hrel
        go_wp2
        go_ret
        refine ⟨⟨r, ?_, rfl⟩, rfl⟩
        unfold GreedyP
        rw [HC.out.2]
        rcases HR.out with h | ⟨m, h1, h2, h3, h4, h5⟩
        · exact .inl h
        · exact .inr ⟨m, h1, h2, h3, h4, h5⟩
  obtain ⟨r, hr⟩ : ∃ r, GreedyP zs r := greedy_some zs
  exact ⟨r, hr, key.mono fun e w' ⟨⟨s, hs2, he⟩, hw⟩ => ⟨by rw [he, hs2.eq hr], by rw [← hw]; exact g15_refl w⟩⟩

/-- The least and the greatest of what was met. -/
structure LG (zs : List Int) (k : Nat) (l g : Int) : Prop where
  l0 : 0 ≤ l
  l1 : l ≤ 1099511627776
  g0 : 0 ≤ g
  g1 : g ≤ 1099511627776
  all : ∀ j, j < k → l ≤ cl40 zs j ∧ cl40 zs j ≤ g
  some : (k = 0 ∧ l = 1099511627776 ∧ g = 0) ∨ ∃ a b, a < k ∧ b < k ∧ l = cl40 zs a ∧ g = cl40 zs b
theorem LG.next {zs : List Int} {k : Nat} {l g c : Int} (h : LG zs k l g) (hc : cl40 zs k = c) (h0 : 0 ≤ c) (h1 : c ≤ 1099511627776) : LG zs (k + 1) (min l c) (max g c) := by
  obtain ⟨a0, a1, a2, a3, a4, a5⟩ := h
  refine ⟨by omega, by omega, by omega, by omega, fun j hj => ?_, ?_⟩
  · by_cases e : j = k
    · subst e; rw [hc]; omega
    · have := a4 j (by omega); omega
  · right
    rcases a5 with ⟨rfl, rfl, rfl⟩ | ⟨a, b, ha, hb, rfl, rfl⟩
    · exact ⟨0, 0, by omega, by omega, by rw [hc]; omega, by rw [hc]; omega⟩
    · by_cases e1 : cl40 zs a ≤ c
      · by_cases e2 : c ≤ cl40 zs b
        · exact ⟨a, b, by omega, by omega, by omega, by omega⟩
        · exact ⟨a, k, by omega, by omega, by omega, by omega⟩
      · by_cases e2 : c ≤ cl40 zs b
        · exact ⟨k, b, by omega, by omega, by omega, by omega⟩
        · exact ⟨k, k, by omega, by omega, by omega, by omega⟩
theorem LG.spr {zs : List Int} {k : Nat} {l g : Int} (h : LG zs k l g) (hk : zs.length = k) (h0 : k ≠ 0) : SprP zs (g - l) := by
  obtain ⟨a0, a1, a2, a3, a4, a5⟩ := h
  rcases a5 with ⟨h, _⟩ | ⟨a, b, ha, hb, e1, e2⟩
  · exact absurd h h0
  refine ⟨by have := a4 0 (by omega); omega, fun x hx y hy => ?_, .inr ⟨b, a, by omega, by omega, by omega⟩⟩
  have h1 := a4 x (by omega)
  have h2 := a4 y (by omega)
  omega

end Go.Proofs.YtdadgcfpcneaiaaGreatDoor

/-
  Package rule: within, isPages, Check, Data, Total, Bound, Most (layer 9), for sizes that may be; fixed; the law RuleRoom walked.
-/
namespace Go.Proofs.YtdadgcfpcneaiaaGreatDoor
set_option linter.unusedVariables false
set_option linter.unusedSimpArgs false
set_option linter.unusedVariables false
set_option linter.unusedSimpArgs false
set_option maxRecDepth 100000
open Go.RowKit

def inB (v l m : Int) : Bool := decide (l ≤ v ∧ v ≤ m)

set_option maxHeartbeats 400000 in
theorem ruleWithin_any (v l m : Int) (w : World) :
    Calls Tryz.prog 51 #[.int .i64 v, .int .i64 l, .int .i64 m] w fun e w' => e = .returned (.bool (inB v l m)) ∧ w = w' := by
  by_cases h0 : l ≤ v
  · have e0 : decide (l ≤ v) = true := by simpa using h0
    go_enter Tryz.func51, Tryz.ntmps51
    go_wp2
    go_ret
    exact ⟨ret_bool (by simp [inB, h0]), rfl⟩
  · have e0 : decide (l ≤ v) = false := by simpa using h0
    go_enter Tryz.func51, Tryz.ntmps51
    go_wp2
    go_ret
    exact ⟨ret_bool (by simp [inB]; omega), rfl⟩

theorem rulePages_any (p : Int) (w : World) :
    Calls Tryz.prog 50 #[.int .i64 p] w fun e w' => e = .returned (.bool (inB p 2 16)) ∧ w = w' := by
  go_enter Tryz.func50, Tryz.ntmps50
  go_wp2_with (go_at_call 51; refine (ruleWithin_any _ _ _ _).mono ?_; rintro e w' ⟨rfl, rfl⟩)
  go_ret
  exact ⟨rfl, rfl⟩

def roomE (s r : Int) : Int := if inB s 1 64 = true ∧ inB r 0 8 = true then 0 else 5

set_option maxHeartbeats 400000 in
theorem ruleCheck_any (s r : Int) (w : World) :
    Calls Tryz.prog 64 #[.int .i64 s, .int .i64 r] w fun e w' => e = .returned (.int .i64 (roomE s r)) ∧ w = w' := by
  unfold roomE
  generalize h1 : inB s 1 64 = b1
  generalize h2 : inB r 0 8 = b2
  have W1 := Lib.hid h1
  have W2 := Lib.hid h2
  clear h1 h2
  cases b1 <;> cases b2
  all_goals
    go_enter Tryz.func64, Tryz.ntmps64
    go_wp2_with (go_at_call 51; refine (ruleWithin_any _ _ _ _).mono ?_; rintro e w' ⟨rfl, rfl⟩; first | rw [W1.out] | rw [W2.out])
    go_ret
    exact ⟨rfl, rfl⟩

set_option maxHeartbeats 400000 in
theorem ruleData_any (s p : Int) (w : World) (hs : 1 ≤ s ∧ s ≤ 64) (hp : 2 ≤ p ∧ p ≤ 16) :
    Calls Tryz.prog 65 #[.int .i64 s, .int .i64 p] w fun e w' => e = .returned (.int .i64 (s / p + 2)) ∧ w = w' := by
  have C := ruleCheck_any s 0
  have P := rulePages_any p
  rw [show roomE s 0 = 0 by simp [roomE, inB]; omega] at C
  rw [show inB p 2 16 = true by simp [inB]; omega] at P
  obtain ⟨s0, s1⟩ := hs
  obtain ⟨p0, p1⟩ := hp
  have q0 : 0 ≤ s / p := Int.ediv_nonneg (by omega) (by omega)
  have q1 : s / p ≤ 64 := Int.le_trans (Int.ediv_le_self _ (by omega)) s1
  go_enter Tryz.func65, Tryz.ntmps65
  go_wp2_with (first
    | (go_at_call 64; refine (C _).mono ?_; rintro e w' ⟨rfl, rfl⟩)
    | (go_at_call 50; refine (P _).mono ?_; rintro e w' ⟨rfl, rfl⟩))
  go_ret
  exact ⟨rfl, rfl⟩

set_option maxHeartbeats 400000 in
theorem ruleTotal_any (s r p : Int) (w : World) (hs : 1 ≤ s ∧ s ≤ 64) (hr : 0 ≤ r ∧ r ≤ 8) (hp : 2 ≤ p ∧ p ≤ 16) :
    Calls Tryz.prog 32 #[.int .i64 s, .int .i64 r, .int .i64 p] w fun e w' => e = .returned (.int .i64 (s / p + 2 + r)) ∧ w = w' := by
  have C := ruleCheck_any s r
  have P := rulePages_any p
  have D := fun w => ruleData_any s p w hs hp
  rw [show roomE s r = 0 by simp [roomE, inB]; omega] at C
  rw [show inB p 2 16 = true by simp [inB]; omega] at P
  obtain ⟨s0, s1⟩ := hs
  obtain ⟨p0, p1⟩ := hp
  obtain ⟨r0, r1⟩ := hr
  have q0 : 0 ≤ s / p := Int.ediv_nonneg (by omega) (by omega)
  have q1 : s / p ≤ 64 := Int.le_trans (Int.ediv_le_self _ (by omega)) s1
  go_enter Tryz.func32, Tryz.ntmps32
  go_wp2_with (first
    | (go_at_call 64; refine (C _).mono ?_; rintro e w' ⟨rfl, rfl⟩)
    | (go_at_call 50; refine (P _).mono ?_; rintro e w' ⟨rfl, rfl⟩)
    | (go_at_call 65; refine (D _).mono ?_; rintro e w' ⟨rfl, rfl⟩))
  go_ret
  exact ⟨rfl, rfl⟩

/-- The greatest size that so many blocks serve. -/
def MostIs (b r p : Int) (k : Nat) : Prop := k ≤ 64 ∧ (∀ j : Nat, k < j → j ≤ 64 → b < (j : Int) / p + 2 + r) ∧ (k = 0 ∨ (k : Int) / p + 2 + r ≤ b)

theorem ruleBound_four (w : World) :
    Calls Tryz.prog 21 #[.int .i64 4, .int .i64 0] w fun e w' => e = .returned (.int .i64 11) ∧ w = w' := by
  have W := ruleWithin_any 0 0 1048576
  have P := rulePages_any 4
  rw [show inB 0 0 1048576 = true by decide] at W
  rw [show inB 4 2 16 = true by decide] at P
  go_enter Tryz.func21, Tryz.ntmps21
  go_wp2_with (first
    | (go_at_call 51; refine (W _).mono ?_; rintro e w' ⟨rfl, rfl⟩)
    | (go_at_call 50; refine (P _).mono ?_; rintro e w' ⟨rfl, rfl⟩))
  go_ret
  exact ⟨rfl, rfl⟩

theorem room_facts {s p : Int} (s0 : 1 ≤ s) (s1 : s ≤ 64) (p0 : 2 ≤ p) (p1 : p ≤ 16) :
    0 ≤ s / p ∧ s / p ≤ 32 ∧ s < (s / p + 2 - 1) * p ∧ (s / p + 2 - 1) * p ≤ 528 := by
  have q0 : 0 ≤ s / p := Int.ediv_nonneg (by omega) (by omega)
  have q2 : s / p ≤ s / 2 := by
    rw [Int.le_ediv_iff_mul_le (by decide)]
    have h1 : s / p * 2 ≤ s / p * p := Int.mul_le_mul_of_nonneg_left p0 q0
    have h2 := Int.ediv_mul_le s (show p ≠ 0 by omega)
    omega
  have q3 : s < (s / p + 1) * p := Int.lt_ediv_add_one_mul_self s (by omega)
  have q4 : (s / p + 1) * p ≤ 33 * 16 := Int.mul_le_mul (by omega) p1 (by omega) (by omega)
  rw [show s / p + 2 - 1 = s / p + 1 by omega]
  omega

theorem most_le {s p : Int} {k : Nat} (s0 : 1 ≤ s) (s1 : s ≤ 64) (h : MostIs (s / p + 2) 0 p k) : s ≤ (k : Int) := by
  rcases Int.lt_or_le (k : Int) s with h1 | h1
  · have := h.2.1 s.toNat (by omega) (by omega)
    rw [Int.toNat_of_nonneg (by omega)] at this
    omega
  · exact h1

end Go.Proofs.YtdadgcfpcneaiaaGreatDoor

/-
  Layer 18 (store): what its calls come to, as functions: the model.
-/
namespace Go.Proofs.YtdadgcfpcneaiaaGreatDoor
set_option linter.unusedVariables false
set_option linter.unusedSimpArgs false
set_option linter.unusedVariables false
set_option linter.unusedSimpArgs false
set_option maxRecDepth 100000
open Go.RowKit

/-! the buffer's calls -/
theorem buf_put18 (w : World) (b : Nat) (row : List Chg) (x : Chg) (hA : BufA w b row) (hl : row.length ≤ 4) (hd : x.dt.size ≤ 9223372036854775807) : Calls Tryz.prog 73 #[.pointer (some ⟨b, 0, none⟩), chgV x] w fun e w' => e = .returned (.int .i64 (putE row x)) ∧ BufA w' b (putR row x) ∧ w.grownBy w' (some b) := by
  obtain ⟨rs, f, c, hS, rfl⟩ := hA
  have hlen := ringL_len rs f c
  have hf := hS.fl
  unfold putR putE
  by_cases h0 : chkE x.pl x.kd x.dt = 0
  · rw [if_pos h0]
    by_cases h4 : (ringL rs f c).length = 4
    · rw [if_pos h4, if_neg (by decide)]
      have hc4 : c = 4 := by omega
      subst hc4
      exact (put_full hS x hd h0).mono fun e w' ⟨h1, h2⟩ => ⟨h1, ⟨rs, f, 4, hS.ext h2, rfl⟩, grown_any13 h2⟩
    · rw [if_neg h4, if_pos rfl]
      have hcl := hS.cl
      exact (put_ok hS (by omega) x hd h0).mono fun e w' ⟨h1, h2, h3⟩ => ⟨h1, ⟨_, f, c + 1, h2, (ringL_put hS.four f c (by omega) x).symm⟩, h3⟩
  · rw [if_neg h0, if_neg h0]
    exact (put_bad hS x hd h0).mono fun e w' ⟨h1, h2⟩ => ⟨h1, ⟨rs, f, c, hS.ext h2, rfl⟩, grown_any13 h2⟩
theorem buf_first18 (w : World) (b : Nat) (row : List Chg) (hA : BufA w b row) (hl : row.length ≤ 4) : Calls Tryz.prog 77 #[.pointer (some ⟨b, 0, none⟩)] w fun e w' => e = .returned (.tuple #[chgV (firstC row), .bool (decide (0 < row.length))]) ∧ w.grownBy w' none := by
  obtain ⟨rs, f, c, hS, rfl⟩ := hA
  rw [ringL_len]
  by_cases hc : 0 < c
  · rw [decide_eq_true hc]
    exact first_some hS hc (ringL_first rs hS.fl hc).symm
  · obtain rfl : c = 0 := by omega
    exact first_none hS
theorem buf_drop18 (w : World) (b : Nat) (row : List Chg) (hA : BufA w b row) (hl : row.length ≤ 4) : Calls Tryz.prog 79 #[.pointer (some ⟨b, 0, none⟩)] w fun e w' => e = .returned (.bool (decide (0 < row.length))) ∧ BufA w' b (row.drop 1) ∧ w.grownBy w' (some b) := by
  obtain ⟨rs, f, c, hS, rfl⟩ := hA
  rw [ringL_len]
  by_cases hc : 0 < c
  · rw [decide_eq_true hc]
    refine (drop_some hS hc).mono fun e w' ⟨h1, h2, h3⟩ => ⟨h1, ⟨_, _, _, h2, ?_⟩, h3⟩
    have := ringL_drop (rs := rs) f c noChg hc hS.cl
    rw [Nat.mod_eq_of_lt hS.fl] at this
    exact this.symm
  · obtain rfl : c = 0 := by omega
    exact (drop_none hS).mono fun e w' ⟨h1, h2⟩ => ⟨h1, ⟨rs, f, 0, h2 ▸ hS, rfl⟩, by subst h2; exact grown_any13 (Ext.refl w)⟩
theorem buf_last18 (w : World) (b : Nat) (row : List Chg) (p : Int) (hA : BufA w b row) (hl : row.length ≤ 4) : Calls Tryz.prog 39 #[.pointer (some ⟨b, 0, none⟩), .int .i64 p] w fun e w' => e = .returned (.tuple #[chgV (lastN row p).1, .bool (lastN row p).2]) ∧ w.grownBy w' none := by
  obtain ⟨rs, f, c, hS, rfl⟩ := hA
  exact last_is hS p
theorem buf_len18 (w : World) (b : Nat) (row : List Chg) (hA : BufA w b row) (hl : row.length ≤ 4) : Calls Tryz.prog 42 #[.pointer (some ⟨b, 0, none⟩)] w fun e w' => e = .returned (.int .i64 row.length) ∧ w.grownBy w' none := by
  obtain ⟨rs, f, c, hS, rfl⟩ := hA
  rw [ringL_len]
  exact (len_is hS).mono fun e w' ⟨h1, h2⟩ => ⟨h1, by subst h2; exact Ext.refl w⟩
theorem buf_full18 (w : World) (b : Nat) (row : List Chg) (hA : BufA w b row) (hl : row.length ≤ 4) : Calls Tryz.prog 72 #[.pointer (some ⟨b, 0, none⟩)] w fun e w' => e = .returned (.bool (decide (row.length = 4))) ∧ w.grownBy w' none := by
  obtain ⟨rs, f, c, hS, rfl⟩ := hA
  rw [ringL_len]
  exact (full_is hS).mono fun e w' ⟨h1, h2⟩ => ⟨h1, by subst h2; exact Ext.refl w⟩

/-- A store's parts that stand. -/
structure SC where
  S : NShape
  zs : Nat → List Int
  who : Int
  ep : Int
  sz : Int
  sp : Int
  bl : List Int

/-- What changes: the array, the table's rows, the changes that wait, the next number, the front, whether to be read only. -/
structure SM where
  n : NS
  rs : List R14
  q : List Chg
  sq : Int
  fr : Int
  ro : Bool

def SC.ph (c : SC) (b : Int) : Int := c.bl.getD b.toNat 0
def badB (c : SC) (m : SM) (b : Nat) : Bool := m.n.mr (c.ph b).toNat
def nextB (c : SC) (m : SM) (b : Nat) : Nat := nextN (m.n.L (c.ph b).toNat) c.S.pg
def hasS (c : SC) (b : Int) : Bool := decide (0 ≤ b ∧ b < c.bl.length)
def badN (c : SC) (m : SM) : Nat := ((List.range c.bl.length).filter (badB c m)).length
def sprN (c : SC) (m : SM) : Int := (if c.sp < badN c m then (badN c m : Int) else c.sp) - badN c m
def freeB (c : SC) (m : SM) (b : Nat) : Bool := decide ((b : Int) ≠ m.fr) && (decide (nextB c m b = 0) && !badB c m b)
def freeL (c : SC) (m : SM) : List Int := List.map (fun b : Nat => (b : Int)) ((List.range c.bl.length).filter (freeB c m))
def mayS (c : SC) (m : SM) (b : Nat) : Bool := !decide (nextB c m b = 0) && (!badB c m b && decide (worthN m.rs b < c.S.pg))
def worthL (c : SC) (m : SM) : List Int := List.map (fun b : Nat => if mayS c m b then (worthN m.rs b : Int) else -1) (List.range c.bl.length)
noncomputable def grdN (ws : List Int) : Int := (greedy_some ws).choose
theorem grdN_is (ws : List Int) : GreedyP ws (grdN ws) := (greedy_some ws).choose_spec

/-- A page with its tag is written. -/
def prgE (c : SC) (n : NS) (b pg : Int) (pl sq kd : Int) (te ep : Int) (cp : Bool) (dt : ByteArray) : Int :=
  if okB te ep pl sq kd then progE c.S c.zs n c.who (c.ph b) pg (tagBL te ep pl sq kd cp).length dt.size else 1
def prgS (c : SC) (n : NS) (b pg : Int) (pl sq kd : Int) (te ep : Int) (cp : Bool) (dt : ByteArray) : NS :=
  if okB te ep pl sq kd then progS c.S c.zs n c.who (c.ph b) pg (tagBL te ep pl sq kd cp) dt else n

/-- A page is read. -/
def oneF (c : SC) (n : NS) (b pg : Int) : Fnd := if 0 ≤ b ∧ b < c.bl.length then findF c.S n (c.ph b) pg b else noF
def oneE (c : SC) (n : NS) (b pg : Int) : Int := if 0 ≤ b ∧ b < c.bl.length then findE c.S n (c.ph b) pg else 5
def fdF (c : SC) (n : NS) (b pg : Int) : Fnd := if oneE c n b pg = 0 ∧ (oneF c n b pg).torn = true then noF else oneF c n b pg
def fdE (c : SC) (n : NS) (b pg : Int) : Int := if oneE c n b pg = 0 ∧ (oneF c n b pg).torn = true then 11 else oneE c n b pg

/-- The needed pages of a block, of the first so many. -/
def needR (c : SC) (m : SM) (b : Int) : Nat → List Fnd × Int
  | 0 => ([], 0)
  | k + 1 => if (needR c m b k).2 ≠ 0 then needR c m b k else if placeN m.rs b k < 0 then needR c m b k
      else if fdE c m.n b k = 0 then ((needR c m b k).1 ++ [fdF c m.n b k], 0) else ([], fdE c m.n b k)

/-- Pages are copied, from the i-th on. -/
def copyR (c : SC) (tg : Int) : List Fnd → Nat → NS → Int × NS
  | [], _, n => (0, n)
  | f :: l, i, n => if prgE c n tg i f.pl f.sq f.kd f.te f.ep true f.dt = 0 then copyR c tg l (i + 1) (prgS c n tg i f.pl f.sq f.kd f.te f.ep true f.dt)
      else (prgE c n tg i f.pl f.sq f.kd f.te f.ep true f.dt, prgS c n tg i f.pl f.sq f.kd f.te f.ep true f.dt)

/-- The copies are the places' pages. -/
def setlR (c : SC) (tg : Int) : List Fnd → Nat → List R14 → Int × List R14
  | [], _, rs => (0, rs)
  | f :: l, i, rs => if setE c.bl.length c.S.pg rs (placeN rs f.bk f.pg) tg i = 0 then setlR c tg l (i + 1) (setR c.bl.length c.S.pg rs (placeN rs f.bk f.pg) tg i)
      else (setE c.bl.length c.S.pg rs (placeN rs f.bk f.pg) tg i, rs)

def affE (c : SC) (m : SM) (spoken : Int) : Int := if sprN c m > spoken then 0 else 13
def affM (c : SC) (m : SM) (spoken : Int) : SM := if sprN c m > spoken then m else { m with ro := true }
def giveE (c : SC) (m : SM) (b spoken : Int) : Int := if sprN c m > spoken then markE c.S m.n (c.ph b) else 13
def giveM (c : SC) (m : SM) (b spoken : Int) : SM := if sprN c m > spoken then { m with n := markS c.S m.n (c.ph b) } else { m with ro := true }

def moveF (c : SC) (row : List Fnd) (spoken : Int) : Nat → SM → Option (Int × SM)
  | 0, _ => none
  | k + 1, m => match freeL c m with
    | [] => some (8, m)
    | tg :: _ =>
      if (copyR c tg row 0 m.n).1 = 0 then some ((setlR c tg row 0 m.rs).1, { m with n := (copyR c tg row 0 m.n).2, fr := tg, rs := (setlR c tg row 0 m.rs).2 })
      else if (copyR c tg row 0 m.n).1 ≠ 10 then some ((copyR c tg row 0 m.n).1, { m with n := (copyR c tg row 0 m.n).2 })
      else if giveE c { m with n := (copyR c tg row 0 m.n).2 } tg spoken ≠ 0 then some (giveE c { m with n := (copyR c tg row 0 m.n).2 } tg spoken, giveM c { m with n := (copyR c tg row 0 m.n).2 } tg spoken)
      else moveF c row spoken k (giveM c { m with n := (copyR c tg row 0 m.n).2 } tg spoken)
def moveR (c : SC) (m : SM) (b spoken : Int) (k : Nat) : Option (Int × SM) :=
  if (needR c m b c.S.pg).2 ≠ 0 then some ((needR c m b c.S.pg).2, m) else moveF c (needR c m b c.S.pg).1 spoken k m

def eraE (c : SC) (m : SM) (b : Int) : Int := if ersE c.S c.zs m.n c.who (c.ph b) ≠ 10 then ersE c.S c.zs m.n c.who (c.ph b) else giveE c { m with n := ersS c.S c.zs m.n c.who (c.ph b) } b 0
def eraM (c : SC) (m : SM) (b : Int) : SM := if ersE c.S c.zs m.n c.who (c.ph b) ≠ 10 then { m with n := ersS c.S c.zs m.n c.who (c.ph b) } else giveM c { m with n := ersS c.S c.zs m.n c.who (c.ph b) } b 0

def collR (c : SC) (m : SM) (b : Int) (k : Nat) : Option (Int × SM) :=
  match moveR c m b 0 k with
  | none => none
  | some (e, m1) => if e ≠ 0 then some (e, m1) else some (eraE c m1 b, eraM c m1 b)

noncomputable def roomR (c : SC) (m : SM) (k : Nat) : Option (Int × SM) :=
  if hasS c m.fr && decide (nextB c m m.fr.toNat < c.S.pg) then some (0, m)
  else if ((freeL c m).length : Int) - 1 > sprN c m then some (0, { m with fr := (freeL c m).headD 0 })
  else if grdN (worthL c m) = -1 then some (8, m) else collR c m (grdN (worthL c m)) k

def putE18 (c : SC) (m : SM) (x : Chg) : Int :=
  if prgE c m.n m.fr (nextB c m m.fr.toNat) x.pl m.sq x.kd c.who c.ep false x.dt = 0 then setE c.bl.length c.S.pg m.rs x.pl m.fr (nextB c m m.fr.toNat)
  else prgE c m.n m.fr (nextB c m m.fr.toNat) x.pl m.sq x.kd c.who c.ep false x.dt
def putM (c : SC) (m : SM) (x : Chg) : SM :=
  if prgE c m.n m.fr (nextB c m m.fr.toNat) x.pl m.sq x.kd c.who c.ep false x.dt = 0 then
    { m with n := prgS c m.n m.fr (nextB c m m.fr.toNat) x.pl m.sq x.kd c.who c.ep false x.dt, sq := m.sq + 1, rs := setR c.bl.length c.S.pg m.rs x.pl m.fr (nextB c m m.fr.toNat) }
  else { m with n := prgS c m.n m.fr (nextB c m m.fr.toNat) x.pl m.sq x.kd c.who c.ep false x.dt }

def leavR (c : SC) (m : SM) (k : Nat) : Option (Int × SM) :=
  if sprN c m > 0 then
    match moveR c m m.fr 1 k with
    | none => none
    | some (e, m1) => if e ≠ 0 then some (e, m1) else some (markE c.S m1.n (c.ph m.fr), { m1 with n := markS c.S m1.n (c.ph m.fr) })
  else some (13, { m with ro := true })

noncomputable def chgR (c : SC) (x : Chg) (k : Nat) : Nat → SM → Option (Int × SM)
  | 0, _ => none
  | j + 1, m => match roomR c m k with
    | none => none
    | some (e, m1) => if e ≠ 0 then some (e, m1) else if putE18 c m1 x ≠ 10 then some (putE18 c m1 x, putM c m1 x)
      else match leavR c (putM c m1 x) k with
        | none => none
        | some (e2, m2) => if e2 ≠ 0 then some (e2, m2) else chgR c x k j m2

noncomputable def firR (c : SC) (k : Nat) (m : SM) : Option (Int × SM) :=
  if m.q.length = 0 then some (0, m) else
    match chgR c (firstC m.q) k k m with
    | none => none
    | some (e, m1) => if e ≠ 0 then some (e, m1) else some (0, { m1 with q := m1.q.drop 1 })

noncomputable def fluF (c : SC) (k : Nat) : Nat → SM → Option (Int × SM)
  | 0, m => some (0, m)
  | j + 1, m => match firR c k m with
    | none => none
    | some (e, m1) => if e ≠ 0 then some (e, m1) else fluF c k j m1
noncomputable def fluR (c : SC) (k : Nat) (m : SM) : Option (Int × SM) := if m.ro then some (13, m) else fluF c k m.q.length m

def lacE (c : SC) (p : Int) : Int := if p < 0 ∨ c.sz ≤ p then 5 else 0
noncomputable def waiR (c : SC) (k : Nat) (m : SM) (x : Chg) : Option (Int × SM) :=
  if lacE c x.pl ≠ 0 then some (lacE c x.pl, m) else if 16 < x.dt.size then some (3, m) else if m.ro then some (13, m)
  else if m.q.length = 4 then
    match firR c k m with
    | none => none
    | some (e, m1) => if e ≠ 0 then some (e, m1) else some (putE m1.q x, { m1 with q := putR m1.q x })
  else some (putE m.q x, { m with q := putR m.q x })

def reaE (c : SC) (m : SM) (p : Int) : Int :=
  if lacE c p ≠ 0 then lacE c p else if (lastN m.q p).2 then 0 else if (atN m.rs p).2.2 then fdE c m.n (atN m.rs p).1 (atN m.rs p).2.1 else 0
def reaD (c : SC) (m : SM) (p : Int) : ByteArray :=
  if lacE c p ≠ 0 then ⟨#[]⟩ else if (lastN m.q p).2 then (lastN m.q p).1.dt else if (atN m.rs p).2.2 then
    (if (fdF c m.n (atN m.rs p).1 (atN m.rs p).2.1).kd = 2 then ⟨#[]⟩ else (fdF c m.n (atN m.rs p).1 (atN m.rs p).2.1).dt) else ⟨#[]⟩

def colR (c : SC) (m : SM) (b : Int) (k : Nat) : Option (Int × SM) :=
  if m.ro then some (13, m) else if hasS c b = false then some (5, m) else if mayS c m b.toNat = false then some (1, m) else collR c m b k

end Go.Proofs.YtdadgcfpcneaiaaGreatDoor

/-
  Layer 18 (store): a store in memory; what its calls leave.
-/
namespace Go.Proofs.YtdadgcfpcneaiaaGreatDoor
set_option linter.unusedVariables false
set_option linter.unusedSimpArgs false
set_option linter.unusedVariables false
set_option linter.unusedSimpArgs false
set_option maxRecDepth 100000
open Go.RowKit

/-- Where a store stands: its struct, its table, its buffer; the draws' rows; its blocks' row. -/
structure SP where
  sb : Nat
  tb : Nat
  bb : Nat
  V : Nat → Value
  bv : Value

def stC (p : SP) (c : SC) (m : SM) : Array Value :=
  #[.pointer (some ⟨c.S.nb, 0, none⟩), .int .i64 c.who, .bool true, .int .i64 c.ep, .int .i64 c.sz, .int .i64 c.sp, p.bv, .pointer (some ⟨p.tb, 0, none⟩), .pointer (some ⟨p.bb, 0, none⟩), .int .i64 m.sq, .int .i64 m.fr, .bool m.ro]

structure StAt (w : World) (p : SP) (c : SC) (m : SM) : Prop where
  nd : NandAt w c.S p.V c.zs m.n
  tb : TabA w p.tb c.bl.length c.S.pg m.rs
  bf : BufA w p.bb m.q
  bk : Blk w p.sb 81 (stC p c m)
  iv : Ints w p.bv c.bl
  fl : Flds w

/-- What stands of a store, for good. -/
structure StOk (p : SP) (c : SC) : Prop where
  R : Roles c.S
  zl : ∀ j, j < 4 → (c.zs j).length ≤ 64
  t0 : c.S.T 0 = 0
  ts : c.S.T p.sb = 0
  tt : c.S.T p.tb = 0
  tu : c.S.T p.bb = 0
  s0 : p.sb ≠ 0
  u0 : p.tb ≠ 0
  v0 : p.bb ≠ 0
  st : p.sb ≠ p.tb
  su : p.sb ≠ p.bb
  tu2 : p.tb ≠ p.bb
  vV : ∀ j, j < 4 → ∀ k, (p.V j).ownBlock = some k → k ≠ p.sb ∧ k ≠ p.tb ∧ k ≠ p.bb
  vb : ∀ k, p.bv.ownBlock = some k → c.S.T k = 0 ∧ k ≠ p.sb ∧ k ≠ p.tb ∧ k ≠ p.bb
  bl : c.bl.length ≤ 64
  blr : ∀ i, i < c.bl.length → 2 ≤ c.bl.getD i 0 ∧ c.bl.getD i 0 < c.S.all

/-- Within bounds. -/
structure Wf (c : SC) (m : SM) (k : Int) : Prop where
  cn : Cnt m.n k
  sq : 0 ≤ m.sq ∧ m.sq ≤ k
  ql : m.q.length ≤ 4
  qd : ∀ x ∈ m.q, x.dt.size ≤ 16
  fr : -1 ≤ m.fr ∧ m.fr < c.bl.length
  bs : ∀ i j, Byts (m.n.L i j).bs
  bn : ∀ i j, (m.n.L i j).bs.length ≤ 32
  dn : ∀ i j, (m.n.L i j).dt.size ≤ 160

/-- Blocks with a role, and the store's own: what may be turned. -/
def tS (p : SP) (c : SC) : Nat → Nat := fun k => if k = p.sb ∨ k = p.tb ∨ k = p.bb then 7 else c.S.T k
theorem tS_zero {p : SP} {c : SC} {k : Nat} (h : tS p c k = 0) : c.S.T k = 0 ∧ k ≠ p.sb ∧ k ≠ p.tb ∧ k ≠ p.bb := by
  unfold tS at h
  split at h
  · cases h
  · rename_i hn
    exact ⟨h, fun e => hn (.inl e), fun e => hn (.inr (.inl e)), fun e => hn (.inr (.inr e))⟩
theorem Keeps.less {p : SP} {c : SC} {w w' : World} (h : Keeps c.S.T w w') : Keeps (tS p c) w w' :=
  ⟨h.os, h.tape, h.output, h.size, fun k hk ht => h.block k hk (tS_zero ht).1⟩
theorem Keeps.own18 {p : SP} {c : SC} {w w' : World} {r : Nat} (h : w.grownBy w' (some r)) (hr : r = p.sb ∨ r = p.tb ∨ r = p.bb) : Keeps (tS p c) w w' :=
  ⟨h.os, h.tape, h.output, h.size, fun k hk ht => h.block k hk (fun e => by
    injection e with e; subst e
    have := tS_zero ht
    rcases hr with e | e | e
    · exact this.2.1 e
    · exact this.2.2.1 e
    · exact this.2.2.2 e)⟩

/-- A block without a role, in which no byte lies, is turned: the array stands. -/
theorem NandAt.other18 {w w' : World} {S : NShape} {V : Nat → Value} {zs : Nat → List Int} {s : NS} {r : Nat} (h : NandAt w S V zs s) (hR : Roles S) (hg : w.grownBy w' (some r)) (ht : S.T r = 0)
    (hb : ∀ o n, w.cell? ⟨r, o, none⟩ ≠ some (.int .u8 n)) (hV : ∀ j, j < 4 → ∀ k, (V j).ownBlock = some k → k ≠ r) : NandAt w' S V zs s := by
  have e : ∀ k, S.T k ≠ 0 → w'.heap[k]? = w.heap[k]? := fun k hk => hg.block k (h.hi k hk) (fun e => by injection e with e; rw [e] at hk; exact hk ht)
  have e3 := e S.bm (by rw [hR.tm]; decide)
  have e4 := e S.be (by rw [hR.te]; decide)
  have e6 := e S.db (by rw [hR.td]; decide)
  refine ⟨h.fix.stays (e _ (by rw [hR.tn]; decide)) (e _ (by rw [hR.tl]; decide)), fun i hi => ?_, fun i hi => (World.cell?_of_block e3).trans (h.mks i hi), fun o => (World.frozen?_of_block e3).trans (h.mkf o),
    fun i hi => (World.cell?_of_block e4).trans (h.ers i hi), fun o => (World.frozen?_of_block e4).trans (h.erf o), h.pow.stays (e _ (by rw [hR.tp]; decide)), ?_, h.tv, fun k hk => Nat.lt_of_lt_of_le (h.hi k hk) hg.size⟩
  · have hr := h.row i hi
    have er := e (S.row i) (by rw [hR.tr i hi]; omega)
    refine ⟨fun j hj => (World.cell?_of_block er).trans (hr.st j hj), fun j hj => ?_, fun j hj => (World.cell?_of_block er).trans (hr.dt j hj), fun o => (World.frozen?_of_block er).trans (hr.free o)⟩
    obtain ⟨v, h1, h2, h3⟩ := hr.bs j hj
    refine ⟨v, (World.cell?_of_block er).trans h1, ?_, h3⟩
    rcases h2 with h2 | ⟨b, off, cap, rfl, h5, h6⟩
    · exact .inl h2
    · refine .inr ⟨b, off, cap, rfl, h5, fun i hi => ?_⟩
      have hc := h6 i hi
      have hbr : b ≠ r := fun e => by subst e; exact hb _ _ hc
      exact (World.cell?_of_block (hg.block b (World.block_lt_of_cell? w _ hc) (fun e => by injection e with e; exact hbr e))).trans hc
  · exact h.drs.other hg (fun e => by injection e with e; have := hR.td; rw [e, ht] at this; cases this) (fun j hj k hk e => by injection e with e; exact hV j hj k hk e)

/-- No bytes lie in a table, in a buffer, in a store. -/
theorem TabA.nobyte {w : World} {t B P : Nat} {rs : List R14} (h : TabA w t B P rs) (o : Nat) (n : Int) : w.cell? ⟨t, o, none⟩ ≠ some (.int .u8 n) := by
  obtain ⟨R, W, S, hT, _⟩ := h
  intro hc
  obtain ⟨cs, hb, hcs⟩ := hT.is
  rw [hb.cell o] at hc
  have hlt : o < 1282 := by
    have := (Array.getElem?_eq_some_iff.1 hc).1
    rw [hcs.size] at this
    exact this
  by_cases h0 : o = 0
  · subst h0; rw [hcs.b] at hc; cases hc
  by_cases h1 : o = 1
  · subst h1; rw [hcs.p] at hc; cases hc
  by_cases h2 : o < 1026
  · have := hcs.row ((o - 2) / 16) ((o - 2) % 16) (by omega) (by omega)
    rw [show 2 + (o - 2) / 16 * 16 + (o - 2) % 16 = o by omega, hc] at this
    cases this
  by_cases h3 : o < 1090
  · have := hcs.wor (o - 1026) (by omega)
    rw [show 1026 + (o - 1026) = o by omega, hc] at this
    cases this
  have hq : (o - 1090) / 3 < 64 := by omega
  rcases (by omega : (o - 1090) % 3 = 0 ∨ (o - 1090) % 3 = 1 ∨ (o - 1090) % 3 = 2) with e | e | e
  · have := hcs.th _ hq
    rw [show 1090 + (o - 1090) / 3 * 3 = o by omega, hc] at this
    cases this
  · have := hcs.bk _ hq
    rw [show 1090 + (o - 1090) / 3 * 3 + 1 = o by omega, hc] at this
    cases this
  · have := hcs.pg _ hq
    rw [show 1090 + (o - 1090) / 3 * 3 + 2 = o by omega, hc] at this
    cases this
theorem BufA.nobyte {w : World} {b : Nat} {row : List Chg} (h : BufA w b row) (o : Nat) (n : Int) : w.cell? ⟨b, o, none⟩ ≠ some (.int .u8 n) := by
  obtain ⟨rs, f, c, hs, _⟩ := h
  intro hc
  rw [hs.blk.cell o] at hc
  obtain ⟨x0, x1, x2, x3, rfl⟩ := four_of hs.four
  have hm := Array.mem_of_getElem? hc
  simp [bufC, chgsL, chgC] at hm
theorem stC_nobyte {w : World} {p : SP} {c : SC} {m : SM} (hv : ∃ ao n cap, p.bv = .slice ao n cap) (h : Blk w p.sb 81 (stC p c m)) (o : Nat) (n : Int) : w.cell? ⟨p.sb, o, none⟩ ≠ some (.int .u8 n) := by
  intro hc
  rw [h.cell o] at hc
  obtain ⟨ao, l, cap, hv⟩ := hv
  have hm := Array.mem_of_getElem? hc
  simp [stC, hv] at hm

section
variable {w w' : World} {p : SP} {c : SC} {m : SM}
theorem StAt.vform (h : StAt w p c m) : ∃ ao n cap, p.bv = .slice ao n cap := by
  obtain ⟨ao, cap, _, _, h1, _⟩ := h.iv.form
  exact ⟨ao, _, cap, h1⟩
theorem StAt.ext (h : StAt w p c m) (ok : StOk p c) (hg : w.grownBy w' none) : StAt w' p c m :=
  ⟨h.nd.ext hg ok.R, h.tb.ext hg, bufStays _ _ _ _ h.bf (hg.block _ (bufLt _ _ _ h.bf) (by simp)), h.bk.ext hg, h.iv.kept hg (by simp), h.fl.ext hg⟩
theorem StAt.nand (h : StAt w p c m) (ok : StOk p c) {n : NS} (hn : NandAt w' c.S p.V c.zs n) (hk : Keeps c.S.T w w') : StAt w' p c { m with n := n } :=
  ⟨hn, by
    obtain ⟨R, W, S, h1, h2⟩ := h.tb
    obtain ⟨cs, a1, a2⟩ := h1.is
    exact ⟨R, W, S, ⟨h1.bl, h1.pl, cs, (hk.block _ h1.lt ok.tt).trans a1, a2⟩, h2⟩, bufStays _ _ _ _ h.bf (hk.block _ (bufLt _ _ _ h.bf) ok.tu), (hk.block _ h.bk.lt ok.ts).trans h.bk, hk.ints0 h.iv (fun _ q hq => (ok.vb q hq).1), fun j hj => by
    have e := hk.block 0 h.fl.lt ok.t0
    exact ⟨(World.cell?_of_block e).trans (h.fl j hj).1, (World.cell?_of_block e).trans (h.fl j hj).2.1, (World.cell?_of_block e).trans (h.fl j hj).2.2⟩⟩
theorem StAt.tab (h : StAt w p c m) (ok : StOk p c) {rs : List R14} (ht : TabA w' p.tb c.bl.length c.S.pg rs) (hg : w.grownBy w' (some p.tb)) : StAt w' p c { m with rs := rs } :=
  ⟨h.nd.other18 ok.R hg ok.tt h.tb.nobyte (fun j hj k hk => (ok.vV j hj k hk).2.1), ht, bufStays _ _ _ _ h.bf (hg.block _ (bufLt _ _ _ h.bf) (fun e => by injection e with e; exact ok.tu2 e.symm)), h.bk.kept hg (fun e => by injection e with e; exact ok.st e),
    h.iv.kept hg (fun k hk e => by injection e with e; exact (ok.vb k hk).2.2.1 e), h.fl.kept hg (fun e => by injection e with e; exact ok.u0 e.symm)⟩
theorem StAt.buf (h : StAt w p c m) (ok : StOk p c) {q : List Chg} (hb : BufA w' p.bb q) (hg : w.grownBy w' (some p.bb)) : StAt w' p c { m with q := q } :=
  ⟨h.nd.other18 ok.R hg ok.tu h.bf.nobyte (fun j hj k hk => (ok.vV j hj k hk).2.2), h.tb.kept hg (fun e => by injection e with e; exact ok.tu2 e), hb, h.bk.kept hg (fun e => by injection e with e; exact ok.su e),
    h.iv.kept hg (fun k hk e => by injection e with e; exact (ok.vb k hk).2.2.2 e), h.fl.kept hg (fun e => by injection e with e; exact ok.v0 e.symm)⟩
theorem StAt.own (h : StAt w p c m) (ok : StOk p c) {m' : SM} (hn : m'.n = m.n) (hr : m'.rs = m.rs) (hq : m'.q = m.q) (hb : Blk w' p.sb 81 (stC p c m')) (hg : w.grownBy w' (some p.sb)) : StAt w' p c m' :=
  ⟨by rw [hn]; exact h.nd.other18 ok.R hg ok.ts (stC_nobyte h.vform h.bk) (fun j hj k hk => (ok.vV j hj k hk).1), by rw [hr]; exact h.tb.kept hg (fun e => by injection e with e; exact ok.st e.symm),
    by rw [hq]; exact bufStays _ _ _ _ h.bf (hg.block _ (bufLt _ _ _ h.bf) (fun e => by injection e with e; exact ok.su e.symm)), hb,
    h.iv.kept hg (fun k hk e => by injection e with e; exact (ok.vb k hk).2.1 e), h.fl.kept hg (fun e => by injection e with e; exact ok.s0 e.symm)⟩
theorem StAt.setSq (h : StAt w p c m) (ok : StOk p c) (x : Int) : StAt (w.setCell ⟨p.sb, 9, none⟩ (.int .i64 x)) p c { m with sq := x } :=
  h.own ok rfl rfl rfl (h.bk.set 9 (.int .i64 x)) (gb_set (gb_refl w _) _ _)
theorem StAt.setFr (h : StAt w p c m) (ok : StOk p c) (x : Int) : StAt (w.setCell ⟨p.sb, 10, none⟩ (.int .i64 x)) p c { m with fr := x } :=
  h.own ok rfl rfl rfl (h.bk.set 10 (.int .i64 x)) (gb_set (gb_refl w _) _ _)
theorem StAt.setRo (h : StAt w p c m) (ok : StOk p c) (x : Bool) : StAt (w.setCell ⟨p.sb, 11, none⟩ (.bool x)) p c { m with ro := x } :=
  h.own ok rfl rfl rfl (h.bk.set 11 (.bool x)) (gb_set (gb_refl w _) _ _)

/-- The cells of a store. -/
theorem StAt.cells (h : StAt w p c m) : w.cell? ⟨p.sb, 0, none⟩ = some (.pointer (some ⟨c.S.nb, 0, none⟩)) ∧ w.cell? ⟨p.sb, 1, none⟩ = some (.int .i64 c.who) ∧ w.cell? ⟨p.sb, 3, none⟩ = some (.int .i64 c.ep) ∧ w.cell? ⟨p.sb, 4, none⟩ = some (.int .i64 c.sz) ∧ w.cell? ⟨p.sb, 5, none⟩ = some (.int .i64 c.sp)
    ∧ w.cell? ⟨p.sb, 6, none⟩ = some p.bv ∧ w.cell? ⟨p.sb, 7, none⟩ = some (.pointer (some ⟨p.tb, 0, none⟩)) ∧ w.cell? ⟨p.sb, 8, none⟩ = some (.pointer (some ⟨p.bb, 0, none⟩)) ∧ w.cell? ⟨p.sb, 9, none⟩ = some (.int .i64 m.sq) ∧ w.cell? ⟨p.sb, 10, none⟩ = some (.int .i64 m.fr) ∧ w.cell? ⟨p.sb, 11, none⟩ = some (.bool m.ro) :=
  ⟨(h.bk.cell 0).trans rfl, (h.bk.cell 1).trans rfl, (h.bk.cell 3).trans rfl, (h.bk.cell 4).trans rfl, (h.bk.cell 5).trans rfl, (h.bk.cell 6).trans rfl, (h.bk.cell 7).trans rfl, (h.bk.cell 8).trans rfl, (h.bk.cell 9).trans rfl, (h.bk.cell 10).trans rfl, (h.bk.cell 11).trans rfl⟩

/-- A call that answers v and leaves the store as m'. -/
def Gs (p : SP) (c : SC) (v : Value) (m' : SM) (w : World) (e : Ending) (w' : World) : Prop := e = .returned v ∧ StAt w' p c m' ∧ Keeps (tS p c) w w'
theorem Gs.after {v : Value} {m' : SM} {w1 : World} (hk : Keeps (tS p c) w w1) {e : Ending} (h : Gs p c v m' w1 e w') : Gs p c v m' w e w' := ⟨h.1, h.2.1, hk.trans h.2.2⟩
end

end Go.Proofs.YtdadgcfpcneaiaaGreatDoor
