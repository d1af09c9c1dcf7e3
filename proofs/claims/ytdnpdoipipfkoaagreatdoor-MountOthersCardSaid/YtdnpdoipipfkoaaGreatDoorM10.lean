/-
  Texts put together: QV QW QX QY QM UA YA YB CC YC.
-/
import Derived.Test.YtdnpdoipipfkoaaGreatDoorM01
import Derived.Lib.Hide
import Derived.Outline
import Derived.Deep.DeepCutAuto
import Derived.Deep.Cut
import Derived.Deep.LoopGhost
import Derived.Test.YtdnpdoipipfkoaaGreatDoorM07
import Derived.Test.YtdnpdoipipfkoaaGreatDoorM08
import Derived.Test.YtdnpdoipipfkoaaGreatDoorM09
namespace Go.Proofs.YtdnpdoipipfkoaaGreatDoor
set_option linter.unusedVariables false
set_option linter.unusedSimpArgs false
set_option linter.unusedVariables false
set_option linter.unusedSimpArgs false
set_option maxRecDepth 100000
open Go.RowKit
def GreedyP (zs : List Int) (r : Int) : Prop :=
 (r = -1 ∧ ∀ j, j < zs.length → zs.getD j 0 < 0) ∨ ∃ i : Nat, r = i ∧ i < zs.length ∧ 0 ≤ zs.getD i 0 ∧ (∀ j, j < zs.length → 0 ≤ zs.getD j 0 → zs.getD i 0 ≤ zs.getD j 0) ∧ ∀ j, j < i → 0 ≤ zs.getD j 0 → zs.getD i 0 < zs.getD j 0
theorem GreedyP.eq {zs : List Int} {r s : Int} (h : GreedyP zs r) (h2 : GreedyP zs s) : r = s := by
 rcases h with ⟨rfl, h⟩ | ⟨i, rfl, hi, h0, h1, hl⟩
 · rcases h2 with ⟨rfl, _⟩ | ⟨j, rfl, hj, g0, _⟩
   · rfl
   · have := h j hj; omega
 · rcases h2 with ⟨rfl, g⟩ | ⟨j, rfl, hj, g0, g1, gl⟩
   · have := g i hi; omega
   · by_cases e : i = j
     · rw [e]
     · rcases Nat.lt_or_gt_of_ne e with e | e
       · have a1 := gl i e h0; have a2 := h1 j hj g0; omega
       · have a1 := hl j e g0; have a2 := g1 i hi h0; omega
theorem greedy_some : ∀ zs : List Int, ∃ r, GreedyP zs r := by
 intro zs
 have key : ∀ k, k ≤ zs.length → (∀ j, j < k → zs.getD j 0 < 0) ∨ ∃ i : Nat, i < k ∧ 0 ≤ zs.getD i 0 ∧ (∀ j, j < k → 0 ≤ zs.getD j 0 → zs.getD i 0 ≤ zs.getD j 0) ∧ ∀ j, j < i → 0 ≤ zs.getD j 0 → zs.getD i 0 < zs.getD j 0 := by
   intro k
   induction k with
   | zero => intro _; exact .inl (fun j hj => by omega)
   | succ k ih =>
     intro hk
     rcases ih (by omega) with h | ⟨i, hi, h0, h1, h2⟩
     · by_cases hz : 0 ≤ zs.getD k 0
       · refine .inr ⟨k, by omega, hz, fun j hj h0 => ?_, fun j hj h0 => by have := h j hj; omega⟩
         by_cases e : j = k
         · subst e; exact Int.le_refl _
         · have := h j (by omega); omega
       · refine .inl (fun j hj => ?_)
         by_cases e : j = k
         · subst e; omega
         · exact h j (by omega)
     · by_cases hz : 0 ≤ zs.getD k 0 ∧ zs.getD k 0 < zs.getD i 0
       · refine .inr ⟨k, by omega, hz.1, fun j hj g0 => ?_, fun j hj g0 => by have := h1 j hj g0; omega⟩
         by_cases e : j = k
         · subst e; exact Int.le_refl _
         · have := h1 j (by omega) g0; omega
       · refine .inr ⟨i, by omega, h0, fun j hj g0 => ?_, h2⟩
         by_cases e : j = k
         · subst e; omega
         · exact h1 j (by omega) g0
 rcases key zs.length (Nat.le_refl _) with h | ⟨i, hi, h0, h1, h2⟩
 · exact ⟨-1, .inl ⟨rfl, h⟩⟩
 · exact ⟨i, .inr ⟨i, rfl, hi, h0, h1, h2⟩⟩
def VicG : Prop := ∀ (v : Value) (zs : List Int) (w : World), Ints w v zs → zs.length ≤ 9223372036854775807 → ∃ r, GreedyP zs r ∧ Calls Tryz.prog 129 #[v] w fun e w' => e = .returned (.int .i64 r) ∧ w.grownBy w' none
theorem g15_refl (w : World) : w.grownBy w none := ⟨rfl, rfl, rfl, Nat.le_refl _, fun _ _ _ => rfl⟩
theorem Ints.cells15 {w : World} {v : Value} {zs : List Int} (h : Ints w v zs) : ∃ ao cap, v = .slice ao zs.length cap ∧ ∀ i, i < zs.length → ∃ b off, ao = some ⟨b, off, none⟩ ∧ w.cell? ⟨b, off + i, none⟩ = some (.int .i64 (zs.getD i 0)) := by
 rcases h with ⟨rfl, rfl⟩ | ⟨b, off, cap, rfl, _, h3⟩ | ⟨x, cap, rfl, rfl⟩
 · exact ⟨none, 0, rfl, fun i hi => by simp at hi⟩
 · exact ⟨_, cap, rfl, fun i hi => ⟨b, off, rfl, h3 i hi⟩⟩
 · exact ⟨_, cap, rfl, fun i hi => by simp at hi⟩
end Go.Proofs.YtdnpdoipipfkoaaGreatDoor

namespace Go.Proofs.YtdnpdoipipfkoaaGreatDoor
set_option linter.unusedVariables false
set_option linter.unusedSimpArgs false
set_option linter.unusedVariables false
set_option linter.unusedSimpArgs false
set_option maxRecDepth 100000
open Go.RowKit
end Go.Proofs.YtdnpdoipipfkoaaGreatDoor

namespace Go.Proofs.YtdnpdoipipfkoaaGreatDoor
set_option linter.unusedVariables false
set_option linter.unusedSimpArgs false
set_option linter.unusedVariables false
set_option linter.unusedSimpArgs false
set_option maxRecDepth 100000
open Go.RowKit
end Go.Proofs.YtdnpdoipipfkoaaGreatDoor

namespace Go.Proofs.YtdnpdoipipfkoaaGreatDoor
set_option linter.unusedVariables false
set_option linter.unusedSimpArgs false
set_option linter.unusedVariables false
set_option linter.unusedSimpArgs false
set_option maxRecDepth 100000
open Go.RowKit
end Go.Proofs.YtdnpdoipipfkoaaGreatDoor

namespace Go.Proofs.YtdnpdoipipfkoaaGreatDoor
set_option linter.unusedVariables false
set_option linter.unusedSimpArgs false
set_option linter.unusedVariables false
set_option linter.unusedSimpArgs false
set_option maxRecDepth 100000
open Go.RowKit
set_option maxHeartbeats 1600000 in
theorem vicGreedy_any : VicG := by
 intro v zs w h hl
 have key : Calls Tryz.prog 129 #[v] w fun e w' => (∃ r, GreedyP zs r ∧ e = .returned (.int .i64 r)) ∧ w = w' := by
   obtain ⟨ao, cap, rfl, hc⟩ := h.cells15
   obtain ⟨n, hn⟩ : ∃ n, zs.length = n := ⟨_, rfl⟩
   rw [hn] at hl hc ⊢
   have HC := Lib.hid (And.intro hc hn)
   clear h hc hn
   go_enter Tryz.func129, Tryz.ntmps129
   go_wp2
   go_loopw [3, 8] (fun s i wr => ∃ (k : Nat) (r : Int), k ≤ n ∧ i = .int .i64 k ∧ s = .int .i64 r ∧ w = wr ∧ ((r = -1 ∧ ∀ j, j < k → zs.getD j 0 < 0) ∨ ∃ m : Nat, r = m ∧ m < k ∧ 0 ≤ zs.getD m 0 ∧ (∀ j, j < k → 0 ≤ zs.getD j 0 → zs.getD m 0 ≤ zs.getD j 0) ∧ ∀ j, j < m → 0 ≤ zs.getD j 0 → zs.getD m 0 < zs.getD j 0)) (fun _ i _ => n - (intOf i).toNat)
   case atStart => exact ⟨0, -1, by omega, rfl, rfl, rfl, .inl ⟨rfl, fun j hj => by omega⟩⟩
   case round =>
     obtain ⟨k, r, hk, rfl, rfl, rfl, hrel⟩ := hrel
     by_cases hlt : k < n
     · obtain ⟨b, off, rfl, hcell⟩ := HC.out.1 k hlt
       obtain ⟨x, hx⟩ : ∃ z, zs.getD k 0 = z := ⟨_, rfl⟩
       rw [hx] at hcell
       have HX := Lib.hid hx
       clear hx
       by_cases h0 : 0 ≤ x
       · have hg : x ≥ 0 := h0
         rcases hrel with ⟨hr, hneg⟩ | ⟨m, hr, hmk, hm0, hm1, hm2⟩
         · have hrb : (r == -1) = true := by simpa using hr
           have HG := Lib.hid (And.intro hr hneg)
           clear hr hneg
           go_wp2
           go_roundw
           case rel => exact ⟨k + 1, (k : Int), by omega, by go_num, rfl, (by first | rfl | trivial), .inr ⟨k, rfl, by omega, by rw [HX.out]; exact h0, fun j hj hj0 => by
             by_cases e : j = k
             · subst e; omega
             · have := HG.out.2 j (by omega); omega, fun j hj hj0 => by have := HG.out.2 j hj; omega⟩⟩
           case measure => simp [intOf]; omega
         · obtain ⟨b', off', hao, hcm⟩ := HC.out.1 m (by omega)
           simp only [Option.some.injEq, Addr.mk.injEq, and_true] at hao
           obtain ⟨rfl, rfl⟩ := hao
           subst hr
           have hrb : ((m : Int) == -1) = false := by simp
           obtain ⟨y, hy⟩ : ∃ z, zs.getD m 0 = z := ⟨_, rfl⟩
           rw [hy] at hcm
           have HG := Lib.hid (And.intro hy (And.intro hm0 (And.intro hm1 hm2)))
           have hmn : m < n := by omega
           clear hy hm0 hm1 hm2
           by_cases hxy : x < y
           · go_wp2
             go_roundw
             case rel => exact ⟨k + 1, (k : Int), by omega, by go_num, rfl, (by first | rfl | trivial), .inr ⟨k, rfl, by omega, by rw [HX.out]; exact h0, fun j hj hj0 => by
               by_cases e : j = k
               · subst e; omega
               · have := HG.out.2.2.1 j (by omega) hj0; rw [HG.out.1] at this; rw [HX.out]; omega, fun j hj hj0 => by
                 have := HG.out.2.2.1 j hj hj0; rw [HG.out.1] at this; rw [HX.out]; omega⟩⟩
             case measure => simp [intOf]; omega
           · go_wp2
             go_roundw
             case rel => exact ⟨k + 1, (m : Int), by omega, by go_num, rfl, (by first | rfl | trivial), .inr ⟨m, rfl, by omega, HG.out.2.1, fun j hj hj0 => by
               by_cases e : j = k
               · subst e; rw [HX.out, HG.out.1]; omega
               · exact HG.out.2.2.1 j (by omega) hj0, HG.out.2.2.2⟩⟩
             case measure => simp [intOf]; omega
       · have hg : ¬ x ≥ 0 := h0
         have HR := Lib.hid hrel
         clear hrel
         go_wp2
         go_roundw
         case rel =>
           refine ⟨k + 1, r, by omega, by go_num, rfl, (by first | rfl | trivial), ?_⟩
           rcases HR.out with ⟨rfl, hneg⟩ | ⟨m, rfl, hmk, hm0, hm1, hm2⟩
           · refine .inl ⟨rfl, fun j hj => ?_⟩
             by_cases e : j = k
             · subst e; rw [HX.out]; omega
             · exact hneg j (by omega)
           · refine .inr ⟨m, rfl, by omega, hm0, fun j hj hj0 => ?_, hm2⟩
             by_cases e : j = k
             · subst e; rw [HX.out] at hj0; omega
             · exact hm1 j (by omega) hj0
         case measure => simp [intOf]; omega
     · obtain rfl : k = n := by omega
       have HR := Lib.hid hrel
       clear hrel
       go_wp2
       go_ret
       refine ⟨⟨r, ?_, rfl⟩, rfl⟩
       unfold GreedyP
       rw [HC.out.2]
       rcases HR.out with h | ⟨m, h1, h2, h3, h4, h5⟩
       · exact .inl h
       · exact .inr ⟨m, h1, h2, h3, h4, h5⟩
 obtain ⟨r, hr⟩ : ∃ r, GreedyP zs r := greedy_some zs
 exact ⟨r, hr, key.mono fun e w' ⟨⟨s, hs2, he⟩, hw⟩ => ⟨by rw [he, hs2.eq hr], by rw [← hw]; exact g15_refl w⟩⟩
end Go.Proofs.YtdnpdoipipfkoaaGreatDoor

namespace Go.Proofs.YtdnpdoipipfkoaaGreatDoor
set_option linter.unusedVariables false
set_option linter.unusedSimpArgs false
set_option linter.unusedVariables false
set_option linter.unusedSimpArgs false
set_option maxRecDepth 100000
open Go.RowKit
def inB (v l m : Int) : Bool := decide (l ≤ v ∧ v ≤ m)
set_option maxHeartbeats 400000 in
theorem ruleWithin_any (v l m : Int) (w : World) :
   Calls Tryz.prog 92 #[.int .i64 v, .int .i64 l, .int .i64 m] w fun e w' => e = .returned (.bool (inB v l m)) ∧ w = w' := by
 by_cases h0 : l ≤ v
 · have e0 : decide (l ≤ v) = true := by simpa using h0
   go_enter Tryz.func92, Tryz.ntmps92
   go_wp2
   go_ret
   exact ⟨ret_bool (by simp [inB, h0]), rfl⟩
 · have e0 : decide (l ≤ v) = false := by simpa using h0
   go_enter Tryz.func92, Tryz.ntmps92
   go_wp2
   go_ret
   exact ⟨ret_bool (by simp [inB]; omega), rfl⟩
theorem rulePages_any (p : Int) (w : World) :
   Calls Tryz.prog 45 #[.int .i64 p] w fun e w' => e = .returned (.bool (inB p 2 16)) ∧ w = w' := by
 go_enter Tryz.func45, Tryz.ntmps45
 go_wp2_with (go_at_call 92; refine (ruleWithin_any _ _ _ _).mono ?_; rintro e w' ⟨rfl, rfl⟩)
 go_ret
 exact ⟨rfl, rfl⟩
def roomE (s r : Int) : Int := if inB s 1 64 = true ∧ inB r 0 8 = true then 0 else 5
set_option maxHeartbeats 400000 in
theorem ruleCheck_any (s r : Int) (w : World) :
   Calls Tryz.prog 44 #[.int .i64 s, .int .i64 r] w fun e w' => e = .returned (.int .i64 (roomE s r)) ∧ w = w' := by
 unfold roomE
 generalize h1 : inB s 1 64 = b1
 generalize h2 : inB r 0 8 = b2
 have W1 := Lib.hid h1
 have W2 := Lib.hid h2
 clear h1 h2
 cases b1 <;> cases b2
 all_goals
   go_enter Tryz.func44, Tryz.ntmps44
   go_wp2_with (go_at_call 92; refine (ruleWithin_any _ _ _ _).mono ?_; rintro e w' ⟨rfl, rfl⟩; first | rw [W1.out] | rw [W2.out])
   go_ret
   exact ⟨rfl, rfl⟩
set_option maxHeartbeats 400000 in
theorem ruleData_any (s p : Int) (w : World) (hs : 1 ≤ s ∧ s ≤ 64) (hp : 2 ≤ p ∧ p ≤ 16) :
   Calls Tryz.prog 46 #[.int .i64 s, .int .i64 p] w fun e w' => e = .returned (.int .i64 (s / p + 2)) ∧ w = w' := by
 have C := ruleCheck_any s 0
 have P := rulePages_any p
 rw [show roomE s 0 = 0 by simp [roomE, inB]; omega] at C
 rw [show inB p 2 16 = true by simp [inB]; omega] at P
 obtain ⟨s0, s1⟩ := hs
 obtain ⟨p0, p1⟩ := hp
 have q0 : 0 ≤ s / p := Int.ediv_nonneg (by omega) (by omega)
 have q1 : s / p ≤ 64 := Int.le_trans (Int.ediv_le_self _ (by omega)) s1
 go_enter Tryz.func46, Tryz.ntmps46
 go_wp2_with (first
   | (go_at_call 44; refine (C _).mono ?_; rintro e w' ⟨rfl, rfl⟩)
   | (go_at_call 45; refine (P _).mono ?_; rintro e w' ⟨rfl, rfl⟩))
 go_ret
 exact ⟨rfl, rfl⟩
set_option maxHeartbeats 400000 in
theorem ruleTotal_any (s r p : Int) (w : World) (hs : 1 ≤ s ∧ s ≤ 64) (hr : 0 ≤ r ∧ r ≤ 8) (hp : 2 ≤ p ∧ p ≤ 16) :
   Calls Tryz.prog 22 #[.int .i64 s, .int .i64 r, .int .i64 p] w fun e w' => e = .returned (.int .i64 (s / p + 2 + r)) ∧ w = w' := by
 have C := ruleCheck_any s r
 have P := rulePages_any p
 have D := fun w => ruleData_any s p w hs hp
 rw [show roomE s r = 0 by simp [roomE, inB]; omega] at C
 rw [show inB p 2 16 = true by simp [inB]; omega] at P
 obtain ⟨s0, s1⟩ := hs
 obtain ⟨p0, p1⟩ := hp
 obtain ⟨r0, r1⟩ := hr
 have q0 : 0 ≤ s / p := Int.ediv_nonneg (by omega) (by omega)
 have q1 : s / p ≤ 64 := Int.le_trans (Int.ediv_le_self _ (by omega)) s1
 go_enter Tryz.func22, Tryz.ntmps22
 go_wp2_with (first
   | (go_at_call 44; refine (C _).mono ?_; rintro e w' ⟨rfl, rfl⟩)
   | (go_at_call 45; refine (P _).mono ?_; rintro e w' ⟨rfl, rfl⟩)
   | (go_at_call 46; refine (D _).mono ?_; rintro e w' ⟨rfl, rfl⟩))
 go_ret
 exact ⟨rfl, rfl⟩
end Go.Proofs.YtdnpdoipipfkoaaGreatDoor

namespace Go.Proofs.YtdnpdoipipfkoaaGreatDoor
set_option linter.unusedVariables false
set_option linter.unusedSimpArgs false
set_option linter.unusedVariables false
set_option linter.unusedSimpArgs false
set_option maxRecDepth 100000
open Go.RowKit
theorem buf_put18 (w : World) (b : Nat) (row : List Chg) (x : Chg) (hA : BufA w b row) (hl : row.length ≤ 4) (hd : x.dt.size ≤ 9223372036854775807) : Calls Tryz.prog 61 #[.pointer (some ⟨b, 0, none⟩), chgV x] w fun e w' => e = .returned (.int .i64 (putE row x)) ∧ BufA w' b (putR row x) ∧ w.grownBy w' (some b) := by
 obtain ⟨rs, f, c, hS, rfl⟩ := hA
 have hlen := ringL_len rs f c
 have hf := hS.fl
 unfold putR putE
 by_cases h0 : chkE x.pl x.kd x.dt = 0
 · rw [if_pos h0]
   by_cases h4 : (ringL rs f c).length = 4
   · rw [if_pos h4, if_neg (by decide)]
     have hc4 : c = 4 := by omega
     subst hc4
     exact (put_full hS x hd h0).mono fun e w' ⟨h1, h2⟩ => ⟨h1, ⟨rs, f, 4, hS.ext h2, rfl⟩, grown_any13 h2⟩
   · rw [if_neg h4, if_pos rfl]
     have hcl := hS.cl
     exact (put_ok hS (by omega) x hd h0).mono fun e w' ⟨h1, h2, h3⟩ => ⟨h1, ⟨_, f, c + 1, h2, (ringL_put hS.four f c (by omega) x).symm⟩, h3⟩
 · rw [if_neg h0, if_neg h0]
   exact (put_bad hS x hd h0).mono fun e w' ⟨h1, h2⟩ => ⟨h1, ⟨rs, f, c, hS.ext h2, rfl⟩, grown_any13 h2⟩
theorem buf_first18 (w : World) (b : Nat) (row : List Chg) (hA : BufA w b row) (hl : row.length ≤ 4) : Calls Tryz.prog 62 #[.pointer (some ⟨b, 0, none⟩)] w fun e w' => e = .returned (.tuple #[chgV (firstC row), .bool (decide (0 < row.length))]) ∧ w.grownBy w' none := by
 obtain ⟨rs, f, c, hS, rfl⟩ := hA
 rw [ringL_len]
 by_cases hc : 0 < c
 · rw [decide_eq_true hc]
   exact first_some hS hc (ringL_first rs hS.fl hc).symm
 · obtain rfl : c = 0 := by omega
   exact first_none hS
theorem buf_drop18 (w : World) (b : Nat) (row : List Chg) (hA : BufA w b row) (hl : row.length ≤ 4) : Calls Tryz.prog 64 #[.pointer (some ⟨b, 0, none⟩)] w fun e w' => e = .returned (.bool (decide (0 < row.length))) ∧ BufA w' b (row.drop 1) ∧ w.grownBy w' (some b) := by
 obtain ⟨rs, f, c, hS, rfl⟩ := hA
 rw [ringL_len]
 by_cases hc : 0 < c
 · rw [decide_eq_true hc]
   refine (drop_some hS hc).mono fun e w' ⟨h1, h2, h3⟩ => ⟨h1, ⟨_, _, _, h2, ?_⟩, h3⟩
   have := ringL_drop (rs := rs) f c noChg hc hS.cl
   rw [Nat.mod_eq_of_lt hS.fl] at this
   exact this.symm
 · obtain rfl : c = 0 := by omega
   exact (drop_none hS).mono fun e w' ⟨h1, h2⟩ => ⟨h1, ⟨rs, f, 0, h2 ▸ hS, rfl⟩, by subst h2; exact grown_any13 (Ext.refl w)⟩
theorem buf_last18 (w : World) (b : Nat) (row : List Chg) (p : Int) (hA : BufA w b row) (hl : row.length ≤ 4) : Calls Tryz.prog 41 #[.pointer (some ⟨b, 0, none⟩), .int .i64 p] w fun e w' => e = .returned (.tuple #[chgV (lastN row p).1, .bool (lastN row p).2]) ∧ w.grownBy w' none := by
 obtain ⟨rs, f, c, hS, rfl⟩ := hA
 exact last_is hS p
theorem buf_len18 (w : World) (b : Nat) (row : List Chg) (hA : BufA w b row) (hl : row.length ≤ 4) : Calls Tryz.prog 32 #[.pointer (some ⟨b, 0, none⟩)] w fun e w' => e = .returned (.int .i64 row.length) ∧ w.grownBy w' none := by
 obtain ⟨rs, f, c, hS, rfl⟩ := hA
 rw [ringL_len]
 exact (len_is hS).mono fun e w' ⟨h1, h2⟩ => ⟨h1, by subst h2; exact Ext.refl w⟩
theorem buf_full18 (w : World) (b : Nat) (row : List Chg) (hA : BufA w b row) (hl : row.length ≤ 4) : Calls Tryz.prog 60 #[.pointer (some ⟨b, 0, none⟩)] w fun e w' => e = .returned (.bool (decide (row.length = 4))) ∧ w.grownBy w' none := by
 obtain ⟨rs, f, c, hS, rfl⟩ := hA
 rw [ringL_len]
 exact (full_is hS).mono fun e w' ⟨h1, h2⟩ => ⟨h1, by subst h2; exact Ext.refl w⟩
structure SC where
 S : NShape
 zs : Nat → List Int
 who : Int
 ep : Int
 sz : Int
 sp : Int
 bl : List Int
structure SM where
 n : NS
 rs : List R14
 q : List Chg
 sq : Int
 fr : Int
 ro : Bool
def SC.ph (c : SC) (b : Int) : Int := c.bl.getD b.toNat 0
def badB (c : SC) (m : SM) (b : Nat) : Bool := m.n.mr (c.ph b).toNat
def nextB (c : SC) (m : SM) (b : Nat) : Nat := nextN (m.n.L (c.ph b).toNat) c.S.pg
def hasS (c : SC) (b : Int) : Bool := decide (0 ≤ b ∧ b < c.bl.length)
def badN (c : SC) (m : SM) : Nat := ((List.range c.bl.length).filter (badB c m)).length
def sprN (c : SC) (m : SM) : Int := (if c.sp < badN c m then (badN c m : Int) else c.sp) - badN c m
def freeB (c : SC) (m : SM) (b : Nat) : Bool := decide ((b : Int) ≠ m.fr) && (decide (nextB c m b = 0) && !badB c m b)
def freeL (c : SC) (m : SM) : List Int := List.map (fun b : Nat => (b : Int)) ((List.range c.bl.length).filter (freeB c m))
def mayS (c : SC) (m : SM) (b : Nat) : Bool := !decide (nextB c m b = 0) && (!badB c m b && decide (worthN m.rs b < c.S.pg))
def worthL (c : SC) (m : SM) : List Int := List.map (fun b : Nat => if mayS c m b then (worthN m.rs b : Int) else -1) (List.range c.bl.length)
noncomputable def grdN (ws : List Int) : Int := (greedy_some ws).choose
theorem grdN_is (ws : List Int) : GreedyP ws (grdN ws) := (greedy_some ws).choose_spec
def prgE (c : SC) (n : NS) (b pg : Int) (pl sq kd : Int) (te ep : Int) (cp : Bool) (dt : ByteArray) : Int :=
 if okB te ep pl sq kd then progE c.S c.zs n c.who (c.ph b) pg (tagBL te ep pl sq kd cp).length dt.size else 1
def prgS (c : SC) (n : NS) (b pg : Int) (pl sq kd : Int) (te ep : Int) (cp : Bool) (dt : ByteArray) : NS :=
 if okB te ep pl sq kd then progS c.S c.zs n c.who (c.ph b) pg (tagBL te ep pl sq kd cp) dt else n
def oneF (c : SC) (n : NS) (b pg : Int) : Fnd := if 0 ≤ b ∧ b < c.bl.length then findF c.S n (c.ph b) pg b else noF
def oneE (c : SC) (n : NS) (b pg : Int) : Int := if 0 ≤ b ∧ b < c.bl.length then findE c.S n (c.ph b) pg else 5
def fdF (c : SC) (n : NS) (b pg : Int) : Fnd := if oneE c n b pg = 0 ∧ (oneF c n b pg).torn = true then noF else oneF c n b pg
def fdE (c : SC) (n : NS) (b pg : Int) : Int := if oneE c n b pg = 0 ∧ (oneF c n b pg).torn = true then 11 else oneE c n b pg
def needR (c : SC) (m : SM) (b : Int) : Nat → List Fnd × Int
 | 0 => ([], 0)
 | k + 1 => if (needR c m b k).2 ≠ 0 then needR c m b k else if placeN m.rs b k < 0 then needR c m b k
     else if fdE c m.n b k = 0 then ((needR c m b k).1 ++ [fdF c m.n b k], 0) else ([], fdE c m.n b k)
def copyR (c : SC) (tg : Int) : List Fnd → Nat → NS → Int × NS
 | [], _, n => (0, n)
 | f :: l, i, n => if prgE c n tg i f.pl f.sq f.kd f.te f.ep true f.dt = 0 then copyR c tg l (i + 1) (prgS c n tg i f.pl f.sq f.kd f.te f.ep true f.dt)
     else (prgE c n tg i f.pl f.sq f.kd f.te f.ep true f.dt, prgS c n tg i f.pl f.sq f.kd f.te f.ep true f.dt)
def setlR (c : SC) (tg : Int) : List Fnd → Nat → List R14 → Int × List R14
 | [], _, rs => (0, rs)
 | f :: l, i, rs => if setE c.bl.length c.S.pg rs (placeN rs f.bk f.pg) tg i = 0 then setlR c tg l (i + 1) (setR c.bl.length c.S.pg rs (placeN rs f.bk f.pg) tg i)
     else (setE c.bl.length c.S.pg rs (placeN rs f.bk f.pg) tg i, rs)
def affE (c : SC) (m : SM) (spoken : Int) : Int := if sprN c m > spoken then 0 else 13
def affM (c : SC) (m : SM) (spoken : Int) : SM := if sprN c m > spoken then m else { m with ro := true }
def giveE (c : SC) (m : SM) (b spoken : Int) : Int := if sprN c m > spoken then markE c.S m.n (c.ph b) else 13
def giveM (c : SC) (m : SM) (b spoken : Int) : SM := if sprN c m > spoken then { m with n := markS c.S m.n (c.ph b) } else { m with ro := true }
def moveF (c : SC) (row : List Fnd) (spoken : Int) : Nat → SM → Option (Int × SM)
 | 0, _ => none
 | k + 1, m => match freeL c m with
   | [] => some (8, m)
   | tg :: _ =>
     if (copyR c tg row 0 m.n).1 = 0 then some ((setlR c tg row 0 m.rs).1, { m with n := (copyR c tg row 0 m.n).2, fr := tg, rs := (setlR c tg row 0 m.rs).2 })
     else if (copyR c tg row 0 m.n).1 ≠ 10 then some ((copyR c tg row 0 m.n).1, { m with n := (copyR c tg row 0 m.n).2 })
     else if giveE c { m with n := (copyR c tg row 0 m.n).2 } tg spoken ≠ 0 then some (giveE c { m with n := (copyR c tg row 0 m.n).2 } tg spoken, giveM c { m with n := (copyR c tg row 0 m.n).2 } tg spoken)
     else moveF c row spoken k (giveM c { m with n := (copyR c tg row 0 m.n).2 } tg spoken)
def moveR (c : SC) (m : SM) (b spoken : Int) (k : Nat) : Option (Int × SM) :=
 if (needR c m b c.S.pg).2 ≠ 0 then some ((needR c m b c.S.pg).2, m) else moveF c (needR c m b c.S.pg).1 spoken k m
def eraE (c : SC) (m : SM) (b : Int) : Int := if ersE c.S c.zs m.n c.who (c.ph b) ≠ 10 then ersE c.S c.zs m.n c.who (c.ph b) else giveE c { m with n := ersS c.S c.zs m.n c.who (c.ph b) } b 0
def eraM (c : SC) (m : SM) (b : Int) : SM := if ersE c.S c.zs m.n c.who (c.ph b) ≠ 10 then { m with n := ersS c.S c.zs m.n c.who (c.ph b) } else giveM c { m with n := ersS c.S c.zs m.n c.who (c.ph b) } b 0
def collR (c : SC) (m : SM) (b : Int) (k : Nat) : Option (Int × SM) :=
 match moveR c m b 0 k with
 | none => none
 | some (e, m1) => if e ≠ 0 then some (e, m1) else some (eraE c m1 b, eraM c m1 b)
noncomputable def roomR (c : SC) (m : SM) (k : Nat) : Option (Int × SM) :=
 if hasS c m.fr && decide (nextB c m m.fr.toNat < c.S.pg) then some (0, m)
 else if ((freeL c m).length : Int) - 1 > sprN c m then some (0, { m with fr := (freeL c m).headD 0 })
 else if grdN (worthL c m) = -1 then some (8, m) else collR c m (grdN (worthL c m)) k
def putE18 (c : SC) (m : SM) (x : Chg) : Int :=
 if prgE c m.n m.fr (nextB c m m.fr.toNat) x.pl m.sq x.kd c.who c.ep false x.dt = 0 then setE c.bl.length c.S.pg m.rs x.pl m.fr (nextB c m m.fr.toNat)
 else prgE c m.n m.fr (nextB c m m.fr.toNat) x.pl m.sq x.kd c.who c.ep false x.dt
def putM (c : SC) (m : SM) (x : Chg) : SM :=
 if prgE c m.n m.fr (nextB c m m.fr.toNat) x.pl m.sq x.kd c.who c.ep false x.dt = 0 then
   { m with n := prgS c m.n m.fr (nextB c m m.fr.toNat) x.pl m.sq x.kd c.who c.ep false x.dt, sq := m.sq + 1, rs := setR c.bl.length c.S.pg m.rs x.pl m.fr (nextB c m m.fr.toNat) }
 else { m with n := prgS c m.n m.fr (nextB c m m.fr.toNat) x.pl m.sq x.kd c.who c.ep false x.dt }
def leavR (c : SC) (m : SM) (k : Nat) : Option (Int × SM) :=
 if sprN c m > 0 then
   match moveR c m m.fr 1 k with
   | none => none
   | some (e, m1) => if e ≠ 0 then some (e, m1) else some (markE c.S m1.n (c.ph m.fr), { m1 with n := markS c.S m1.n (c.ph m.fr) })
 else some (13, { m with ro := true })
noncomputable def chgR (c : SC) (x : Chg) (k : Nat) : Nat → SM → Option (Int × SM)
 | 0, _ => none
 | j + 1, m => match roomR c m k with
   | none => none
   | some (e, m1) => if e ≠ 0 then some (e, m1) else if putE18 c m1 x ≠ 10 then some (putE18 c m1 x, putM c m1 x)
     else match leavR c (putM c m1 x) k with
       | none => none
       | some (e2, m2) => if e2 ≠ 0 then some (e2, m2) else chgR c x k j m2
noncomputable def firR (c : SC) (k : Nat) (m : SM) : Option (Int × SM) :=
 if m.q.length = 0 then some (0, m) else
   match chgR c (firstC m.q) k k m with
   | none => none
   | some (e, m1) => if e ≠ 0 then some (e, m1) else some (0, { m1 with q := m1.q.drop 1 })
noncomputable def fluF (c : SC) (k : Nat) : Nat → SM → Option (Int × SM)
 | 0, m => some (0, m)
 | j + 1, m => match firR c k m with
   | none => none
   | some (e, m1) => if e ≠ 0 then some (e, m1) else fluF c k j m1
noncomputable def fluR (c : SC) (k : Nat) (m : SM) : Option (Int × SM) := if m.ro then some (13, m) else fluF c k m.q.length m
def lacE (c : SC) (p : Int) : Int := if p < 0 ∨ c.sz ≤ p then 5 else 0
noncomputable def waiR (c : SC) (k : Nat) (m : SM) (x : Chg) : Option (Int × SM) :=
 if lacE c x.pl ≠ 0 then some (lacE c x.pl, m) else if 16 < x.dt.size then some (3, m) else if m.ro then some (13, m)
 else if m.q.length = 4 then
   match firR c k m with
   | none => none
   | some (e, m1) => if e ≠ 0 then some (e, m1) else some (putE m1.q x, { m1 with q := putR m1.q x })
 else some (putE m.q x, { m with q := putR m.q x })
def reaE (c : SC) (m : SM) (p : Int) : Int :=
 if lacE c p ≠ 0 then lacE c p else if (lastN m.q p).2 then 0 else if (atN m.rs p).2.2 then fdE c m.n (atN m.rs p).1 (atN m.rs p).2.1 else 0
def reaD (c : SC) (m : SM) (p : Int) : ByteArray :=
 if lacE c p ≠ 0 then ⟨#[]⟩ else if (lastN m.q p).2 then (lastN m.q p).1.dt else if (atN m.rs p).2.2 then
   (if (fdF c m.n (atN m.rs p).1 (atN m.rs p).2.1).kd = 2 then ⟨#[]⟩ else (fdF c m.n (atN m.rs p).1 (atN m.rs p).2.1).dt) else ⟨#[]⟩
def colR (c : SC) (m : SM) (b : Int) (k : Nat) : Option (Int × SM) :=
 if m.ro then some (13, m) else if hasS c b = false then some (5, m) else if mayS c m b.toNat = false then some (1, m) else collR c m b k
end Go.Proofs.YtdnpdoipipfkoaaGreatDoor

namespace Go.Proofs.YtdnpdoipipfkoaaGreatDoor
set_option linter.unusedVariables false
set_option linter.unusedSimpArgs false
set_option linter.unusedVariables false
set_option linter.unusedSimpArgs false
set_option maxRecDepth 100000
open Go.RowKit
structure SP where
 sb : Nat
 tb : Nat
 bb : Nat
 V : Nat → Value
 bv : Value
def stC (p : SP) (c : SC) (m : SM) : Array Value :=
 #[.pointer (some ⟨c.S.nb, 0, none⟩), .int .i64 c.who, .bool true, .int .i64 c.ep, .int .i64 c.sz, .int .i64 c.sp, p.bv, .pointer (some ⟨p.tb, 0, none⟩), .pointer (some ⟨p.bb, 0, none⟩), .int .i64 m.sq, .int .i64 m.fr, .bool m.ro]
structure StAt (w : World) (p : SP) (c : SC) (m : SM) : Prop where
 nd : NandAt w c.S p.V c.zs m.n
 tb : TabA w p.tb c.bl.length c.S.pg m.rs
 bf : BufA w p.bb m.q
 bk : Blk w p.sb 91 (stC p c m)
 iv : Ints w p.bv c.bl
 fl : Flds w
structure StOk (p : SP) (c : SC) : Prop where
 R : Roles c.S
 zl : ∀ j, j < 4 → (c.zs j).length ≤ 64
 t0 : c.S.T 0 = 0
 ts : c.S.T p.sb = 0
 tt : c.S.T p.tb = 0
 tu : c.S.T p.bb = 0
 s0 : p.sb ≠ 0
 u0 : p.tb ≠ 0
 v0 : p.bb ≠ 0
 st : p.sb ≠ p.tb
 su : p.sb ≠ p.bb
 tu2 : p.tb ≠ p.bb
 vV : ∀ j, j < 4 → ∀ k, (p.V j).ownBlock = some k → k ≠ p.sb ∧ k ≠ p.tb ∧ k ≠ p.bb
 vb : ∀ k, p.bv.ownBlock = some k → c.S.T k = 0 ∧ k ≠ p.sb ∧ k ≠ p.tb ∧ k ≠ p.bb
 bl : c.bl.length ≤ 64
 blr : ∀ i, i < c.bl.length → 2 ≤ c.bl.getD i 0 ∧ c.bl.getD i 0 < c.S.all
structure Wf (c : SC) (m : SM) (k : Int) : Prop where
 cn : Cnt m.n k
 sq : 0 ≤ m.sq ∧ m.sq ≤ k
 ql : m.q.length ≤ 4
 qd : ∀ x ∈ m.q, x.dt.size ≤ 16
 fr : -1 ≤ m.fr ∧ m.fr < c.bl.length
 bs : ∀ i j, Byts (m.n.L i j).bs
 bn : ∀ i j, (m.n.L i j).bs.length ≤ 32
 dn : ∀ i j, (m.n.L i j).dt.size ≤ 160
def tS (p : SP) (c : SC) : Nat → Nat := fun k => if k = p.sb ∨ k = p.tb ∨ k = p.bb then 7 else c.S.T k
theorem tS_zero {p : SP} {c : SC} {k : Nat} (h : tS p c k = 0) : c.S.T k = 0 ∧ k ≠ p.sb ∧ k ≠ p.tb ∧ k ≠ p.bb := by
 unfold tS at h
 split at h
 · cases h
 · rename_i hn
   exact ⟨h, fun e => hn (.inl e), fun e => hn (.inr (.inl e)), fun e => hn (.inr (.inr e))⟩
theorem Keeps.less {p : SP} {c : SC} {w w' : World} (h : Keeps c.S.T w w') : Keeps (tS p c) w w' :=
 ⟨h.os, h.tape, h.output, h.size, fun k hk ht => h.block k hk (tS_zero ht).1⟩
theorem Keeps.own18 {p : SP} {c : SC} {w w' : World} {r : Nat} (h : w.grownBy w' (some r)) (hr : r = p.sb ∨ r = p.tb ∨ r = p.bb) : Keeps (tS p c) w w' :=
 ⟨h.os, h.tape, h.output, h.size, fun k hk ht => h.block k hk (fun e => by
   injection e with e; subst e
   have := tS_zero ht
   rcases hr with e | e | e
   · exact this.2.1 e
   · exact this.2.2.1 e
   · exact this.2.2.2 e)⟩
theorem NandAt.other18 {w w' : World} {S : NShape} {V : Nat → Value} {zs : Nat → List Int} {s : NS} {r : Nat} (h : NandAt w S V zs s) (hR : Roles S) (hg : w.grownBy w' (some r)) (ht : S.T r = 0)
   (hb : ∀ o n, w.cell? ⟨r, o, none⟩ ≠ some (.int .u8 n)) (hV : ∀ j, j < 4 → ∀ k, (V j).ownBlock = some k → k ≠ r) : NandAt w' S V zs s := by
 have e : ∀ k, S.T k ≠ 0 → w'.heap[k]? = w.heap[k]? := fun k hk => hg.block k (h.hi k hk) (fun e => by injection e with e; rw [e] at hk; exact hk ht)
 have e3 := e S.bm (by rw [hR.tm]; decide)
 have e4 := e S.be (by rw [hR.te]; decide)
 have e6 := e S.db (by rw [hR.td]; decide)
 refine ⟨h.fix.stays (e _ (by rw [hR.tn]; decide)) (e _ (by rw [hR.tl]; decide)), fun i hi => ?_, fun i hi => (World.cell?_of_block e3).trans (h.mks i hi), fun o => (World.frozen?_of_block e3).trans (h.mkf o),
   fun i hi => (World.cell?_of_block e4).trans (h.ers i hi), fun o => (World.frozen?_of_block e4).trans (h.erf o), h.pow.stays (e _ (by rw [hR.tp]; decide)), ?_, h.tv, fun k hk => Nat.lt_of_lt_of_le (h.hi k hk) hg.size⟩
 · have hr := h.row i hi
   have er := e (S.row i) (by rw [hR.tr i hi]; omega)
   refine ⟨fun j hj => (World.cell?_of_block er).trans (hr.st j hj), fun j hj => ?_, fun j hj => (World.cell?_of_block er).trans (hr.dt j hj), fun o => (World.frozen?_of_block er).trans (hr.free o)⟩
   obtain ⟨v, h1, h2, h3⟩ := hr.bs j hj
   refine ⟨v, (World.cell?_of_block er).trans h1, ?_, h3⟩
   rcases h2 with h2 | ⟨b, off, cap, rfl, h5, h6⟩
   · exact .inl h2
   · refine .inr ⟨b, off, cap, rfl, h5, fun i hi => ?_⟩
     have hc := h6 i hi
     have hbr : b ≠ r := fun e => by subst e; exact hb _ _ hc
     exact (World.cell?_of_block (hg.block b (World.block_lt_of_cell? w _ hc) (fun e => by injection e with e; exact hbr e))).trans hc
 · exact h.drs.other hg (fun e => by injection e with e; have := hR.td; rw [e, ht] at this; cases this) (fun j hj k hk e => by injection e with e; exact hV j hj k hk e)
theorem TabA.nobyte {w : World} {t B P : Nat} {rs : List R14} (h : TabA w t B P rs) (o : Nat) (n : Int) : w.cell? ⟨t, o, none⟩ ≠ some (.int .u8 n) := by
 obtain ⟨R, W, S, hT, _⟩ := h
 intro hc
 obtain ⟨cs, hb, hcs⟩ := hT.is
 rw [hb.cell o] at hc
 have hlt : o < 1282 := by
   have := (Array.getElem?_eq_some_iff.1 hc).1
   rw [hcs.size] at this
   exact this
 by_cases h0 : o = 0
 · subst h0; rw [hcs.b] at hc; cases hc
 by_cases h1 : o = 1
 · subst h1; rw [hcs.p] at hc; cases hc
 by_cases h2 : o < 1026
 · have := hcs.row ((o - 2) / 16) ((o - 2) % 16) (by omega) (by omega)
   rw [show 2 + (o - 2) / 16 * 16 + (o - 2) % 16 = o by omega, hc] at this
   cases this
 by_cases h3 : o < 1090
 · have := hcs.wor (o - 1026) (by omega)
   rw [show 1026 + (o - 1026) = o by omega, hc] at this
   cases this
 have hq : (o - 1090) / 3 < 64 := by omega
 rcases (by omega : (o - 1090) % 3 = 0 ∨ (o - 1090) % 3 = 1 ∨ (o - 1090) % 3 = 2) with e | e | e
 · have := hcs.th _ hq
   rw [show 1090 + (o - 1090) / 3 * 3 = o by omega, hc] at this
   cases this
 · have := hcs.bk _ hq
   rw [show 1090 + (o - 1090) / 3 * 3 + 1 = o by omega, hc] at this
   cases this
 · have := hcs.pg _ hq
   rw [show 1090 + (o - 1090) / 3 * 3 + 2 = o by omega, hc] at this
   cases this
theorem BufA.nobyte {w : World} {b : Nat} {row : List Chg} (h : BufA w b row) (o : Nat) (n : Int) : w.cell? ⟨b, o, none⟩ ≠ some (.int .u8 n) := by
 obtain ⟨rs, f, c, hs, _⟩ := h
 intro hc
 rw [hs.blk.cell o] at hc
 obtain ⟨x0, x1, x2, x3, rfl⟩ := four_of hs.four
 have hm := Array.mem_of_getElem? hc
 simp [bufC, chgsL, chgC] at hm
theorem stC_nobyte {w : World} {p : SP} {c : SC} {m : SM} (hv : ∃ ao n cap, p.bv = .slice ao n cap) (h : Blk w p.sb 91 (stC p c m)) (o : Nat) (n : Int) : w.cell? ⟨p.sb, o, none⟩ ≠ some (.int .u8 n) := by
 intro hc
 rw [h.cell o] at hc
 obtain ⟨ao, l, cap, hv⟩ := hv
 have hm := Array.mem_of_getElem? hc
 simp [stC, hv] at hm
section
variable {w w' : World} {p : SP} {c : SC} {m : SM}
theorem StAt.vform (h : StAt w p c m) : ∃ ao n cap, p.bv = .slice ao n cap := by
 obtain ⟨ao, cap, _, _, h1, _⟩ := h.iv.form
 exact ⟨ao, _, cap, h1⟩
theorem StAt.ext (h : StAt w p c m) (ok : StOk p c) (hg : w.grownBy w' none) : StAt w' p c m :=
 ⟨h.nd.ext hg ok.R, h.tb.ext hg, bufStays _ _ _ _ h.bf (hg.block _ (bufLt _ _ _ h.bf) (by simp)), h.bk.ext hg, h.iv.kept hg (by simp), h.fl.ext hg⟩
theorem StAt.nand (h : StAt w p c m) (ok : StOk p c) {n : NS} (hn : NandAt w' c.S p.V c.zs n) (hk : Keeps c.S.T w w') : StAt w' p c { m with n := n } :=
 ⟨hn, by
   obtain ⟨R, W, S, h1, h2⟩ := h.tb
   obtain ⟨cs, a1, a2⟩ := h1.is
   exact ⟨R, W, S, ⟨h1.bl, h1.pl, cs, (hk.block _ h1.lt ok.tt).trans a1, a2⟩, h2⟩, bufStays _ _ _ _ h.bf (hk.block _ (bufLt _ _ _ h.bf) ok.tu), (hk.block _ h.bk.lt ok.ts).trans h.bk, hk.ints0 h.iv (fun _ q hq => (ok.vb q hq).1), fun j hj => by
   have e := hk.block 0 h.fl.lt ok.t0
   exact ⟨(World.cell?_of_block e).trans (h.fl j hj).1, (World.cell?_of_block e).trans (h.fl j hj).2.1, (World.cell?_of_block e).trans (h.fl j hj).2.2⟩⟩
theorem StAt.tab (h : StAt w p c m) (ok : StOk p c) {rs : List R14} (ht : TabA w' p.tb c.bl.length c.S.pg rs) (hg : w.grownBy w' (some p.tb)) : StAt w' p c { m with rs := rs } :=
 ⟨h.nd.other18 ok.R hg ok.tt h.tb.nobyte (fun j hj k hk => (ok.vV j hj k hk).2.1), ht, bufStays _ _ _ _ h.bf (hg.block _ (bufLt _ _ _ h.bf) (fun e => by injection e with e; exact ok.tu2 e.symm)), h.bk.kept hg (fun e => by injection e with e; exact ok.st e),
   h.iv.kept hg (fun k hk e => by injection e with e; exact (ok.vb k hk).2.2.1 e), h.fl.kept hg (fun e => by injection e with e; exact ok.u0 e.symm)⟩
theorem StAt.buf (h : StAt w p c m) (ok : StOk p c) {q : List Chg} (hb : BufA w' p.bb q) (hg : w.grownBy w' (some p.bb)) : StAt w' p c { m with q := q } :=
 ⟨h.nd.other18 ok.R hg ok.tu h.bf.nobyte (fun j hj k hk => (ok.vV j hj k hk).2.2), h.tb.kept hg (fun e => by injection e with e; exact ok.tu2 e), hb, h.bk.kept hg (fun e => by injection e with e; exact ok.su e),
   h.iv.kept hg (fun k hk e => by injection e with e; exact (ok.vb k hk).2.2.2 e), h.fl.kept hg (fun e => by injection e with e; exact ok.v0 e.symm)⟩
theorem StAt.own (h : StAt w p c m) (ok : StOk p c) {m' : SM} (hn : m'.n = m.n) (hr : m'.rs = m.rs) (hq : m'.q = m.q) (hb : Blk w' p.sb 91 (stC p c m')) (hg : w.grownBy w' (some p.sb)) : StAt w' p c m' :=
 ⟨by rw [hn]; exact h.nd.other18 ok.R hg ok.ts (stC_nobyte h.vform h.bk) (fun j hj k hk => (ok.vV j hj k hk).1), by rw [hr]; exact h.tb.kept hg (fun e => by injection e with e; exact ok.st e.symm),
   by rw [hq]; exact bufStays _ _ _ _ h.bf (hg.block _ (bufLt _ _ _ h.bf) (fun e => by injection e with e; exact ok.su e.symm)), hb,
   h.iv.kept hg (fun k hk e => by injection e with e; exact (ok.vb k hk).2.1 e), h.fl.kept hg (fun e => by injection e with e; exact ok.s0 e.symm)⟩
theorem StAt.setSq (h : StAt w p c m) (ok : StOk p c) (x : Int) : StAt (w.setCell ⟨p.sb, 9, none⟩ (.int .i64 x)) p c { m with sq := x } :=
 h.own ok rfl rfl rfl (h.bk.set 9 (.int .i64 x)) (gb_set (gb_refl w _) _ _)
theorem StAt.setFr (h : StAt w p c m) (ok : StOk p c) (x : Int) : StAt (w.setCell ⟨p.sb, 10, none⟩ (.int .i64 x)) p c { m with fr := x } :=
 h.own ok rfl rfl rfl (h.bk.set 10 (.int .i64 x)) (gb_set (gb_refl w _) _ _)
theorem StAt.setRo (h : StAt w p c m) (ok : StOk p c) (x : Bool) : StAt (w.setCell ⟨p.sb, 11, none⟩ (.bool x)) p c { m with ro := x } :=
 h.own ok rfl rfl rfl (h.bk.set 11 (.bool x)) (gb_set (gb_refl w _) _ _)
theorem StAt.cells (h : StAt w p c m) : w.cell? ⟨p.sb, 0, none⟩ = some (.pointer (some ⟨c.S.nb, 0, none⟩)) ∧ w.cell? ⟨p.sb, 1, none⟩ = some (.int .i64 c.who) ∧ w.cell? ⟨p.sb, 3, none⟩ = some (.int .i64 c.ep) ∧ w.cell? ⟨p.sb, 4, none⟩ = some (.int .i64 c.sz) ∧ w.cell? ⟨p.sb, 5, none⟩ = some (.int .i64 c.sp)
   ∧ w.cell? ⟨p.sb, 6, none⟩ = some p.bv ∧ w.cell? ⟨p.sb, 7, none⟩ = some (.pointer (some ⟨p.tb, 0, none⟩)) ∧ w.cell? ⟨p.sb, 8, none⟩ = some (.pointer (some ⟨p.bb, 0, none⟩)) ∧ w.cell? ⟨p.sb, 9, none⟩ = some (.int .i64 m.sq) ∧ w.cell? ⟨p.sb, 10, none⟩ = some (.int .i64 m.fr) ∧ w.cell? ⟨p.sb, 11, none⟩ = some (.bool m.ro) :=
 ⟨(h.bk.cell 0).trans rfl, (h.bk.cell 1).trans rfl, (h.bk.cell 3).trans rfl, (h.bk.cell 4).trans rfl, (h.bk.cell 5).trans rfl, (h.bk.cell 6).trans rfl, (h.bk.cell 7).trans rfl, (h.bk.cell 8).trans rfl, (h.bk.cell 9).trans rfl, (h.bk.cell 10).trans rfl, (h.bk.cell 11).trans rfl⟩
def Gs (p : SP) (c : SC) (v : Value) (m' : SM) (w : World) (e : Ending) (w' : World) : Prop := e = .returned v ∧ StAt w' p c m' ∧ Keeps (tS p c) w w'
end
end Go.Proofs.YtdnpdoipipfkoaaGreatDoor

namespace Go.Proofs.YtdnpdoipipfkoaaGreatDoor
set_option linter.unusedVariables false
set_option linter.unusedSimpArgs false
set_option linter.unusedVariables false
set_option linter.unusedSimpArgs false
set_option maxRecDepth 100000
open Go.RowKit
def pagesR (S : NShape) (s : NS) (bl : List Int) : List Fnd × Int := if bl.any (offB S.all) then ([], 5) else blksN S s bl bl.length
def PagesP (w : World) (L : List Fnd) (er : Int) (e : Ending) (w' : World) : Prop := ∃ v, e = .returned (.tuple #[v, .int .i64 er]) ∧ w'.ownsRow w.heap.size 108 10 v L.length (fndsL L) ∧ w.grownBy w' none
structure PgS (w wr : World) (v : Value) (L : List Fnd) : Prop where
 own : wr.ownsRow w.heap.size 108 10 v L.length (fndsL L)
 ext : w.grownBy wr none
theorem pgS_nil {w x : World} (h : w.grownBy x none) : PgS w x (.slice none 0 0) [] := ⟨⟨by simp [fndsL], .inl ⟨rfl, rfl⟩⟩, h⟩
section
variable {w : World} {S : NShape} {V : Nat → Value} {zs : Nat → List Int} {s : NS}
set_option maxHeartbeats 3200000 in
theorem pages16_any (h : NandAt w S V zs s) (hR : Roles S) (hF : Flds w) (hB : ∀ i j, Byts (s.L i j).bs) (hbs : ∀ i j, (s.L i j).bs.length ≤ 140737488351232) (v : Value) (bl : List Int) (hv : Ints w v bl) (hvb : ∀ k, v.ownBlock = some k → k < w.heap.size) (hl : bl.length ≤ 60000) :
   Calls Tryz.prog 37 #[.pointer (some ⟨S.nb, 0, none⟩), v] w (PagesP w (pagesR S s bl).1 (pagesR S s bl).2) := by
 have BK := fun wx (hE : w.grownBy wx none) => blocks7_is (h.ext hE hR).fix
 have BD := Lib.hid (fun wx (hE : w.grownBy wx none) (n : Nat) (hn : n < S.all) => bad7_is (i := n) (h.ext hE hR) hn)
 have NX := Lib.hid (fun wx (hE : w.grownBy wx none) (n : Nat) (hn : n < S.all) => next7_is (i := n) (h.ext hE hR).fix hn ((h.ext hE hR).row n hn) hR)
 have FN := Lib.hid (fun wx (hE : w.grownBy wx none) (k : Nat) (hk : k < bl.length) (m : Int) => find16_any (h.ext hE hR) hR (hF.ext hE) hB hbs v bl (hv.kept hE (by simp)) (by omega) k hk m)
 have CO := fun wx (xb : Nat) (hE : w.grownBy wx none) (hx : wx.cell? ⟨xb, 0, none⟩ = some (.int .i64 (S.all : Int))) => containsOff_any v bl S.all xb wx (hv.kept hE (by simp)) (by omega) hx
 have hpg := hR.bds.2.2.2
 have hal := hR.bds.2.1
 have NB := Lib.hid (fun n : Nat => nextN_le (s.L n) S.pg)
 have HL := Lib.hid (fun k : Nat => blksN_len (S := S) (s := s) (bl := bl) hpg k)
 obtain ⟨ao, cap, b, off, rfl, hc⟩ := hv.form
 have HI := Lib.hid (fun wx (hE : w.grownBy wx none) k (hk : k < bl.length) => (hv.kept hE (by simp)).form)
 have HC := Lib.hid hc
 clear h hF hB hbs hv hc
 unfold pagesR
 have hE1 := World.grownBy_alloc w (.cells #[.int .i64 (S.all : Int)] 3) none
 have hc1 : (w.alloc (.cells #[.int .i64 (S.all : Int)] 3)).cell? ⟨w.heap.size, 0, none⟩ = some (.int .i64 (S.all : Int)) := by simp
 have HE1 := Lib.hid (And.intro hE1 hc1)
 clear hE1 hc1
 obtain ⟨nl, hnl⟩ : ∃ z, bl.length = z := ⟨_, rfl⟩
 rw [hnl] at hl HC FN HI CO ⊢
 obtain ⟨ob, hob⟩ : ∃ z, bl.any (offB S.all) = z := ⟨_, rfl⟩
 rw [hob] at CO ⊢
 have CO1 := CO _ w.heap.size HE1.out.1 HE1.out.2
 have hPS := pgS_nil HE1.out.1
 have HPS := Lib.hid hPS
 clear CO hPS
 cases ob
 · have HOB := Lib.hid hob
   clear hob
   rw [if_neg (by simp)]
   go_enter Tryz.func37, Tryz.ntmps37
   go_wp2_with (first
     | (go_at_call 71; refine (BK _ (Ext.refl w)).mono ?_; rintro e w' ⟨rfl, rfl⟩)
     | (go_at_call 47; refine CO1.mono ?_; rintro e w1 ⟨rfl, rfl⟩))
   clear CO1 BK
   go_loopw [7, 22] (fun v i wr => ∃ (k : Nat) (R : List Fnd), k ≤ nl ∧ i = .int .i64 k ∧ blksN S s bl k = (R, 0) ∧ PgS w wr v R) (fun _ i _ => nl - (intOf i).toNat)
   case atStart => exact ⟨0, [], by omega, rfl, rfl, HPS.out⟩
   case round =>
     obtain ⟨k, R, hk, rfl, hR1, hP⟩ := hrel
     have HR1 := Lib.hid hR1
     obtain ⟨ro, rc, rfl⟩ := owns_slice17 hP.own
     obtain ⟨rn, hrn⟩ : ∃ z, R.length = z := ⟨_, rfl⟩
     have hrl := HL.out k
     rw [hR1] at hrl
     simp only at hrl
     rw [hrn] at hrl hP ⊢
     have HP := Lib.hid hP
     have HRN := Lib.hid hrn
     clear hR1 hP hrn
     obtain ⟨wo, rfl⟩ : ∃ wo : World, wo = wr := ⟨_, rfl⟩
     by_cases hlt : k < nl
     · obtain ⟨rfl, hcell0⟩ := HC.out k hlt
       have hcell := HP.out.ext.cell hcell0 (by simp)
       have hin : offB S.all (bl.getD k 0) = false := by
         have h1 := HOB.out
         rw [List.any_eq_false] at h1
         have h2 := h1 (bl.getD k 0) (by rw [List.getD_eq_getElem?_getD, List.getElem?_eq_getElem (by omega)]; exact List.getElem_mem _)
         simpa using h2
       have hnb : 0 ≤ bl.getD k 0 ∧ bl.getD k 0 < S.all := by
         unfold offB at hin
         simp only [decide_eq_false_iff_not] at hin
         omega
       have FK := fun wx hE => FN.out wx hE k hlt
       have hstep : blksN S s bl (k + 1) = (if s.mr (bl.getD k 0).toNat then (R, 0) else (if (pgsN S s (bl.getD k 0) k (nextN (s.L (bl.getD k 0).toNat) S.pg)).2 = 0 then (R ++ (pgsN S s (bl.getD k 0) k (nextN (s.L (bl.getD k 0).toNat) S.pg)).1, 0) else ([], (pgsN S s (bl.getD k 0) k (nextN (s.L (bl.getD k 0).toNat) S.pg)).2))) := by
         rw [blksN, HR1.out]
         rfl
       obtain ⟨n0, hn0⟩ : ∃ z, bl.getD k 0 = z := ⟨_, rfl⟩
       rw [hn0] at hcell hnb FK hstep
       obtain ⟨n, rfl⟩ : ∃ n : Nat, n0 = n := ⟨n0.toNat, by omega⟩
       rw [Int.toNat_natCast] at hstep
       have hn : n < S.all := by omega
       have B1 := BD.out wo HP.out.ext n hn
       have N1 := fun wx hE => NX.out wx hE n hn
       have hnx := NB.out n
       obtain ⟨mr, hmr⟩ : ∃ z, s.mr n = z := ⟨_, rfl⟩
       obtain ⟨nx, hnxe⟩ : ∃ z, nextN (s.L n) S.pg = z := ⟨_, rfl⟩
       rw [hmr] at B1 hstep
       rw [hnxe] at N1 hstep hnx
       have HST := Lib.hid hstep
       have HFK := Lib.hid FK
       clear hcell0 hin hnb hn0 hn hmr hnxe hstep FK
       cases mr
       · have N2 := N1 wo HP.out.ext
         go_wp2_with (first
           | (go_at_call 73; refine B1.mono ?_; rintro e w' ⟨rfl, rfl⟩)
           | (go_at_call 74; refine N2.mono ?_; rintro e w' ⟨rfl, rfl⟩))
         clear B1 N1 N2
         go_loopw [7, 33] (fun v j wr => ∃ (q : Nat) (T : List Fnd), q ≤ nx ∧ j = .int .i64 q ∧ pgsN S s n k q = (T, 0) ∧ PgS w wr v (R ++ T)) (fun _ j _ => nx - (intOf j).toNat)
         case atStart => exact ⟨0, [], by omega, rfl, rfl, by rw [List.append_nil]; exact HP.out⟩
         case round =>
           obtain ⟨q, T, hq, rfl, hT, hP2⟩ := hrel
           have HT := Lib.hid hT
           obtain ⟨ta, tc, rfl⟩ := owns_slice17 hP2.own
           obtain ⟨tn, htn⟩ : ∃ z, (R ++ T).length = z := ⟨_, rfl⟩
           have htl := pgsN_len (S := S) (s := s) (n := (n : Int)) (bk := k) q
           rw [hT] at htl
           simp only at htl
           have htb : tn ≤ 1000000 := by rw [← htn, List.length_append, HRN.out]; omega
           rw [htn] at hP2 ⊢
           have HP2 := Lib.hid hP2
           have HTN := Lib.hid htn
           clear hT hP2 htn htl
           obtain ⟨wi, rfl⟩ : ∃ wi : World, wi = wr := ⟨_, rfl⟩
           by_cases hlq : q < nx
           · have F1 := HFK.out wi HP2.out.ext q
             obtain ⟨f, hf⟩ : ∃ z, findF S s n q k = z := ⟨_, rfl⟩
             obtain ⟨er, her⟩ : ∃ z, findE S s n q = z := ⟨_, rfl⟩
             have hnext : pgsN S s n k (q + 1) = if er = 0 then (T ++ [f], 0) else ([], er) := by
               rw [pgsN, HT.out, hf, her]
               rfl
             rw [hf, her] at F1
             unfold FoundP at F1
             have HNX := Lib.hid hnext
             clear hf her hnext
             by_cases he : er = 0
             · subst he
               go_upto_region 17 with (first
                 | (go_at_call 75; refine F1.mono ?_; rintro e w3 ⟨rfl, hg3⟩; have hBn := Blk.new w3 108 (fndC noF))
                 | (refine fnd_store (f := f) _ _ rfl rfl rfl hBn rfl rfl ?_; intro w4 hb4 hg4 hs4; have HG4 := Lib.hid (g17_new (ext_trans hg3 (World.grownBy_alloc w3 (.cells (fndC noF) 108) none)) hg4 (by have := hg3.size; omega)); clear hBn hg4 hs4))
               have hown := (HP2.out.own.kept HG4.out (Classical.em _)).alloc (.cells #[.int .i64 f.bk, .int .i64 f.pg, .bool f.torn, .int .i64 f.te, .int .i64 f.ep, .int .i64 f.pl, .int .i64 f.sq, .int .i64 f.kd, .bool f.cp, .string f.dt] 108)
               rw [HTN.out] at hown
               go_wp2_with (first
                 | (refine fnd_load_lit rfl _ rfl rfl hb4.range17 ?_)
                 | (at_builtin; go_loud (refine append_fnd rfl _ _ rfl w.heap.size (.slice ta tn tc) (R ++ T) tn HTN.out rfl hown ⟨w4.heap.size, 0, none⟩ 1 f rfl (fnd_new w4 f _) htb (by have := HP2.out.ext.size; have := HG4.out.size; simp; omega) ?_; intro v' w5 hrow' hg'; have hE5 := Lib.hid (own_alloc17 HG4.out hg'); obtain ⟨ao4, cap4, hv4⟩ := owns_slice17 hrow'; subst hv4)))
               case roundEnd =>
                 refine ⟨⟨q + 1, T ++ [f], by omega, by go_num, by rw [HNX.out]; simp, ⟨?_, own_ext17 HP2.out.own HP2.out.ext hE5.out (Nat.le_refl _)⟩⟩, by simp [intOf]; omega⟩
                 rw [← List.append_assoc, List.length_append, HTN.out]
                 exact hrow'
             · have hne : (er != 0) = true := by simpa using he
               have HNE := Lib.hid he
               clear he
               go_wp2_with (first
                 | (go_at_call 75; refine F1.mono ?_; rintro e w3 ⟨rfl, hg3⟩; have hBn := Blk.new w3 108 (fndC noF))
                 | (refine fnd_store (f := f) _ _ rfl rfl rfl hBn rfl rfl ?_; intro w4 hb4 hg4 hs4; have HG4 := Lib.hid (g17_new (ext_trans hg3 (World.grownBy_alloc w3 (.cells (fndC noF) 108) none)) hg4 (by have := hg3.size; omega)); clear hBn hg4 hs4))
               go_returns
               have h1 : pgsN S s n k nx = ([], er) := by rw [pgsN_stay (j := q + 1) (by rw [HNX.out, if_neg HNE.out]; exact HNE.out) nx (by omega), HNX.out, if_neg HNE.out]
               have h2 : blksN S s bl (k + 1) = ([], er) := by rw [HST.out, h1]; simp [HNE.out]
               have h3 : blksN S s bl nl = ([], er) := by rw [blksN_stay (j := k + 1) (by rw [h2]; exact HNE.out) nl (by omega), h2]
               rw [h3]
               exact ⟨_, rfl, (pgS_nil (ext_trans HP2.out.ext HG4.out)).own, ext_trans HP2.out.ext HG4.out⟩
           · obtain rfl : q = nx := by omega
             go_wp2
             case roundEnd =>
               refine ⟨⟨k + 1, R ++ T, by omega, rfl, ?_, HP2.out⟩, by simp [intOf]; omega⟩
               rw [HST.out, if_neg (by simp), HT.out]
               rfl
       · clear N1
         go_wp2_with (go_at_call 73; refine B1.mono ?_; rintro e w' ⟨rfl, rfl⟩)
         go_roundw
         case rel => exact ⟨k + 1, R, by omega, by go_num, by rw [HST.out]; simp, HP.out⟩
         case measure => simp [intOf]; omega
     · obtain rfl : k = nl := by omega
       go_wp2
       go_returns
       rw [HR1.out]
       refine ⟨_, rfl, ?_, HP.out.ext⟩
       have := HP.out.own
       rw [HRN.out] at this
       show wo.ownsRow w.heap.size _ 10 _ R.length (fndsL R)
       rw [HRN.out]
       exact this
 · clear hob
   rw [if_pos rfl]
   go_enter Tryz.func37, Tryz.ntmps37
   go_wp2_with (first
     | (go_at_call 71; refine (BK _ (Ext.refl w)).mono ?_; rintro e w' ⟨rfl, rfl⟩)
     | (go_at_call 47; refine CO1.mono ?_; rintro e w1 ⟨rfl, rfl⟩))
   go_returns
   exact ⟨_, rfl, HPS.out.own, HPS.out.ext⟩
end
end Go.Proofs.YtdnpdoipipfkoaaGreatDoor

namespace Go.Proofs.YtdnpdoipipfkoaaGreatDoor
set_option linter.unusedVariables false
set_option linter.unusedSimpArgs false
set_option linter.unusedVariables false
set_option linter.unusedSimpArgs false
set_option maxRecDepth 100000
open Go.RowKit
theorem Cnt.mono18 {s : NS} {n m : Int} (h : Cnt s n) (hm : n ≤ m) : Cnt s m := by
 obtain ⟨h1, h2, h3, h4, h5⟩ := h
 exact ⟨by omega, fun j => by have := h2 j; omega, fun j => by have := h3 j; omega, fun j => by have := h4 j; omega, h5⟩
theorem cnt_turn {s : NS} {n : Int} (h : Cnt s n) (i j : Nat) (x : Pg) : Cnt (turnPg i j x s) n := ⟨h.po, h.N, h.M, h.er, h.px⟩
theorem cnt_oper {zs : Nat → List Int} {s : NS} {n : Int} {who : Int} {sp dn : NS → NS} (h : Cnt s n) (hsp : ∀ s k, Cnt s k → Cnt (sp s) (k + 1)) (hdn : ∀ s k, Cnt s k → Cnt (dn s) (k + 1)) : Cnt (operS zs s who sp dn) (n + 3) := by
 unfold operS
 split
 · exact h.spend.mono18 (by omega)
 · split
   · exact (hsp _ _ h.spend).mono18 (by omega)
   · split
     · exact (hsp _ _ (h.spend.draw zs who)).mono18 (by omega)
     · exact (hdn _ _ (h.spend.draw zs who)).mono18 (by omega)
theorem cnt_prog {S : NShape} {zs : Nat → List Int} {s : NS} {n : Int} (h : Cnt s n) (who i j : Int) (bs : List Int) (dt : ByteArray) : Cnt (progS S zs s who i j bs dt) (n + 3) := by
 unfold progS
 split
 · exact cnt_oper h (fun s k hk => (cnt_turn hk _ _ _).mono18 (by omega)) (fun s k hk => (cnt_turn hk _ _ _).mono18 (by omega))
 · exact h.mono18 (by omega)
theorem cnt_prg {c : SC} {s : NS} {n : Int} (h : Cnt s n) (b pg pl sq kd te ep : Int) (cp : Bool) (dt : ByteArray) : Cnt (prgS c s b pg pl sq kd te ep cp dt) (n + 3) := by
 unfold prgS
 split
 · exact cnt_prog h _ _ _ _ _
 · exact h.mono18 (by omega)
theorem cnt_ers {S : NShape} {zs : Nat → List Int} {s : NS} {n : Int} (h : Cnt s n) (who i : Int) : Cnt (ersS S zs s who i) (n + 3) := by
 unfold ersS
 split
 · refine cnt_oper h (fun s k hk => ?_) (fun s k hk => ?_)
   · exact (show Cnt (fillTo i.toNat S.pg 2 s) k from ⟨hk.po, hk.N, hk.M, hk.er, hk.px⟩).mono18 (by omega)
   · refine ⟨by have := hk.po; show 0 ≤ s.po ∧ s.po ≤ k + 1; omega, fun j => by have := hk.N j; show 0 ≤ s.N j ∧ s.N j ≤ k + 1; omega, fun j => by have := hk.M j; show 0 ≤ s.M j ∧ s.M j ≤ k + 1; omega, fun j => ?_, hk.px⟩
     show 0 ≤ (if j = i.toNat then s.er i.toNat + 1 else s.er j) ∧ (if j = i.toNat then s.er i.toNat + 1 else s.er j) ≤ k + 1
     have h1 := hk.er j
     have h2 := hk.er i.toNat
     split <;> omega
 · exact h.mono18 (by omega)
theorem cnt_mark {S : NShape} {s : NS} {n : Int} (h : Cnt s n) (i : Int) : Cnt (markS S s i) (n + 3) := by
 unfold markS
 have hs := h.spend
 split
 · split
   · exact Cnt.mono18 (n := n + 1) ⟨hs.po, hs.N, hs.M, hs.er, hs.px⟩ (by omega)
   · exact hs.mono18 (by omega)
 · exact h.mono18 (by omega)
theorem cnt_copy {c : SC} {tg : Int} : ∀ (L : List Fnd) (i : Nat) (s : NS) (n : Int), Cnt s n → Cnt (copyR c tg L i s).2 (n + 3 * L.length)
 | [], i, s, n, h => by simpa [copyR] using h
 | f :: l, i, s, n, h => by
   have h1 := cnt_prg h tg i f.pl f.sq f.kd f.te f.ep true f.dt (c := c)
   unfold copyR
   split
   · exact (cnt_copy l (i + 1) _ _ h1).mono18 (by simp only [List.length_cons]; omega)
   · exact h1.mono18 (by simp only [List.length_cons]; omega)
theorem nodup_len : ∀ (n : Nat) (l : List Int), l.Nodup → (∀ x ∈ l, 0 ≤ x ∧ x < n) → l.length ≤ n
 | 0, l, _, h => by
   cases l with
   | nil => exact Nat.le_refl _
   | cons x l => have := h x (by simp); omega
 | n + 1, l, hd, h => by
   by_cases hm : (n : Int) ∈ l
   · have h1 := List.length_erase_of_mem hm
     have h2 := nodup_len n (l.erase (n : Int)) (hd.erase _) (fun x hx => by
       have h3 := h x (List.mem_of_mem_erase hx)
       have h4 : x ≠ n := fun e => by subst e; exact (List.Nodup.not_mem_erase hd) hx
       omega)
     omega
   · have h2 := nodup_len n l hd (fun x hx => by
       have h3 := h x hx
       have h4 : x ≠ n := fun e => by subst e; exact hm hx
       omega)
     omega
theorem TabA.len {w : World} {t B P : Nat} {rs : List R14} (h : TabA w t B P rs) : rs.length ≤ 64 := by
 obtain ⟨R, W, S, _, hI⟩ := h
 have := nodup_len 64 (rs.map (·.pl)) hI.pls (fun x hx => by
   obtain ⟨r, hr, rfl⟩ := List.mem_map.1 hx
   have := hI.ok r hr
   omega)
 simpa using this
theorem RowF.keeps {w w' : World} {T : Nat → Nat} {v : Value} {L : List Fnd} (h : RowF w v L) (hk : Keeps T w w') (hv : ∀ q, v.ownBlock = some q → T q = 0) : RowF w' v L := by
 obtain ⟨ao, cap, rfl, hc⟩ := h
 refine ⟨ao, cap, rfl, fun i hi => ?_⟩
 obtain ⟨b, off, rfl, hr⟩ := hc i hi
 exact ⟨b, off, rfl, fun j u hj => (World.cell?_of_block (hk.block b (World.block_lt_of_cell? w _ (hr j u hj)) (hv b rfl))).trans (hr j u hj)⟩
theorem StAt.fresh {w : World} {p : SP} {c : SC} {m : SM} (h : StAt w p c m) {k : Nat} (hk : w.heap.size ≤ k) : tS p c k = 0 := by
 have h1 := h.bk.lt
 have h2 := h.tb.lt
 have h3 := bufLt _ _ _ h.bf
 unfold tS
 rw [if_neg (by omega)]
 exact h.nd.fresh hk
theorem needR_stay {c : SC} {m : SM} {b : Int} {j : Nat} (h : (needR c m b j).2 ≠ 0) : ∀ k, j ≤ k → needR c m b k = needR c m b j := fun k hk => by
 induction k with
 | zero => rw [show j = 0 by omega]
 | succ k ih =>
   by_cases e : j = k + 1
   · rw [e]
   · have h1 := ih (by omega)
     rw [needR, h1, if_pos h]
theorem needR_len {c : SC} {m : SM} {b : Int} : ∀ k, (needR c m b k).1.length ≤ k
 | 0 => Nat.le_refl _
 | k + 1 => by
   have := needR_len (c := c) (m := m) (b := b) k
   rw [needR]
   split
   · omega
   · split
     · omega
     · split
       · simp; omega
       · simp
end Go.Proofs.YtdnpdoipipfkoaaGreatDoor
