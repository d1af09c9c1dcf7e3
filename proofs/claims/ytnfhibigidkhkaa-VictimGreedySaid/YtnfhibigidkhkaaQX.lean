/-
  Layer 15: the document's Benefit.
-/
import Derived.Test.YtnfhibigidkhkaaQW
namespace Go.Proofs.Ytnfhibigidkhkaa
set_option linter.unusedVariables false
set_option linter.unusedSimpArgs false
set_option maxRecDepth 100000
open Go.RowKit

/-- May a block be chosen? -/
def mayB (zs gs : List Int) (p : Int) (k : Nat) : Bool := decide (0 ≤ zs.getD k 0) && (decide (zs.getD k 0 < p) && decide (k < gs.length))
theorem may15_any (v u : Value) (zs gs : List Int) (p : Int) (k : Nat) (w : World) (hv : Ints w v zs) (hu : Ints w u gs) (hk : k < zs.length) (hl : zs.length ≤ 9223372036854775807) (hl2 : gs.length ≤ 9223372036854775807) :
    Calls Try.prog 15 #[v, u, .int .i64 p, .int .i64 k] w fun e w' => e = .returned (.bool (mayB zs gs p k)) ∧ w = w' := by
  obtain ⟨ao, cap, rfl, hc⟩ := hv.cells15
  obtain ⟨ao2, cap2, rfl, -⟩ := hu.cells15
  obtain ⟨b, off, rfl, hcell⟩ := hc k hk
  obtain ⟨x, hx⟩ : ∃ z, zs.getD k 0 = z := ⟨_, rfl⟩
  obtain ⟨n, hn⟩ : ∃ n, zs.length = n := ⟨_, rfl⟩
  obtain ⟨m, hm⟩ : ∃ n, gs.length = n := ⟨_, rfl⟩
  have e : mayB zs gs p k = (decide (0 ≤ x) && (decide (x < p) && decide (k < m))) := by unfold mayB; rw [hx, hm]
  rw [e]
  rw [hx] at hcell
  rw [hn] at hl hk ⊢
  rw [hm] at hl2 ⊢
  clear hx hn hm hc hv hu e
  go_enter Try.func15, Try.ntmps15
  by_cases h0 : 0 ≤ x
  · by_cases h1 : x < p
    · by_cases h2 : k < m
      · go_wp2
        go_ret
        refine ⟨?_, rfl⟩
        simp [h0, h1, h2]
      · go_wp2
        go_ret
        refine ⟨?_, rfl⟩
        simp [h0, h1, h2]
    · go_wp2
      go_ret
      refine ⟨?_, rfl⟩
      simp [h0, h1]
      try omega
  · go_wp2
    go_ret
    refine ⟨?_, rfl⟩
    simp [h0]
    try omega

/-- Its benefit, but for what it is divided by. -/
def valN (zs gs : List Int) (p : Int) (k : Nat) : Int := (p - zs.getD k 0) * clampN (gs.getD k 0) 1048576
theorem valN_bd {zs gs : List Int} {p : Int} {k : Nat} (hp : 2 ≤ p ∧ p ≤ 16) (h : mayB zs gs p k = true) : 0 ≤ valN zs gs p k ∧ valN zs gs p k ≤ 16777216 := by
  unfold mayB at h
  simp only [Bool.and_eq_true, decide_eq_true_eq] at h
  have hb := clampN_bd (v := gs.getD k 0) (m := 1048576) (by decide)
  unfold valN
  constructor
  · exact Int.mul_nonneg (by omega) hb.1
  · exact Int.mul_le_mul (a := p - zs.getD k 0) (b := clampN (gs.getD k 0) 1048576) (c := 16) (d := 1048576) (by omega) hb.2 hb.1 (by decide)
theorem value15_any (v u : Value) (zs gs : List Int) (p : Int) (k : Nat) (w : World) (hv : Ints w v zs) (hu : Ints w u gs) (hk : k < zs.length) (hl : zs.length ≤ 9223372036854775807) (hl2 : gs.length ≤ 9223372036854775807) (hp : 2 ≤ p ∧ p ≤ 16) (hm : mayB zs gs p k = true) :
    Calls Try.prog 16 #[v, u, .int .i64 p, .int .i64 k] w fun e w' => e = .returned (.int .i64 (valN zs gs p k)) ∧ Ext w w' := by
  have hvb := valN_bd hp hm
  have hm2 := hm
  unfold mayB at hm2
  simp only [Bool.and_eq_true, decide_eq_true_eq] at hm2
  obtain ⟨ao, cap, rfl, hc⟩ := hv.cells15
  obtain ⟨ao2, cap2, rfl, hc2⟩ := hu.cells15
  obtain ⟨b, off, rfl, hcell⟩ := hc k hk
  obtain ⟨b2, off2, rfl, hcell2⟩ := hc2 k hm2.2.2
  unfold valN at hvb ⊢
  obtain ⟨x, hx⟩ : ∃ z, zs.getD k 0 = z := ⟨_, rfl⟩
  obtain ⟨y, hy⟩ : ∃ z, gs.getD k 0 = z := ⟨_, rfl⟩
  obtain ⟨n, hn⟩ : ∃ n, zs.length = n := ⟨_, rfl⟩
  obtain ⟨m, hmm⟩ : ∃ n, gs.length = n := ⟨_, rfl⟩
  rw [hx] at hcell hvb hm2 ⊢
  rw [hy] at hcell2 hvb ⊢
  rw [hn] at hl hk ⊢
  rw [hmm] at hl2 hm2 ⊢
  obtain ⟨g0, g1, g2⟩ := hm2
  obtain ⟨p0, p1⟩ := hp
  clear hx hy hn hmm hc hc2 hv hu hm
  have hb := clampN_bd (v := y) (m := 1048576) (by decide)
  obtain ⟨c, hcc⟩ : ∃ z, clampN y 1048576 = z := ⟨_, rfl⟩
  have CC := clamp15_any y 1048576
  rw [hcc] at CC hvb hb ⊢
  clear hcc
  obtain ⟨v0, v1⟩ := hvb
  obtain ⟨hb0, hb1⟩ := hb
  go_enter Try.func16, Try.ntmps16
  go_wp2
  have hS : w.drew.cell? ⟨b, off + k, none⟩ = some (.int .i64 x) ∧ w.drew.cell? ⟨b2, off2 + k, none⟩ = some (.int .i64 y) := ⟨hcell, hcell2⟩
  refine region_line [(0, true), (1, true), (2, true), (3, true), (4, true), (5, true), (6, true), (7, true), (8, true), (9, true), (10, false), (11, true), (12, true)] (fun x' => x'.cell? ⟨b, off + k, none⟩ = some (.int .i64 x) ∧ x'.cell? ⟨b2, off2 + k, none⟩ = some (.int .i64 y)) (by kernel_rfl) (by kernel_rfl) (fun _ _ _ d _ h => by cases d <;> exact h) hS ?_
  clear hcell hcell2
  repeat (refine line_read (a' := ?_) rfl (by kernel_rfl) (by kernel_rfl) hS (fun x hx K hK => ?_) ?_; rotate_left; · obtain ⟨hx0, hx1⟩ := hx; go_wp2; exact hK)
  refine line_act (by rfl) (fun K hK => ?_)
  go_wp2_with (go_at_call 17; refine (CC _).mono ?_; rintro e w4 ⟨rfl, rfl⟩)
  refine hK _ _ _ hS (fun x hx => hx) ?_
  clear hK K
  repeat (refine line_read (a' := ?_) rfl (by kernel_rfl) (by kernel_rfl) hS (fun x hx K hK => ?_) ?_; rotate_left; · obtain ⟨hx0, hx1⟩ := hx; go_wp2; exact hK)
  refine line_end ?_
  go_wp2
  go_ret
  exact ⟨rfl, Ext.drew w⟩

/-- It may be chosen, and no other one beats it. -/
def beatB (zs gs : List Int) (p : Int) (i k : Nat) : Bool := mayB zs gs p k && decide (valN zs gs p i * (p + zs.getD k 0) < valN zs gs p k * (p + zs.getD i 0))
def BestP (zs gs : List Int) (p : Int) (i : Nat) : Prop := mayB zs gs p i = true ∧ ∀ k, k < zs.length → beatB zs gs p i k = false
/-- What Benefit must answer: the first such one. -/
def BenP (zs gs : List Int) (p r : Int) : Prop := (¬ (2 ≤ p ∧ p ≤ 16) ∧ r = -1) ∨ ((2 ≤ p ∧ p ≤ 16) ∧ ((r = -1 ∧ ∀ i, i < zs.length → ¬ BestP zs gs p i) ∨ ∃ i : Nat, r = (i : Int) ∧ i < zs.length ∧ BestP zs gs p i ∧ ∀ j, j < i → ¬ BestP zs gs p j))
theorem BenP.eq {zs gs : List Int} {p r s : Int} (h : BenP zs gs p r) (h2 : BenP zs gs p s) : r = s := by
  rcases h with ⟨h0, rfl⟩ | ⟨h0, h⟩
  · rcases h2 with ⟨_, rfl⟩ | ⟨h1, _⟩
    · rfl
    · exact absurd h1 h0
  · rcases h2 with ⟨h1, _⟩ | ⟨_, h2⟩
    · exact absurd h0 h1
    · rcases h with ⟨rfl, h⟩ | ⟨i, rfl, hi, hb, hf⟩
      · rcases h2 with ⟨rfl, _⟩ | ⟨j, _, hj, hbj, _⟩
        · rfl
        · exact absurd hbj (h j hj)
      · rcases h2 with ⟨_, h2⟩ | ⟨j, rfl, hj, hbj, hfj⟩
        · exact absurd hb (h2 i hi)
        · rcases Nat.lt_trichotomy i j with hl | rfl | hl
          · exact absurd hb (hfj i hl)
          · rfl
          · exact absurd hbj (hf j hl)

set_option maxHeartbeats 1600000 in
theorem refBenefit_in (v u : Value) (zs gs : List Int) (p : Int) (w : World) (hv : Ints w v zs) (hu : Ints w u gs) (hl : zs.length ≤ 9223372036854775807) (hl2 : gs.length ≤ 9223372036854775807) (hp : 2 ≤ p ∧ p ≤ 16) :
    Calls Try.prog 10 #[v, u, .int .i64 p] w fun e w' => (∃ r, BenP zs gs p r ∧ e = .returned (.int .i64 r)) ∧ Ext w w' := by
  obtain ⟨ao, cap, rfl, hc⟩ := id hv.cells15
  obtain ⟨n, hn⟩ : ∃ n, zs.length = n := ⟨_, rfl⟩
  have M := Lib.hid (show ∀ (wx : World) (k : Nat), Ext w wx → k < zs.length → Calls Try.prog 15 #[.slice ao zs.length cap, u, .int .i64 p, .int .i64 k] wx fun e w' => e = .returned (.bool (mayB zs gs p k)) ∧ wx = w' from
    fun wx k hE hk => may15_any _ _ _ _ _ _ _ (hv.kept hE (by simp)) (hu.kept hE (by simp)) hk hl hl2)
  have V := Lib.hid (show ∀ (wx : World) (k : Nat), Ext w wx → k < zs.length → mayB zs gs p k = true → Calls Try.prog 16 #[.slice ao zs.length cap, u, .int .i64 p, .int .i64 k] wx fun e w' => e = .returned (.int .i64 (valN zs gs p k)) ∧ Ext wx w' from
    fun wx k hE hk hm => value15_any _ _ _ _ _ _ _ (hv.kept hE (by simp)) (hu.kept hE (by simp)) hk hl hl2 hp hm)
  have HC := Lib.hid (show ∀ k, k < zs.length → ∃ b off, ao = some ⟨b, off, none⟩ ∧ w.cell? ⟨b, off + k, none⟩ = some (.int .i64 (zs.getD k 0)) from hc)
  have HP := Lib.hid hp
  rw [hn] at M V HC hl ⊢
  have HN := Lib.hid hn
  clear hn hv hu hc hl2
  obtain ⟨p0, p1⟩ := hp
  go_enter Try.func10, Try.ntmps10
  go_wp2
  go_loopw [18] (fun i wr => ∃ k : Nat, k ≤ n ∧ i = .int .i64 k ∧ Ext w wr ∧ ∀ j, j < k → ¬ BestP zs gs p j) (fun i _ => n - (intOf i).toNat)
  case atStart => exact ⟨0, by omega, rfl, Ext.refl _, fun j hj => by omega⟩
  case round =>
    obtain ⟨i, hi, rfl, hEr, hno⟩ := hrel
    have HNO := Lib.hid (And.intro hEr hno)
    clear hEr hno
    by_cases hlt : i < n
    · obtain ⟨b, off, rfl, hcell⟩ := HC.out i hlt
      have HCI := Lib.hid hcell
      clear hcell
      have hmv := M.out
      cases hmi : mayB zs gs p i
      · have MI := M.out wr i HNO.out.1 hlt
        rw [hmi] at MI
        clear hmv
        go_wp2_with (go_at_call 15; refine MI.mono ?_; rintro e w' ⟨rfl, rfl⟩)
        go_roundw
        case rel => exact ⟨i + 1, by omega, by go_num, HNO.out.1, fun j hj => by
          by_cases e : j = i
          · subst e; intro h; rw [h.1] at hmi; cases hmi
          · exact HNO.out.2 j (by omega)⟩
        case measure => simp [intOf]; omega
      · have MI := M.out wr i HNO.out.1 hlt
        rw [hmi] at MI
        clear hmv
        obtain ⟨vi, hvi⟩ : ∃ z, valN zs gs p i = z := ⟨_, rfl⟩
        have hvib := valN_bd HP.out hmi
        rw [hvi] at hvib
        have hxi : 0 ≤ zs.getD i 0 ∧ zs.getD i 0 < p := by
          unfold mayB at hmi
          simp only [Bool.and_eq_true, decide_eq_true_eq] at hmi
          exact ⟨hmi.1, hmi.2.1⟩
        obtain ⟨xi, hx⟩ : ∃ z, zs.getD i 0 = z := ⟨_, rfl⟩
        rw [hx] at hxi
        have HXI := Lib.hid (And.intro hvi (And.intro hx hmi))
        replace HCI := Lib.hid HCI.out
        rw [hx] at HCI
        clear hvi hx hmi
        go_wp2_with (go_at_call 15; refine MI.mono ?_; rintro e w' ⟨rfl, rfl⟩)
        clear MI
        go_loopw [8, 29] (fun s i' wk => ∃ (k : Nat) (bt : Bool), k ≤ n ∧ i' = .int .i64 k ∧ s = .bool bt ∧ Ext w wk ∧ (bt = true → ∃ j, j < n ∧ beatB zs gs p i j = true) ∧ (bt = false → ∀ j, j < k → beatB zs gs p i j = false)) (fun _ i' _ => n - (intOf i').toNat)
        case atStart => exact ⟨0, false, by omega, rfl, rfl, HNO.out.1, (fun h => by cases h), fun _ j hj => by omega⟩
        case round =>
          obtain ⟨k, bt, hk, rfl, rfl, hEk, hb1, hb0⟩ := hrel
          have HB := Lib.hid (And.intro hEk (And.intro hb1 hb0))
          clear hEk hb1 hb0
          by_cases hlk : k < n
          · obtain ⟨b9, off9, hao, hcell⟩ := HC.out k hlk
            simp only [Option.some.injEq, Addr.mk.injEq, and_true] at hao
            obtain ⟨rfl, rfl⟩ := hao
            obtain ⟨xk, hxk⟩ : ∃ z, zs.getD k 0 = z := ⟨_, rfl⟩
            rw [hxk] at hcell
            have HCK := Lib.hid hcell
            clear hcell
            have hEd := ext_trans HB.out.1 (Ext.drew _)
            have hS := And.intro (hEd.cell HCI.out (by simp)) (And.intro (hEd.cell HCK.out (by simp)) hEd)
            clear hEd
            have MK := fun wx hE => M.out wx k hE hlk
            cases hmk : mayB zs gs p k
            · rw [hmk] at MK
              go_wp2
              refine region_line [(0, true), (1, true), (2, true), (3, true), (4, false), (5, true), (6, true), (7, true), (8, true), (9, true), (11, true), (12, true), (13, true), (14, true), (15, true), (16, true), (18, true), (19, true), (20, true), (21, true), (23, true), (24, true), (25, true), (26, true), (27, true), (28, true), (10, false), (17, true), (22, false), (29, true), (30, true), (31, true)] (fun x => x.cell? ⟨b, off + i, none⟩ = some (.int .i64 xi) ∧ x.cell? ⟨b, off + k, none⟩ = some (.int .i64 xk) ∧ Ext w x) (by kernel_rfl) (by kernel_rfl) (fun _ _ _ d _ h => by cases d <;> exact h) hS ?_
              repeat (refine line_read (a' := ?_) rfl (by kernel_rfl) (by kernel_rfl) hS (fun x hx K hK => ?_) ?_; rotate_left; · obtain ⟨hx0, hx1, hx2⟩ := hx; go_wp2; exact hK)
              refine line_act (by rfl) (fun K hK => ?_)
              go_wp2_with (go_at_call 15; refine (MK _ hS.2.2).mono ?_; rintro e w4 ⟨rfl, rfl⟩)
              refine hK _ _ _ hS (fun x hx => hx) ?_
              clear hK K
              repeat (refine line_read (a' := ?_) rfl (by kernel_rfl) (by kernel_rfl) hS (fun x hx K hK => ?_) ?_; rotate_left; · obtain ⟨hx0, hx1, hx2⟩ := hx; go_wp2; exact hK)
              refine line_act (by rfl) (fun K hK => ?_)
              go_wp2
              refine hK _ _ _ hS (fun x hx => hx) ?_
              clear hK K
              repeat (refine line_read (a' := ?_) rfl (by kernel_rfl) (by kernel_rfl) hS (fun x hx K hK => ?_) ?_; rotate_left; · obtain ⟨hx0, hx1, hx2⟩ := hx; go_wp2; exact hK)
              refine line_act (by rfl) (fun K hK => ?_)
              go_wp2
              refine hK _ _ _ hS (fun x hx => hx) ?_
              clear hK K
              repeat (refine line_read (a' := ?_) rfl (by kernel_rfl) (by kernel_rfl) hS (fun x hx K hK => ?_) ?_; rotate_left; · obtain ⟨hx0, hx1, hx2⟩ := hx; go_wp2; exact hK)
              refine line_end ?_
              go_wp2
              case roundEnd =>
                exact ⟨⟨k + 1, bt, by omega, rfl, rfl, hS.2.2, HB.out.2.1, fun hb j hj => by
                  by_cases e : j = k
                  · subst e; unfold beatB; rw [hmk]; rfl
                  · exact HB.out.2.2 hb j (by omega)⟩, by simp only [intOf]; omega⟩
            · rw [hmk] at MK
              have VK := fun wx hE => V.out wx k hE hlk hmk
              have VI := fun wx hE => V.out wx i hE hlt HXI.out.2.2
              obtain ⟨vk, hvk⟩ : ∃ z, valN zs gs p k = z := ⟨_, rfl⟩
              have hvkb := valN_bd HP.out hmk
              rw [hvk] at hvkb VK
              rw [HXI.out.1] at VI
              have hxkb : 0 ≤ xk ∧ xk < p := by
                rw [← hxk]
                have h := hmk
                unfold mayB at h
                simp only [Bool.and_eq_true, decide_eq_true_eq] at h
                exact ⟨h.1, h.2.1⟩
              obtain ⟨q0, q1⟩ := hvib
              obtain ⟨q2, q3⟩ := hvkb
              obtain ⟨q4, q5⟩ := hxi
              obtain ⟨q6, q7⟩ := hxkb
              have t1 : 0 ≤ vk * (p + xi) := Int.mul_nonneg q2 (by omega)
              have t2 : vk * (p + xi) ≤ 16777216 * 32 := Int.mul_le_mul q3 (by omega) (by omega) (by decide)
              have t3 : 0 ≤ vi * (p + xk) := Int.mul_nonneg q0 (by omega)
              have t4 : vi * (p + xk) ≤ 16777216 * 32 := Int.mul_le_mul q1 (by omega) (by omega) (by decide)
              have hbt : beatB zs gs p i k = decide (vi * (p + xk) < vk * (p + xi)) := by
                unfold beatB
                rw [hmk, hvk, HXI.out.1, HXI.out.2.1, hxk]
                rfl
              have HBT := Lib.hid hbt
              clear hbt hvk hmk hxk
              go_wp2
              refine region_line [(0, true), (1, true), (2, true), (3, true), (4, false), (5, true), (6, true), (7, true), (8, true), (9, true), (11, true), (12, true), (13, true), (14, true), (15, true), (16, true), (18, true), (19, true), (20, true), (21, true), (23, true), (24, true), (25, true), (26, true), (27, true), (28, true), (10, false), (17, true), (22, false), (29, true), (30, true), (31, true)] (fun x => x.cell? ⟨b, off + i, none⟩ = some (.int .i64 xi) ∧ x.cell? ⟨b, off + k, none⟩ = some (.int .i64 xk) ∧ Ext w x) (by kernel_rfl) (by kernel_rfl) (fun _ _ _ d _ h => by cases d <;> exact h) hS ?_
              repeat (refine line_read (a' := ?_) rfl (by kernel_rfl) (by kernel_rfl) hS (fun x hx K hK => ?_) ?_; rotate_left; · obtain ⟨hx0, hx1, hx2⟩ := hx; go_wp2; exact hK)
              refine line_act (by rfl) (fun K hK => ?_)
              go_wp2_with (go_at_call 15; refine (MK _ hS.2.2).mono ?_; rintro e w4 ⟨rfl, rfl⟩)
              refine hK _ _ _ hS (fun x hx => hx) ?_
              clear hK K
              repeat (refine line_read (a' := ?_) rfl (by kernel_rfl) (by kernel_rfl) hS (fun x hx K hK => ?_) ?_; rotate_left; · obtain ⟨hx0, hx1, hx2⟩ := hx; go_wp2; exact hK)
              refine line_act (by rfl) (fun K hK => ?_)
              go_wp2_with (go_at_call 16; refine (VK _ hS.2.2).mono ?_; rintro e w5 ⟨rfl, hg5⟩)
              replace hS := And.intro (hg5.cell hS.1 (by simp)) (And.intro (hg5.cell hS.2.1 (by simp)) (ext_trans hS.2.2 hg5))
              refine hK _ _ _ hS (fun x hx => hx) ?_
              clear hK K
              repeat (refine line_read (a' := ?_) rfl (by kernel_rfl) (by kernel_rfl) hS (fun x hx K hK => ?_) ?_; rotate_left; · obtain ⟨hx0, hx1, hx2⟩ := hx; go_wp2; exact hK)
              refine line_act (by rfl) (fun K hK => ?_)
              go_wp2_with (go_at_call 16; refine (VI _ hS.2.2).mono ?_; rintro e w6 ⟨rfl, hg6⟩)
              replace hS := And.intro (hg6.cell hS.1 (by simp)) (And.intro (hg6.cell hS.2.1 (by simp)) (ext_trans hS.2.2 hg6))
              refine hK _ _ _ hS (fun x hx => hx) ?_
              clear hK K
              repeat (refine line_read (a' := ?_) rfl (by kernel_rfl) (by kernel_rfl) hS (fun x hx K hK => ?_) ?_; rotate_left; · obtain ⟨hx0, hx1, hx2⟩ := hx; go_wp2; exact hK)
              refine line_end ?_
              by_cases hd : vi * (p + xk) < vk * (p + xi)
              · have HD := Lib.hid hd
                go_wp2
                case roundEnd =>
                  exact ⟨⟨k + 1, true, by omega, rfl, rfl, hS.2.2, fun _ => ⟨k, hlk, by rw [HBT.out]; exact decide_eq_true HD.out⟩, fun h => by cases h⟩, by simp only [intOf]; omega⟩
              · have HD := Lib.hid hd
                go_wp2
                case roundEnd =>
                  exact ⟨⟨k + 1, bt, by omega, rfl, rfl, hS.2.2, HB.out.2.1, fun hb j hj => by
                    by_cases e : j = k
                    · subst e; rw [HBT.out]; exact decide_eq_false HD.out
                    · exact HB.out.2.2 hb j (by omega)⟩, by simp only [intOf]; omega⟩
          · cases bt
            · go_wp2
              obtain rfl : k = n := by omega
              go_ret
              exact ⟨⟨(i : Int), .inr ⟨HP.out, .inr ⟨i, rfl, by rw [HN.out]; exact hlt, ⟨HXI.out.2.2, fun j hj => HB.out.2.2 (by first | rfl | trivial) j (by rw [HN.out] at hj; exact hj)⟩, HNO.out.2⟩⟩, rfl⟩, HB.out.1⟩
            · go_wp2
              case roundEnd =>
                exact ⟨⟨i + 1, by omega, rfl, HB.out.1, fun j hj => by
                  by_cases e : j = i
                  · subst e
                    obtain ⟨j2, hj2, hb2⟩ := HB.out.2.1 rfl
                    intro h
                    rw [h.2 j2 (by rw [HN.out]; exact hj2)] at hb2
                    cases hb2
                  · exact HNO.out.2 j (by omega)⟩, by simp only [intOf]; omega⟩
    · go_wp2
      go_ret
      obtain rfl : i = n := by omega
      exact ⟨⟨-1, .inr ⟨HP.out, .inl ⟨rfl, fun j hj => HNO.out.2 j (by rw [HN.out] at hj; exact hj)⟩⟩, rfl⟩, HNO.out.1⟩

theorem refBenefit_any (v u : Value) (zs gs : List Int) (p : Int) (w : World) (hv : Ints w v zs) (hu : Ints w u gs) (hl : zs.length ≤ 9223372036854775807) (hl2 : gs.length ≤ 9223372036854775807) :
    Calls Try.prog 10 #[v, u, .int .i64 p] w fun e w' => (∃ r, BenP zs gs p r ∧ e = .returned (.int .i64 r)) ∧ Ext w w' := by
  by_cases hp : 2 ≤ p ∧ p ≤ 16
  · exact refBenefit_in v u zs gs p w hv hu hl hl2 hp
  · have HP := Lib.hid hp
    by_cases h0 : p < 2
    · clear hp hv hu
      go_enter Try.func10, Try.ntmps10
      go_wp2
      go_ret
      exact ⟨⟨-1, .inl ⟨HP.out, rfl⟩, rfl⟩, Ext.refl _⟩
    · have h1 : 16 < p := by omega
      clear hp hv hu
      go_enter Try.func10, Try.ntmps10
      go_wp2
      go_ret
      exact ⟨⟨-1, .inl ⟨HP.out, rfl⟩, rfl⟩, Ext.refl _⟩

end Go.Proofs.Ytnfhibigidkhkaa
