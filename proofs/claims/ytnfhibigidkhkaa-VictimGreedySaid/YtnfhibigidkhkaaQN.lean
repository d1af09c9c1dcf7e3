/-
  Package victim: isMore, Benefit; the law's fixed.
-/
import Derived.Test.YtnfhibigidkhkaaQM
import Derived.Test.YtnfhibigidkhkaaEA
namespace Go.Proofs.Ytnfhibigidkhkaa
set_option linter.unusedVariables false
set_option linter.unusedSimpArgs false
set_option maxRecDepth 100000
open Go.RowKit

def frcC (o u : Int) : Array Value := #[.int .i64 o, .int .i64 u]
theorem Try.sizeFrc : (Try.prog.info? 29).map (·.size) = some 2 := by kernel_rfl
section
variable {ops : Array Oper} {rest : List Oper} {o : Oper} {a : Act} {w : World} {Q : Exit → Act → World → Prop}
theorem frc_load (hwt : Region.wanted o (yielded ops a.tmps) = true) (x : Operand) (ho : o.op = .load 29 x) {g : Nat} (hx : a.eval x = .pointer (some ⟨g, 0, none⟩)) {p q : Int} (hg : Blk w g 29 (frcC p q))
    (h : wpList Try.prog ops Q rest (a.put o.dst (.agg #[.int .i64 p, .int .i64 q])) w) : wpList Try.prog ops Q (o :: rest) a w :=
  wpList_load_part hwt _ x ho g 0 2 hx _ _ _ _ _ hg (show (frcC p q).extract 0 (0 + 2) = #[.int .i64 p, .int .i64 q] from rfl) rfl Try.underlying29 rfl Try.sizeFrc h
theorem frc_store (x y : Operand) (ho : o.op = .store 29 x y) {g : Nat} (hx : a.eval x = .pointer (some ⟨g, 0, none⟩)) {p q : Int} (hy : a.eval y = .agg (frcC p q)) {old : Array Value} (hg : Blk w g 29 old) (hold : old.size = 2) (hwt : Region.wanted o (yielded ops a.tmps) = true)
    (h : ∀ w', Blk w' g 29 (frcC p q) → w.grownBy w' (some g) → w'.heap.size = w.heap.size → wpList Try.prog ops Q rest (a.put o.dst undef) w') : wpList Try.prog ops Q (o :: rest) a w :=
  wpList_store_part hwt _ x y ho g 0 2 _ hx hy _ old _ hg rfl Try.sizeFrc (by omega) (by simp [frcC, Value.oneCell']) (by
    have h1 : (frcC p q).toList.length = 2 := rfl
    rw [h1, List.drop_of_length_le (by simp; omega)]
    simp) h
end

theorem isMore_any (p q r s : Int) (w : World) (h1 : -9223372036854775808 ≤ p * s ∧ p * s ≤ 9223372036854775807) (h2 : -9223372036854775808 ≤ r * q ∧ r * q ≤ 9223372036854775807) :
    Calls Try.prog 14 #[.agg #[.int .i64 p, .int .i64 q], .agg #[.int .i64 r, .int .i64 s]] w fun e w' => e = .returned (.bool (decide (r * q < p * s))) ∧ w.grownBy w' none := by
  obtain ⟨a1, a2⟩ := h1
  obtain ⟨a3, a4⟩ := h2
  have HE := Lib.hid (g15_trans (World.grownBy_alloc w (.cells #[.int .i64 p, .int .i64 q] 29) none) (World.grownBy_alloc _ (.cells #[.int .i64 r, .int .i64 s] 29) none))
  go_enter Try.func14, Try.ntmps14
  go_wp2
  go_ret
  exact ⟨rfl, HE.out⟩

theorem g17_newV {w w1 w2 : World} {g : Nat} (h : w.grownBy w1 none) (h2 : w1.grownBy w2 (some g)) (hg : w.heap.size ≤ g) : w.grownBy w2 none :=
  ⟨h2.os.trans h.os, h2.tape.trans h.tape, h2.output.trans h.output, Nat.le_trans h.size h2.size, fun k hk hne => (h2.block k (Nat.lt_of_lt_of_le hk h.size) (fun e => by injection e with e; omega)).trans (h.block k hk hne)⟩
/-- The block that is the best of the first k. -/
def MxP (zs gs : List Int) (p : Int) (k : Nat) (r o u : Int) : Prop :=
  (r = -1 ∧ ∀ j, j < k → mayB zs gs p j = false) ∨ ∃ m : Nat, r = m ∧ m < k ∧ mayB zs gs p m = true ∧ o = valN zs gs p m ∧ u = p + zs.getD m 0 ∧ (∀ j, j < k → mayB zs gs p j = true → valN zs gs p j * u ≤ o * (p + zs.getD j 0)) ∧ ∀ j, j < m → mayB zs gs p j = true → valN zs gs p j * u < o * (p + zs.getD j 0)
theorem may_pos {zs gs : List Int} {p : Int} {k : Nat} (hp : 2 ≤ p ∧ p ≤ 16) (h : mayB zs gs p k = true) : 2 ≤ p + zs.getD k 0 ∧ p + zs.getD k 0 ≤ 32 ∧ 0 ≤ zs.getD k 0 ∧ zs.getD k 0 < p := by
  unfold mayB at h
  simp only [Bool.and_eq_true, decide_eq_true_eq] at h
  omega
theorem MxP.skip {zs gs : List Int} {p : Int} {k : Nat} {r o u : Int} (h : MxP zs gs p k r o u) (hk : mayB zs gs p k = false) : MxP zs gs p (k + 1) r o u := by
  rcases h with ⟨h1, h2⟩ | ⟨m, h1, h2, h3, h4, h5, h6, h7⟩
  · refine .inl ⟨h1, fun j hj => ?_⟩
    by_cases e : j = k
    · subst e; exact hk
    · exact h2 j (by omega)
  · refine .inr ⟨m, h1, by omega, h3, h4, h5, fun j hj hm => ?_, h7⟩
    by_cases e : j = k
    · subst e; rw [hk] at hm; cases hm
    · exact h6 j (by omega) hm
theorem MxP.first {zs gs : List Int} {p : Int} {k : Nat} {o u : Int} (h : MxP zs gs p k (-1) o u) (hk : mayB zs gs p k = true) : MxP zs gs p (k + 1) k (valN zs gs p k) (p + zs.getD k 0) := by
  have hno : ∀ j, j < k → mayB zs gs p j = false := by
    rcases h with ⟨_, h2⟩ | ⟨m, h1, _⟩
    · exact h2
    · omega
  refine .inr ⟨k, rfl, by omega, hk, rfl, rfl, fun j hj hm => ?_, fun j hj hm => ?_⟩
  · by_cases e : j = k
    · subst e; exact Int.le_refl _
    · rw [hno j (by omega)] at hm; cases hm
  · rw [hno j hj] at hm; cases hm
theorem beats_all {a b c u v x : Int} (hb : 0 < u) (hx : 0 < x) (hv : 0 < v) (h1 : a * u ≤ b * x) (h2 : b * v < c * u) : a * v < c * x := by
  have e1 : a * u * v ≤ b * x * v := Int.mul_le_mul_of_nonneg_right h1 (by omega)
  have e2 : b * v * x < c * u * x := Int.mul_lt_mul_of_pos_right h2 hx
  have e3 : b * x * v = b * v * x := Int.mul_right_comm b x v
  have e4 : a * u * v = u * (a * v) := by rw [Int.mul_comm a u, Int.mul_assoc]
  have e5 : c * u * x = u * (c * x) := by rw [Int.mul_comm c u, Int.mul_assoc]
  have e6 : u * (a * v) < u * (c * x) := by omega
  exact Int.lt_of_mul_lt_mul_left e6 (by omega)
theorem MxP.take {zs gs : List Int} {p : Int} {k m : Nat} {o u : Int} (hp : 2 ≤ p ∧ p ≤ 16) (h : MxP zs gs p k (m : Int) o u) (hk : mayB zs gs p k = true) (hb : o * (p + zs.getD k 0) < valN zs gs p k * u) : MxP zs gs p (k + 1) k (valN zs gs p k) (p + zs.getD k 0) := by
  rcases h with ⟨h1, _⟩ | ⟨m', h1, h2, h3, h4, h5, h6, h7⟩
  · omega
  have hu := may_pos hp h3
  have hv := may_pos hp hk
  have key : ∀ j, j < k → mayB zs gs p j = true → valN zs gs p j * (p + zs.getD k 0) < valN zs gs p k * (p + zs.getD j 0) := fun j hj hm => by
    have hx := may_pos hp hm
    exact beats_all (by omega) (by omega) (by omega) (h6 j hj hm) hb
  refine .inr ⟨k, rfl, by omega, hk, rfl, rfl, fun j hj hm => ?_, fun j hj hm => key j hj hm⟩
  by_cases e : j = k
  · subst e; exact Int.le_refl _
  · have := key j (by omega) hm; omega
theorem MxP.leave {zs gs : List Int} {p : Int} {k m : Nat} {o u : Int} (h : MxP zs gs p k (m : Int) o u) (hb : ¬ o * (p + zs.getD k 0) < valN zs gs p k * u) : MxP zs gs p (k + 1) (m : Int) o u := by
  rcases h with ⟨h1, _⟩ | ⟨m', h1, h2, h3, h4, h5, h6, h7⟩
  · omega
  refine .inr ⟨m', h1, by omega, h3, h4, h5, fun j hj hm => ?_, h7⟩
  by_cases e : j = k
  · subst e; omega
  · exact h6 j (by omega) hm
theorem MxP.ben {zs gs : List Int} {p : Int} {n : Nat} {r o u : Int} (hp : 2 ≤ p ∧ p ≤ 16) (h : MxP zs gs p n r o u) (hn : n = min zs.length gs.length) : BenP zs gs p r := by
  have hout : ∀ j, j < zs.length → mayB zs gs p j = true → j < n := fun j hj hm => by
    unfold mayB at hm
    simp only [Bool.and_eq_true, decide_eq_true_eq] at hm
    omega
  refine .inr ⟨hp, ?_⟩
  rcases h with ⟨h1, h2⟩ | ⟨m, h1, h2, h3, h4, h5, h6, h7⟩
  · exact .inl ⟨h1, fun i hi hb => by have h3 := h2 i (hout i hi hb.1); rw [hb.1] at h3; cases h3⟩
  · refine .inr ⟨m, h1, by omega, ⟨h3, fun k hk => ?_⟩, fun j hj hb => ?_⟩
    · unfold beatB
      cases hm : mayB zs gs p k
      · rfl
      · have h8 := h6 k (hout k hk hm) hm
        rw [h4, h5] at h8
        simp only [Bool.true_and, decide_eq_false_iff_not]
        omega
    · have h8 := h7 j hj hb.1
      have h9 := hb.2 m (by omega)
      unfold beatB at h9
      rw [h3] at h9
      simp only [Bool.true_and, decide_eq_false_iff_not] at h9
      rw [h4, h5] at h8
      exact h9 h8

set_option maxHeartbeats 3200000 in
theorem vicBenefit_in (v u : Value) (zs gs : List Int) (p : Int) (w : World) (hv : Ints w v zs) (hu : Ints w u gs) (hl : zs.length ≤ 9223372036854775807) (hl2 : gs.length ≤ 9223372036854775807) (hp : 2 ≤ p ∧ p ≤ 16) :
    Calls Try.prog 9 #[v, u, .int .i64 p] w fun e w' => (∃ r, BenP zs gs p r ∧ e = .returned (.int .i64 r)) ∧ w.grownBy w' none := by
  obtain ⟨ao, cap, rfl, hc⟩ := hv.cells15
  obtain ⟨bo, cbp, rfl, hd⟩ := hu.cells15
  have HP := Lib.hid hp
  obtain ⟨p0, p1⟩ := hp
  obtain ⟨n1, hn1⟩ : ∃ n, zs.length = n := ⟨_, rfl⟩
  obtain ⟨n2, hn2⟩ : ∃ n, gs.length = n := ⟨_, rfl⟩
  rw [hn1] at hl hc ⊢
  rw [hn2] at hl2 hd ⊢
  have HC := Lib.hid (And.intro hc (And.intro hd (And.intro hn1 hn2)))
  clear hc hd hn1 hn2 hv hu
  have hB0 := Blk.new w 29 (frcC 0 0)
  have hE0 := World.grownBy_alloc w (.cells (frcC 0 0) 29) none
  have HB0 := Lib.hid (And.intro hB0 hE0)
  clear hB0 hE0



  go_enter Try.func9, Try.ntmps9
  go_wp2
  · rename_i hsw

    go_loopw [7, 23] (fun s i wr => ∃ (k : Nat) (r o u : Int), k ≤ n2 ∧ i = .int .i64 k ∧ s = .int .i64 r ∧ w.grownBy wr none ∧ Blk wr w.heap.size 29 (frcC o u) ∧ MxP zs gs p k r o u) (fun _ i _ => n2 - (intOf i).toNat)
    case atStart => exact ⟨0, -1, 0, 0, by omega, rfl, rfl, HB0.out.2, HB0.out.1, .inl ⟨rfl, fun j hj => by omega⟩⟩
    case round =>
      obtain ⟨k, r, o, u, hk, rfl, rfl, hE, hGB, hM⟩ := hrel
      obtain ⟨wo, rfl⟩ : ∃ wo : World, wo = wr := ⟨_, rfl⟩
      have HE := Lib.hid hE
      have HM := Lib.hid hM
      have HGB := Lib.hid hGB
      clear hE hM hGB
      by_cases hlt : k < n2
      · obtain ⟨b, off, rfl, hcell0⟩ := HC.out.1 k (by omega)
        obtain ⟨b2, off2, rfl, hcell20⟩ := HC.out.2.1 k (by omega)
        have hcell := HE.out.cell hcell0 (by simp)
        have hcell2 := HE.out.cell hcell20 (by simp)
        have hmay : mayB zs gs p k = (decide (0 ≤ zs.getD k 0) && decide (zs.getD k 0 < p)) := by
          unfold mayB
          rw [show decide (k < gs.length) = true from decide_eq_true (by rw [HC.out.2.2.2]; omega), Bool.and_true]
        obtain ⟨x, hx⟩ : ∃ z, zs.getD k 0 = z := ⟨_, rfl⟩
        obtain ⟨y, hy⟩ : ∃ z, gs.getD k 0 = z := ⟨_, rfl⟩
        rw [hx] at hcell hmay
        rw [hy] at hcell2
        have HX := Lib.hid (And.intro hx (And.intro hy hmay))
        clear hx hy hmay hcell0 hcell20
        by_cases g0 : 0 ≤ x
        · by_cases g1 : x < p
          · have g0' : ¬ x < 0 := by omega
            have g1' : ¬ p ≤ x := by omega
            have hm : mayB zs gs p k = true := by rw [HX.out.2.2]; simp [g0, g1]
            have hvb := valN_bd HP.out hm
            have hv0 : valN zs gs p k = (p - x) * clampN y 1048576 := by unfold valN; rw [HX.out.1, HX.out.2.1]
            have B := bounded_any y 1048576 (by decide)
            have hcb := clampN_bd (v := y) (m := 1048576) (by decide)
            rw [hv0] at hvb
            obtain ⟨c, hcc⟩ : ∃ z, clampN y 1048576 = z := ⟨_, rfl⟩
            rw [hcc] at B hcb hvb hv0
            obtain ⟨c0, c1⟩ := hcb
            obtain ⟨v0, v1⟩ := hvb
            obtain ⟨q, hq⟩ : ∃ z, (p - x) * c = z := ⟨_, rfl⟩
            rw [hq] at hv0 v0 v1
            have HV := Lib.hid (And.intro hv0 hm)
            have HQ := Lib.hid hq
            have hq0 : -9223372036854775808 ≤ (p - x) * c ∧ (p - x) * c ≤ 9223372036854775807 := by rw [hq]; omega
            obtain ⟨q0, q1⟩ := hq0
            clear hv0 hm hcc hq
            have hBn := Blk.new wo 29 #[.int .i64 0, .int .i64 0]
            have hGn := HGB.out.alloc (.cells #[.int .i64 0, .int .i64 0] 29)
            have hEn := g15_trans HE.out (World.grownBy_alloc wo (.cells #[.int .i64 0, .int .i64 0] 29) none)
            have hne : w.heap.size ≠ wo.heap.size := by have := HGB.out.lt; omega
            have hle : w.heap.size ≤ wo.heap.size := HE.out.size
            have HEN := Lib.hid (And.intro hBn (And.intro hGn (And.intro hEn (And.intro hne hle))))
            clear hBn hGn hEn hne hle
            rcases HM.out with ⟨hr, hnone⟩ | ⟨m, hr, hmk, hmm, ho, hu, hall, hfst⟩
            · subst hr
              have HF := Lib.hid HM.out.first
              clear hnone
              go_upto_region 12 with (first
                | (go_at_call 13; refine (B _).mono ?_; rintro e w' ⟨rfl, rfl⟩)
                | (refine frc_store (p := (p - x) * c) (q := p + x) _ _ rfl rfl rfl HEN.out.1 rfl rfl ?_; intro w2 hb2 hg2 hs2; have HG2 := Lib.hid (And.intro (g17_newV HEN.out.2.2.1 hg2 HEN.out.2.2.2.2) (HEN.out.2.1.kept hg2 (fun e => HEN.out.2.2.2.1 (by injection e)))); clear hg2 hs2)
                | (refine frc_load rfl _ rfl rfl hb2 ?_))
              have hS : Blk w2.drew wo.heap.size 29 (frcC ((p - x) * c) (p + x)) ∧ (∃ o' u', Blk w2.drew w.heap.size 29 (frcC o' u')) ∧ w.grownBy w2.drew none := ⟨hb2.drew, ⟨_, _, HG2.out.2.drew⟩, grown_drew HG2.out.1⟩
              refine region_line [(0, true), (1, true), (2, true), (3, false)] (fun x' => Blk x' wo.heap.size 29 (frcC ((p - x) * c) (p + x)) ∧ (∃ o' u', Blk x' w.heap.size 29 (frcC o' u')) ∧ w.grownBy x' none) (by kernel_rfl) (by kernel_rfl) (fun _ _ _ d _ h => by cases d <;> exact h) hS ?_
              repeat (refine line_read (a' := ?_) rfl (by kernel_rfl) (by kernel_rfl) hS (fun x' hx K hK => ?_) ?_; rotate_left; · obtain ⟨hx0, hx1, hx2⟩ := hx; go_wp2_with (refine frc_load rfl _ rfl rfl hx0 ?_); exact hK)
              refine line_act (by rfl) (fun K hK => ?_)
              obtain ⟨hS0, ⟨o', u', hS1⟩, hS2⟩ := id hS
              go_wp2_with (refine frc_store (p := (p - x) * c) (q := p + x) _ _ rfl rfl rfl hS1 rfl rfl ?_; intro w3 hb3 hg3 hs3)
              have HD := Lib.hid (And.intro hb3 (g17_newV hS2 hg3 (Nat.le_refl _)))
              have hF3 := hS0.kept hg3 (fun e => HEN.out.2.2.2.1 (by injection e with e; exact e.symm))
              clear hb3 hg3 hs3
              refine hK _ _ (fun x' => x' = w3) rfl (fun x' hx => by subst hx; exact ⟨hF3, ⟨_, _, HD.out.1⟩, HD.out.2⟩) ?_
              clear hK K
              refine line_end ?_
              go_wp2
              case roundEnd =>
                refine ⟨⟨k + 1, (k : Int), (p - x) * c, p + x, by omega, by go_num, rfl, HD.out.2, HD.out.1, ?_⟩, by simp [intOf]; omega⟩
                have h := HF.out HV.out.2
                rw [HV.out.1, HX.out.1] at h
                rw [HQ.out]
                exact h
            · have hu2 := may_pos HP.out hmm
              have hob := valN_bd HP.out hmm
              subst hr
              obtain ⟨ym, hym⟩ : ∃ z, zs.getD m 0 = z := ⟨_, rfl⟩
              rw [hym] at hu hu2
              rw [← ho] at hob
              rw [← hu] at hu2
              obtain ⟨o0, o1⟩ := hob
              obtain ⟨u0, u1, -, -⟩ := hu2
              have t1 : 0 ≤ (p - x) * c * u := by rw [HQ.out]; exact Int.mul_nonneg v0 (by omega)
              have t2 : (p - x) * c * u ≤ 16777216 * 32 := by rw [HQ.out]; exact Int.mul_le_mul v1 u1 (by omega) (by decide)
              have t3 : 0 ≤ o * (p + x) := Int.mul_nonneg o0 (by omega)
              have t4 : o * (p + x) ≤ 16777216 * 32 := Int.mul_le_mul o1 (by omega) (by omega) (by decide)
              have IM := fun wx => isMore_any ((p - x) * c) (p + x) o u wx (by omega) (by omega)
              have hmb : ((m : Int) == -1) = false := by simp
              clear hmm ho hu hall hfst hym t1 t2 t3 t4
              by_cases hbt : o * (p + x) < (p - x) * c * u
              · have HT := Lib.hid hbt
                go_upto_region 12 with (first
                  | (go_at_call 13; refine (B _).mono ?_; rintro e w' ⟨rfl, rfl⟩)
                  | (refine frc_store (p := (p - x) * c) (q := p + x) _ _ rfl rfl rfl HEN.out.1 rfl rfl ?_; intro w1 hb1 hg1 hs1; have HG1 := Lib.hid (And.intro (g17_newV HEN.out.2.2.1 hg1 HEN.out.2.2.2.2) (HEN.out.2.1.kept hg1 (fun e => HEN.out.2.2.2.1 (by injection e)))); have hc1 := HG1.out.2; clear hg1 hs1)
                  | (refine frc_load rfl _ rfl rfl hb1 ?_)
                  | (refine frc_load rfl _ rfl rfl hc1 ?_)
                  | (go_at_call 14; refine (IM _).mono ?_; rintro e w2 ⟨rfl, hg2⟩; have hb2 := hb1.ext hg2; have HG2 := Lib.hid (And.intro (g15_trans HG1.out.1 hg2) (hc1.ext hg2)); clear hg2 hb1 hc1))
                have hS : Blk w2.drew wo.heap.size 29 (frcC ((p - x) * c) (p + x)) ∧ (∃ o' u', Blk w2.drew w.heap.size 29 (frcC o' u')) ∧ w.grownBy w2.drew none := ⟨hb2.drew, ⟨_, _, HG2.out.2.drew⟩, grown_drew HG2.out.1⟩
                refine region_line [(0, true), (1, true), (2, true), (3, false)] (fun x' => Blk x' wo.heap.size 29 (frcC ((p - x) * c) (p + x)) ∧ (∃ o' u', Blk x' w.heap.size 29 (frcC o' u')) ∧ w.grownBy x' none) (by kernel_rfl) (by kernel_rfl) (fun _ _ _ d _ h => by cases d <;> exact h) hS ?_
                repeat (refine line_read (a' := ?_) rfl (by kernel_rfl) (by kernel_rfl) hS (fun x' hx K hK => ?_) ?_; rotate_left; · obtain ⟨hx0, hx1, hx2⟩ := hx; go_wp2_with (refine frc_load rfl _ rfl rfl hx0 ?_); exact hK)
                refine line_act (by rfl) (fun K hK => ?_)
                obtain ⟨hS0, ⟨o', u', hS1⟩, hS2⟩ := id hS
                go_wp2_with (refine frc_store (p := (p - x) * c) (q := p + x) _ _ rfl rfl rfl hS1 rfl rfl ?_; intro w3 hb3 hg3 hs3)
                have HD := Lib.hid (And.intro hb3 (g17_newV hS2 hg3 (Nat.le_refl _)))
                have hF3 := hS0.kept hg3 (fun e => HEN.out.2.2.2.1 (by injection e with e; exact e.symm))
                clear hb3 hg3 hs3
                refine hK _ _ (fun x' => x' = w3) rfl (fun x' hx => by subst hx; exact ⟨hF3, ⟨_, _, HD.out.1⟩, HD.out.2⟩) ?_
                clear hK K
                refine line_end ?_
                go_wp2
                case roundEnd =>
                  refine ⟨⟨k + 1, (k : Int), (p - x) * c, p + x, by omega, by go_num, rfl, HD.out.2, HD.out.1, ?_⟩, by simp [intOf]; omega⟩
                  have h := HM.out.take HP.out HV.out.2 (by rw [HV.out.1, HX.out.1, ← HQ.out]; exact HT.out)
                  rw [HV.out.1, HX.out.1] at h
                  rw [HQ.out]
                  exact h
              · have HT := Lib.hid hbt
                go_wp2_with (first
                  | (go_at_call 13; refine (B _).mono ?_; rintro e w' ⟨rfl, rfl⟩)
                  | (refine frc_store (p := (p - x) * c) (q := p + x) _ _ rfl rfl rfl HEN.out.1 rfl rfl ?_; intro w1 hb1 hg1 hs1; have HG1 := Lib.hid (And.intro (g17_newV HEN.out.2.2.1 hg1 HEN.out.2.2.2.2) (HEN.out.2.1.kept hg1 (fun e => HEN.out.2.2.2.1 (by injection e)))); have hc1 := HG1.out.2; clear hg1 hs1)
                  | (refine frc_load rfl _ rfl rfl hb1 ?_)
                  | (refine frc_load rfl _ rfl rfl hc1 ?_)
                  | (go_at_call 14; refine (IM _).mono ?_; rintro e w2 ⟨rfl, hg2⟩; have HG2 := Lib.hid (And.intro (g15_trans HG1.out.1 hg2) (hc1.ext hg2)); clear hg2))
                go_roundw
                case rel =>
                  refine ⟨k + 1, (m : Int), o, u, by omega, by go_num, rfl, HG2.out.1, HG2.out.2, ?_⟩
                  refine HM.out.leave ?_
                  rw [HV.out.1, HX.out.1, ← HQ.out]
                  exact Int.not_lt.2 HT.out
                case measure => simp [intOf]; omega
          · have g1' : p ≤ x := by omega
            have hm : mayB zs gs p k = false := by rw [HX.out.2.2]; simp [g1]
            have HN := Lib.hid (HM.out.skip hm)
            clear hm
            have g0' : ¬ x < 0 := by omega
            go_wp2
            go_roundw
            case rel => exact ⟨k + 1, r, o, u, by omega, by go_num, rfl, HE.out, HGB.out, HN.out⟩
            case measure => simp [intOf]; omega
        · have g0' : x < 0 := by omega
          have hm : mayB zs gs p k = false := by rw [HX.out.2.2]; simp [g0]
          have HN := Lib.hid (HM.out.skip hm)
          clear hm
          go_wp2
          go_roundw
          case rel => exact ⟨k + 1, r, o, u, by omega, by go_num, rfl, HE.out, HGB.out, HN.out⟩
          case measure => simp [intOf]; omega
      · obtain rfl : k = n2 := by omega
        have HB := Lib.hid (HM.out.ben HP.out (by rw [HC.out.2.2.1, HC.out.2.2.2]; omega))
        go_wp2
        go_ret
        exact ⟨⟨r, HB.out, rfl⟩, HE.out⟩
  · rename_i hsw

    go_loopw [7, 23] (fun s i wr => ∃ (k : Nat) (r o u : Int), k ≤ n1 ∧ i = .int .i64 k ∧ s = .int .i64 r ∧ w.grownBy wr none ∧ Blk wr w.heap.size 29 (frcC o u) ∧ MxP zs gs p k r o u) (fun _ i _ => n1 - (intOf i).toNat)
    case atStart => exact ⟨0, -1, 0, 0, by omega, rfl, rfl, HB0.out.2, HB0.out.1, .inl ⟨rfl, fun j hj => by omega⟩⟩
    case round =>
      obtain ⟨k, r, o, u, hk, rfl, rfl, hE, hGB, hM⟩ := hrel
      obtain ⟨wo, rfl⟩ : ∃ wo : World, wo = wr := ⟨_, rfl⟩
      have HE := Lib.hid hE
      have HM := Lib.hid hM
      have HGB := Lib.hid hGB
      clear hE hM hGB
      by_cases hlt : k < n1
      · obtain ⟨b, off, rfl, hcell0⟩ := HC.out.1 k (by omega)
        obtain ⟨b2, off2, rfl, hcell20⟩ := HC.out.2.1 k (by omega)
        have hcell := HE.out.cell hcell0 (by simp)
        have hcell2 := HE.out.cell hcell20 (by simp)
        have hmay : mayB zs gs p k = (decide (0 ≤ zs.getD k 0) && decide (zs.getD k 0 < p)) := by
          unfold mayB
          rw [show decide (k < gs.length) = true from decide_eq_true (by rw [HC.out.2.2.2]; omega), Bool.and_true]
        obtain ⟨x, hx⟩ : ∃ z, zs.getD k 0 = z := ⟨_, rfl⟩
        obtain ⟨y, hy⟩ : ∃ z, gs.getD k 0 = z := ⟨_, rfl⟩
        rw [hx] at hcell hmay
        rw [hy] at hcell2
        have HX := Lib.hid (And.intro hx (And.intro hy hmay))
        clear hx hy hmay hcell0 hcell20
        by_cases g0 : 0 ≤ x
        · by_cases g1 : x < p
          · have g0' : ¬ x < 0 := by omega
            have g1' : ¬ p ≤ x := by omega
            have hm : mayB zs gs p k = true := by rw [HX.out.2.2]; simp [g0, g1]
            have hvb := valN_bd HP.out hm
            have hv0 : valN zs gs p k = (p - x) * clampN y 1048576 := by unfold valN; rw [HX.out.1, HX.out.2.1]
            have B := bounded_any y 1048576 (by decide)
            have hcb := clampN_bd (v := y) (m := 1048576) (by decide)
            rw [hv0] at hvb
            obtain ⟨c, hcc⟩ : ∃ z, clampN y 1048576 = z := ⟨_, rfl⟩
            rw [hcc] at B hcb hvb hv0
            obtain ⟨c0, c1⟩ := hcb
            obtain ⟨v0, v1⟩ := hvb
            obtain ⟨q, hq⟩ : ∃ z, (p - x) * c = z := ⟨_, rfl⟩
            rw [hq] at hv0 v0 v1
            have HV := Lib.hid (And.intro hv0 hm)
            have HQ := Lib.hid hq
            have hq0 : -9223372036854775808 ≤ (p - x) * c ∧ (p - x) * c ≤ 9223372036854775807 := by rw [hq]; omega
            obtain ⟨q0, q1⟩ := hq0
            clear hv0 hm hcc hq
            have hBn := Blk.new wo 29 #[.int .i64 0, .int .i64 0]
            have hGn := HGB.out.alloc (.cells #[.int .i64 0, .int .i64 0] 29)
            have hEn := g15_trans HE.out (World.grownBy_alloc wo (.cells #[.int .i64 0, .int .i64 0] 29) none)
            have hne : w.heap.size ≠ wo.heap.size := by have := HGB.out.lt; omega
            have hle : w.heap.size ≤ wo.heap.size := HE.out.size
            have HEN := Lib.hid (And.intro hBn (And.intro hGn (And.intro hEn (And.intro hne hle))))
            clear hBn hGn hEn hne hle
            rcases HM.out with ⟨hr, hnone⟩ | ⟨m, hr, hmk, hmm, ho, hu, hall, hfst⟩
            · subst hr
              have HF := Lib.hid HM.out.first
              clear hnone
              go_upto_region 12 with (first
                | (go_at_call 13; refine (B _).mono ?_; rintro e w' ⟨rfl, rfl⟩)
                | (refine frc_store (p := (p - x) * c) (q := p + x) _ _ rfl rfl rfl HEN.out.1 rfl rfl ?_; intro w2 hb2 hg2 hs2; have HG2 := Lib.hid (And.intro (g17_newV HEN.out.2.2.1 hg2 HEN.out.2.2.2.2) (HEN.out.2.1.kept hg2 (fun e => HEN.out.2.2.2.1 (by injection e)))); clear hg2 hs2)
                | (refine frc_load rfl _ rfl rfl hb2 ?_))
              have hS : Blk w2.drew wo.heap.size 29 (frcC ((p - x) * c) (p + x)) ∧ (∃ o' u', Blk w2.drew w.heap.size 29 (frcC o' u')) ∧ w.grownBy w2.drew none := ⟨hb2.drew, ⟨_, _, HG2.out.2.drew⟩, grown_drew HG2.out.1⟩
              refine region_line [(0, true), (1, true), (2, true), (3, false)] (fun x' => Blk x' wo.heap.size 29 (frcC ((p - x) * c) (p + x)) ∧ (∃ o' u', Blk x' w.heap.size 29 (frcC o' u')) ∧ w.grownBy x' none) (by kernel_rfl) (by kernel_rfl) (fun _ _ _ d _ h => by cases d <;> exact h) hS ?_
              repeat (refine line_read (a' := ?_) rfl (by kernel_rfl) (by kernel_rfl) hS (fun x' hx K hK => ?_) ?_; rotate_left; · obtain ⟨hx0, hx1, hx2⟩ := hx; go_wp2_with (refine frc_load rfl _ rfl rfl hx0 ?_); exact hK)
              refine line_act (by rfl) (fun K hK => ?_)
              obtain ⟨hS0, ⟨o', u', hS1⟩, hS2⟩ := id hS
              go_wp2_with (refine frc_store (p := (p - x) * c) (q := p + x) _ _ rfl rfl rfl hS1 rfl rfl ?_; intro w3 hb3 hg3 hs3)
              have HD := Lib.hid (And.intro hb3 (g17_newV hS2 hg3 (Nat.le_refl _)))
              have hF3 := hS0.kept hg3 (fun e => HEN.out.2.2.2.1 (by injection e with e; exact e.symm))
              clear hb3 hg3 hs3
              refine hK _ _ (fun x' => x' = w3) rfl (fun x' hx => by subst hx; exact ⟨hF3, ⟨_, _, HD.out.1⟩, HD.out.2⟩) ?_
              clear hK K
              refine line_end ?_
              go_wp2
              case roundEnd =>
                refine ⟨⟨k + 1, (k : Int), (p - x) * c, p + x, by omega, by go_num, rfl, HD.out.2, HD.out.1, ?_⟩, by simp [intOf]; omega⟩
                have h := HF.out HV.out.2
                rw [HV.out.1, HX.out.1] at h
                rw [HQ.out]
                exact h
            · have hu2 := may_pos HP.out hmm
              have hob := valN_bd HP.out hmm
              subst hr
              obtain ⟨ym, hym⟩ : ∃ z, zs.getD m 0 = z := ⟨_, rfl⟩
              rw [hym] at hu hu2
              rw [← ho] at hob
              rw [← hu] at hu2
              obtain ⟨o0, o1⟩ := hob
              obtain ⟨u0, u1, -, -⟩ := hu2
              have t1 : 0 ≤ (p - x) * c * u := by rw [HQ.out]; exact Int.mul_nonneg v0 (by omega)
              have t2 : (p - x) * c * u ≤ 16777216 * 32 := by rw [HQ.out]; exact Int.mul_le_mul v1 u1 (by omega) (by decide)
              have t3 : 0 ≤ o * (p + x) := Int.mul_nonneg o0 (by omega)
              have t4 : o * (p + x) ≤ 16777216 * 32 := Int.mul_le_mul o1 (by omega) (by omega) (by decide)
              have IM := fun wx => isMore_any ((p - x) * c) (p + x) o u wx (by omega) (by omega)
              have hmb : ((m : Int) == -1) = false := by simp
              clear hmm ho hu hall hfst hym t1 t2 t3 t4
              by_cases hbt : o * (p + x) < (p - x) * c * u
              · have HT := Lib.hid hbt
                go_upto_region 12 with (first
                  | (go_at_call 13; refine (B _).mono ?_; rintro e w' ⟨rfl, rfl⟩)
                  | (refine frc_store (p := (p - x) * c) (q := p + x) _ _ rfl rfl rfl HEN.out.1 rfl rfl ?_; intro w1 hb1 hg1 hs1; have HG1 := Lib.hid (And.intro (g17_newV HEN.out.2.2.1 hg1 HEN.out.2.2.2.2) (HEN.out.2.1.kept hg1 (fun e => HEN.out.2.2.2.1 (by injection e)))); have hc1 := HG1.out.2; clear hg1 hs1)
                  | (refine frc_load rfl _ rfl rfl hb1 ?_)
                  | (refine frc_load rfl _ rfl rfl hc1 ?_)
                  | (go_at_call 14; refine (IM _).mono ?_; rintro e w2 ⟨rfl, hg2⟩; have hb2 := hb1.ext hg2; have HG2 := Lib.hid (And.intro (g15_trans HG1.out.1 hg2) (hc1.ext hg2)); clear hg2 hb1 hc1))
                have hS : Blk w2.drew wo.heap.size 29 (frcC ((p - x) * c) (p + x)) ∧ (∃ o' u', Blk w2.drew w.heap.size 29 (frcC o' u')) ∧ w.grownBy w2.drew none := ⟨hb2.drew, ⟨_, _, HG2.out.2.drew⟩, grown_drew HG2.out.1⟩
                refine region_line [(0, true), (1, true), (2, true), (3, false)] (fun x' => Blk x' wo.heap.size 29 (frcC ((p - x) * c) (p + x)) ∧ (∃ o' u', Blk x' w.heap.size 29 (frcC o' u')) ∧ w.grownBy x' none) (by kernel_rfl) (by kernel_rfl) (fun _ _ _ d _ h => by cases d <;> exact h) hS ?_
                repeat (refine line_read (a' := ?_) rfl (by kernel_rfl) (by kernel_rfl) hS (fun x' hx K hK => ?_) ?_; rotate_left; · obtain ⟨hx0, hx1, hx2⟩ := hx; go_wp2_with (refine frc_load rfl _ rfl rfl hx0 ?_); exact hK)
                refine line_act (by rfl) (fun K hK => ?_)
                obtain ⟨hS0, ⟨o', u', hS1⟩, hS2⟩ := id hS
                go_wp2_with (refine frc_store (p := (p - x) * c) (q := p + x) _ _ rfl rfl rfl hS1 rfl rfl ?_; intro w3 hb3 hg3 hs3)
                have HD := Lib.hid (And.intro hb3 (g17_newV hS2 hg3 (Nat.le_refl _)))
                have hF3 := hS0.kept hg3 (fun e => HEN.out.2.2.2.1 (by injection e with e; exact e.symm))
                clear hb3 hg3 hs3
                refine hK _ _ (fun x' => x' = w3) rfl (fun x' hx => by subst hx; exact ⟨hF3, ⟨_, _, HD.out.1⟩, HD.out.2⟩) ?_
                clear hK K
                refine line_end ?_
                go_wp2
                case roundEnd =>
                  refine ⟨⟨k + 1, (k : Int), (p - x) * c, p + x, by omega, by go_num, rfl, HD.out.2, HD.out.1, ?_⟩, by simp [intOf]; omega⟩
                  have h := HM.out.take HP.out HV.out.2 (by rw [HV.out.1, HX.out.1, ← HQ.out]; exact HT.out)
                  rw [HV.out.1, HX.out.1] at h
                  rw [HQ.out]
                  exact h
              · have HT := Lib.hid hbt
                go_wp2_with (first
                  | (go_at_call 13; refine (B _).mono ?_; rintro e w' ⟨rfl, rfl⟩)
                  | (refine frc_store (p := (p - x) * c) (q := p + x) _ _ rfl rfl rfl HEN.out.1 rfl rfl ?_; intro w1 hb1 hg1 hs1; have HG1 := Lib.hid (And.intro (g17_newV HEN.out.2.2.1 hg1 HEN.out.2.2.2.2) (HEN.out.2.1.kept hg1 (fun e => HEN.out.2.2.2.1 (by injection e)))); have hc1 := HG1.out.2; clear hg1 hs1)
                  | (refine frc_load rfl _ rfl rfl hb1 ?_)
                  | (refine frc_load rfl _ rfl rfl hc1 ?_)
                  | (go_at_call 14; refine (IM _).mono ?_; rintro e w2 ⟨rfl, hg2⟩; have HG2 := Lib.hid (And.intro (g15_trans HG1.out.1 hg2) (hc1.ext hg2)); clear hg2))
                go_roundw
                case rel =>
                  refine ⟨k + 1, (m : Int), o, u, by omega, by go_num, rfl, HG2.out.1, HG2.out.2, ?_⟩
                  refine HM.out.leave ?_
                  rw [HV.out.1, HX.out.1, ← HQ.out]
                  exact Int.not_lt.2 HT.out
                case measure => simp [intOf]; omega
          · have g1' : p ≤ x := by omega
            have hm : mayB zs gs p k = false := by rw [HX.out.2.2]; simp [g1]
            have HN := Lib.hid (HM.out.skip hm)
            clear hm
            have g0' : ¬ x < 0 := by omega
            go_wp2
            go_roundw
            case rel => exact ⟨k + 1, r, o, u, by omega, by go_num, rfl, HE.out, HGB.out, HN.out⟩
            case measure => simp [intOf]; omega
        · have g0' : x < 0 := by omega
          have hm : mayB zs gs p k = false := by rw [HX.out.2.2]; simp [g0]
          have HN := Lib.hid (HM.out.skip hm)
          clear hm
          go_wp2
          go_roundw
          case rel => exact ⟨k + 1, r, o, u, by omega, by go_num, rfl, HE.out, HGB.out, HN.out⟩
          case measure => simp [intOf]; omega
      · obtain rfl : k = n1 := by omega
        have HB := Lib.hid (HM.out.ben HP.out (by rw [HC.out.2.2.1, HC.out.2.2.2]; omega))
        go_wp2
        go_ret
        exact ⟨⟨r, HB.out, rfl⟩, HE.out⟩

theorem vicBenefit_any : VicB := by
  intro v u zs gs p w hv hu hl hl2
  by_cases hp : 2 ≤ p ∧ p ≤ 16
  · exact vicBenefit_in v u zs gs p w hv hu hl hl2 hp
  · have HP := Lib.hid hp
    by_cases h0 : p < 2
    · clear hp hv hu
      go_enter Try.func9, Try.ntmps9
      go_wp2
      go_ret
      exact ⟨⟨-1, .inl ⟨HP.out, rfl⟩, rfl⟩, g15_refl _⟩
    · have h1 : 16 < p := by omega
      clear hp hv hu
      go_enter Try.func9, Try.ntmps9
      go_wp2
      go_ret
      exact ⟨⟨-1, .inl ⟨HP.out, rfl⟩, rfl⟩, g15_refl _⟩

/-! ### fixed -/
theorem ints_lit15 {x : World} {g : Nat} {T : TypeId} (zs : List Int) (h : x.heap[g]? = some (.cells (zs.map (Value.int .i64)).toArray T (0, 0))) : Ints x (.slice (some ⟨g, 0, none⟩) zs.length zs.length) zs := by
  refine .inr (.inl ⟨g, 0, _, rfl, Nat.le_refl _, fun i hi => ?_⟩)
  rw [Nat.zero_add, cell_of_row x g i _ T (0, 0) h]
  simp [hi, List.getD_eq_getElem?_getD]
theorem greedy_lit : GreedyP [3, -1, 1, 1] 2 := .inr ⟨2, rfl, by decide, by decide, by decide, by decide⟩
theorem greedy_nil : GreedyP [] (-1) := .inl ⟨rfl, fun j hj => by simp at hj⟩
theorem spr_lit : SprP [3, 8, 5] 5 := ⟨by decide, by decide, .inr ⟨1, 0, by decide, by decide, by decide⟩⟩
theorem ben_lit : BenP [3, 1] [100, 1] 4 0 := .inr ⟨by decide, .inr ⟨0, rfl, by decide, ⟨by decide, by decide⟩, fun j hj => by omega⟩⟩

set_option maxHeartbeats 800000 in
theorem fix15_any : Fix15 := by
  intro w
  have G1 := fun (x : World) (g : Nat) (h : x.heap[g]? = some (.cells #[.int .i64 3, .int .i64 (-1), .int .i64 1, .int .i64 1] 3 (0, 0))) => (show Calls Try.prog 7 #[.slice (some ⟨g, 0, none⟩) 4 4] x fun e w' => e = .returned (.int .i64 2) ∧ x.grownBy w' none from by
    obtain ⟨s, hs, hC⟩ := vicGreedy_any _ [3, -1, 1, 1] x (ints_lit15 [3, -1, 1, 1] h) (by decide)
    rw [hs.eq greedy_lit] at hC
    exact hC)
  have G0 := fun (x : World) => (show Calls Try.prog 7 #[.slice none 0 0] x fun e w' => e = .returned (.int .i64 (-1)) ∧ x.grownBy w' none from by
    obtain ⟨s, hs, hC⟩ := vicGreedy_any _ [] x (.inl ⟨rfl, rfl⟩) (by decide)
    rw [hs.eq greedy_nil] at hC
    exact hC)
  have B1 := fun (x : World) (g k : Nat) (h : x.heap[g]? = some (.cells #[.int .i64 3, .int .i64 1] 3 (0, 0))) (h2 : x.heap[k]? = some (.cells #[.int .i64 100, .int .i64 1] 3 (0, 0))) => (vicBenefit_any _ _ [3, 1] [100, 1] 4 x (ints_lit15 [3, 1] h) (ints_lit15 [100, 1] h2) (by decide) (by decide)).mono (fun e w' (hh : (∃ r, BenP [3, 1] [100, 1] 4 r ∧ e = .returned (.int .i64 r)) ∧ x.grownBy w' none) => (show e = .returned (.int .i64 0) ∧ x.grownBy w' none from by
    obtain ⟨⟨r, hr, rfl⟩, hg⟩ := hh
    rw [hr.eq ben_lit]
    exact ⟨rfl, hg⟩))
  have S1 := fun (x : World) (g : Nat) (h : x.heap[g]? = some (.cells #[.int .i64 3, .int .i64 8, .int .i64 5] 3 (0, 0))) => (vicSpread_any _ [3, 8, 5] x (ints_lit15 [3, 8, 5] h) (by decide)).mono (fun e w' (hh : (∃ r, SprP [3, 8, 5] r ∧ e = .returned (.int .i64 r)) ∧ x.grownBy w' none) => (show e = .returned (.int .i64 5) ∧ x.grownBy w' none from by
    obtain ⟨⟨r, hr, rfl⟩, hg⟩ := hh
    rw [hr.eq spr_lit]
    exact ⟨rfl, hg⟩))
  go_enter Try.func6, Try.ntmps6
  go_wp2_with (first
    | (go_at_call 11; refine (S1 _ w3.heap.size (Blk.new w3 _ _)).mono ?_; rintro e w4 ⟨rfl, hg4⟩)
    | (go_at_call 9; refine (B1 _ w2.heap.size (w2.heap.size + 1) ((Blk.new w2 _ _).alloc _) (Blk.newAt _ _ (by simp) _ _)).mono ?_; rintro e w3 ⟨rfl, hg3⟩)
    | (go_at_call 7; refine (G0 w1).mono ?_; rintro e w2 ⟨rfl, hg2⟩)
    | (go_at_call 7; refine (G1 _ w.heap.size (Blk.new w _ _)).mono ?_; rintro e w1 ⟨rfl, hg1⟩))
  go_ret
  refine ⟨rfl, ?_⟩
  exact g15_trans (g15_trans (g15_trans (g15_trans (World.grownBy_alloc w _ none) hg1) hg2) (g15_trans (g15_trans (World.grownBy_alloc w2 _ none) (World.grownBy_alloc _ _ none)) hg3)) (g15_trans (World.grownBy_alloc w3 _ none) hg4)

end Go.Proofs.Ytnfhibigidkhkaa
