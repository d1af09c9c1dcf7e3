/-
  The law DrawsTell: the walk.
-/
import Derived.Test.YtdfcfjncflfppaaDF
namespace Go.Proofs.Ytdfcfjncflfppaa
open Go.RowKit

set_option maxRecDepth 100000 in
set_option maxHeartbeats 4000000 in
theorem drawsTell_few (U : Nat → Value) (zs : Nat → List Int) (v : Value) (ws : List Int) (w : World) (hF : Four w U zs) (hI : Ints w v ws) (hm : ws.length ≤ 300) :
    Calls Try.prog 10 #[.agg #[U 0, U 1, U 2, U 3], v] w (TrueExt w) := by
  have HF := Lib.hid hF
  have shape : ∀ j, j < 4 → ∃ ao cap, U j = .slice ao (zs j).length cap := fun j hj => by
    obtain ⟨ao, cap, _, _, h, _⟩ := (hF.ints j hj).form
    exact ⟨ao, cap, h⟩
  obtain ⟨a0, c0, h0⟩ := shape 0 (by omega)
  obtain ⟨a1, c1, h1⟩ := shape 1 (by omega)
  obtain ⟨a2, c2, h2⟩ := shape 2 (by omega)
  obtain ⟨a3, c3, h3⟩ := shape 3 (by omega)
  have NB := fun (hb : newE zs ≠ 0) w' (hE : Ext w w') => new_bad U zs w' (hF.kept hE) hb
  have NO := fun (hb : newE zs = 0) w' (hE : Ext w w') => new_ok U zs w' (hF.kept hE) hb
  have CK := fun w' (hE : Ext w w') => check5_any U zs w' (hF.kept hE)
  have HU := Lib.hid (And.intro h0 (And.intro h1 (And.intro h2 h3)))
  rw [h0, h1, h2, h3] at NB NO CK ⊢
  have HI := Lib.hid hI
  obtain ⟨wo, wc, wb, wf, rfl, hwc⟩ := hI.form
  have HWC := Lib.hid hwc
  have hml : ¬ (300 : Int) < ws.length := by omega
  clear shape h0 h1 h2 h3 hF hI hwc
  have hg0 : Ext w (w.alloc (.cells #[.slice a0 (zs 0).length c0, .slice a1 (zs 1).length c1, .slice a2 (zs 2).length c2, .slice a3 (zs 3).length c3] 66)) := World.grownBy_alloc w (.cells #[.slice a0 (zs 0).length c0, .slice a1 (zs 1).length c1, .slice a2 (zs 2).length c2, .slice a3 (zs 3).length c3] 66) none
  have b0 : (w.alloc (.cells #[.slice a0 (zs 0).length c0, .slice a1 (zs 1).length c1, .slice a2 (zs 2).length c2, .slice a3 (zs 3).length c3] 66)).cell? ⟨w.heap.size, 0, none⟩ = some (.slice a0 (zs 0).length c0) := by simp
  have b1 : (w.alloc (.cells #[.slice a0 (zs 0).length c0, .slice a1 (zs 1).length c1, .slice a2 (zs 2).length c2, .slice a3 (zs 3).length c3] 66)).cell? ⟨w.heap.size, 1, none⟩ = some (.slice a1 (zs 1).length c1) := by simp
  have b2 : (w.alloc (.cells #[.slice a0 (zs 0).length c0, .slice a1 (zs 1).length c1, .slice a2 (zs 2).length c2, .slice a3 (zs 3).length c3] 66)).cell? ⟨w.heap.size, 2, none⟩ = some (.slice a2 (zs 2).length c2) := by simp
  have b3 : (w.alloc (.cells #[.slice a0 (zs 0).length c0, .slice a1 (zs 1).length c1, .slice a2 (zs 2).length c2, .slice a3 (zs 3).length c3] 66)).cell? ⟨w.heap.size, 3, none⟩ = some (.slice a3 (zs 3).length c3) := by simp
  have i0 : ∀ w, (Instr.index 66 (.agg #[.slice a0 (zs 0).length c0, .slice a1 (zs 1).length c1, .slice a2 (zs 2).length c2, .slice a3 (zs 3).length c3]) (.int .i64 0)).run Try.prog w = .ok (.slice a0 (zs 0).length c0) w := fun _ => by kernel_rfl
  have i1 : ∀ w, (Instr.index 66 (.agg #[.slice a0 (zs 0).length c0, .slice a1 (zs 1).length c1, .slice a2 (zs 2).length c2, .slice a3 (zs 3).length c3]) (.int .i64 1)).run Try.prog w = .ok (.slice a1 (zs 1).length c1) w := fun _ => by kernel_rfl
  have i2 : ∀ w, (Instr.index 66 (.agg #[.slice a0 (zs 0).length c0, .slice a1 (zs 1).length c1, .slice a2 (zs 2).length c2, .slice a3 (zs 3).length c3]) (.int .i64 2)).run Try.prog w = .ok (.slice a2 (zs 2).length c2) w := fun _ => by kernel_rfl
  have i3 : ∀ w, (Instr.index 66 (.agg #[.slice a0 (zs 0).length c0, .slice a1 (zs 1).length c1, .slice a2 (zs 2).length c2, .slice a3 (zs 3).length c3]) (.int .i64 3)).run Try.prog w = .ok (.slice a3 (zs 3).length c3) w := fun _ => by kernel_rfl
  have hbB : ∀ x, Ext (w.alloc (.cells #[.slice a0 (zs 0).length c0, .slice a1 (zs 1).length c1, .slice a2 (zs 2).length c2, .slice a3 (zs 3).length c3] 66)) x → (x.cell? ⟨w.heap.size, 0, none⟩ = some (.slice a0 (zs 0).length c0) ∧ x.cell? ⟨w.heap.size, 1, none⟩ = some (.slice a1 (zs 1).length c1) ∧ x.cell? ⟨w.heap.size, 2, none⟩ = some (.slice a2 (zs 2).length c2) ∧ x.cell? ⟨w.heap.size, 3, none⟩ = some (.slice a3 (zs 3).length c3)) :=
    fun x hx => ⟨hx.cell b0 (by simp), hx.cell b1 (by simp), hx.cell b2 (by simp), hx.cell b3 (by simp)⟩
  have HB := Lib.hid hbB
  clear hbB b0 b1 b2 b3
  go_enter Try.func10, Try.ntmps10
  go_wp2_with (go_at_call 42; refine (fixed5_any _).mono ?_; rintro e w1 ⟨rfl, hE1⟩; obtain ⟨q0, q1, q2, q3⟩ := HB.out _ hE1)
  clear q0 q1 q2 q3
  go_loopw [20] (fun i wr => ∃ k : Nat, k ≤ 4 ∧ i = .int .i64 k ∧ w1 = wr) (fun i _ => 4 - (intOf i).toNat)
  case atStart => exact ⟨0, by omega, rfl, rfl⟩
  case round =>
    obtain ⟨k, hk, rfl, rfl⟩ := hrel
    by_cases hlt : k < 4
    · have h4 : k = 0 ∨ k = 1 ∨ k = 2 ∨ k = 3 := by omega
      rcases h4 with rfl | rfl | rfl | rfl
      · by_cases hbig : (100 : Int) < ((zs 0).length : Int)
        · go_wp2
          go_ret
          exact ⟨rfl, ext_trans5 hg0 hE1⟩
        · go_wp2
          go_roundw
          case rel => exact ⟨1, by omega, by go_num, trivial⟩
          case measure => simp [intOf]
      · by_cases hbig : (100 : Int) < ((zs 1).length : Int)
        · go_wp2
          go_ret
          exact ⟨rfl, ext_trans5 hg0 hE1⟩
        · go_wp2
          go_roundw
          case rel => exact ⟨2, by omega, by go_num, trivial⟩
          case measure => simp [intOf]
      · by_cases hbig : (100 : Int) < ((zs 2).length : Int)
        · go_wp2
          go_ret
          exact ⟨rfl, ext_trans5 hg0 hE1⟩
        · go_wp2
          go_roundw
          case rel => exact ⟨3, by omega, by go_num, trivial⟩
          case measure => simp [intOf]
      · by_cases hbig : (100 : Int) < ((zs 3).length : Int)
        · go_wp2
          go_ret
          exact ⟨rfl, ext_trans5 hg0 hE1⟩
        · go_wp2
          go_roundw
          case rel => exact ⟨4, by omega, by go_num, trivial⟩
          case measure => simp [intOf]
    · have hkn : ¬ ((k : Int) < 4) := by omega
      clear hlt hk
      have hE01 := ext_trans5 hg0 hE1
      obtain ⟨q0, q1, q2, q3⟩ := HB.out _ hE1
      by_cases hne : newE zs = 0
      · have NO := NO hne
        rw [hne] at CK
        clear NB hne
        go_wp2_with (first
          | (go_at_call 43; refine (NO _ hE01).mono ?_; rintro e w2 ⟨pb, V, rfl, hD2, hg2, hpb, hVb⟩; have hE2 := ext_trans5 hE01 hg2; have hE12 := ext_trans5 hE1 hg2; obtain ⟨r0, r1, r2, r3⟩ := HB.out _ hE12)
          | (go_at_call 44; refine (CK _ hE2).mono ?_; rintro e w3 ⟨rfl, hg3⟩; have hE3 := ext_trans5 hE2 hg3; have hE13 := ext_trans5 hE12 hg3; obtain ⟨s0, s1, s2, s3⟩ := HB.out _ hE13))
        have hg4 := World.grownBy_alloc w3 (.cells #[.slice a0 (zs 0).length c0, .slice a1 (zs 1).length c1, .slice a2 (zs 2).length c2, .slice a3 (zs 3).length c3, .int .i64 0, .int .i64 0, .int .i64 0, .int .i64 0, .int .i64 0, .int .i64 0, .int .i64 0, .int .i64 0] 75) none
        have hD3 := (hD2.other hg3 (by simp) (fun _ _ _ _ => by simp)).other hg4 (by simp) (fun _ _ _ _ => by simp)
        have hE4 := ext_trans5 hE3 hg4
        have hR3 : DrAt (w3.alloc (.cells #[.slice a0 (zs 0).length c0, .slice a1 (zs 1).length c1, .slice a2 (zs 2).length c2, .slice a3 (zs 3).length c3, .int .i64 0, .int .i64 0, .int .i64 0, .int .i64 0, .int .i64 0, .int .i64 0, .int .i64 0, .int .i64 0] 75)) w3.heap.size U zs (fun _ => 0) (fun _ => 0) := by
          refine ⟨fun j hj => ?_, fun j hj => ?_, fun j hj => ?_, fun o => by simp, (HF.out.kept hE4).ints, fun j hj k hk => by have := HF.out.low j hj k hk; have := hE3.size; omega⟩
          all_goals
            have e : j = 0 ∨ j = 1 ∨ j = 2 ∨ j = 3 := by omega
            rcases e with rfl | rfl | rfl | rfl <;> simp [HU.out.1, HU.out.2.1, HU.out.2.2.1, HU.out.2.2.2]
        have hpr : pb < w3.heap.size := Nat.lt_of_lt_of_le hD2.lt hg3.size
        have hpw : w.heap.size ≤ pb := Nat.le_trans hE01.size hpb
        have HVB := Lib.hid (fun j hj k hk => Nat.lt_of_lt_of_le (hVb j hj k hk).2 hg3.size : ∀ j, j < 4 → ∀ k, (V j).ownBlock = some k → k < w3.heap.size)
        obtain ⟨w4, hw4⟩ : ∃ x, w3.alloc (.cells #[.slice a0 (zs 0).length c0, .slice a1 (zs 1).length c1, .slice a2 (zs 2).length c2, .slice a3 (zs 3).length c3, .int .i64 0, .int .i64 0, .int .i64 0, .int .i64 0, .int .i64 0, .int .i64 0, .int .i64 0, .int .i64 0] 75) = x := ⟨_, rfl⟩
        obtain ⟨rb, hrb⟩ : ∃ r, w3.heap.size = r := ⟨_, rfl⟩
        rw [hw4] at hD3 hR3 hE4 ⊢
        rw [hrb] at hR3 hpr HVB ⊢
        clear hw4 hrb hD2 hVb hg4 hE3 hE2 hg3 hg2 hE1 hE12 hE13 NO CK q0 q1 q2 q3 r0 r1 r2 r3 s0 s1 s2 s3 hpb
        go_loopw [61] (fun i wr => ∃ m : Nat, m ≤ ws.length ∧ i = .int .i64 m ∧ ∃ N M, DrAt wr pb V zs N M ∧ DrAt wr rb U zs N M ∧ (∀ j, j < 4 → 0 ≤ N j ∧ N j ≤ m ∧ 0 ≤ M j ∧ M j ≤ m) ∧ Ext w wr) (fun i _ => ws.length - (intOf i).toNat)
        case atStart => exact ⟨0, by omega, rfl, _, _, hD3, hR3, fun j hj => by simp, hE4⟩
        case round =>
          clear hD3 hR3 hE4
          obtain ⟨m, hmm, rfl, N, M, hP, hR, hbd, hEr⟩ := hrel
          by_cases hmt : m < ws.length
          · obtain ⟨rfl, hcell⟩ := HWC.out m hmt
            have hcell2 : wr.cell? ⟨wb, wf + m, none⟩ = some (.int .i64 (ws.getD m 0)) := hEr.cell hcell (by simp)
            obtain ⟨x, hx⟩ : ∃ x, ws.getD m 0 = x := ⟨_, rfl⟩
            rw [hx] at hcell2
            clear hcell hx
            by_cases hin : 0 ≤ x ∧ x < 4
            · obtain ⟨j, rfl⟩ := Int.eq_ofNat_of_zero_le hin.1
              have hj : j < 4 := by omega
              have hb := hbd j hj
              have A := next_is pb j V zs N M wr hP hj (by omega) (by omega) (by omega) (by omega) (HF.out.len j hj)
              have BB := fun w' (hw : wr.grownBy w' (some pb)) => refNext_is rb j U zs N M w' (hR.other hw (by simp; omega) (fun i hi k hk => by have := HF.out.low i hi k hk; simp; omega)) hj (by omega) (by omega) (by omega) (by omega) (HF.out.len j hj)
              unfold Nexts at A
              unfold NextsD at BB
              have HBD := Lib.hid hbd
              have HJ := Lib.hid hj
              generalize hitB zs N j = hit at *
              obtain ⟨N', hN'⟩ : ∃ N', upd N j (N j + 1) = N' := ⟨_, rfl⟩
              obtain ⟨M', hM'⟩ : ∃ M', nextM zs N M j = M' := ⟨_, rfl⟩
              have HN' := Lib.hid hN'
              have HM' := Lib.hid hM'
              rw [hN', hM'] at A BB
              clear hbd hb hin hN' hM' hj
              go_wp2_with (first
                | (go_at_call 45; refine A.mono ?_; rintro e w5 ⟨rfl, hP5, hg5⟩)
                | (go_at_call 48; refine (BB _ hg5).mono ?_; rintro e w6 ⟨rfl, hR6, hg6⟩))
              go_roundw
              case rel =>
                refine ⟨m + 1, by omega, by go_num, N', M', hP5.other hg6 (by simp; omega) (fun i hi k hk => by have := HVB.out i hi k hk; simp; omega), hR6, fun i hi => ?_, grown_own (grown_own hEr hg5 (by omega)) hg6 (by omega)⟩
                have := HBD.out i hi
                rw [← HN'.out, ← HM'.out]
                unfold upd nextM
                constructor
                · split
                  · rename_i e; subst e; omega
                  · omega
                constructor
                · split
                  · rename_i e; subst e; omega
                  · omega
                constructor
                · unfold upd; split
                  · rename_i e; subst e; split <;> omega
                  · omega
                · unfold upd; split
                  · rename_i e; subst e; split <;> omega
                  · omega
              case measure => simp [intOf]; omega
            · have A := next_none (some ⟨pb, 0, none⟩) x wr (.inr ⟨⟨pb, rfl⟩, hin⟩)
              have BB := refNext_none rb x wr hin
              have HBD := Lib.hid hbd
              clear hbd hin
              go_wp2_with (first
                | (go_at_call 45; refine A.mono ?_; rintro e w5 ⟨rfl, rfl⟩)
                | (go_at_call 48; refine BB.mono ?_; rintro e w6 ⟨rfl, rfl⟩))
              go_roundw
              case rel => exact ⟨m + 1, by omega, by go_num, N, M, hP, hR, fun i hi => by have := HBD.out i hi; omega, hEr⟩
              case measure => simp [intOf]; omega
          · have hmn : ¬ (m : Int) < (ws.length : Int) := by omega
            clear hmt hbd
            go_wp2
            go_loopw [73] (fun i wr => ∃ q : Nat, q ≤ 4 ∧ i = .int .i64 q ∧ (DrAt wr pb V zs N M ∧ DrAt wr rb U zs N M) ∧ Ext w wr) (fun i _ => 4 - (intOf i).toNat)
            case atStart => exact ⟨0, by omega, rfl, ⟨hP, hR⟩, hEr⟩
            case round =>
              clear hP hR hEr
              obtain ⟨q, hq, rfl, hS, hEq⟩ := hrel
              by_cases hlt : q < 4
              · have h4 : q = 0 ∨ q = 1 ∨ q = 2 ∨ q = 3 := by omega
                rcases h4 with rfl | rfl | rfl | rfl
                · obtain ⟨nx, hnx⟩ : ∃ x, N 0 = x := ⟨_, rfl⟩
                  obtain ⟨mx, hmx⟩ : ∃ x, M 0 = x := ⟨_, rfl⟩
                  have HN := Lib.hid hnx
                  have HM := Lib.hid hmx
                  have OO := ops_is pb 0 V zs N M _ hS.1.drew (by omega)
                  have FF := faults_is pb 0 V zs N M _ hS.1.drew (by omega)
                  rw [hnx] at OO
                  rw [hmx] at FF
                  have hSd : DrAt wr.drew pb V zs N M ∧ DrAt wr.drew rb U zs N M := ⟨hS.1.drew, hS.2.drew⟩
                  have HSD := Lib.hid hSd
                  clear hnx hmx
                  go_wp2
                  refine region_line [(0, true), (1, true), (3, true), (4, true), (5, true), (6, true), (7, true), (8, true), (2, false), (9, true), (10, true), (11, true), (12, true), (14, true), (15, true), (16, true), (17, true), (18, true), (19, true), (13, false), (20, true), (21, true)] (fun x => DrAt x pb V zs N M ∧ DrAt x rb U zs N M) (by kernel_rfl) (by kernel_rfl) (fun _ _ _ d _ h => by cases d <;> exact ⟨h.1, h.2⟩) hSd ?_
                  repeat (refine line_read (a' := ?_) rfl (by kernel_rfl) (by kernel_rfl) hSd (fun v hv K hK => ?_) ?_; rotate_left; · have c4 := hv.2.ops 0 (by omega); have c8 := hv.2.bad 0 (by omega); simp only [Nat.reduceAdd] at c4 c8; rw [HN.out] at c4; rw [HM.out] at c8; go_wp2; exact hK)
                  refine line_act (by rfl) (fun K hK => ?_)
                  go_wp2_with (go_at_call 46; refine OO.mono ?_; rintro e w' ⟨rfl, rfl⟩)
                  refine hK _ _ (fun x => DrAt x pb V zs N M ∧ DrAt x rb U zs N M) hSd (fun v hv => hv) ?_
                  clear hK K
                  repeat (refine line_read (a' := ?_) rfl (by kernel_rfl) (by kernel_rfl) hSd (fun v hv K hK => ?_) ?_; rotate_left; · have c4 := hv.2.ops 0 (by omega); have c8 := hv.2.bad 0 (by omega); simp only [Nat.reduceAdd] at c4 c8; rw [HN.out] at c4; rw [HM.out] at c8; go_wp2; exact hK)
                  refine line_act (by rfl) (fun K hK => ?_)
                  go_wp2_with (go_at_call 47; refine FF.mono ?_; rintro e w' ⟨rfl, rfl⟩)
                  refine hK _ _ (fun x => DrAt x pb V zs N M ∧ DrAt x rb U zs N M) hSd (fun v hv => hv) ?_
                  clear hK K
                  repeat (refine line_read (a' := ?_) rfl (by kernel_rfl) (by kernel_rfl) hSd (fun v hv K hK => ?_) ?_; rotate_left; · have c4 := hv.2.ops 0 (by omega); have c8 := hv.2.bad 0 (by omega); simp only [Nat.reduceAdd] at c4 c8; rw [HN.out] at c4; rw [HM.out] at c8; go_wp2; exact hK)
                  refine line_end ?_
                  go_wp2
                  go_roundw
                  case rel => exact ⟨1, by omega, by go_num, HSD.out, ext_trans5 hEq (Ext.drew wr)⟩
                  case measure => simp [intOf]
                · obtain ⟨nx, hnx⟩ : ∃ x, N 1 = x := ⟨_, rfl⟩
                  obtain ⟨mx, hmx⟩ : ∃ x, M 1 = x := ⟨_, rfl⟩
                  have HN := Lib.hid hnx
                  have HM := Lib.hid hmx
                  have OO := ops_is pb 1 V zs N M _ hS.1.drew (by omega)
                  have FF := faults_is pb 1 V zs N M _ hS.1.drew (by omega)
                  rw [hnx] at OO
                  rw [hmx] at FF
                  have hSd : DrAt wr.drew pb V zs N M ∧ DrAt wr.drew rb U zs N M := ⟨hS.1.drew, hS.2.drew⟩
                  have HSD := Lib.hid hSd
                  clear hnx hmx
                  go_wp2
                  refine region_line [(0, true), (1, true), (3, true), (4, true), (5, true), (6, true), (7, true), (8, true), (2, false), (9, true), (10, true), (11, true), (12, true), (14, true), (15, true), (16, true), (17, true), (18, true), (19, true), (13, false), (20, true), (21, true)] (fun x => DrAt x pb V zs N M ∧ DrAt x rb U zs N M) (by kernel_rfl) (by kernel_rfl) (fun _ _ _ d _ h => by cases d <;> exact ⟨h.1, h.2⟩) hSd ?_
                  repeat (refine line_read (a' := ?_) rfl (by kernel_rfl) (by kernel_rfl) hSd (fun v hv K hK => ?_) ?_; rotate_left; · have c4 := hv.2.ops 1 (by omega); have c8 := hv.2.bad 1 (by omega); simp only [Nat.reduceAdd] at c4 c8; rw [HN.out] at c4; rw [HM.out] at c8; go_wp2; exact hK)
                  refine line_act (by rfl) (fun K hK => ?_)
                  go_wp2_with (go_at_call 46; refine OO.mono ?_; rintro e w' ⟨rfl, rfl⟩)
                  refine hK _ _ (fun x => DrAt x pb V zs N M ∧ DrAt x rb U zs N M) hSd (fun v hv => hv) ?_
                  clear hK K
                  repeat (refine line_read (a' := ?_) rfl (by kernel_rfl) (by kernel_rfl) hSd (fun v hv K hK => ?_) ?_; rotate_left; · have c4 := hv.2.ops 1 (by omega); have c8 := hv.2.bad 1 (by omega); simp only [Nat.reduceAdd] at c4 c8; rw [HN.out] at c4; rw [HM.out] at c8; go_wp2; exact hK)
                  refine line_act (by rfl) (fun K hK => ?_)
                  go_wp2_with (go_at_call 47; refine FF.mono ?_; rintro e w' ⟨rfl, rfl⟩)
                  refine hK _ _ (fun x => DrAt x pb V zs N M ∧ DrAt x rb U zs N M) hSd (fun v hv => hv) ?_
                  clear hK K
                  repeat (refine line_read (a' := ?_) rfl (by kernel_rfl) (by kernel_rfl) hSd (fun v hv K hK => ?_) ?_; rotate_left; · have c4 := hv.2.ops 1 (by omega); have c8 := hv.2.bad 1 (by omega); simp only [Nat.reduceAdd] at c4 c8; rw [HN.out] at c4; rw [HM.out] at c8; go_wp2; exact hK)
                  refine line_end ?_
                  go_wp2
                  go_roundw
                  case rel => exact ⟨2, by omega, by go_num, HSD.out, ext_trans5 hEq (Ext.drew wr)⟩
                  case measure => simp [intOf]
                · obtain ⟨nx, hnx⟩ : ∃ x, N 2 = x := ⟨_, rfl⟩
                  obtain ⟨mx, hmx⟩ : ∃ x, M 2 = x := ⟨_, rfl⟩
                  have HN := Lib.hid hnx
                  have HM := Lib.hid hmx
                  have OO := ops_is pb 2 V zs N M _ hS.1.drew (by omega)
                  have FF := faults_is pb 2 V zs N M _ hS.1.drew (by omega)
                  rw [hnx] at OO
                  rw [hmx] at FF
                  have hSd : DrAt wr.drew pb V zs N M ∧ DrAt wr.drew rb U zs N M := ⟨hS.1.drew, hS.2.drew⟩
                  have HSD := Lib.hid hSd
                  clear hnx hmx
                  go_wp2
                  refine region_line [(0, true), (1, true), (3, true), (4, true), (5, true), (6, true), (7, true), (8, true), (2, false), (9, true), (10, true), (11, true), (12, true), (14, true), (15, true), (16, true), (17, true), (18, true), (19, true), (13, false), (20, true), (21, true)] (fun x => DrAt x pb V zs N M ∧ DrAt x rb U zs N M) (by kernel_rfl) (by kernel_rfl) (fun _ _ _ d _ h => by cases d <;> exact ⟨h.1, h.2⟩) hSd ?_
                  repeat (refine line_read (a' := ?_) rfl (by kernel_rfl) (by kernel_rfl) hSd (fun v hv K hK => ?_) ?_; rotate_left; · have c4 := hv.2.ops 2 (by omega); have c8 := hv.2.bad 2 (by omega); simp only [Nat.reduceAdd] at c4 c8; rw [HN.out] at c4; rw [HM.out] at c8; go_wp2; exact hK)
                  refine line_act (by rfl) (fun K hK => ?_)
                  go_wp2_with (go_at_call 46; refine OO.mono ?_; rintro e w' ⟨rfl, rfl⟩)
                  refine hK _ _ (fun x => DrAt x pb V zs N M ∧ DrAt x rb U zs N M) hSd (fun v hv => hv) ?_
                  clear hK K
                  repeat (refine line_read (a' := ?_) rfl (by kernel_rfl) (by kernel_rfl) hSd (fun v hv K hK => ?_) ?_; rotate_left; · have c4 := hv.2.ops 2 (by omega); have c8 := hv.2.bad 2 (by omega); simp only [Nat.reduceAdd] at c4 c8; rw [HN.out] at c4; rw [HM.out] at c8; go_wp2; exact hK)
                  refine line_act (by rfl) (fun K hK => ?_)
                  go_wp2_with (go_at_call 47; refine FF.mono ?_; rintro e w' ⟨rfl, rfl⟩)
                  refine hK _ _ (fun x => DrAt x pb V zs N M ∧ DrAt x rb U zs N M) hSd (fun v hv => hv) ?_
                  clear hK K
                  repeat (refine line_read (a' := ?_) rfl (by kernel_rfl) (by kernel_rfl) hSd (fun v hv K hK => ?_) ?_; rotate_left; · have c4 := hv.2.ops 2 (by omega); have c8 := hv.2.bad 2 (by omega); simp only [Nat.reduceAdd] at c4 c8; rw [HN.out] at c4; rw [HM.out] at c8; go_wp2; exact hK)
                  refine line_end ?_
                  go_wp2
                  go_roundw
                  case rel => exact ⟨3, by omega, by go_num, HSD.out, ext_trans5 hEq (Ext.drew wr)⟩
                  case measure => simp [intOf]
                · obtain ⟨nx, hnx⟩ : ∃ x, N 3 = x := ⟨_, rfl⟩
                  obtain ⟨mx, hmx⟩ : ∃ x, M 3 = x := ⟨_, rfl⟩
                  have HN := Lib.hid hnx
                  have HM := Lib.hid hmx
                  have OO := ops_is pb 3 V zs N M _ hS.1.drew (by omega)
                  have FF := faults_is pb 3 V zs N M _ hS.1.drew (by omega)
                  rw [hnx] at OO
                  rw [hmx] at FF
                  have hSd : DrAt wr.drew pb V zs N M ∧ DrAt wr.drew rb U zs N M := ⟨hS.1.drew, hS.2.drew⟩
                  have HSD := Lib.hid hSd
                  clear hnx hmx
                  go_wp2
                  refine region_line [(0, true), (1, true), (3, true), (4, true), (5, true), (6, true), (7, true), (8, true), (2, false), (9, true), (10, true), (11, true), (12, true), (14, true), (15, true), (16, true), (17, true), (18, true), (19, true), (13, false), (20, true), (21, true)] (fun x => DrAt x pb V zs N M ∧ DrAt x rb U zs N M) (by kernel_rfl) (by kernel_rfl) (fun _ _ _ d _ h => by cases d <;> exact ⟨h.1, h.2⟩) hSd ?_
                  repeat (refine line_read (a' := ?_) rfl (by kernel_rfl) (by kernel_rfl) hSd (fun v hv K hK => ?_) ?_; rotate_left; · have c4 := hv.2.ops 3 (by omega); have c8 := hv.2.bad 3 (by omega); simp only [Nat.reduceAdd] at c4 c8; rw [HN.out] at c4; rw [HM.out] at c8; go_wp2; exact hK)
                  refine line_act (by rfl) (fun K hK => ?_)
                  go_wp2_with (go_at_call 46; refine OO.mono ?_; rintro e w' ⟨rfl, rfl⟩)
                  refine hK _ _ (fun x => DrAt x pb V zs N M ∧ DrAt x rb U zs N M) hSd (fun v hv => hv) ?_
                  clear hK K
                  repeat (refine line_read (a' := ?_) rfl (by kernel_rfl) (by kernel_rfl) hSd (fun v hv K hK => ?_) ?_; rotate_left; · have c4 := hv.2.ops 3 (by omega); have c8 := hv.2.bad 3 (by omega); simp only [Nat.reduceAdd] at c4 c8; rw [HN.out] at c4; rw [HM.out] at c8; go_wp2; exact hK)
                  refine line_act (by rfl) (fun K hK => ?_)
                  go_wp2_with (go_at_call 47; refine FF.mono ?_; rintro e w' ⟨rfl, rfl⟩)
                  refine hK _ _ (fun x => DrAt x pb V zs N M ∧ DrAt x rb U zs N M) hSd (fun v hv => hv) ?_
                  clear hK K
                  repeat (refine line_read (a' := ?_) rfl (by kernel_rfl) (by kernel_rfl) hSd (fun v hv K hK => ?_) ?_; rotate_left; · have c4 := hv.2.ops 3 (by omega); have c8 := hv.2.bad 3 (by omega); simp only [Nat.reduceAdd] at c4 c8; rw [HN.out] at c4; rw [HM.out] at c8; go_wp2; exact hK)
                  refine line_end ?_
                  go_wp2
                  go_roundw
                  case rel => exact ⟨4, by omega, by go_num, HSD.out, ext_trans5 hEq (Ext.drew wr)⟩
                  case measure => simp [intOf]
              · have hqn : ¬ ((q : Int) < 4) := by omega
                clear hlt hq hS
                go_wp2_with (first
                  | (go_at_call 46; refine (ops_none (some ⟨pb, 0, none⟩) (-1) _ (.inr ⟨⟨pb, rfl⟩, by omega⟩)).mono ?_; rintro e w' ⟨rfl, rfl⟩)
                  | (go_at_call 47; refine (faults_none (some ⟨pb, 0, none⟩) 4 _ (.inr ⟨⟨pb, rfl⟩, by omega⟩)).mono ?_; rintro e w' ⟨rfl, rfl⟩))
                go_ret
                exact ⟨rfl, hEq⟩
      · have NB := NB hne
        generalize newE zs = er at *
        have hne1 : (er != 0) = true := by simpa using hne
        clear NO hne
        go_wp2_with (first
          | (go_at_call 43; refine (NB _ hE01).mono ?_; rintro e w2 ⟨rfl, hg2⟩; have hE2 := ext_trans5 hE01 hg2; have hE12 := ext_trans5 hE1 hg2; obtain ⟨r0, r1, r2, r3⟩ := HB.out _ hE12)
          | (go_at_call 44; refine (CK _ hE2).mono ?_; rintro e w3 ⟨rfl, hg3⟩; have hE3 := ext_trans5 hE2 hg3)
          | (go_at_call 45; refine (next_none none 0 _ (.inl rfl)).mono ?_; rintro e w' ⟨rfl, rfl⟩)
          | (go_at_call 46; refine (ops_none none 0 _ (.inl rfl)).mono ?_; rintro e w' ⟨rfl, rfl⟩)
          | (go_at_call 47; refine (faults_none none 0 _ (.inl rfl)).mono ?_; rintro e w' ⟨rfl, rfl⟩))
        go_ret
        exact ⟨rfl, hE3⟩

set_option maxRecDepth 100000 in
theorem drawsTell_any (U : Nat → Value) (zs : Nat → List Int) (v : Value) (ws : List Int) (w : World) (hF : Four w U zs) (hI : Ints w v ws) (hm : ws.length ≤ 9223372036854775807) :
    Calls Try.prog 10 #[.agg #[U 0, U 1, U 2, U 3], v] w (TrueExt w) := by
  by_cases h : ws.length ≤ 300
  · exact drawsTell_few U zs v ws w hF hI h
  · obtain ⟨wo, wc, wb, wf, rfl, _⟩ := hI.form
    have hml : (300 : Int) < ws.length := by omega
    have hg0 : Ext w (w.alloc (.cells #[U 0, U 1, U 2, U 3] 66)) := World.grownBy_alloc w _ none
    clear hF hI
    go_enter Try.func10, Try.ntmps10
    go_wp2_with (go_at_call 42; refine (fixed5_any _).mono ?_; rintro e w1 ⟨rfl, hE1⟩)
    go_ret
    exact ⟨rfl, ext_trans5 hg0 hE1⟩

end Go.Proofs.Ytdfcfjncflfppaa
