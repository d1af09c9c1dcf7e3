/-
  The law DrawsApart: tenant 1.
-/
import Derived.Test.YtdfcfjncflfppaaDH
namespace Go.Proofs.Ytdfcfjncflfppaa
open Go.RowKit

set_option maxRecDepth 100000 in
set_option maxHeartbeats 4000000 in
theorem drawsApart_1 (U : Nat → Value) (zs : Nat → List Int) (v : Value) (ws : List Int) (o : Nat) (w : World) (hF : Four w U zs) (hI : Ints w v ws) (hm : ws.length ≤ 300) (ho : o < 256) (hoq : o % 4 = 1) :
    Calls Try.prog 11 #[.agg #[U 0, U 1, U 2, U 3], v, .int .u8 (o : Int)] w (TrueExt w) := by
  have HF := Lib.hid hF
  have shape : ∀ j, j < 4 → ∃ ao cap, U j = .slice ao (zs j).length cap := fun j hj => by
    obtain ⟨ao, cap, _, _, h, _⟩ := (hF.ints j hj).form
    exact ⟨ao, cap, h⟩
  obtain ⟨a0, c0, h0⟩ := shape 0 (by omega)
  obtain ⟨a1, c1, h1⟩ := shape 1 (by omega)
  obtain ⟨a2, c2, h2⟩ := shape 2 (by omega)
  obtain ⟨a3, c3, h3⟩ := shape 3 (by omega)
  have NB := fun (hb : newE zs ≠ 0) w' (hE : Ext w w') => new_bad U zs w' (hF.kept hE) hb
  have NO := fun (hb : newE zs = 0) w' (hE : Ext w w') => new_ok U zs w' (hF.kept hE) hb
  have hrem : (o : Int).tmod 4 = 1 := by rw [Int.tmod_eq_emod_of_nonneg (by omega)]; omega
  have hwo : IntKind.i64.wrap (o : Int) = (o : Int) := IntWalk.i64_in _ ⟨by omega, by omega⟩
  have N2 := fun (hb : newE zs = 0) w' (hE : Ext w w') => new_ok (soleU 1 U) (soleZ 1 zs) w' (sole_four 1 (hF.kept hE)) (soleZ_ok hb)
  have u0 : soleU 1 U 0 = .slice none 0 0 := if_neg (by decide)
  have u1 : soleU 1 U 1 = .slice a1 (zs 1).length c1 := (if_pos rfl).trans h1
  have u2 : soleU 1 U 2 = .slice none 0 0 := if_neg (by decide)
  have u3 : soleU 1 U 3 = .slice none 0 0 := if_neg (by decide)
  rw [u0, u1, u2, u3] at N2
  rw [h0, h1, h2, h3] at NB NO ⊢
  obtain ⟨wo, wc, wb, wf, rfl, hwc⟩ := hI.form
  have HWC := Lib.hid hwc
  have hml : ¬ (300 : Int) < ws.length := by omega
  clear shape h0 h1 h2 h3 u0 u1 u2 u3 hF hI hwc hoq
  have hg0 : Ext w (w.alloc (.cells #[.slice a0 (zs 0).length c0, .slice a1 (zs 1).length c1, .slice a2 (zs 2).length c2, .slice a3 (zs 3).length c3] 66)) := World.grownBy_alloc w (.cells #[.slice a0 (zs 0).length c0, .slice a1 (zs 1).length c1, .slice a2 (zs 2).length c2, .slice a3 (zs 3).length c3] 66) none
  have b0 : (w.alloc (.cells #[.slice a0 (zs 0).length c0, .slice a1 (zs 1).length c1, .slice a2 (zs 2).length c2, .slice a3 (zs 3).length c3] 66)).cell? ⟨w.heap.size, 0, none⟩ = some (.slice a0 (zs 0).length c0) := by simp
  have b1 : (w.alloc (.cells #[.slice a0 (zs 0).length c0, .slice a1 (zs 1).length c1, .slice a2 (zs 2).length c2, .slice a3 (zs 3).length c3] 66)).cell? ⟨w.heap.size, 1, none⟩ = some (.slice a1 (zs 1).length c1) := by simp
  have b2 : (w.alloc (.cells #[.slice a0 (zs 0).length c0, .slice a1 (zs 1).length c1, .slice a2 (zs 2).length c2, .slice a3 (zs 3).length c3] 66)).cell? ⟨w.heap.size, 2, none⟩ = some (.slice a2 (zs 2).length c2) := by simp
  have b3 : (w.alloc (.cells #[.slice a0 (zs 0).length c0, .slice a1 (zs 1).length c1, .slice a2 (zs 2).length c2, .slice a3 (zs 3).length c3] 66)).cell? ⟨w.heap.size, 3, none⟩ = some (.slice a3 (zs 3).length c3) := by simp
  have hbB : ∀ x, Ext (w.alloc (.cells #[.slice a0 (zs 0).length c0, .slice a1 (zs 1).length c1, .slice a2 (zs 2).length c2, .slice a3 (zs 3).length c3] 66)) x → (x.cell? ⟨w.heap.size, 0, none⟩ = some (.slice a0 (zs 0).length c0) ∧ x.cell? ⟨w.heap.size, 1, none⟩ = some (.slice a1 (zs 1).length c1) ∧ x.cell? ⟨w.heap.size, 2, none⟩ = some (.slice a2 (zs 2).length c2) ∧ x.cell? ⟨w.heap.size, 3, none⟩ = some (.slice a3 (zs 3).length c3)) :=
    fun x hx => ⟨hx.cell b0 (by simp), hx.cell b1 (by simp), hx.cell b2 (by simp), hx.cell b3 (by simp)⟩
  have HB := Lib.hid hbB
  clear hbB b0 b1 b2 b3
  by_cases hne : newE zs = 0
  · have NO := NO hne
    have N2 := N2 hne
    have HZ := Lib.hid hne
    clear NB hne
    go_enter Try.func11, Try.ntmps11
    go_wp2_with (first
      | (go_at_call 42; refine (fixed5_any _).mono ?_; rintro e w1 ⟨rfl, hE1⟩; have hE01 := ext_trans5 hg0 hE1; obtain ⟨q0, q1, q2, q3⟩ := HB.out _ hE1; have hfl := Lib.hid True.intro)
      | (go_at_call 43; clear hfl; refine (NO _ hE01).mono ?_; rintro e w2 ⟨pb, V, rfl, hD2, hg2, hpb, hVb⟩; have hE2 := ext_trans5 hE01 hg2; have hE12 := ext_trans5 (ext_trans5 hE1 hg2) (World.grownBy_alloc w2 (.cells #[.slice none 0 0, .slice none 0 0, .slice none 0 0, .slice none 0 0] 66) none); obtain ⟨r0, r1, r2, r3⟩ := HB.out _ hE12; have hS : Ext w2 (w2.alloc (.cells #[.slice none 0 0, .slice a1 (zs 1).length c1, .slice none 0 0, .slice none 0 0] 66)) := World.grownBy_alloc w2 _ none; have hE3 : Ext w (w2.alloc (.cells #[.slice none 0 0, .slice a1 (zs 1).length c1, .slice none 0 0, .slice none 0 0] 66)) := ext_trans5 hE2 hS; have HE3 := Lib.hid hE3; have HS2 := Lib.hid hS; clear hE3 hS)
      | (go_at_call 43; refine (N2 _ HE3.out).mono ?_; rintro e w4 ⟨fb, V', rfl, hD4, hg4, hfb, hVb'⟩))
    have hE4 := ext_trans5 HE3.out hg4
    have hS4 := ext_trans5 HS2.out hg4
    have hP4 := hD2.other hS4 (by simp) (fun _ _ _ _ => by simp)
    have hpb2 : pb < w2.heap.size := hD2.lt
    have hfb2 : w2.heap.size ≤ fb := Nat.le_trans HS2.out.size hfb
    have hpw : w.heap.size ≤ pb := Nat.le_trans hE01.size hpb
    have HV := Lib.hid (fun j hj i hi => Nat.lt_of_lt_of_le (hVb j hj i hi).2 hfb2 : ∀ j, j < 4 → ∀ i, (V j).ownBlock = some i → i < fb)
    have HV2 := Lib.hid (fun j hj i hi => Nat.le_trans HS2.out.size (hVb' j hj i hi).1 : ∀ j, j < 4 → ∀ i, (V' j).ownBlock = some i → w2.heap.size ≤ i)
    have HL := Lib.hid HF.out.len
    have HL2 := Lib.hid (sole_four 1 HF.out).len
    have hzk : soleZ 1 zs 1 = zs 1 := by unfold soleZ; rw [if_pos rfl]
    have HZK := Lib.hid hzk
    have hpf : pb < fb := by omega
    clear hD2 hVb hVb' hg4 HE3 HS2 hS4 hE2 hE12 hE01 hE1 hg2 NO N2 q0 q1 q2 q3 r0 r1 r2 r3 hzk hfb hpb HB HZ
    go_loopw [43] (fun i wr => ∃ m : Nat, m ≤ ws.length ∧ i = .int .i64 m ∧ ∃ N M N' M', DrAt wr pb V zs N M ∧ DrAt wr fb V' (soleZ 1 zs) N' M' ∧ (∀ j, j < 4 → 0 ≤ N j ∧ N j ≤ m ∧ 0 ≤ M j ∧ M j ≤ m) ∧ N' 1 = N 1 ∧ M' 1 = M 1 ∧ Ext w wr) (fun i _ => ws.length - (intOf i).toNat)
    case atStart => exact ⟨0, by omega, rfl, _, _, _, _, hP4, hD4, fun j hj => by simp, rfl, rfl, hE4⟩
    case round =>
      clear hP4 hD4 hE4
      obtain ⟨m, hmm, rfl, N, M, N', M', hP, hQ, hbd, hnk, hmk, hEr⟩ := hrel
      have HBD := Lib.hid hbd
      have HNK := Lib.hid hnk
      have HMK := Lib.hid hmk
      clear hbd hnk hmk
      by_cases hmt : m < ws.length
      · obtain ⟨rfl, hcell⟩ := HWC.out m hmt
        have hcell2 : wr.cell? ⟨wb, wf + m, none⟩ = some (.int .i64 (ws.getD m 0)) := hEr.cell hcell (by simp)
        obtain ⟨x, hx⟩ : ∃ x, ws.getD m 0 = x := ⟨_, rfl⟩
        rw [hx] at hcell2
        clear hcell hx
        by_cases hin : 0 ≤ x ∧ x < 4
        · obtain ⟨j, rfl⟩ := Int.eq_ofNat_of_zero_le hin.1
          have hj : j < 4 := by omega
          have hb := HBD.out j hj
          have A := next_is pb j V zs N M wr hP hj (by omega) (by omega) (by omega) (by omega) (HL.out j hj)
          unfold Nexts at A
          by_cases hjk : j = 1
          · subst hjk
            have BB := fun w' (hw : wr.grownBy w' (some pb)) => next_is fb 1 V' (soleZ 1 zs) N' M' w' (hQ.other hw (by simp; omega) (fun i hi i2 hi2 => by have := HV2.out i hi i2 hi2; simp; omega)) hj (by rw [HNK.out]; omega) (by rw [HNK.out]; omega) (by rw [HMK.out]; omega) (by rw [HMK.out]; omega) (HL2.out 1 hj)
            unfold Nexts at BB
            have hh : hitB (soleZ 1 zs) N' 1 = hitB zs N 1 := by unfold hitB; rw [HZK.out, HNK.out]
            have HH := Lib.hid hh
            rw [hh] at BB
            obtain ⟨hit, hhit⟩ : ∃ b, hitB zs N 1 = b := ⟨_, rfl⟩
            rw [hhit] at A BB
            have HHIT := Lib.hid hhit
            obtain ⟨N1, hN1⟩ : ∃ F, upd N 1 (N 1 + 1) = F := ⟨_, rfl⟩
            obtain ⟨M1, hM1⟩ : ∃ F, nextM zs N M 1 = F := ⟨_, rfl⟩
            obtain ⟨N2, hN2⟩ : ∃ F, upd N' 1 (N' 1 + 1) = F := ⟨_, rfl⟩
            obtain ⟨M2, hM2⟩ : ∃ F, nextM (soleZ 1 zs) N' M' 1 = F := ⟨_, rfl⟩
            have HN1 := Lib.hid (And.intro hN1 (And.intro hM1 (And.intro hN2 hM2)))
            rw [hN1, hM1] at A
            rw [hN2, hM2] at BB
            clear hb hin hN1 hM1 hN2 hM2 hj hh hhit
            have hfl := Lib.hid True.intro
            go_wp2_with (first
              | (go_at_call 45; clear hfl; refine A.mono ?_; rintro e w5 ⟨rfl, hP5, hg5⟩)
              | (go_at_call 45; refine (BB _ hg5).mono ?_; rintro e w6 ⟨rfl, hQ6, hg6⟩))
            go_roundw
            case rel =>
              refine ⟨m + 1, by omega, by go_num, N1, M1, N2, M2, hP5.other hg6 (by simp; omega) (fun i hi i2 hi2 => by have := HV.out i hi i2 hi2; simp; omega), hQ6, fun i hi => ?_, ?_, ?_, grown_own (grown_own hEr hg5 (by omega)) hg6 (by omega)⟩
              · rw [← HN1.out.1, ← HN1.out.2.1]
                exact bounds_next HBD.out i hi
              · rw [← HN1.out.1, ← HN1.out.2.2.1]
                unfold upd
                rw [if_pos rfl, if_pos rfl, HNK.out]
              · rw [← HN1.out.2.1, ← HN1.out.2.2.2]
                unfold nextM upd
                rw [if_pos rfl, if_pos rfl, HH.out, HMK.out]
            case measure => simp [intOf]; omega
          · have hxk : ((j : Int) == 1) = false := by simp; omega
            generalize hitB zs N j = hit at *
            obtain ⟨N1, hN1⟩ : ∃ F, upd N j (N j + 1) = F := ⟨_, rfl⟩
            obtain ⟨M1, hM1⟩ : ∃ F, nextM zs N M j = F := ⟨_, rfl⟩
            have HN1 := Lib.hid (And.intro hN1 hM1)
            have HJK := Lib.hid hjk
            rw [hN1, hM1] at A
            clear hb hin hN1 hM1 hjk hj
            go_wp2_with (go_at_call 45; refine A.mono ?_; rintro e w5 ⟨rfl, hP5, hg5⟩)
            go_roundw
            case rel =>
              refine ⟨m + 1, by omega, by go_num, N1, M1, N', M', hP5, hQ.other hg5 (by simp; omega) (fun i hi i2 hi2 => by have := HV2.out i hi i2 hi2; simp; omega), fun i hi => ?_, ?_, ?_, grown_own hEr hg5 (by omega)⟩
              · rw [← HN1.out.1, ← HN1.out.2]
                exact bounds_next HBD.out i hi
              · rw [← HN1.out.1, HNK.out]
                unfold upd
                rw [if_neg (fun e => HJK.out e.symm)]
              · rw [← HN1.out.2, HMK.out]
                unfold nextM upd
                rw [if_neg (fun e => HJK.out e.symm)]
            case measure => simp [intOf]; omega
        · have A := next_none (some ⟨pb, 0, none⟩) x wr (.inr ⟨⟨pb, rfl⟩, hin⟩)
          have hxk : (x == 1) = false := by simp; omega
          clear hin
          go_wp2_with (go_at_call 45; refine A.mono ?_; rintro e w5 ⟨rfl, rfl⟩)
          go_roundw
          case rel => exact ⟨m + 1, by omega, by go_num, N, M, N', M', hP, hQ, fun i hi => by have := HBD.out i hi; omega, HNK.out, HMK.out, hEr⟩
          case measure => simp [intOf]; omega
      · have O1 := ops_is pb 1 V zs N M wr hP (by omega)
        have O2 := ops_is fb 1 V' (soleZ 1 zs) N' M' wr hQ (by omega)
        have F1 := faults_is pb 1 V zs N M wr hP (by omega)
        have F2 := faults_is fb 1 V' (soleZ 1 zs) N' M' wr hQ (by omega)
        rw [HNK.out] at O2
        rw [HMK.out] at F2
        generalize N 1 = nx at *
        generalize M 1 = mx at *
        have hfl := Lib.hid True.intro
        have hfl2 := Lib.hid True.intro
        clear hP hQ
        go_wp2_with (first
          | (go_at_call 46; clear hfl; refine O1.mono ?_; rintro e w' ⟨rfl, rfl⟩)
          | (go_at_call 46; refine O2.mono ?_; rintro e w' ⟨rfl, rfl⟩)
          | (go_at_call 47; clear hfl2; refine F1.mono ?_; rintro e w' ⟨rfl, rfl⟩)
          | (go_at_call 47; refine F2.mono ?_; rintro e w' ⟨rfl, rfl⟩))
        go_ret
        exact ⟨rfl, hEr⟩
  · have NB := NB hne
    generalize newE zs = er at *
    have hne1 : (er != 0) = true := by simpa using hne
    clear NO N2 hne
    go_enter Try.func11, Try.ntmps11
    go_wp2_with (first
      | (go_at_call 42; refine (fixed5_any _).mono ?_; rintro e w1 ⟨rfl, hE1⟩; have hE01 := ext_trans5 hg0 hE1; obtain ⟨q0, q1, q2, q3⟩ := HB.out _ hE1)
      | (go_at_call 43; refine (NB _ hE01).mono ?_; rintro e w2 ⟨rfl, hg2⟩; have hE2 := ext_trans5 hE01 hg2))
    go_ret
    exact ⟨rfl, hE2⟩

end Go.Proofs.Ytdfcfjncflfppaa
