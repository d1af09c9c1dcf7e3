/-
  Texts put together: DD.
-/
import Derived.Test.YtdadgcfpcneaiaaGreatDoorM03
/-
  The document's Check and Next (layer 5).
-/
namespace Go.Proofs.YtdadgcfpcneaiaaGreatDoor
set_option linter.unusedVariables false
set_option linter.unusedSimpArgs false
set_option linter.unusedVariables false
set_option linter.unusedSimpArgs false
set_option maxRecDepth 100000
open Go.RowKit

theorem low_of {xs : List Int} {k : Nat} (hk : k < xs.length) (h : xs.getD k 0 < 1) : lowB xs = true := by
  rw [List.getD_eq_getElem?_getD, List.getElem?_eq_getElem hk] at h
  simp only [Option.getD_some] at h
  simp only [lowB, List.any_eq_true, decide_eq_true_eq]
  exact ⟨_, List.getElem_mem hk, h⟩
theorem low_none {xs : List Int} (h : ∀ j, j < xs.length → ¬ xs.getD j 0 < 1) : lowB xs = false := by
  simp only [lowB, List.any_eq_false, decide_eq_true_eq]
  intro x hx
  obtain ⟨j, hj, rfl⟩ := List.mem_iff_getElem.1 hx
  have := h j hj
  rw [List.getD_eq_getElem?_getD, List.getElem?_eq_getElem hj] at this
  exact this

set_option maxRecDepth 100000 in
set_option maxHeartbeats 1600000 in
theorem check5_any (U : Nat → Value) (zs : Nat → List Int) (w : World) (hF : Four w U zs) :
    Calls Tryz.prog 34 #[.agg #[U 0, U 1, U 2, U 3]] w fun e w' => e = .returned (.int .i64 (newE zs)) ∧ Ext w w' := by
  have HF := Lib.hid hF
  have shape : ∀ j, j < 4 → ∃ ao cap, U j = .slice ao (zs j).length cap := fun j hj => by
    obtain ⟨ao, cap, _, _, h, _⟩ := (hF.ints j hj).form
    exact ⟨ao, cap, h⟩
  obtain ⟨a0, c0, h0⟩ := shape 0 (by omega)
  obtain ⟨a1, c1, h1⟩ := shape 1 (by omega)
  obtain ⟨a2, c2, h2⟩ := shape 2 (by omega)
  obtain ⟨a3, c3, h3⟩ := shape 3 (by omega)
  have HU := Lib.hid (And.intro h0 (And.intro h1 (And.intro h2 h3)))
  rw [h0, h1, h2, h3]
  clear shape h0 h1 h2 h3 hF
  have hg1 := World.grownBy_alloc w (.cells #[.slice a0 (zs 0).length c0, .slice a1 (zs 1).length c1, .slice a2 (zs 2).length c2, .slice a3 (zs 3).length c3] 72) none
  have b0 : (w.alloc (.cells #[.slice a0 (zs 0).length c0, .slice a1 (zs 1).length c1, .slice a2 (zs 2).length c2, .slice a3 (zs 3).length c3] 72)).cell? ⟨w.heap.size, 0, none⟩ = some (.slice a0 (zs 0).length c0) := by simp
  have b1 : (w.alloc (.cells #[.slice a0 (zs 0).length c0, .slice a1 (zs 1).length c1, .slice a2 (zs 2).length c2, .slice a3 (zs 3).length c3] 72)).cell? ⟨w.heap.size, 1, none⟩ = some (.slice a1 (zs 1).length c1) := by simp
  have b2 : (w.alloc (.cells #[.slice a0 (zs 0).length c0, .slice a1 (zs 1).length c1, .slice a2 (zs 2).length c2, .slice a3 (zs 3).length c3] 72)).cell? ⟨w.heap.size, 2, none⟩ = some (.slice a2 (zs 2).length c2) := by simp
  have b3 : (w.alloc (.cells #[.slice a0 (zs 0).length c0, .slice a1 (zs 1).length c1, .slice a2 (zs 2).length c2, .slice a3 (zs 3).length c3] 72)).cell? ⟨w.heap.size, 3, none⟩ = some (.slice a3 (zs 3).length c3) := by simp
  have i0 : ∀ w, (Instr.index 72 (.agg #[.slice a0 (zs 0).length c0, .slice a1 (zs 1).length c1, .slice a2 (zs 2).length c2, .slice a3 (zs 3).length c3]) (.int .i64 0)).run Tryz.prog w = .ok (.slice a0 (zs 0).length c0) w := fun _ => by kernel_rfl
  have i1 : ∀ w, (Instr.index 72 (.agg #[.slice a0 (zs 0).length c0, .slice a1 (zs 1).length c1, .slice a2 (zs 2).length c2, .slice a3 (zs 3).length c3]) (.int .i64 1)).run Tryz.prog w = .ok (.slice a1 (zs 1).length c1) w := fun _ => by kernel_rfl
  have i2 : ∀ w, (Instr.index 72 (.agg #[.slice a0 (zs 0).length c0, .slice a1 (zs 1).length c1, .slice a2 (zs 2).length c2, .slice a3 (zs 3).length c3]) (.int .i64 2)).run Tryz.prog w = .ok (.slice a2 (zs 2).length c2) w := fun _ => by kernel_rfl
  have i3 : ∀ w, (Instr.index 72 (.agg #[.slice a0 (zs 0).length c0, .slice a1 (zs 1).length c1, .slice a2 (zs 2).length c2, .slice a3 (zs 3).length c3]) (.int .i64 3)).run Tryz.prog w = .ok (.slice a3 (zs 3).length c3) w := fun _ => by kernel_rfl
  go_enter Tryz.func34, Tryz.ntmps34
  go_wp2
  obtain ⟨w1, hw1⟩ : ∃ v, w.alloc (.cells #[.slice a0 (zs 0).length c0, .slice a1 (zs 1).length c1, .slice a2 (zs 2).length c2, .slice a3 (zs 3).length c3] 72) = v := ⟨_, rfl⟩
  rw [hw1] at hg1 b0 b1 b2 b3 ⊢
  have HB := Lib.hid (And.intro b0 (And.intro b1 (And.intro b2 b3)))
  clear hw1 b0 b1 b2 b3
  go_loopw [10] (fun i wr => ∃ k : Nat, k ≤ 4 ∧ i = .int .i64 k ∧ (∀ j, j < k → ¬ 64 < (zs j).length) ∧ w1 = wr) (fun i _ => 4 - (intOf i).toNat)
  case atStart => exact ⟨0, by omega, rfl, fun j hj => by omega, rfl⟩
  case round =>
    obtain ⟨k, hk, rfl, hsmall, rfl⟩ := hrel
    have HS := Lib.hid hsmall
    clear hsmall
    by_cases hlt : k < 4
    · have h4 : k = 0 ∨ k = 1 ∨ k = 2 ∨ k = 3 := by omega
      rcases h4 with rfl | rfl | rfl | rfl
      · by_cases hbig : (64 : Int) < ((zs 0).length : Int)
        · have hE := newE_many (zs := zs) (j := 0) (by omega) (by omega)
          have HE := Lib.hid hE
          clear hE
          go_wp2
          go_ret
          exact ⟨by rw [HE.out]; simp, hg1⟩
        · have HN := Lib.hid (show ¬ 64 < (zs 0).length by omega)
          go_wp2
          go_roundw
          case rel =>
            refine ⟨1, by omega, by go_num, fun j hj => ?_, trivial⟩
            by_cases e : j = 0
            · subst e; exact HN.out
            · exact HS.out j (by omega)
          case measure => simp [intOf]
      · by_cases hbig : (64 : Int) < ((zs 1).length : Int)
        · have hE := newE_many (zs := zs) (j := 1) (by omega) (by omega)
          have HE := Lib.hid hE
          clear hE
          go_wp2
          go_ret
          exact ⟨by rw [HE.out]; simp, hg1⟩
        · have HN := Lib.hid (show ¬ 64 < (zs 1).length by omega)
          go_wp2
          go_roundw
          case rel =>
            refine ⟨2, by omega, by go_num, fun j hj => ?_, trivial⟩
            by_cases e : j = 1
            · subst e; exact HN.out
            · exact HS.out j (by omega)
          case measure => simp [intOf]
      · by_cases hbig : (64 : Int) < ((zs 2).length : Int)
        · have hE := newE_many (zs := zs) (j := 2) (by omega) (by omega)
          have HE := Lib.hid hE
          clear hE
          go_wp2
          go_ret
          exact ⟨by rw [HE.out]; simp, hg1⟩
        · have HN := Lib.hid (show ¬ 64 < (zs 2).length by omega)
          go_wp2
          go_roundw
          case rel =>
            refine ⟨3, by omega, by go_num, fun j hj => ?_, trivial⟩
            by_cases e : j = 2
            · subst e; exact HN.out
            · exact HS.out j (by omega)
          case measure => simp [intOf]
      · by_cases hbig : (64 : Int) < ((zs 3).length : Int)
        · have hE := newE_many (zs := zs) (j := 3) (by omega) (by omega)
          have HE := Lib.hid hE
          clear hE
          go_wp2
          go_ret
          exact ⟨by rw [HE.out]; simp, hg1⟩
        · have HN := Lib.hid (show ¬ 64 < (zs 3).length by omega)
          go_wp2
          go_roundw
          case rel =>
            refine ⟨4, by omega, by go_num, fun j hj => ?_, trivial⟩
            by_cases e : j = 3
            · subst e; exact HN.out
            · exact HS.out j (by omega)
          case measure => simp [intOf]
    · have HS := Lib.hid (fun j hj => HS.out j (by omega) : ∀ j, j < 4 → ¬ 64 < (zs j).length)
      have hkn : ¬ ((k : Int) < 4) := by omega
      clear hlt hk
      obtain ⟨q0, q1, q2, q3⟩ := HB.out
      go_wp2
      clear q0 q1 q2 q3
      go_loopw [18] (fun i wr => ∃ k : Nat, k ≤ 4 ∧ i = .int .i64 k ∧ (∀ j, j < k → lowB (zs j) = false) ∧ w1 = wr) (fun i _ => 4 - (intOf i).toNat)
      case atStart => exact ⟨0, by omega, rfl, fun j hj => by omega, rfl⟩
      case round =>
        obtain ⟨k, hk, rfl, hL, rfl⟩ := hrel
        have HL := Lib.hid hL
        clear hL
        by_cases hlt : k < 4
        · have h4 : k = 0 ∨ k = 1 ∨ k = 2 ∨ k = 3 := by omega
          rcases h4 with rfl | rfl | rfl | rfl
          · obtain ⟨ao, cp, bb, oo, hv, hcc⟩ := ((HF.out.kept hg1).ints 0 (by omega)).form
            rw [HU.out.1] at hv
            obtain ⟨rfl, rfl⟩ : a0 = ao ∧ c0 = cp := by simpa using hv
            have HC := Lib.hid hcc
            have hlen : (zs 0).length ≤ 64 := by have := HS.out 0 (by omega); omega
            clear hv hcc
            go_wp2
            go_loopw [23] (fun i wr => ∃ m : Nat, m ≤ (zs 0).length ∧ i = .int .i64 m ∧ (∀ j, j < m → ¬ (zs 0).getD j 0 < 1) ∧ w1 = wr) (fun i _ => (zs 0).length - (intOf i).toNat)
            case atStart => exact ⟨0, by omega, rfl, fun j hj => by omega, rfl⟩
            case round =>
              obtain ⟨m, hm, rfl, hnot, rfl⟩ := hrel
              have NOT := Lib.hid hnot
              clear hnot
              by_cases hmt : m < (zs 0).length
              · obtain ⟨rfl, hcell⟩ := HC.out m hmt
                obtain ⟨x, hx⟩ : ∃ x, (zs 0).getD m 0 = x := ⟨_, rfl⟩
                rw [hx] at hcell
                by_cases hx1 : x < 1
                · have hE5 := newE_low (zs := zs) HS.out (j := 0) (by omega) (low_of hmt (by rw [hx]; exact hx1))
                  have HE := Lib.hid hE5
                  clear hE5 hx
                  go_wp2
                  go_ret
                  exact ⟨by rw [HE.out]; simp, hg1⟩
                · have HX := Lib.hid hx
                  clear hx
                  go_wp2
                  go_roundw
                  case rel =>
                    refine ⟨m + 1, by omega, by go_num, fun j hj => ?_, trivial⟩
                    by_cases e : j = m
                    · subst e; rw [HX.out]; omega
                    · have := NOT.out j (by omega); omega
                  case measure => simp [intOf]; omega
              · obtain rfl : m = (zs 0).length := by omega
                have HLW := Lib.hid (low_none NOT.out)
                go_wp2
                go_roundw
                case rel =>
                  refine ⟨1, by omega, by go_num, fun j hj => ?_, trivial⟩
                  by_cases e : j = 0
                  · subst e; exact HLW.out
                  · exact HL.out j (by omega)
                case measure => simp [intOf]
          · obtain ⟨ao, cp, bb, oo, hv, hcc⟩ := ((HF.out.kept hg1).ints 1 (by omega)).form
            rw [HU.out.2.1] at hv
            obtain ⟨rfl, rfl⟩ : a1 = ao ∧ c1 = cp := by simpa using hv
            have HC := Lib.hid hcc
            have hlen : (zs 1).length ≤ 64 := by have := HS.out 1 (by omega); omega
            clear hv hcc
            go_wp2
            go_loopw [23] (fun i wr => ∃ m : Nat, m ≤ (zs 1).length ∧ i = .int .i64 m ∧ (∀ j, j < m → ¬ (zs 1).getD j 0 < 1) ∧ w1 = wr) (fun i _ => (zs 1).length - (intOf i).toNat)
            case atStart => exact ⟨0, by omega, rfl, fun j hj => by omega, rfl⟩
            case round =>
              obtain ⟨m, hm, rfl, hnot, rfl⟩ := hrel
              have NOT := Lib.hid hnot
              clear hnot
              by_cases hmt : m < (zs 1).length
              · obtain ⟨rfl, hcell⟩ := HC.out m hmt
                obtain ⟨x, hx⟩ : ∃ x, (zs 1).getD m 0 = x := ⟨_, rfl⟩
                rw [hx] at hcell
                by_cases hx1 : x < 1
                · have hE5 := newE_low (zs := zs) HS.out (j := 1) (by omega) (low_of hmt (by rw [hx]; exact hx1))
                  have HE := Lib.hid hE5
                  clear hE5 hx
                  go_wp2
                  go_ret
                  exact ⟨by rw [HE.out]; simp, hg1⟩
                · have HX := Lib.hid hx
                  clear hx
                  go_wp2
                  go_roundw
                  case rel =>
                    refine ⟨m + 1, by omega, by go_num, fun j hj => ?_, trivial⟩
                    by_cases e : j = m
                    · subst e; rw [HX.out]; omega
                    · have := NOT.out j (by omega); omega
                  case measure => simp [intOf]; omega
              · obtain rfl : m = (zs 1).length := by omega
                have HLW := Lib.hid (low_none NOT.out)
                go_wp2
                go_roundw
                case rel =>
                  refine ⟨2, by omega, by go_num, fun j hj => ?_, trivial⟩
                  by_cases e : j = 1
                  · subst e; exact HLW.out
                  · exact HL.out j (by omega)
                case measure => simp [intOf]
          · obtain ⟨ao, cp, bb, oo, hv, hcc⟩ := ((HF.out.kept hg1).ints 2 (by omega)).form
            rw [HU.out.2.2.1] at hv
            obtain ⟨rfl, rfl⟩ : a2 = ao ∧ c2 = cp := by simpa using hv
            have HC := Lib.hid hcc
            have hlen : (zs 2).length ≤ 64 := by have := HS.out 2 (by omega); omega
            clear hv hcc
            go_wp2
            go_loopw [23] (fun i wr => ∃ m : Nat, m ≤ (zs 2).length ∧ i = .int .i64 m ∧ (∀ j, j < m → ¬ (zs 2).getD j 0 < 1) ∧ w1 = wr) (fun i _ => (zs 2).length - (intOf i).toNat)
            case atStart => exact ⟨0, by omega, rfl, fun j hj => by omega, rfl⟩
            case round =>
              obtain ⟨m, hm, rfl, hnot, rfl⟩ := hrel
              have NOT := Lib.hid hnot
              clear hnot
              by_cases hmt : m < (zs 2).length
              · obtain ⟨rfl, hcell⟩ := HC.out m hmt
                obtain ⟨x, hx⟩ : ∃ x, (zs 2).getD m 0 = x := ⟨_, rfl⟩
                rw [hx] at hcell
                by_cases hx1 : x < 1
                · have hE5 := newE_low (zs := zs) HS.out (j := 2) (by omega) (low_of hmt (by rw [hx]; exact hx1))
                  have HE := Lib.hid hE5
                  clear hE5 hx
                  go_wp2
                  go_ret
                  exact ⟨by rw [HE.out]; simp, hg1⟩
                · have HX := Lib.hid hx
                  clear hx
                  go_wp2
                  go_roundw
                  case rel =>
                    refine ⟨m + 1, by omega, by go_num, fun j hj => ?_, trivial⟩
                    by_cases e : j = m
                    · subst e; rw [HX.out]; omega
                    · have := NOT.out j (by omega); omega
                  case measure => simp [intOf]; omega
              · obtain rfl : m = (zs 2).length := by omega
                have HLW := Lib.hid (low_none NOT.out)
                go_wp2
                go_roundw
                case rel =>
                  refine ⟨3, by omega, by go_num, fun j hj => ?_, trivial⟩
                  by_cases e : j = 2
                  · subst e; exact HLW.out
                  · exact HL.out j (by omega)
                case measure => simp [intOf]
          · obtain ⟨ao, cp, bb, oo, hv, hcc⟩ := ((HF.out.kept hg1).ints 3 (by omega)).form
            rw [HU.out.2.2.2] at hv
            obtain ⟨rfl, rfl⟩ : a3 = ao ∧ c3 = cp := by simpa using hv
            have HC := Lib.hid hcc
            have hlen : (zs 3).length ≤ 64 := by have := HS.out 3 (by omega); omega
            clear hv hcc
            go_wp2
            go_loopw [23] (fun i wr => ∃ m : Nat, m ≤ (zs 3).length ∧ i = .int .i64 m ∧ (∀ j, j < m → ¬ (zs 3).getD j 0 < 1) ∧ w1 = wr) (fun i _ => (zs 3).length - (intOf i).toNat)
            case atStart => exact ⟨0, by omega, rfl, fun j hj => by omega, rfl⟩
            case round =>
              obtain ⟨m, hm, rfl, hnot, rfl⟩ := hrel
              have NOT := Lib.hid hnot
              clear hnot
              by_cases hmt : m < (zs 3).length
              · obtain ⟨rfl, hcell⟩ := HC.out m hmt
                obtain ⟨x, hx⟩ : ∃ x, (zs 3).getD m 0 = x := ⟨_, rfl⟩
                rw [hx] at hcell
                by_cases hx1 : x < 1
                · have hE5 := newE_low (zs := zs) HS.out (j := 3) (by omega) (low_of hmt (by rw [hx]; exact hx1))
                  have HE := Lib.hid hE5
                  clear hE5 hx
                  go_wp2
                  go_ret
                  exact ⟨by rw [HE.out]; simp, hg1⟩
                · have HX := Lib.hid hx
                  clear hx
                  go_wp2
                  go_roundw
                  case rel =>
                    refine ⟨m + 1, by omega, by go_num, fun j hj => ?_, trivial⟩
                    by_cases e : j = m
                    · subst e; rw [HX.out]; omega
                    · have := NOT.out j (by omega); omega
                  case measure => simp [intOf]; omega
              · obtain rfl : m = (zs 3).length := by omega
                have HLW := Lib.hid (low_none NOT.out)
                go_wp2
                go_roundw
                case rel =>
                  refine ⟨4, by omega, by go_num, fun j hj => ?_, trivial⟩
                  by_cases e : j = 3
                  · subst e; exact HLW.out
                  · exact HL.out j (by omega)
                case measure => simp [intOf]
        · obtain rfl : k = 4 := by omega
          have e0 := newE_ok (zs := zs) HS.out HL.out
          have HE := Lib.hid e0
          clear e0
          go_wp2
          go_ret
          exact ⟨by rw [HE.out]; simp, hg1⟩

end Go.Proofs.YtdadgcfpcneaiaaGreatDoor
