/-
  Layer 15: the greedy choice: what it is; the document's Greedy; VictimGreedy, VictimLeast over what Greedy answers.
-/
import Derived.Test.YtnfhibigidkhkaaDA
import Derived.Lib.Hide
import Derived.Outline
import Derived.Deep.DeepCutAuto
import Derived.Deep.Cut
import Derived.Deep.LoopGhost
namespace Go.Proofs.Ytnfhibigidkhkaa
set_option linter.unusedVariables false
set_option linter.unusedSimpArgs false
set_option maxRecDepth 100000
open Go.RowKit

/-- The greedy choice. -/
def GreedyP (zs : List Int) (r : Int) : Prop :=
  (r = -1 ∧ ∀ j, j < zs.length → zs.getD j 0 < 0) ∨ ∃ i : Nat, r = i ∧ i < zs.length ∧ 0 ≤ zs.getD i 0 ∧ (∀ j, j < zs.length → 0 ≤ zs.getD j 0 → zs.getD i 0 ≤ zs.getD j 0) ∧ ∀ j, j < i → 0 ≤ zs.getD j 0 → zs.getD i 0 < zs.getD j 0
theorem GreedyP.eq {zs : List Int} {r s : Int} (h : GreedyP zs r) (h2 : GreedyP zs s) : r = s := by
  rcases h with ⟨rfl, h⟩ | ⟨i, rfl, hi, h0, h1, hl⟩
  · rcases h2 with ⟨rfl, _⟩ | ⟨j, rfl, hj, g0, _⟩
    · rfl
    · have := h j hj; omega
  · rcases h2 with ⟨rfl, g⟩ | ⟨j, rfl, hj, g0, g1, gl⟩
    · have := g i hi; omega
    · by_cases e : i = j
      · rw [e]
      · rcases Nat.lt_or_gt_of_ne e with e | e
        · have a1 := gl i e h0; have a2 := h1 j hj g0; omega
        · have a1 := hl j e g0; have a2 := g1 i hi h0; omega
theorem greedy_some : ∀ zs : List Int, ∃ r, GreedyP zs r := by
  intro zs
  have key : ∀ k, k ≤ zs.length → (∀ j, j < k → zs.getD j 0 < 0) ∨ ∃ i : Nat, i < k ∧ 0 ≤ zs.getD i 0 ∧ (∀ j, j < k → 0 ≤ zs.getD j 0 → zs.getD i 0 ≤ zs.getD j 0) ∧ ∀ j, j < i → 0 ≤ zs.getD j 0 → zs.getD i 0 < zs.getD j 0 := by
    intro k
    induction k with
    | zero => intro _; exact .inl (fun j hj => by omega)
    | succ k ih =>
      intro hk
      rcases ih (by omega) with h | ⟨i, hi, h0, h1, h2⟩
      · by_cases hz : 0 ≤ zs.getD k 0
        · refine .inr ⟨k, by omega, hz, fun j hj h0 => ?_, fun j hj h0 => by have := h j hj; omega⟩
          by_cases e : j = k
          · subst e; exact Int.le_refl _
          · have := h j (by omega); omega
        · refine .inl (fun j hj => ?_)
          by_cases e : j = k
          · subst e; omega
          · exact h j (by omega)
      · by_cases hz : 0 ≤ zs.getD k 0 ∧ zs.getD k 0 < zs.getD i 0
        · refine .inr ⟨k, by omega, hz.1, fun j hj g0 => ?_, fun j hj g0 => by have := h1 j hj g0; omega⟩
          by_cases e : j = k
          · subst e; exact Int.le_refl _
          · have := h1 j (by omega) g0; omega
        · refine .inr ⟨i, by omega, h0, fun j hj g0 => ?_, h2⟩
          by_cases e : j = k
          · subst e; omega
          · exact h1 j (by omega) g0
  rcases key zs.length (Nat.le_refl _) with h | ⟨i, hi, h0, h1, h2⟩
  · exact ⟨-1, .inl ⟨rfl, h⟩⟩
  · exact ⟨i, .inr ⟨i, rfl, hi, h0, h1, h2⟩⟩
/-- What the program's Greedy answers. -/
def VicG : Prop := ∀ (v : Value) (zs : List Int) (w : World), Ints w v zs → zs.length ≤ 9223372036854775807 → ∃ r, GreedyP zs r ∧ Calls Try.prog 7 #[v] w fun e w' => e = .returned (.int .i64 r) ∧ w.grownBy w' none
def Fix15 : Prop := ∀ w : World, Calls Try.prog 6 #[] w fun e w' => e = .returned (.bool true) ∧ w.grownBy w' none

theorem g15_refl (w : World) : w.grownBy w none := ⟨rfl, rfl, rfl, Nat.le_refl _, fun _ _ _ => rfl⟩
theorem g15_trans {w w1 w2 : World} (h : w.grownBy w1 none) (h2 : w1.grownBy w2 none) : w.grownBy w2 none :=
  ⟨h2.os.trans h.os, h2.tape.trans h.tape, h2.output.trans h.output, Nat.le_trans h.size h2.size, fun k hk hne => (h2.block k (Nat.lt_of_lt_of_le hk h.size) hne).trans (h.block k hk hne)⟩
/-- A slice of integers, its cells. -/
theorem Ints.cells15 {w : World} {v : Value} {zs : List Int} (h : Ints w v zs) : ∃ ao cap, v = .slice ao zs.length cap ∧ ∀ i, i < zs.length → ∃ b off, ao = some ⟨b, off, none⟩ ∧ w.cell? ⟨b, off + i, none⟩ = some (.int .i64 (zs.getD i 0)) := by
  rcases h with ⟨rfl, rfl⟩ | ⟨b, off, cap, rfl, _, h3⟩ | ⟨x, cap, rfl, rfl⟩
  · exact ⟨none, 0, rfl, fun i hi => by simp at hi⟩
  · exact ⟨_, cap, rfl, fun i hi => ⟨b, off, rfl, h3 i hi⟩⟩
  · exact ⟨_, cap, rfl, fun i hi => by simp at hi⟩

set_option maxHeartbeats 800000 in
theorem refGreedy_any (v : Value) (zs : List Int) (w : World) (h : Ints w v zs) (hl : zs.length ≤ 9223372036854775807) (hs : ∀ j, j < zs.length → zs.getD j 0 ≤ 100) :
    ∃ r, GreedyP zs r ∧ Calls Try.prog 8 #[v] w fun e w' => e = .returned (.int .i64 r) ∧ w = w' := by
  have key : Calls Try.prog 8 #[v] w fun e w' => (∃ r, GreedyP zs r ∧ e = .returned (.int .i64 r)) ∧ w = w' := by
    obtain ⟨ao, cap, rfl, hc⟩ := h.cells15
    obtain ⟨n, hn⟩ : ∃ n, zs.length = n := ⟨_, rfl⟩
    rw [hn] at hl hc hs ⊢
    have HC := Lib.hid (And.intro hc (And.intro hs hn))
    clear h hc hs hn
    go_enter Try.func8, Try.ntmps8
    go_wp2
    go_loopw [3] (fun s wr => ∃ m : Nat, m ≤ 101 ∧ s = .int .i64 m ∧ w = wr ∧ ∀ j, j < n → 0 ≤ zs.getD j 0 → (m : Int) ≤ zs.getD j 0) (fun s _ => 101 - (intOf s).toNat)
    case atStart => exact ⟨0, by omega, rfl, rfl, fun j hj h0 => h0⟩
    case round =>
      obtain ⟨m, hm, rfl, rfl, hlow⟩ := hrel
      have HL := Lib.hid hlow
      clear hlow
      by_cases hmb : m ≤ 100
      · have hmi : (m : Int) ≤ 100 := by omega
        go_wp2
        go_loopw [12] (fun i wr => ∃ k : Nat, k ≤ n ∧ i = .int .i64 k ∧ w = wr ∧ ∀ j, j < k → zs.getD j 0 ≠ m) (fun i _ => n - (intOf i).toNat)
        case atStart => exact ⟨0, by omega, rfl, rfl, fun j hj => by omega⟩
        case round =>
          obtain ⟨k, hk, rfl, rfl, hno⟩ := hrel
          have HN := Lib.hid hno
          clear hno
          by_cases hlt : k < n
          · obtain ⟨b, off, rfl, hcell⟩ := HC.out.1 k hlt
            obtain ⟨x, hx⟩ : ∃ z, zs.getD k 0 = z := ⟨_, rfl⟩
            rw [hx] at hcell
            have HX := Lib.hid hx
            clear hx
            by_cases he : x = m
            · have hb : (x == (m : Int)) = true := by simpa using he
              have HE := Lib.hid he
              clear he
              go_wp2
              go_ret
              refine ⟨⟨(k : Int), .inr ⟨k, rfl, by rw [HC.out.2.2]; exact hlt, by rw [HX.out, HE.out]; omega, fun j hj h0 => ?_, fun j hj h0 => ?_⟩, rfl⟩, rfl⟩
              · rw [HX.out, HE.out]; exact HL.out j (by rw [HC.out.2.2] at hj; exact hj) h0
              · have h1 := HL.out j (by omega) h0
                have h2 := HN.out j hj
                rw [HX.out, HE.out]
                omega
            · have hb : (x == (m : Int)) = false := by simpa using he
              have HE := Lib.hid he
              clear he
              go_wp2
              go_roundw
              case rel => exact ⟨k + 1, by omega, by go_num, (by first | rfl | trivial), fun j hj => by
                by_cases e : j = k
                · subst e; rw [HX.out]; exact HE.out
                · exact HN.out j (by omega)⟩
              case measure => simp [intOf]; omega
          · obtain rfl : k = n := by omega
            go_wp2
            go_roundw
            case rel => exact ⟨m + 1, by omega, by go_num, (by first | rfl | trivial), fun j hj h0 => by have h1 := HL.out j hj h0; have h2 := HN.out j hj; omega⟩
            case measure => simp [intOf]; omega
      · have hmi : ¬ (m : Int) ≤ 100 := by omega
        go_wp2
        go_ret
        refine ⟨⟨-1, .inl ⟨rfl, fun j hj => ?_⟩, rfl⟩, rfl⟩
        rw [HC.out.2.2] at hj
        have h1 := HC.out.2.1 j hj
        by_cases h0 : 0 ≤ zs.getD j 0
        · have h2 := HL.out j hj h0; omega
        · omega
  obtain ⟨r, hr⟩ : ∃ r, GreedyP zs r := greedy_some zs
  exact ⟨r, hr, key.mono fun e w' ⟨⟨s, hs2, he⟩, hw⟩ => ⟨by rw [he, hs2.eq hr], hw⟩⟩

set_option maxHeartbeats 800000 in
theorem victimGreedy_any (VG : VicG) (FX : Fix15) (v : Value) (zs : List Int) (w : World) (h : Ints w v zs) (hl : zs.length ≤ 9223372036854775807) :
    Calls Try.prog 3 #[v] w fun e w' => e = .returned (.bool true) ∧ w.grownBy w' none := by
  obtain ⟨r, hr⟩ := greedy_some zs
  have V1 := fun wx (hE : w.grownBy wx none) => (show Calls Try.prog 7 #[v] wx fun e w' => e = .returned (.int .i64 r) ∧ wx.grownBy w' none from by
    obtain ⟨s, hs, hC⟩ := VG v zs wx (h.kept hE (by simp)) hl
    rw [hs.eq hr] at hC
    exact hC)
  have V2 := fun wx (hE : w.grownBy wx none) (hs : ∀ j, j < zs.length → zs.getD j 0 ≤ 100) => (show Calls Try.prog 8 #[v] wx fun e w' => e = .returned (.int .i64 r) ∧ wx = w' from by
    obtain ⟨s, hs2, hC⟩ := refGreedy_any v zs wx (h.kept hE (by simp)) hl hs
    rw [hs2.eq hr] at hC
    exact hC)
  have HI := Lib.hid h
  obtain ⟨ao, cap, hv, _⟩ := h.cells15
  obtain ⟨n, hn⟩ : ∃ n, zs.length = n := ⟨_, rfl⟩
  rw [hn] at hv hl V2
  have HN := Lib.hid hn
  have HV1 := Lib.hid V1
  have HV2 := Lib.hid V2
  subst hv
  clear h hn V1 V2
  by_cases hbig : (100 : Int) < n
  · go_enter Try.func3, Try.ntmps3
    go_wp2_with (go_at_call 6; refine (FX _).mono ?_; rintro e w2 ⟨rfl, hE2⟩)
    go_ret
    exact ⟨rfl, hE2⟩
  · go_enter Try.func3, Try.ntmps3
    go_wp2_with (go_at_call 6; refine (FX _).mono ?_; rintro e w2 ⟨rfl, hE2⟩; have HE2 := Lib.hid hE2; clear hE2)
    go_loopw [12] (fun i wr => ∃ k : Nat, k ≤ n ∧ i = .int .i64 k ∧ w2 = wr ∧ ∀ j, j < k → zs.getD j 0 ≤ 100) (fun i _ => n - (intOf i).toNat)
    case atStart => exact ⟨0, by omega, rfl, rfl, fun j hj => by omega⟩
    case round =>
      obtain ⟨k, hk, rfl, rfl, hno⟩ := hrel
      have HL := Lib.hid hno
      clear hno
      by_cases hlt : k < n
      · obtain ⟨ao2, cap2, hv, hc⟩ := (HI.out.kept HE2.out (by simp)).cells15
        obtain ⟨b, off, hao, hcell⟩ := hc k (by rw [HN.out]; exact hlt)
        simp only [Value.slice.injEq] at hv
        obtain ⟨rfl, -, -⟩ := hv
        subst hao
        obtain ⟨x, hx⟩ : ∃ z, zs.getD k 0 = z := ⟨_, rfl⟩
        rw [hx] at hcell
        have HX := Lib.hid hx
        clear hx hc
        by_cases he : 100 < x
        · go_wp2
          go_ret
          exact ⟨rfl, HE2.out⟩
        · go_wp2
          go_roundw
          case rel => exact ⟨k + 1, by omega, by go_num, (by first | rfl | trivial), fun j hj => by
            by_cases e : j = k
            · subst e; rw [HX.out]; omega
            · exact HL.out j (by omega)⟩
          case measure => simp [intOf]; omega
      · obtain rfl : k = n := by omega
        have G1 := HV1.out w2 HE2.out
        go_wp2_with (first
          | (go_at_call 7; refine G1.mono ?_; rintro e w3 ⟨rfl, hE3⟩; have HE3 := Lib.hid (g15_trans HE2.out hE3); clear hE3)
          | (go_at_call 8; refine (HV2.out _ HE3.out HL.out).mono ?_; rintro e w' ⟨rfl, rfl⟩))
        go_ret
        exact ⟨rfl, HE3.out⟩

set_option maxHeartbeats 1600000 in
theorem victimLeast_any (VG : VicG) (FX : Fix15) (v : Value) (zs : List Int) (w : World) (h : Ints w v zs) (hl : zs.length ≤ 9223372036854775807) :
    Calls Try.prog 5 #[v] w fun e w' => e = .returned (.bool true) ∧ w.grownBy w' none := by
  obtain ⟨r, hr⟩ := greedy_some zs
  have V1 := fun wx (hE : w.grownBy wx none) => (show Calls Try.prog 7 #[v] wx fun e w' => e = .returned (.int .i64 r) ∧ wx.grownBy w' none from by
    obtain ⟨s, hs, hC⟩ := VG v zs wx (h.kept hE (by simp)) hl
    rw [hs.eq hr] at hC
    exact hC)
  have HI := Lib.hid h
  obtain ⟨ao, cap, hv, _⟩ := h.cells15
  obtain ⟨n, hn⟩ : ∃ n, zs.length = n := ⟨_, rfl⟩
  rw [hn] at hv hl
  have HN := Lib.hid hn
  have HV1 := Lib.hid V1
  subst hv
  clear h hn V1
  by_cases hbig : (300 : Int) < n
  · go_enter Try.func5, Try.ntmps5
    go_wp2_with (go_at_call 6; refine (FX _).mono ?_; rintro e w2 ⟨rfl, hE2⟩)
    go_ret
    exact ⟨rfl, hE2⟩
  rcases hr with ⟨rfl, hneg⟩ | ⟨i, rfl, hi, h0, h1, h2⟩
  · have HG := Lib.hid hneg
    clear hneg
    go_enter Try.func5, Try.ntmps5
    go_wp2_with (first
      | (go_at_call 6; refine (FX _).mono ?_; rintro e w2 ⟨rfl, hE2⟩; have G1 := HV1.out w2 hE2; have HE2 := Lib.hid hE2; clear hE2)
      | (go_at_call 7; refine G1.mono ?_; rintro e w3 ⟨rfl, hE3⟩; have HE3 := Lib.hid (g15_trans HE2.out hE3); clear hE3))
    clear G1
    go_loopw [15] (fun i wr => ∃ k : Nat, k ≤ n ∧ i = .int .i64 k ∧ w3 = wr) (fun i _ => n - (intOf i).toNat)
    case atStart => exact ⟨0, by omega, rfl, rfl⟩
    case round =>
      obtain ⟨k, hk, rfl, rfl⟩ := hrel
      by_cases hlt : k < n
      · obtain ⟨ao2, cap2, hv, hc⟩ := (HI.out.kept HE3.out (by simp)).cells15
        obtain ⟨b, off, hao, hcell⟩ := hc k (by rw [HN.out]; exact hlt)
        simp only [Value.slice.injEq] at hv
        obtain ⟨rfl, -, -⟩ := hv
        subst hao
        obtain ⟨x, hx⟩ : ∃ z, zs.getD k 0 = z := ⟨_, rfl⟩
        rw [hx] at hcell
        have hxn : ¬ 0 ≤ x := by rw [← hx]; have := HG.out k (by rw [HN.out]; exact hlt); omega
        clear hx hc
        go_wp2
        go_roundw
        case rel => exact ⟨k + 1, by omega, by go_num, (by first | rfl | trivial)⟩
        case measure => simp [intOf]; omega
      · go_wp2
        go_ret
        exact ⟨rfl, HE3.out⟩
  · rw [HN.out] at hi
    have HG := Lib.hid (And.intro h0 (And.intro h1 h2))
    clear h0 h1 h2
    go_enter Try.func5, Try.ntmps5
    go_wp2_with (first
      | (go_at_call 6; refine (FX _).mono ?_; rintro e w2 ⟨rfl, hE2⟩; have G1 := HV1.out w2 hE2; have HE2 := Lib.hid hE2; clear hE2)
      | (go_at_call 7; refine G1.mono ?_; rintro e w3 ⟨rfl, hE3⟩; have HE3 := Lib.hid (g15_trans HE2.out hE3); clear hE3))
    clear G1
    obtain ⟨ao2, cap2, hv, hc⟩ := (HI.out.kept HE3.out (by simp)).cells15
    obtain ⟨b, off, hao, hci⟩ := hc i (by rw [HN.out]; exact hi)
    simp only [Value.slice.injEq] at hv
    obtain ⟨rfl, -, -⟩ := hv
    subst hao
    obtain ⟨y, hy⟩ : ∃ z, zs.getD i 0 = z := ⟨_, rfl⟩
    rw [hy] at hci
    have HY := Lib.hid hy
    have hy0 : 0 ≤ y := by rw [← hy]; exact HG.out.1
    have HC := Lib.hid hc
    clear hy hc
    go_loopw [15] (fun i wr => ∃ k : Nat, k ≤ n ∧ i = .int .i64 k ∧ w3 = wr) (fun i _ => n - (intOf i).toNat)
    case atStart => exact ⟨0, by omega, rfl, rfl⟩
    case round =>
      obtain ⟨k, hk, rfl, rfl⟩ := hrel
      by_cases hlt : k < n
      · obtain ⟨b2, off2, hao, hcell⟩ := HC.out k (by rw [HN.out]; exact hlt)
        simp only [Option.some.injEq, Addr.mk.injEq, and_true] at hao
        obtain ⟨rfl, rfl⟩ := hao
        obtain ⟨x, hx⟩ : ∃ z, zs.getD k 0 = z := ⟨_, rfl⟩
        rw [hx] at hcell
        have hle : 0 ≤ x → y ≤ x := fun g => by have := HG.out.2.1 k (by rw [HN.out]; exact hlt) (by rw [hx]; exact g); rw [HY.out, hx] at this; exact this
        have hll : 0 ≤ x → k < i → y < x := fun g e => by have := HG.out.2.2 k e (by rw [hx]; exact g); rw [HY.out, hx] at this; exact this
        clear hx
        by_cases hx0 : 0 ≤ x
        · have g1 : ¬ x < y := by have := hle hx0; omega
          by_cases hxy : y = x
          · have g2 : ¬ (k : Int) < i := by
              intro g
              have := hll hx0 (by omega)
              omega
            have g3 : (y == x) = true := by simpa using hxy
            clear hle hll hxy
            go_wp2
            go_roundw
            case rel => exact ⟨k + 1, by omega, by go_num, (by first | rfl | trivial)⟩
            case measure => simp [intOf]; omega
          · have g3 : (y == x) = false := by simpa using hxy
            clear hle hll hxy
            go_wp2
            go_roundw
            case rel => exact ⟨k + 1, by omega, by go_num, (by first | rfl | trivial)⟩
            case measure => simp [intOf]; omega
        · clear hle hll
          go_wp2
          go_roundw
          case rel => exact ⟨k + 1, by omega, by go_num, (by first | rfl | trivial)⟩
          case measure => simp [intOf]; omega
      · go_wp2
        go_ret
        exact ⟨rfl, HE3.out⟩

end Go.Proofs.Ytnfhibigidkhkaa
