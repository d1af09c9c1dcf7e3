/-
  Layer 17: which blocks may go: what it is; the document's Seq, Go.
-/
import Derived.Test.YtigfohofbpjldaaHB
namespace Go.Proofs.Ytigfohofbpjldaa
set_option linter.unusedVariables false
set_option linter.unusedSimpArgs false
set_option maxRecDepth 100000
open Go.RowKit

/-- In these blocks, and the tenant's. -/
def inB (B tn ep : Int) (f : Fnd) : Bool := decide (0 ≤ f.bk) && (decide (f.bk < B) && mineF tn ep f)
def seqStep (B tn ep : Int) (n : Int) (f : Fnd) : Int := if inB B tn ep f && decide (n < f.sq + 1) then f.sq + 1 else n
def seqN (B tn ep : Int) (L : List Fnd) : Int := L.foldl (seqStep B tn ep) 0
theorem seqN_snoc (B tn ep : Int) (L : List Fnd) (f : Fnd) : seqN B tn ep (L ++ [f]) = seqStep B tn ep (seqN B tn ep L) f := by unfold seqN; rw [List.foldl_append]; rfl
/-- Tags of pages that aren't torn may be. -/
def OkL (L : List Fnd) : Prop := ∀ f ∈ L, f.torn = false → okB f.te f.ep f.pl f.sq f.kd = true
theorem okB_sq {a b c d k : Int} (h : okB a b c d k = true) : (0 ≤ c ∧ c ≤ 63) ∧ 0 ≤ d ∧ d ≤ 2147483647 := by
  unfold okB at h
  rw [List.all_eq_true] at h
  have h2 := h 2 (by decide)
  have h3 := h 3 (by decide)
  simp [ffr, fto, nth] at h2 h3
  omega
theorem mine_torn {tn ep : Int} {f : Fnd} (h : mineF tn ep f = true) : f.torn = false := by
  unfold mineF at h
  cases ht : f.torn
  · rfl
  · rw [ht] at h; simp at h
theorem getD_mem17 {L : List Fnd} {k : Nat} {f : Fnd} (hk : k < L.length) (hf : L.getD k noF = f) : f ∈ L := by
  rw [List.getD_eq_getElem?_getD, List.getElem?_eq_getElem hk] at hf
  have h2 : L[k] = f := hf
  rw [← h2]
  exact List.getElem_mem hk

set_option maxHeartbeats 1600000 in
theorem seq17_any (lv : Value) (L : List Fnd) (B tn ep : Int) (w : World) (h : RowF w lv L) (hl : L.length ≤ 1000) (hok : OkL L) :
    Calls Try.prog 11 #[lv, .int .i64 B, .int .i64 tn, .int .i64 ep] w fun e w' => e = .returned (.int .i64 (seqN B tn ep L)) ∧ w.grownBy w' none := by
  have HR := Lib.hid h
  obtain ⟨ao, cap, hv, _⟩ := h
  obtain ⟨n, hn⟩ : ∃ n, L.length = n := ⟨_, rfl⟩
  rw [hn] at hv hl
  subst hv
  have HN := Lib.hid (And.intro hn hok)
  obtain ⟨q, hq⟩ : ∃ q, seqN B tn ep L = q := ⟨_, rfl⟩
  rw [hq]
  have HQ := Lib.hid hq
  clear hn hok hq
  go_enter Try.func11, Try.ntmps11
  go_wp2
  go_loopw [9, 14] (fun s i wr => ∃ (k : Nat) (x : Int), k ≤ n ∧ i = .int .i64 k ∧ s = .int .i64 x ∧ x = seqN B tn ep (L.take k) ∧ 0 ≤ x ∧ x ≤ 2147483648 ∧ w.grownBy wr none) (fun _ i _ => n - (intOf i).toNat)
  case atStart => exact ⟨0, 0, by omega, rfl, rfl, rfl, by omega, by omega, Ext.refl w⟩
  case round =>
    obtain ⟨k, x, hk, rfl, rfl, hx, hx0, hx1, hE⟩ := hrel
    obtain ⟨wo, rfl⟩ : ∃ wo : World, wo = wr := ⟨_, rfl⟩
    have HE := Lib.hid hE
    have HX := Lib.hid hx
    clear hE hx
    by_cases hlt : k < n
    · obtain ⟨f, hf⟩ : ∃ f, L.getD k noF = f := ⟨_, rfl⟩
      obtain ⟨ao2, cap2, hv2, hc2⟩ := HR.out.ext HE.out
      obtain ⟨b, off, hao, hr⟩ := hc2 k (by rw [HN.out.1]; exact hlt)
      simp only [Value.slice.injEq] at hv2
      obtain ⟨rfl, -, -⟩ := hv2
      subst hao
      rw [hf] at hr
      have HF := Lib.hid (take17 (by rw [HN.out.1]; exact hlt) hf)
      have HME := Lib.hid (getD_mem17 (by rw [HN.out.1]; exact hlt) hf)
      have hBn := Blk.new wo 36 (fndC noF)
      clear hf hc2
      go_upto_region 5 with (first
        | (refine fnd_load rfl _ rfl rfl hr ?_)
        | (refine fnd_store _ _ rfl rfl rfl hBn rfl rfl ?_; intro w2 hb2 hg2 hs2; have hE2 := g17_new (World.grownBy_alloc wo _ none) hg2 (Nat.le_refl _); have HE2 := Lib.hid hE2; have HC2 := Lib.hid (FCells.of hb2); clear hBn hg2 hs2 hE2))
      clear hr
      obtain ⟨x0, hx0'⟩ : ∃ z, f.bk = z := ⟨_, rfl⟩
      obtain ⟨x6, hx6⟩ : ∃ z, f.sq = z := ⟨_, rfl⟩
      obtain ⟨m, hm⟩ : ∃ z, mineF tn ep f = z := ⟨_, rfl⟩
      have d0 := HC2.out.bk
      have d6 := HC2.out.sq
      rw [hx0'] at d0
      rw [hx6] at d6
      have MINE := fun wx => mine17_any f tn ep wx
      rw [hm] at MINE
      have hcnt : inB B tn ep f = (decide (0 ≤ x0) && (decide (x0 < B) && m)) := by unfold inB; rw [hx0', hm]
      have hs6 : m = true → 0 ≤ x6 ∧ x6 ≤ 2147483647 := fun e => by
        have h1 := okB_sq (HN.out.2 f HME.out (mine_torn (hm.trans e)))
        rw [hx6] at h1
        exact h1.2
      have hstep : seqN B tn ep (L.take (k + 1)) = if (decide (0 ≤ x0) && (decide (x0 < B) && m)) && decide (x < x6 + 1) then x6 + 1 else x := by
        rw [HF.out, seqN_snoc, ← HX.out]
        unfold seqStep
        rw [hcnt, hx6]
      have HST := Lib.hid hstep
      clear hcnt hx0' hx6 hm hstep HF HME
      by_cases h0 : 0 ≤ x0
      · have b0 : decide (0 ≤ x0) = true := by simpa using h0
        by_cases h1 : x0 < B
        · have b1 : decide (x0 < B) = true := by simpa using h1
          cases m
          · clear h0 h1 hs6
            go_wp2_with (first
              | (refine fnd_load rfl _ rfl rfl HC2.out.blk.range17 ?_)
              | (go_at_call 13; refine (MINE _).mono ?_; rintro e w3 ⟨rfl, hE3⟩; have HE3 := Lib.hid (ext_trans HE2.out hE3); clear hE3))
            go_roundw
            case rel => exact ⟨k + 1, x, by omega, by go_num, rfl, by rw [HST.out, b0, b1]; rfl, hx0, hx1, ext_trans HE.out HE3.out⟩
            case measure => simp [intOf]; omega
          · obtain ⟨h6, h66⟩ := hs6 rfl
            clear h0 h1
            by_cases h2 : x < x6 + 1
            · have b2 : decide (x < x6 + 1) = true := by simpa using h2
              go_wp2_with (first
                | (refine fnd_load rfl _ rfl rfl HC2.out.blk.range17 ?_)
                | (go_at_call 13; refine (MINE _).mono ?_; rintro e w3 ⟨rfl, hE3⟩; have d6 := hE3.cell d6 (by simp); have HE3 := Lib.hid (ext_trans HE2.out hE3); clear hE3))
              go_roundw
              case rel => exact ⟨k + 1, x6 + 1, by omega, by go_num, rfl, by rw [HST.out, b0, b1, b2]; rfl, by omega, by omega, ext_trans HE.out HE3.out⟩
              case measure => simp [intOf]; omega
            · have b2 : decide (x < x6 + 1) = false := by simpa using h2
              go_wp2_with (first
                | (refine fnd_load rfl _ rfl rfl HC2.out.blk.range17 ?_)
                | (go_at_call 13; refine (MINE _).mono ?_; rintro e w3 ⟨rfl, hE3⟩; have d6 := hE3.cell d6 (by simp); have HE3 := Lib.hid (ext_trans HE2.out hE3); clear hE3))
              go_roundw
              case rel => exact ⟨k + 1, x, by omega, by go_num, rfl, by rw [HST.out, b0, b1, b2]; rfl, hx0, hx1, ext_trans HE.out HE3.out⟩
              case measure => simp [intOf]; omega
        · have b1 : decide (x0 < B) = false := by simpa using h1
          clear h0 h1 hs6
          go_wp2
          go_roundw
          case rel => exact ⟨k + 1, x, by omega, by go_num, rfl, by rw [HST.out, b0, b1]; rfl, hx0, hx1, ext_trans HE.out HE2.out⟩
          case measure => simp [intOf]; omega
      · have b0 : decide (0 ≤ x0) = false := by simpa using h0
        clear h0 hs6
        go_wp2
        go_roundw
        case rel => exact ⟨k + 1, x, by omega, by go_num, rfl, by rw [HST.out, b0]; rfl, hx0, hx1, ext_trans HE.out HE2.out⟩
        case measure => simp [intOf]; omega
    · obtain rfl : k = n := by omega
      have hh := HX.out
      rw [List.take_of_length_le (by rw [HN.out.1]; exact Nat.le_refl _), HQ.out] at hh
      subst hh
      go_wp2
      go_ret
      exact ⟨rfl, HE.out⟩

end Go.Proofs.Ytigfohofbpjldaa
