/-
  Layer 17: the law's same, may.
-/
import Derived.Test.YtigfohofbpjldaaHE
namespace Go.Proofs.Ytigfohofbpjldaa
set_option linter.unusedVariables false
set_option linter.unusedSimpArgs false
set_option maxRecDepth 100000
open Go.RowKit

/-- Two numbers stand there. -/
def TwoI (b off b2 off2 k : Nat) (x y : Int) (w : World) : Prop := w.cell? ⟨b, off + k, none⟩ = some (.int .i64 x) ∧ w.cell? ⟨b2, off2 + k, none⟩ = some (.int .i64 y)
set_option maxHeartbeats 800000 in
theorem same17_any (v u : Value) (xs ys : List Int) (w : World) (hv : Ints w v xs) (hu : Ints w u ys) (hl : xs.length ≤ 1000000) (hl2 : ys.length ≤ 1000000) :
    Calls Try.prog 9 #[v, u] w fun e w' => e = .returned (.bool (decide (xs = ys))) ∧ w.grownBy w' none := by
  obtain ⟨ao, cap, b, off, rfl, hc⟩ := hv.form
  obtain ⟨bo, cap2, b2, off2, rfl, hd⟩ := hu.form
  obtain ⟨r, hr⟩ : ∃ r, decide (xs = ys) = r := ⟨_, rfl⟩
  rw [hr]
  obtain ⟨n, hn⟩ : ∃ n, xs.length = n := ⟨_, rfl⟩
  obtain ⟨m, hm⟩ : ∃ n, ys.length = n := ⟨_, rfl⟩
  rw [hn] at hl hc ⊢
  rw [hm] at hl2 hd ⊢
  have HH := Lib.hid (And.intro hc (And.intro hd (And.intro hr (And.intro hn hm))))
  clear hv hu hc hd hr hn hm
  by_cases hnm : n = m
  · have hne : ((n : Int) != (m : Int)) = false := by simp [hnm]
    have HNM := Lib.hid hnm
    clear hnm
    go_enter Try.func9, Try.ntmps9
    go_wp2
    clear hne
    go_loopw [13] (fun i wr => ∃ k : Nat, k ≤ n ∧ i = .int .i64 k ∧ w.grownBy wr none ∧ ∀ j, j < k → xs.getD j 0 = ys.getD j 0) (fun i _ => n - (intOf i).toNat)
    case atStart => exact ⟨0, by omega, rfl, Ext.refl w, fun j hj => by omega⟩
    case round =>
      obtain ⟨k, hk, rfl, hE, hsame⟩ := hrel
      have HE := Lib.hid hE
      have HS := Lib.hid hsame
      clear hE hsame
      by_cases hlt : k < n
      · have hkm : k < m := by have := HNM.out; omega
        obtain ⟨rfl, h1⟩ := HH.out.1 k hlt
        obtain ⟨rfl, h2⟩ := HH.out.2.1 k hkm
        obtain ⟨x, hx⟩ : ∃ z, xs.getD k 0 = z := ⟨_, rfl⟩
        obtain ⟨y, hy⟩ : ∃ z, ys.getD k 0 = z := ⟨_, rfl⟩
        rw [hx] at h1
        rw [hy] at h2
        have hS : TwoI b off b2 off2 k x y wr.drew := ⟨(ext_trans HE.out (Ext.drew wr)).cell h1 (by simp), (ext_trans HE.out (Ext.drew wr)).cell h2 (by simp)⟩
        have HX := Lib.hid (And.intro hx hy)
        clear h1 h2 hx hy
        by_cases he : x = y
        · subst he
          go_wp2
          refine region_line [(0, true), (1, true), (2, true), (3, true), (4, true), (5, true), (6, true), (7, true), (8, true)] (TwoI b off b2 off2 k x x) (by kernel_rfl) (by kernel_rfl) (fun _ _ _ d _ h => by cases d <;> exact h) hS ?_
          iterate 9 (refine line_read (a' := ?_) rfl (by kernel_rfl) (by kernel_rfl) hS (fun x0 hx K hK => ?_) ?_; rotate_left; · (obtain ⟨d1, d2⟩ := hx; go_wp2; exact hK))
          refine line_end ?_
          clear hS
          go_wp2
          go_roundw
          case rel => exact ⟨k + 1, by omega, by go_num, ext_trans HE.out (Ext.drew wr), fun j hj => by
            by_cases e : j = k
            · subst e; rw [HX.out.1, HX.out.2]
            · exact HS.out j (by omega)⟩
          case measure => simp [intOf]; omega
        · have hb : (x != y) = true := by simpa using he
          have HXY := Lib.hid he
          clear he
          go_wp2
          refine region_line [(0, true), (1, true), (2, true), (3, true), (4, true), (5, true), (6, true), (7, true), (8, true)] (TwoI b off b2 off2 k x y) (by kernel_rfl) (by kernel_rfl) (fun _ _ _ d _ h => by cases d <;> exact h) hS ?_
          iterate 9 (refine line_read (a' := ?_) rfl (by kernel_rfl) (by kernel_rfl) hS (fun x0 hx K hK => ?_) ?_; rotate_left; · (obtain ⟨d1, d2⟩ := hx; go_wp2; exact hK))
          refine line_end ?_
          clear hS
          go_wp2
          go_ret
          refine ⟨?_, ext_trans HE.out (Ext.drew wr)⟩
          have h3 : decide (xs = ys) = false := decide_eq_false fun h => HXY.out (by rw [← HX.out.1, ← HX.out.2, h])
          show Ending.returned (.bool false) = .returned (.bool r)
          rw [← HH.out.2.2.1, h3]
      · obtain rfl : k = n := by omega
        go_wp2
        go_ret
        refine ⟨?_, HE.out⟩
        have h3 : decide (xs = ys) = true := decide_eq_true (List.ext_getElem ((HH.out.2.2.2.1.trans HNM.out).trans HH.out.2.2.2.2.symm) fun j h1 h2 => by
          have h4 := HS.out j (by rw [HH.out.2.2.2.1] at h1; exact h1)
          rw [List.getD_eq_getElem?_getD, List.getD_eq_getElem?_getD, List.getElem?_eq_getElem h1, List.getElem?_eq_getElem h2] at h4
          exact h4)
        show Ending.returned (.bool true) = .returned (.bool r)
        rw [← HH.out.2.2.1, h3]
  · have hne : ((n : Int) != (m : Int)) = true := by simp; omega
    have HNM := Lib.hid hnm
    clear hnm
    go_enter Try.func9, Try.ntmps9
    go_wp2
    go_ret
    refine ⟨?_, Ext.refl w⟩
    have h3 : decide (xs = ys) = false := decide_eq_false fun h => HNM.out (by have h1 := HH.out.2.2.2.1; have h2 := HH.out.2.2.2.2; rw [h] at h1; omega)
    show Ending.returned (.bool false) = .returned (.bool r)
    rw [← HH.out.2.2.1, h3]

/-- May a row be asked? -/
def okF (f : Fnd) : Bool := f.torn || okB f.te f.ep f.pl f.sq f.kd
def mayL (L : List Fnd) (B : Int) : Bool := L.all okF && (decide (L.length ≤ 60) && decide (B ≤ 64))
set_option maxHeartbeats 1600000 in
theorem may17_any (lv : Value) (L : List Fnd) (B : Int) (w : World) (h : RowF w lv L) (hl : L.length ≤ 9223372036854775807) :
    Calls Try.prog 7 #[lv, .int .i64 B] w fun e w' => e = .returned (.bool (mayL L B)) ∧ w.grownBy w' none := by
  have HR := Lib.hid h
  obtain ⟨ao, cap, hv, _⟩ := h
  obtain ⟨n, hn⟩ : ∃ n, L.length = n := ⟨_, rfl⟩
  obtain ⟨r, hr⟩ : ∃ r, mayL L B = r := ⟨_, rfl⟩
  rw [hn] at hv hl
  rw [hr]
  subst hv
  have HN := Lib.hid (And.intro hn hr)
  clear hn hr
  go_enter Try.func7, Try.ntmps7
  go_wp2
  go_loopw [9] (fun i wr => ∃ k : Nat, k ≤ n ∧ i = .int .i64 k ∧ (L.take k).all okF = true ∧ w.grownBy wr none) (fun i _ => n - (intOf i).toNat)
  case atStart => exact ⟨0, by omega, rfl, rfl, Ext.refl w⟩
  case round =>
    obtain ⟨k, hk, rfl, hall, hE⟩ := hrel
    obtain ⟨wo, rfl⟩ : ∃ wo : World, wo = wr := ⟨_, rfl⟩
    have HE := Lib.hid hE
    have HA := Lib.hid hall
    clear hE hall
    by_cases hlt : k < n
    · obtain ⟨f, hf⟩ : ∃ f, L.getD k noF = f := ⟨_, rfl⟩
      obtain ⟨ao2, cap2, hv2, hc2⟩ := HR.out.ext HE.out
      obtain ⟨b, off, hao, hr⟩ := hc2 k (by rw [HN.out.1]; exact hlt)
      simp only [Value.slice.injEq] at hv2
      obtain ⟨rfl, -, -⟩ := hv2
      subst hao
      rw [hf] at hr
      have HF := Lib.hid (take17 (by rw [HN.out.1]; exact hlt) hf)
      have HME := Lib.hid (getD_mem17 (by rw [HN.out.1]; exact hlt) hf)
      have hBn := Blk.new wo 36 (fndC noF)
      clear hf hc2
      go_upto_region 4 with (first
        | (refine fnd_load rfl _ rfl rfl hr ?_)
        | (refine fnd_store _ _ rfl rfl rfl hBn rfl rfl ?_; intro w2 hb2 hg2 hs2; have HE2 := Lib.hid (ext_trans HE.out (g17_new (World.grownBy_alloc wo _ none) hg2 (Nat.le_refl _))); have d2 := (FCells.of hb2).torn; have hbf := hb2; clear hBn hg2 hs2 hb2))
      clear hr
      obtain ⟨x2, hx2⟩ : ∃ z, f.torn = z := ⟨_, rfl⟩
      obtain ⟨ok, hok⟩ : ∃ z, okB f.te f.ep f.pl f.sq f.kd = z := ⟨_, rfl⟩
      rw [hx2] at d2
      have RG := fun wx => refRight_any f.te f.ep f.pl f.sq f.kd f.cp wx
      rw [hok] at RG
      have HO := Lib.hid (show okF f = (x2 || ok) by unfold okF; rw [hx2, hok])
      clear hx2 hok
      cases x2
      · cases ok
        · go_wp2_with (first
            | (refine tag_load17 rfl _ rfl rfl hbf ?_)
            | (go_at_call 16; refine (RG _).mono ?_; rintro e w3 ⟨rfl, hw3⟩; have HE3 := Lib.hid (show w.grownBy w3 none by subst hw3; exact ext_trans HE2.out (World.grownBy_alloc _ _ none)); clear hw3))
          go_ret
          refine ⟨?_, HE3.out⟩
          have h3 : mayL L B = false := by
            unfold mayL
            have : L.all okF = false := by
              rw [List.all_eq_false]
              exact ⟨f, HME.out, by rw [HO.out]; simp⟩
            rw [this]
            rfl
          show Ending.returned (.bool false) = .returned (.bool r)
          rw [← HN.out.2, h3]
        · go_wp2_with (first
            | (refine tag_load17 rfl _ rfl rfl hbf ?_)
            | (go_at_call 16; refine (RG _).mono ?_; rintro e w3 ⟨rfl, hw3⟩; have HE3 := Lib.hid (show w.grownBy w3 none by subst hw3; exact ext_trans HE2.out (World.grownBy_alloc _ _ none)); clear hw3))
          go_roundw
          case rel => exact ⟨k + 1, by omega, by go_num, by rw [HF.out, all_snoc17, HA.out, HO.out]; rfl, HE3.out⟩
          case measure => simp [intOf]; omega
      · go_wp2
        go_roundw
        case rel => exact ⟨k + 1, by omega, by go_num, by rw [HF.out, all_snoc17, HA.out, HO.out]; rfl, HE2.out⟩
        case measure => simp [intOf]; omega
    · obtain rfl : k = n := by omega
      have hall := HA.out
      rw [List.take_of_length_le (by rw [HN.out.1]; exact Nat.le_refl _)] at hall
      have HML := Lib.hid (show r = (decide (k ≤ 60) && decide (B ≤ 64)) by rw [← HN.out.2]; unfold mayL; rw [hall, HN.out.1]; rfl)
      clear hall
      by_cases h6 : (k : Int) ≤ 60
      · by_cases h7 : B ≤ 64
        · go_wp2
          go_ret
          refine ⟨?_, HE.out⟩
          show Ending.returned (.bool _) = .returned (.bool r)
          rw [HML.out, decide_eq_true (show k ≤ 60 by omega)]
          simp
          omega
        · go_wp2
          go_ret
          refine ⟨?_, HE.out⟩
          show Ending.returned (.bool _) = .returned (.bool r)
          rw [HML.out, decide_eq_true (show k ≤ 60 by omega)]
          simp
          omega
      · go_wp2
        go_ret
        refine ⟨?_, HE.out⟩
        show Ending.returned (.bool _) = .returned (.bool r)
        rw [HML.out, decide_eq_false (show ¬ k ≤ 60 by omega)]
        simp

end Go.Proofs.Ytigfohofbpjldaa
