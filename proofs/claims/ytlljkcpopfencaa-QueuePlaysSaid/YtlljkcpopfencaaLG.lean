/-
  Layer 20 (queue): the law's right, fixed; QueueNone.
-/
import Derived.Test.YtlljkcpopfencaaLF
import Derived.Outline
import Derived.Deep.DeepCutAuto
import Derived.Deep.Cut
import Derived.Deep.LoopGhost
namespace Go.Proofs.Ytlljkcpopfencaa
set_option linter.unusedVariables false
set_option linter.unusedSimpArgs false
set_option maxRecDepth 100000
open Go.RowKit

theorem grown_kpf {w w1 w2 : World} {F : Nat → Prop} (h : w.grownBy w1 none) (h2 : KpF F w1 w2) (hF : ∀ k, F k → w.heap.size ≤ k) : w.grownBy w2 none :=
  ⟨h2.os.trans h.os, h2.tape.trans h.tape, h2.output.trans h.output, Nat.le_trans h.size h2.size, fun k hk _ => (h2.block k (Nat.lt_of_lt_of_le hk h.size) (fun e => by have := hF k e; omega)).trans (h.block k hk (by simp))⟩
theorem fpQ_not_w {w : World} {b L : Nat} {vw vw' vd : Value} (hne : ¬ fpQ b vw vd L) (hL : L < w.heap.size) (ho : ∀ k, vw'.ownBlock = some k → vw.ownBlock = some k ∨ w.heap.size ≤ k) : ¬ fpQ b vw' vd L := fun e => by
  rcases e with e | e | e
  · exact hne (.inl e)
  · rcases ho L e with e | e
    · exact hne (.inr (.inl e))
    · omega
  · exact hne (.inr (.inr e))
theorem fpQ_not_d {w : World} {b L : Nat} {vw vd' vd : Value} (hne : ¬ fpQ b vw vd L) (hL : L < w.heap.size) (ho : ∀ k, vd'.ownBlock = some k → vd.ownBlock = some k ∨ w.heap.size ≤ k) : ¬ fpQ b vw vd' L := fun e => by
  rcases e with e | e | e
  · exact hne (.inl e)
  · exact hne (.inr (.inl e))
  · rcases ho L e with e | e
    · exact hne (.inr (.inr e))
    · omega
theorem ret_bool20 {a b : Bool} (h : a = b) : Ending.returned (.bool a) = .returned (.bool b) := by rw [h]

section
variable {w w' : World} {b : Nat} {vw vd : Value} {ws ds : List Chg}
theorem QwP.same (h : QS w b vw vd ws ds) (hg : w.grownBy w' none) : QwP w b vw vd ws ds w' :=
  ⟨vw, h.ext hg, KpF.of_grown hg (by simp), fun k hk => .inl hk⟩
theorem submit20 (h : QS w b vw vd ws ds) (c : Chg) :
    Calls Try.prog 8 #[.pointer (some ⟨b, 0, none⟩), chgV c] w fun e w' => e = .returned (.int .i64 (subE ws c)) ∧ QwP w b vw vd (subR ws c) ds w' := by
  unfold subR subE
  by_cases hc : chkQ c.pl c.kd c.dt = 0
  · rw [if_neg (by simpa using hc)]
    by_cases h8 : ws.length = 8
    · rw [if_pos h8, if_neg (by decide)]
      exact (submit_full h c hc h8).mono fun e w' ⟨a, g⟩ => ⟨a, QwP.same h g⟩
    · rw [if_neg h8, if_pos rfl]
      exact submit_ok h c hc (by have := h.wl; omega)
  · rw [if_pos hc, if_neg hc]
    exact (submit_bad h c hc).mono fun e w' ⟨a, g⟩ => ⟨a, QwP.same h g⟩
def nextF (ws : List Chg) : Chg × Bool := match ws with | [] => (noChg, false) | c :: _ => (c, true)
theorem next20 (h : QS w b vw vd ws ds) :
    Calls Try.prog 10 #[.pointer (some ⟨b, 0, none⟩)] w fun e w' => e = .returned (.tuple #[chgV (nextF ws).1, .bool (nextF ws).2]) ∧ QwP w b vw vd (ws.drop 1) ds w' := by
  cases ws with
  | nil => exact (next20_none h).mono fun e w' ⟨a, g⟩ => ⟨a, QwP.same h g⟩
  | cons c r => exact next20_some h rfl
theorem clear20w (h : QS w b vw vd ws ds) : Calls Try.prog 12 #[.pointer (some ⟨b, 0, none⟩)] w fun e w' => e = .returned (.tuple #[]) ∧ QwP w b vw vd [] ds w' :=
  (clear20 h).mono fun e w' ⟨a, v, h1, h2, h3⟩ => ⟨a, v, h1, h2, fun k hk => .inl (h3 k hk)⟩
end

set_option maxHeartbeats 800000 in
theorem right20 (o p : Int) (dt : ByteArray) (w : World) : Calls Try.prog 7 #[.agg (chgC ⟨o, p, dt⟩)] w fun e w' => e = .returned (.bool (decide (chkQ o p dt = 0))) ∧ w.grownBy w' none := by
  have hz := str_none (s := dt)
  obtain ⟨r, hr⟩ : ∃ r, decide (chkQ o p dt = 0) = r := ⟨_, rfl⟩
  rw [hr]
  have HE := Lib.hid (World.grownBy_alloc w (.cells (chgC ⟨o, p, dt⟩) 29) none)
  have hb := Blk.new w 29 (chgC ⟨o, p, dt⟩)
  have c0 := (hb.cell 0).trans (show (chgC ⟨o, p, dt⟩)[0]? = some (.int .i64 o) from rfl)
  have c1 := (hb.cell 1).trans (show (chgC ⟨o, p, dt⟩)[1]? = some (.int .i64 p) from rfl)
  have c2 := (hb.cell 2).trans (show (chgC ⟨o, p, dt⟩)[2]? = some (.string dt) from rfl)
  clear hb
  have yes : (o = 2 ∨ (dt.size = 0 ∧ (o = 1 ∨ o = 3 ∨ (o = 4 ∧ p = 0)))) → r = true := fun h => by
    rw [← hr, decide_eq_true_eq]; unfold chkQ; rw [if_neg (by omega)]
  have no : ¬ (o = 2 ∨ (dt.size = 0 ∧ (o = 1 ∨ o = 3 ∨ (o = 4 ∧ p = 0)))) → r = false := fun h => by
    rw [← hr, decide_eq_false_iff_not]; unfold chkQ; rw [if_pos (by omega)]; decide
  obtain ⟨n, hn⟩ : ∃ n, dt.size = n := ⟨_, rfl⟩
  rw [hn] at hz yes no
  have HY := Lib.hid (And.intro yes no)
  clear hr hn yes no
  by_cases h2 : o = 2
  · have b2 : (o == 2) = true := by simp [h2]
    have HK := Lib.hid h2
    clear h2 hz
    go_enter Try.func7, Try.ntmps7
    go_wp2
    go_ret
    exact ⟨ret_bool20 (HY.out.1 (.inl HK.out)).symm, HE.out⟩
  have b2 : (o == 2) = false := by simpa using h2
  by_cases hl : n = 0
  · rw [decide_eq_true hl] at hz
    by_cases h1 : o = 1
    · have b1 : (o == 1) = true := by simp [h1]
      have HK := Lib.hid (And.intro hl h1)
      clear h2 hl h1
      go_enter Try.func7, Try.ntmps7
      go_wp2
      go_ret
      exact ⟨ret_bool20 (HY.out.1 (.inr ⟨HK.out.1, .inl HK.out.2⟩)).symm, HE.out⟩
    have b1 : (o == 1) = false := by simpa using h1
    by_cases h3 : o = 3
    · have b3 : (o == 3) = true := by simp [h3]
      have HK := Lib.hid (And.intro hl h3)
      clear h2 hl h1 h3
      go_enter Try.func7, Try.ntmps7
      go_wp2
      go_ret
      exact ⟨ret_bool20 (HY.out.1 (.inr ⟨HK.out.1, .inr (.inl HK.out.2)⟩)).symm, HE.out⟩
    have b3 : (o == 3) = false := by simpa using h3
    by_cases h4 : o = 4
    · have b4 : (o == 4) = true := by simp [h4]
      by_cases hp : p = 0
      · have bp : (p == 0) = true := by simp [hp]
        have HK := Lib.hid (And.intro hl (And.intro h4 hp))
        clear h2 hl h1 h3 h4 hp
        go_enter Try.func7, Try.ntmps7
        go_wp2
        go_ret
        exact ⟨ret_bool20 (HY.out.1 (.inr ⟨HK.out.1, .inr (.inr HK.out.2)⟩)).symm, HE.out⟩
      · have bp : (p == 0) = false := by simpa using hp
        have HK := Lib.hid (show ¬ (o = 2 ∨ (n = 0 ∧ (o = 1 ∨ o = 3 ∨ (o = 4 ∧ p = 0)))) by omega)
        clear h2 hl h1 h3 h4 hp
        go_enter Try.func7, Try.ntmps7
        go_wp2
        go_ret
        exact ⟨ret_bool20 (HY.out.2 HK.out).symm, HE.out⟩
    · have b4 : (o == 4) = false := by simpa using h4
      have HK := Lib.hid (show ¬ (o = 2 ∨ (n = 0 ∧ (o = 1 ∨ o = 3 ∨ (o = 4 ∧ p = 0)))) by omega)
      clear h2 hl h1 h3 h4
      go_enter Try.func7, Try.ntmps7
      go_wp2
      go_ret
      exact ⟨ret_bool20 (HY.out.2 HK.out).symm, HE.out⟩
  · rw [decide_eq_false hl] at hz
    have HK := Lib.hid (show ¬ (o = 2 ∨ (n = 0 ∧ (o = 1 ∨ o = 3 ∨ (o = 4 ∧ p = 0)))) by omega)
    clear h2 hl
    go_enter Try.func7, Try.ntmps7
    go_wp2
    go_ret
    exact ⟨ret_bool20 (HY.out.2 HK.out).symm, HE.out⟩

def fF : Chg := ⟨4, 0, ⟨#[]⟩⟩
def fX : Chg := ⟨1, 0, ⟨#[120]⟩⟩
def fD : Chg := ⟨3, 0, ⟨#[]⟩⟩
theorem fpQ_up {b B : Nat} {vw vd : Value} {w : World} {ws ds : List Chg} (h : QS w b vw vd ws ds) (hb : B ≤ b) : ∀ k, fpQ b vw vd k → B ≤ k := fun k hk => Nat.le_trans hb (h.lt k hk).1

set_option maxHeartbeats 1600000 in
theorem fix20 (w : World) : Calls Try.prog 5 #[] w fun e w' => e = .returned (.bool true) ∧ w.grownBy w' none := by
  obtain ⟨zA, hzA⟩ : ∃ z : Int, z = 0 := ⟨0, rfl⟩
  obtain ⟨zC, hzC⟩ : ∃ z : Int, z = 1 := ⟨1, rfl⟩
  have bA : (zA == 0) = true := by rw [hzA]; rfl
  have bC : (zC == 1) = true := by rw [hzC]; rfl
  have S1 := fun wx b vw vd (h : QS wx b vw vd [] []) => submit20 h fF
  have S2 := fun wx b vw vd (h : QS wx b vw vd [fF] []) => submit20 h fX
  rw [show subE [] fF = zA by rw [hzA]; decide, show subR [] fF = [fF] by rfl] at S1
  rw [show subE [fF] fX = zC by rw [hzC]; decide, show subR [fF] fX = [fF] by rfl] at S2
  rw [chgV_is] at S1 S2
  have N1 := fun wx b vw vd (h : QS wx b vw vd [fF] []) => next20 h
  have N2 := fun wx b vw vd (h : QS wx b vw vd [] []) => next20 h
  rw [show nextF [fF] = (fF, true) from rfl, show ([fF] : List Chg).drop 1 = [] from rfl, chgV_is] at N1
  rw [show nextF [] = (noChg, false) from rfl, show ([] : List Chg).drop 1 = [] from rfl, chgV_is] at N2
  have D1 := fun wx b vw vd (h : QS wx b vw vd [] []) => done20 h fD (by decide)
  rw [chgV_is, show ([] : List Chg) ++ [fD] = [fD] from rfl] at D1
  have A1 := fun wx b vw vd (h : QS wx b vw vd [] [fD]) => all20 h (by decide)
  have L1 := fun wx b vw vd (h : QS wx b vw vd [] [fD]) => len20 h
  obtain ⟨zL, hzL⟩ : ∃ z : Int, z = (([] : List Chg).length : Int) := ⟨_, rfl⟩
  rw [← hzL] at L1
  have bL : (zL == 0) = true := by rw [hzL]; rfl
  obtain ⟨nA, hnA⟩ : ∃ n, ([fD] : List Chg).length = n := ⟨_, rfl⟩
  rw [hnA] at A1
  have bN : ((nA : Int) == 1) = true := by rw [← hnA]; rfl
  clear hzA hzC hzL hnA
  go_enter Try.func5, Try.ntmps5
  go_wp2_with (first
    | (go_at_call 6; refine (new20 _).mono ?_; rintro e w1 ⟨b, rfl, q1, hb0, hE1⟩; have HB := Lib.hid hb0; have HE1 := Lib.hid hE1; clear hb0 hE1)
    | (go_at_call 14; refine (L1 _ _ _ _ q10).mono ?_; rintro e w11 ⟨rfl, rfl⟩)
    | (go_at_call 13; refine (A1 _ _ _ _ q9).mono ?_; rintro e w10 ⟨v10, rfl, ho, hE10⟩; have q10 := q9.ext hE10; have HE10 := Lib.hid (ext_trans HE9.out hE10); obtain ⟨ao, cp, rfl⟩ := owns_shape13 ho; clear q9 hE10 ho)
    | (go_at_call 11; refine (D1 _ _ _ _ q8).mono ?_; rintro e w9 ⟨rfl, hD⟩; obtain ⟨vd9, q9, k9, _⟩ := hD; have HE9 := Lib.hid (grown_kpf HE8.out k9 (fpQ_up q8 HB.out)); have hb9 := (k9.block _ hb8.lt HL7.out).trans hb8; have c9 := (Blk.cell hb9 0).trans (show (chgC fF)[0]? = some (.int .i64 4) from rfl); clear q8 k9 hb8 hb9)
    | (refine cmd_store (c := noChg) _ _ rfl rfl rfl hB7 rfl rfl ?_; intro w8 hb8z hg8 hs8; have hE8 := grown_past13 (World.grownBy_alloc w7 _ none) hg8 (Nat.le_refl _); have q8 := q7.ext hE8; have hb8 := Blk.ext hb7 hE8; have HE8 := Lib.hid (ext_trans HE7.out hE8); clear hg8 hs8 hE8 q7 hb7 hB7 hb8z)
    | (go_at_call 10; refine (N2 _ _ _ _ q5).mono ?_; rintro e w7 ⟨rfl, hQ⟩; obtain ⟨vw7, q7, k7, o7⟩ := hQ; have hb7 := (k7.block _ hb5.lt HL.out).trans hb5; have HL7 := Lib.hid (fpQ_not_w HL.out hb5.lt o7); have HE7 := Lib.hid (grown_kpf HE5.out k7 (fpQ_up q5 HB.out)); have hB7 := Blk.new w7 29 #[.int .i64 0, .int .i64 0, .string ⟨#[]⟩]; clear q5 k7 o7 hb5)
    | (refine cmd_store (c := fF) _ _ rfl rfl rfl hB4 rfl rfl ?_; intro w5 hb5 hg5 hs5; have hE5 := grown_past13 (World.grownBy_alloc w4 _ none) hg5 (Nat.le_refl _); have q5 := q4.ext hE5; have HL := Lib.hid (show ¬ fpQ b _ _ w4.heap.size from fun e => by have := (q4.lt _ e).2; omega); have HE5 := Lib.hid (ext_trans HE4.out hE5); clear hg5 hs5 hE5 q4 hB4)
    | (go_at_call 10; refine (N1 _ _ _ _ q3).mono ?_; rintro e w4 ⟨rfl, hQ⟩; obtain ⟨vw4, q4, k4, o4⟩ := hQ; have HE4 := Lib.hid (grown_kpf HE3.out k4 (fpQ_up q3 HB.out)); have hB4 := Blk.new w4 29 #[.int .i64 0, .int .i64 0, .string ⟨#[]⟩]; clear q3 k4 o4)
    | (go_at_call 8; refine (S2 _ _ _ _ q2).mono ?_; rintro e w3 ⟨rfl, hQ⟩; obtain ⟨vw3, q3, k3, o3⟩ := hQ; have HE3 := Lib.hid (grown_kpf HE2.out k3 (fpQ_up q2 HB.out)); clear q2 k3 o3)
    | (go_at_call 8; refine (S1 _ _ _ _ q1).mono ?_; rintro e w2 ⟨rfl, hQ⟩; obtain ⟨vw2, q2, k2, o2⟩ := hQ; have HE2 := Lib.hid (grown_kpf HE1.out k2 (fpQ_up q1 HB.out)); clear q1 k2 o2))
  go_ret
  exact ⟨rfl, HE10.out⟩

set_option maxHeartbeats 800000 in
theorem queueNone_any (c d : Chg) (w : World) : Calls Try.prog 4 #[chgV c, chgV d] w fun e w' => e = .returned (.bool true) ∧ w.grownBy w' none := by
  have hE1 := World.grownBy_alloc w (.cells (chgC c) 29) none
  have hb1 := Blk.new w 29 (chgC c)
  obtain ⟨L, hL⟩ : ∃ z, w.heap.size = z := ⟨_, rfl⟩
  obtain ⟨w1, hw1⟩ : ∃ y, w.alloc (.cells (chgC c) 29) = y := ⟨_, rfl⟩
  rw [hw1] at hE1 hb1
  rw [hL] at hb1
  have hE2 := World.grownBy_alloc w1 (.cells (chgC d) 32) none
  have hd2 := Blk.new w1 32 (chgC d)
  have hb2 := hb1.ext hE2
  obtain ⟨L2, hL2⟩ : ∃ z, w1.heap.size = z := ⟨_, rfl⟩
  obtain ⟨w2, hw2⟩ : ∃ y, w1.alloc (.cells (chgC d) 32) = y := ⟨_, rfl⟩
  rw [hw2] at hE2 hb2 hd2
  rw [hL2] at hd2
  have HE2 := Lib.hid (ext_trans hE1 hE2)
  rw [chgV_is, chgV_is]
  clear hb1 hE1 hE2
  obtain ⟨z1, hz1⟩ : ∃ z : Int, z = 1 := ⟨1, rfl⟩
  have SUB := fun wx => nil_submit wx c
  rw [← hz1, chgV_is] at SUB
  have hzb : (z1 == 1) = true := by rw [hz1]; rfl
  have DON := fun wx => nil_done wx d
  rw [chgV_is] at DON
  clear hz1
  go_enter Try.func4, Try.ntmps4
  go_upto_region 1 with fail
  clear hL hw1 hL2 hw2
  go_wp2_with (first
    | (go_at_call 5; refine (fix20 _).mono ?_; rintro e w3 ⟨rfl, hE3⟩; have hb3 := hb2.ext hE3; have hd3 := hd2.ext hE3; have HE3 := Lib.hid (ext_trans HE2.out hE3); clear hE3 hb2 hd2)
    | (refine dne_loadC rfl _ rfl rfl (Blk.range hd3 0 3 rfl) ?_)
    | (go_at_call 11; refine (DON _).mono ?_; rintro e w4 ⟨rfl, hE4⟩; have hb4 := hb3.ext hE4; have HE4 := Lib.hid (ext_trans HE3.out hE4); clear hE4 hb3 hd3)
    | (go_at_call 12; refine (nil_clear _).mono ?_; rintro e w5 ⟨rfl, rfl⟩)
    | (go_at_call 10; refine (nil_next _).mono ?_; rintro e w6 ⟨rfl, hE6⟩; have hb6 := hb4.ext hE6; have HE6 := Lib.hid (ext_trans HE4.out hE6); have hB6 := Blk.new w6 29 #[.int .i64 0, .int .i64 0, .string ⟨#[]⟩]; clear hE6 hb4)
    | (refine cmd_store (c := noChg) _ _ rfl rfl rfl hB6 rfl rfl ?_; intro w8 hb8z hg8 hs8; have hE8 := grown_past13 (World.grownBy_alloc w6 _ none) hg8 (Nat.le_refl _); have hb8 := hb6.ext hE8; have HE8 := Lib.hid (ext_trans HE6.out hE8); clear hg8 hs8 hE8 hb6 hB6 hb8z)
    | (refine cmd_loadC rfl _ rfl rfl (Blk.range hb8 0 3 rfl) ?_)
    | (go_at_call 8; refine (SUB _).mono ?_; rintro e w9 ⟨rfl, hE9⟩; have HE9 := Lib.hid (ext_trans HE8.out hE9); clear hE9 hb8)
    | (go_at_call 14; refine (nil_len _).mono ?_; rintro e w10 ⟨rfl, rfl⟩)
    | (go_at_call 13; refine (nil_all _).mono ?_; rintro e w10 ⟨rfl, rfl⟩))
  go_ret
  exact ⟨rfl, HE9.out⟩

end Go.Proofs.Ytlljkcpopfencaa
