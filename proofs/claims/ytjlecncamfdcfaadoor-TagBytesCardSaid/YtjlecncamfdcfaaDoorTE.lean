/-
  The laws of layer 8: what is written is read; fixed.
-/
import Derived.Test.YtjlecncamfdcfaaDoorTD
namespace Go.Proofs.YtjlecncamfdcfaaDoor
open Go.RowKit

theorem num_leB {x : Int} {n : Nat} {r : List Int} (hn : n = 1 ∨ n = 4) (h0 : 0 ≤ x) (h1 : x < 256 ^ n) :
    numV n (leB x n ++ r) 0 = x ∧ numX n (leB x n ++ r) 0 = r ∧ numE n (leB x n ++ r) 0 = 0 := by
  have hs : sizeB (n : Int) = true := by rcases hn with rfl | rfl <;> decide
  have hl : ((n : Nat) : Int) ≤ ((leB x n ++ r).length : Int) := by rw [List.length_append, leB_len]; omega
  obtain ⟨e1, e2, e3⟩ := num_ok hs hl
  refine ⟨?_, ?_, e3⟩
  · rw [e1, Int.toNat_natCast, List.take_left' (leB_len x n), leV_leB n h0 h1]
  · rw [e2, Int.toNat_natCast, List.drop_left' (leB_len x n)]

/-- What is written is read. -/
theorem rd_back {a b c d k : Int} {p : Bool} (h : okB a b c d k = true) :
    nv (tagL a b c d k p) 0 = a ∧ nv (tagL a b c d k p) 1 = b ∧ nv (tagL a b c d k p) 2 = c ∧ nv (tagL a b c d k p) 3 = d ∧ nv (tagL a b c d k p) 4 = k ∧ cpB (tagL a b c d k p) = p ∧ dnE (tagL a b c d k p) = 0 := by
  have hA := okB_all h
  have b0 := hA 0 (by decide)
  have b1 := hA 1 (by decide)
  have b2 := hA 2 (by decide)
  have b3 := hA 3 (by decide)
  have b4 := hA 4 (by decide)
  simp [ffr, fto, nth] at b0 b1 b2 b3 b4
  have e : tagL a b c d k p = leB a 1 ++ (leB b 4 ++ (leB c 1 ++ (leB d 4 ++ (leB k 1 ++ (leB (bitI p) 1 ++ []))))) := by
    simp [tagL, pre, fsz, nth]
  have hp : 0 ≤ bitI p ∧ bitI p ≤ 1 := by cases p <;> decide
  obtain ⟨v0, x0, y0⟩ := num_leB (x := a) (n := 1) (r := leB b 4 ++ (leB c 1 ++ (leB d 4 ++ (leB k 1 ++ (leB (bitI p) 1 ++ []))))) (.inl rfl) (by omega) (by show a < 256; omega)
  obtain ⟨v1, x1, y1⟩ := num_leB (x := b) (n := 4) (r := leB c 1 ++ (leB d 4 ++ (leB k 1 ++ (leB (bitI p) 1 ++ [])))) (.inr rfl) (by omega) (by show b < 4294967296; omega)
  obtain ⟨v2, x2, y2⟩ := num_leB (x := c) (n := 1) (r := leB d 4 ++ (leB k 1 ++ (leB (bitI p) 1 ++ []))) (.inl rfl) (by omega) (by show c < 256; omega)
  obtain ⟨v3, x3, y3⟩ := num_leB (x := d) (n := 4) (r := leB k 1 ++ (leB (bitI p) 1 ++ [])) (.inr rfl) (by omega) (by show d < 4294967296; omega)
  obtain ⟨v4, x4, y4⟩ := num_leB (x := k) (n := 1) (r := leB (bitI p) 1 ++ []) (.inl rfl) (by omega) (by show k < 256; omega)
  obtain ⟨v5, x5, y5⟩ := num_leB (x := bitI p) (n := 1) (r := []) (.inl rfl) (by omega) (by show bitI p < 256; omega)
  rw [e]
  have s0 : fsz 0 = ((1 : Nat) : Int) := rfl
  have s1 : fsz 1 = ((4 : Nat) : Int) := rfl
  have s2 : fsz 2 = ((1 : Nat) : Int) := rfl
  have s3 : fsz 3 = ((4 : Nat) : Int) := rfl
  have s4 : fsz 4 = ((1 : Nat) : Int) := rfl
  have r1 : rdp (leB a 1 ++ (leB b 4 ++ (leB c 1 ++ (leB d 4 ++ (leB k 1 ++ (leB (bitI p) 1 ++ [])))))) 1 = (leB b 4 ++ (leB c 1 ++ (leB d 4 ++ (leB k 1 ++ (leB (bitI p) 1 ++ [])))), 0) := by
    simp only [rdp, s0, x0, y0]
  have r2 : rdp (leB a 1 ++ (leB b 4 ++ (leB c 1 ++ (leB d 4 ++ (leB k 1 ++ (leB (bitI p) 1 ++ [])))))) 2 = (leB c 1 ++ (leB d 4 ++ (leB k 1 ++ (leB (bitI p) 1 ++ []))), 0) := by
    rw [rdp, r1]; simp only [s1, x1, y1]
  have r3 : rdp (leB a 1 ++ (leB b 4 ++ (leB c 1 ++ (leB d 4 ++ (leB k 1 ++ (leB (bitI p) 1 ++ [])))))) 3 = (leB d 4 ++ (leB k 1 ++ (leB (bitI p) 1 ++ [])), 0) := by
    rw [rdp, r2]; simp only [s2, x2, y2]
  have r4 : rdp (leB a 1 ++ (leB b 4 ++ (leB c 1 ++ (leB d 4 ++ (leB k 1 ++ (leB (bitI p) 1 ++ [])))))) 4 = (leB k 1 ++ (leB (bitI p) 1 ++ []), 0) := by
    rw [rdp, r3]; simp only [s3, x3, y3]
  have r5 : rdp (leB a 1 ++ (leB b 4 ++ (leB c 1 ++ (leB d 4 ++ (leB k 1 ++ (leB (bitI p) 1 ++ [])))))) 5 = (leB (bitI p) 1 ++ [], 0) := by
    rw [rdp, r4]; simp only [s4, x4, y4]
  refine ⟨?_, ?_, ?_, ?_, ?_, ?_, ?_⟩
  · simp only [nv, rdp, s0, v0]
  · rw [nv, r1]; simp only [s1, v1]
  · rw [nv, r2]; simp only [s2, v2]
  · rw [nv, r3]; simp only [s3, v3]
  · rw [nv, r4]; simp only [s4, v4]
  · rw [cpB, r5]
    have : numV 1 (leB (bitI p) 1 ++ []) 0 = bitI p := v5
    simp only [flagB, this]
    cases p <;> decide
  · rw [dnE, lstX, lstE, r5]
    have h1 : numV 1 (leB (bitI p) 1 ++ []) 0 = bitI p := v5
    have h2 : numX 1 (leB (bitI p) 1 ++ []) 0 = [] := x5
    have h3 : numE 1 (leB (bitI p) 1 ++ []) 0 = 0 := y5
    simp only [flagE, h1, h2, h3]
    rw [if_neg (by omega)]
    rfl

theorem ps_back {a b c d k : Int} {p : Bool} (h : okB a b c d k = true) :
    psE (frL 84 (tagL a b c d k p)) = 0 ∧ psN (frL 84 (tagL a b c d k p)) 0 = a ∧ psN (frL 84 (tagL a b c d k p)) 1 = b ∧ psN (frL 84 (tagL a b c d k p)) 2 = c ∧ psN (frL 84 (tagL a b c d k p)) 3 = d ∧ psN (frL 84 (tagL a b c d k p)) 4 = k ∧ psP (frL 84 (tagL a b c d k p)) = p := by
  have hl := tagL_len a b c d k p
  have hob := open_back (k := 84) (body := tagL a b c d k p) (rest := []) (by decide) (by decide) (by omega)
  rw [List.append_nil] at hob
  have w1 : whE (frL 84 (tagL a b c d k p)) 84 = 0 := by unfold whE; rw [if_pos hob.2.1, if_pos ⟨by rw [hob.2.2.2.2, frL_len]; rfl, hob.2.2.1⟩]
  have w2 : whB (frL 84 (tagL a b c d k p)) 84 = tagL a b c d k p := by unfold whB; rw [if_pos w1]; exact hob.2.2.2.1
  obtain ⟨e0, e1, e2, e3, e4, e5, e6⟩ := rd_back (p := p) h
  have hE : psE (frL 84 (tagL a b c d k p)) = 0 := by
    unfold psE
    rw [if_pos w1, w2]
    simp [bodyOk, e0, e1, e2, e3, e4, e6, h]
  simp only [psN, psP, hE, w2, if_true]
  exact ⟨trivial, e0, e1, e2, e3, e4, e5⟩

set_option maxRecDepth 100000 in
set_option maxHeartbeats 800000 in
theorem fixed8_any (w : World) (hF : Flds w) : Calls Tryd.prog 6 #[] w fun e w' => e = .returned (.bool true) ∧ Ext w w' := by
  have B1 := fun x hF => tagBytes_any 1 2 3 4 2 true x hF
  have B2 := fun x hF => tagBytes_any 0 0 0 0 0 false x hF
  have hok : okB 1 2 3 4 2 = true := by decide
  rw [show tagBL 1 2 3 4 2 true = frL 84 (tagL 1 2 3 4 2 true) from rfl, show tagBE 1 2 3 4 2 = 0 from rfl] at B1
  rw [show tagBL 0 0 0 0 0 false = [] from rfl, show tagBE 0 0 0 0 0 = 1 from rfl] at B2
  obtain ⟨q0, q1, q2, q3, q4, q5, q6⟩ := ps_back (p := true) hok
  have hl := frL_len 84 (tagL 1 2 3 4 2 true)
  rw [tagL_len, show 12 + 7 = 19 from rfl] at hl
  have hb := frL_byts (k := 84) (tagL_byts 1 2 3 4 2 true)
  have P := fun v x hbt hF => tagParse_any v (frL 84 (tagL 1 2 3 4 2 true)) x hbt hb (by rw [hl]; decide) hF
  rw [q0, q1, q2, q3, q4, q5, q6] at P
  have R := fun x hF => right_any 1 2 3 4 2 true x hF
  rw [hok] at R
  have N := newer_any 0 0 0 5 0 false 1 2 3 4 2 true
  rw [show newerB 5 4 false true = true by decide] at N
  generalize frL 84 (tagL 1 2 3 4 2 true) = fr at *
  have HL := Lib.hid hl
  have HF := Lib.hid (And.intro (hF.ext (World.grownBy_alloc w (tagObj 1 2 3 4 2 true) none)) (tagAt_new w 1 2 3 4 2 true))
  unfold tagV tagObj at *
  unfold ParseR tagV at P
  clear hok q0 q1 q2 q3 q4 q5 q6 hl hb hF
  go_enter Tryd.func6, Tryd.ntmps6
  go_wp2_with (first
    | (go_at_call 9; refine (R _ (HF.out.1.ext he4)).mono ?_; rintro e w5 ⟨rfl, hg5⟩; obtain ⟨k0, k1, k2, k3, k4, k5⟩ := (HF.out.2.ext he4).ext hg5)
    | (go_at_call 11; refine (N _).mono ?_; rintro e w6 ⟨rfl, hg6⟩)
    | (go_at_call 7; refine (B2 _ (HF.out.1.ext hga)).mono ?_; rintro e w4 ⟨v4, rfl, hown4, hg4⟩
       have he4 := ext_trans hga hg4
       obtain ⟨t0, t1, t2, t3, t4, t5⟩ := HF.out.2.ext he4
       obtain ⟨u0, u1', u2', u3', u4', u5'⟩ := (tagAt_new w3 1 2 3 4 2 true).ext hg4)
    | (go_at_call 13; refine (P _ _ (Owns.bts HL.out.symm hown2) (HF.out.1.ext hg2)).mono ?_; rintro e w3 ⟨rfl, hg3⟩
       have hga := ext_trans (ext_trans hg2 hg3) (World.grownBy_alloc w3 (tagObj 1 2 3 4 2 true) none))
    | (go_at_call 7; refine (B1 _ HF.out.1).mono ?_; rintro e w2 ⟨v2, rfl, hown2, hg2⟩; rw [HL.out] at hown2; obtain ⟨ao2, cp2, rfl⟩ := owns_shape hown2))
  go_returns
  exact ⟨rfl, ext_trans (World.grownBy_alloc _ _ none) (ext_trans he4 (ext_trans hg5 (hg6 ▸ ext_trans (World.grownBy_alloc _ _ none) (World.grownBy_alloc _ _ none))))⟩

end Go.Proofs.YtjlecncamfdcfaaDoor
