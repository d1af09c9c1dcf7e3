/-
  The laws' fixed facts (layer 1) hold.
-/
import Derived.Test.YtdfcfjncflfppaaWL
namespace Go.Proofs.Ytdfcfjncflfppaa
open Go.RowKit

theorem rtext_is {br c : Nat} {xs : List Int} {e0 most : Int} {w : World} (hR : RdIs 80 w br c xs e0) (hB : Byts xs) {s : ByteArray} {e1 : Int} {x1 : List Int} (h1 : txtS most xs e0 = s) (h2 : txtX most xs e0 = x1) (h3 : txtE most xs e0 = e1) :
    Calls Try.prog 16 #[.pointer (some ⟨br, 0, none⟩), .int .i64 most] w fun e w' => e = .returned (.string s) ∧ RdIs 80 w' br c x1 e1 ∧ w.grownBy w' (some br) := by
  subst h1 h2 h3
  exact rtext_any br c xs e0 most w hR hB

theorem flag_is {br c : Nat} {xs : List Int} {e0 : Int} {w : World} (hR : RdIs 80 w br c xs e0) (hB : Byts xs) {b : Bool} {e1 : Int} {x1 : List Int} (h1 : flagB xs e0 = b) (h2 : numX 1 xs e0 = x1) (h3 : flagE xs e0 = e1) :
    Calls Try.prog 18 #[.pointer (some ⟨br, 0, none⟩)] w fun e w' => e = .returned (.bool b) ∧ RdIs 80 w' br c x1 e1 ∧ w.grownBy w' (some br) := by
  subst h1 h2 h3
  exact flag_any br c xs e0 w hR hB

theorem done_is {br c : Nat} {xs : List Int} {e0 : Int} {w : World} (hR : RdIs 80 w br c xs e0) {e1 : Int} (h1 : doneE xs e0 = e1) :
    Calls Try.prog 20 #[.pointer (some ⟨br, 0, none⟩)] w fun e w' => e = .returned (.int .i64 e1) ∧ RdIs 80 w' br c xs e1 ∧ w.grownBy w' (some br) := by
  subst h1
  exact done_any br c xs e0 w hR

/-- A call answers true; what was there stands, and there is more. -/
def TruePost (w : World) (e : Ending) (w' : World) : Prop := e = .returned (.bool true) ∧ Below w.heap.size w w' ∧ w.heap.size < w'.heap.size

theorem bgrow {w w1 w2 : World} {r : Option Nat} (h : Below w.heap.size w w1) (hg : w1.grownBy w2 r) (hr : ∀ k, r = some k → w.heap.size ≤ k) : Below w.heap.size w w2 :=
  Below.grown h hg h.size hr

theorem byts_cons {a : Int} {l : List Int} (h1 : 0 ≤ a) (h2 : a < 256) (h3 : Byts l) : Byts (a :: l) := by
  intro x hx
  simp at hx
  rcases hx with rfl | hx
  · exact ⟨h1, h2⟩
  · exact h3 x hx
theorem byts_nil : Byts [] := fun x hx => by simp at hx

theorem leB_258 : leB 258 2 = [2, 1] := by decide

theorem put258 : strOfNums (putL [] 258 2) = ⟨#[2, 1]⟩ := by decide
theorem fits256 : fitsB 256 1 = false := by decide

set_option maxRecDepth 100000 in
set_option maxHeartbeats 800000 in
theorem fixed_any (w : World) : Calls Try.prog 12 #[] w (TruePost w) := by
  have hBa : Byts [2, 1, 1, 0, 120, 1, 9] := by repeat (first | exact byts_nil | refine byts_cons (by decide) (by decide) ?_)
  have hBb : Byts [1, 0, 120, 1, 9] := by repeat (first | exact byts_nil | refine byts_cons (by decide) (by decide) ?_)
  have hBc : Byts [1, 9] := by repeat (first | exact byts_nil | refine byts_cons (by decide) (by decide) ?_)
  have H := Lib.hid (And.intro hBa (And.intro hBb hBc))
  clear hBa hBb hBc
  have hb : Bts (w.alloc (.cells #[.int .u8 2, .int .u8 1, .int .u8 1, .int .u8 0, .int .u8 120, .int .u8 1, .int .u8 9] 5)) (.slice (some ⟨w.heap.size, 0, none⟩) 7 7) [2, 1, 1, 0, 120, 1, 9] := by
    refine .inr ⟨w.heap.size, 0, 7, rfl, by decide, fun i hi => ?_⟩
    simp at hi
    rw [Nat.zero_add, World.cell?_alloc_mark]
    have : i = 0 ∨ i = 1 ∨ i = 2 ∨ i = 3 ∨ i = 4 ∨ i = 5 ∨ i = 6 := by omega
    rcases this with rfl | rfl | rfl | rfl | rfl | rfl | rfl <;> rfl
  have Hb := Lib.hid hb
  have hf256 := fits256
  clear hb
  go_enter Try.func12, Try.ntmps12
  go_wp2_with (first | (go_at_call 13; refine (read_any _ _ _ Hb.out (by simp) (by simp)).mono ?_; rintro e w1 ⟨br, c, rfl, hR1, hg1, hl1, hl2, hl3⟩) | (go_at_call 14; refine (number_is (m := 258) (x1 := [1, 0, 120, 1, 9]) (e1 := 0) hR1 H.out.1 (by decide) (by decide) (by decide)).mono ?_; rintro e w2 ⟨rfl, hR2, hg2⟩) | (go_at_call 16; refine (rtext_is (s := ⟨#[120]⟩) (x1 := [1, 9]) (e1 := 0) hR2 H.out.2.1 (by decide) (by decide) (by decide)).mono ?_; rintro e w3 ⟨rfl, hR3, hg3⟩) | (go_at_call 18; refine (flag_is (b := true) (x1 := [9]) (e1 := 0) hR3 H.out.2.2 (by decide) (by decide) (by decide)).mono ?_; rintro e w4 ⟨rfl, hR4, hg4⟩) | (go_at_call 23; refine (put_any _ [] 258 2 _ (.inl ⟨rfl, rfl⟩) (by simp) (by decide)).mono ?_; rintro e w5 ⟨v5, rfl, hown5, hg5⟩; have hcv := convert_bts (Owns.bts rfl hown5); rw [put258] at hcv) | (go_at_call 22; refine (left_any br c _ _ _ (hR4.kept hg5 (by simp) (by simp))).mono ?_; rintro e w' ⟨rfl, rfl⟩) | (go_at_call 20; refine (done_is (e1 := 2) (hR4.kept hg5 (by simp) (by simp)) (by decide)).mono ?_; rintro e w6 ⟨rfl, hR6, hg6⟩) | (go_at_call 27; refine (fits_any _ _ _ (by decide)).mono ?_; rintro e w' ⟨rfl, rfl⟩))
  go_ret
  have hs1 := hg1.size
  have hs2 := hg2.size
  have hs3 := hg3.size
  have hs4 := hg4.size
  have hs5 := hg5.size
  have hs6 := hg6.size
  simp at hl1 hs1
  have hbr : ∀ k, some br = some k → w.heap.size ≤ k := fun k hk => by cases hk; omega
  have hno : ∀ k, (none : Option Nat) = some k → w.heap.size ≤ k := fun k hk => by cases hk
  exact ⟨rfl, bgrow (bgrow (bgrow (bgrow (bgrow (bgrow ((Below.refl _ w).alloc (Nat.le_refl _) _) hg1 hno) hg2 hbr) hg3 hbr) hg4 hbr) hg5 hno) hg6 hbr, by omega⟩

theorem Bts.below {w w' : World} {v : Value} {xs : List Int} {B : Nat} (h : Bts w v xs) (hb : Below B w w') (hv : ∀ k, v.ownBlock = some k → k < B) : Bts w' v xs := by
  rcases h with h | ⟨b, off, cap, rfl, h2, h3⟩
  · exact .inl h
  · exact .inr ⟨b, off, cap, rfl, h2, fun i hi => (hb.cell (by exact hv b rfl)).trans (h3 i hi)⟩

def LawPost (w : World) (e : Ending) (w' : World) : Prop := e = .returned (.bool true) ∧ Below w.heap.size w w'

theorem put_is {v0 : Value} {xs : List Int} {v n : Int} {w : World} (hb : Bts w v0 xs) (hm : xs.length ≤ 140737488350000) (hv9 : v ≤ 9223372036854775807) {ys : List Int} (h : putL xs v n = ys) :
    Calls Try.prog 23 #[v0, .int .i64 v, .int .i64 n] w (Made w.heap.size w ys) := by subst h; exact put_any v0 xs v n w hb hm hv9
theorem refPut_is {v0 : Value} {xs : List Int} {v n : Int} {w : World} (hb : Bts w v0 xs) (hm : xs.length ≤ 140737488350000) {ys : List Int} (h : putL xs v n = ys) :
    Calls Try.prog 24 #[v0, .int .i64 v, .int .i64 n] w (Made w.heap.size w ys) := by subst h; exact refPut_any v0 xs v n w hb hm
theorem text_is {v0 : Value} {xs : List Int} {s : ByteArray} {w : World} (hb : Bts w v0 xs) (hm : xs.length ≤ 140737488200000) (hs9 : s.size ≤ 9223372036854775807) {ys : List Int} (h : textL xs s = ys) :
    Calls Try.prog 25 #[v0, .string s] w (Made w.heap.size w ys) := by subst h; exact text_any v0 xs s w hb hm hs9
theorem refText_is {v0 : Value} {xs : List Int} {s : ByteArray} {w : World} (hb : Bts w v0 xs) (hm : xs.length ≤ 140737488200000) (hs9 : s.size ≤ 9223372036854775807) {ys : List Int} (h : textL xs s = ys) :
    Calls Try.prog 26 #[v0, .string s] w (Made w.heap.size w ys) := by subst h; exact refText_any v0 xs s w hb hm hs9
theorem fits_is {v n : Int} {w : World} (hv9 : v ≤ 9223372036854775807) {b : Bool} (h : fitsB v n = b) :
    Calls Try.prog 27 #[.int .i64 v, .int .i64 n] w fun e w' => e = .returned (.bool b) ∧ w = w' := by subst h; exact fits_any v n w hv9
theorem refFits_is {v n : Int} {w : World} {b : Bool} (h : fitsB v n = b) :
    Calls Try.prog 28 #[.int .i64 v, .int .i64 n] w fun e w' => e = .returned (.bool b) ∧ w = w' := by subst h; exact refFits_any v n w
theorem convert_is {w : World} {v : Value} {xs : List Int} {s : ByteArray} (h : Bts w v xs) (hs : strOfNums xs = s) : (convert 22 9 v).run Try.prog w = .ok (.string s) w := by subst hs; exact convert_bts h

end Go.Proofs.Ytdfcfjncflfppaa
