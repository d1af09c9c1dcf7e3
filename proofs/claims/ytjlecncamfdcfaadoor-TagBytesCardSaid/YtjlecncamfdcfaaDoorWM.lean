/-
  The laws' fixed facts (layer 1) hold.
-/
import Derived.Test.YtjlecncamfdcfaaDoorWL
namespace Go.Proofs.YtjlecncamfdcfaaDoor
open Go.RowKit

theorem flag_is {br c : Nat} {xs : List Int} {e0 : Int} {w : World} (hR : RdIs 60 w br c xs e0) (hB : Byts xs) {b : Bool} {e1 : Int} {x1 : List Int} (h1 : flagB xs e0 = b) (h2 : numX 1 xs e0 = x1) (h3 : flagE xs e0 = e1) :
    Calls Tryd.prog 24 #[.pointer (some ⟨br, 0, none⟩)] w fun e w' => e = .returned (.bool b) ∧ RdIs 60 w' br c x1 e1 ∧ w.grownBy w' (some br) := by
  subst h1 h2 h3
  exact flag_any br c xs e0 w hR hB

theorem done_is {br c : Nat} {xs : List Int} {e0 : Int} {w : World} (hR : RdIs 60 w br c xs e0) {e1 : Int} (h1 : doneE xs e0 = e1) :
    Calls Tryd.prog 25 #[.pointer (some ⟨br, 0, none⟩)] w fun e w' => e = .returned (.int .i64 e1) ∧ RdIs 60 w' br c xs e1 ∧ w.grownBy w' (some br) := by
  subst h1
  exact done_any br c xs e0 w hR

/-- A call answers true; what was there stands, and there is more. -/
def TruePost (w : World) (e : Ending) (w' : World) : Prop := e = .returned (.bool true) ∧ Below w.heap.size w w' ∧ w.heap.size < w'.heap.size

theorem bgrow {w w1 w2 : World} {r : Option Nat} (h : Below w.heap.size w w1) (hg : w1.grownBy w2 r) (hr : ∀ k, r = some k → w.heap.size ≤ k) : Below w.heap.size w w2 :=
  Below.grown h hg h.size hr

theorem byts_cons {a : Int} {l : List Int} (h1 : 0 ≤ a) (h2 : a < 256) (h3 : Byts l) : Byts (a :: l) := by
  intro x hx
  simp at hx
  rcases hx with rfl | hx
  · exact ⟨h1, h2⟩
  · exact h3 x hx
theorem byts_nil : Byts [] := fun x hx => by simp at hx

theorem leB_258 : leB 258 2 = [2, 1] := by decide

theorem put258 : strOfNums (putL [] 258 2) = ⟨#[2, 1]⟩ := by decide
theorem fits256 : fitsB 256 1 = false := by decide

theorem Bts.below {w w' : World} {v : Value} {xs : List Int} {B : Nat} (h : Bts w v xs) (hb : Below B w w') (hv : ∀ k, v.ownBlock = some k → k < B) : Bts w' v xs := by
  rcases h with h | ⟨b, off, cap, rfl, h2, h3⟩
  · exact .inl h
  · exact .inr ⟨b, off, cap, rfl, h2, fun i hi => (hb.cell (by exact hv b rfl)).trans (h3 i hi)⟩

def LawPost (w : World) (e : Ending) (w' : World) : Prop := e = .returned (.bool true) ∧ Below w.heap.size w w'

theorem put_is {v0 : Value} {xs : List Int} {v n : Int} {w : World} (hb : Bts w v0 xs) (hm : xs.length ≤ 140737488350000) (hv9 : v ≤ 9223372036854775807) {ys : List Int} (h : putL xs v n = ys) :
    Calls Tryd.prog 17 #[v0, .int .i64 v, .int .i64 n] w (Made w.heap.size w ys) := by subst h; exact put_any v0 xs v n w hb hm hv9
theorem refPut_is {v0 : Value} {xs : List Int} {v n : Int} {w : World} (hb : Bts w v0 xs) (hm : xs.length ≤ 140737488350000) {ys : List Int} (h : putL xs v n = ys) :
    Calls Tryd.prog 19 #[v0, .int .i64 v, .int .i64 n] w (Made w.heap.size w ys) := by subst h; exact refPut_any v0 xs v n w hb hm
theorem text_is {v0 : Value} {xs : List Int} {s : ByteArray} {w : World} (hb : Bts w v0 xs) (hm : xs.length ≤ 140737488200000) (hs9 : s.size ≤ 9223372036854775807) {ys : List Int} (h : textL xs s = ys) :
    Calls Tryd.prog 33 #[v0, .string s] w (Made w.heap.size w ys) := by subst h; exact text_any v0 xs s w hb hm hs9
theorem fits_is {v n : Int} {w : World} (hv9 : v ≤ 9223372036854775807) {b : Bool} (h : fitsB v n = b) :
    Calls Tryd.prog 31 #[.int .i64 v, .int .i64 n] w fun e w' => e = .returned (.bool b) ∧ w = w' := by subst h; exact fits_any v n w hv9
theorem refFits_is {v n : Int} {w : World} {b : Bool} (h : fitsB v n = b) :
    Calls Tryd.prog 35 #[.int .i64 v, .int .i64 n] w fun e w' => e = .returned (.bool b) ∧ w = w' := by subst h; exact refFits_any v n w
theorem convert_is {w : World} {v : Value} {xs : List Int} {s : ByteArray} (h : Bts w v xs) (hs : strOfNums xs = s) : (convert 25 9 v).run Tryd.prog w = .ok (.string s) w := by subst hs; exact convert_bts h

end Go.Proofs.YtjlecncamfdcfaaDoor
