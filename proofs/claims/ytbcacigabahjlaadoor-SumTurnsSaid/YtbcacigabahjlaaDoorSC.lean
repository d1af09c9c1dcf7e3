/-
  The laws of layer 2: On of few bytes, fixed, SumTells.
-/
import Derived.Test.YtbcacigabahjlaaDoorSB
import Derived.Test.YtbcacigabahjlaaDoorSN
import Derived.Below
import Derived.Lib.SmallJoins
namespace Go.Proofs.YtbcacigabahjlaaDoor
open Go.RowKit

theorem sumOn_few (s : Nat) (v : Value) (xs : List Int) (w : World) (hs : s < 4294967296) (hb : Bts w v xs) (hB : ∀ x ∈ xs, 0 ≤ x ∧ x < 256) (hm : xs.length < 4096) :
    Calls Tryd.prog 9 #[.int .u32 (s : Int), v] w fun e w' => e = .returned (.int .u32 ((crcOn s xs : Nat) : Int)) ∧ w = w' := by
  have W := worked_any s v xs w hs hb hB (by omega)
  obtain ⟨ao, cap, b, off, rfl, hc⟩ := hb.shape
  have hm2 : (xs.length : Int) < 4096 := by omega
  generalize crcOn s xs = g at *
  clear hb hB hc
  go_enter Tryd.func9, Tryd.ntmps9
  go_wp2_with (go_at_call 10; refine W.mono ?_; rintro e w' ⟨rfl, rfl⟩)
  go_ret
  exact ⟨rfl, rfl⟩

theorem lit_bts (w : World) (xs : List Int) (T : TypeId) (fr : Nat × Nat) (g : Nat) (hg : g = w.heap.size) : Bts (w.alloc (.cells (xs.map (Value.int .u8)).toArray T fr)) (.slice (some ⟨g, 0, none⟩) xs.length xs.length) xs := by
  subst hg
  refine .inr ⟨w.heap.size, 0, xs.length, rfl, Nat.le_refl _, fun i hi => ?_⟩
  rw [Nat.zero_add, World.cell?_alloc_mark]
  simp [List.getD_eq_getElem?_getD, List.getElem?_eq_getElem hi]

theorem bytes_of {xs : List Int} (h : (xs.all fun x => decide (0 ≤ x ∧ x < 256)) = true) : ∀ x ∈ xs, 0 ≤ x ∧ x < 256 := by simpa using h

set_option maxHeartbeats 400000 in
theorem fixed2_any (w : World) : Calls Tryd.prog 6 #[] w fun e w' => e = .returned (.bool true) ∧ Below w.heap.size w w' := by
  have k1 : (convert 22 22 (.slice (some ⟨w.heap.size, 0, none⟩) 9 9)).run Tryd.prog (w.alloc (.cells #[.int .u8 49, .int .u8 50, .int .u8 51, .int .u8 52, .int .u8 53, .int .u8 54, .int .u8 55, .int .u8 56, .int .u8 57] 5)) = .ok (.slice (some ⟨w.heap.size, 0, none⟩) 9 9) (w.alloc (.cells #[.int .u8 49, .int .u8 50, .int .u8 51, .int .u8 52, .int .u8 53, .int .u8 54, .int .u8 55, .int .u8 56, .int .u8 57] 5 (9, 10))) := Joins.run_convert_bytes_const_at w 22 5 #[.int .u8 49, .int .u8 50, .int .u8 51, .int .u8 52, .int .u8 53, .int .u8 54, .int .u8 55, .int .u8 56, .int .u8 57] 9 9 (w.heap.size) (by simp) Tryd.underlying22 Tryd.underlying5
  have k2 : (convert 22 22 (.slice (some ⟨w.heap.size + 1, 0, none⟩) 4 4)).run Tryd.prog ((w.alloc (.cells #[.int .u8 49, .int .u8 50, .int .u8 51, .int .u8 52, .int .u8 53, .int .u8 54, .int .u8 55, .int .u8 56, .int .u8 57] 5 (9, 10))).alloc (.cells #[.int .u8 49, .int .u8 50, .int .u8 51, .int .u8 52] 5)) = .ok (.slice (some ⟨w.heap.size + 1, 0, none⟩) 4 4) ((w.alloc (.cells #[.int .u8 49, .int .u8 50, .int .u8 51, .int .u8 52, .int .u8 53, .int .u8 54, .int .u8 55, .int .u8 56, .int .u8 57] 5 (9, 10))).alloc (.cells #[.int .u8 49, .int .u8 50, .int .u8 51, .int .u8 52] 5 (4, 5))) := Joins.run_convert_bytes_const_at (w.alloc (.cells #[.int .u8 49, .int .u8 50, .int .u8 51, .int .u8 52, .int .u8 53, .int .u8 54, .int .u8 55, .int .u8 56, .int .u8 57] 5 (9, 10))) 22 5 #[.int .u8 49, .int .u8 50, .int .u8 51, .int .u8 52] 4 4 (w.heap.size + 1) (by simp) Tryd.underlying22 Tryd.underlying5
  have k3 : (convert 22 22 (.slice (some ⟨w.heap.size + 1 + 1, 0, none⟩) 5 5)).run Tryd.prog (((w.alloc (.cells #[.int .u8 49, .int .u8 50, .int .u8 51, .int .u8 52, .int .u8 53, .int .u8 54, .int .u8 55, .int .u8 56, .int .u8 57] 5 (9, 10))).alloc (.cells #[.int .u8 49, .int .u8 50, .int .u8 51, .int .u8 52] 5 (4, 5))).alloc (.cells #[.int .u8 53, .int .u8 54, .int .u8 55, .int .u8 56, .int .u8 57] 5)) = .ok (.slice (some ⟨w.heap.size + 1 + 1, 0, none⟩) 5 5) (((w.alloc (.cells #[.int .u8 49, .int .u8 50, .int .u8 51, .int .u8 52, .int .u8 53, .int .u8 54, .int .u8 55, .int .u8 56, .int .u8 57] 5 (9, 10))).alloc (.cells #[.int .u8 49, .int .u8 50, .int .u8 51, .int .u8 52] 5 (4, 5))).alloc (.cells #[.int .u8 53, .int .u8 54, .int .u8 55, .int .u8 56, .int .u8 57] 5 (5, 6))) := Joins.run_convert_bytes_const_at ((w.alloc (.cells #[.int .u8 49, .int .u8 50, .int .u8 51, .int .u8 52, .int .u8 53, .int .u8 54, .int .u8 55, .int .u8 56, .int .u8 57] 5 (9, 10))).alloc (.cells #[.int .u8 49, .int .u8 50, .int .u8 51, .int .u8 52] 5 (4, 5))) 22 5 #[.int .u8 53, .int .u8 54, .int .u8 55, .int .u8 56, .int .u8 57] 5 5 (w.heap.size + 1 + 1) (by simp) Tryd.underlying22 Tryd.underlying5
  have e1 : crcOf [49, 50, 51, 52, 53, 54, 55, 56, 57] = 3808858755 := by decide +kernel
  have e2 : crcOf [] = 0 := by decide +kernel
  have e3 : crcOn (crcOf [49, 50, 51, 52]) [53, 54, 55, 56, 57] = 3808858755 := by decide +kernel
  have O1 := sumOf_any (.slice (some ⟨w.heap.size, 0, none⟩) 9 9) [49, 50, 51, 52, 53, 54, 55, 56, 57] (w.alloc (.cells #[.int .u8 49, .int .u8 50, .int .u8 51, .int .u8 52, .int .u8 53, .int .u8 54, .int .u8 55, .int .u8 56, .int .u8 57] 5 (9, 10))) (lit_bts _ [49, 50, 51, 52, 53, 54, 55, 56, 57] 5 (9, 10) _ (by simp)) (bytes_of (by decide)) (by decide)
  have O2 := sumOf_any (.slice none 0 0) [] (w.alloc (.cells #[.int .u8 49, .int .u8 50, .int .u8 51, .int .u8 52, .int .u8 53, .int .u8 54, .int .u8 55, .int .u8 56, .int .u8 57] 5 (9, 10))) (.inl ⟨rfl, rfl⟩) (bytes_of (xs := []) rfl) (by decide)
  have O3 := sumOf_any (.slice (some ⟨w.heap.size + 1, 0, none⟩) 4 4) [49, 50, 51, 52] ((w.alloc (.cells #[.int .u8 49, .int .u8 50, .int .u8 51, .int .u8 52, .int .u8 53, .int .u8 54, .int .u8 55, .int .u8 56, .int .u8 57] 5 (9, 10))).alloc (.cells #[.int .u8 49, .int .u8 50, .int .u8 51, .int .u8 52] 5 (4, 5))) (lit_bts _ [49, 50, 51, 52] 5 (4, 5) _ (by simp)) (bytes_of (by decide)) (by decide)
  obtain ⟨m, hm⟩ : ∃ m, crcOf [49, 50, 51, 52] = m := ⟨_, rfl⟩
  have hml := crcOf_lt [49, 50, 51, 52]
  rw [hm] at e3 O3 hml
  have O4 := sumOn_few m (.slice (some ⟨w.heap.size + 1 + 1, 0, none⟩) 5 5) [53, 54, 55, 56, 57] (((w.alloc (.cells #[.int .u8 49, .int .u8 50, .int .u8 51, .int .u8 52, .int .u8 53, .int .u8 54, .int .u8 55, .int .u8 56, .int .u8 57] 5 (9, 10))).alloc (.cells #[.int .u8 49, .int .u8 50, .int .u8 51, .int .u8 52] 5 (4, 5))).alloc (.cells #[.int .u8 53, .int .u8 54, .int .u8 55, .int .u8 56, .int .u8 57] 5 (5, 6))) hml (lit_bts _ [53, 54, 55, 56, 57] 5 (5, 6) _ (by simp)) (bytes_of (by decide)) (by decide)
  rw [e1] at O1
  rw [e2] at O2
  rw [e3] at O4
  clear e1 e2 e3 hm hml
  have hbe := (((Below.refl w.heap.size w).alloc (Nat.le_refl _) (.cells #[.int .u8 49, .int .u8 50, .int .u8 51, .int .u8 52, .int .u8 53, .int .u8 54, .int .u8 55, .int .u8 56, .int .u8 57] 5 (9, 10))).alloc (by simp) (.cells #[.int .u8 49, .int .u8 50, .int .u8 51, .int .u8 52] 5 (4, 5))).alloc (by simp; omega) (.cells #[.int .u8 53, .int .u8 54, .int .u8 55, .int .u8 56, .int .u8 57] 5 (5, 6))
  go_enter Tryd.func6, Tryd.ntmps6
  go_wp2_with (first
    | (go_at_call 7; refine O1.mono ?_; rintro e w' ⟨rfl, rfl⟩)
    | (go_at_call 7; refine O2.mono ?_; rintro e w' ⟨rfl, rfl⟩)
    | (go_at_call 7; refine O3.mono ?_; rintro e w' ⟨rfl, rfl⟩)
    | (go_at_call 9; refine O4.mono ?_; rintro e w' ⟨rfl, rfl⟩))
  go_ret
  exact ⟨rfl, hbe⟩

theorem Bts.below2 {w w' : World} {v : Value} {xs : List Int} {B : Nat} (h : Bts w v xs) (hb : Below B w w') (hv : ∀ k, v.ownBlock = some k → k < B) : Bts w' v xs := by
  rcases h with h | ⟨b, off, cap, rfl, h2, h3⟩
  · exact .inl h
  · exact .inr ⟨b, off, cap, rfl, h2, fun i hi => (hb.cell (by exact hv b rfl)).trans (h3 i hi)⟩

theorem sumTells_any (v : Value) (xs : List Int) (w : World) (hb : Bts w v xs) (hB : ∀ x ∈ xs, 0 ≤ x ∧ x < 256) (hlt : ∀ k, v.ownBlock = some k → k < w.heap.size) (hm : xs.length ≤ 9223372036854775807) :
    Calls Tryd.prog 3 #[v] w fun e w' => e = .returned (.bool true) ∧ Below w.heap.size w w' := by
  have O1 := fun w' hbb => sumOf_any v xs w' (hb.below2 (B := w.heap.size) hbb hlt) hB hm
  have O2 := fun w' hbb => refOf_any v xs w' (hb.below2 (B := w.heap.size) hbb hlt) hB hm
  obtain ⟨ao, cap, b, off, rfl, hc⟩ := hb.shape
  generalize crcOf xs = g at *
  clear hb hB hc hlt
  by_cases h : 2000 < xs.length
  · have h' : (2000 : Int) < xs.length := by omega
    go_enter Tryd.func3, Tryd.ntmps3
    go_wp2_with (go_at_call 6; refine (fixed2_any _).mono ?_; rintro e w1 ⟨rfl, hb1⟩)
    go_ret
    exact ⟨rfl, hb1⟩
  · have h' : ¬ (2000 : Int) < xs.length := by omega
    go_enter Tryd.func3, Tryd.ntmps3
    go_wp2_with (first
      | (go_at_call 6; refine (fixed2_any _).mono ?_; rintro e w1 ⟨rfl, hb1⟩)
      | (go_at_call 7; refine (O1 _ hb1).mono ?_; rintro e w' ⟨rfl, rfl⟩)
      | (go_at_call 8; refine (O2 _ hb1).mono ?_; rintro e w' ⟨rfl, rfl⟩))
    go_ret
    exact ⟨by simp, hb1⟩

end Go.Proofs.YtbcacigabahjlaaDoor
