/-
  The laws of layer 3: fixed, FrameMakes, FrameOpens.
-/
import Derived.Test.YtdfcfjncflfppaaFE
import Derived.Lib.SmallJoins
namespace Go.Proofs.Ytdfcfjncflfppaa
open Go.RowKit

def TrueBelow (w : World) (e : Ending) (w' : World) : Prop := e = .returned (.bool true) ∧ Below w.heap.size w w'
theorem ext_below {w w' : World} (h : Ext w w') : Below w.heap.size w w' := ⟨h.os, h.tape, h.output, h.size, fun k hk => h.block k hk (by simp)⟩
theorem ext_trans {a b c : World} (h : Ext a b) (h2 : Ext b c) : Ext a c := Ext.next h c h2

theorem hi_str : strOfNums [104, 105] = ⟨#[104, 105]⟩ := by decide

set_option maxRecDepth 100000 in
set_option maxHeartbeats 800000 in
theorem fixed3_any (w : World) : Calls Try.prog 29 #[] w fun e w' => e = .returned (.bool true) ∧ Ext w w' := by
  have hBh : Byts [104, 105] := bytes_of (by decide)
  have M1 := fun w' => make_any 1 (.slice none 0 0) [] w' (.inl ⟨rfl, rfl⟩) (fun _ h => by cases h) (by decide) (by decide)
  have M2 := fun v w' hb => make_any 2 v [104, 105] w' hb hBh (by decide) (by decide)
  have M3 := fun w' => make_any 256 (.slice none 0 0) [] w' (.inl ⟨rfl, rfl⟩) (fun _ h => by cases h) (by decide) (by decide)
  rw [show mkL 1 [] = frL 1 [] from rfl, show mkE 1 [] = 0 from rfl] at M1
  rw [show mkL 2 [104, 105] = frL 2 [104, 105] from rfl, show mkE 2 [104, 105] = 0 from rfl] at M2
  rw [show mkL 256 [] = [] from rfl, show mkE 256 [] = 1 from rfl] at M3
  have hob := open_back (k := 2) (body := [104, 105]) (rest := []) (by decide) (by decide) (by decide)
  rw [List.append_nil] at hob
  have hl2 := frL_len 2 [104, 105]
  have hfB := frL_byts (k := 2) hBh
  have W1 := fun v w' hb => whole_any v (frL 2 [104, 105]) 2 w' hb hfB (by rw [hl2]; decide)
  have W2 := fun v w' hb => whole_any v (frL 2 [104, 105]) 1 w' hb hfB (by rw [hl2]; decide)
  have w1e : whE (frL 2 [104, 105]) 2 = 0 := by unfold whE; rw [if_pos hob.2.1, if_pos ⟨by rw [hob.2.2.2.2, hl2]; rfl, hob.2.2.1⟩]
  have w1b : whB (frL 2 [104, 105]) 2 = [104, 105] := by unfold whB; rw [if_pos w1e]; exact hob.2.2.2.1
  have w2e : whE (frL 2 [104, 105]) 1 = 2 := by unfold whE; rw [if_pos hob.2.1, if_neg (by rw [hob.2.2.1]; omega)]
  have w2b : whB (frL 2 [104, 105]) 1 = [] := by unfold whB; rw [if_neg (by rw [w2e]; decide)]
  rw [w1e, w1b] at W1
  rw [w2e, w2b] at W2
  obtain ⟨f1, hf1⟩ : ∃ f, frL 1 [] = f := ⟨_, rfl⟩
  have l1 : f1.length = 7 := by rw [← hf1]; exact frL_len 1 []
  rw [hf1] at M1
  generalize frL 2 [104, 105] = f2 at *
  have L1 := Lib.hid l1
  have HH := hi_str
  have kc : ∀ v : World, (convert 22 22 (.slice (some ⟨v.heap.size, 0, none⟩) 2 2)).run Try.prog (v.alloc (.cells #[.int .u8 104, .int .u8 105] 5)) = .ok (.slice (some ⟨v.heap.size, 0, none⟩) 2 2) (v.alloc (.cells #[.int .u8 104, .int .u8 105] 5 (2, 3))) := fun v => Joins.run_convert_bytes_const_at v 22 5 #[.int .u8 104, .int .u8 105] 2 2 (v.heap.size) rfl Try.underlying22 Try.underlying5
  clear hob hl2 hfB w1e w1b w2e w2b hf1 l1 hBh
  go_enter Try.func29, Try.ntmps29
  go_wp2_with (first
    | (go_at_call 30; refine (M3 w4).mono ?_; rintro e w5 ⟨v5, rfl, hown5, hg5⟩; have hcv := convert_is (((Owns.bts rfl hown3).kept hg4 (by simp)).kept hg5 (by simp)) HH)
    | (go_at_call 30; refine (M2 _ (w1.alloc (.cells #[.int .u8 104, .int .u8 105] 5 (2, 3))) (lit_bts w1 [104, 105] 5 (2, 3) w1.heap.size rfl)).mono ?_; rintro e w2 ⟨v2, rfl, hown2, hg2⟩)
    | (go_at_call 30; refine (M1 _).mono ?_; rintro e w1 ⟨v1, rfl, hown1, hg1⟩; rw [L1.out] at hown1; obtain ⟨ao1, cap1, rfl⟩ := owns_shape hown1)
    | (go_at_call 34; refine (W2 _ _ ((Owns.bts rfl hown2).kept hg3 (by simp))).mono ?_; rintro e w4 ⟨v4, rfl, hown4, hg4⟩)
    | (go_at_call 34; refine (W1 _ _ (Owns.bts rfl hown2)).mono ?_; rintro e w3 ⟨v3, rfl, hown3, hg3⟩))
  go_ret
  exact ⟨rfl, ext_trans (ext_trans (ext_trans (ext_trans (ext_trans hg1 (World.grownBy_alloc w1 _ none)) hg2) hg3) hg4) hg5⟩

set_option maxRecDepth 100000 in
set_option maxHeartbeats 800000 in
theorem frameMakes_any (k : Int) (v : Value) (xs : List Int) (w : World) (hb : Bts w v xs) (hB : Byts xs) (hm : xs.length ≤ 9223372036854775807) (hk : k ≤ 9223372036854775807) :
    Calls Try.prog 6 #[.int .i64 k, v] w (TrueBelow w) := by
  by_cases hl : xs.length ≤ 70000
  · have hl2 : ¬ (70000 : Int) < xs.length := by omega
    have M := fun w' hb => make_any k v xs w' hb hB (by omega) hk
    have R := fun w' hb => refMake_any k v xs w' hb hB (by omega)
    generalize mkL k xs = ys at *
    generalize mkE k xs = er at *
    generalize hs : strOfNums ys = s
    have HS := Lib.hid hs
    have HBt := Lib.hid hb
    obtain ⟨ao, cap, b, off, rfl, _⟩ := hb.sform
    clear hB hb hs hl
    go_enter Try.func6, Try.ntmps6
    go_wp2_with (first
      | (go_at_call 29; refine (fixed3_any _).mono ?_; rintro e w1 ⟨rfl, hg1⟩)
      | (go_at_call 30; refine (M _ (HBt.out.kept hg1 (by simp))).mono ?_; rintro e w2 ⟨v2, rfl, hown2, hg2⟩)
      | (go_at_call 31; refine (R _ ((HBt.out.kept hg1 (by simp)).kept hg2 (by simp))).mono ?_; rintro e w3 ⟨v3, rfl, hown3, hg3⟩; have hc2 := convert_is ((Owns.bts rfl hown2).kept hg3 (by simp)) HS.out; have hc3 := convert_is (Owns.bts rfl hown3) HS.out))
    go_ret
    exact ⟨rfl, ext_below (ext_trans (ext_trans hg1 hg2) hg3)⟩
  · have hl2 : (70000 : Int) < xs.length := by omega
    obtain ⟨ao, cap, b, off, rfl, _⟩ := hb.sform
    clear hB hb hl
    go_enter Try.func6, Try.ntmps6
    go_wp2_with (go_at_call 29; refine (fixed3_any _).mono ?_; rintro e w1 ⟨rfl, hg1⟩)
    go_ret
    exact ⟨rfl, ext_below hg1⟩

set_option maxRecDepth 100000 in
set_option maxHeartbeats 800000 in
theorem frameOpens_any (v : Value) (xs : List Int) (kind : Int) (w : World) (hb : Bts w v xs) (hB : Byts xs) (hlt : ∀ k, v.ownBlock = some k → k < w.heap.size) (hm : xs.length ≤ 9223372036854775807) :
    Calls Try.prog 7 #[v, .int .i64 kind] w (TrueBelow w) := by
  by_cases hl : xs.length ≤ 1000
  · have hl2 : ¬ (1000 : Int) < xs.length := by omega
    have O := fun w' hb => open_any v xs w' hb hB (by omega)
    have R := fun w' hb hlt => refOpen_any v xs w' hb hB (by omega) hlt
    have W := fun w' hb => whole_any v xs kind w' hb hB (by omega)
    have RW := fun w' hb hlt => refWhole_any v xs kind w' hb hB (by omega) hlt
    unfold OpenP at O R
    generalize opK xs = kk at *
    generalize opB xs = bs at *
    generalize opM xs = mm at *
    generalize opE xs = er at *
    generalize whB xs kind = cs at *
    generalize whE xs kind = fr at *
    generalize hs : strOfNums bs = s
    generalize ht : strOfNums cs = t
    have HS := Lib.hid hs
    have HT := Lib.hid ht
    have HBt := Lib.hid hb
    have HLT := fun (w' : World) (hw : Ext w w') => (fun k hk => Nat.lt_of_lt_of_le (hlt k hk) hw.size : ∀ k, v.ownBlock = some k → k < w'.heap.size)
    have HL := Lib.hid HLT
    obtain ⟨ao, cap, b, off, rfl, _⟩ := hb.sform
    clear hB hb hs ht hl hlt HLT
    go_enter Try.func7, Try.ntmps7
    go_wp2_with (first
      | (go_at_call 29; refine (fixed3_any _).mono ?_; rintro e w1 ⟨rfl, hg1⟩)
      | (go_at_call 32; refine (O _ (HBt.out.kept hg1 (by simp))).mono ?_; rintro e w2 ⟨v2, rfl, hown2, hg2⟩; have he2 := ext_trans hg1 hg2)
      | (go_at_call 33; refine (R _ (HBt.out.kept he2 (by simp)) (HL.out _ he2)).mono ?_; rintro e w3 ⟨v3, rfl, hown3, hg3⟩; have he3 := ext_trans he2 hg3)
      | (go_at_call 34; refine (W _ (HBt.out.kept he3 (by simp))).mono ?_; rintro e w4 ⟨v4, rfl, hown4, hg4⟩; have he4 := ext_trans he3 hg4)
      | (go_at_call 35; refine (RW _ (HBt.out.kept he4 (by simp)) (HL.out _ he4)).mono ?_; rintro e w5 ⟨v5, rfl, hown5, hg5⟩; have he5 := ext_trans he4 hg5; have hc2 := convert_is ((Owns.bts rfl hown2).kept (ext_trans (ext_trans hg3 hg4) hg5) (by simp)) HS.out; have hc3 := convert_is ((Owns.bts rfl hown3).kept (ext_trans hg4 hg5) (by simp)) HS.out; have hc4 := convert_is ((Owns.bts rfl hown4).kept hg5 (by simp)) HT.out; have hc5 := convert_is (Owns.bts rfl hown5) HT.out))
    go_ret
    exact ⟨rfl, ext_below he5⟩
  · have hl2 : (1000 : Int) < xs.length := by omega
    obtain ⟨ao, cap, b, off, rfl, _⟩ := hb.sform
    clear hB hb hl hlt
    go_enter Try.func7, Try.ntmps7
    go_wp2_with (go_at_call 29; refine (fixed3_any _).mono ?_; rintro e w1 ⟨rfl, hg1⟩)
    go_ret
    exact ⟨rfl, ext_below hg1⟩

end Go.Proofs.Ytdfcfjncflfppaa
