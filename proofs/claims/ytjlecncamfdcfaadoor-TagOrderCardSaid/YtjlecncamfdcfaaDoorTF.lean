/-
  The laws TagParses and TagOrder, walked.
-/
import Derived.Test.YtjlecncamfdcfaaDoorTE
namespace Go.Proofs.YtjlecncamfdcfaaDoor
open Go.RowKit

def TrueExt (w : World) (e : Ending) (w' : World) : Prop := e = .returned (.bool true) ∧ Ext w w'
theorem ext_below8 {w w' : World} (h : Ext w w') : Below w.heap.size w w' := ⟨h.os, h.tape, h.output, h.size, fun k hk => h.block k hk (by simp)⟩

set_option maxRecDepth 100000 in
set_option maxHeartbeats 800000 in
theorem tagParses_any (v : Value) (xs : List Int) (kind : Int) (framed : Bool) (w : World) (hb : Bts w v xs) (hB : Byts xs) (hlt : ∀ k, v.ownBlock = some k → k < w.heap.size) (hm : xs.length ≤ 9223372036854775807) (hF : Flds w) :
    Calls Tryd.prog 4 #[v, .int .i64 kind, .bool framed] w (TrueExt w) := by
  by_cases hl : xs.length ≤ 200
  · have hl2 : ¬ (200 : Int) < xs.length := by omega
    have M := fun w' hb => refMake_any kind v xs w' hb hB (by omega)
    have HBt := Lib.hid (And.intro hb (And.intro hlt hF))
    have P := fun v ys w' hb hB hm hF => tagParse_any v ys w' hb hB hm hF
    have Rp := fun v ys w' hb hB hm hlt => refParse_any v ys w' hb hB hm hlt
    unfold ParseR tagV at P Rp
    have key : ∀ ys : List Int, ∃ n0 n1 n2 n3 n4 : Int, ∃ p : Bool, ∃ er : Int,
        (∀ v w', Bts w' v ys → Byts ys → ys.length ≤ 140737488200000 → Flds w' → Calls Tryd.prog 13 #[v] w' fun e w'' => e = .returned (.tuple #[.agg #[.int .i64 n0, .int .i64 n1, .int .i64 n2, .int .i64 n3, .int .i64 n4, .bool p], .int .i64 er]) ∧ Ext w' w'') ∧
        (∀ v w', Bts w' v ys → Byts ys → ys.length ≤ 140737488200000 → (∀ k, v.ownBlock = some k → k < w'.heap.size) → Calls Tryd.prog 15 #[v] w' fun e w'' => e = .returned (.tuple #[.agg #[.int .i64 n0, .int .i64 n1, .int .i64 n2, .int .i64 n3, .int .i64 n4, .bool p], .int .i64 er]) ∧ Ext w' w'') :=
      fun ys => ⟨_, _, _, _, _, _, _, fun v w' => P v ys w', fun v w' => Rp v ys w'⟩
    clear P Rp
    cases framed
    · obtain ⟨n0, n1, n2, n3, n4, p, er, P, Rp⟩ := key xs
      have HBy := Lib.hid hB
      obtain ⟨ao, cap, b, off, rfl, _⟩ := hb.sform
      clear hb hlt hF hB M key
      go_enter Tryd.func4, Tryd.ntmps4
      go_wp2_with (first
        | (go_at_call 6; refine (fixed8_any _ HBt.out.2.2).mono ?_; rintro e w1 ⟨rfl, hg1⟩)
        | (go_at_call 13; refine (P _ _ (HBt.out.1.kept hg1 (by simp)) HBy.out (by omega) (HBt.out.2.2.ext hg1)).mono ?_; rintro e w2 ⟨rfl, hg2⟩
           have hga := World.grownBy_alloc w2 (tagObj n0 n1 n2 n3 n4 p) none
           have hu := tagAt_new w2 n0 n1 n2 n3 n4 p)
        | (go_at_call 15; refine (Rp _ _ (HBt.out.1.kept (ext_trans (ext_trans hg1 hg2) hga) (by simp)) HBy.out (by omega) (fun k hk => Nat.lt_of_lt_of_le (HBt.out.2.1 k hk) (ext_trans (ext_trans hg1 hg2) hga).size)).mono ?_; rintro e w4 ⟨rfl, hg4⟩
           obtain ⟨u0, u1, u2, u3, u4, u5⟩ := hu.ext hg4
           have hz : w2.heap.size < w4.heap.size := (by have := hg4.size; simp at this; omega)))
      go_returns
      exact ⟨ret_bool (by simp), ext_trans (ext_trans (ext_trans (ext_trans hg1 hg2) hga) hg4) (World.grownBy_alloc _ _ none)⟩
    · by_cases he : mkE kind xs = 0
      · have hml : mkL kind xs = frL kind xs := by unfold mkL; rw [if_pos he]
        have hyb : Byts (mkL kind xs) := by rw [hml]; exact frL_byts hB
        have hyl : (mkL kind xs).length ≤ 140737488200000 := by rw [hml, frL_len]; omega
        obtain ⟨n0, n1, n2, n3, n4, p, er, P, Rp⟩ := key (mkL kind xs)
        have HBy := Lib.hid (And.intro hyb hyl)
        rw [he] at M
        generalize mkL kind xs = ys at *
        obtain ⟨ao, cap, b, off, rfl, _⟩ := hb.sform
        clear hml hyb hyl he
        clear hb hlt hF hB key
        go_enter Tryd.func4, Tryd.ntmps4
        go_wp2_with (first
          | (go_at_call 6; refine (fixed8_any _ HBt.out.2.2).mono ?_; rintro e w1 ⟨rfl, hg1⟩)
          | (go_at_call 14; refine (M _ (HBt.out.1.kept hg1 (by simp))).mono ?_; rintro e wm ⟨vm, rfl, hownm, hgm⟩)
          | (go_at_call 13; refine (P _ _ (Owns.bts rfl hownm) HBy.out.1 HBy.out.2 (HBt.out.2.2.ext (ext_trans hg1 hgm))).mono ?_; rintro e w2 ⟨rfl, hg2⟩
             have hga := World.grownBy_alloc w2 (tagObj n0 n1 n2 n3 n4 p) none
             have hu := tagAt_new w2 n0 n1 n2 n3 n4 p)
          | (go_at_call 15; refine (Rp _ _ ((Owns.bts rfl hownm).kept (ext_trans hg2 hga) (by simp)) HBy.out.1 HBy.out.2 (fun k hk => Nat.lt_of_lt_of_le (hownm.lt k hk).2 (ext_trans hg2 hga).size)).mono ?_; rintro e w4 ⟨rfl, hg4⟩
             obtain ⟨u0, u1, u2, u3, u4, u5⟩ := hu.ext hg4
             have hz : w2.heap.size < w4.heap.size := (by have := hg4.size; simp at this; omega)))
        go_returns
        exact ⟨ret_bool (by simp), ext_trans (ext_trans (ext_trans (ext_trans (ext_trans hg1 hgm) hg2) hga) hg4) (World.grownBy_alloc _ _ none)⟩
      · obtain ⟨n0, n1, n2, n3, n4, p, er, P, Rp⟩ := key xs
        have HBy := Lib.hid hB
        have he' : (mkE kind xs == 0) = false := by simpa using he
        generalize mkL kind xs = ys at *
        generalize mkE kind xs = me at *
        obtain ⟨ao, cap, b, off, rfl, _⟩ := hb.sform
        clear he
        clear hb hlt hF hB key
        go_enter Tryd.func4, Tryd.ntmps4
        go_wp2_with (first
          | (go_at_call 6; refine (fixed8_any _ HBt.out.2.2).mono ?_; rintro e w1 ⟨rfl, hg1⟩)
          | (go_at_call 14; refine (M _ (HBt.out.1.kept hg1 (by simp))).mono ?_; rintro e wm ⟨vm, rfl, hownm, hgm⟩)
          | (go_at_call 13; refine (P _ _ (HBt.out.1.kept (ext_trans hg1 hgm) (by simp)) HBy.out (by omega) (HBt.out.2.2.ext (ext_trans hg1 hgm))).mono ?_; rintro e w2 ⟨rfl, hg2⟩
             have hga := World.grownBy_alloc w2 (tagObj n0 n1 n2 n3 n4 p) none
             have hu := tagAt_new w2 n0 n1 n2 n3 n4 p)
          | (go_at_call 15; refine (Rp _ _ (HBt.out.1.kept (ext_trans (ext_trans (ext_trans hg1 hgm) hg2) hga) (by simp)) HBy.out (by omega) (fun k hk => Nat.lt_of_lt_of_le (HBt.out.2.1 k hk) (ext_trans (ext_trans (ext_trans hg1 hgm) hg2) hga).size)).mono ?_; rintro e w4 ⟨rfl, hg4⟩
             obtain ⟨u0, u1, u2, u3, u4, u5⟩ := hu.ext hg4
             have hz : w2.heap.size < w4.heap.size := (by have := hg4.size; simp at this; omega)))
        go_returns
        exact ⟨ret_bool (by simp), ext_trans (ext_trans (ext_trans (ext_trans (ext_trans hg1 hgm) hg2) hga) hg4) (World.grownBy_alloc _ _ none)⟩
  · have hl2 : (200 : Int) < xs.length := by omega
    have HF := Lib.hid hF
    obtain ⟨ao, cap, b, off, rfl, _⟩ := hb.sform
    clear hB hb hl hlt hF
    go_enter Tryd.func4, Tryd.ntmps4
    go_wp2_with (go_at_call 6; refine (fixed8_any _ HF.out).mono ?_; rintro e w1 ⟨rfl, hg1⟩)
    go_ret
    exact ⟨rfl, hg1⟩

end Go.Proofs.YtjlecncamfdcfaaDoor
