/-
  The law WordPuts: walked.
-/
import Derived.Test.YtbiegcclfckgnaaWM
import Derived.Test.YtbiegcclfckgnaaLine
namespace Go.Proofs.Ytbiegcclfckgnaa
open Go.RowKit

set_option maxHeartbeats 1000000 in
theorem wordPuts_any (ao : Option Addr) (cap : Nat) (xs : List Int) (v n : Int) (s : ByteArray) (w : World) (hb : Bts w (.slice ao xs.length cap) xs) (hlt : ∀ k, (Value.slice ao xs.length cap).ownBlock = some k → k < w.heap.size)
    (hv9 : v ≤ 9223372036854775807) (hs9 : s.size ≤ 9223372036854775807) (hx9 : xs.length ≤ 9223372036854775807) :
    Calls Try.prog 4 #[.slice ao xs.length cap, .int .i64 v, .int .i64 n, .string s] w (LawPost w) := by
  by_cases hx : xs.length ≤ 500
  · by_cases hs : s.size ≤ 70000
    · obtain ⟨ys, hys⟩ : ∃ ys, putL xs v n = ys := ⟨_, rfl⟩
      obtain ⟨zs, hzs⟩ : ∃ zs, textL xs s = zs := ⟨_, rfl⟩
      obtain ⟨sx, hsx⟩ : ∃ s, strOfNums xs = s := ⟨_, rfl⟩
      obtain ⟨sy, hsy⟩ : ∃ s, strOfNums ys = s := ⟨_, rfl⟩
      obtain ⟨sz, hsz⟩ : ∃ s, strOfNums zs = s := ⟨_, rfl⟩
      obtain ⟨fb, hfb⟩ : ∃ b, fitsB v n = b := ⟨_, rfl⟩
      have HY := Lib.hid hys
      have HZ := Lib.hid hzs
      have SX := Lib.hid hsx
      have SY := Lib.hid hsy
      have SZ := Lib.hid hsz
      have FB := Lib.hid hfb
      clear hys hzs hsx hsy hsz hfb
      go_enter Try.func4, Try.ntmps4
      go_wp2_with (first | (go_at_call 6; refine (fixed_any _).mono ?_; rintro e w1 ⟨rfl, hb1, _⟩; have hB1 := hb.below hb1 hlt; have hcw := convert_is hB1 SX.out))
      clear hcw
      have hS1 := Ext.drew w1
      refine region_line [(0, true), (1, true), (2, true), (5, true), (6, true), (7, true), (3, false), (4, true), (8, false), (9, true), (10, true), (11, true), (12, true), (13, true), (16, true), (17, true), (14, false), (15, true), (18, false), (19, true), (20, true), (21, true), (22, true), (23, true), (24, true), (26, true), (27, true), (25, false), (28, false), (29, true), (30, true), (31, true), (32, true), (33, true), (34, true), (35, true), (36, true), (37, true)] (Ext w1) (by kernel_rfl) (by kernel_rfl) (fun _ _ _ d _ h => by cases d <;> exact h) hS1 ?_
      dsimp only
      repeat (refine line_read (a' := ?_) rfl (by kernel_rfl) (by kernel_rfl) hS1 (fun x hx K hK => ?_) ?_; rotate_left; · go_wp2; exact hK)
      refine line_act (by rfl) (fun K hK => ?_)
      go_wp2_with (go_at_call 17; refine (put_is (by exact hB1) (by omega) hv9 HY.out).mono ?_; rintro e w2 ⟨v2, rfl, hown2, hg2⟩)
      have hb2 := bgrow hb1 (grown_trans (Ext.drew w1) hg2 (by simp)) (by simp)
      refine hK _ _ (Ext w2) (Ext.refl w2) (fun x hx => Ext.of_drew (Ext.next hg2 x hx)) ?_
      clear hK K
      have hB2 := Bts.kept (w := w1.drew) hB1 hg2 (by simp)
      have hc2 : ∀ x, Ext w2 x → (convert 22 9 v2).run Try.prog x = .ok (.string sy) x := fun x hx => convert_is ((Owns.bts rfl hown2).kept hx (by simp)) SY.out
      have hS2 := Ext.refl w2
      repeat (refine line_read (a' := ?_) rfl (by kernel_rfl) (by kernel_rfl) hS2 (fun x hx K hK => ?_) ?_; rotate_left; · go_wp2; exact hK)
      clear hc2
      refine line_act (by rfl) (fun K hK => ?_)
      go_wp2_with (go_at_call 18; refine (refPut_is hB2 (by omega) HY.out).mono ?_; rintro e w3 ⟨v3, rfl, hown3, hg3⟩)
      have hb3 := bgrow hb2 hg3 (by simp)
      refine hK _ _ (Ext w3) (Ext.refl w3) (Ext.next hg3) ?_
      clear hK K
      have hB3 := hB2.kept hg3 (by simp)
      have hc3 : ∀ x, Ext w3 x → (convert 22 9 v3).run Try.prog x = .ok (.string sy) x := fun x hx => convert_is ((Owns.bts rfl hown3).kept hx (by simp)) SY.out
      have hS3 := Ext.refl w3
      repeat (refine line_read (a' := ?_) rfl (by kernel_rfl) (by kernel_rfl) hS3 (fun x hx K hK => ?_) ?_; rotate_left; · go_wp2; exact hK)
      clear hc3
      refine line_act (by rfl) (fun K hK => ?_)
      go_wp2_with (go_at_call 19; refine (text_is hB3 (by omega) hs9 HZ.out).mono ?_; rintro e w4 ⟨v4, rfl, hown4, hg4⟩)
      have hb4 := bgrow hb3 hg4 (by simp)
      refine hK _ _ (Ext w4) (Ext.refl w4) (Ext.next hg4) ?_
      clear hK K
      have hB4 := hB3.kept hg4 (by simp)
      have hc4 : ∀ x, Ext w4 x → (convert 22 9 v4).run Try.prog x = .ok (.string sz) x := fun x hx => convert_is ((Owns.bts rfl hown4).kept hx (by simp)) SZ.out
      have hS4 := Ext.refl w4
      repeat (refine line_read (a' := ?_) rfl (by kernel_rfl) (by kernel_rfl) hS4 (fun x hx K hK => ?_) ?_; rotate_left; · go_wp2; exact hK)
      clear hc4
      refine line_act (by rfl) (fun K hK => ?_)
      go_wp2_with (go_at_call 20; refine (refText_is hB4 (by omega) hs9 HZ.out).mono ?_; rintro e w5 ⟨v5, rfl, hown5, hg5⟩)
      have hb5 := bgrow hb4 hg5 (by simp)
      refine hK _ _ (Ext w5) (Ext.refl w5) (Ext.next hg5) ?_
      clear hK K
      have hB5 := hB4.kept hg5 (by simp)
      have hc5 : ∀ x, Ext w5 x → (convert 22 9 v5).run Try.prog x = .ok (.string sz) x := fun x hx => convert_is ((Owns.bts rfl hown5).kept hx (by simp)) SZ.out
      have hc6 : ∀ x, Ext w5 x → (convert 22 9 (.slice ao xs.length cap)).run Try.prog x = .ok (.string sx) x := fun x hx => convert_is (hB5.kept hx (by simp)) SX.out
      have hS5 := Ext.refl w5
      repeat (refine line_read (a' := ?_) rfl (by kernel_rfl) (by kernel_rfl) hS5 (fun x hx K hK => ?_) ?_; rotate_left; · go_wp2; exact hK)
      refine line_act (by rfl) (fun K hK => ?_)
      go_wp2_with (go_at_call 21; refine (fits_is hv9 FB.out).mono ?_; rintro e w' ⟨rfl, rfl⟩)
      refine hK _ _ (Ext w5) hS5 (fun x hx => hx) ?_
      clear hK K
      refine line_act (by rfl) (fun K hK => ?_)
      go_wp2_with (go_at_call 22; refine (refFits_is FB.out).mono ?_; rintro e w' ⟨rfl, rfl⟩)
      refine hK _ _ (Ext w5) hS5 (fun x hx => hx) ?_
      clear hK K
      repeat (refine line_read (a' := ?_) rfl (by kernel_rfl) (by kernel_rfl) hS5 (fun x hx K hK => ?_) ?_; rotate_left; · go_wp2; exact hK)
      refine line_end ?_
      go_wp2
      go_ret
      exact ⟨rfl, hb5⟩
    · go_enter Try.func4, Try.ntmps4
      go_wp2_with (first | (go_at_call 6; refine (fixed_any _).mono ?_; rintro e w1 ⟨rfl, hb1, _⟩))
      go_ret
      exact ⟨rfl, hb1⟩
  · go_enter Try.func4, Try.ntmps4
    go_wp2_with (first | (go_at_call 6; refine (fixed_any _).mono ?_; rintro e w1 ⟨rfl, hb1, _⟩))
    go_ret
    exact ⟨rfl, hb1⟩

end Go.Proofs.Ytbiegcclfckgnaa
