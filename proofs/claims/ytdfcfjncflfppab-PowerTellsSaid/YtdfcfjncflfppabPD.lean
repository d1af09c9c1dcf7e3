/-
  Package power: the law PowerTells' walk.
-/
import Derived.Test.YtdfcfjncflfppabPC
namespace Go.Proofs.Ytdfcfjncflfppab
open Go.RowKit

/-- The power and the document's, side by side. -/
structure Duo (p r : Nat) (x : Int) (g : Bool) (o : Int) (w : World) : Prop where
  p : PowAt w p x g o
  r : RefAt w r x g o
theorem Duo.drew {p r : Nat} {x : Int} {g : Bool} {o : Int} {w : World} (h : Duo p r x g o w) : Duo p r x g o w.drew := ⟨h.p.drew, h.r.drew⟩
theorem Duo.alloc {p r : Nat} {x : Int} {g : Bool} {o : Int} {w : World} (h : Duo p r x g o w) (c : Obj) : Duo p r x g o (w.alloc c) :=
  have hg : w.grownBy (w.alloc c) none := World.grownBy_alloc w c none
  ⟨h.p.other hg h.p.lt (by simp), h.r.other hg h.r.lt (by simp)⟩

set_option maxHeartbeats 1000000 in
theorem powerTells_few (n : Int) (ao : Option Addr) (len cap b off : Nat) (ks ns : Nat → Int) (w : World) (hn : -9223372036854775808 ≤ n ∧ n ≤ 9223372036854775807) (hl : len ≤ 300)
    (ha : len = 0 ∨ ao = some ⟨b, off, none⟩) (hb : len = 0 ∨ b < w.heap.size) (hc : ∀ i, i < len → w.cell? ⟨b, off + i * 2, none⟩ = some (.int .u8 (ks i)) ∧ w.cell? ⟨b, off + i * 2 + 1, none⟩ = some (.int .i64 (ns i)))
    (hk : ∀ i, i < len → (0 ≤ ks i ∧ ks i ≤ 255) ∧ -9223372036854775808 ≤ ns i ∧ ns i ≤ 9223372036854775807) :
    Calls Try.prog 3 #[.int .i64 n, .slice ao len cap] w (TrueB w) := by
  have HC := Lib.hid hc
  have HK := Lib.hid hk
  have HA := Lib.hid ha
  have HB := Lib.hid hb
  have HN := Lib.hid hn
  clear hc hk ha hb hn
  go_enter Try.func3, Try.ntmps3
  go_wp2_with (first
    | (go_at_call 5; refine (fixed6_any _).mono ?_; rintro e w1 ⟨rfl, hb1⟩)
    | (go_at_call 6; refine (new_is _ _).mono ?_; rintro e w2 ⟨rfl, hp0, hg0⟩))
  have hp2 : w.heap.size ≤ w1.heap.size := hb1.size
  have hb2 := hb1.trans (gb_below0 hg0 hb1.size)
  have hp3 : w1.heap.size < w2.heap.size := hp0.lt
  have D0 : Duo w1.heap.size w2.heap.size n false 0 (w2.alloc (.cells #[.int .i64 n, .bool false, .int .i64 0] 28)) :=
    ⟨hp0.other (World.grownBy_alloc w2 _ none) hp0.lt (by simp), by constructor <;> simp⟩
  have hb3 := hb2.alloc hb2.size (.cells #[.int .i64 n, .bool false, .int .i64 0] 28)
  obtain ⟨p, hp⟩ : ∃ p, p = w1.heap.size := ⟨_, rfl⟩
  obtain ⟨r, hr⟩ : ∃ r, r = w2.heap.size := ⟨_, rfl⟩
  rw [← hp, ← hr] at D0 ⊢
  rw [← hp] at hp2
  rw [← hp, ← hr] at hp3
  clear hb1 hg0 hp0 hb2
  go_loopw [22] (fun i wr => ∃ k : Nat, k ≤ len ∧ i = .int .i64 k ∧ ∃ x g o, Duo p r x g o wr ∧ (-9223372036854775808 ≤ x ∧ x ≤ 9223372036854775807) ∧ 0 ≤ o ∧ o ≤ k ∧ Below w.heap.size w wr) (fun i _ => len - (intOf i).toNat)
  case atStart => exact ⟨0, Nat.zero_le _, rfl, n, false, 0, D0, HN.out, by omega, by omega, hb3⟩
  case round =>
    clear hb3 D0 hp hr
    obtain ⟨k, hkk, rfl, x, g, o, D, hx, ho, hok, hbk⟩ := hrel
    by_cases hlk : k < len
    · obtain ⟨kv, hkv⟩ : ∃ m, m = ks k := ⟨_, rfl⟩
      obtain ⟨nv, hnv⟩ : ∃ m, m = ns k := ⟨_, rfl⟩
      obtain ⟨hka, hna⟩ := HK.out k hlk
      rw [← hkv] at hka
      rw [← hnv] at hna
      obtain rfl : ao = some ⟨b, off, none⟩ := HA.out.resolve_left (by omega)
      have hbb : b < w.heap.size := HB.out.resolve_left (by omega)
      have g1 : wr.cell? ⟨b, off + k * 2, none⟩ = some (.int .u8 kv) := by rw [hkv]; exact (hbk.cell hbb).trans (HC.out k hlk).1
      have g2 : wr.cell? ⟨b, off + k * 2 + 1, none⟩ = some (.int .i64 nv) := by rw [hnv]; exact (hbk.cell hbb).trans (HC.out k hlk).2
      have D1 := D.alloc (.cells #[.int .u8 kv, .int .i64 nv] 30)
      clear hkv hnv
      have hm : kv.tmod 3 = 0 ∨ kv.tmod 3 = 1 ∨ kv.tmod 3 = 2 := by rw [Int.tmod_eq_emod_of_nonneg hka.1]; omega
      rcases hm with hm | hm | hm
      · go_wp2_with (first
          | (go_at_call 7; refine (spend_any _ _ _ _ _ D1.p hx.1 hx.2 ho (by omega)).mono ?_; rintro e w3 ⟨rfl, hp4, hg4⟩; have hr4 := D1.r.other hg4 D1.r.lt (by simp; omega))
          | (go_at_call 8; refine (refSpend_any _ _ _ _ _ hr4 hx.1 hx.2 ho (by omega)).mono ?_; rintro e w5 ⟨rfl, hr5, hg5⟩))
        have D2 : Duo p r (spX x g) (spG x g) (spO g o) w5 := ⟨hp4.other hg5 hp4.lt (by simp; omega), hr5⟩
        have hb4 := (hbk.alloc hbk.size (.cells #[.int .u8 kv, .int .i64 nv] 30)).trans (gb_below hg4 hp2 (by have := hbk.size; simp; omega))
        have hb5 := hb4.trans (gb_below hg5 (by omega) hb4.size)
        have hx2 : -9223372036854775808 ≤ spX x g ∧ spX x g ≤ 9223372036854775807 := by unfold spX; split <;> (try split) <;> omega
        have ho2 : 0 ≤ spO g o ∧ spO g o ≤ (k : Int) + 1 := by unfold spO; split <;> omega
        generalize spX x g = x' at D2 hx2
        generalize spG x g = g' at D2
        generalize spO g o = o' at D2 ho2
        clear hb4 hg4 hg5 hp4 hr4 hr5 D1 D g1 g2 hbk hx ho hok
        refine region_line [(0, true), (2, true), (3, true), (4, true), (5, true), (1, false), (6, true), (7, true), (8, true), (10, true), (11, true), (12, true), (13, true), (9, false), (14, true), (15, true)] (Duo p r x' g' o') (by kernel_rfl) (by kernel_rfl) (fun _ _ _ d _ h => by cases d <;> exact h) D2.drew ?_
        repeat (refine line_read (a' := ?_) rfl (by kernel_rfl) (by kernel_rfl) D2.drew (fun v hv K hK => ?_) ?_; rotate_left; · obtain ⟨⟨c0, c1, c2, f0, f1, f2⟩, ⟨d0, d1, d2, e0, e1, e2⟩⟩ := hv; go_wp2; exact hK)
        refine line_act (by rfl) (fun K hK => ?_)
        go_wp2_with (go_at_call 11; refine (gone_is _ _ _ _ _ D2.drew.p).mono ?_; rintro e w' ⟨rfl, rfl⟩)
        refine hK _ _ (Duo p r x' g' o') D2.drew (fun v hv => hv) ?_
        clear hK K
        repeat (refine line_read (a' := ?_) rfl (by kernel_rfl) (by kernel_rfl) D2.drew (fun v hv K hK => ?_) ?_; rotate_left; · obtain ⟨⟨c0, c1, c2, f0, f1, f2⟩, ⟨d0, d1, d2, e0, e1, e2⟩⟩ := hv; go_wp2; exact hK)
        refine line_act (by rfl) (fun K hK => ?_)
        go_wp2_with (go_at_call 12; refine (ops_is _ _ _ _ _ D2.drew.p).mono ?_; rintro e w' ⟨rfl, rfl⟩)
        refine hK _ _ (Duo p r x' g' o') D2.drew (fun v hv => hv) ?_
        clear hK K
        repeat (refine line_read (a' := ?_) rfl (by kernel_rfl) (by kernel_rfl) D2.drew (fun v hv K hK => ?_) ?_; rotate_left; · obtain ⟨⟨c0, c1, c2, f0, f1, f2⟩, ⟨d0, d1, d2, e0, e1, e2⟩⟩ := hv; go_wp2; exact hK)
        refine line_end ?_
        go_wp2
        go_roundw
        case rel => exact ⟨k + 1, by omega, by go_num, x', g', o', D2.drew, hx2, by omega, by omega, hb5.drew⟩
        case measure => simp [intOf]; omega
      · go_wp2_with (first
          | (go_at_call 9; refine (back_is _ _ _ _ _ _ D1.p).mono ?_; rintro e w3 ⟨rfl, hp4, hg4⟩; have hr4 := D1.r.other hg4 D1.r.lt (by simp; omega); obtain ⟨c0, c1, c2, f0, f1, f2⟩ := hr4; have k1 : w3.cell? ⟨wr.heap.size, 1, none⟩ = some (.int .i64 nv) := (gb_cell hg4 (by simp) (by simp; have := D.p.lt; omega)).trans (by simp)))
        have D2 : Duo p r nv false o ((w3.setCell ⟨r, 0, none⟩ (.int .i64 nv)).setCell ⟨r, 1, none⟩ (.bool false)) :=
          have hr6 : RefAt w3 r x g o := ⟨c0, c1, c2, f0, f1, f2⟩
          ⟨(hp4.other (gb_set (gb_set (gb_refl w3 (some r)) 0 (.int .i64 nv)) 1 (.bool false)) hp4.lt (by simp; omega)), (hr6.set0 nv).set1 false⟩
        have hb4 := (hbk.alloc hbk.size (.cells #[.int .u8 kv, .int .i64 nv] 30)).trans (gb_below hg4 hp2 (by have := hbk.size; simp; omega))
        have hb5 := (hb4.setCell (p := ⟨r, 0, none⟩) (by show _ ≤ r; omega) (.int .i64 nv)).setCell (p := ⟨r, 1, none⟩) (by show _ ≤ r; omega) (.bool false)
        obtain ⟨w5, hw5⟩ : ∃ v, ((w3.setCell ⟨r, 0, none⟩ (.int .i64 nv)).setCell ⟨r, 1, none⟩ (.bool false)) = v := ⟨_, rfl⟩
        rw [hw5] at D2 hb5 ⊢
        obtain ⟨x', hx'⟩ : ∃ x', nv = x' := ⟨_, rfl⟩
        obtain ⟨g', hg'⟩ : ∃ g', false = g' := ⟨_, rfl⟩
        obtain ⟨o', ho'⟩ : ∃ o', o = o' := ⟨_, rfl⟩
        rw [hx', hg', ho'] at D2
        have hx2 : -9223372036854775808 ≤ x' ∧ x' ≤ 9223372036854775807 := by omega
        have ho2 : 0 ≤ o' ∧ o' ≤ (k : Int) + 1 := by omega
        clear hb4 hg4 hp4 D1 D g1 g2 hbk hx ho hok c0 c1 c2 f0 f1 f2 k1 hw5 hx' hg' ho'
        refine region_line [(0, true), (2, true), (3, true), (4, true), (5, true), (1, false), (6, true), (7, true), (8, true), (10, true), (11, true), (12, true), (13, true), (9, false), (14, true), (15, true)] (Duo p r x' g' o') (by kernel_rfl) (by kernel_rfl) (fun _ _ _ d _ h => by cases d <;> exact h) D2.drew ?_
        repeat (refine line_read (a' := ?_) rfl (by kernel_rfl) (by kernel_rfl) D2.drew (fun v hv K hK => ?_) ?_; rotate_left; · obtain ⟨⟨c0, c1, c2, f0, f1, f2⟩, ⟨d0, d1, d2, e0, e1, e2⟩⟩ := hv; go_wp2; exact hK)
        refine line_act (by rfl) (fun K hK => ?_)
        go_wp2_with (go_at_call 11; refine (gone_is _ _ _ _ _ D2.drew.p).mono ?_; rintro e w' ⟨rfl, rfl⟩)
        refine hK _ _ (Duo p r x' g' o') D2.drew (fun v hv => hv) ?_
        clear hK K
        repeat (refine line_read (a' := ?_) rfl (by kernel_rfl) (by kernel_rfl) D2.drew (fun v hv K hK => ?_) ?_; rotate_left; · obtain ⟨⟨c0, c1, c2, f0, f1, f2⟩, ⟨d0, d1, d2, e0, e1, e2⟩⟩ := hv; go_wp2; exact hK)
        refine line_act (by rfl) (fun K hK => ?_)
        go_wp2_with (go_at_call 12; refine (ops_is _ _ _ _ _ D2.drew.p).mono ?_; rintro e w' ⟨rfl, rfl⟩)
        refine hK _ _ (Duo p r x' g' o') D2.drew (fun v hv => hv) ?_
        clear hK K
        repeat (refine line_read (a' := ?_) rfl (by kernel_rfl) (by kernel_rfl) D2.drew (fun v hv K hK => ?_) ?_; rotate_left; · obtain ⟨⟨c0, c1, c2, f0, f1, f2⟩, ⟨d0, d1, d2, e0, e1, e2⟩⟩ := hv; go_wp2; exact hK)
        refine line_end ?_
        go_wp2
        go_roundw
        case rel => exact ⟨k + 1, by omega, by go_num, x', g', o', D2.drew, hx2, by omega, by omega, hb5.drew⟩
        case measure => simp [intOf]; omega
      · go_wp2_with (first
          | (go_at_call 10; refine (cut_is _ _ _ _ _ D1.p).mono ?_; rintro e w3 ⟨rfl, hp4, hg4⟩; have hr4 := D1.r.other hg4 D1.r.lt (by simp; omega); obtain ⟨c0, c1, c2, f0, f1, f2⟩ := hr4))
        have D2 : Duo p r x true o (w3.setCell ⟨r, 1, none⟩ (.bool true)) :=
          have hr6 : RefAt w3 r x g o := ⟨c0, c1, c2, f0, f1, f2⟩
          ⟨(hp4.other (gb_set (gb_refl w3 (some r)) 1 (.bool true)) hp4.lt (by simp; omega)), hr6.set1 true⟩
        have hb4 := (hbk.alloc hbk.size (.cells #[.int .u8 kv, .int .i64 nv] 30)).trans (gb_below hg4 hp2 (by have := hbk.size; simp; omega))
        have hb5 := hb4.setCell (p := ⟨r, 1, none⟩) (by show _ ≤ r; omega) (.bool true)
        obtain ⟨w5, hw5⟩ : ∃ v, (w3.setCell ⟨r, 1, none⟩ (.bool true)) = v := ⟨_, rfl⟩
        rw [hw5] at D2 hb5 ⊢
        obtain ⟨x', hx'⟩ : ∃ x', x = x' := ⟨_, rfl⟩
        obtain ⟨g', hg'⟩ : ∃ g', true = g' := ⟨_, rfl⟩
        obtain ⟨o', ho'⟩ : ∃ o', o = o' := ⟨_, rfl⟩
        rw [hx', hg', ho'] at D2
        have hx2 : -9223372036854775808 ≤ x' ∧ x' ≤ 9223372036854775807 := by omega
        have ho2 : 0 ≤ o' ∧ o' ≤ (k : Int) + 1 := by omega
        clear hb4 hg4 hp4 D1 D g1 g2 hbk hx ho hok c0 c1 c2 f0 f1 f2 hw5 hx' hg' ho'
        refine region_line [(0, true), (2, true), (3, true), (4, true), (5, true), (1, false), (6, true), (7, true), (8, true), (10, true), (11, true), (12, true), (13, true), (9, false), (14, true), (15, true)] (Duo p r x' g' o') (by kernel_rfl) (by kernel_rfl) (fun _ _ _ d _ h => by cases d <;> exact h) D2.drew ?_
        repeat (refine line_read (a' := ?_) rfl (by kernel_rfl) (by kernel_rfl) D2.drew (fun v hv K hK => ?_) ?_; rotate_left; · obtain ⟨⟨c0, c1, c2, f0, f1, f2⟩, ⟨d0, d1, d2, e0, e1, e2⟩⟩ := hv; go_wp2; exact hK)
        refine line_act (by rfl) (fun K hK => ?_)
        go_wp2_with (go_at_call 11; refine (gone_is _ _ _ _ _ D2.drew.p).mono ?_; rintro e w' ⟨rfl, rfl⟩)
        refine hK _ _ (Duo p r x' g' o') D2.drew (fun v hv => hv) ?_
        clear hK K
        repeat (refine line_read (a' := ?_) rfl (by kernel_rfl) (by kernel_rfl) D2.drew (fun v hv K hK => ?_) ?_; rotate_left; · obtain ⟨⟨c0, c1, c2, f0, f1, f2⟩, ⟨d0, d1, d2, e0, e1, e2⟩⟩ := hv; go_wp2; exact hK)
        refine line_act (by rfl) (fun K hK => ?_)
        go_wp2_with (go_at_call 12; refine (ops_is _ _ _ _ _ D2.drew.p).mono ?_; rintro e w' ⟨rfl, rfl⟩)
        refine hK _ _ (Duo p r x' g' o') D2.drew (fun v hv => hv) ?_
        clear hK K
        repeat (refine line_read (a' := ?_) rfl (by kernel_rfl) (by kernel_rfl) D2.drew (fun v hv K hK => ?_) ?_; rotate_left; · obtain ⟨⟨c0, c1, c2, f0, f1, f2⟩, ⟨d0, d1, d2, e0, e1, e2⟩⟩ := hv; go_wp2; exact hK)
        refine line_end ?_
        go_wp2
        go_roundw
        case rel => exact ⟨k + 1, by omega, by go_num, x', g', o', D2.drew, hx2, by omega, by omega, hb5.drew⟩
        case measure => simp [intOf]; omega
    · obtain rfl : k = len := by omega
      go_wp2_with (first
        | (go_at_call 9; refine (back_nil _ _).mono ?_; rintro e w3 ⟨rfl, rfl⟩)
        | (go_at_call 10; refine (cut_nil _).mono ?_; rintro e w3 ⟨rfl, rfl⟩)
        | (go_at_call 11; refine (gone_nil _).mono ?_; rintro e w3 ⟨rfl, rfl⟩)
        | (go_at_call 7; refine (spend_nil _).mono ?_; rintro e w3 ⟨rfl, rfl⟩)
        | (go_at_call 12; refine (ops_nil _).mono ?_; rintro e w3 ⟨rfl, rfl⟩))
      go_ret
      exact ⟨rfl, hbk⟩

theorem powerTells_any (n : Int) (ao : Option Addr) (len cap : Nat) (ks ns : Nat → Int) (w : World) (hn : -9223372036854775808 ≤ n ∧ n ≤ 9223372036854775807)
    (hl : (ao = none ∧ len = 0 ∧ cap = 0) ∨ ∃ b off, ao = some ⟨b, off, none⟩ ∧ b < w.heap.size ∧ ∀ i, i < len → w.cell? ⟨b, off + i * 2, none⟩ = some (.int .u8 (ks i)) ∧ w.cell? ⟨b, off + i * 2 + 1, none⟩ = some (.int .i64 (ns i)))
    (hk : ∀ i, i < len → (0 ≤ ks i ∧ ks i ≤ 255) ∧ -9223372036854775808 ≤ ns i ∧ ns i ≤ 9223372036854775807) (hm : len ≤ 9223372036854775807) :
    Calls Try.prog 3 #[.int .i64 n, .slice ao len cap] w (TrueB w) := by
  by_cases h : len ≤ 300
  · rcases hl with ⟨rfl, rfl, rfl⟩ | ⟨b, off, rfl, hb, hc⟩
    · exact powerTells_few n none 0 0 0 0 ks ns w hn (by omega) (.inl rfl) (.inl rfl) (fun i hi => by omega) hk
    · exact powerTells_few n _ len cap b off ks ns w hn h (.inr rfl) (.inr hb) hc hk
  · clear hl hk
    go_enter Try.func3, Try.ntmps3
    go_wp2_with (go_at_call 5; refine (fixed6_any _).mono ?_; rintro e w1 ⟨rfl, hb1⟩)
    go_ret
    exact ⟨rfl, hb1⟩

end Go.Proofs.Ytdfcfjncflfppab
