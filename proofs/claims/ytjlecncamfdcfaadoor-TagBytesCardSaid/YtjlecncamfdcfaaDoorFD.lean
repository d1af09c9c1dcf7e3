/-
  The document's Open (layer 3), of three bytes and more.
-/
import Derived.Test.YtjlecncamfdcfaaDoorFC
namespace Go.Proofs.YtjlecncamfdcfaaDoor
open Go.RowKit

theorem ref_reader {v : Value} {xs : List Int} {w : World} (hb : Bts w v xs) (hlt : ∀ k, v.ownBlock = some k → k < w.heap.size) :
    ∃ c, RdIs 52 (w.alloc (.cells #[v, .int .i64 0] 52)) w.heap.size c xs 0 := by
  have hga := World.grownBy_alloc w (.cells #[v, .int .i64 0] 52) none
  cases ho : v.ownBlock with
  | none => exact ⟨w.heap.size + 1, v, heap_alloc_new w _, hb.kept hga (by simp), fun k hk => (by rw [ho] at hk; cases hk), by omega⟩
  | some c => exact ⟨c, v, heap_alloc_new w _, hb.kept hga (by simp), fun k hk => (by rw [ho] at hk; cases hk; rfl), Nat.ne_of_lt (hlt c ho)⟩

set_option maxRecDepth 100000 in
set_option maxHeartbeats 1600000 in
theorem refOpen_any (v : Value) (xs : List Int) (w : World) (hb : Bts w v xs) (hB : Byts xs) (hm : xs.length ≤ 140737488200000) (hlt : ∀ k, v.ownBlock = some k → k < w.heap.size) :
    Calls Tryd.prog 40 #[v] w (OpenP w xs) := by
  by_cases h3 : xs.length < 3
  · exact refOpen_short v xs w hb hB hm hlt h3
  · obtain ⟨c, hR0⟩ := ref_reader hb hlt
    obtain ⟨b, off, cap, rfl, hcap, hc⟩ : ∃ b off cap, v = .slice (some ⟨b, off, none⟩) xs.length cap ∧ xs.length ≤ cap ∧ ∀ i, i < xs.length → w.cell? ⟨b, off + i, none⟩ = some (.int .u8 (xs.getD i 0)) := by
      rcases hb with ⟨_, rfl⟩ | h
      · simp at h3
      · exact h
    have HR := Lib.hid hR0
    have hn := opN_lt hB
    have B1 : Byts (xs.drop 1) := fun x hx => hB x (List.mem_of_mem_drop hx)
    have BK : Byts (xs.take 1) := fun x hx => hB x (List.mem_of_mem_take hx)
    have l1 : (xs.drop 1).length = xs.length - 1 := by simp
    obtain ⟨v1, x1, y1⟩ := num_ok (n := 1) (xs := xs) rfl (by omega)
    obtain ⟨v2, x2, y2⟩ := num_ok (n := 2) (xs := xs.drop 1) rfl (by omega)
    have lb : 0 ≤ leV ((xs.drop 1).take 2) := (leV_bd _ (fun x hx => hB x (List.mem_of_mem_drop (List.mem_of_mem_take hx)))).1
    have hkb : 0 ≤ leV (xs.take 1) ∧ leV (xs.take 1) ≤ 255 := by
      have h := leV_bd _ BK
      rw [show (xs.take 1).length = 1 by simp; omega] at h
      omega
    have v2 : numV 2 (xs.drop 1) 0 = (opN xs : Nat) := by
      rw [v2, show (2 : Int).toNat = 2 from rfl]
      unfold opN
      omega
    have x2 : numX 2 (xs.drop 1) 0 = xs.drop 3 := by rw [x2, show (2 : Int).toNat = 2 from rfl, List.drop_drop]
    have l2 : (xs.drop 3).length = xs.length - 3 := by simp
    obtain ⟨kk, hkk⟩ : ∃ kk, leV (xs.take 1) = kk := ⟨_, rfl⟩
    have H1 := Lib.hid (And.intro (v1.trans hkk) (And.intro x1 y1))
    have H2 := Lib.hid (And.intro v2 (And.intro x2 y2))
    have HB := Lib.hid (And.intro hB B1)
    have HC := Lib.hid hc
    have HKK := Lib.hid hkk
    rw [hkk] at hkb
    have L2 := Lib.hid l2
    have hn3 : ¬ xs.length < 3 := h3
    clear v1 x1 y1 v2 x2 y2 B1 BK hb hc lb hR0 hkk l1 l2 h3
    by_cases h7 : xs.length < opN xs + 7
    · obtain ⟨e1, e2, e3, e4⟩ := open_short (xs := xs) h7
      unfold OpenP
      rw [e1, e2, e3, e4]
      clear e1 e2 e3 e4 hB
      have h7' : ((xs.length - 3 : Nat) : Int) < opN xs + 4 := by omega
      generalize opN xs = n at *
      go_enter Tryd.func40, Tryd.ntmps40
      go_wp2_with (first
        | (go_at_call 28; refine (refNumber_is hR2 HB.out.2 H2.out.1 H2.out.2.1 H2.out.2.2).mono ?_; rintro e w3 ⟨rfl, ⟨v3, hr3, hv3, hc3, hne3⟩, hg3⟩; have q1 := two_cell1 hr3; have q0 := two_cell0 hr3; obtain ⟨ao3, cap3, rfl⟩ := hv3.shape; rw [L2.out] at q0)
        | (go_at_call 28; refine (refNumber_is HR.out HB.out.1 H1.out.1 H1.out.2.1 H1.out.2.2).mono ?_; rintro e w2 ⟨rfl, hR2, hg2⟩))
      have hgr := grown_trans (grown_trans (World.grownBy_alloc w (.cells #[.slice (some ⟨b, off, none⟩) xs.length cap, .int .i64 0] 52) none) hg2 (fun k hk h => by cases hk; omega)) hg3 (fun k hk h => by cases hk; omega)
      refine bodyPost_ret (v := .tuple #[.int .i64 0, .slice none 0 0, .int .i64 0, .int .i64 2]) (by simp [results, Tryd.results40, go_sem]) rfl ⟨_, rfl, owns_nil _ _, hgr⟩
    · have hlen : opN xs + 7 ≤ xs.length := by omega
      have h7' : ¬ ((xs.length - 3 : Nat) : Int) < opN xs + 4 := by omega
      have hfe := frame_eq hB hlen
      rw [HKK.out] at hfe
      have b6 : ∀ c, opN xs ≤ c → Bts w (.slice (some ⟨b, off + 3, none⟩) (opN xs) c) ((xs.drop 3).take (opN xs)) := fun c h => Bts.mid HC.out (by omega) h
      have b7 : Bts w (.slice (some ⟨b, off, none⟩) (opN xs + 7) cap) (xs.take (opN xs + 7)) := Bts.pre hcap HC.out (by omega)
      have B6 : Byts ((xs.drop 3).take (opN xs)) := fun x hx => hB x (List.mem_of_mem_drop (List.mem_of_mem_take hx))
      have B7 : Byts (xs.take (opN xs + 7)) := fun x hx => hB x (List.mem_of_mem_take hx)
      have l6 : ((xs.drop 3).take (opN xs)).length = opN xs := by simp; omega
      have hcmp : ((strOfNums (frL kk ((xs.drop 3).take (opN xs)))).toList == (strOfNums (xs.take (opN xs + 7))).toList) = decide (leV ((xs.drop (opN xs + 3)).take 4) = (crcOf (xs.take (opN xs + 3)) : Nat)) := by
        rw [str_beq (frL_byts B6) B7]
        by_cases h : leV ((xs.drop (opN xs + 3)).take 4) = (crcOf (xs.take (opN xs + 3)) : Nat)
        · rw [decide_eq_true h, decide_eq_true (hfe.2 h)]
        · rw [decide_eq_false h, decide_eq_false (fun e => h (hfe.1 e))]
      have mk : mkE kk ((xs.drop 3).take (opN xs)) = 0 := by unfold mkE; rw [if_pos ⟨hkb.1, hkb.2⟩, if_pos (by omega)]
      have ml : mkL kk ((xs.drop 3).take (opN xs)) = frL kk ((xs.drop 3).take (opN xs)) := by unfold mkL; rw [if_pos mk]
      have RM := fun v' w' hb => refMake_any kk v' ((xs.drop 3).take (opN xs)) w' hb B6 (by omega)
      rw [mk, ml] at RM
      obtain ⟨fr, hfr⟩ : ∃ fr, frL kk ((xs.drop 3).take (opN xs)) = fr := ⟨_, rfl⟩
      obtain ⟨s1, hs1⟩ : ∃ s, strOfNums fr = s := ⟨_, rfl⟩
      obtain ⟨s2, hs2⟩ : ∃ s, strOfNums (xs.take (opN xs + 7)) = s := ⟨_, rfl⟩
      rw [hfr] at RM hcmp
      rw [hs1, hs2] at hcmp
      have K6 := Lib.hid b6
      have K7 := Lib.hid b7
      have L6 := Lib.hid l6
      have S1 := Lib.hid hs1
      have S2 := Lib.hid hs2
      clear b6 b7 B6 B7 l6 hs1 hs2 hfr hfe mk ml
      by_cases hVC : leV ((xs.drop (opN xs + 3)).take 4) = (crcOf (xs.take (opN xs + 3)) : Nat)
      · obtain ⟨e1, e2, e3, e4⟩ := open_whole (xs := xs) h7 hVC
        unfold OpenP
        rw [e1, e2, e3, e4, HKK.out]
        have hne : (s1.toList == s2.toList) = true := by rw [hcmp]; simp [hVC]
        clear e1 e2 e3 e4 hVC h7 hcmp hB
        generalize (xs.drop 3).take (opN xs) = bs at *
        generalize xs.take (opN xs + 7) = ts at *
        generalize opN xs = n at *
        go_enter Tryd.func40, Tryd.ntmps40
        go_wp2_with (first
          | (go_at_call 14; refine (RM _ _ ((K6.out _ (by omega)).kept hg4 (by simp))).mono ?_; rintro e w5 ⟨v5, rfl, hown5, hg5⟩)
          | (go_at_call 28; refine (refNumber_is hR2 HB.out.2 H2.out.1 H2.out.2.1 H2.out.2.2).mono ?_; rintro e w3 ⟨rfl, ⟨v3, hr3, hv3, hc3, hne3⟩, hg3⟩; have q1 := two_cell1 hr3; have q0 := two_cell0 hr3; obtain ⟨ao3, cap3, rfl⟩ := hv3.shape; rw [L2.out] at q0; have hg4 := grown_trans (grown_trans (World.grownBy_alloc w (.cells #[.slice (some ⟨b, off, none⟩) xs.length cap, .int .i64 0] 52) none) hg2 (fun k hk h => by cases hk; omega)) hg3 (fun k hk h => by cases hk; omega))
          | (go_at_call 28; refine (refNumber_is HR.out HB.out.1 H1.out.1 H1.out.2.1 H1.out.2.2).mono ?_; rintro e w2 ⟨rfl, hR2, hg2⟩))
        have hE5 : Ext w w5 := grown_trans hg4 hg5 (by simp)
        have hE6 : Ext w5 w5.drew := Ext.drew w5
        have hcv1 : ∀ x, Ext w5 x → (convert 25 9 v5).run Tryd.prog x = .ok (.string s1) x := fun x hx => convert_is ((Owns.bts rfl hown5).kept hx (by simp)) S1.out
        have hcv2 : ∀ x, Ext w5 x → (convert 25 9 (.slice (some ⟨b, off, none⟩) (n + 7) cap)).run Tryd.prog x = .ok (.string s2) x := fun x hx => convert_is (K7.out.kept (Ext.next hE5 x hx) (by simp)) S2.out
        refine region_line [(0, true), (1, true), (2, true), (3, true), (4, true), (5, true), (6, true)] (Ext w5) (by kernel_rfl) (by kernel_rfl) (fun _ _ _ d _ h => by cases d <;> exact h) hE6 ?_
        repeat (refine line_read (a' := ?_) rfl (by kernel_rfl) (by kernel_rfl) hE6 (fun x hx K hK => ?_) ?_; rotate_left; · have h1 := hcv1 x hx; have h2 := hcv2 x hx; go_wp2; exact hK)
        refine line_end ?_
        clear hcv1 hcv2
        go_wp2_with (at_builtin; go_loud (refine wpList_append_bts rfl _ _ rfl w5.drew.heap.size _ _ _ rfl (@owns_copy w5.drew) _ bs rfl ((K6.out _ (by omega)).kept (Ext.next hE5 _ (Ext.next hE6 _ (World.grownBy_alloc w5.drew _ none))) (by simp)) ?c1 ?c2 ?_))
        case c1 => rw [L6.out]; omega
        case c2 => simp
        intro v6 w6 hown6 hg6
        have hown6 : w6.ownsRow w5.drew.heap.size 5 1 v6 bs.length (bs.map (Value.int .u8)) := by simpa using hown6
        have hE7 : Ext w5.drew w6 := grown_trans (World.grownBy_alloc w5.drew (.cells #[] 5) none) hg6 (fun k hk h => by simp [Value.ownBlock] at hk; simp at h; omega)
        go_wp2
        refine bodyPost_ret (v := .tuple #[.int .i64 kk, v6, .int .i64 (n + 7), .int .i64 0]) (by simp [results, Tryd.results40, go_sem]) rfl ⟨_, rfl, ownsRow_le hown6 hE5.size, Ext.next hE5 _ (Ext.next hE6 _ hE7)⟩
      · obtain ⟨e1, e2, e3, e4⟩ := open_spoilt (xs := xs) h7 hVC
        unfold OpenP
        rw [e1, e2, e3, e4]
        have hne : (s1.toList == s2.toList) = false := by rw [hcmp]; simp [hVC]
        clear e1 e2 e3 e4 hVC h7 hcmp hB
        generalize (xs.drop 3).take (opN xs) = bs at *
        generalize xs.take (opN xs + 7) = ts at *
        generalize opN xs = n at *
        go_enter Tryd.func40, Tryd.ntmps40
        go_wp2_with (first
          | (go_at_call 14; refine (RM _ _ ((K6.out _ (by omega)).kept hg4 (by simp))).mono ?_; rintro e w5 ⟨v5, rfl, hown5, hg5⟩)
          | (go_at_call 28; refine (refNumber_is hR2 HB.out.2 H2.out.1 H2.out.2.1 H2.out.2.2).mono ?_; rintro e w3 ⟨rfl, ⟨v3, hr3, hv3, hc3, hne3⟩, hg3⟩; have q1 := two_cell1 hr3; have q0 := two_cell0 hr3; obtain ⟨ao3, cap3, rfl⟩ := hv3.shape; rw [L2.out] at q0; have hg4 := grown_trans (grown_trans (World.grownBy_alloc w (.cells #[.slice (some ⟨b, off, none⟩) xs.length cap, .int .i64 0] 52) none) hg2 (fun k hk h => by cases hk; omega)) hg3 (fun k hk h => by cases hk; omega))
          | (go_at_call 28; refine (refNumber_is HR.out HB.out.1 H1.out.1 H1.out.2.1 H1.out.2.2).mono ?_; rintro e w2 ⟨rfl, hR2, hg2⟩))
        have hE5 : Ext w w5 := grown_trans hg4 hg5 (by simp)
        have hE6 : Ext w5 w5.drew := Ext.drew w5
        have hcv1 : ∀ x, Ext w5 x → (convert 25 9 v5).run Tryd.prog x = .ok (.string s1) x := fun x hx => convert_is ((Owns.bts rfl hown5).kept hx (by simp)) S1.out
        have hcv2 : ∀ x, Ext w5 x → (convert 25 9 (.slice (some ⟨b, off, none⟩) (n + 7) cap)).run Tryd.prog x = .ok (.string s2) x := fun x hx => convert_is (K7.out.kept (Ext.next hE5 x hx) (by simp)) S2.out
        refine region_line [(0, true), (1, true), (2, true), (3, true), (4, true), (5, true), (6, true)] (Ext w5) (by kernel_rfl) (by kernel_rfl) (fun _ _ _ d _ h => by cases d <;> exact h) hE6 ?_
        repeat (refine line_read (a' := ?_) rfl (by kernel_rfl) (by kernel_rfl) hE6 (fun x hx K hK => ?_) ?_; rotate_left; · have h1 := hcv1 x hx; have h2 := hcv2 x hx; go_wp2; exact hK)
        refine line_end ?_
        clear hcv1 hcv2
        go_wp2
        refine bodyPost_ret (v := .tuple #[.int .i64 0, .slice none 0 0, .int .i64 0, .int .i64 14]) (by simp [results, Tryd.results40, go_sem]) rfl ⟨_, rfl, owns_nil _ _, Ext.next hE5 _ hE6⟩

end Go.Proofs.YtjlecncamfdcfaaDoor
