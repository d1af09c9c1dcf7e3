/-
  Package frame: Open.
-/
import Derived.Test.YtjlecncamfdcfaaDoorFA
namespace Go.Proofs.YtjlecncamfdcfaaDoor
open Go.RowKit

/-- What the frame at the beginning says. -/
def opN (xs : List Int) : Nat := (leV ((xs.drop 1).take 2)).toNat
def opE (xs : List Int) : Int := if xs.length < opN xs + 7 then 2 else if leV ((xs.drop (opN xs + 3)).take 4) = (crcOf (xs.take (opN xs + 3)) : Nat) then 0 else 14
def opK (xs : List Int) : Int := if opE xs = 0 then leV (xs.take 1) else 0
def opB (xs : List Int) : List Int := if opE xs = 0 then (xs.drop 3).take (opN xs) else []
def opM (xs : List Int) : Int := if opE xs = 0 then opN xs + 7 else 0

theorem opN_lt {xs : List Int} (h : Byts xs) : opN xs < 65536 := by
  have hb : Byts ((xs.drop 1).take 2) := fun x hx => h x (List.mem_of_mem_drop (List.mem_of_mem_take hx))
  have h1 := leV_bd _ hb
  have h2 : ((xs.drop 1).take 2).length ≤ 2 := by simp; omega
  have h3 : (256 : Int) ^ ((xs.drop 1).take 2).length ≤ 256 ^ 2 := by
    have : ((xs.drop 1).take 2).length = 0 ∨ ((xs.drop 1).take 2).length = 1 ∨ ((xs.drop 1).take 2).length = 2 := by omega
    rcases this with e | e | e <;> rw [e] <;> decide
  unfold opN
  omega

theorem Bts.pre {w : World} {b off cap n : Nat} {xs : List Int} (h2 : xs.length ≤ cap) (h3 : ∀ i, i < xs.length → w.cell? ⟨b, off + i, none⟩ = some (.int .u8 (xs.getD i 0))) (hn : n ≤ xs.length) : Bts w (.slice (some ⟨b, off, none⟩) n cap) (xs.take n) := by
  refine .inr ⟨b, off, cap, by simp [Nat.min_eq_left hn], by simp; omega, fun i hi => ?_⟩
  have hi2 : i < n := by simp at hi; omega
  rw [h3 i (by omega)]
  simp [List.getD_eq_getElem?_getD, hi2]
theorem Bts.mid {w : World} {b off m n c : Nat} {xs : List Int} (h3 : ∀ i, i < xs.length → w.cell? ⟨b, off + i, none⟩ = some (.int .u8 (xs.getD i 0))) (hn : m + n ≤ xs.length) (hc : n ≤ c) : Bts w (.slice (some ⟨b, off + m, none⟩) n c) ((xs.drop m).take n) := by
  have hl : ((xs.drop m).take n).length = n := by simp; omega
  refine .inr ⟨b, off + m, c, by rw [hl], by omega, fun i hi => ?_⟩
  rw [hl] at hi
  rw [Nat.add_assoc, h3 (m + i) (by omega)]
  simp [List.getD_eq_getElem?_getD, List.getElem?_drop, hi]

/-- What Open answers. -/
def OpenP (w : World) (xs : List Int) (e : Ending) (w' : World) : Prop :=
  ∃ v', e = .returned (.tuple #[.int .i64 (opK xs), v', .int .i64 (opM xs), .int .i64 (opE xs)]) ∧ w'.ownsRow w.heap.size 5 1 v' (opB xs).length ((opB xs).map (Value.int .u8)) ∧ w.grownBy w' none

theorem open_short {xs : List Int} (h : xs.length < opN xs + 7) : opE xs = 2 ∧ opK xs = 0 ∧ opB xs = [] ∧ opM xs = 0 := by
  have e : opE xs = 2 := by unfold opE; rw [if_pos h]
  refine ⟨e, ?_, ?_, ?_⟩
  · unfold opK; rw [if_neg (by rw [e]; decide)]
  · unfold opB; rw [if_neg (by rw [e]; decide)]
  · unfold opM; rw [if_neg (by rw [e]; decide)]
theorem open_spoilt {xs : List Int} (h : ¬ xs.length < opN xs + 7) (h2 : leV ((xs.drop (opN xs + 3)).take 4) ≠ (crcOf (xs.take (opN xs + 3)) : Nat)) : opE xs = 14 ∧ opK xs = 0 ∧ opB xs = [] ∧ opM xs = 0 := by
  have e : opE xs = 14 := by unfold opE; rw [if_neg h, if_neg h2]
  refine ⟨e, ?_, ?_, ?_⟩
  · unfold opK; rw [if_neg (by rw [e]; decide)]
  · unfold opB; rw [if_neg (by rw [e]; decide)]
  · unfold opM; rw [if_neg (by rw [e]; decide)]
theorem open_whole {xs : List Int} (h : ¬ xs.length < opN xs + 7) (h2 : leV ((xs.drop (opN xs + 3)).take 4) = (crcOf (xs.take (opN xs + 3)) : Nat)) : opE xs = 0 ∧ opK xs = leV (xs.take 1) ∧ opB xs = (xs.drop 3).take (opN xs) ∧ opM xs = opN xs + 7 := by
  have e : opE xs = 0 := by unfold opE; rw [if_neg h, if_pos h2]
  refine ⟨e, ?_, ?_, ?_⟩
  · unfold opK; rw [if_pos e]
  · unfold opB; rw [if_pos e]
  · unfold opM; rw [if_pos e]

theorem num_ok {n : Int} {xs : List Int} (hs : sizeB n = true) (hn : n ≤ (xs.length : Int)) : numV n xs 0 = leV (xs.take n.toNat) ∧ numX n xs 0 = xs.drop n.toNat ∧ numE n xs 0 = 0 := by
  refine ⟨?_, ?_, ?_⟩
  · unfold numV; rw [if_pos ⟨rfl, hs, hn⟩]
  · unfold numX; rw [if_pos ⟨rfl, hs, hn⟩]
  · unfold numE; rw [if_pos rfl, if_pos hs, if_pos hn]

theorem clone_bts {w w5 : World} {b off n cap : Nat} {xs : List Int} (h : Bts w (.slice (some ⟨b, off, none⟩) n cap) xs) (hE : Ext w w5) (hn : xs.length = n) (hm : n ≤ 140737488351232) :
    Calls Tryd.prog 32 #[.slice (some ⟨b, off, none⟩) n cap] w5 (Made w5.heap.size w5 xs) := by
  subst hn
  rcases h with ⟨h, _⟩ | ⟨b', off', c', h, _, hc⟩
  · simp at h
  · simp only [Value.slice.injEq, Option.some.injEq, Addr.mk.injEq, and_true, true_and] at h
    obtain ⟨⟨rfl, rfl⟩, rfl⟩ := h
    exact clone_some b off cap xs w5 (fun i hi => hE.cell (hc i hi) (by simp)) hm

set_option maxRecDepth 100000 in
set_option maxHeartbeats 1600000 in
theorem open_any (v : Value) (xs : List Int) (w : World) (hb : Bts w v xs) (hB : Byts xs) (hm : xs.length ≤ 140737488200000) :
    Calls Tryd.prog 36 #[v] w (OpenP w xs) := by
  by_cases h3 : xs.length < 3
  · obtain ⟨e1, e2, e3, e4⟩ := open_short (xs := xs) (by omega)
    unfold OpenP
    rw [e1, e2, e3, e4]
    obtain ⟨ao, cap, b, off, rfl, _⟩ := hb.sform
    have h3' : (xs.length : Int) < 3 := by omega
    clear hb hB e1 e2 e3 e4
    go_enter Tryd.func36, Tryd.ntmps36
    go_wp2
    refine bodyPost_ret (v := .tuple #[.int .i64 0, .slice none 0 0, .int .i64 0, .int .i64 2]) (by simp [results, Tryd.results36, go_sem]) rfl ⟨_, rfl, owns_nil _ _, Ext.refl _⟩
  · obtain ⟨b, off, cap, rfl, hcap, hc⟩ : ∃ b off cap, v = .slice (some ⟨b, off, none⟩) xs.length cap ∧ xs.length ≤ cap ∧ ∀ i, i < xs.length → w.cell? ⟨b, off + i, none⟩ = some (.int .u8 (xs.getD i 0)) := by
      rcases hb with ⟨_, rfl⟩ | h
      · simp at h3
      · exact h
    have hbw : b < w.heap.size := World.block_lt_of_cell? w _ (hc 0 (by omega))
    have hn := opN_lt hB
    have b3 : Bts w (.slice (some ⟨b, off, none⟩) 3 cap) (xs.take 3) := Bts.pre hcap hc (by omega)
    have B3 : Byts (xs.take 3) := fun x hx => hB x (List.mem_of_mem_take hx)
    have B3' : Byts ((xs.take 3).drop 1) := fun x hx => B3 x (List.mem_of_mem_drop hx)
    have l3 : (xs.take 3).length = 3 := by simp; omega
    obtain ⟨v1, x1, y1⟩ := num_ok (n := 1) (xs := xs.take 3) rfl (by omega)
    obtain ⟨v2, x2, y2⟩ := num_ok (n := 2) (xs := (xs.take 3).drop 1) rfl (by simp; omega)
    have lb : 0 ≤ leV ((xs.drop 1).take 2) := (leV_bd _ (fun x hx => hB x (List.mem_of_mem_drop (List.mem_of_mem_take hx)))).1
    have v1 : numV 1 (xs.take 3) 0 = leV (xs.take 1) := by rw [v1, show (1 : Int).toNat = 1 from rfl, List.take_take]; rfl
    have v2 : numV 2 ((xs.take 3).drop 1) 0 = (opN xs : Nat) := by
      rw [v2, show (2 : Int).toNat = 2 from rfl, List.drop_take, List.take_take]
      show leV ((xs.drop 1).take 2) = _
      unfold opN
      omega
    have x1 : numX 1 (xs.take 3) 0 = (xs.take 3).drop 1 := x1
    have RD := fun v hb => read_any (.slice (some ⟨b, off, none⟩) 3 cap) (xs.take 3) v hb (by omega)
    have H1 := Lib.hid (And.intro v1 (And.intro x1 y1))
    have H2 := Lib.hid (And.intro v2 (And.intro x2 y2))
    have HB3 := Lib.hid (And.intro B3 B3')
    have HB := Lib.hid hB
    have Hb3 := Lib.hid b3
    have hn3 : ¬ (xs.length : Int) < 3 := by omega
    have HC := Lib.hid hc
    obtain ⟨kk, hkk⟩ : ∃ kk, leV (xs.take 1) = kk := ⟨_, rfl⟩
    have HK := Lib.hid hkk
    clear v1 x1 y1 v2 x2 y2 B3 B3' b3 hB hb hc lb hkk l3
    by_cases h7 : xs.length < opN xs + 7
    · obtain ⟨e1, e2, e3, e4⟩ := open_short (xs := xs) h7
      unfold OpenP
      rw [e1, e2, e3, e4]
      clear e1 e2 e3 e4
      generalize opN xs = n at *
      have h7' : (xs.length : Int) < n + 7 := by omega
      go_enter Tryd.func36, Tryd.ntmps36
      go_wp2_with (first
        | (go_at_call 22; refine (number_is hR2 HB3.out.2 H2.out.1 H2.out.2.1 H2.out.2.2).mono ?_; rintro e w3 ⟨rfl, hR3, hg3⟩)
        | (go_at_call 22; refine (number_is hR1 HB3.out.1 (H1.out.1.trans HK.out) H1.out.2.1 H1.out.2.2).mono ?_; rintro e w2 ⟨rfl, hR2, hg2⟩)
        | (go_at_call 21; refine (RD _ Hb3.out (by omega)).mono ?_; rintro e w1 ⟨br, c, rfl, hR1, hg1, hl1, hl2, hl3⟩))
      have hgr := grown_trans (grown_trans hg1 hg2 (fun k hk h => by cases hk; omega)) hg3 (fun k hk h => by cases hk; omega)
      refine bodyPost_ret (v := .tuple #[.int .i64 0, .slice none 0 0, .int .i64 0, .int .i64 2]) (by simp [results, Tryd.results36, go_sem]) rfl ⟨_, rfl, owns_nil _ _, hgr⟩
    · obtain ⟨V, hV⟩ : ∃ V, leV ((xs.drop (opN xs + 3)).take 4) = V := ⟨_, rfl⟩
      obtain ⟨C, hCc⟩ : ∃ C, crcOf (xs.take (opN xs + 3)) = C := ⟨_, rfl⟩
      have hCl : C < 4294967296 := by rw [← hCc]; exact crcOf_lt _
      have l4 : ((xs.drop (opN xs + 3)).take 4).length = 4 := by simp; omega
      have B4 : Byts ((xs.drop (opN xs + 3)).take 4) := fun x hx => HB.out x (List.mem_of_mem_drop (List.mem_of_mem_take hx))
      obtain ⟨v4, x4, y4⟩ := num_ok (n := 4) (xs := (xs.drop (opN xs + 3)).take 4) rfl (by rw [l4]; decide)
      rw [show (4 : Int).toNat = 4 from rfl, List.take_take, show min 4 4 = 4 from rfl, hV] at v4
      have SO := fun v w' hbb => sumOf_any v (xs.take (opN xs + 3)) w' hbb (fun x hx => HB.out x (List.mem_of_mem_take hx)) (by simp; omega)
      rw [hCc] at SO
      have b4 : ∀ c, 4 ≤ c → Bts w (.slice (some ⟨b, off + (3 + opN xs), none⟩) 4 c) ((xs.drop (opN xs + 3)).take 4) := fun c h => by rw [Nat.add_comm 3]; exact Bts.mid HC.out (by omega) h
      have b5 : Bts w (.slice (some ⟨b, off, none⟩) (3 + opN xs) cap) (xs.take (opN xs + 3)) := by rw [Nat.add_comm 3]; exact Bts.pre hcap HC.out (by omega)
      have b6 : ∀ c, opN xs ≤ c → Bts w (.slice (some ⟨b, off + 3, none⟩) (opN xs) c) ((xs.drop 3).take (opN xs)) := fun c h => Bts.mid HC.out (by omega) h
      have H4 := Lib.hid (And.intro v4 (And.intro x4 y4))
      have HB4 := Lib.hid B4
      have HL4 := Lib.hid l4
      have K4 := Lib.hid b4
      have K5 := Lib.hid b5
      have K6 := Lib.hid b6
      have hwr : IntKind.i64.wrap (C : Int) = (C : Int) := IntWalk.i64_in _ ⟨by omega, by omega⟩
      clear v4 x4 y4 l4 B4 b4 b5 b6
      have h7' : ¬ (xs.length : Int) < opN xs + 7 := by omega
      have hlen : opN xs + 7 ≤ xs.length := by omega
      by_cases hVC : V = (C : Int)
      · obtain ⟨e1, e2, e3, e4⟩ := open_whole (xs := xs) h7 (by rw [hV, hCc]; exact hVC)
        unfold OpenP
        rw [e1, e2, e3, e4, HK.out]
        have hne : (V != (C : Int)) = false := by simpa using hVC
        have l6 : ((xs.drop 3).take (opN xs)).length = opN xs := by simp; omega
        have HL6 := Lib.hid l6
        clear l6
        clear e1 e2 e3 e4 hV hCc hVC h7
        generalize (xs.drop (opN xs + 3)).take 4 = zs at *
        generalize xs.take (opN xs + 3) = hs at *
        generalize (xs.drop 3).take (opN xs) = bs at *
        generalize opN xs = n at *
        go_enter Tryd.func36, Tryd.ntmps36
        go_wp2_with (first
          | (go_at_call 22; refine (number_is hR2 HB3.out.2 H2.out.1 H2.out.2.1 H2.out.2.2).mono ?_; rintro e w3 ⟨rfl, hR3, hg3⟩)
          | (go_at_call 22; refine (number_is hR1 HB3.out.1 (H1.out.1.trans HK.out) H1.out.2.1 H1.out.2.2).mono ?_; rintro e w2 ⟨rfl, hR2, hg2⟩)
          | (go_at_call 21; refine (RD _ Hb3.out (by omega)).mono ?_; rintro e w1 ⟨br, c, rfl, hR1, hg1, hl1, hl2, hl3⟩))
        have hgr := grown_trans (grown_trans hg1 hg2 (fun k hk h => by cases hk; omega)) hg3 (fun k hk h => by cases hk; omega)
        have hE3 : Ext w w3.drew := Ext.next hgr _ (Ext.drew w3)
        refine region_line [(0, true), (1, true), (2, true), (3, true), (6, true), (7, true), (8, true), (4, false), (5, false), (9, false), (10, true), (11, true)] (Ext w) (by kernel_rfl) (by kernel_rfl) (fun _ _ _ d _ h => by cases d <;> exact h) hE3 ?_
        repeat (refine line_read (a' := ?_) rfl (by kernel_rfl) (by kernel_rfl) hE3 (fun x hx K hK => ?_) ?_; rotate_left; · go_wp2; exact hK)
        refine line_act (by rfl) (fun K hK => ?_)
        go_wp2_with (go_at_call 21; refine (read_any _ zs _ ((K4.out _ (by omega)).kept hE3 (by simp)) (by rw [HL4.out]; omega) (by have := hE3.size; omega)).mono ?_; rintro e w4 ⟨br2, c2, rfl, hR4, hg4, hm1, hm2, hm3⟩)
        have hE4 : Ext w w4 := Ext.next hE3 _ hg4
        refine hK _ _ (Ext w) hE4 (fun x hx => hx) ?_
        clear hK K
        refine line_act (by rfl) (fun K hK => ?_)
        go_wp2_with (go_at_call 22; refine (number_is hR4 HB4.out H4.out.1 H4.out.2.1 H4.out.2.2).mono ?_; rintro e w5 ⟨rfl, hR5, hg5⟩)
        have hz3 := hE3.size
        have hE5 : Ext w w5 := grown_trans hE4 hg5 (fun k hk h => by cases hk; omega)
        refine hK _ _ (Ext w) hE5 (fun x hx => hx) ?_
        clear hK K
        refine line_act (by rfl) (fun K hK => ?_)
        go_wp2_with (go_at_call 34; refine (SO _ _ (K5.out.kept hE5 (by simp))).mono ?_; rintro e w' ⟨rfl, rfl⟩)
        refine hK _ _ (Ext w) hE5 (fun x hx => hx) ?_
        clear hK K
        repeat (refine line_read (a' := ?_) rfl (by kernel_rfl) (by kernel_rfl) hE5 (fun x hx K hK => ?_) ?_; rotate_left; · go_wp2; exact hK)
        refine line_end ?_
        go_wp2_with (go_at_call 32; refine (clone_bts (K6.out (cap - 3) (by omega)) hE5 HL6.out (by omega)).mono ?_; rintro e w6 ⟨v6, rfl, hown6, hg6⟩)
        refine bodyPost_ret (v := .tuple #[.int .i64 kk, v6, .int .i64 (n + 7), .int .i64 0]) (by simp [results, Tryd.results36, go_sem]; omega) rfl ⟨_, rfl, ownsRow_le hown6 hE5.size, Ext.next hE5 _ hg6⟩
      · obtain ⟨e1, e2, e3, e4⟩ := open_spoilt (xs := xs) h7 (by rw [hV, hCc]; exact hVC)
        unfold OpenP
        rw [e1, e2, e3, e4]
        have hne : (V != (C : Int)) = true := by simpa using hVC
        clear e1 e2 e3 e4 hV hCc hVC h7
        generalize (xs.drop (opN xs + 3)).take 4 = zs at *
        generalize xs.take (opN xs + 3) = hs at *
        generalize (xs.drop 3).take (opN xs) = bs at *
        generalize opN xs = n at *
        go_enter Tryd.func36, Tryd.ntmps36
        go_wp2_with (first
          | (go_at_call 22; refine (number_is hR2 HB3.out.2 H2.out.1 H2.out.2.1 H2.out.2.2).mono ?_; rintro e w3 ⟨rfl, hR3, hg3⟩)
          | (go_at_call 22; refine (number_is hR1 HB3.out.1 (H1.out.1.trans HK.out) H1.out.2.1 H1.out.2.2).mono ?_; rintro e w2 ⟨rfl, hR2, hg2⟩)
          | (go_at_call 21; refine (RD _ Hb3.out (by omega)).mono ?_; rintro e w1 ⟨br, c, rfl, hR1, hg1, hl1, hl2, hl3⟩))
        have hgr := grown_trans (grown_trans hg1 hg2 (fun k hk h => by cases hk; omega)) hg3 (fun k hk h => by cases hk; omega)
        have hE3 : Ext w w3.drew := Ext.next hgr _ (Ext.drew w3)
        refine region_line [(0, true), (1, true), (2, true), (3, true), (6, true), (7, true), (8, true), (4, false), (5, false), (9, false), (10, true), (11, true)] (Ext w) (by kernel_rfl) (by kernel_rfl) (fun _ _ _ d _ h => by cases d <;> exact h) hE3 ?_
        repeat (refine line_read (a' := ?_) rfl (by kernel_rfl) (by kernel_rfl) hE3 (fun x hx K hK => ?_) ?_; rotate_left; · go_wp2; exact hK)
        refine line_act (by rfl) (fun K hK => ?_)
        go_wp2_with (go_at_call 21; refine (read_any _ zs _ ((K4.out _ (by omega)).kept hE3 (by simp)) (by rw [HL4.out]; omega) (by have := hE3.size; omega)).mono ?_; rintro e w4 ⟨br2, c2, rfl, hR4, hg4, hm1, hm2, hm3⟩)
        have hE4 : Ext w w4 := Ext.next hE3 _ hg4
        refine hK _ _ (Ext w) hE4 (fun x hx => hx) ?_
        clear hK K
        refine line_act (by rfl) (fun K hK => ?_)
        go_wp2_with (go_at_call 22; refine (number_is hR4 HB4.out H4.out.1 H4.out.2.1 H4.out.2.2).mono ?_; rintro e w5 ⟨rfl, hR5, hg5⟩)
        have hz3 := hE3.size
        have hE5 : Ext w w5 := grown_trans hE4 hg5 (fun k hk h => by cases hk; omega)
        refine hK _ _ (Ext w) hE5 (fun x hx => hx) ?_
        clear hK K
        refine line_act (by rfl) (fun K hK => ?_)
        go_wp2_with (go_at_call 34; refine (SO _ _ (K5.out.kept hE5 (by simp))).mono ?_; rintro e w' ⟨rfl, rfl⟩)
        refine hK _ _ (Ext w) hE5 (fun x hx => hx) ?_
        clear hK K
        repeat (refine line_read (a' := ?_) rfl (by kernel_rfl) (by kernel_rfl) hE5 (fun x hx K hK => ?_) ?_; rotate_left; · go_wp2; exact hK)
        refine line_end ?_
        go_wp2
        refine bodyPost_ret (v := .tuple #[.int .i64 0, .slice none 0 0, .int .i64 0, .int .i64 14]) (by simp [results, Tryd.results36, go_sem]) rfl ⟨_, rfl, owns_nil _ _, hE5⟩

end Go.Proofs.YtjlecncamfdcfaaDoor
