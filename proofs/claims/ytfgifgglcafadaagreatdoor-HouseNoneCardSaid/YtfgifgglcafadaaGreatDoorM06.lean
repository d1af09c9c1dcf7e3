/-
  Texts put together: FB FC FD SN FE TB Tree TC CA HB CB QB QC QG QH QI QJ.
-/
import Derived.Test.YtfgifgglcafadaaGreatDoorM05
import Derived.Test.YtfgifgglcafadaaGreatDoorM02
import Derived.Test.YtfgifgglcafadaaGreatDoorM01
import Derived.Deep.DeepCutAuto
import Derived.Lib.Hide
import Derived.Outline
import Derived.Deep.Cut
import Derived.Deep.LoopGhost
namespace Go.Proofs.YtfgifgglcafadaaGreatDoor
set_option linter.unusedVariables false
set_option linter.unusedSimpArgs false
set_option linter.unusedVariables false
set_option linter.unusedSimpArgs false
set_option maxRecDepth 100000
open Go.RowKit
def opN (xs : List Int) : Nat := (leV ((xs.drop 1).take 2)).toNat
def opE (xs : List Int) : Int := if xs.length < opN xs + 7 then 2 else if leV ((xs.drop (opN xs + 3)).take 4) = (crcOf (xs.take (opN xs + 3)) : Nat) then 0 else 14
def opK (xs : List Int) : Int := if opE xs = 0 then leV (xs.take 1) else 0
def opB (xs : List Int) : List Int := if opE xs = 0 then (xs.drop 3).take (opN xs) else []
def opM (xs : List Int) : Int := if opE xs = 0 then opN xs + 7 else 0
theorem opN_lt {xs : List Int} (h : Byts xs) : opN xs < 65536 := by
 have hb : Byts ((xs.drop 1).take 2) := fun x hx => h x (List.mem_of_mem_drop (List.mem_of_mem_take hx))
 have h1 := leV_bd _ hb
 have h2 : ((xs.drop 1).take 2).length ≤ 2 := by simp; omega
 have h3 : (256 : Int) ^ ((xs.drop 1).take 2).length ≤ 256 ^ 2 := by
   have : ((xs.drop 1).take 2).length = 0 ∨ ((xs.drop 1).take 2).length = 1 ∨ ((xs.drop 1).take 2).length = 2 := by omega
   rcases this with e | e | e <;> rw [e] <;> decide
 unfold opN
 omega
theorem Bts.pre {w : World} {b off cap n : Nat} {xs : List Int} (h2 : xs.length ≤ cap) (h3 : ∀ i, i < xs.length → w.cell? ⟨b, off + i, none⟩ = some (.int .u8 (xs.getD i 0))) (hn : n ≤ xs.length) : Bts w (.slice (some ⟨b, off, none⟩) n cap) (xs.take n) := by
 refine .inr ⟨b, off, cap, by simp [Nat.min_eq_left hn], by simp; omega, fun i hi => ?_⟩
 have hi2 : i < n := by simp at hi; omega
 rw [h3 i (by omega)]
 simp [List.getD_eq_getElem?_getD, hi2]
theorem Bts.mid {w : World} {b off m n c : Nat} {xs : List Int} (h3 : ∀ i, i < xs.length → w.cell? ⟨b, off + i, none⟩ = some (.int .u8 (xs.getD i 0))) (hn : m + n ≤ xs.length) (hc : n ≤ c) : Bts w (.slice (some ⟨b, off + m, none⟩) n c) ((xs.drop m).take n) := by
 have hl : ((xs.drop m).take n).length = n := by simp; omega
 refine .inr ⟨b, off + m, c, by rw [hl], by omega, fun i hi => ?_⟩
 rw [hl] at hi
 rw [Nat.add_assoc, h3 (m + i) (by omega)]
 simp [List.getD_eq_getElem?_getD, List.getElem?_drop, hi]
def OpenP (w : World) (xs : List Int) (e : Ending) (w' : World) : Prop :=
 ∃ v', e = .returned (.tuple #[.int .i64 (opK xs), v', .int .i64 (opM xs), .int .i64 (opE xs)]) ∧ w'.ownsRow w.heap.size 5 1 v' (opB xs).length ((opB xs).map (Value.int .u8)) ∧ w.grownBy w' none
theorem open_short {xs : List Int} (h : xs.length < opN xs + 7) : opE xs = 2 ∧ opK xs = 0 ∧ opB xs = [] ∧ opM xs = 0 := by
 have e : opE xs = 2 := by unfold opE; rw [if_pos h]
 refine ⟨e, ?_, ?_, ?_⟩
 · unfold opK; rw [if_neg (by rw [e]; decide)]
 · unfold opB; rw [if_neg (by rw [e]; decide)]
 · unfold opM; rw [if_neg (by rw [e]; decide)]
theorem open_spoilt {xs : List Int} (h : ¬ xs.length < opN xs + 7) (h2 : leV ((xs.drop (opN xs + 3)).take 4) ≠ (crcOf (xs.take (opN xs + 3)) : Nat)) : opE xs = 14 ∧ opK xs = 0 ∧ opB xs = [] ∧ opM xs = 0 := by
 have e : opE xs = 14 := by unfold opE; rw [if_neg h, if_neg h2]
 refine ⟨e, ?_, ?_, ?_⟩
 · unfold opK; rw [if_neg (by rw [e]; decide)]
 · unfold opB; rw [if_neg (by rw [e]; decide)]
 · unfold opM; rw [if_neg (by rw [e]; decide)]
theorem open_whole {xs : List Int} (h : ¬ xs.length < opN xs + 7) (h2 : leV ((xs.drop (opN xs + 3)).take 4) = (crcOf (xs.take (opN xs + 3)) : Nat)) : opE xs = 0 ∧ opK xs = leV (xs.take 1) ∧ opB xs = (xs.drop 3).take (opN xs) ∧ opM xs = opN xs + 7 := by
 have e : opE xs = 0 := by unfold opE; rw [if_neg h, if_pos h2]
 refine ⟨e, ?_, ?_, ?_⟩
 · unfold opK; rw [if_pos e]
 · unfold opB; rw [if_pos e]
 · unfold opM; rw [if_pos e]
theorem num_ok {n : Int} {xs : List Int} (hs : sizeB n = true) (hn : n ≤ (xs.length : Int)) : numV n xs 0 = leV (xs.take n.toNat) ∧ numX n xs 0 = xs.drop n.toNat ∧ numE n xs 0 = 0 := by
 refine ⟨?_, ?_, ?_⟩
 · unfold numV; rw [if_pos ⟨rfl, hs, hn⟩]
 · unfold numX; rw [if_pos ⟨rfl, hs, hn⟩]
 · unfold numE; rw [if_pos rfl, if_pos hs, if_pos hn]
theorem clone_bts {w w5 : World} {b off n cap : Nat} {xs : List Int} (h : Bts w (.slice (some ⟨b, off, none⟩) n cap) xs) (hE : Ext w w5) (hn : xs.length = n) (hm : n ≤ 140737488351232) :
   Calls Tryz.prog 215 #[.slice (some ⟨b, off, none⟩) n cap] w5 (Made w5.heap.size w5 xs) := by
 subst hn
 rcases h with ⟨h, _⟩ | ⟨b', off', c', h, _, hc⟩
 · simp at h
 · simp only [Value.slice.injEq, Option.some.injEq, Addr.mk.injEq, and_true, true_and] at h
   obtain ⟨⟨rfl, rfl⟩, rfl⟩ := h
   exact clone_some b off cap xs w5 (fun i hi => hE.cell (hc i hi) (by simp)) hm
set_option maxRecDepth 100000 in
set_option maxHeartbeats 1600000 in
theorem open_any (v : Value) (xs : List Int) (w : World) (hb : Bts w v xs) (hB : Byts xs) (hm : xs.length ≤ 140737488351232) :
   Calls Tryz.prog 277 #[v] w (OpenP w xs) := by
 by_cases h3 : xs.length < 3
 · obtain ⟨e1, e2, e3, e4⟩ := open_short (xs := xs) (by omega)
   unfold OpenP
   rw [e1, e2, e3, e4]
   obtain ⟨ao, cap, b, off, rfl, _⟩ := hb.sform
   have h3' : (xs.length : Int) < 3 := by omega
   clear hb hB e1 e2 e3 e4
   go_enter Tryz.func277, Tryz.ntmps277
   go_wp2
   refine bodyPost_ret (v := .tuple #[.int .i64 0, .slice none 0 0, .int .i64 0, .int .i64 2]) (by simp [results, Tryz.results277, go_sem]) rfl ⟨_, rfl, owns_nil _ _, Ext.refl _⟩
 · obtain ⟨b, off, cap, rfl, hcap, hc⟩ : ∃ b off cap, v = .slice (some ⟨b, off, none⟩) xs.length cap ∧ xs.length ≤ cap ∧ ∀ i, i < xs.length → w.cell? ⟨b, off + i, none⟩ = some (.int .u8 (xs.getD i 0)) := by
     rcases hb with ⟨_, rfl⟩ | h
     · simp at h3
     · exact h
   have hbw : b < w.heap.size := World.block_lt_of_cell? w _ (hc 0 (by omega))
   have hn := opN_lt hB
   have b3 : Bts w (.slice (some ⟨b, off, none⟩) 3 cap) (xs.take 3) := Bts.pre hcap hc (by omega)
   have B3 : Byts (xs.take 3) := fun x hx => hB x (List.mem_of_mem_take hx)
   have B3' : Byts ((xs.take 3).drop 1) := fun x hx => B3 x (List.mem_of_mem_drop hx)
   have l3 : (xs.take 3).length = 3 := by simp; omega
   obtain ⟨v1, x1, y1⟩ := num_ok (n := 1) (xs := xs.take 3) rfl (by omega)
   obtain ⟨v2, x2, y2⟩ := num_ok (n := 2) (xs := (xs.take 3).drop 1) rfl (by simp; omega)
   have lb : 0 ≤ leV ((xs.drop 1).take 2) := (leV_bd _ (fun x hx => hB x (List.mem_of_mem_drop (List.mem_of_mem_take hx)))).1
   have v1 : numV 1 (xs.take 3) 0 = leV (xs.take 1) := by rw [v1, show (1 : Int).toNat = 1 from rfl, List.take_take]; rfl
   have v2 : numV 2 ((xs.take 3).drop 1) 0 = (opN xs : Nat) := by
     rw [v2, show (2 : Int).toNat = 2 from rfl, List.drop_take, List.take_take]
     show leV ((xs.drop 1).take 2) = _
     unfold opN
     omega
   have x1 : numX 1 (xs.take 3) 0 = (xs.take 3).drop 1 := x1
   have RD := fun v hb => read_any (.slice (some ⟨b, off, none⟩) 3 cap) (xs.take 3) v hb (by omega)
   have H1 := Lib.hid (And.intro v1 (And.intro x1 y1))
   have H2 := Lib.hid (And.intro v2 (And.intro x2 y2))
   have HB3 := Lib.hid (And.intro B3 B3')
   have HB := Lib.hid hB
   have Hb3 := Lib.hid b3
   have hn3 : ¬ (xs.length : Int) < 3 := by omega
   have HC := Lib.hid hc
   obtain ⟨kk, hkk⟩ : ∃ kk, leV (xs.take 1) = kk := ⟨_, rfl⟩
   have HK := Lib.hid hkk
   clear v1 x1 y1 v2 x2 y2 B3 B3' b3 hB hb hc lb hkk l3
   by_cases h7 : xs.length < opN xs + 7
   · obtain ⟨e1, e2, e3, e4⟩ := open_short (xs := xs) h7
     unfold OpenP
     rw [e1, e2, e3, e4]
     clear e1 e2 e3 e4
     generalize opN xs = n at *
     have h7' : (xs.length : Int) < n + 7 := by omega
     go_enter Tryz.func277, Tryz.ntmps277
     go_wp2_with (first
       | (go_at_call 244; refine (number_is hR2 HB3.out.2 H2.out.1 H2.out.2.1 H2.out.2.2).mono ?_; rintro e w3 ⟨rfl, hR3, hg3⟩)
       | (go_at_call 244; refine (number_is hR1 HB3.out.1 (H1.out.1.trans HK.out) H1.out.2.1 H1.out.2.2).mono ?_; rintro e w2 ⟨rfl, hR2, hg2⟩)
       | (go_at_call 243; refine (RD _ Hb3.out (by omega)).mono ?_; rintro e w1 ⟨br, c, rfl, hR1, hg1, hl1, hl2, hl3⟩))
     have hgr := grown_trans (grown_trans hg1 hg2 (fun k hk h => by cases hk; omega)) hg3 (fun k hk h => by cases hk; omega)
     refine bodyPost_ret (v := .tuple #[.int .i64 0, .slice none 0 0, .int .i64 0, .int .i64 2]) (by simp [results, Tryz.results277, go_sem]) rfl ⟨_, rfl, owns_nil _ _, hgr⟩
   · obtain ⟨V, hV⟩ : ∃ V, leV ((xs.drop (opN xs + 3)).take 4) = V := ⟨_, rfl⟩
     obtain ⟨C, hCc⟩ : ∃ C, crcOf (xs.take (opN xs + 3)) = C := ⟨_, rfl⟩
     have hCl : C < 4294967296 := by rw [← hCc]; exact crcOf_lt _
     have l4 : ((xs.drop (opN xs + 3)).take 4).length = 4 := by simp; omega
     have B4 : Byts ((xs.drop (opN xs + 3)).take 4) := fun x hx => HB.out x (List.mem_of_mem_drop (List.mem_of_mem_take hx))
     obtain ⟨v4, x4, y4⟩ := num_ok (n := 4) (xs := (xs.drop (opN xs + 3)).take 4) rfl (by rw [l4]; decide)
     rw [show (4 : Int).toNat = 4 from rfl, List.take_take, show min 4 4 = 4 from rfl, hV] at v4
     have SO := fun v w' hbb => sumOf_any v (xs.take (opN xs + 3)) w' hbb (fun x hx => HB.out x (List.mem_of_mem_take hx)) (by simp; omega)
     rw [hCc] at SO
     have b4 : ∀ c, 4 ≤ c → Bts w (.slice (some ⟨b, off + (3 + opN xs), none⟩) 4 c) ((xs.drop (opN xs + 3)).take 4) := fun c h => by rw [Nat.add_comm 3]; exact Bts.mid HC.out (by omega) h
     have b5 : Bts w (.slice (some ⟨b, off, none⟩) (3 + opN xs) cap) (xs.take (opN xs + 3)) := by rw [Nat.add_comm 3]; exact Bts.pre hcap HC.out (by omega)
     have b6 : ∀ c, opN xs ≤ c → Bts w (.slice (some ⟨b, off + 3, none⟩) (opN xs) c) ((xs.drop 3).take (opN xs)) := fun c h => Bts.mid HC.out (by omega) h
     have H4 := Lib.hid (And.intro v4 (And.intro x4 y4))
     have HB4 := Lib.hid B4
     have HL4 := Lib.hid l4
     have K4 := Lib.hid b4
     have K5 := Lib.hid b5
     have K6 := Lib.hid b6
     have hwr : IntKind.i64.wrap (C : Int) = (C : Int) := IntWalk.i64_in _ ⟨by omega, by omega⟩
     clear v4 x4 y4 l4 B4 b4 b5 b6
     have h7' : ¬ (xs.length : Int) < opN xs + 7 := by omega
     have hlen : opN xs + 7 ≤ xs.length := by omega
     by_cases hVC : V = (C : Int)
     · obtain ⟨e1, e2, e3, e4⟩ := open_whole (xs := xs) h7 (by rw [hV, hCc]; exact hVC)
       unfold OpenP
       rw [e1, e2, e3, e4, HK.out]
       have hne : (V != (C : Int)) = false := by simpa using hVC
       have l6 : ((xs.drop 3).take (opN xs)).length = opN xs := by simp; omega
       have HL6 := Lib.hid l6
       clear l6
       clear e1 e2 e3 e4 hV hCc hVC h7
       generalize (xs.drop (opN xs + 3)).take 4 = zs at *
       generalize xs.take (opN xs + 3) = hs at *
       generalize (xs.drop 3).take (opN xs) = bs at *
       generalize opN xs = n at *
       go_enter Tryz.func277, Tryz.ntmps277
       go_wp2_with (first
         | (go_at_call 244; refine (number_is hR2 HB3.out.2 H2.out.1 H2.out.2.1 H2.out.2.2).mono ?_; rintro e w3 ⟨rfl, hR3, hg3⟩)
         | (go_at_call 244; refine (number_is hR1 HB3.out.1 (H1.out.1.trans HK.out) H1.out.2.1 H1.out.2.2).mono ?_; rintro e w2 ⟨rfl, hR2, hg2⟩)
         | (go_at_call 243; refine (RD _ Hb3.out (by omega)).mono ?_; rintro e w1 ⟨br, c, rfl, hR1, hg1, hl1, hl2, hl3⟩))
       have hgr := grown_trans (grown_trans hg1 hg2 (fun k hk h => by cases hk; omega)) hg3 (fun k hk h => by cases hk; omega)
       have hE3 : Ext w w3.drew := Ext.next hgr _ (Ext.drew w3)
       refine region_line [(0, true), (1, true), (2, true), (3, true), (6, true), (7, true), (8, true), (4, false), (5, false), (9, false), (10, true), (11, true)] (Ext w) (by kernel_rfl) (by kernel_rfl) (fun _ _ _ d _ h => by cases d <;> exact h) hE3 ?_
       repeat (refine line_read (a' := ?_) rfl (by kernel_rfl) (by kernel_rfl) hE3 (fun x hx K hK => ?_) ?_; rotate_left; · go_wp2; exact hK)
       refine line_act (by rfl) (fun K hK => ?_)
       go_wp2_with (go_at_call 243; refine (read_any _ zs _ ((K4.out _ (by omega)).kept hE3 (by simp)) (by rw [HL4.out]; omega) (by have := hE3.size; omega)).mono ?_; rintro e w4 ⟨br2, c2, rfl, hR4, hg4, hm1, hm2, hm3⟩)
       have hE4 : Ext w w4 := Ext.next hE3 _ hg4
       refine hK _ _ (Ext w) hE4 (fun x hx => hx) ?_
       clear hK K
       refine line_act (by rfl) (fun K hK => ?_)
       go_wp2_with (go_at_call 244; refine (number_is hR4 HB4.out H4.out.1 H4.out.2.1 H4.out.2.2).mono ?_; rintro e w5 ⟨rfl, hR5, hg5⟩)
       have hz3 := hE3.size
       have hE5 : Ext w w5 := grown_trans hE4 hg5 (fun k hk h => by cases hk; omega)
       refine hK _ _ (Ext w) hE5 (fun x hx => hx) ?_
       clear hK K
       refine line_act (by rfl) (fun K hK => ?_)
       go_wp2_with (go_at_call 259; refine (SO _ _ (K5.out.kept hE5 (by simp))).mono ?_; rintro e w' ⟨rfl, rfl⟩)
       refine hK _ _ (Ext w) hE5 (fun x hx => hx) ?_
       clear hK K
       repeat (refine line_read (a' := ?_) rfl (by kernel_rfl) (by kernel_rfl) hE5 (fun x hx K hK => ?_) ?_; rotate_left; · go_wp2; exact hK)
       refine line_end ?_
       go_wp2_with (go_at_call 215; refine (clone_bts (K6.out (cap - 3) (by omega)) hE5 HL6.out (by omega)).mono ?_; rintro e w6 ⟨v6, rfl, hown6, hg6⟩)
       refine bodyPost_ret (v := .tuple #[.int .i64 kk, v6, .int .i64 (n + 7), .int .i64 0]) (by simp [results, Tryz.results277, go_sem]; omega) rfl ⟨_, rfl, ownsRow_le hown6 hE5.size, Ext.next hE5 _ hg6⟩
     · obtain ⟨e1, e2, e3, e4⟩ := open_spoilt (xs := xs) h7 (by rw [hV, hCc]; exact hVC)
       unfold OpenP
       rw [e1, e2, e3, e4]
       have hne : (V != (C : Int)) = true := by simpa using hVC
       clear e1 e2 e3 e4 hV hCc hVC h7
       generalize (xs.drop (opN xs + 3)).take 4 = zs at *
       generalize xs.take (opN xs + 3) = hs at *
       generalize (xs.drop 3).take (opN xs) = bs at *
       generalize opN xs = n at *
       go_enter Tryz.func277, Tryz.ntmps277
       go_wp2_with (first
         | (go_at_call 244; refine (number_is hR2 HB3.out.2 H2.out.1 H2.out.2.1 H2.out.2.2).mono ?_; rintro e w3 ⟨rfl, hR3, hg3⟩)
         | (go_at_call 244; refine (number_is hR1 HB3.out.1 (H1.out.1.trans HK.out) H1.out.2.1 H1.out.2.2).mono ?_; rintro e w2 ⟨rfl, hR2, hg2⟩)
         | (go_at_call 243; refine (RD _ Hb3.out (by omega)).mono ?_; rintro e w1 ⟨br, c, rfl, hR1, hg1, hl1, hl2, hl3⟩))
       have hgr := grown_trans (grown_trans hg1 hg2 (fun k hk h => by cases hk; omega)) hg3 (fun k hk h => by cases hk; omega)
       have hE3 : Ext w w3.drew := Ext.next hgr _ (Ext.drew w3)
       refine region_line [(0, true), (1, true), (2, true), (3, true), (6, true), (7, true), (8, true), (4, false), (5, false), (9, false), (10, true), (11, true)] (Ext w) (by kernel_rfl) (by kernel_rfl) (fun _ _ _ d _ h => by cases d <;> exact h) hE3 ?_
       repeat (refine line_read (a' := ?_) rfl (by kernel_rfl) (by kernel_rfl) hE3 (fun x hx K hK => ?_) ?_; rotate_left; · go_wp2; exact hK)
       refine line_act (by rfl) (fun K hK => ?_)
       go_wp2_with (go_at_call 243; refine (read_any _ zs _ ((K4.out _ (by omega)).kept hE3 (by simp)) (by rw [HL4.out]; omega) (by have := hE3.size; omega)).mono ?_; rintro e w4 ⟨br2, c2, rfl, hR4, hg4, hm1, hm2, hm3⟩)
       have hE4 : Ext w w4 := Ext.next hE3 _ hg4
       refine hK _ _ (Ext w) hE4 (fun x hx => hx) ?_
       clear hK K
       refine line_act (by rfl) (fun K hK => ?_)
       go_wp2_with (go_at_call 244; refine (number_is hR4 HB4.out H4.out.1 H4.out.2.1 H4.out.2.2).mono ?_; rintro e w5 ⟨rfl, hR5, hg5⟩)
       have hz3 := hE3.size
       have hE5 : Ext w w5 := grown_trans hE4 hg5 (fun k hk h => by cases hk; omega)
       refine hK _ _ (Ext w) hE5 (fun x hx => hx) ?_
       clear hK K
       refine line_act (by rfl) (fun K hK => ?_)
       go_wp2_with (go_at_call 259; refine (SO _ _ (K5.out.kept hE5 (by simp))).mono ?_; rintro e w' ⟨rfl, rfl⟩)
       refine hK _ _ (Ext w) hE5 (fun x hx => hx) ?_
       clear hK K
       repeat (refine line_read (a' := ?_) rfl (by kernel_rfl) (by kernel_rfl) hE5 (fun x hx K hK => ?_) ?_; rotate_left; · go_wp2; exact hK)
       refine line_end ?_
       go_wp2
       refine bodyPost_ret (v := .tuple #[.int .i64 0, .slice none 0 0, .int .i64 0, .int .i64 14]) (by simp [results, Tryz.results277, go_sem]) rfl ⟨_, rfl, owns_nil _ _, hE5⟩
end Go.Proofs.YtfgifgglcafadaaGreatDoor

namespace Go.Proofs.YtfgifgglcafadaaGreatDoor
set_option linter.unusedVariables false
set_option linter.unusedSimpArgs false
set_option linter.unusedVariables false
set_option linter.unusedSimpArgs false
set_option maxRecDepth 100000
open Go.RowKit
theorem leB_cons (v : Int) (n : Nat) : leB v (n + 1) = (v % 256) :: leB (v / 256) n := by
 simp only [leB, List.range_succ_eq_map, List.map_cons, List.map_map, Int.pow_zero, Int.ediv_one]
 congr 1
 apply List.map_congr_left
 intro k _
 simp only [Function.comp, Nat.succ_eq_add_one]
 rw [Int.pow_succ, Int.mul_comm, Int.ediv_ediv_of_nonneg (by decide)]
theorem leV_leB : ∀ (n : Nat) {v : Int}, 0 ≤ v → v < 256 ^ n → leV (leB v n) = v
 | 0, v, h0, h1 => by simp [leB, leV]; simp at h1; omega
 | n + 1, v, h0, h1 => by
   rw [leB_cons]
   simp only [leV]
   have h2 : v / 256 < 256 ^ n := by rw [Int.pow_succ] at h1; omega
   rw [leV_leB n (by omega) h2]
   omega
end Go.Proofs.YtfgifgglcafadaaGreatDoor

namespace Go.Proofs.YtfgifgglcafadaaGreatDoor
set_option linter.unusedVariables false
set_option linter.unusedSimpArgs false
set_option linter.unusedVariables false
set_option linter.unusedSimpArgs false
set_option maxRecDepth 100000
open Go.RowKit
end Go.Proofs.YtfgifgglcafadaaGreatDoor

namespace Go.Proofs.YtfgifgglcafadaaGreatDoor
set_option linter.unusedVariables false
set_option linter.unusedSimpArgs false
set_option linter.unusedVariables false
set_option linter.unusedSimpArgs false
set_option maxRecDepth 100000
end Go.Proofs.YtfgifgglcafadaaGreatDoor

namespace Go.Proofs.YtfgifgglcafadaaGreatDoor
set_option linter.unusedVariables false
set_option linter.unusedSimpArgs false
set_option linter.unusedVariables false
set_option linter.unusedSimpArgs false
set_option maxRecDepth 100000
open Go.RowKit
def whE (xs : List Int) (kind : Int) : Int := if opE xs = 0 then (if opM xs = xs.length ∧ opK xs = kind then 0 else 2) else opE xs
def whB (xs : List Int) (kind : Int) : List Int := if whE xs kind = 0 then opB xs else []
set_option maxRecDepth 100000 in
set_option maxHeartbeats 800000 in
theorem whole_any (v : Value) (xs : List Int) (kind : Int) (w : World) (hb : Bts w v xs) (hB : Byts xs) (hm : xs.length ≤ 140737488351232) :
   Calls Tryz.prog 242 #[v, .int .i64 kind] w (MadeE w (whB xs kind) (whE xs kind)) := by
 have O := fun w' hb => open_any v xs w' hb hB hm
 obtain ⟨er, her⟩ : ∃ e, opE xs = e := ⟨_, rfl⟩
 obtain ⟨kk, hkk⟩ : ∃ e, opK xs = e := ⟨_, rfl⟩
 obtain ⟨mm, hmm⟩ : ∃ e, opM xs = e := ⟨_, rfl⟩
 have HBts := Lib.hid hb
 obtain ⟨ao, cap, b, off, rfl, _⟩ := hb.sform
 unfold OpenP at O
 rw [her, hkk, hmm] at O
 unfold MadeE
 unfold whB whE
 rw [her, hkk, hmm]
 generalize opB xs = bs at *
 clear her hkk hmm hb hB
 by_cases h0 : er = 0
 · subst h0
   rw [if_pos rfl]
   by_cases hc : mm = xs.length ∧ kk = kind
   · obtain ⟨h1, rfl⟩ := hc
     rw [if_pos ⟨h1, rfl⟩, if_pos rfl]
     have h1' : (mm != (xs.length : Int)) = false := by simpa using h1
     clear h1
     go_enter Tryz.func242, Tryz.ntmps242
     go_wp2_with (go_at_call 277; refine (O _ HBts.out).mono ?_; rintro e w2 ⟨v2, rfl, hown2, hg2⟩)
     refine bodyPost_ret (v := .tuple #[v2, .int .i64 0]) (by simp [results, Tryz.results242, go_sem]) rfl ⟨v2, rfl, hown2, hg2⟩
   · rw [if_neg hc, if_neg (by decide)]
     have part : mm ≠ xs.length ∨ (mm = xs.length ∧ kk ≠ kind) := by omega
     clear hc
     rcases part with h1 | ⟨h1, h2⟩
     · have h1' : (mm != (xs.length : Int)) = true := by simpa using h1
       clear h1
       go_enter Tryz.func242, Tryz.ntmps242
       go_wp2_with (go_at_call 277; refine (O _ HBts.out).mono ?_; rintro e w2 ⟨v2, rfl, hown2, hg2⟩)
       refine bodyPost_ret (v := .tuple #[.slice none 0 0, .int .i64 2]) (by simp [results, Tryz.results242, go_sem]) rfl ⟨_, rfl, owns_nil _ _, hg2⟩
     · have h1' : (mm != (xs.length : Int)) = false := by simpa using h1
       have h2' : (kk != kind) = true := by simpa using h2
       clear h1 h2
       go_enter Tryz.func242, Tryz.ntmps242
       go_wp2_with (go_at_call 277; refine (O _ HBts.out).mono ?_; rintro e w2 ⟨v2, rfl, hown2, hg2⟩)
       refine bodyPost_ret (v := .tuple #[.slice none 0 0, .int .i64 2]) (by simp [results, Tryz.results242, go_sem]) rfl ⟨_, rfl, owns_nil _ _, hg2⟩
 · rw [if_neg h0, if_neg h0]
   have h0' : (er != 0) = true := by simpa using h0
   clear h0
   go_enter Tryz.func242, Tryz.ntmps242
   go_wp2_with (go_at_call 277; refine (O _ HBts.out).mono ?_; rintro e w2 ⟨v2, rfl, hown2, hg2⟩)
   refine bodyPost_ret (v := .tuple #[.slice none 0 0, .int .i64 er]) (by simp [results, Tryz.results242, go_sem]) rfl ⟨_, rfl, owns_nil _ _, hg2⟩
theorem open_back {k : Int} {body rest : List Int} (h0 : 0 ≤ k) (h1 : k ≤ 255) (hl : body.length ≤ 65535) :
   opN (frL k body ++ rest) = body.length ∧ opE (frL k body ++ rest) = 0 ∧ opK (frL k body ++ rest) = k ∧ opB (frL k body ++ rest) = body ∧ opM (frL k body ++ rest) = body.length + 7 := by
 have e1 : frL k body ++ rest = leB k 1 ++ (leB body.length 2 ++ (body ++ (leB (crcOf (hdL k body)) 4 ++ rest))) := by simp [frL, hdL]
 have e2 : frL k body ++ rest = hdL k body ++ (leB (crcOf (hdL k body)) 4 ++ rest) := by simp [frL]
 have hn : opN (frL k body ++ rest) = body.length := by
   unfold opN
   rw [e1, List.drop_left' (leB_len k 1), List.take_left' (leB_len _ 2), leV_leB 2 (by omega) (by show _ < (65536 : Int); omega)]
   omega
 have hlen : (frL k body ++ rest).length = body.length + 7 + rest.length := by rw [List.length_append, frL_len]
 have he : opE (frL k body ++ rest) = 0 := by
   unfold opE
   rw [hn, if_neg (by omega)]
   rw [e2, List.drop_left' (hdL_len k body), List.take_left' (leB_len _ 4), List.take_left' (hdL_len k body), leV_leB 4 (by omega) (by have := crcOf_lt (hdL k body); show _ < (4294967296 : Int); omega), if_pos rfl]
 refine ⟨hn, he, ?_, ?_, ?_⟩
 · unfold opK
   rw [if_pos he, e1, List.take_left' (leB_len k 1), leV_leB 1 h0 (by show _ < (256 : Int); omega)]
 · unfold opB
   rw [if_pos he, hn, e1, show 3 = 1 + 2 from rfl, ← List.drop_drop, List.drop_left' (leB_len k 1), List.drop_left' (leB_len _ 2), List.take_left' rfl]
 · unfold opM
   rw [if_pos he, hn]
end Go.Proofs.YtfgifgglcafadaaGreatDoor

namespace Go.Proofs.YtfgifgglcafadaaGreatDoor
set_option linter.unusedVariables false
set_option linter.unusedSimpArgs false
set_option linter.unusedVariables false
set_option linter.unusedSimpArgs false
set_option maxRecDepth 100000
open Go.RowKit
def pre (v : Nat → Int) : Nat → List Int
 | 0 => []
 | j + 1 => pre v j ++ leB (v j) (fsz j).toNat
end Go.Proofs.YtfgifgglcafadaaGreatDoor

namespace Go.Proofs.YtfgifgglcafadaaGreatDoor
set_option linter.unusedVariables false
set_option linter.unusedSimpArgs false
set_option linter.unusedVariables false
set_option linter.unusedSimpArgs false
set_option maxRecDepth 100000
open Go.RowKit
inductive Tree where
 | done : Tree
 | read : Nat → Tree → Tree
 | one : Nat → Tree → Tree
 | two : Nat → Nat → Tree → Tree → Tree
def Tree.len : Tree → Nat
 | .done => 0
 | .read _ t => t.len + 1
 | .one _ t => t.len + 1
 | .two _ _ t _ => t.len + 1
def treeOk (md : Region.Mode) (ops : Array Oper) : Array Bool → Tree → Bool
 | listed, .done => Region.ready md ops listed == []
 | listed, .read i t => Region.free md ops listed i && (Region.ready md ops listed).contains i && treeOk md ops (listed.setIfInBounds i true) t
 | listed, .one i t => Region.ready md ops listed == [i] && treeOk md ops (listed.setIfInBounds i true) t
 | listed, .two i j t u => Region.ready md ops listed == [i, j] && (t.len == u.len) && treeOk md ops (listed.setIfInBounds i true) t && treeOk md ops (listed.setIfInBounds j true) u
def wpTree (P : Program) (ops : Array Oper) (Q : Exit → Act → World → Prop) : (World → Prop) → Tree → Act → World → Prop
 | _, .done, a, w => Q .normal a w
 | S, .read i t, a, w => ∃ o v, ops[i]? = some o ∧ YieldsIf P ops S o v a ∧ wpTree P ops Q S t (a.put o.dst v) w
 | S, .one i t, a, w => wpOp P ops Q i (fun a' w' => ∃ S' : World → Prop, S' w' ∧ (∀ x, S' x → S x) ∧ wpTree P ops Q S' t a' w') a w
 | S, .two i j t u, a, w => wpOp P ops Q i (fun a' w' => ∃ S' : World → Prop, S' w' ∧ (∀ x, S' x → S x) ∧ wpTree P ops Q S' t a' w') a w ∧
     wpOp P ops Q j (fun a' w' => ∃ S' : World → Prop, S' w' ∧ (∀ x, S' x → S x) ∧ wpTree P ops Q S' u a' w') a w
theorem wpTree_any {P : Program} {ops : Array Oper} {Q : Exit → Act → World → Prop} {md : Region.Mode} (hsel : Region.noSelect ops = true)
   (hQ : ∀ c a w d v, Q (.panic c) (a.put d v) w → Q (.panic c) a w) :
   ∀ (t : Tree) (S : World → Prop) (listed : Array Bool) (a : Act) (w : World), treeOk md ops listed t = true → S w → wpTree P ops Q S t a w → wpAnyH P md ops Q S t.len listed a w
 | .done, S, listed, a, w, hl, _, h => ⟨by simpa [treeOk] using hl, h⟩
 | .read i t, S, listed, a, w, hl, hS, h => by
   obtain ⟨o, v, ho, hy, h⟩ := h
   simp only [treeOk, Bool.and_eq_true] at hl
   exact wpAnyH_take ho hsel hl.1.1 hl.1.2 (fun c a w => hQ c a w _ _) hy hS (wpTree_any hsel hQ t S _ _ w hl.2 hS h)
 | .one i t, S, listed, a, w, hl, hS, h => by
   simp only [treeOk, Bool.and_eq_true, beq_iff_eq] at hl
   refine wpAnyH_all hl.1 (by simp) ?_
   intro j hj
   simp at hj
   subst hj
   exact wpOp_mono (fun a' w' ⟨S', hS', hsub, h'⟩ => ⟨hsub _ hS', wpAnyH_weaken hsub _ _ _ _ (wpTree_any hsel hQ t S' _ _ w' hl.2 hS' h')⟩) h
 | .two i j t u, S, listed, a, w, hl, hS, h => by
   simp only [treeOk, Bool.and_eq_true, beq_iff_eq] at hl
   obtain ⟨⟨⟨h1, h2⟩, h3⟩, h4⟩ := hl
   refine wpAnyH_all h1 (by simp) ?_
   intro k hk
   simp at hk
   rcases hk with rfl | rfl
   · exact wpOp_mono (fun a' w' ⟨S', hS', hsub, h'⟩ => ⟨hsub _ hS', wpAnyH_weaken hsub _ _ _ _ (wpTree_any hsel hQ t S' _ _ w' h3 hS' h')⟩) h.1
   · exact wpOp_mono (fun a' w' ⟨S', hS', hsub, h'⟩ => ⟨hsub _ hS', wpAnyH_weaken hsub _ _ _ _ (by rw [h2]; exact wpTree_any hsel hQ u S' _ _ w' h4 hS' h')⟩) h.2
theorem region_tree {P : Program} {ops : Array Oper} {Q : Exit → Act → World → Prop} {id : Nat} {a : Act} {w : World} (t : Tree) (S : World → Prop) (hm : P.follows .mixedOrders = true)
   (hc : (Region.noSelect ops && (t.len == ops.size) && treeOk .any ops (Array.replicate ops.size false) t) = true)
   (hQ : ∀ c a w d v, Q (.panic c) (a.put d v) w → Q (.panic c) a w) (hS : S w.drew)
   (h : wpTree P ops Q S t a w.drew) : (Code.region id ops true).wp P Q a w := by
 simp only [Bool.and_eq_true, beq_iff_eq] at hc
 refine wp_region_any hm (wpAny_of_held (S := S) _ _ _ _ ?_)
 rw [← hc.1.2]
 have := wpTree_any hc.1.1 hQ t S _ a w.drew hc.2 hS h
 rw [← hc.1.2] at this
 exact this
theorem tree_read {P : Program} {ops : Array Oper} {Q : Exit → Act → World → Prop} {S : World → Prop} {i : Nat} {t : Tree} {o : Oper} {a a' : Act} {w : World} (ho : ops[i]? = some o)
   (hk : (!Region.wanted o (yielded ops a.tmps) || readerOp o.op || nilGood a o.op) = true) (hd : (o.dst.any fun d => decide (d < a.tmps.size)) = true) (hS : S w)
   (h : ∀ x, S x → ∀ K : Act → World → Prop, K a' x → wpList P ops (OnlyK K) [o] a x) (hr : wpTree P ops Q S t a' w) : wpTree P ops Q S (.read i t) a w := by
 obtain ⟨v, hy, hp⟩ := reads_one hk hd hS h
 exact ⟨o, v, ho, hy, by rw [hp]; exact hr⟩
theorem tree_one {P : Program} {ops : Array Oper} {Q : Exit → Act → World → Prop} {S : World → Prop} {i : Nat} {t : Tree} {o : Oper} {a : Act} {w : World} (ho : ops[i]? = some o)
   (h : ∀ K : Act → World → Prop, (∀ a' w' (S' : World → Prop), S' w' → (∀ x, S' x → S x) → wpTree P ops Q S' t a' w' → K a' w') → wpList P ops (ElseQ K Q) [o] a w) : wpTree P ops Q S (.one i t) a w := by
 have h1 := h _ (fun a' w' S' h1 h2 h3 => (⟨S', h1, h2, h3⟩ : ∃ S' : World → Prop, S' w' ∧ (∀ x, S' x → S x) ∧ wpTree P ops Q S' t a' w'))
 show wpOp P ops Q i _ a w
 unfold wpOp
 simp only [ho]
 simp only [wpList] at h1
 split
 · rename_i hw
   rw [if_pos hw] at h1
   rcases h1 with h1 | ⟨h1, b, x, h2⟩
   · refine .inl ?_
     unfold Oper.wp at h1 ⊢
     generalize (execOp a.eval o).run P w = res at h1
     cases res with
     | ok n w1 =>
       cases n <;> first | exact h1 | exact Calls.mono h1 (fun e w2 he => by cases e <;> exact he) | exact Rows.mono h1 (fun _ _ he => he)
     | halt hh w1 => cases hh <;> exact h1
   · exact .inr ⟨h1, b, x, h2⟩
 · rename_i hw
   rw [if_neg hw] at h1
   exact h1
theorem tree_two {P : Program} {ops : Array Oper} {Q : Exit → Act → World → Prop} {S : World → Prop} {i j : Nat} {t u : Tree} {a : Act} {w : World}
   (h1 : wpTree P ops Q S (.one i t) a w) (h2 : wpTree P ops Q S (.one j u) a w) : wpTree P ops Q S (.two i j t u) a w := ⟨h1, h2⟩
theorem tree_end {P : Program} {ops : Array Oper} {Q : Exit → Act → World → Prop} {S : World → Prop} {a : Act} {w : World} (h : Q .normal a w) : wpTree P ops Q S .done a w := h
end Go.Proofs.YtfgifgglcafadaaGreatDoor

namespace Go.Proofs.YtfgifgglcafadaaGreatDoor
set_option linter.unusedVariables false
set_option linter.unusedSimpArgs false
set_option linter.unusedVariables false
set_option linter.unusedSimpArgs false
set_option maxRecDepth 100000
open Go.RowKit
end Go.Proofs.YtfgifgglcafadaaGreatDoor

namespace Go.Proofs.YtfgifgglcafadaaGreatDoor
set_option linter.unusedVariables false
set_option linter.unusedSimpArgs false
set_option linter.unusedVariables false
set_option linter.unusedSimpArgs false
set_option maxRecDepth 100000
open Go.RowKit
section
variable {ops : Array Oper} {rest : List Oper} {o : Oper} {a : Act} {w : World} {Q : Exit → Act → World → Prop}
end
section
variable {w : World} {S : NShape} {V : Nat → Value} {zs : Nat → List Int} {s : NS}
end
end Go.Proofs.YtfgifgglcafadaaGreatDoor

namespace Go.Proofs.YtfgifgglcafadaaGreatDoor
set_option linter.unusedVariables false
set_option linter.unusedSimpArgs false
set_option linter.unusedVariables false
set_option linter.unusedSimpArgs false
set_option maxRecDepth 100000
open Go.RowKit
section
variable {ops : Array Oper} {rest : List Oper} {o : Oper} {a : Act} {w : World} {Q : Exit → Act → World → Prop}
end
theorem owns_slice17 {w : World} {B : Nat} {e : TypeId} {sz : Nat} {v : Value} {n : Nat} {xs : List Value} (h : w.ownsRow B e sz v n xs) : ∃ ao cap, v = .slice ao n cap := by
 rcases h.2 with ⟨rfl, rfl⟩ | ⟨g, cap, _, rfl, _⟩
 · exact ⟨none, 0, rfl⟩
 · exact ⟨_, cap, rfl⟩
theorem own_ext17 {w0 w w' : World} {B : Nat} {e : TypeId} {sz : Nat} {v : Value} {n : Nat} {xs : List Value} (h : w.ownsRow B e sz v n xs) (hE : w0.grownBy w none) (hg : w.grownBy w' v.ownBlock) (hB : w0.heap.size ≤ B) : w0.grownBy w' none :=
 ⟨hg.os.trans hE.os, hg.tape.trans hE.tape, hg.output.trans hE.output, Nat.le_trans hE.size hg.size, fun k hk _ => (hg.block k (Nat.lt_of_lt_of_le hk hE.size) (fun e => by have := (h.lt k e.symm).1; omega)).trans (hE.block k hk (by simp))⟩
theorem own_alloc17 {w w3 w4 : World} {o : Obj} {r : Option Nat} (hE : w.grownBy w3 none) (hg : (w3.alloc o).grownBy w4 r) : w.grownBy w4 r := by
 have h1 := World.grownBy_alloc w3 o none
 exact ⟨hg.os.trans hE.os, hg.tape.trans hE.tape, hg.output.trans hE.output, Nat.le_trans hE.size (Nat.le_trans h1.size hg.size), fun k hk hne => (hg.block k (Nat.lt_of_lt_of_le hk (Nat.le_trans hE.size h1.size)) hne).trans ((h1.block k (Nat.lt_of_lt_of_le hk hE.size) (by simp)).trans (hE.block k hk (by simp)))⟩
end Go.Proofs.YtfgifgglcafadaaGreatDoor

namespace Go.Proofs.YtfgifgglcafadaaGreatDoor
set_option linter.unusedVariables false
set_option linter.unusedSimpArgs false
set_option linter.unusedVariables false
set_option linter.unusedSimpArgs false
set_option maxRecDepth 100000
open Go.RowKit
section
variable {w : World} {S : NShape} {V : Nat → Value} {zs : Nat → List Int} {s : NS}
end
end Go.Proofs.YtfgifgglcafadaaGreatDoor

namespace Go.Proofs.YtfgifgglcafadaaGreatDoor
set_option linter.unusedVariables false
set_option linter.unusedSimpArgs false
set_option linter.unusedVariables false
set_option linter.unusedSimpArgs false
set_option maxRecDepth 100000
open Go.RowKit
structure Chg where
 pl : Int
 kd : Int
 dt : ByteArray
def noChg : Chg := ⟨0, 0, ⟨#[]⟩⟩
def chgC (c : Chg) : Array Value := #[.int .i64 c.pl, .int .i64 c.kd, .string c.dt]
def chgsL (row : List Chg) : List Value := row.flatMap fun c => (chgC c).toList
theorem chgsL_len (row : List Chg) : (chgsL row).length = row.length * 3 := by
 unfold chgsL
 induction row with
 | nil => rfl
 | cons c r ih => rw [List.flatMap_cons, List.length_append, ih, List.length_cons]; simp [chgC]; omega
def chkE (pl kd : Int) (dt : ByteArray) : Int :=
 if (kd ≠ 1 ∧ kd ≠ 2) ∨ pl < 0 ∨ 63 < pl ∨ (kd = 2 ∧ dt.size ≠ 0) then 1 else if 16 < dt.size then 3 else 0
theorem ret_int13 {a b : Int} (h : a = b) : Ending.returned (.int .i64 a) = .returned (.int .i64 b) := by rw [h]
theorem str_none {s : ByteArray} : s.toList.isEmpty = decide (s.size = 0) := by
 rw [ByteArray.toList_eq]
 by_cases h : s.size = 0
 · have : s.data.toList = [] := List.eq_nil_of_length_eq_zero (by simpa using h)
   simp [h, this]
 · rw [decide_eq_false h, Bool.eq_false_iff]
   intro e
   rw [List.isEmpty_iff] at e
   exact h (by have := congrArg List.length e; simpa using this)
end Go.Proofs.YtfgifgglcafadaaGreatDoor

namespace Go.Proofs.YtfgifgglcafadaaGreatDoor
set_option linter.unusedVariables false
set_option linter.unusedSimpArgs false
set_option linter.unusedVariables false
set_option linter.unusedSimpArgs false
set_option maxRecDepth 100000
open Go.RowKit
def chgV (c : Chg) : Value := .agg #[.int .i64 c.pl, .int .i64 c.kd, .string c.dt]
def putE (row : List Chg) (c : Chg) : Int := if chkE c.pl c.kd c.dt = 0 then (if row.length = 4 then 8 else 0) else chkE c.pl c.kd c.dt
def putR (row : List Chg) (c : Chg) : List Chg := if putE row c = 0 then row ++ [c] else row
def lastN (row : List Chg) (p : Int) : Chg × Bool := row.foldl (fun acc x => if x.pl = p then (x, true) else acc) (noChg, false)
abbrev Ext13 (w w' : World) : Prop := w.grownBy w' none
theorem ext13_trans {w w1 w2 : World} (h : Ext13 w w1) (h2 : Ext13 w1 w2) : Ext13 w w2 :=
 ⟨h2.os.trans h.os, h2.tape.trans h.tape, h2.output.trans h.output, Nat.le_trans h.size h2.size, fun k hk hne => (h2.block k (Nat.lt_of_lt_of_le hk h.size) hne).trans (h.block k hk hne)⟩
theorem Tryz.sizeChg : (Tryz.prog.info? 144).map (·.size) = some 3 := by kernel_rfl
section
variable {ops : Array Oper} {rest : List Oper} {o : Oper} {a : Act} {w : World} {Q : Exit → Act → World → Prop}
theorem chg_load_want (hwt : Region.wanted o (yielded ops a.tmps) = true) (x : Operand) (ho : o.op = .load 144 x) {b off : Nat} (hx : a.eval x = .pointer (some ⟨b, off, none⟩)) {c : Chg} (hr : w.rangeAt b off (chgC c).toList)
   (h : wpList Tryz.prog ops Q rest (a.put o.dst (.agg (chgC c))) w) : wpList Tryz.prog ops Q (o :: rest) a w :=
 wpList_want hwt fun K hK => wp_load_mid _ x ho b off hx _ _ hr Tryz.underlying144 rfl (by rw [Tryz.sizeChg]; rfl) (hK _ _ (by simpa using h))
theorem chg_store (x y : Operand) (ho : o.op = .store 144 x y) {g : Nat} (hx : a.eval x = .pointer (some ⟨g, 0, none⟩)) {c : Chg} (hy : a.eval y = .agg (chgC c)) {old : Array Value} (hg : Blk w g 144 old) (hold : old.size = 3) (hwt : Region.wanted o (yielded ops a.tmps) = true)
   (h : ∀ w', Blk w' g 144 (chgC c) → w.grownBy w' (some g) → w'.heap.size = w.heap.size → wpList Tryz.prog ops Q rest (a.put o.dst undef) w') : wpList Tryz.prog ops Q (o :: rest) a w :=
 wpList_store_part hwt _ x y ho g 0 3 _ hx hy _ old _ hg rfl Tryz.sizeChg (by omega) (by simp [chgC, Value.oneCell']) (by
   have h1 : (chgC c).toList.length = 3 := rfl
   rw [h1, List.drop_of_length_le (by simp; omega)]
   simp) h
end
theorem grown_past13 {w w1 w2 : World} {b : Nat} (h : w.grownBy w1 none) (h2 : w1.grownBy w2 (some b)) (hb : w.heap.size ≤ b) : w.grownBy w2 none :=
 ⟨h2.os.trans h.os, h2.tape.trans h.tape, h2.output.trans h.output, Nat.le_trans h.size h2.size, fun k hk hne => (h2.block k (Nat.lt_of_lt_of_le hk h.size) (fun e => by injection e with e; omega)).trans (h.block k hk hne)⟩
theorem owns_shape13 {w : World} {B : Nat} {e : TypeId} {sz : Nat} {v : Value} {n : Nat} {xs : List Value} (h : w.ownsRow B e sz v n xs) : ∃ ao cap, v = .slice ao n cap := by
 rcases h.2 with ⟨rfl, rfl⟩ | ⟨g, cap, _, rfl, _⟩
 · exact ⟨none, 0, rfl⟩
 · exact ⟨_, cap, rfl⟩
theorem chgV_is (c : Chg) : chgV c = .agg (chgC c) := rfl
theorem Blk.range {w : World} {g : Nat} {t : TypeId} {cs : Array Value} (h : Blk w g t cs) (off n : Nat) (hn : (cs.extract off (off + n)).size = n) : w.rangeAt g off (cs.extract off (off + n)).toList := by
 have := World.rangeAt_of_block h off n
 simpa using this
def fB : Chg := ⟨3, 2, ⟨#[]⟩⟩
end Go.Proofs.YtfgifgglcafadaaGreatDoor

namespace Go.Proofs.YtfgifgglcafadaaGreatDoor
set_option linter.unusedVariables false
set_option linter.unusedSimpArgs false
set_option linter.unusedVariables false
set_option linter.unusedSimpArgs false
set_option maxRecDepth 100000
open Go.RowKit
theorem lastN_snoc (row : List Chg) (c : Chg) (p : Int) : lastN (row ++ [c]) p = if c.pl = p then (c, true) else lastN row p := by simp [lastN]
def bufC (rs : List Chg) (f c : Int) : Array Value := (chgsL rs ++ [Value.int .i64 f, Value.int .i64 c]).toArray
theorem four_of {rs : List Chg} (h : rs.length = 4) : ∃ x0 x1 x2 x3, rs = [x0, x1, x2, x3] := by
 match rs, h with
 | [x0, x1, x2, x3], _ => exact ⟨x0, x1, x2, x3, rfl⟩
theorem bufC_first {rs : List Chg} (h : rs.length = 4) (f c : Int) : (bufC rs f c)[12]? = some (.int .i64 f) := by
 obtain ⟨_, _, _, _, rfl⟩ := four_of h; rfl
theorem bufC_count {rs : List Chg} (h : rs.length = 4) (f c : Int) : (bufC rs f c)[13]? = some (.int .i64 c) := by
 obtain ⟨_, _, _, _, rfl⟩ := four_of h; rfl
theorem bufC_size {rs : List Chg} (h : rs.length = 4) (f c : Int) : (bufC rs f c).size = 14 := by
 obtain ⟨_, _, _, _, rfl⟩ := four_of h; rfl
theorem bufC_at {rs : List Chg} (h : rs.length = 4) (f c : Int) {k : Nat} (hk : k < 4) : (bufC rs f c).extract (k * 3) (k * 3 + 3) = chgC (rs.getD k noChg) := by
 obtain ⟨_, _, _, _, rfl⟩ := four_of h
 obtain rfl | rfl | rfl | rfl : k = 0 ∨ k = 1 ∨ k = 2 ∨ k = 3 := by omega
 all_goals rfl
theorem bufC_set {rs : List Chg} (h : rs.length = 4) (f c : Int) {k : Nat} (hk : k < 4) (x : Chg) : ((bufC rs f c).toList.take (k * 3) ++ (chgC x).toList ++ (bufC rs f c).toList.drop (k * 3 + (chgC x).toList.length)).toArray = bufC (rs.set k x) f c := by
 obtain ⟨_, _, _, _, rfl⟩ := four_of h
 obtain rfl | rfl | rfl | rfl : k = 0 ∨ k = 1 ∨ k = 2 ∨ k = 3 := by omega
 all_goals rfl
theorem bufC_setCount {rs : List Chg} (h : rs.length = 4) (f c g : Int) : (bufC rs f c).setIfInBounds 13 (.int .i64 g) = bufC rs f g := by
 obtain ⟨_, _, _, _, rfl⟩ := four_of h; rfl
def ringL (rs : List Chg) (f c : Nat) : List Chg := (List.range c).map fun i => rs.getD ((f + i) % 4) noChg
theorem ringL_len (rs : List Chg) (f c : Nat) : (ringL rs f c).length = c := by simp [ringL]
theorem ringL_put {rs : List Chg} (h : rs.length = 4) (f c : Nat) (hc : c < 4) (x : Chg) : ringL (rs.set ((f + c) % 4) x) f (c + 1) = ringL rs f c ++ [x] := by
 unfold ringL
 rw [List.range_succ, List.map_append]
 congr 1
 · refine List.map_congr_left fun i hi => ?_
   have := List.mem_range.1 hi
   rw [List.getD_eq_getElem?_getD, List.getElem?_set_ne (by omega), ← List.getD_eq_getElem?_getD]
 · simp [List.getD_eq_getElem?_getD, h]
   rw [List.getElem?_set_self (by omega)]
   rfl
theorem ringL_snoc (rs : List Chg) (f c : Nat) : ringL rs f (c + 1) = ringL rs f c ++ [rs.getD ((f + c) % 4) noChg] := by
 unfold ringL
 rw [List.range_succ, List.map_append]
 rfl
structure BufS (w : World) (b : Nat) (rs : List Chg) (f c : Nat) : Prop where
 four : rs.length = 4
 fl : f < 4
 cl : c ≤ 4
 blk : Blk w b 184 (bufC rs f c)
def BufA (w : World) (b : Nat) (row : List Chg) : Prop := ∃ rs f c, BufS w b rs f c ∧ row = ringL rs f c
section
variable {w w' : World} {b : Nat} {rs : List Chg} {f c : Nat}
theorem BufS.first (h : BufS w b rs f c) : w.cell? ⟨b, 12, none⟩ = some (.int .i64 f) := (h.blk.cell 12).trans (bufC_first h.four _ _)
theorem BufS.count (h : BufS w b rs f c) : w.cell? ⟨b, 13, none⟩ = some (.int .i64 c) := (h.blk.cell 13).trans (bufC_count h.four _ _)
theorem BufS.ext (h : BufS w b rs f c) (hg : w.grownBy w' none) : BufS w' b rs f c := ⟨h.four, h.fl, h.cl, h.blk.ext hg⟩
theorem BufS.range (h : BufS w b rs f c) {k : Nat} (hk : k < 4) {x : Chg} (hx : rs.getD k noChg = x) : w.rangeAt b (k * 3) (chgC x).toList := by
 have := h.blk.range (k * 3) 3 (by rw [bufC_at h.four _ _ hk]; rfl)
 rw [bufC_at h.four _ _ hk, hx] at this
 exact this
theorem bufStays (w w' : World) (b : Nat) (row : List Chg) (h : BufA w b row) (hq : w'.heap[b]? = w.heap[b]?) : BufA w' b row := by
 obtain ⟨rs, f, c, hs, hr⟩ := h
 exact ⟨rs, f, c, ⟨hs.four, hs.fl, hs.cl, hq.trans hs.blk⟩, hr⟩
theorem bufLt (w : World) (b : Nat) (row : List Chg) (h : BufA w b row) : b < w.heap.size := by
 obtain ⟨_, _, _, hs, _⟩ := h
 exact hs.blk.lt
theorem at_is (h : BufS w b rs f c) {i : Nat} (hi : i ≤ 4) : Calls Tryz.prog 132 #[.pointer (some ⟨b, 0, none⟩), .int .i64 i] w fun e w' => e = .returned (.int .i64 ((f + i) % 4 : Nat)) ∧ w = w' := by
 have c1 := h.first
 have hf := h.fl
 clear h
 go_enter Tryz.func132, Tryz.ntmps132
 go_wp2
 go_ret
 refine ⟨ret_int13 ?_, rfl⟩
 omega
theorem len_is (h : BufS w b rs f c) : Calls Tryz.prog 95 #[.pointer (some ⟨b, 0, none⟩)] w fun e w' => e = .returned (.int .i64 c) ∧ w = w' := by
 have c1 := h.count
 clear h
 go_enter Tryz.func95, Tryz.ntmps95
 go_wp2
 go_ret
 exact ⟨rfl, rfl⟩
theorem full_is (h : BufS w b rs f c) : Calls Tryz.prog 182 #[.pointer (some ⟨b, 0, none⟩)] w fun e w' => e = .returned (.bool (decide (c = 4))) ∧ w = w' := by
 have c1 := h.count
 clear h
 go_enter Tryz.func182, Tryz.ntmps182
 go_wp2
 go_ret
 refine ⟨congrArg (fun q => Ending.returned (.bool q)) ?_, rfl⟩
 by_cases h4 : c = 4
 · subst h4; rfl
 · rw [decide_eq_false h4]
   simp
   omega
end
end Go.Proofs.YtfgifgglcafadaaGreatDoor

namespace Go.Proofs.YtfgifgglcafadaaGreatDoor
set_option linter.unusedVariables false
set_option linter.unusedSimpArgs false
set_option linter.unusedVariables false
set_option linter.unusedSimpArgs false
set_option maxRecDepth 100000
open Go.RowKit
theorem results_cell_two {P : Program} {fn : Func} {p t : Tmp} {ty : TypeId} {tmps : Array Value} {w : World} {g : Nat} {bt : TypeId} {cs : Array Value} {v : Value} {d : TypeDesc} (h : fn.results = #[.cell p ty, .tmp t])
   (hp : tmps.getD p undef = .pointer (some ⟨g, 0, none⟩)) (hv : tmps.getD t undef = v) (hg : w.heap[g]? = some (.cells cs bt (0, 0)))
   (hu : P.underlying ty = some d) (hd : (match d with | .struct _ | .array _ _ => true | _ => false) = true) (hi : (P.info? ty).map (·.size) = some cs.size) :
   (results fn tmps).run P w = .ok (.tuple #[.agg cs, v]) w := by
 have hp' : tmps[p]?.getD undef = .pointer (some ⟨g, 0, none⟩) := by simpa using hp
 have hv' : tmps[t]?.getD undef = v := by simpa using hv
 simp [results, h, hp', hv', asAddr, run_loadVar_row w g bt ty cs (0, 0) d hg hu hd hi]
theorem g13_new {w w1 w2 : World} {g : Nat} (h : w.grownBy w1 none) (h2 : w1.grownBy w2 (some g)) (hg : w.heap.size ≤ g) : w.grownBy w2 none := grown_past13 h h2 hg
theorem grown_of_drew13 {w w' : World} {r : Option Nat} (h : w.drew.grownBy w' r) : w.grownBy w' r := ⟨h.os, h.tape, h.output, h.size, h.block⟩
section
variable {w : World} {b : Nat} {rs : List Chg} {f c : Nat}
end
end Go.Proofs.YtfgifgglcafadaaGreatDoor

namespace Go.Proofs.YtfgifgglcafadaaGreatDoor
set_option linter.unusedVariables false
set_option linter.unusedSimpArgs false
set_option linter.unusedVariables false
set_option linter.unusedSimpArgs false
set_option maxRecDepth 100000
open Go.RowKit
set_option maxHeartbeats 800000 in
theorem chk_is (pl kd : Int) (dt : ByteArray) (w : World) (hd : dt.size ≤ 9223372036854775807) :
   Calls Tryz.prog 219 #[.agg (chgC ⟨pl, kd, dt⟩)] w fun e w' => e = .returned (.int .i64 (chkE pl kd dt)) ∧ w.grownBy w' none := by
 have hz := str_none (s := dt)
 obtain ⟨r, hr⟩ : ∃ r, chkE pl kd dt = r := ⟨_, rfl⟩
 rw [hr]
 unfold chkE at hr
 have HE := Lib.hid (World.grownBy_alloc w (.cells (chgC ⟨pl, kd, dt⟩) 144) none)
 have hb := Blk.new w 144 (chgC ⟨pl, kd, dt⟩)
 have c0 := (hb.cell 0).trans (show (chgC ⟨pl, kd, dt⟩)[0]? = some (.int .i64 pl) from rfl)
 have c1 := (hb.cell 1).trans (show (chgC ⟨pl, kd, dt⟩)[1]? = some (.int .i64 kd) from rfl)
 have c2 := (hb.cell 2).trans (show (chgC ⟨pl, kd, dt⟩)[2]? = some (.string dt) from rfl)
 clear hb
 obtain ⟨n, hn⟩ : ∃ n, dt.size = n := ⟨_, rfl⟩
 have HD := Lib.hid (show (dt.size : Int) = n by rw [hn])
 rw [hn] at hz hd hr
 have HR := Lib.hid hr
 clear hr
 by_cases kk : kd ≠ 1 ∧ kd ≠ 2
 · have b1 : (kd != 1) = true := by simp [kk.1]
   have b2 : (kd != 2) = true := by simp [kk.2]
   have HK := Lib.hid kk
   clear kk hz
   go_enter Tryz.func219, Tryz.ntmps219
   go_wp2
   go_ret
   exact ⟨ret_int13 (by rw [← HR.out, if_pos (.inl HK.out)]), HE.out⟩
 by_cases k1 : kd = 1
 · have b1 : (kd != 1) = false := by simp [k1]
   have b2 : (kd == 2) = false := by simp [k1]
   have HK := Lib.hid (And.intro k1 kk)
   clear k1 kk hz
   by_cases hp : pl < 0
   · have b3 : decide (pl < 0) = true := by simpa using hp
     have HP := Lib.hid hp
     clear hp
     go_enter Tryz.func219, Tryz.ntmps219
     go_wp2
     go_ret
     exact ⟨ret_int13 (by rw [← HR.out, if_pos (.inr (.inl HP.out))]), HE.out⟩
   · have b3 : decide (pl < 0) = false := by simpa using hp
     have HP := Lib.hid hp
     clear hp
     by_cases hq : 63 < pl
     · have b4 : decide (64 ≤ pl) = true := by simpa using (show (64 : Int) ≤ pl by omega)
       have HQ := Lib.hid hq
       clear hq
       go_enter Tryz.func219, Tryz.ntmps219
       go_wp2
       go_ret
       exact ⟨ret_int13 (by rw [← HR.out, if_pos (.inr (.inr (.inl HQ.out)))]), HE.out⟩
     · have b4 : decide (64 ≤ pl) = false := by simpa using (show ¬ (64 : Int) ≤ pl by omega)
       have HQ := Lib.hid hq
       clear hq
       have HN := Lib.hid (show ¬ ((kd ≠ 1 ∧ kd ≠ 2) ∨ pl < 0 ∨ 63 < pl ∨ (kd = 2 ∧ n ≠ 0)) from fun h => by
         have h1 := HK.out.1; have h2 := HK.out.2; have h3 := HP.out; have h4 := HQ.out
         rcases h with h | h | h | h
         · exact h2 h
         · exact h3 h
         · exact h4 h
         · omega)
       by_cases hl : 16 < n
       · have b5 : (16 : Int) < n := by omega
         have HL := Lib.hid hl
         clear hl
         go_enter Tryz.func219, Tryz.ntmps219
         go_wp2
         go_ret
         exact ⟨ret_int13 (by rw [← HR.out, if_neg HN.out, if_pos HL.out]), HE.out⟩
       · have b5 : ¬ (16 : Int) < n := by omega
         have HL := Lib.hid hl
         clear hl
         go_enter Tryz.func219, Tryz.ntmps219
         go_wp2
         go_ret
         exact ⟨ret_int13 (by rw [← HR.out, if_neg HN.out, if_neg HL.out]), HE.out⟩
 · have k2 : kd = 2 := by omega
   have b1 : (kd != 1) = true := by simp [k2]
   have b2 : (kd != 2) = false := by simp [k2]
   have b22 : (kd == 2) = true := by simp [k2]
   have HK := Lib.hid (And.intro k2 kk)
   clear k1 kk k2
   by_cases hp : pl < 0
   · have b3 : decide (pl < 0) = true := by simpa using hp
     have HP := Lib.hid hp
     clear hp hz
     go_enter Tryz.func219, Tryz.ntmps219
     go_wp2
     go_ret
     exact ⟨ret_int13 (by rw [← HR.out, if_pos (.inr (.inl HP.out))]), HE.out⟩
   · have b3 : decide (pl < 0) = false := by simpa using hp
     have HP := Lib.hid hp
     clear hp
     by_cases hq : 63 < pl
     · have b4 : decide (64 ≤ pl) = true := by simpa using (show (64 : Int) ≤ pl by omega)
       have HQ := Lib.hid hq
       clear hq hz
       go_enter Tryz.func219, Tryz.ntmps219
       go_wp2
       go_ret
       exact ⟨ret_int13 (by rw [← HR.out, if_pos (.inr (.inr (.inl HQ.out)))]), HE.out⟩
     · have b4 : decide (64 ≤ pl) = false := by simpa using (show ¬ (64 : Int) ≤ pl by omega)
       have HQ := Lib.hid hq
       clear hq
       by_cases hl : n = 0
       · rw [decide_eq_true hl] at hz
         have HN := Lib.hid (show ¬ ((kd ≠ 1 ∧ kd ≠ 2) ∨ pl < 0 ∨ 63 < pl ∨ (kd = 2 ∧ n ≠ 0)) from fun h => by
           have h1 := HK.out.1; have h2 := HK.out.2; have h3 := HP.out; have h4 := HQ.out
           rcases h with h | h | h | h
           · exact h2 h
           · exact h3 h
           · exact h4 h
           · omega)
         have b5 : ¬ (16 : Int) < n := by omega
         have HL := Lib.hid (show ¬ 16 < n by omega)
         clear hl
         go_enter Tryz.func219, Tryz.ntmps219
         go_wp2
         go_ret
         exact ⟨ret_int13 (by rw [← HR.out, if_neg HN.out, if_neg HL.out]), HE.out⟩
       · rw [decide_eq_false hl] at hz
         have HL := Lib.hid hl
         clear hl
         go_enter Tryz.func219, Tryz.ntmps219
         go_wp2
         go_ret
         exact ⟨ret_int13 (by rw [← HR.out, if_pos (.inr (.inr (.inr ⟨HK.out.1, HL.out⟩)))]), HE.out⟩
theorem new13_is (w : World) : Calls Tryz.prog 143 #[] w fun e w' => ∃ b, e = .returned (.pointer (some ⟨b, 0, none⟩)) ∧ BufA w' b [] ∧ w.heap.size ≤ b ∧ w.grownBy w' none := by
 go_enter Tryz.func143, Tryz.ntmps143
 go_wp2
 go_ret
 exact ⟨_, rfl, ⟨[noChg, noChg, noChg, noChg], 0, 0, ⟨rfl, by omega, by omega, Blk.new w _ _⟩, rfl⟩, Nat.le_refl _, World.grownBy_alloc w _ none⟩
section
variable {ops : Array Oper} {rest : List Oper} {o : Oper} {a : Act} {w : World} {Q : Exit → Act → World → Prop}
theorem ring_store (x y : Operand) (ho : o.op = .store 144 x y) {b k : Nat} {rs : List Chg} {f n : Nat} (hk : k < 4) (hx : a.eval x = .pointer (some ⟨b, k * 3, none⟩)) {c : Chg} (hy : a.eval y = .agg (chgC c)) (hs : BufS w b rs f n) (hwt : Region.wanted o (yielded ops a.tmps) = true)
   (h : ∀ w', BufS w' b (rs.set k c) f n → w.grownBy w' (some b) → wpList Tryz.prog ops Q rest (a.put o.dst undef) w') : wpList Tryz.prog ops Q (o :: rest) a w :=
 wpList_store_part hwt _ x y ho b (k * 3) 3 _ hx hy _ _ _ hs.blk rfl Tryz.sizeChg (by rw [bufC_size hs.four]; omega) (by simp [chgC, Value.oneCell']) (bufC_set hs.four _ _ hk c) fun w' h1 h2 _ => h w' ⟨by rw [List.length_set]; exact hs.four, hs.fl, hs.cl, h1⟩ h2
end
section
variable {w : World} {b : Nat} {rs : List Chg} {f c : Nat}
theorem BufS.setCount (h : BufS w b rs f c) {g : Nat} (hg : g ≤ 4) : BufS (w.setCell ⟨b, 13, none⟩ (.int .i64 g)) b rs f g :=
 ⟨h.four, h.fl, hg, by have := h.blk.set 13 (.int .i64 g); rw [bufC_setCount h.four] at this; exact this⟩
end
end Go.Proofs.YtfgifgglcafadaaGreatDoor

namespace Go.Proofs.YtfgifgglcafadaaGreatDoor
set_option linter.unusedVariables false
set_option linter.unusedSimpArgs false
set_option linter.unusedVariables false
set_option linter.unusedSimpArgs false
set_option maxRecDepth 100000
open Go.RowKit
section
variable {w : World} {b : Nat} {rs : List Chg} {f c : Nat}
theorem grown_two13 {w w1 w2 : World} {r : Option Nat} (h : w.grownBy w1 none) (h2 : w1.grownBy w2 r) : w.grownBy w2 r :=
 ⟨h2.os.trans h.os, h2.tape.trans h.tape, h2.output.trans h.output, Nat.le_trans h.size h2.size, fun k hk hne => (h2.block k (Nat.lt_of_lt_of_le hk h.size) hne).trans (h.block k hk (by simp))⟩
theorem grown_any13 {w w1 : World} {r : Option Nat} (h : w.grownBy w1 none) : w.grownBy w1 r := ⟨h.os, h.tape, h.output, h.size, fun k hk _ => h.block k hk (by simp)⟩
theorem put_bad (h : BufS w b rs f c) (x : Chg) (hd : x.dt.size ≤ 9223372036854775807) (hne : chkE x.pl x.kd x.dt ≠ 0) :
   Calls Tryz.prog 183 #[.pointer (some ⟨b, 0, none⟩), chgV x] w fun e w' => e = .returned (.int .i64 (chkE x.pl x.kd x.dt)) ∧ w.grownBy w' none := by
 obtain ⟨r, hr⟩ : ∃ r, chkE x.pl x.kd x.dt = r := ⟨_, rfl⟩
 have CHK := fun wx => chk_is x.pl x.kd x.dt wx hd
 rw [hr] at CHK hne
 rw [hr, chgV_is]
 have hne2 : (r != 0) = true := by simpa using hne
 have HE := Lib.hid (World.grownBy_alloc w (.cells (chgC x) 144) none)
 have hb1 := Blk.new w 144 (chgC x)
 clear hne hr h
 go_enter Tryz.func183, Tryz.ntmps183
 go_upto_region 1 with fail
 go_wp2_with (first
   | (refine chg_load_want rfl _ rfl rfl (hb1.range 0 3 rfl) ?_)
   | (go_at_call 219; refine (CHK _).mono ?_; rintro e w2 ⟨rfl, hE2⟩; have HE2 := Lib.hid hE2; clear hE2))
 go_ret
 exact ⟨rfl, ext13_trans HE.out HE2.out⟩
theorem put_full (h : BufS w b rs f 4) (x : Chg) (hd : x.dt.size ≤ 9223372036854775807) (hne : chkE x.pl x.kd x.dt = 0) :
   Calls Tryz.prog 183 #[.pointer (some ⟨b, 0, none⟩), chgV x] w fun e w' => e = .returned (.int .i64 8) ∧ w.grownBy w' none := by
 obtain ⟨r, hr⟩ : ∃ r, chkE x.pl x.kd x.dt = r := ⟨_, rfl⟩
 have CHK := fun wx => chk_is x.pl x.kd x.dt wx hd
 rw [hr] at CHK hne
 rw [chgV_is]
 have hne2 : (r != 0) = false := by simpa using hne
 have HE := Lib.hid (World.grownBy_alloc w (.cells (chgC x) 144) none)
 have hb1 := Blk.new w 144 (chgC x)
 have hs1 := h.ext HE.out
 clear hne hr h
 go_enter Tryz.func183, Tryz.ntmps183
 go_upto_region 1 with fail
 go_wp2_with (first
   | (refine chg_load_want rfl _ rfl rfl (hb1.range 0 3 rfl) ?_)
   | (go_at_call 219; refine (CHK _).mono ?_; rintro e w2 ⟨rfl, hE2⟩; have hs2 := hs1.ext hE2; have HE2 := Lib.hid hE2; clear hE2 hs1)
   | (go_at_call 182; refine (full_is hs2).mono ?_; rintro e w3 ⟨rfl, rfl⟩))
 go_ret
 exact ⟨rfl, ext13_trans HE.out HE2.out⟩
set_option maxHeartbeats 1600000 in
theorem put_ok (h : BufS w b rs f c) (hc : c < 4) (x : Chg) (hd : x.dt.size ≤ 9223372036854775807) (hne : chkE x.pl x.kd x.dt = 0) :
   Calls Tryz.prog 183 #[.pointer (some ⟨b, 0, none⟩), chgV x] w fun e w' => e = .returned (.int .i64 0) ∧ BufS w' b (rs.set ((f + c) % 4) x) f (c + 1) ∧ w.grownBy w' (some b) := by
 obtain ⟨r, hr⟩ : ∃ r, chkE x.pl x.kd x.dt = r := ⟨_, rfl⟩
 have CHK := fun wx => chk_is x.pl x.kd x.dt wx hd
 rw [hr] at CHK hne
 rw [chgV_is]
 have hne2 : (r != 0) = false := by simpa using hne
 have HE := Lib.hid (World.grownBy_alloc w (.cells (chgC x) 144) none)
 have hb1 := Blk.new w 144 (chgC x)
 obtain ⟨g, hg⟩ : ∃ g, (f + c) % 4 = g := ⟨_, rfl⟩
 rw [hg]
 have hg4 : g < 4 := by omega
 have hlt := Lib.hid h.blk.lt
 have hs1 := h.ext HE.out
 have hg := Lib.hid hg
 have full : decide (c = 4) = false := decide_eq_false (by omega)
 clear hne hr h
 obtain ⟨L, hL⟩ : ∃ z, w.heap.size = z := ⟨_, rfl⟩
 obtain ⟨w1, hw1⟩ : ∃ v, w.alloc (.cells (chgC x) 144) = v := ⟨_, rfl⟩
 rw [hw1] at HE hb1 hs1
 rw [hL] at hb1 hlt
 go_enter Tryz.func183, Tryz.ntmps183
 go_upto_region 1 with fail
 clear hL hw1
 go_wp2_with (first
   | (refine chg_load_want rfl _ rfl rfl (hb1.range 0 3 rfl) ?_)
   | (go_at_call 219; refine (CHK _).mono ?_; rintro e w2 ⟨rfl, hE2⟩; have hs2 := hs1.ext hE2; have hb2 := hb1.ext hE2; have HE2 := Lib.hid (ext13_trans HE.out hE2); clear hE2 hs1 hb1)
   | (go_at_call 182; refine (full_is hs2).mono ?_; rintro e w3 ⟨rfl, rfl⟩; rw [full]))
 clear CHK full
 have hS : (fun x0 : World => ∃ rs', BufS x0 b rs' f c ∧ Blk x0 L 144 (chgC x)) w2.drew := ⟨rs, hs2.ext (Ext.drew w2), hb2.ext (Ext.drew w2)⟩
 have hs2 : BufS w2.drew b rs f c := hs2.ext (Ext.drew w2)
 have hb2 : Blk w2.drew L 144 (chgC x) := hb2.ext (Ext.drew w2)
 refine region_line [(0, true), (1, true), (2, true), (3, true), (4, true), (5, true), (7, true), (8, true), (9, true), (6, false), (10, true), (11, false)] (fun x0 : World => ∃ rs', BufS x0 b rs' f c ∧ Blk x0 L 144 (chgC x)) (by kernel_rfl) (by kernel_rfl) (fun _ _ _ d _ h => by cases d <;> exact h) hS ?_
 iterate 6 (refine line_read (a' := ?_) rfl (by kernel_rfl) (by kernel_rfl) hS (fun x hx K hK => ?_) ?_; rotate_left; · obtain ⟨_, hx, _⟩ := hx; have c1 := hx.count; clear hx; go_wp2; exact hK)
 refine line_read (a' := ?_) rfl (by kernel_rfl) (by kernel_rfl) hS (fun x hx K hK => ?_) ?_
 rotate_left
 · obtain ⟨_, _, hx⟩ := hx
   refine chg_load_want rfl _ rfl rfl (hx.range 0 3 rfl) ?_
   clear hx
   go_wp2
   exact hK
 iterate 2 (refine line_read (a' := ?_) rfl (by kernel_rfl) (by kernel_rfl) hS (fun x hx K hK => ?_) ?_; rotate_left; · clear hx; go_wp2; exact hK)
 refine line_act (by rfl) (fun K hK => ?_)
 have AT := at_is hs2 (i := c) (by omega)
 rw [hg.out] at AT
 go_wp2_with (go_at_call 132; refine AT.mono ?_; rintro e w7 ⟨rfl, rfl⟩)
 clear AT
 refine hK _ _ _ hS (fun x hx => hx) ?_
 clear hK K
 refine line_read (a' := ?_) rfl (by kernel_rfl) (by kernel_rfl) hS (fun x hx K hK => ?_) ?_
 rotate_left
 · clear hx
   go_wp2
   exact hK
 refine line_act (by rfl) (fun K hK => ?_)
 go_wp2_with (first
   | (refine ring_store (c := x) _ _ rfl hg4 rfl rfl hs2 rfl ?_; intro w6 hs6 hg6))
 have hb6 : Blk w6 L 144 (chgC x) := hb2.kept hg6 (fun e => by injection e with e; have := hlt.out; omega)
 refine hK _ _ _ (show (fun x0 : World => ∃ rs', BufS x0 b rs' f c ∧ Blk x0 L 144 (chgC x)) w6 from ⟨_, hs6, hb6⟩) (fun x hx => hx) ?_
 clear hK K
 refine line_end ?_
 have c13 := hs6.count
 have f13 := hs6.blk.free 13
 have HG := Lib.hid (grown_two13 HE2.out (grown_of_drew13 hg6))
 have HF := Lib.hid (hs6.setCount (g := c + 1) (by omega))
 clear hs6 hg6 hS hb6 hb2 hs2
 go_wp2
 go_ret
 refine ⟨rfl, ?_, gb_set HG.out _ _⟩
 have := HF.out
 rw [show ((c + 1 : Nat) : Int) = (c : Int) + 1 by omega] at this
 exact this
end
end Go.Proofs.YtfgifgglcafadaaGreatDoor
