/-
  Texts put together: OE OF QV QW QX QY QM UA YA.
-/
import Derived.Test.YtfibpgfjlmlpaaaGreatDoorM11
import Derived.Test.YtfibpgfjlmlpaaaGreatDoorM01
import Derived.Lib.Hide
import Derived.Outline
import Derived.Deep.DeepCutAuto
import Derived.Deep.Cut
import Derived.Deep.LoopGhost
import Derived.Test.YtfibpgfjlmlpaaaGreatDoorM02
import Derived.Test.YtfibpgfjlmlpaaaGreatDoorM09
import Derived.Test.YtfibpgfjlmlpaaaGreatDoorM10
/-
  Layer 14: the program's table: Set by the document's rows; Grow, New, Count.
-/
namespace Go.Proofs.YtfibpgfjlmlpaaaGreatDoor
set_option linter.unusedVariables false
set_option linter.unusedSimpArgs false
set_option linter.unusedVariables false
set_option linter.unusedSimpArgs false
set_option maxRecDepth 100000
open Go.RowKit

section
variable {w w' : World} {t B P : Nat} {rs : List R14}
theorem tabSet (h : TabA w t B P rs) (q b p : Int) (hl : rs.length ≤ 1000000) : Calls Tryz.prog 98 #[.pointer (some ⟨t, 0, none⟩), .int .i64 q, .int .i64 b, .int .i64 p] w fun e w' => e = .returned (.int .i64 (setE B P rs q b p)) ∧ TabA w' t B P (setR B P rs q b p) ∧ w.grownBy w' (some t) := by
  have stay : ∀ {e : Int} {w' : World}, setE B P rs q b p = e → e ≠ 0 → w = w' → TabA w' t B P (setR B P rs q b p) ∧ w.grownBy w' (some t) := fun h1 h2 h3 => by
    subst h3
    unfold setR
    rw [h1, if_neg h2]
    exact ⟨h, grown_any14 (Ext.refl w)⟩
  by_cases hr : q < 0 ∨ 63 < q ∨ b < 0 ∨ (B : Int) ≤ b ∨ p < 0 ∨ (P : Int) ≤ p
  · have he : setE B P rs q b p = 5 := by unfold setE; rw [if_pos hr]
    refine (set_range h q b p ?_).mono fun e w' ⟨h1, h2⟩ => ⟨by rw [h1, he], stay he (by decide) h2⟩
    unfold hasN
    simp
    omega
  · obtain ⟨q, rfl⟩ := Int.eq_ofNat_of_zero_le (show 0 ≤ q by omega)
    obtain ⟨b, rfl⟩ := Int.eq_ofNat_of_zero_le (show 0 ≤ b by omega)
    obtain ⟨p, rfl⟩ := Int.eq_ofNat_of_zero_le (show 0 ≤ p by omega)
    by_cases ht : 0 ≤ placeN rs b p ∧ placeN rs b p ≠ q
    · have he : setE B P rs q b p = 7 := by unfold setE; rw [if_neg hr, if_pos ht]
      refine (set_twice h q b p (by simp; omega) (by unfold hasN; simp; omega) _ rfl (by omega) ht.2).mono fun e w' ⟨h1, h2⟩ => ⟨by rw [h1, he], stay he (by decide) h2⟩
    · have he : setE B P rs q b p = 0 := by unfold setE; rw [if_neg hr, if_neg ht]
      have hR : setR B P rs q b p = clearN rs q ++ [⟨q, b, p⟩] := by unfold setR; rw [if_pos he]
      have hpl : placeN rs b p = -1 ∨ placeN rs b p = q := by
        by_cases h0 : 0 ≤ placeN rs b p
        · exact .inr (Classical.byContradiction fun hne => ht ⟨h0, hne⟩)
        · left
          obtain ⟨R, W, S, hT, hI⟩ := h
          have h1 := hI.row b p (by omega) (by have := hT.pl; omega)
          by_cases hex : ∃ r ∈ rs, r.bk = b ∧ r.pg = p
          · obtain ⟨r, hr2, h2, h3⟩ := hex
            have h4 := placeN_some hI.pgs hr2
            rw [h2, h3] at h4
            have := hI.ok r hr2
            omega
          · exact placeN_none fun r hr2 h2 => hex ⟨r, hr2, h2⟩
      rw [he, hR]
      exact set_ok h q b p hl (by omega) (by omega) (by omega) _ rfl hpl
end

/-- What stands while blocks are added. -/
def GrowS (w wr : World) (t B P : Nat) (R : Nat → Nat → Int) (W : Nat → Int) (S : Nat → Bool × Int × Int) (k j : Nat) : Prop :=
  ∃ R', TabS wr t (B + k) P R' W S ∧ (∀ b p, b < B → p < 16 → R' b p = R b p) ∧ (∀ b p, B ≤ b → b < B + k → p < 16 → R' b p = -1) ∧ (∀ p, p < j → R' (B + k) p = -1) ∧ w.grownBy wr (some t)
section
variable {w wr : World} {t B P k j : Nat} {R : Nat → Nat → Int} {W : Nat → Int} {S : Nat → Bool × Int × Int}
theorem GrowS.start (h : TabS w t B P R W S) : GrowS w w t B P R W S 0 0 := ⟨R, h, fun _ _ _ _ => rfl, fun b p h1 h2 => by omega, fun p hp => by omega, grown_any14 (Ext.refl w)⟩
theorem GrowS.tab (h : GrowS w wr t B P R W S k j) : ∃ R', TabS wr t (B + k) P R' W S := by obtain ⟨R', h, _⟩ := h; exact ⟨R', h⟩
theorem GrowS.put (h : GrowS w wr t B P R W S k j) (hb : B + k < 64) (hj : j < 16) : GrowS w (wr.drew.setCell ⟨t, 2 + (B + k) * 16 + j, none⟩ (.int .i64 (-1))) t B P R W S k (j + 1) := by
  obtain ⟨R', h1, h2, h3, h4, h5⟩ := h
  refine ⟨_, (h1.ext (Ext.drew wr)).setRow hb hj (-1), fun b p hb2 hp => ?_, fun b p hb2 hb3 hp => ?_, fun p hp => ?_, set_chain14 (drew_any14 h5) (g14_set1 _ t _ _)⟩
  · unfold upd2
    rw [if_neg (by omega)]
    exact h2 b p hb2 hp
  · unfold upd2
    rw [if_neg (by omega)]
    exact h3 b p hb2 hb3 hp
  · unfold upd2
    by_cases e : p = j
    · rw [if_pos ⟨rfl, e⟩]
    · rw [if_neg (by omega)]
      exact h4 p (by omega)
theorem GrowS.step (h : GrowS w wr t B P R W S k 16) (hb : B + k < 64) : GrowS w (wr.setCell ⟨t, 0, none⟩ (.int .i64 ((B + k + 1 : Nat) : Int))) t B P R W S (k + 1) 0 := by
  obtain ⟨R', h1, h2, h3, h4, h5⟩ := h
  refine ⟨R', h1.setB (by omega), h2, fun b p hb2 hb3 hp => ?_, fun p hp => by omega, set_chain14 h5 (g14_set1 wr t _ _)⟩
  by_cases e : b = B + k
  · subst e; exact h4 p hp
  · exact h3 b p hb2 (by omega) hp

set_option maxHeartbeats 1600000 in
theorem grow_is (h : TabS w t B P R W S) (g : Int) (hg : -9223372036854775808 ≤ g ∧ g ≤ 9223372036854775807) :
    Calls Tryz.prog 111 #[.pointer (some ⟨t, 0, none⟩), .int .i64 g] w fun e w' => e = .returned (.tuple #[]) ∧ GrowS w w' t B P R W S (min g (64 - (B : Int))).toNat 0 := by
  have c0 := h.b
  have hbl := h.bl
  have HS := Lib.hid (GrowS.start h)
  obtain ⟨m, hm⟩ : ∃ m, min g (64 - (B : Int)) = m := ⟨_, rfl⟩
  rw [hm]
  have hm64 : m ≤ 64 - (B : Int) := by rw [← hm]; exact Int.min_le_right _ _
  have HM := Lib.hid hm
  obtain ⟨M, hM⟩ : ∃ M, m.toNat = M := ⟨_, rfl⟩
  rw [hM]
  have hcond : ∀ k : Nat, decide ((k : Int) < m) = decide (k < M) := fun k => by
    by_cases hk : k < M
    · rw [decide_eq_true hk, decide_eq_true (by omega)]
    · rw [decide_eq_false hk, decide_eq_false (by omega)]
  have hMB : B + M ≤ 64 := by omega
  have HMM := Lib.hid (And.intro hM (And.intro hm64 hg))
  have HC := Lib.hid hcond
  clear h hm hM hcond hm64 hg
  go_enter Tryz.func111, Tryz.ntmps111
  go_upto_region 1 with fail
  go_cut [13, 14] (fun s i wx => s = .int .i64 m ∧ i = .int .i64 0 ∧ w = wx)
  case first =>
    have hg := HMM.out.2.2
    go_wp2
    all_goals
      go_meet
      exact ⟨congrArg (Value.int .i64) (by have := HM.out; omega), rfl, rfl⟩
  case rest =>
    obtain ⟨rfl, rfl, rfl⟩ := hcut
    clear c0
    go_wp2
    go_loopw [14] (fun i wr => ∃ k : Nat, k ≤ M ∧ i = .int .i64 k ∧ GrowS w wr t B P R W S k 0) (fun i _ => M - (intOf i).toNat)
    case atStart => exact ⟨0, Nat.zero_le _, rfl, HS.out⟩
    case round =>
      clear HS
      obtain ⟨k, hk, rfl, hG⟩ := hrel
      obtain ⟨wo, rfl⟩ : ∃ wo : World, wo = wr := ⟨_, rfl⟩
      have HG := Lib.hid hG
      clear hG
      have hck := HC.out k
      by_cases hlt : k < M
      · rw [decide_eq_true hlt] at hck
        go_wp2
        go_loopw [16] (fun i wx => ∃ j : Nat, j ≤ 16 ∧ i = .int .i64 j ∧ GrowS w wx t B P R W S k j) (fun i _ => 16 - (intOf i).toNat)
        case atStart => exact ⟨0, Nat.zero_le _, rfl, HG.out⟩
        case round =>
          clear HG
          obtain ⟨j, hj, rfl, hG⟩ := hrel
          obtain ⟨R1, hT⟩ := hG.tab
          have HG := Lib.hid hG
          clear hG
          by_cases hlt2 : j < 16
          · have hTd := hT.ext (Ext.drew wr)
            have hS : (fun x0 : World => x0.cell? ⟨t, 0, none⟩ = some (.int .i64 ((B + k : Nat) : Int))) wr.drew := hTd.b
            have c2 := hTd.row (b := B + k) (p := j) (by omega) hlt2
            have f2 := hTd.free (2 + (B + k) * 16 + j)
            have HN := Lib.hid (HG.out.put (by omega) hlt2)
            have hS6 : (fun x0 : World => x0.cell? ⟨t, 0, none⟩ = some (.int .i64 ((B + k : Nat) : Int))) (wr.drew.setCell ⟨t, 2 + (B + k) * 16 + j, none⟩ (.int .i64 (-1))) := by obtain ⟨_, h⟩ := HN.out.tab; exact h.b
            clear hT hTd HG
            have hBk : B + k < 64 := by omega
            obtain ⟨b, hb⟩ : ∃ b, B + k = b := ⟨_, rfl⟩
            rw [hb] at hS c2 f2 HN hS6 hBk
            have HBK := Lib.hid hb
            clear hb
            go_wp2
            refine region_line [(0, true), (1, true), (2, true), (3, true), (4, true), (5, true), (6, true), (7, true), (8, true), (9, true), (10, false)] (fun x0 : World => x0.cell? ⟨t, 0, none⟩ = some (.int .i64 (b : Int))) (by kernel_rfl) (by kernel_rfl) (fun _ _ _ d _ h => by cases d <;> exact h) hS ?_
            iterate 10 (refine line_read (a' := ?_) rfl (by kernel_rfl) (by kernel_rfl) hS (fun x0 hx K hK => ?_) ?_; rotate_left; · (go_wp2; exact hK))
            refine line_act (by rfl) (fun K hK => ?_)
            go_wp2
            refine hK _ _ (fun x0 : World => x0.cell? ⟨t, 0, none⟩ = some (.int .i64 (b : Int))) hS6 (fun x hx => hx) ?_
            clear hK K hS hS6 c2 f2
            refine line_end ?_
            go_wp2
            go_roundw
            case rel => exact ⟨j + 1, by omega, by go_num, HN.out⟩
            case measure => simp [intOf]; omega
          · obtain rfl : j = 16 := by omega
            have c0 := hT.b
            have f0 := hT.free 0
            have HN := Lib.hid (HG.out.step (by omega))
            have hBk : B + k < 64 := by omega
            clear hT HG
            go_wp2
            go_roundw
            case rel => exact ⟨k + 1, by omega, by go_num, HN.out⟩
            case measure => simp [intOf]; omega
      · rw [decide_eq_false hlt] at hck
        obtain rfl : k = M := by omega
        go_wp2
        go_end0
        exact ⟨rfl, HG.out⟩
end

end Go.Proofs.YtfibpgfjlmlpaaaGreatDoor

/-
  Layer 14: the program's table: Grow by the document's rows; New, Count.
-/
namespace Go.Proofs.YtfibpgfjlmlpaaaGreatDoor
set_option linter.unusedVariables false
set_option linter.unusedSimpArgs false
set_option linter.unusedVariables false
set_option linter.unusedSimpArgs false
set_option maxRecDepth 100000
open Go.RowKit

theorem tabGrow {w : World} {t B P : Nat} {rs : List R14} (h : TabA w t B P rs) (g : Int) (hg : -9223372036854775808 ≤ g ∧ g ≤ 9223372036854775807) :
    Calls Tryz.prog 111 #[.pointer (some ⟨t, 0, none⟩), .int .i64 g] w fun e w' => e = .returned (.tuple #[]) ∧ TabA w' t (B + (min g (64 - (B : Int))).toNat) P rs ∧ w.grownBy w' (some t) := by
  obtain ⟨R, W, S, hT, hI⟩ := h
  refine (grow_is hT g hg).mono fun e w' ⟨h1, R', h2, h3, h4, _, h5⟩ => ⟨h1, ⟨R', W, S, h2, hI.more _ (Nat.le_add_right _ _) h3 h4⟩, h5⟩
theorem grow_none (g : Int) (w : World) : Calls Tryz.prog 111 #[.pointer none, .int .i64 g] w fun e w' => e = .returned (.tuple #[]) ∧ w = w' := by
  go_enter Tryz.func111, Tryz.ntmps111
  go_wp2
  refine bodyPost_ret (v := .tuple #[]) (results_none rfl _ _ _) rfl ?_
  exact ⟨rfl, rfl⟩

/-- The cells of a table that nothing was written to but how many pages. -/
def zeroT (P : Int) : Array Value := (([Value.int .i64 0, Value.int .i64 P] : List Value) ++ List.replicate 1088 (Value.int .i64 0) ++ (List.replicate 64 [Value.bool false, Value.int .i64 0, Value.int .i64 0]).flatten).toArray
theorem tab_buildV (p : Int) (w : World) : (Instr.build 147 #[(1, .int .i64 p)]).run Tryz.prog w = .ok (.agg (zeroT p)) w := by kernel_rfl
theorem tab_build {ops : Array Oper} {rest : List Oper} {o : Oper} {a : Act} {w : World} {Q : Exit → Act → World → Prop} (hgd : o.guard = none) (x : Operand) (ho : o.op = .build 147 #[(1, x)]) {p : Int} (hx : a.eval x = .int .i64 p)
    (h : wpList Tryz.prog ops Q rest (a.put o.dst (.agg (zeroT p))) w) : wpList Tryz.prog ops Q (o :: rest) a w := by
  refine wpList_plain hgd fun K hK => ?_
  have hm : (#[((1 : Nat), x)].map fun (q : Nat × Operand) => (q.1, a.eval q.2)) = #[(1, .int .i64 p)] := by simp [hx]
  unfold Oper.wp execOp
  simp only [ho, hm, Sem.run_bind, tab_buildV, Result.andThen_ok, Sem.run_pure]
  exact hK _ _ h
theorem flat_rep (x y z : Value) : ∀ (n q i : Nat), q < n → i < 3 → (List.replicate n [x, y, z]).flatten[q * 3 + i]? = [x, y, z][i]?
  | 0, q, i, h, _ => by omega
  | n + 1, 0, i, _, hi => by
    rw [List.replicate_succ, List.flatten_cons, List.getElem?_append_left (by simp; omega)]
    congr 1
    omega
  | n + 1, q + 1, i, h, hi => by
    rw [List.replicate_succ, List.flatten_cons, List.getElem?_append_right (by simp; omega), ← flat_rep x y z n q i (by omega) hi]
    congr 1
    simp
    omega
theorem flat_len (l : List Value) : ∀ n, (List.replicate n l).flatten.length = n * l.length
  | 0 => by simp
  | n + 1 => by rw [List.replicate_succ, List.flatten_cons, List.length_append, flat_len l n, Nat.add_mul]; omega
theorem zeroT_is (P : Nat) : TabC (zeroT P) 0 P (fun _ _ => 0) (fun _ => 0) (fun _ => (false, 0, 0)) := by
  have low : ∀ i, 2 ≤ i → i < 1090 → (zeroT P)[i]? = some (.int .i64 0) := fun i h1 h2 => by
    unfold zeroT
    rw [List.getElem?_toArray, List.getElem?_append_left (by simp; omega), List.getElem?_append_right (by simp; omega), List.getElem?_replicate, if_pos (by simp; omega)]
  have hig : ∀ q i, q < 64 → i < 3 → (zeroT P)[1090 + q * 3 + i]? = [Value.bool false, Value.int .i64 0, Value.int .i64 0][i]? := fun q i h1 h2 => by
    unfold zeroT
    rw [List.getElem?_toArray, List.getElem?_append_right (by simp; omega), ← flat_rep _ _ _ 64 q i h1 h2]
    congr 1
    simp
    omega
  refine ⟨?_, rfl, rfl, fun b p hb hp => low _ (by omega) (by omega), fun b hb => low _ (by omega) (by omega), fun q hq => hig q 0 hq (by omega), fun q hq => hig q 1 hq (by omega), fun q hq => hig q 2 hq (by omega)⟩
  unfold zeroT
  rw [List.size_toArray, List.length_append, List.length_append, flat_len, List.length_replicate]
  rfl

/-- What may be asked. -/
def newOk (b p : Int) : Prop := 1 ≤ b ∧ b ≤ 64 ∧ 2 ≤ p ∧ p ≤ 16
theorem new14_no (b p : Int) (w : World) (h : ¬ newOk b p) : Calls Tryz.prog 72 #[.int .i64 b, .int .i64 p] w fun e w' => e = .returned (.pointer none) ∧ w = w' := by
  unfold newOk at h
  by_cases h1 : b < 1
  · have b1 : decide (b < 1) = true := by simpa using h1
    clear h h1
    go_enter Tryz.func72, Tryz.ntmps72
    go_wp2
    go_ret
    exact ⟨rfl, rfl⟩
  · have b1 : decide (b < 1) = false := by simpa using h1
    by_cases h2 : 64 < b
    · have b2 : decide (64 < b) = true := by simpa using h2
      clear h h1 h2
      go_enter Tryz.func72, Tryz.ntmps72
      go_wp2
      go_ret
      exact ⟨rfl, rfl⟩
    · have b2 : decide (64 < b) = false := by simpa using h2
      by_cases h3 : p < 2
      · have b3 : decide (p < 2) = true := by simpa using h3
        clear h h1 h2 h3
        go_enter Tryz.func72, Tryz.ntmps72
        go_wp2
        go_ret
        exact ⟨rfl, rfl⟩
      · have b3 : decide (p < 2) = false := by simpa using h3
        have b4 : decide (16 < p) = true := by simp; omega
        clear h h1 h2 h3
        go_enter Tryz.func72, Tryz.ntmps72
        go_wp2
        go_ret
        exact ⟨rfl, rfl⟩
theorem new14_ok (b p : Nat) (w : World) (h : newOk b p) : Calls Tryz.prog 72 #[.int .i64 b, .int .i64 p] w fun e w' => ∃ t, e = .returned (.pointer (some ⟨t, 0, none⟩)) ∧ TabA w' t b p [] ∧ w.heap.size ≤ t ∧ w.grownBy w' none := by
  unfold newOk at h
  have b1 : decide ((b : Int) < 1) = false := by simp; omega
  have b2 : decide (64 < (b : Int)) = false := by simp; omega
  have b3 : decide ((p : Int) < 2) = false := by simp; omega
  have b4 : decide (16 < (p : Int)) = false := by simp; omega
  have hE := World.grownBy_alloc w (.cells (zeroT p) 147) none
  have hT : TabS (w.alloc (.cells (zeroT p) 147)) w.heap.size 0 p (fun _ _ => 0) (fun _ => 0) (fun _ => (false, 0, 0)) := ⟨by omega, by omega, _, Blk.new w _ _, zeroT_is p⟩
  have GROW := grow_is hT b (by omega)
  have hM : 0 + (min (b : Int) (64 - ((0 : Nat) : Int))).toNat = b := by omega
  have HE := Lib.hid hE
  have HM := Lib.hid hM
  clear h hE hT hM
  obtain ⟨M, hM⟩ : ∃ M, (min (b : Int) (64 - ((0 : Nat) : Int))).toNat = M := ⟨_, rfl⟩
  rw [hM] at GROW
  have HM2 := Lib.hid hM
  clear hM
  go_enter Tryz.func72, Tryz.ntmps72
  go_wp2_with (first
    | (refine tab_build rfl _ rfl rfl ?_)
    | (go_at_call 111; refine GROW.mono ?_; rintro e w2 ⟨rfl, hG2⟩))
  go_ret
  obtain ⟨R', h2, h3, h4, _, h5⟩ := hG2
  have hMb : 0 + M = b := by have h6 := HM.out; have h7 := HM2.out; omega
  rw [hMb] at h2 h4
  exact ⟨_, rfl, ⟨R', _, _, h2, Inv14.none b p R' (fun i j hi hj => h4 i j (Nat.zero_le _) hi hj)⟩, Nat.le_refl _, g14_new HE.out h5 (Nat.le_refl _)⟩

section
variable {w w' : World} {t B P : Nat} {rs : List R14}
theorem TabC.wors {cs : Array Value} {B P : Nat} {R : Nat → Nat → Int} {W : Nat → Int} {S : Nat → Bool × Int × Int} (h : TabC cs B P R W S) : (cs.extract 1026 (1026 + 64)).size = 64 ∧ ∀ b, b < 64 → (cs.extract 1026 (1026 + 64))[b]? = some (.int .i64 (W b)) := by
  have hs := h.size
  refine ⟨by rw [Array.size_extract]; omega, fun b hb => ?_⟩
  rw [Array.getElem?_extract, if_pos (by omega)]
  exact h.wor b hb
theorem index_64 {cs : Array Value} {k : Nat} {v : Value} (hk : k < 64) (hv : cs[k]? = some v) (w : World) : (Instr.index 144 (.agg cs) (.int .i64 k)).run Tryz.prog w = .ok v w := by
  have h1 : Tryz.prog.cellsOf 3 = 1 := by kernel_rfl
  have h2 : Tryz.prog.plainKey 3 = true := by kernel_rfl
  have h3 : (sizeOf 3).run Tryz.prog w = .ok 1 w := by kernel_rfl
  have h4 : (0 : Int) ≤ k ∧ (k : Int) < 64 := by omega
  have h5 := run_part_plain (w := w) h2 hv
  unfold Instr.index
  simp [asIntOf, run_underlying Tryz.underlying144, h3]
  rw [if_pos hk]
  exact h5
theorem Tryz.size64 : (Tryz.prog.info? 144).map (·.size) = some 64 := by kernel_rfl

end

end Go.Proofs.YtfibpgfjlmlpaaaGreatDoor

/-
  Layer 15: the greedy choice: what it is; the document's Greedy; VictimGreedy, VictimLeast over what Greedy answers.
-/
namespace Go.Proofs.YtfibpgfjlmlpaaaGreatDoor
set_option linter.unusedVariables false
set_option linter.unusedSimpArgs false
set_option linter.unusedVariables false
set_option linter.unusedSimpArgs false
set_option maxRecDepth 100000
open Go.RowKit

/-- The greedy choice. -/
def GreedyP (zs : List Int) (r : Int) : Prop :=
  (r = -1 ∧ ∀ j, j < zs.length → zs.getD j 0 < 0) ∨ ∃ i : Nat, r = i ∧ i < zs.length ∧ 0 ≤ zs.getD i 0 ∧ (∀ j, j < zs.length → 0 ≤ zs.getD j 0 → zs.getD i 0 ≤ zs.getD j 0) ∧ ∀ j, j < i → 0 ≤ zs.getD j 0 → zs.getD i 0 < zs.getD j 0
theorem GreedyP.eq {zs : List Int} {r s : Int} (h : GreedyP zs r) (h2 : GreedyP zs s) : r = s := by
  rcases h with ⟨rfl, h⟩ | ⟨i, rfl, hi, h0, h1, hl⟩
  · rcases h2 with ⟨rfl, _⟩ | ⟨j, rfl, hj, g0, _⟩
    · rfl
    · have := h j hj; omega
  · rcases h2 with ⟨rfl, g⟩ | ⟨j, rfl, hj, g0, g1, gl⟩
    · have := g i hi; omega
    · by_cases e : i = j
      · rw [e]
      · rcases Nat.lt_or_gt_of_ne e with e | e
        · have a1 := gl i e h0; have a2 := h1 j hj g0; omega
        · have a1 := hl j e g0; have a2 := g1 i hi h0; omega
theorem greedy_some : ∀ zs : List Int, ∃ r, GreedyP zs r := by
  intro zs
  have key : ∀ k, k ≤ zs.length → (∀ j, j < k → zs.getD j 0 < 0) ∨ ∃ i : Nat, i < k ∧ 0 ≤ zs.getD i 0 ∧ (∀ j, j < k → 0 ≤ zs.getD j 0 → zs.getD i 0 ≤ zs.getD j 0) ∧ ∀ j, j < i → 0 ≤ zs.getD j 0 → zs.getD i 0 < zs.getD j 0 := by
    intro k
    induction k with
    | zero => intro _; exact .inl (fun j hj => by omega)
    | succ k ih =>
      intro hk
      rcases ih (by omega) with h | ⟨i, hi, h0, h1, h2⟩
      · by_cases hz : 0 ≤ zs.getD k 0
        · refine .inr ⟨k, by omega, hz, fun j hj h0 => ?_, fun j hj h0 => by have := h j hj; omega⟩
          by_cases e : j = k
          · subst e; exact Int.le_refl _
          · have := h j (by omega); omega
        · refine .inl (fun j hj => ?_)
          by_cases e : j = k
          · subst e; omega
          · exact h j (by omega)
      · by_cases hz : 0 ≤ zs.getD k 0 ∧ zs.getD k 0 < zs.getD i 0
        · refine .inr ⟨k, by omega, hz.1, fun j hj g0 => ?_, fun j hj g0 => by have := h1 j hj g0; omega⟩
          by_cases e : j = k
          · subst e; exact Int.le_refl _
          · have := h1 j (by omega) g0; omega
        · refine .inr ⟨i, by omega, h0, fun j hj g0 => ?_, h2⟩
          by_cases e : j = k
          · subst e; omega
          · exact h1 j (by omega) g0
  rcases key zs.length (Nat.le_refl _) with h | ⟨i, hi, h0, h1, h2⟩
  · exact ⟨-1, .inl ⟨rfl, h⟩⟩
  · exact ⟨i, .inr ⟨i, rfl, hi, h0, h1, h2⟩⟩
/-- What the program's Greedy answers. -/
def VicG : Prop := ∀ (v : Value) (zs : List Int) (w : World), Ints w v zs → zs.length ≤ 9223372036854775807 → ∃ r, GreedyP zs r ∧ Calls Tryz.prog 144 #[v] w fun e w' => e = .returned (.int .i64 r) ∧ w.grownBy w' none
theorem g15_refl (w : World) : w.grownBy w none := ⟨rfl, rfl, rfl, Nat.le_refl _, fun _ _ _ => rfl⟩
theorem g15_trans {w w1 w2 : World} (h : w.grownBy w1 none) (h2 : w1.grownBy w2 none) : w.grownBy w2 none :=
  ⟨h2.os.trans h.os, h2.tape.trans h.tape, h2.output.trans h.output, Nat.le_trans h.size h2.size, fun k hk hne => (h2.block k (Nat.lt_of_lt_of_le hk h.size) hne).trans (h.block k hk hne)⟩
/-- A slice of integers, its cells. -/
theorem Ints.cells15 {w : World} {v : Value} {zs : List Int} (h : Ints w v zs) : ∃ ao cap, v = .slice ao zs.length cap ∧ ∀ i, i < zs.length → ∃ b off, ao = some ⟨b, off, none⟩ ∧ w.cell? ⟨b, off + i, none⟩ = some (.int .i64 (zs.getD i 0)) := by
  rcases h with ⟨rfl, rfl⟩ | ⟨b, off, cap, rfl, _, h3⟩ | ⟨x, cap, rfl, rfl⟩
  · exact ⟨none, 0, rfl, fun i hi => by simp at hi⟩
  · exact ⟨_, cap, rfl, fun i hi => ⟨b, off, rfl, h3 i hi⟩⟩
  · exact ⟨_, cap, rfl, fun i hi => by simp at hi⟩

end Go.Proofs.YtfibpgfjlmlpaaaGreatDoor

/-
  Layer 15: the document's clamp and Spread.
-/
namespace Go.Proofs.YtfibpgfjlmlpaaaGreatDoor
set_option linter.unusedVariables false
set_option linter.unusedSimpArgs false
set_option linter.unusedVariables false
set_option linter.unusedSimpArgs false
set_option maxRecDepth 100000
open Go.RowKit

def clampN (v m : Int) : Int := if v < 0 then 0 else if m < v then m else v
theorem clampN_bd {v m : Int} (hm : 0 ≤ m) : 0 ≤ clampN v m ∧ clampN v m ≤ m := by
  unfold clampN
  split
  · omega
  · split <;> omega
/-- How much they differ. -/
abbrev cl40 (zs : List Int) (j : Nat) : Int := clampN (zs.getD j 0) 1099511627776
def SprP (zs : List Int) (r : Int) : Prop := 0 ≤ r ∧ (∀ a, a < zs.length → ∀ b, b < zs.length → cl40 zs a - cl40 zs b ≤ r) ∧ (r = 0 ∨ ∃ a b, a < zs.length ∧ b < zs.length ∧ r = cl40 zs a - cl40 zs b)
theorem SprP.eq {zs : List Int} {r s : Int} (h : SprP zs r) (h2 : SprP zs s) : r = s := by
  obtain ⟨a0, a1, a2⟩ := h
  obtain ⟨b0, b1, b2⟩ := h2
  have h3 : r ≤ s := by
    rcases a2 with rfl | ⟨a, b, ha, hb, rfl⟩
    · exact b0
    · exact b1 a ha b hb
  have h4 : s ≤ r := by
    rcases b2 with rfl | ⟨a, b, ha, hb, rfl⟩
    · exact a0
    · exact a1 a ha b hb
  omega

end Go.Proofs.YtfibpgfjlmlpaaaGreatDoor

/-
  Layer 15: the document's Benefit.
-/
namespace Go.Proofs.YtfibpgfjlmlpaaaGreatDoor
set_option linter.unusedVariables false
set_option linter.unusedSimpArgs false
set_option linter.unusedVariables false
set_option linter.unusedSimpArgs false
set_option maxRecDepth 100000
open Go.RowKit

/-- May a block be chosen? -/
def mayB (zs gs : List Int) (p : Int) (k : Nat) : Bool := decide (0 ≤ zs.getD k 0) && (decide (zs.getD k 0 < p) && decide (k < gs.length))
/-- Its benefit, but for what it is divided by. -/
def valN (zs gs : List Int) (p : Int) (k : Nat) : Int := (p - zs.getD k 0) * clampN (gs.getD k 0) 1048576
theorem valN_bd {zs gs : List Int} {p : Int} {k : Nat} (hp : 2 ≤ p ∧ p ≤ 16) (h : mayB zs gs p k = true) : 0 ≤ valN zs gs p k ∧ valN zs gs p k ≤ 16777216 := by
  unfold mayB at h
  simp only [Bool.and_eq_true, decide_eq_true_eq] at h
  have hb := clampN_bd (v := gs.getD k 0) (m := 1048576) (by decide)
  unfold valN
  constructor
  · exact Int.mul_nonneg (by omega) hb.1
  · exact Int.mul_le_mul (a := p - zs.getD k 0) (b := clampN (gs.getD k 0) 1048576) (c := 16) (d := 1048576) (by omega) hb.2 hb.1 (by decide)
/-- It may be chosen, and no other one beats it. -/
def beatB (zs gs : List Int) (p : Int) (i k : Nat) : Bool := mayB zs gs p k && decide (valN zs gs p i * (p + zs.getD k 0) < valN zs gs p k * (p + zs.getD i 0))
def BestP (zs gs : List Int) (p : Int) (i : Nat) : Prop := mayB zs gs p i = true ∧ ∀ k, k < zs.length → beatB zs gs p i k = false
/-- What Benefit must answer: the first such one. -/
def BenP (zs gs : List Int) (p r : Int) : Prop := (¬ (2 ≤ p ∧ p ≤ 16) ∧ r = -1) ∨ ((2 ≤ p ∧ p ≤ 16) ∧ ((r = -1 ∧ ∀ i, i < zs.length → ¬ BestP zs gs p i) ∨ ∃ i : Nat, r = (i : Int) ∧ i < zs.length ∧ BestP zs gs p i ∧ ∀ j, j < i → ¬ BestP zs gs p j))
theorem BenP.eq {zs gs : List Int} {p r s : Int} (h : BenP zs gs p r) (h2 : BenP zs gs p s) : r = s := by
  rcases h with ⟨h0, rfl⟩ | ⟨h0, h⟩
  · rcases h2 with ⟨_, rfl⟩ | ⟨h1, _⟩
    · rfl
    · exact absurd h1 h0
  · rcases h2 with ⟨h1, _⟩ | ⟨_, h2⟩
    · exact absurd h0 h1
    · rcases h with ⟨rfl, h⟩ | ⟨i, rfl, hi, hb, hf⟩
      · rcases h2 with ⟨rfl, _⟩ | ⟨j, _, hj, hbj, _⟩
        · rfl
        · exact absurd hbj (h j hj)
      · rcases h2 with ⟨_, h2⟩ | ⟨j, rfl, hj, hbj, hfj⟩
        · exact absurd hb (h2 i hi)
        · rcases Nat.lt_trichotomy i j with hl | rfl | hl
          · exact absurd hb (hfj i hl)
          · rfl
          · exact absurd hbj (hf j hl)

end Go.Proofs.YtfibpgfjlmlpaaaGreatDoor

/-
  Layer 15: VictimBenefit over what Benefit and Spread answer.
-/
namespace Go.Proofs.YtfibpgfjlmlpaaaGreatDoor
set_option linter.unusedVariables false
set_option linter.unusedSimpArgs false
set_option linter.unusedVariables false
set_option linter.unusedSimpArgs false
set_option maxRecDepth 100000
open Go.RowKit

end Go.Proofs.YtfibpgfjlmlpaaaGreatDoor

/-
  Package victim: Greedy, bounded, Spread.
-/
namespace Go.Proofs.YtfibpgfjlmlpaaaGreatDoor
set_option linter.unusedVariables false
set_option linter.unusedSimpArgs false
set_option linter.unusedVariables false
set_option linter.unusedSimpArgs false
set_option maxRecDepth 100000
open Go.RowKit

set_option maxHeartbeats 1600000 in
theorem vicGreedy_any : VicG := by
  intro v zs w h hl
  have key : Calls Tryz.prog 144 #[v] w fun e w' => (∃ r, GreedyP zs r ∧ e = .returned (.int .i64 r)) ∧ w = w' := by
    obtain ⟨ao, cap, rfl, hc⟩ := h.cells15
    obtain ⟨n, hn⟩ : ∃ n, zs.length = n := ⟨_, rfl⟩
    rw [hn] at hl hc ⊢
    have HC := Lib.hid (And.intro hc hn)
    clear h hc hn
    go_enter Tryz.func144, Tryz.ntmps144
    go_wp2
    go_loopw [3, 8] (fun s i wr => ∃ (k : Nat) (r : Int), k ≤ n ∧ i = .int .i64 k ∧ s = .int .i64 r ∧ w = wr ∧ ((r = -1 ∧ ∀ j, j < k → zs.getD j 0 < 0) ∨ ∃ m : Nat, r = m ∧ m < k ∧ 0 ≤ zs.getD m 0 ∧ (∀ j, j < k → 0 ≤ zs.getD j 0 → zs.getD m 0 ≤ zs.getD j 0) ∧ ∀ j, j < m → 0 ≤ zs.getD j 0 → zs.getD m 0 < zs.getD j 0)) (fun _ i _ => n - (intOf i).toNat)
    case atStart => exact ⟨0, -1, by omega, rfl, rfl, rfl, .inl ⟨rfl, fun j hj => by omega⟩⟩
    case round =>
      obtain ⟨k, r, hk, rfl, rfl, rfl, hrel⟩ := hrel
      by_cases hlt : k < n
      · obtain ⟨b, off, rfl, hcell⟩ := HC.out.1 k hlt
        obtain ⟨x, hx⟩ : ∃ z, zs.getD k 0 = z := ⟨_, rfl⟩
        rw [hx] at hcell
        have HX := Lib.hid hx
        clear hx
        by_cases h0 : 0 ≤ x
        · have hg : x ≥ 0 := h0
          rcases hrel with ⟨hr, hneg⟩ | ⟨m, hr, hmk, hm0, hm1, hm2⟩
          · have hrb : (r == -1) = true := by simpa using hr
            have HG := Lib.hid (And.intro hr hneg)
            clear hr hneg
            go_wp2
            go_roundw
            case rel => exact ⟨k + 1, (k : Int), by omega, by go_num, rfl, (by first | rfl | trivial), .inr ⟨k, rfl, by omega, by rw [HX.out]; exact h0, fun j hj hj0 => by
              by_cases e : j = k
              · subst e; omega
              · have := HG.out.2 j (by omega); omega, fun j hj hj0 => by have := HG.out.2 j hj; omega⟩⟩
            case measure => simp [intOf]; omega
          · obtain ⟨b', off', hao, hcm⟩ := HC.out.1 m (by omega)
            simp only [Option.some.injEq, Addr.mk.injEq, and_true] at hao
            obtain ⟨rfl, rfl⟩ := hao
            subst hr
            have hrb : ((m : Int) == -1) = false := by simp
            obtain ⟨y, hy⟩ : ∃ z, zs.getD m 0 = z := ⟨_, rfl⟩
            rw [hy] at hcm
            have HG := Lib.hid (And.intro hy (And.intro hm0 (And.intro hm1 hm2)))
            have hmn : m < n := by omega
            clear hy hm0 hm1 hm2
            by_cases hxy : x < y
            · go_wp2
              go_roundw
              case rel => exact ⟨k + 1, (k : Int), by omega, by go_num, rfl, (by first | rfl | trivial), .inr ⟨k, rfl, by omega, by rw [HX.out]; exact h0, fun j hj hj0 => by
                by_cases e : j = k
                · subst e; omega
                · have := HG.out.2.2.1 j (by omega) hj0; rw [HG.out.1] at this; rw [HX.out]; omega, fun j hj hj0 => by
                  have := HG.out.2.2.1 j hj hj0; rw [HG.out.1] at this; rw [HX.out]; omega⟩⟩
              case measure => simp [intOf]; omega
            · go_wp2
              go_roundw
              case rel => exact ⟨k + 1, (m : Int), by omega, by go_num, rfl, (by first | rfl | trivial), .inr ⟨m, rfl, by omega, HG.out.2.1, fun j hj hj0 => by
                by_cases e : j = k
                · subst e; rw [HX.out, HG.out.1]; omega
                · exact HG.out.2.2.1 j (by omega) hj0, HG.out.2.2.2⟩⟩
              case measure => simp [intOf]; omega
        · have hg : ¬ x ≥ 0 := h0
          have HR := Lib.hid hrel
          clear hrel
          go_wp2
          go_roundw
          case rel =>
            refine ⟨k + 1, r, by omega, by go_num, rfl, (by first | rfl | trivial), ?_⟩
            rcases HR.out with ⟨rfl, hneg⟩ | ⟨m, rfl, hmk, hm0, hm1, hm2⟩
            · refine .inl ⟨rfl, fun j hj => ?_⟩
              by_cases e : j = k
              · subst e; rw [HX.out]; omega
              · exact hneg j (by omega)
            · refine .inr ⟨m, rfl, by omega, hm0, fun j hj hj0 => ?_, hm2⟩
              by_cases e : j = k
              · subst e; rw [HX.out] at hj0; omega
              · exact hm1 j (by omega) hj0
          case measure => simp [intOf]; omega
      · obtain rfl : k = n := by omega
        have HR := Lib.hid hrel
        clear hrel
        go_wp2
        go_ret
        refine ⟨⟨r, ?_, rfl⟩, rfl⟩
        unfold GreedyP
        rw [HC.out.2]
        rcases HR.out with h | ⟨m, h1, h2, h3, h4, h5⟩
        · exact .inl h
        · exact .inr ⟨m, h1, h2, h3, h4, h5⟩
  obtain ⟨r, hr⟩ : ∃ r, GreedyP zs r := greedy_some zs
  exact ⟨r, hr, key.mono fun e w' ⟨⟨s, hs2, he⟩, hw⟩ => ⟨by rw [he, hs2.eq hr], by rw [← hw]; exact g15_refl w⟩⟩

/-- The least and the greatest of what was met. -/
structure LG (zs : List Int) (k : Nat) (l g : Int) : Prop where
  l0 : 0 ≤ l
  l1 : l ≤ 1099511627776
  g0 : 0 ≤ g
  g1 : g ≤ 1099511627776
  all : ∀ j, j < k → l ≤ cl40 zs j ∧ cl40 zs j ≤ g
  some : (k = 0 ∧ l = 1099511627776 ∧ g = 0) ∨ ∃ a b, a < k ∧ b < k ∧ l = cl40 zs a ∧ g = cl40 zs b
theorem LG.next {zs : List Int} {k : Nat} {l g c : Int} (h : LG zs k l g) (hc : cl40 zs k = c) (h0 : 0 ≤ c) (h1 : c ≤ 1099511627776) : LG zs (k + 1) (min l c) (max g c) := by
  obtain ⟨a0, a1, a2, a3, a4, a5⟩ := h
  refine ⟨by omega, by omega, by omega, by omega, fun j hj => ?_, ?_⟩
  · by_cases e : j = k
    · subst e; rw [hc]; omega
    · have := a4 j (by omega); omega
  · right
    rcases a5 with ⟨rfl, rfl, rfl⟩ | ⟨a, b, ha, hb, rfl, rfl⟩
    · exact ⟨0, 0, by omega, by omega, by rw [hc]; omega, by rw [hc]; omega⟩
    · by_cases e1 : cl40 zs a ≤ c
      · by_cases e2 : c ≤ cl40 zs b
        · exact ⟨a, b, by omega, by omega, by omega, by omega⟩
        · exact ⟨a, k, by omega, by omega, by omega, by omega⟩
      · by_cases e2 : c ≤ cl40 zs b
        · exact ⟨k, b, by omega, by omega, by omega, by omega⟩
        · exact ⟨k, k, by omega, by omega, by omega, by omega⟩
theorem LG.spr {zs : List Int} {k : Nat} {l g : Int} (h : LG zs k l g) (hk : zs.length = k) (h0 : k ≠ 0) : SprP zs (g - l) := by
  obtain ⟨a0, a1, a2, a3, a4, a5⟩ := h
  rcases a5 with ⟨h, _⟩ | ⟨a, b, ha, hb, e1, e2⟩
  · exact absurd h h0
  refine ⟨by have := a4 0 (by omega); omega, fun x hx y hy => ?_, .inr ⟨b, a, by omega, by omega, by omega⟩⟩
  have h1 := a4 x (by omega)
  have h2 := a4 y (by omega)
  omega

end Go.Proofs.YtfibpgfjlmlpaaaGreatDoor

/-
  Package rule: within, isPages, Check, Data, Total, Bound, Most (layer 9), for sizes that may be; fixed; the law RuleRoom walked.
-/
namespace Go.Proofs.YtfibpgfjlmlpaaaGreatDoor
set_option linter.unusedVariables false
set_option linter.unusedSimpArgs false
set_option linter.unusedVariables false
set_option linter.unusedSimpArgs false
set_option maxRecDepth 100000
open Go.RowKit

def inB (v l m : Int) : Bool := decide (l ≤ v ∧ v ≤ m)

set_option maxHeartbeats 400000 in
theorem ruleWithin_any (v l m : Int) (w : World) :
    Calls Tryz.prog 56 #[.int .i64 v, .int .i64 l, .int .i64 m] w fun e w' => e = .returned (.bool (inB v l m)) ∧ w = w' := by
  by_cases h0 : l ≤ v
  · have e0 : decide (l ≤ v) = true := by simpa using h0
    go_enter Tryz.func56, Tryz.ntmps56
    go_wp2
    go_ret
    exact ⟨ret_bool (by simp [inB, h0]), rfl⟩
  · have e0 : decide (l ≤ v) = false := by simpa using h0
    go_enter Tryz.func56, Tryz.ntmps56
    go_wp2
    go_ret
    exact ⟨ret_bool (by simp [inB]; omega), rfl⟩

theorem rulePages_any (p : Int) (w : World) :
    Calls Tryz.prog 55 #[.int .i64 p] w fun e w' => e = .returned (.bool (inB p 2 16)) ∧ w = w' := by
  go_enter Tryz.func55, Tryz.ntmps55
  go_wp2_with (go_at_call 56; refine (ruleWithin_any _ _ _ _).mono ?_; rintro e w' ⟨rfl, rfl⟩)
  go_ret
  exact ⟨rfl, rfl⟩

def roomE (s r : Int) : Int := if inB s 1 64 = true ∧ inB r 0 8 = true then 0 else 5

set_option maxHeartbeats 400000 in
theorem ruleCheck_any (s r : Int) (w : World) :
    Calls Tryz.prog 64 #[.int .i64 s, .int .i64 r] w fun e w' => e = .returned (.int .i64 (roomE s r)) ∧ w = w' := by
  unfold roomE
  generalize h1 : inB s 1 64 = b1
  generalize h2 : inB r 0 8 = b2
  have W1 := Lib.hid h1
  have W2 := Lib.hid h2
  clear h1 h2
  cases b1 <;> cases b2
  all_goals
    go_enter Tryz.func64, Tryz.ntmps64
    go_wp2_with (go_at_call 56; refine (ruleWithin_any _ _ _ _).mono ?_; rintro e w' ⟨rfl, rfl⟩; first | rw [W1.out] | rw [W2.out])
    go_ret
    exact ⟨rfl, rfl⟩

set_option maxHeartbeats 400000 in
theorem ruleData_any (s p : Int) (w : World) (hs : 1 ≤ s ∧ s ≤ 64) (hp : 2 ≤ p ∧ p ≤ 16) :
    Calls Tryz.prog 65 #[.int .i64 s, .int .i64 p] w fun e w' => e = .returned (.int .i64 (s / p + 2)) ∧ w = w' := by
  have C := ruleCheck_any s 0
  have P := rulePages_any p
  rw [show roomE s 0 = 0 by simp [roomE, inB]; omega] at C
  rw [show inB p 2 16 = true by simp [inB]; omega] at P
  obtain ⟨s0, s1⟩ := hs
  obtain ⟨p0, p1⟩ := hp
  have q0 : 0 ≤ s / p := Int.ediv_nonneg (by omega) (by omega)
  have q1 : s / p ≤ 64 := Int.le_trans (Int.ediv_le_self _ (by omega)) s1
  go_enter Tryz.func65, Tryz.ntmps65
  go_wp2_with (first
    | (go_at_call 64; refine (C _).mono ?_; rintro e w' ⟨rfl, rfl⟩)
    | (go_at_call 55; refine (P _).mono ?_; rintro e w' ⟨rfl, rfl⟩))
  go_ret
  exact ⟨rfl, rfl⟩

set_option maxHeartbeats 400000 in
theorem ruleTotal_any (s r p : Int) (w : World) (hs : 1 ≤ s ∧ s ≤ 64) (hr : 0 ≤ r ∧ r ≤ 8) (hp : 2 ≤ p ∧ p ≤ 16) :
    Calls Tryz.prog 36 #[.int .i64 s, .int .i64 r, .int .i64 p] w fun e w' => e = .returned (.int .i64 (s / p + 2 + r)) ∧ w = w' := by
  have C := ruleCheck_any s r
  have P := rulePages_any p
  have D := fun w => ruleData_any s p w hs hp
  rw [show roomE s r = 0 by simp [roomE, inB]; omega] at C
  rw [show inB p 2 16 = true by simp [inB]; omega] at P
  obtain ⟨s0, s1⟩ := hs
  obtain ⟨p0, p1⟩ := hp
  obtain ⟨r0, r1⟩ := hr
  have q0 : 0 ≤ s / p := Int.ediv_nonneg (by omega) (by omega)
  have q1 : s / p ≤ 64 := Int.le_trans (Int.ediv_le_self _ (by omega)) s1
  go_enter Tryz.func36, Tryz.ntmps36
  go_wp2_with (first
    | (go_at_call 64; refine (C _).mono ?_; rintro e w' ⟨rfl, rfl⟩)
    | (go_at_call 55; refine (P _).mono ?_; rintro e w' ⟨rfl, rfl⟩)
    | (go_at_call 65; refine (D _).mono ?_; rintro e w' ⟨rfl, rfl⟩))
  go_ret
  exact ⟨rfl, rfl⟩

/-- The greatest size that so many blocks serve. -/
def MostIs (b r p : Int) (k : Nat) : Prop := k ≤ 64 ∧ (∀ j : Nat, k < j → j ≤ 64 → b < (j : Int) / p + 2 + r) ∧ (k = 0 ∨ (k : Int) / p + 2 + r ≤ b)

theorem ruleBound_four (w : World) :
    Calls Tryz.prog 23 #[.int .i64 4, .int .i64 0] w fun e w' => e = .returned (.int .i64 11) ∧ w = w' := by
  have W := ruleWithin_any 0 0 1048576
  have P := rulePages_any 4
  rw [show inB 0 0 1048576 = true by decide] at W
  rw [show inB 4 2 16 = true by decide] at P
  go_enter Tryz.func23, Tryz.ntmps23
  go_wp2_with (first
    | (go_at_call 56; refine (W _).mono ?_; rintro e w' ⟨rfl, rfl⟩)
    | (go_at_call 55; refine (P _).mono ?_; rintro e w' ⟨rfl, rfl⟩))
  go_ret
  exact ⟨rfl, rfl⟩

theorem room_facts {s p : Int} (s0 : 1 ≤ s) (s1 : s ≤ 64) (p0 : 2 ≤ p) (p1 : p ≤ 16) :
    0 ≤ s / p ∧ s / p ≤ 32 ∧ s < (s / p + 2 - 1) * p ∧ (s / p + 2 - 1) * p ≤ 528 := by
  have q0 : 0 ≤ s / p := Int.ediv_nonneg (by omega) (by omega)
  have q2 : s / p ≤ s / 2 := by
    rw [Int.le_ediv_iff_mul_le (by decide)]
    have h1 : s / p * 2 ≤ s / p * p := Int.mul_le_mul_of_nonneg_left p0 q0
    have h2 := Int.ediv_mul_le s (show p ≠ 0 by omega)
    omega
  have q3 : s < (s / p + 1) * p := Int.lt_ediv_add_one_mul_self s (by omega)
  have q4 : (s / p + 1) * p ≤ 33 * 16 := Int.mul_le_mul (by omega) p1 (by omega) (by omega)
  rw [show s / p + 2 - 1 = s / p + 1 by omega]
  omega

theorem most_le {s p : Int} {k : Nat} (s0 : 1 ≤ s) (s1 : s ≤ 64) (h : MostIs (s / p + 2) 0 p k) : s ≤ (k : Int) := by
  rcases Int.lt_or_le (k : Int) s with h1 | h1
  · have := h.2.1 s.toNat (by omega) (by omega)
    rw [Int.toNat_of_nonneg (by omega)] at this
    omega
  · exact h1

end Go.Proofs.YtfibpgfjlmlpaaaGreatDoor

/-
  Layer 18 (store): what its calls come to, as functions: the model.
-/
namespace Go.Proofs.YtfibpgfjlmlpaaaGreatDoor
set_option linter.unusedVariables false
set_option linter.unusedSimpArgs false
set_option linter.unusedVariables false
set_option linter.unusedSimpArgs false
set_option maxRecDepth 100000
open Go.RowKit

/-! the buffer's calls -/
theorem buf_put18 (w : World) (b : Nat) (row : List Chg) (x : Chg) (hA : BufA w b row) (hl : row.length ≤ 4) (hd : x.dt.size ≤ 9223372036854775807) : Calls Tryz.prog 75 #[.pointer (some ⟨b, 0, none⟩), chgV x] w fun e w' => e = .returned (.int .i64 (putE row x)) ∧ BufA w' b (putR row x) ∧ w.grownBy w' (some b) := by
  obtain ⟨rs, f, c, hS, rfl⟩ := hA
  have hlen := ringL_len rs f c
  have hf := hS.fl
  unfold putR putE
  by_cases h0 : chkE x.pl x.kd x.dt = 0
  · rw [if_pos h0]
    by_cases h4 : (ringL rs f c).length = 4
    · rw [if_pos h4, if_neg (by decide)]
      have hc4 : c = 4 := by omega
      subst hc4
      exact (put_full hS x hd h0).mono fun e w' ⟨h1, h2⟩ => ⟨h1, ⟨rs, f, 4, hS.ext h2, rfl⟩, grown_any13 h2⟩
    · rw [if_neg h4, if_pos rfl]
      have hcl := hS.cl
      exact (put_ok hS (by omega) x hd h0).mono fun e w' ⟨h1, h2, h3⟩ => ⟨h1, ⟨_, f, c + 1, h2, (ringL_put hS.four f c (by omega) x).symm⟩, h3⟩
  · rw [if_neg h0, if_neg h0]
    exact (put_bad hS x hd h0).mono fun e w' ⟨h1, h2⟩ => ⟨h1, ⟨rs, f, c, hS.ext h2, rfl⟩, grown_any13 h2⟩
theorem buf_first18 (w : World) (b : Nat) (row : List Chg) (hA : BufA w b row) (hl : row.length ≤ 4) : Calls Tryz.prog 79 #[.pointer (some ⟨b, 0, none⟩)] w fun e w' => e = .returned (.tuple #[chgV (firstC row), .bool (decide (0 < row.length))]) ∧ w.grownBy w' none := by
  obtain ⟨rs, f, c, hS, rfl⟩ := hA
  rw [ringL_len]
  by_cases hc : 0 < c
  · rw [decide_eq_true hc]
    exact first_some hS hc (ringL_first rs hS.fl hc).symm
  · obtain rfl : c = 0 := by omega
    exact first_none hS
theorem buf_drop18 (w : World) (b : Nat) (row : List Chg) (hA : BufA w b row) (hl : row.length ≤ 4) : Calls Tryz.prog 81 #[.pointer (some ⟨b, 0, none⟩)] w fun e w' => e = .returned (.bool (decide (0 < row.length))) ∧ BufA w' b (row.drop 1) ∧ w.grownBy w' (some b) := by
  obtain ⟨rs, f, c, hS, rfl⟩ := hA
  rw [ringL_len]
  by_cases hc : 0 < c
  · rw [decide_eq_true hc]
    refine (drop_some hS hc).mono fun e w' ⟨h1, h2, h3⟩ => ⟨h1, ⟨_, _, _, h2, ?_⟩, h3⟩
    have := ringL_drop (rs := rs) f c noChg hc hS.cl
    rw [Nat.mod_eq_of_lt hS.fl] at this
    exact this.symm
  · obtain rfl : c = 0 := by omega
    exact (drop_none hS).mono fun e w' ⟨h1, h2⟩ => ⟨h1, ⟨rs, f, 0, h2 ▸ hS, rfl⟩, by subst h2; exact grown_any13 (Ext.refl w)⟩
theorem buf_last18 (w : World) (b : Nat) (row : List Chg) (p : Int) (hA : BufA w b row) (hl : row.length ≤ 4) : Calls Tryz.prog 44 #[.pointer (some ⟨b, 0, none⟩), .int .i64 p] w fun e w' => e = .returned (.tuple #[chgV (lastN row p).1, .bool (lastN row p).2]) ∧ w.grownBy w' none := by
  obtain ⟨rs, f, c, hS, rfl⟩ := hA
  exact last_is hS p
theorem buf_len18 (w : World) (b : Nat) (row : List Chg) (hA : BufA w b row) (hl : row.length ≤ 4) : Calls Tryz.prog 47 #[.pointer (some ⟨b, 0, none⟩)] w fun e w' => e = .returned (.int .i64 row.length) ∧ w.grownBy w' none := by
  obtain ⟨rs, f, c, hS, rfl⟩ := hA
  rw [ringL_len]
  exact (len_is hS).mono fun e w' ⟨h1, h2⟩ => ⟨h1, by subst h2; exact Ext.refl w⟩
theorem buf_full18 (w : World) (b : Nat) (row : List Chg) (hA : BufA w b row) (hl : row.length ≤ 4) : Calls Tryz.prog 74 #[.pointer (some ⟨b, 0, none⟩)] w fun e w' => e = .returned (.bool (decide (row.length = 4))) ∧ w.grownBy w' none := by
  obtain ⟨rs, f, c, hS, rfl⟩ := hA
  rw [ringL_len]
  exact (full_is hS).mono fun e w' ⟨h1, h2⟩ => ⟨h1, by subst h2; exact Ext.refl w⟩

/-- A store's parts that stand. -/
structure SC where
  S : NShape
  zs : Nat → List Int
  who : Int
  ep : Int
  sz : Int
  sp : Int
  bl : List Int

/-- What changes: the array, the table's rows, the changes that wait, the next number, the front, whether to be read only. -/
structure SM where
  n : NS
  rs : List R14
  q : List Chg
  sq : Int
  fr : Int
  ro : Bool

def SC.ph (c : SC) (b : Int) : Int := c.bl.getD b.toNat 0
def badB (c : SC) (m : SM) (b : Nat) : Bool := m.n.mr (c.ph b).toNat
def nextB (c : SC) (m : SM) (b : Nat) : Nat := nextN (m.n.L (c.ph b).toNat) c.S.pg
def hasS (c : SC) (b : Int) : Bool := decide (0 ≤ b ∧ b < c.bl.length)
def badN (c : SC) (m : SM) : Nat := ((List.range c.bl.length).filter (badB c m)).length
def sprN (c : SC) (m : SM) : Int := (if c.sp < badN c m then (badN c m : Int) else c.sp) - badN c m
def freeB (c : SC) (m : SM) (b : Nat) : Bool := decide ((b : Int) ≠ m.fr) && (decide (nextB c m b = 0) && !badB c m b)
def freeL (c : SC) (m : SM) : List Int := List.map (fun b : Nat => (b : Int)) ((List.range c.bl.length).filter (freeB c m))
def mayS (c : SC) (m : SM) (b : Nat) : Bool := !decide (nextB c m b = 0) && (!badB c m b && decide (worthN m.rs b < c.S.pg))
def worthL (c : SC) (m : SM) : List Int := List.map (fun b : Nat => if mayS c m b then (worthN m.rs b : Int) else -1) (List.range c.bl.length)
noncomputable def grdN (ws : List Int) : Int := (greedy_some ws).choose
theorem grdN_is (ws : List Int) : GreedyP ws (grdN ws) := (greedy_some ws).choose_spec

/-- A page with its tag is written. -/
def prgE (c : SC) (n : NS) (b pg : Int) (pl sq kd : Int) (te ep : Int) (cp : Bool) (dt : ByteArray) : Int :=
  if okB te ep pl sq kd then progE c.S c.zs n c.who (c.ph b) pg (tagBL te ep pl sq kd cp).length dt.size else 1
def prgS (c : SC) (n : NS) (b pg : Int) (pl sq kd : Int) (te ep : Int) (cp : Bool) (dt : ByteArray) : NS :=
  if okB te ep pl sq kd then progS c.S c.zs n c.who (c.ph b) pg (tagBL te ep pl sq kd cp) dt else n

/-- A page is read. -/
def oneF (c : SC) (n : NS) (b pg : Int) : Fnd := if 0 ≤ b ∧ b < c.bl.length then findF c.S n (c.ph b) pg b else noF
def oneE (c : SC) (n : NS) (b pg : Int) : Int := if 0 ≤ b ∧ b < c.bl.length then findE c.S n (c.ph b) pg else 5
def fdF (c : SC) (n : NS) (b pg : Int) : Fnd := if oneE c n b pg = 0 ∧ (oneF c n b pg).torn = true then noF else oneF c n b pg
def fdE (c : SC) (n : NS) (b pg : Int) : Int := if oneE c n b pg = 0 ∧ (oneF c n b pg).torn = true then 11 else oneE c n b pg

/-- The needed pages of a block, of the first so many. -/
def needR (c : SC) (m : SM) (b : Int) : Nat → List Fnd × Int
  | 0 => ([], 0)
  | k + 1 => if (needR c m b k).2 ≠ 0 then needR c m b k else if placeN m.rs b k < 0 then needR c m b k
      else if fdE c m.n b k = 0 then ((needR c m b k).1 ++ [fdF c m.n b k], 0) else ([], fdE c m.n b k)

/-- Pages are copied, from the i-th on. -/
def copyR (c : SC) (tg : Int) : List Fnd → Nat → NS → Int × NS
  | [], _, n => (0, n)
  | f :: l, i, n => if prgE c n tg i f.pl f.sq f.kd f.te f.ep true f.dt = 0 then copyR c tg l (i + 1) (prgS c n tg i f.pl f.sq f.kd f.te f.ep true f.dt)
      else (prgE c n tg i f.pl f.sq f.kd f.te f.ep true f.dt, prgS c n tg i f.pl f.sq f.kd f.te f.ep true f.dt)

/-- The copies are the places' pages. -/
def setlR (c : SC) (tg : Int) : List Fnd → Nat → List R14 → Int × List R14
  | [], _, rs => (0, rs)
  | f :: l, i, rs => if setE c.bl.length c.S.pg rs (placeN rs f.bk f.pg) tg i = 0 then setlR c tg l (i + 1) (setR c.bl.length c.S.pg rs (placeN rs f.bk f.pg) tg i)
      else (setE c.bl.length c.S.pg rs (placeN rs f.bk f.pg) tg i, rs)

def affE (c : SC) (m : SM) (spoken : Int) : Int := if sprN c m > spoken then 0 else 13
def affM (c : SC) (m : SM) (spoken : Int) : SM := if sprN c m > spoken then m else { m with ro := true }
def giveE (c : SC) (m : SM) (b spoken : Int) : Int := if sprN c m > spoken then markE c.S m.n (c.ph b) else 13
def giveM (c : SC) (m : SM) (b spoken : Int) : SM := if sprN c m > spoken then { m with n := markS c.S m.n (c.ph b) } else { m with ro := true }

def moveF (c : SC) (row : List Fnd) (spoken : Int) : Nat → SM → Option (Int × SM)
  | 0, _ => none
  | k + 1, m => match freeL c m with
    | [] => some (8, m)
    | tg :: _ =>
      if (copyR c tg row 0 m.n).1 = 0 then some ((setlR c tg row 0 m.rs).1, { m with n := (copyR c tg row 0 m.n).2, fr := tg, rs := (setlR c tg row 0 m.rs).2 })
      else if (copyR c tg row 0 m.n).1 ≠ 10 then some ((copyR c tg row 0 m.n).1, { m with n := (copyR c tg row 0 m.n).2 })
      else if giveE c { m with n := (copyR c tg row 0 m.n).2 } tg spoken ≠ 0 then some (giveE c { m with n := (copyR c tg row 0 m.n).2 } tg spoken, giveM c { m with n := (copyR c tg row 0 m.n).2 } tg spoken)
      else moveF c row spoken k (giveM c { m with n := (copyR c tg row 0 m.n).2 } tg spoken)
def moveR (c : SC) (m : SM) (b spoken : Int) (k : Nat) : Option (Int × SM) :=
  if (needR c m b c.S.pg).2 ≠ 0 then some ((needR c m b c.S.pg).2, m) else moveF c (needR c m b c.S.pg).1 spoken k m

def eraE (c : SC) (m : SM) (b : Int) : Int := if ersE c.S c.zs m.n c.who (c.ph b) ≠ 10 then ersE c.S c.zs m.n c.who (c.ph b) else giveE c { m with n := ersS c.S c.zs m.n c.who (c.ph b) } b 0
def eraM (c : SC) (m : SM) (b : Int) : SM := if ersE c.S c.zs m.n c.who (c.ph b) ≠ 10 then { m with n := ersS c.S c.zs m.n c.who (c.ph b) } else giveM c { m with n := ersS c.S c.zs m.n c.who (c.ph b) } b 0

def collR (c : SC) (m : SM) (b : Int) (k : Nat) : Option (Int × SM) :=
  match moveR c m b 0 k with
  | none => none
  | some (e, m1) => if e ≠ 0 then some (e, m1) else some (eraE c m1 b, eraM c m1 b)

noncomputable def roomR (c : SC) (m : SM) (k : Nat) : Option (Int × SM) :=
  if hasS c m.fr && decide (nextB c m m.fr.toNat < c.S.pg) then some (0, m)
  else if ((freeL c m).length : Int) - 1 > sprN c m then some (0, { m with fr := (freeL c m).headD 0 })
  else if grdN (worthL c m) = -1 then some (8, m) else collR c m (grdN (worthL c m)) k

def putE18 (c : SC) (m : SM) (x : Chg) : Int :=
  if prgE c m.n m.fr (nextB c m m.fr.toNat) x.pl m.sq x.kd c.who c.ep false x.dt = 0 then setE c.bl.length c.S.pg m.rs x.pl m.fr (nextB c m m.fr.toNat)
  else prgE c m.n m.fr (nextB c m m.fr.toNat) x.pl m.sq x.kd c.who c.ep false x.dt
def putM (c : SC) (m : SM) (x : Chg) : SM :=
  if prgE c m.n m.fr (nextB c m m.fr.toNat) x.pl m.sq x.kd c.who c.ep false x.dt = 0 then
    { m with n := prgS c m.n m.fr (nextB c m m.fr.toNat) x.pl m.sq x.kd c.who c.ep false x.dt, sq := m.sq + 1, rs := setR c.bl.length c.S.pg m.rs x.pl m.fr (nextB c m m.fr.toNat) }
  else { m with n := prgS c m.n m.fr (nextB c m m.fr.toNat) x.pl m.sq x.kd c.who c.ep false x.dt }

def leavR (c : SC) (m : SM) (k : Nat) : Option (Int × SM) :=
  if sprN c m > 0 then
    match moveR c m m.fr 1 k with
    | none => none
    | some (e, m1) => if e ≠ 0 then some (e, m1) else some (markE c.S m1.n (c.ph m.fr), { m1 with n := markS c.S m1.n (c.ph m.fr) })
  else some (13, { m with ro := true })

noncomputable def chgR (c : SC) (x : Chg) (k : Nat) : Nat → SM → Option (Int × SM)
  | 0, _ => none
  | j + 1, m => match roomR c m k with
    | none => none
    | some (e, m1) => if e ≠ 0 then some (e, m1) else if putE18 c m1 x ≠ 10 then some (putE18 c m1 x, putM c m1 x)
      else match leavR c (putM c m1 x) k with
        | none => none
        | some (e2, m2) => if e2 ≠ 0 then some (e2, m2) else chgR c x k j m2

noncomputable def firR (c : SC) (k : Nat) (m : SM) : Option (Int × SM) :=
  if m.q.length = 0 then some (0, m) else
    match chgR c (firstC m.q) k k m with
    | none => none
    | some (e, m1) => if e ≠ 0 then some (e, m1) else some (0, { m1 with q := m1.q.drop 1 })

noncomputable def fluF (c : SC) (k : Nat) : Nat → SM → Option (Int × SM)
  | 0, m => some (0, m)
  | j + 1, m => match firR c k m with
    | none => none
    | some (e, m1) => if e ≠ 0 then some (e, m1) else fluF c k j m1
noncomputable def fluR (c : SC) (k : Nat) (m : SM) : Option (Int × SM) := if m.ro then some (13, m) else fluF c k m.q.length m

def lacE (c : SC) (p : Int) : Int := if p < 0 ∨ c.sz ≤ p then 5 else 0
noncomputable def waiR (c : SC) (k : Nat) (m : SM) (x : Chg) : Option (Int × SM) :=
  if lacE c x.pl ≠ 0 then some (lacE c x.pl, m) else if 16 < x.dt.size then some (3, m) else if m.ro then some (13, m)
  else if m.q.length = 4 then
    match firR c k m with
    | none => none
    | some (e, m1) => if e ≠ 0 then some (e, m1) else some (putE m1.q x, { m1 with q := putR m1.q x })
  else some (putE m.q x, { m with q := putR m.q x })

def reaE (c : SC) (m : SM) (p : Int) : Int :=
  if lacE c p ≠ 0 then lacE c p else if (lastN m.q p).2 then 0 else if (atN m.rs p).2.2 then fdE c m.n (atN m.rs p).1 (atN m.rs p).2.1 else 0
def reaD (c : SC) (m : SM) (p : Int) : ByteArray :=
  if lacE c p ≠ 0 then ⟨#[]⟩ else if (lastN m.q p).2 then (lastN m.q p).1.dt else if (atN m.rs p).2.2 then
    (if (fdF c m.n (atN m.rs p).1 (atN m.rs p).2.1).kd = 2 then ⟨#[]⟩ else (fdF c m.n (atN m.rs p).1 (atN m.rs p).2.1).dt) else ⟨#[]⟩

def colR (c : SC) (m : SM) (b : Int) (k : Nat) : Option (Int × SM) :=
  if m.ro then some (13, m) else if hasS c b = false then some (5, m) else if mayS c m b.toNat = false then some (1, m) else collR c m b k

end Go.Proofs.YtfibpgfjlmlpaaaGreatDoor
