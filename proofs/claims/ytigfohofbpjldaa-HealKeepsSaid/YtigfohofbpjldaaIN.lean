/-
  Package heal: Heal and Void answer what the document says (HealC, VoidC).
-/
import Derived.Test.YtigfohofbpjldaaIK
import Derived.Test.YtigfohofbpjldaaIM
namespace Go.Proofs.Ytigfohofbpjldaa
set_option linter.unusedVariables false
set_option linter.unusedSimpArgs false
set_option maxRecDepth 100000
open Go.RowKit

theorem goN_rise (L A : List Fnd) : ∀ k : Nat, (goN L A k).Pairwise (· < ·) ∧ ∀ x ∈ goN L A k, x < (k : Int)
  | 0 => by simp [goN]
  | k + 1 => by
    obtain ⟨h1, h2⟩ := goN_rise L A k
    show (goStep L A (goN L A k) k).Pairwise _ ∧ ∀ x ∈ goStep L A (goN L A k) k, _
    unfold goStep
    split
    · refine ⟨List.pairwise_append.2 ⟨h1, by simp, fun a ha b hb => ?_⟩, fun x hx => ?_⟩
      · obtain rfl := List.mem_singleton.1 hb; exact h2 a ha
      · rcases List.mem_append.1 hx with q | q
        · have := h2 x q; omega
        · have := List.mem_singleton.1 q; omega
    · exact ⟨h1, fun x hx => by have := h2 x hx; omega⟩

theorem bsearch17_any (B : Nat) (v : Value) (xs : List Int) (x : Int) (w : World) (h : OwnI17 B w v xs) (hs : xs.Pairwise (· ≤ ·)) (hl : xs.length ≤ 1000) :
    Calls Try.prog 24 #[v, .int .i64 x] w fun e w' => (∃ i, e = .returned (.tuple #[.int .i64 i, .bool (xs.contains x)])) ∧ w.grownBy w' none := by
  rcases h.2 with ⟨rfl, h0⟩ | ⟨g, cap, cur, rfl, hb, hg, hn, hm, hsz, ht⟩
  · obtain rfl := List.eq_nil_of_length_eq_zero h0
    refine (Try.slices_BinarySearch_int_empty none 0 x w).mono ?_
    rintro e w' ⟨rfl, rfl⟩
    exact ⟨⟨0, rfl⟩, Ext.refl _⟩
  · have hI : ∀ j, j < xs.length → w.cell? ⟨g, 0 + j, none⟩ = some (.int .i64 (xs.getD j 0)) := fun j hj => by
      have h1 := h.cells (g := g) rfl j (.int .i64 (xs.getD j 0)) (by rw [List.getElem?_map, List.getElem?_eq_getElem hj, List.getD_eq_getElem?_getD, List.getElem?_eq_getElem hj]; rfl)
      rw [addr_add] at h1
      exact h1
    refine (Try.slices_BinarySearch_int g 0 xs.length cap xs x w (Nat.le_refl _) (by omega) hI (by rw [List.take_length]; exact hs)).mono ?_
    rintro e w' ⟨rfl, q, rfl⟩
    rw [List.take_length]
    exact ⟨⟨_, rfl⟩, gb_drewN w q⟩

theorem heal2_any (B : Nat) (gv : Value) (gone : List Int) (gb : Nat) (f : Fnd) (w : World) (ho : OwnI17 B w gv gone) (hs : gone.Pairwise (· ≤ ·)) (hl : gone.length ≤ 1000) (hg : w.cell? ⟨gb, 0, none⟩ = some gv) :
    Calls Try.prog 23 #[.agg (fndC f), .pointer (some ⟨gb, 0, none⟩)] w fun e w' => e = .returned (.bool (stayF gone f)) ∧ w.grownBy w' none := by
  have hE := World.grownBy_alloc w (.cells (fndC f) 36) none
  have d0 := (FCells.of (Blk.new w 36 (fndC f))).bk
  have hg := hE.cell hg (by simp)
  have ho := ho.kept hE (Classical.em _)
  obtain ⟨go_, gc, hgv⟩ := owns_slice17 ho
  subst hgv
  unfold stayF
  obtain ⟨x, hx⟩ : ∃ z, f.bk = z := ⟨_, rfl⟩
  rw [hx] at d0 ⊢
  have BS := bsearch17_any B _ gone x _ ho hs hl
  obtain ⟨z, hz⟩ : ∃ z, gone.contains x = z := ⟨_, rfl⟩
  rw [hz] at BS ⊢
  have HE := Lib.hid hE
  clear hx hz hE ho hs hl
  go_enter Try.func23, Try.ntmps23
  go_wp2_with (go_at_call 24; refine BS.mono ?_; rintro e w3 ⟨⟨i, rfl⟩, hE3⟩; have HE3 := Lib.hid (ext_trans HE.out hE3); clear hE3)
  go_ret
  exact ⟨rfl, HE3.out⟩

theorem cnt_is (B tn ep sz : Int) (L : List Fnd) : ((L.filter (witB B)).filter (mineF tn ep)).filter (belB sz) = cntL B tn ep sz L := by
  unfold cntL
  rw [List.filter_filter, List.filter_filter]
  congr 1
  funext f
  unfold witB belB cntB
  cases decide (0 ≤ f.bk) <;> cases decide (f.bk < B) <;> cases mineF tn ep f <;> cases decide (f.pl < sz) <;> rfl
theorem row_is (B : Int) (L : List Fnd) (x : Int) : x ∈ blkL (L.filter (witB B)) ↔ 0 ≤ x ∧ x < B ∧ someB L x = true := by
  rw [(blkL_ok _).2.1]
  unfold someB
  rw [List.any_eq_true]
  simp only [List.mem_filter, witB, Bool.and_eq_true, decide_eq_true_eq, beq_iff_eq]
  constructor
  · rintro ⟨f, ⟨h1, h2, h3⟩, rfl⟩
    exact ⟨h2, h3, f, h1, rfl⟩
  · rintro ⟨h1, h2, f, h3, rfl⟩
    exact ⟨f, ⟨h3, h1, h2⟩, rfl⟩
theorem strict_extI : ∀ (l1 l2 : List Int), l1.Pairwise (· < ·) → l2.Pairwise (· < ·) → (∀ x, x ∈ l1 ↔ x ∈ l2) → l1 = l2 := by
  intro l1 l2 h1 h2 h
  have := strict_ext (l1.map fun x => (x, 0, 0)) (l2.map fun x => (x, 0, 0)) (by rw [List.pairwise_map]; exact h1) (by rw [List.pairwise_map]; exact h2) (fun x => by
    simp only [List.mem_map]
    constructor
    · rintro ⟨a, ha, rfl⟩; exact ⟨a, (h a).1 ha, rfl⟩
    · rintro ⟨a, ha, rfl⟩; exact ⟨a, (h a).2 ha, rfl⟩)
  have h3 := congrArg (List.map fun x : Sp3 => x.1) this
  simpa [List.map_map, Function.comp_def] using h3
theorem voidN_mem (L : List Fnd) (tn ep sz : Int) : ∀ (k : Nat) (x : Int), x ∈ voidN L tn ep sz k ↔ ∃ j : Nat, j < k ∧ x = j ∧ L.any (voidB tn ep sz j) = true
  | 0, x => by simp [voidN]
  | k + 1, x => by
    have ih := voidN_mem L tn ep sz k x
    unfold voidN
    split
    · rename_i hb
      rw [List.mem_append, List.mem_singleton, ih]
      constructor
      · rintro (⟨j, q1, q2⟩ | q)
        · exact ⟨j, by omega, q2⟩
        · exact ⟨k, by omega, q, hb⟩
      · rintro ⟨j, q1, q2, q3⟩
        by_cases e : j = k
        · subst e; exact .inr q2
        · exact .inl ⟨j, by omega, q2, q3⟩
    · rename_i hb
      rw [ih]
      constructor
      · rintro ⟨j, q1, q2⟩
        exact ⟨j, by omega, q2⟩
      · rintro ⟨j, q1, q2, q3⟩
        by_cases e : j = k
        · subst e; exact absurd q3 hb
        · exact ⟨j, by omega, q2, q3⟩
theorem voidN_rise (L : List Fnd) (tn ep sz : Int) : ∀ k : Nat, (voidN L tn ep sz k).Pairwise (· < ·)
  | 0 => by simp [voidN]
  | k + 1 => by
    have ih := voidN_rise L tn ep sz k
    unfold voidN
    split
    · refine List.pairwise_append.2 ⟨ih, by simp, fun a ha b hb => ?_⟩
      obtain rfl := List.mem_singleton.1 hb
      obtain ⟨j, q1, rfl, _⟩ := (voidN_mem L tn ep sz k a).1 ha
      omega
    · exact ih
theorem void_is (B tn ep sz : Int) (L : List Fnd) : blkL (((L.filter (witB B)).filter (mineF tn ep)).filter (beyB sz)) = voidN L tn ep sz B.toNat := by
  refine strict_extI _ _ (blkL_ok _).1 (voidN_rise _ _ _ _ _) fun x => ?_
  rw [(blkL_ok _).2.1, voidN_mem]
  simp only [List.mem_filter, witB, beyB, Bool.and_eq_true, decide_eq_true_eq, List.any_eq_true, voidB, beq_iff_eq]
  constructor
  · rintro ⟨f, ⟨⟨⟨h1, h2, h3⟩, h4⟩, h5⟩, rfl⟩
    exact ⟨f.bk.toNat, by omega, by omega, f, h1, by omega, h4, h5⟩
  · rintro ⟨j, h1, rfl, f, h2, h3, h4, h5⟩
    exact ⟨f, ⟨⟨⟨h2, by omega, by omega⟩, h4⟩, h5⟩, h3⟩

/-- What a call of the program's made, and where. -/
theorem made17 {B : Nat} {w1 wx : World} {v : Value} {L : List Fnd} (h : OwnF B w1 v L) (hE : w1.grownBy wx none) : RowF wx v L ∧ ∀ k, v.ownBlock = some k → k < wx.heap.size :=
  ⟨(RowF.owns h).ext hE, fun k hk => by have := (h.lt k hk).2; have := hE.size; omega⟩

set_option maxHeartbeats 1600000 in
theorem void_c : VoidC := by
  intro lv L B tn ep sz w HASK
  obtain ⟨hokl, hl60, hB64⟩ := mayL_parts HASK.may
  have hE0 := World.grownBy_alloc w (.cells #[.int .i64 sz] 3) none
  have hb := box_int w sz
  have HA := HASK.ext hE0
  have HE0 := Lib.hid hE0
  obtain ⟨w0, hw0⟩ : ∃ v, w.alloc (.cells #[.int .i64 sz] 3) = v := ⟨_, rfl⟩
  rw [hw0] at HA HE0 hb
  obtain ⟨g, hgg⟩ : ∃ z, w.heap.size = z := ⟨_, rfl⟩
  rw [hgg] at hb
  have WIT := within17_any B lv L w0 HA.row HA.lb (by omega)
  have hl1 : (L.filter (witB B)).length ≤ 1000 := Nat.le_trans (List.length_filter_le _ _) (by omega)
  obtain ⟨L1, hL1⟩ : ∃ z, L.filter (witB B) = z := ⟨_, rfl⟩
  have hl2 : (L1.filter (mineF tn ep)).length ≤ 1000 := Nat.le_trans (List.length_filter_le _ _) (by rw [← hL1]; exact hl1)
  have HVI := Lib.hid (show blkL ((L1.filter (mineF tn ep)).filter (beyB sz)) = voidN L tn ep sz B.toNat by rw [← hL1]; exact void_is B tn ep sz L)
  obtain ⟨L2, hL2⟩ : ∃ z, L1.filter (mineF tn ep) = z := ⟨_, rfl⟩
  rw [hL1] at WIT hl1
  rw [hL2] at hl2 HVI
  have hl3 : (L2.filter (beyB sz)).length ≤ 1000 := Nat.le_trans (List.length_filter_le _ _) hl2
  have HL := Lib.hid (And.intro hl1 (And.intro hl2 (And.intro hl3 hL2)))
  have HB := Lib.hid hb
  have HG := Lib.hid hgg
  clear HA hokl hl60 hB64 hE0 hb hL1 hL2 hl1 hl2 hl3 HASK hgg
  go_enter Try.func14, Try.ntmps14
  go_upto_region 1 with fail
  clear hw0
  go_upto_region 2 with (first
    | (go_at_call 17; refine WIT.mono ?_; rintro e w1 ⟨⟨v1, rfl, ho1⟩, hE1⟩; have HO1 := Lib.hid ho1; have HE1 := Lib.hid hE1; have OWN := owned17_any tn ep v1 L1 w1 (made17 ho1 (Ext.refl _)).1 (made17 ho1 (Ext.refl _)).2 HL.out.1; clear ho1 hE1)
    | (go_at_call 18; refine OWN.mono ?_; rintro e w2 ⟨⟨v2, rfl, ho2⟩, hE2⟩; have HO2 := Lib.hid ho2; have HE2 := Lib.hid hE2; clear ho2 hE2))
  clear WIT OWN
  have ho2 := HO2.out
  rw [HL.out.2.2.2] at ho2
  have hb2 := HE2.out.cell (HE1.out.cell HB.out (by simp)) (by simp)
  have T := those17_any 30 Try.eg4 #[.pointer (some ⟨g, 0, none⟩)] (beyB sz) v2 L2 w2 (made17 ho2 (Ext.refl _)).1 (made17 ho2 (Ext.refl _)).2 HL.out.2.1 (fun f _ wx hE => void1_any sz g f wx (hE.cell hb2 (by simp)))
  clear ho2 hb2
  try rw [HG.out]
  go_wp2_with (first
    | (go_at_call 19; refine T.mono ?_; rintro e w3 ⟨⟨v3, rfl, ho3⟩, hE3⟩; have HE3 := Lib.hid hE3; have BLK := blocksOf_any v3 (L2.filter (beyB sz)) w3 (made17 ho3 (Ext.refl _)).1 (made17 ho3 (Ext.refl _)).2 HL.out.2.2.1; clear ho3 hE3)
    | (go_at_call 22; refine BLK.mono ?_; rintro e w4 ⟨⟨v4, rfl, ho4⟩, hE4⟩; have HO4 := Lib.hid ho4; have HE4 := Lib.hid hE4; clear ho4 hE4))
  go_ret
  have ho4 := HO4.out
  rw [HVI.out] at ho4
  have hE3 := ext_trans (ext_trans (ext_trans HE0.out HE1.out) HE2.out) HE3.out
  exact ⟨⟨_, rfl, owns_le17 ho4 hE3.size⟩, ext_trans hE3 HE4.out⟩

end Go.Proofs.Ytigfohofbpjldaa
