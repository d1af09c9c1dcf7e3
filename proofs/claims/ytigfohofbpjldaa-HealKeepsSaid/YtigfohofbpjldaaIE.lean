/-
  Package heal: blocksOf (the library's Sort and Compact by their contracts).
-/
import Derived.Test.YtigfohofbpjldaaID
import Derived.Test.YtigfohofbpjldaaIA
import Derived.Test.YtigfohofbpjldaaShelf
import Derived.Test.YtigfohofbpjldaaAT
import Derived.Lib.OwnBridge
import Derived.Sort.OwnSortedInts
import Derived.Laws.MakeOwn
namespace Go.Proofs.Ytigfohofbpjldaa
set_option linter.unusedVariables false
set_option linter.unusedSimpArgs false
set_option maxRecDepth 100000
open Go.RowKit Go.Sort

theorem sort17_any (base : Nat) (v : Value) (xs : List Int) (w : World) (h : OwnI17 base w v xs) (hl : xs.length ≤ 1000) :
    Calls Try.prog 37 #[v] w fun e w' => e = .returned (.tuple #[]) ∧ OwnI17 base w' v (xs.mergeSort fun x y => decide (x ≤ y)) ∧ w.grownBy w' v.ownBlock := by
  rcases h.2 with ⟨rfl, h0⟩ | ⟨g, cap, cur, rfl, hb, hg, hn, hm, hs, ht⟩
  · obtain rfl := List.eq_nil_of_length_eq_zero h0
    refine (Try.slices_Sort_int_none none 0 w).mono ?_
    rintro e w' ⟨rfl, rfl⟩
    exact ⟨rfl, by simpa using h, gb_refl w' _⟩
  · have hH := holds_of_blockI hg (by simpa using ht)
    have hlen : (xs.mergeSort fun x y => decide (x ≤ y)).length = xs.length := List.length_mergeSort _
    refine (Try.slices_Sort_int g 0 cap xs w hH (Array.getElem?_eq_some_iff.1 hg).1 (by omega)).mono ?_
    rintro e w' ⟨rfl, n, os, rfl⟩
    refine ⟨rfl, ?_, grownBy_sortedI _⟩
    have h1 := ownsRow_sortedI (n := n) (os := os) (base := base) (cap := cap) hlen hb hg hn hm hs
    unfold OwnI17
    rw [hlen]
    exact h1

theorem compact17_any (base : Nat) (v : Value) (xs : List Int) (w : World) (h : OwnI17 base w v xs) (hl : xs.length ≤ 1000) :
    Calls Try.prog 38 #[v] w fun e w' => ∃ v', e = .returned v' ∧ OwnI17 base w' v' (Lib.compact xs) ∧ v'.ownBlock = v.ownBlock ∧ w.grownBy w' v.ownBlock := by
  rcases h.2 with ⟨rfl, h0⟩ | ⟨g, cap, cur, rfl, hb, hg, hn, hm, hs, ht⟩
  · obtain rfl := List.eq_nil_of_length_eq_zero h0
    refine (Try.slices_Compact_int_empty none 0 w).mono ?_
    rintro e w' ⟨rfl, rfl⟩
    exact ⟨_, rfl, by simpa [Lib.compact, Lib.compactUpTo] using h, rfl, gb_refl w' _⟩
  · have hH := holds_of_blockI hg (by simpa using ht)
    have hle : (Lib.compact xs).length ≤ xs.length := Lib.compact_length_le xs
    refine (Try.slices_Compact_int g 0 cap xs w hH (by omega) hn).mono ?_
    rintro e w' ⟨rfl, q, rfl⟩
    refine ⟨_, rfl, ?_, rfl, ?_⟩
    · have h1 := Lib.ownsRow_putRow (q := q) (ys := Lib.compact xs ++ List.replicate (xs.length - (Lib.compact xs).length) 0) h (by simp; omega) hle
      rw [List.take_left] at h1
      exact h1
    · exact grownBy_sortedI (os := #[]) _

/-- Of a row that doesn't fall, each number once. -/
theorem compactUpTo_ok (d : Array Int) (hs : ∀ i j, i ≤ j → j < d.size → d[i]! ≤ d[j]!) : ∀ m, m ≤ d.size → (Lib.compactUpTo d m).Pairwise (· < ·) ∧ (∀ x ∈ Lib.compactUpTo d m, 0 < m ∧ x ≤ d[m - 1]!) ∧ ∀ x, x ∈ Lib.compactUpTo d m ↔ ∃ j, j < m ∧ d[j]! = x
  | 0, _ => by simp [Lib.compactUpTo]
  | m + 1, h => by
    obtain ⟨h1, h2, h3⟩ := compactUpTo_ok d hs m (by omega)
    rw [Lib.compactUpTo_succ]
    by_cases hk : Lib.keeps d m = true
    · rw [if_pos hk]
      have hlt : ∀ x ∈ Lib.compactUpTo d m, x < d[m]! := fun x hx => by
        obtain ⟨q1, q2⟩ := h2 x hx
        have q3 := hs (m - 1) m (by omega) (by omega)
        have q4 : d[m - 1]! ≠ d[m]! := by
          unfold Lib.keeps at hk
          simp at hk
          rcases hk with hk | hk
          · omega
          · exact fun e => hk (by first | exact e | exact e.symm)
        omega
      refine ⟨List.pairwise_append.2 ⟨h1, by simp, fun a ha b hb => by obtain rfl := List.mem_singleton.1 hb; exact hlt a ha⟩, fun x hx => ⟨by omega, ?_⟩, fun x => ?_⟩
      · rcases List.mem_append.1 hx with q | q
        · have := hlt x q; simp; omega
        · obtain rfl := List.mem_singleton.1 q; exact Int.le_refl _
      · rw [List.mem_append, List.mem_singleton, h3]
        constructor
        · rintro (⟨j, q1, q2⟩ | q)
          · exact ⟨j, by omega, q2⟩
          · exact ⟨m, by omega, q.symm⟩
        · rintro ⟨j, q1, q2⟩
          by_cases e : j = m
          · subst e; exact .inr q2.symm
          · exact .inl ⟨j, by omega, q2⟩
    · rw [if_neg hk, List.append_nil]
      have q4 : 0 < m ∧ d[m]! = d[m - 1]! := by
        unfold Lib.keeps at hk
        simp at hk
        exact ⟨by omega, by first | exact hk.2 | exact hk.2.symm⟩
      refine ⟨h1, fun x hx => ⟨by omega, ?_⟩, fun x => ?_⟩
      · have := (h2 x hx).2; simp; omega
      · rw [h3]
        constructor
        · rintro ⟨j, q1, q2⟩
          exact ⟨j, by omega, q2⟩
        · rintro ⟨j, q1, q2⟩
          by_cases e : j = m
          · subst e; exact ⟨j - 1, by omega, by rw [← q4.2]; exact q2⟩
          · exact ⟨j, by omega, q2⟩

/-- The blocks of pages, rising. -/
def blkL (L : List Fnd) : List Int := Lib.compact ((L.map (·.bk)).mergeSort fun x y => decide (x ≤ y))
theorem blkL_ok (L : List Fnd) : (blkL L).Pairwise (· < ·) ∧ (∀ x, x ∈ blkL L ↔ ∃ f ∈ L, f.bk = x) ∧ (blkL L).length ≤ L.length := by
  unfold blkL Lib.compact
  have hp : ((L.map (·.bk)).mergeSort fun x y => decide (x ≤ y)).Pairwise (fun a b => decide (a ≤ b) = true) := List.pairwise_mergeSort (fun a b c h1 h2 => by simp at *; omega) (fun a b => by simp; omega) _
  have hm : ∀ x, x ∈ ((L.map (·.bk)).mergeSort fun x y => decide (x ≤ y)) ↔ ∃ f ∈ L, f.bk = x := fun x => by rw [List.mem_mergeSort, List.mem_map]
  have hlen : ((L.map (·.bk)).mergeSort fun x y => decide (x ≤ y)).length = L.length := by rw [List.length_mergeSort, List.length_map]
  obtain ⟨zs, hz⟩ : ∃ z, ((L.map (·.bk)).mergeSort fun x y => decide (x ≤ y)) = z := ⟨_, rfl⟩
  rw [hz] at hp hm hlen ⊢
  have hs : ∀ i j, i ≤ j → j < zs.toArray.size → zs.toArray[i]! ≤ zs.toArray[j]! := fun i j hij hj => by
    have hj' : j < zs.length := by simpa using hj
    rw [getElem!_pos _ i (by simp; omega), getElem!_pos _ j hj]
    simp only [List.getElem_toArray]
    by_cases e : i = j
    · subst e; exact Int.le_refl _
    · have := List.pairwise_iff_getElem.1 hp i j (by omega) hj' (by omega)
      simpa using this
  obtain ⟨h1, _, h3⟩ := compactUpTo_ok zs.toArray hs zs.length (by simp)
  refine ⟨h1, fun x => ?_, by have := Lib.compact_length_le zs; unfold Lib.compact at this; omega⟩
  rw [h3, ← hm, List.mem_iff_getElem]
  constructor
  · rintro ⟨j, hj, e⟩
    exact ⟨j, hj, by rw [getElem!_pos _ j (by simpa using hj)] at e; simpa using e⟩
  · rintro ⟨j, hj, e⟩
    exact ⟨j, hj, by rw [getElem!_pos _ j (by simpa using hj)]; simpa using e⟩

/-- What stands while blocks are put into a row. -/
structure BksS (w0 wr : World) (lv : Value) (L : List Fnd) (k : Nat) (v : Value) : Prop where
  l : RowF wr lv L
  own : wr.ownsRow w0.heap.size 3 1 v k (((L.take k).map (·.bk)).map (Value.int .i64))
  ext : w0.grownBy wr none

set_option maxHeartbeats 1600000 in
theorem blocksOf_any (lv : Value) (L : List Fnd) (w : World) (h : RowF w lv L) (hlb : ∀ k, lv.ownBlock = some k → k < w.heap.size) (hl : L.length ≤ 1000) :
    Calls Try.prog 22 #[lv] w fun e w' => (∃ v, e = .returned v ∧ OwnI17 w.heap.size w' v (blkL L)) ∧ w.grownBy w' none := by
  obtain ⟨i0, hi, hz0, hz1, hz2⟩ := info_parts Try.infoInt
  obtain ⟨ao, cap, hv, hc0⟩ := h
  obtain ⟨n, hn⟩ : ∃ n, L.length = n := ⟨_, rfl⟩
  rw [hn] at hv hl
  obtain ⟨w1, hmk, hown1, hE1⟩ := run_make_own (P := Try.prog) w w.heap.size 26 3 i0 (.int .i64 0) 1 Try.underlying26 hi hz0 hz1 .i64 .i64 n (by rw [hz2]; omega) (by unfold maxLen; omega) (Nat.le_refl _)
  have hrow : RowF w lv L := ⟨ao, cap, by rw [hn]; exact hv, hc0⟩
  have HS := Lib.hid (show BksS w w1 lv L 0 (.slice (some ⟨w.heap.size, 0, none⟩) 0 n) from ⟨hrow.ext hE1, hown1, hE1⟩)
  subst hv
  have HN := Lib.hid (And.intro hn hlb)
  clear hn hlb hc0 hrow hown1 hE1 hi hz0 hz1 hz2
  go_enter Try.func22, Try.ntmps22
  go_wp2
  clear hmk
  go_loopw [3, 11] (fun s i wr => ∃ (k : Nat) (v : Value), k ≤ n ∧ i = .int .i64 k ∧ s = v ∧ BksS w wr (.slice ao n cap) L k v) (fun _ i _ => n - (intOf i).toNat)
  case atStart => exact ⟨0, _, by omega, rfl, rfl, HS.out⟩
  case round =>
    clear HS
    obtain ⟨k, v, hk, rfl, rfl, hS⟩ := hrel
    obtain ⟨wo, rfl⟩ : ∃ wo : World, wo = wr := ⟨_, rfl⟩
    have HS := Lib.hid hS
    obtain ⟨ro, rc, hro⟩ := owns_slice17 hS.own
    subst hro
    clear hS
    by_cases hlt : k < n
    · obtain ⟨f, hf⟩ : ∃ f, L.getD k noF = f := ⟨_, rfl⟩
      obtain ⟨ao2, cap2, hv2, hc2⟩ := HS.out.l
      obtain ⟨b, off, hao, hr⟩ := hc2 k (by rw [HN.out.1]; exact hlt)
      simp only [Value.slice.injEq] at hv2
      obtain ⟨rfl, -, -⟩ := hv2
      subst hao
      rw [hf] at hr
      have HF := Lib.hid (take17 (by rw [HN.out.1]; exact hlt) hf)
      have hBn := Blk.new wo 36 (fndC noF)
      clear hf hc2
      go_upto_region 5 with (first
        | (refine fnd_load rfl _ rfl rfl hr ?_)
        | (refine fnd_store _ _ rfl rfl rfl hBn rfl rfl ?_; intro w2 hb2 hg2 hs2; have hE2 := g17_new (World.grownBy_alloc wo _ none) hg2 (Nat.le_refl _); have HE2 := Lib.hid hE2; have d0 := (FCells.of hb2).bk; clear hBn hg2 hs2 hE2 hb2))
      clear hr
      obtain ⟨x0, hx0⟩ : ∃ z, f.bk = z := ⟨_, rfl⟩
      rw [hx0] at d0
      have HX := Lib.hid hx0
      have hown := (HS.out.own.kept HE2.out (Classical.em _)).alloc (.cells #[.int .i64 x0] 3)
      clear hx0
      go_wp2_with (at_builtin; go_loud (refine append_int17 rfl _ _ rfl w.heap.size (.slice ro k rc) ((L.take k).map (·.bk)) k (by rw [List.length_map, List.length_take, HN.out.1]; omega) rfl hown ⟨w2.heap.size, 0, none⟩ 1 x0 rfl (by simp) (by omega) (by have := HS.out.ext.size; have := HE2.out.size; simp; omega) ?_; intro v' w4 hrow' hg'; have hE4 := Lib.hid (own_alloc17 HE2.out hg'); obtain ⟨ao4, cap4, hv4⟩ := owns_slice17 hrow'; subst hv4))
      go_roundw
      case rel =>
        refine ⟨k + 1, _, by omega, by go_num, rfl, ⟨?_, ?_, ?_⟩⟩
        · exact HS.out.l.kept hE4.out (fun q hq e => by have := (HS.out.own.lt q e.symm).1; have := HN.out.2 q hq; omega)
        · rw [HF.out, List.map_append, List.map_singleton, HX.out]
          exact hrow'
        · exact own_ext17 HS.out.own HS.out.ext hE4.out (Nat.le_refl _)
      case measure => simp [intOf]; omega
    · obtain rfl : k = n := by omega
      have hown := HS.out.own
      rw [List.take_of_length_le (by rw [HN.out.1]; exact Nat.le_refl _)] at hown
      have hown : OwnI17 w.heap.size wo (.slice ro k rc) (L.map (·.bk)) := by
        unfold OwnI17
        rw [List.length_map, HN.out.1]
        exact hown
      have SRT := sort17_any w.heap.size _ _ wo hown (by rw [List.length_map, HN.out.1]; exact hl)
      have HLT := Lib.hid hown.lt
      have HLEN := Lib.hid (show ((L.map (·.bk)).mergeSort fun x y => decide (x ≤ y)).length ≤ 1000 by rw [List.length_mergeSort, List.length_map, HN.out.1]; exact hl)
      obtain ⟨zs, hzs⟩ : ∃ z, ((L.map (·.bk)).mergeSort fun x y => decide (x ≤ y)) = z := ⟨_, rfl⟩
      rw [hzs] at SRT HLEN
      have HZ := Lib.hid (show blkL L = Lib.compact zs by unfold blkL; rw [hzs])
      clear hown hzs
      go_wp2_with (first
        | (go_at_call 37; refine SRT.mono ?_; rintro e w4 ⟨rfl, ho4, hg4⟩; have CMP := compact17_any w.heap.size _ _ w4 ho4 HLEN.out; have HG4 := Lib.hid hg4; have HL4 := Lib.hid ho4.lt; clear ho4 hg4)
        | (go_at_call 38; refine CMP.mono ?_; rintro e w5 ⟨v5, rfl, ho5, _, hg5⟩; have HO5 := Lib.hid ho5; have HG5 := Lib.hid hg5; clear ho5 hg5))
      go_ret
      refine ⟨⟨_, rfl, by rw [HZ.out]; exact HO5.out⟩, ?_⟩
      have e1 := HS.out.ext
      exact ⟨(HG5.out.os.trans HG4.out.os).trans e1.os, (HG5.out.tape.trans HG4.out.tape).trans e1.tape, (HG5.out.output.trans HG4.out.output).trans e1.output, Nat.le_trans e1.size (Nat.le_trans HG4.out.size HG5.out.size), fun q hq _ =>
        ((HG5.out.block q (Nat.lt_of_lt_of_le hq (Nat.le_trans e1.size HG4.out.size)) (fun e => by have := (HL4.out q e.symm).1; omega)).trans (HG4.out.block q (Nat.lt_of_lt_of_le hq e1.size) (fun e => by have := (HLT.out q e.symm).1; omega))).trans (e1.block q hq (by simp))⟩

end Go.Proofs.Ytigfohofbpjldaa
