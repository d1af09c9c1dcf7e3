/-
  Package heal: nextSeq (the library's MaxFunc); isBetter (cmp.Compare, cmp.Or).
-/
import Derived.Test.YtigfohofbpjldaaIE
import Derived.Test.YtigfohofbpjldaaHE
namespace Go.Proofs.Ytigfohofbpjldaa
set_option linter.unusedVariables false
set_option linter.unusedSimpArgs false
set_option maxRecDepth 100000
open Go.RowKit

def cmpI (x y : Int) : Int := if x < y then -1 else if y < x then 1 else 0
theorem cmpI_is (x y : Int) : Lib.compareInt x y = cmpI x y := rfl
theorem cmpI_pos (x y : Int) : decide (0 < cmpI x y) = decide (y < x) := by
  unfold cmpI
  split
  · rw [decide_eq_false (by omega), decide_eq_false (by omega)]
  · split
    · rw [decide_eq_true (by omega), decide_eq_true (by omega)]
    · rw [decide_eq_false (by omega), decide_eq_false (by omega)]
theorem compare17_any (x y : Int) (w : World) : Calls Try.prog 44 #[.int .i64 x, .int .i64 y] w fun e w' => e = .returned (.int .i64 (cmpI x y)) ∧ w = w' :=
  (Try.cmp_Compare_int x y w).mono fun _ _ ⟨h1, h2⟩ => ⟨h1, h2.symm⟩

/-- Two pages' Seqs. -/
theorem nextSeq1_any (f g : Fnd) (w : World) : Calls Try.prog 46 #[.agg (fndC f), .agg (fndC g)] w fun e w' => e = .returned (.int .i64 (cmpI f.sq g.sq)) ∧ w.grownBy w' none := by
  have hE := World.grownBy_alloc w (.cells (fndC f) 36) none
  have hE2 := World.grownBy_alloc (w.alloc (.cells (fndC f) 36)) (.cells (fndC g) 36) none
  have c1 := (FCells.of ((Blk.new w 36 (fndC f)).ext hE2)).sq
  have c2 := (FCells.of (Blk.new (w.alloc (.cells (fndC f) 36)) 36 (fndC g))).sq
  rw [show (w.alloc (.cells (fndC f) 36)).heap.size = w.heap.size + 1 by simp] at c2
  have CMP := fun wx => compare17_any f.sq g.sq wx
  obtain ⟨x, hx⟩ : ∃ z, f.sq = z := ⟨_, rfl⟩
  obtain ⟨y, hy⟩ : ∃ z, g.sq = z := ⟨_, rfl⟩
  rw [hx] at c1 CMP ⊢
  rw [hy] at c2 CMP ⊢
  obtain ⟨r, hr⟩ : ∃ z, cmpI x y = z := ⟨_, rfl⟩
  rw [hr] at CMP ⊢
  have HE := Lib.hid (ext_trans hE hE2)
  clear hE hE2 hx hy hr
  go_enter Try.func46, Try.ntmps46
  go_wp2_with (go_at_call 44; refine (CMP _).mono ?_; rintro e w3 ⟨rfl, rfl⟩)
  go_ret
  exact ⟨rfl, HE.out⟩

/-- What is read of pages in a loop. -/
def MaxR (b off k gb : Nat) (f m : Fnd) (w : World) : Prop := w.rangeAt b (off + k * 10) (fndC f).toList ∧ w.rangeAt gb 0 (fndC m).toList
structure MaxS (w0 wr : World) (rb gb : Nat) (lv : Value) (L : List Fnd) (k : Nat) (m : Fnd) : Prop where
  l : RowF wr lv L
  res : Blk wr rb 36 (fndC noF)
  best : Blk wr gb 36 (fndC m)
  mem : m ∈ L
  top : ∀ f ∈ L.take k, f.sq ≤ m.sq
  r0 : w0.heap.size ≤ rb
  rg : rb < gb
  lb : ∀ k, lv.ownBlock = some k → k < w0.heap.size
  ext : w0.grownBy wr none
theorem MaxS.next {w0 wr w' : World} {rb gb : Nat} {lv : Value} {L : List Fnd} {k : Nat} {m : Fnd} (h : MaxS w0 wr rb gb lv L k m) (hE : wr.grownBy w' none) : MaxS w0 w' rb gb lv L k m :=
  ⟨h.l.ext hE, h.res.ext hE, h.best.ext hE, h.mem, h.top, h.r0, h.rg, h.lb, ext_trans h.ext hE⟩
theorem MaxS.put {w0 wr w' : World} {rb gb : Nat} {lv : Value} {L : List Fnd} {k : Nat} {m f : Fnd} (h : MaxS w0 wr rb gb lv L k m) (hf : f ∈ L) (hk : L.take (k + 1) = L.take k ++ [f]) (hlt : m.sq < f.sq) (hb : Blk w' gb 36 (fndC f)) (hg : wr.grownBy w' (some gb)) : MaxS w0 w' rb gb lv L (k + 1) f := by
  have h1 := h.r0
  have h2 := h.rg
  refine ⟨h.l.kept hg (fun q hq e => by have := h.lb q hq; injection e with e; omega), h.res.kept hg (fun e => by injection e with e; omega), hb, hf, fun g hgm => ?_, h.r0, h.rg, h.lb, g17_new h.ext hg (by omega)⟩
  rw [hk] at hgm
  rcases List.mem_append.1 hgm with q | q
  · have := h.top g q; omega
  · obtain rfl := List.mem_singleton.1 q; exact Int.le_refl _
theorem MaxS.skip {w0 wr w' : World} {rb gb : Nat} {lv : Value} {L : List Fnd} {k : Nat} {m f : Fnd} (h : MaxS w0 wr rb gb lv L k m) (hk : L.take (k + 1) = L.take k ++ [f]) (hlt : ¬ m.sq < f.sq) (hE : wr.grownBy w' none) : MaxS w0 w' rb gb lv L (k + 1) m := by
  have h1 := h.next hE
  refine ⟨h1.l, h1.res, h1.best, h1.mem, fun g hgm => ?_, h1.r0, h1.rg, h1.lb, h1.ext⟩
  rw [hk] at hgm
  rcases List.mem_append.1 hgm with q | q
  · exact h.top g q
  · obtain rfl := List.mem_singleton.1 q; omega

set_option maxHeartbeats 1600000 in
theorem maxFunc17_any (lv : Value) (L : List Fnd) (w : World) (h : RowF w lv L) (hlb : ∀ k, lv.ownBlock = some k → k < w.heap.size) (hl : L.length ≤ 1000) (h0 : 0 < L.length) :
    Calls Try.prog 45 #[lv, .func (.func 46) #[] #[]] w fun e w' => (∃ m, e = .returned (.agg (fndC m)) ∧ m ∈ L ∧ ∀ f ∈ L, f.sq ≤ m.sq) ∧ w.grownBy w' none := by
  have H0 := Lib.hid (And.intro h hlb)
  obtain ⟨ao, cap, hv, hc0⟩ := h
  obtain ⟨b, off, rfl, hr0⟩ := hc0 0 h0
  obtain ⟨n, hn⟩ : ∃ n, L.length = n := ⟨_, rfl⟩
  rw [hn] at hv hl h0
  subst hv
  have HN := Lib.hid hn
  have hE0 := World.grownBy_alloc w (.cells (fndC noF) 36) none
  have hE1 := World.grownBy_alloc (w.alloc (.cells (fndC noF) 36)) (.cells (fndC noF) 36) none
  have HR := Lib.hid ((Blk.new w 36 (fndC noF)).ext hE1)
  have hBn := Blk.new (w.alloc (.cells (fndC noF) 36)) 36 (fndC noF)
  have HE1 := Lib.hid (ext_trans hE0 hE1)
  have hs1 : (w.alloc (.cells (fndC noF) 36)).heap.size = w.heap.size + 1 := by simp
  rw [hs1] at hBn
  obtain ⟨m0, hm0⟩ : ∃ f, L.getD 0 noF = f := ⟨_, rfl⟩
  have hr1 : (w.alloc (.cells (fndC noF) 36)).rangeAt b off (fndC m0).toList := fun j u hj => hE0.cell (by have := hr0 j u (by rw [hm0]; exact hj); simpa using this) (by simp)
  have HM0 := Lib.hid hm0
  have hlt0 : decide (n < 1) = false := decide_eq_false (by omega)
  clear hn hlb hc0 hr0 hE0 hE1 hs1 hm0
  go_enter Try.func45, Try.ntmps45
  go_upto_region 4 with (first
    | (refine fnd_load rfl _ rfl rfl hr1 ?_)
    | (refine fnd_store _ _ rfl rfl rfl hBn rfl rfl ?_; intro w2 hb2 hg2 hs2; have HB2 := Lib.hid hb2; have HG2 := Lib.hid hg2; clear hBn hg2 hs2 hb2))
  clear hr1 hlt0
  have HS := Lib.hid (show MaxS w w2 w.heap.size (w.heap.size + 1) (.slice (some ⟨b, off, none⟩) n cap) L 1 m0 from by
    have hE2 : w.grownBy w2 none := g17_new HE1.out HG2.out (by omega)
    refine ⟨H0.out.1.ext hE2, HR.out.kept HG2.out (fun e => by injection e with e; omega), HB2.out, getD_mem17 (by rw [HN.out]; omega) HM0.out, fun f hf => ?_, Nat.le_refl _, by omega, H0.out.2, hE2⟩
    rw [take17 (by rw [HN.out]; omega) HM0.out] at hf
    obtain rfl := List.mem_singleton.1 (by simpa using hf)
    exact Int.le_refl _)
  obtain ⟨rb, hrb⟩ : ∃ z, w.heap.size = z := ⟨_, rfl⟩
  rw [hrb] at HS
  have HRB := Lib.hid hrb
  clear HB2 HG2 HR HM0 HE1
  go_wp2
  clear hrb
  go_loopw [6] (fun i wr => ∃ (k : Nat) (m : Fnd), 1 ≤ k ∧ k ≤ n ∧ i = .int .i64 k ∧ MaxS w wr rb (rb + 1) (.slice (some ⟨b, off, none⟩) n cap) L k m) (fun i _ => n - (intOf i).toNat)
  case atStart => exact ⟨1, _, by omega, by omega, rfl, HS.out⟩
  case round =>
    clear HS
    obtain ⟨k, m, hk1, hk, rfl, hS⟩ := hrel
    obtain ⟨wo, rfl⟩ : ∃ wo : World, wo = wr := ⟨_, rfl⟩
    have HS := Lib.hid hS
    clear hS
    by_cases hlt : k < n
    · obtain ⟨f, hf⟩ : ∃ f, L.getD k noF = f := ⟨_, rfl⟩
      obtain ⟨ao2, cap2, hv2, hc2⟩ := HS.out.l
      obtain ⟨b2, off2, hao, hr⟩ := hc2 k (by rw [HN.out]; exact hlt)
      simp only [Value.slice.injEq] at hv2
      obtain ⟨rfl, -, -⟩ := hv2
      simp only [Option.some.injEq, Addr.mk.injEq, and_true] at hao
      obtain ⟨rfl, rfl⟩ := hao
      rw [hf] at hr
      have HF := Lib.hid (take17 (by rw [HN.out]; exact hlt) hf)
      have HME := Lib.hid (getD_mem17 (by rw [HN.out]; exact hlt) hf)
      have hS : MaxR b off k (rb + 1) f m wo.drew := ⟨hr, HS.out.best.range17⟩
      have CMP := fun wx => nextSeq1_any f m wx
      obtain ⟨r, hrr⟩ : ∃ z, cmpI f.sq m.sq = z := ⟨_, rfl⟩
      rw [hrr] at CMP
      have hpos := cmpI_pos f.sq m.sq
      rw [hrr] at hpos
      obtain ⟨z, hz⟩ : ∃ z, decide (0 < r) = z := ⟨_, rfl⟩
      rw [hz] at hpos
      have HP := Lib.hid hpos
      clear hf hc2 hr hrr hpos
      go_upto_region 7 with fail
      refine region_line [(0, true), (1, true), (2, true), (3, true), (4, true), (5, true), (6, false), (7, true)] (MaxR b off k (rb + 1) f m) (by kernel_rfl) (by kernel_rfl) (fun _ _ _ d _ h => by cases d <;> exact h) hS ?_
      iterate 4 (refine line_read (a' := ?_) rfl (by kernel_rfl) (by kernel_rfl) hS (fun z0 hx K hK => ?_) ?_; rotate_left; · (obtain ⟨d1, d2⟩ := hx; go_wp2; exact hK))
      refine line_read (a' := ?_) rfl (by kernel_rfl) (by kernel_rfl) hS (fun z0 hx K hK => ?_) ?_
      rotate_left
      · obtain ⟨d1, d2⟩ := hx
        refine fnd_load rfl _ rfl rfl d1 ?_
        go_wp2
        exact hK
      refine line_read (a' := ?_) rfl (by kernel_rfl) (by kernel_rfl) hS (fun z0 hx K hK => ?_) ?_
      rotate_left
      · obtain ⟨d1, d2⟩ := hx
        refine fnd_load rfl _ rfl rfl d2 ?_
        go_wp2
        exact hK
      refine line_act (by rfl) (fun K hK => ?_)
      go_wp2_with (go_at_call 46; refine (CMP _).mono ?_; rintro e w3 ⟨rfl, hE3⟩; have HS3 := Lib.hid ((HS.out.next (Ext.drew wo)).next hE3); have HE3 := Lib.hid hE3; clear hE3)
      have hS3 : MaxR b off k (rb + 1) f m w3 := ⟨fun j u hj => HE3.out.cell (hS.1 j u hj) (by simp), HS3.out.best.range17⟩
      refine hK _ _ (MaxR b off k (rb + 1) f m) hS3 (fun x hx => hx) ?_
      clear hK K CMP hS
      refine line_read (a' := ?_) rfl (by kernel_rfl) (by kernel_rfl) hS3 (fun z0 hx K hK => ?_) ?_
      rotate_left
      · obtain ⟨d1, d2⟩ := hx
        go_wp2
        exact hK
      refine line_end ?_
      have hr3 := hS3.1
      have hb3 := HS3.out.best
      clear hS3
      cases z
      · clear hr3 hb3
        go_wp2
        go_roundw
        case rel => exact ⟨k + 1, m, by omega, by omega, by go_num, HS3.out.skip HF.out (of_decide_eq_false HP.out.symm) (Ext.refl _)⟩
        case measure => simp [intOf]; omega
      · go_wp2_with (first
          | (refine fnd_load rfl _ rfl rfl hr3 ?_)
          | (refine fnd_store _ _ rfl rfl rfl hb3 rfl rfl ?_; intro w4 hb4 hg4 hs4; have HS4 := Lib.hid (HS3.out.put HME.out HF.out (of_decide_eq_true HP.out.symm) hb4 hg4); clear hb4 hg4 hs4))
        go_roundw
        case rel => exact ⟨k + 1, f, by omega, by omega, by go_num, HS4.out⟩
        case measure => simp [intOf]; omega
    · obtain rfl : k = n := by omega
      have hb3 := HS.out.best
      have hr3 := HS.out.res
      go_wp2_with (first
        | (refine fnd_load rfl _ rfl rfl hb3.range17 ?_)
        | (refine fnd_store _ _ rfl rfl rfl hr3 rfl rfl ?_; intro w6 hb6 hg6 hs6))
      refine bodyPost_ret (v := .agg (fndC m)) (results_cell_row rfl _ _ rb _ _ (0, 0) _ rfl hb6 Try.underlying36 rfl Try.sizeFnd) rfl ?_
      have htop := HS.out.top
      rw [List.take_of_length_le (by rw [HN.out]; exact Nat.le_refl _)] at htop
      exact ⟨⟨m, rfl, HS.out.mem, htop⟩, g17_new HS.out.ext hg6 HS.out.r0⟩

/-- One more than the greatest Seq. -/
def NxtP (L : List Fnd) (q : Int) : Prop := (L = [] ∧ q = 0) ∨ ∃ m ∈ L, q = m.sq + 1 ∧ ∀ f ∈ L, f.sq ≤ m.sq
set_option maxHeartbeats 800000 in
theorem nextSeq17_any (lv : Value) (L : List Fnd) (w : World) (h : RowF w lv L) (hlb : ∀ k, lv.ownBlock = some k → k < w.heap.size) (hl : L.length ≤ 1000) (hsq : ∀ f ∈ L, 0 ≤ f.sq ∧ f.sq ≤ 2147483647) :
    Calls Try.prog 26 #[lv] w fun e w' => (∃ q, e = .returned (.int .i64 q) ∧ NxtP L q) ∧ w.grownBy w' none := by
  by_cases h0 : L.length = 0
  · obtain rfl := List.eq_nil_of_length_eq_zero h0
    obtain ⟨ao, cap, rfl, hc0⟩ := h
    clear hc0 hlb hl hsq h0
    go_enter Try.func26, Try.ntmps26
    go_wp2
    go_ret
    exact ⟨⟨_, rfl, .inl ⟨rfl, rfl⟩⟩, Ext.refl _⟩
  · have MAX := maxFunc17_any lv L w h hlb hl (by omega)
    obtain ⟨ao, cap, hv, hc0⟩ := h
    obtain ⟨n, hn⟩ : ∃ n, L.length = n := ⟨_, rfl⟩
    rw [hn] at hv h0
    subst hv
    have hne : ((n : Int) == 0) = false := by simp; omega
    have HQ := Lib.hid hsq
    clear hc0 hlb hl hn hsq h0
    go_enter Try.func26, Try.ntmps26
    go_upto_region 4 with (first
      | (go_at_call 45; refine MAX.mono ?_; rintro e w1 ⟨⟨m, rfl, hm, htop⟩, hE1⟩; have HM := Lib.hid (And.intro hm htop); have HE1 := Lib.hid hE1; have hBn := Blk.new w1 36 (fndC noF); clear hm htop hE1)
      | (refine fnd_store _ _ rfl rfl rfl hBn rfl rfl ?_; intro w2 hb2 hg2 hs2; have HE2 := Lib.hid (ext_trans HE1.out (g17_new (World.grownBy_alloc w1 _ none) hg2 (Nat.le_refl _))); have d6 := (FCells.of hb2).sq; clear hBn hg2 hs2 hb2))
    have hq := HQ.out m HM.out.1
    obtain ⟨x, hx⟩ : ∃ z, m.sq = z := ⟨_, rfl⟩
    rw [hx] at d6 hq
    have HX := Lib.hid hx
    clear hx MAX hne
    go_wp2
    go_ret
    refine ⟨⟨x + 1, by go_num, .inr ⟨m, HM.out.1, by rw [HX.out], HM.out.2⟩⟩, HE2.out⟩

theorem nxt_is (B tn ep : Int) (L : List Fnd) (hok : OkL L) (q : Int) (h : NxtP ((L.filter (witB B)).filter (mineF tn ep)) q) : q = seqN B tn ep L := by
  have hin : ∀ f, f ∈ (L.filter (witB B)).filter (mineF tn ep) ↔ f ∈ L ∧ inB B tn ep f = true := fun f => by
    simp only [List.mem_filter, witB, inB, Bool.and_eq_true]
    constructor
    · rintro ⟨⟨h1, h2, h3⟩, h4⟩; exact ⟨h1, h2, h3, h4⟩
    · rintro ⟨h1, h2, h3, h4⟩; exact ⟨⟨h1, h2, h3⟩, h4⟩
  have hs : ∀ (L : List Fnd) (x : Int), (∀ y, x ≤ y → (∀ f ∈ L, inB B tn ep f = true → f.sq + 1 ≤ y) → L.foldl (seqStep B tn ep) x ≤ y) := by
    intro L
    induction L with
    | nil => intro x y hxy _; exact hxy
    | cons f L ih =>
      intro x y hxy hy
      refine ih _ y ?_ (fun g hg => hy g (by simp [hg]))
      unfold seqStep
      split
      · rename_i hc
        simp only [Bool.and_eq_true] at hc
        exact hy f (by simp) hc.1
      · exact hxy
  have hg : ∀ (L : List Fnd) (x : Int), x ≤ L.foldl (seqStep B tn ep) x ∧ ∀ f ∈ L, inB B tn ep f = true → f.sq + 1 ≤ L.foldl (seqStep B tn ep) x := by
    intro L
    induction L with
    | nil => intro x; exact ⟨Int.le_refl _, fun f hf => by cases hf⟩
    | cons f L ih =>
      intro x
      obtain ⟨h1, h2⟩ := ih (seqStep B tn ep x f)
      have h3 : x ≤ seqStep B tn ep x f ∧ (inB B tn ep f = true → f.sq + 1 ≤ seqStep B tn ep x f) := by
        unfold seqStep
        cases hi : inB B tn ep f
        · simp
        · by_cases hc : x < f.sq + 1
          · rw [decide_eq_true hc]; simp; omega
          · rw [decide_eq_false hc]; simp; omega
      refine ⟨Int.le_trans h3.1 h1, fun g hgm hgi => ?_⟩
      rcases List.mem_cons.1 hgm with rfl | hgm
      · exact Int.le_trans (h3.2 hgi) h1
      · exact h2 g hgm hgi
  rcases h with ⟨h1, rfl⟩ | ⟨m, hm, rfl, htop⟩
  · refine Int.le_antisymm (hg L 0).1 (hs L 0 0 (Int.le_refl _) (fun f hf hi => ?_))
    have : f ∈ (L.filter (witB B)).filter (mineF tn ep) := (hin f).2 ⟨hf, hi⟩
    rw [h1] at this
    cases this
  · obtain ⟨m1, m2⟩ := (hin m).1 hm
    have hm0 := okB_sq (hok m m1 (mine_torn (tn := tn) (ep := ep) (by unfold inB at m2; simp only [Bool.and_eq_true] at m2; exact m2.2.2)))
    refine Int.le_antisymm ((hg L 0).2 m m1 m2) (hs L 0 _ (by omega) (fun f hf hi => ?_))
    have := htop f ((hin f).2 ⟨hf, hi⟩)
    omega

end Go.Proofs.Ytigfohofbpjldaa
