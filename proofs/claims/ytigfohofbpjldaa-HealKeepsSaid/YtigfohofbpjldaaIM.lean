/-
  Package heal: leaving.
-/
import Derived.Test.YtigfohofbpjldaaIL
namespace Go.Proofs.Ytigfohofbpjldaa
set_option linter.unusedVariables false
set_option linter.unusedSimpArgs false
set_option maxRecDepth 100000
open Go.RowKit Go.Maps

/-- Where things lie. -/
structure LvW (w0 : World) (lv rv : Value) (mb tb hb : Nat) : Prop where
  lb : ∀ k, lv.ownBlock = some k → k < w0.heap.size
  rb : ∀ k, rv.ownBlock = some k → k < w0.heap.size
  h0 : w0.heap.size ≤ mb
  h1 : mb < tb
  h2 : tb < hb
/-- What stands while places are put under blocks. -/
structure Lv1S (w0 wr : World) (tb mb hb : Nat) (lv rv : Value) (A : List Fnd) (row : List Int) (k : Nat) (hm : Int → Option Hdr) : Prop where
  l : RowF wr lv A
  r : Ints wr rv row
  tc : Blk wr tb 58 #[.map (some mb)]
  m : TopsM wr mb 1000 (topsF A)
  h : HeldS wr hb k hm (heldF (A.take k) (topsF A))
  ext : w0.grownBy wr none
theorem Lv1S.next {w0 wr w' : World} {tb mb hb : Nat} {lv rv : Value} {A : List Fnd} {row : List Int} {k : Nat} {hm : Int → Option Hdr} (h : Lv1S w0 wr tb mb hb lv rv A row k hm) (hE : wr.grownBy w' none) : Lv1S w0 w' tb mb hb lv rv A row k hm :=
  ⟨h.l.ext hE, h.r.kept hE (by simp), h.tc.ext hE, h.m.ext hE, h.h.ext hE, ext_trans h.ext hE⟩
theorem Lv1S.put {w0 wr w7 w8 : World} {tb mb hb : Nat} {lv rv : Value} {A : List Fnd} {row : List Int} {k : Nat} {hm : Int → Option Hdr} (h : Lv1S w0 wr tb mb hb lv rv A row k hm) (W : LvW w0 lv rv mb tb hb) {f : Fnd} (hk : A.take (k + 1) = A.take k ++ [f]) (hz : (f.sq == ((topsF A f.pl).getD noT).1) = true)
    {hd : Hdr} (ho7 : OwnI17 (hb + 1) w7 (hdV hd) (heldF (A.take k) (topsF A) f.bk ++ [f.pl])) (hg7 : wr.grownBy w7 (hdV ((hm f.bk).getD nilH)).ownBlock) (hloc : (hdV hd).ownBlock = (hdV ((hm f.bk).getD nilH)).ownBlock ∨ ∃ q, (hdV hd).ownBlock = some q ∧ wr.heap.size ≤ q)
    (hm8 : HdrM w8 hb (k + 1) (updX hm f.bk hd)) (hg8 : w7.grownBy w8 (some hb)) : Lv1S w0 w8 tb mb hb lv rv A row (k + 1) (updX hm f.bk hd) := by
  have a0 := W.h0
  have a1 := W.h1
  have a2 := W.h2
  have hlow : ∀ q, (hdV ((hm f.bk).getD nilH)).ownBlock = some q → hb < q := fun q hq => ((h.h.own f.bk).lt q hq).1
  have n7 : ∀ q, q ≤ hb → some q ≠ (hdV ((hm f.bk).getD nilH)).ownBlock := fun q hq e => by have := hlow q e.symm; omega
  refine ⟨(h.l.kept hg7 (fun q hq => n7 q (by have := W.lb q hq; omega))).kept hg8 (fun q hq e => by have := W.lb q hq; injection e with e; omega), (h.r.kept hg7 (fun q hq => n7 q (by have := W.rb q hq; omega))).kept hg8 (fun q hq e => by have := W.rb q hq; injection e with e; omega), (h.tc.kept hg7 (n7 tb (by omega))).kept hg8 (fun e => by injection e with e; omega), (h.m.kept hg7 (n7 mb (by omega))).kept hg8 (fun e => by injection e with e; omega), ?_, ?_⟩
  · rw [hk, heldF_snoc, if_pos hz]
    exact h.h.put hg7 ho7 hloc hm8 hg8
  · have e1 := h.ext
    exact ⟨(hg8.os.trans hg7.os).trans e1.os, (hg8.tape.trans hg7.tape).trans e1.tape, (hg8.output.trans hg7.output).trans e1.output, Nat.le_trans e1.size (Nat.le_trans hg7.size hg8.size), fun q hq _ =>
      ((hg8.block q (Nat.lt_of_lt_of_le hq (Nat.le_trans e1.size hg7.size)) (fun e => by injection e with e; omega)).trans (hg7.block q (Nat.lt_of_lt_of_le hq e1.size) (n7 q (by omega)))).trans (e1.block q hq (by simp))⟩
theorem Lv1S.skip {w0 wr : World} {tb mb hb : Nat} {lv rv : Value} {A : List Fnd} {row : List Int} {k : Nat} {hm : Int → Option Hdr} (h : Lv1S w0 wr tb mb hb lv rv A row k hm) {f : Fnd} (hk : A.take (k + 1) = A.take k ++ [f]) (hz : (f.sq == ((topsF A f.pl).getD noT).1) = false) : Lv1S w0 wr tb mb hb lv rv A row (k + 1) hm :=
  ⟨h.l, h.r, h.tc, h.m, by rw [hk, heldF_snoc, if_neg (by rw [hz]; decide)]; exact h.h.mono (by omega), h.ext⟩

/-- What stands while blocks leave. -/
structure Lv2S (w0 w5 wr : World) (tb mb hb : Nat) (rv gv : Value) (A : List Fnd) (row : List Int) (hm : Int → Option Hdr) (N : Nat) (M : Int → Option TopT) (out : List Int) : Prop where
  r : Ints wr rv row
  tc : Blk wr tb 58 #[.map (some mb)]
  m : TopsM wr mb N M
  h : HdrM wr hb 1000 hm
  hi : ∀ b, Ints wr (hdV ((hm b).getD nilH)) (heldF A (topsF A) b)
  own : OwnI17 w5.heap.size wr gv out
  ext : w0.grownBy wr none
  sz : w5.heap.size ≤ wr.heap.size
theorem Lv2S.next {w0 w5 wr w' : World} {tb mb hb : Nat} {rv gv : Value} {A : List Fnd} {row : List Int} {hm : Int → Option Hdr} {N : Nat} {M : Int → Option TopT} {out : List Int} (h : Lv2S w0 w5 wr tb mb hb rv gv A row hm N M out) (hE : wr.grownBy w' none) : Lv2S w0 w5 w' tb mb hb rv gv A row hm N M out :=
  ⟨h.r.kept hE (by simp), h.tc.ext hE, h.m.ext hE, h.h.ext hE, fun b => (h.hi b).kept hE (by simp), h.own.kept hE (Classical.em _), ext_trans h.ext hE, Nat.le_trans h.sz hE.size⟩
/-- Where things lie, behind. -/
structure LvV (w0 w5 : World) (hm : Int → Option Hdr) (hb : Nat) : Prop where
  s : w0.heap.size ≤ w5.heap.size
  hb5 : hb < w5.heap.size
  rows : ∀ b k, (hdV ((hm b).getD nilH)).ownBlock = some k → hb < k ∧ k < w5.heap.size
theorem Lv2S.goes {w0 w5 wr w' : World} {tb mb hb : Nat} {lv rv gv gv' : Value} {A : List Fnd} {row : List Int} {hm : Int → Option Hdr} {N : Nat} {M : Int → Option TopT} {out out' : List Int} (h : Lv2S w0 w5 wr tb mb hb rv gv A row hm N M out) (W : LvW w0 lv rv mb tb hb) (V : LvV w0 w5 hm hb)
    (hg : wr.grownBy w' gv.ownBlock) (ho : OwnI17 w5.heap.size w' gv' out') : Lv2S w0 w5 w' tb mb hb rv gv' A row hm N M out' := by
  have a0 := W.h0
  have a1 := W.h1
  have a2 := W.h2
  have a3 := V.s
  have a4 := V.hb5
  have nn : ∀ q, q < w5.heap.size → some q ≠ gv.ownBlock := fun q hq e => by have := (h.own.lt q e.symm).1; omega
  exact ⟨h.r.kept hg (fun q hq => nn q (by have := W.rb q hq; omega)), h.tc.kept hg (nn tb (by omega)), h.m.kept hg (nn mb (by omega)), h.h.kept hg (nn hb a4), fun b => (h.hi b).kept hg (fun q hq => nn q (V.rows b q hq).2), ho, own_ext17 h.own h.ext hg a3, Nat.le_trans h.sz hg.size⟩
theorem Lv2S.mark {w0 w5 wr w' : World} {tb mb hb : Nat} {lv rv gv : Value} {A : List Fnd} {row : List Int} {hm : Int → Option Hdr} {N N' : Nat} {M M' : Int → Option TopT} {out : List Int} (h : Lv2S w0 w5 wr tb mb hb rv gv A row hm N M out) (W : LvW w0 lv rv mb tb hb) (V : LvV w0 w5 hm hb)
    (hg : wr.grownBy w' (some mb)) (hM : TopsM w' mb N' M') : Lv2S w0 w5 w' tb mb hb rv gv A row hm N' M' out := by
  have a0 := W.h0
  have a1 := W.h1
  have a2 := W.h2
  have a4 := V.hb5
  have a3 := V.s
  exact ⟨h.r.kept hg (fun q hq e => by have := W.rb q hq; injection e with e; omega), h.tc.kept hg (fun e => by injection e with e; omega), hM, h.h.kept hg (fun e => by injection e with e; omega), fun b => (h.hi b).kept hg (fun q hq e => by have := (V.rows b q hq).1; injection e with e; omega), h.own.kept hg (own_dis fun q hq e => by have := (h.own.lt q hq).1; injection e with e; omega), g17_new h.ext hg a0, Nat.le_trans h.sz hg.size⟩

theorem lvN_len0 (A : List Fnd) (m0 : Int → Option TopT) : ∀ (l : List Int) (st : List Int × (Int → Option TopT)), (l.foldl (lvStep A m0) st).1.length ≤ st.1.length + l.length
  | [], st => by simp
  | b :: l, st => by
    have h1 := lvN_len0 A m0 l (lvStep A m0 st b)
    have h2 : (lvStep A m0 st b).1.length ≤ st.1.length + 1 := by
      unfold lvStep
      split
      · simp
      · simp
    rw [List.foldl_cons, List.length_cons]
    omega
theorem lvN_len (A : List Fnd) (l : List Int) : (lvN A l).1.length ≤ l.length := by
  have := lvN_len0 A (topsF A) l ([], topsF A)
  unfold lvN
  simpa using this
/-- What is read of a page. -/
def BkR (fb : Nat) (x0 x5 : Int) (w : World) : Prop := w.cell? ⟨fb, 0, none⟩ = some (.int .i64 x0) ∧ w.cell? ⟨fb, 5, none⟩ = some (.int .i64 x5)

set_option maxHeartbeats 3200000 in
theorem leaving_any (lv rv : Value) (A : List Fnd) (row : List Int) (w : World) (h : RowF w lv A) (hr : Ints w rv row) (hlb : ∀ k, lv.ownBlock = some k → k < w.heap.size) (hrb : ∀ k, rv.ownBlock = some k → k < w.heap.size) (hl : A.length ≤ 1000) (hrl : row.length ≤ 1000)
    (hok : ∀ f ∈ A, okI f.pl ∧ okI f.bk) (hokr : ∀ x ∈ row, okI x) :
    Calls Try.prog 21 #[rv, lv] w fun e w' => (∃ v, e = .returned v ∧ OwnI17 w.heap.size w' v (lvN A row).1) ∧ w.grownBy w' none := by
  have TOPS := topsOf_any lv A w h hlb hl (fun f hf => (hok f hf).1)
  have hmm := @run_makeMap Try.prog
  have H0 := Lib.hid (And.intro h (And.intro hr (And.intro hlb hrb)))
  obtain ⟨ao, cap, hv, _⟩ := h
  obtain ⟨n, hn⟩ : ∃ n, A.length = n := ⟨_, rfl⟩
  rw [hn] at hv hl
  subst hv
  obtain ⟨ro, rc, rbk, roff, hrv, _⟩ := hr.form
  obtain ⟨nr, hnr⟩ : ∃ n, row.length = n := ⟨_, rfl⟩
  rw [hnr] at hrv hrl
  subst hrv
  have HN := Lib.hid (And.intro hn (And.intro hnr (And.intro hok hokr)))
  clear hn hnr hok hokr hlb hrb hr
  go_enter Try.func21, Try.ntmps21
  go_upto_region 3 with (first
    | (go_at_call 34; refine TOPS.mono ?_; rintro e w1 ⟨⟨mb, rfl, hm1, hmb⟩, hE1⟩; have HM1 := Lib.hid (And.intro hm1 hmb); have HE1 := Lib.hid hE1; obtain ⟨w3, hw3⟩ : ∃ v, (w1.alloc (.cells #[.map (some mb)] 58)).alloc (.map #[] 0) = v := ⟨_, rfl⟩; clear hm1 hmb hE1))
  clear hmm TOPS
  have HS := Lib.hid (show Lv1S w w3 w1.heap.size mb (w1.heap.size + 1) (.slice ao n cap) (.slice ro nr rc) A row 0 (fun _ => none) ∧ LvW w (.slice ao n cap) (.slice ro nr rc) mb w1.heap.size (w1.heap.size + 1) from by
    have hA := World.grownBy_alloc w1 (.cells #[.map (some mb)] 58) none
    have hB := World.grownBy_alloc (w1.alloc (.cells #[.map (some mb)] 58)) (.map #[] 0) none
    have hE3 : w1.grownBy w3 none := by rw [← hw3]; exact ext_trans hA hB
    have hE : w.grownBy w3 none := ext_trans HE1.out hE3
    have hs : (w1.alloc (.cells #[.map (some mb)] 58)).heap.size = w1.heap.size + 1 := by simp
    have hmade := HeldS.made (w1.alloc (.cells #[.map (some mb)] 58))
    rw [hs, hw3] at hmade
    exact ⟨⟨H0.out.1.ext hE, H0.out.2.1.kept hE (by simp), by rw [← hw3]; exact (Blk.new w1 _ _).ext hB, HM1.out.1.ext hE3, hmade, hE⟩, ⟨H0.out.2.2.1, H0.out.2.2.2, HM1.out.2, HM1.out.1.lt, Nat.lt_succ_self _⟩⟩)
  obtain ⟨tb, htb⟩ : ∃ z, w1.heap.size = z := ⟨_, rfl⟩
  rw [htb] at HS
  go_wp2
  try rw [htb]
  obtain ⟨hb, hhb⟩ : ∃ z, tb + 1 = z := ⟨_, rfl⟩
  rw [hhb] at HS
  try rw [hhb]
  have HW := Lib.hid HS.out.2
  have HS := Lib.hid HS.out.1
  clear hw3 HM1 HE1 H0 htb hhb
  go_loopw [21] (fun i wr => ∃ (k : Nat) (hm : Int → Option Hdr), k ≤ n ∧ i = .int .i64 k ∧ Lv1S w wr tb mb hb (.slice ao n cap) (.slice ro nr rc) A row k hm) (fun i _ => n - (intOf i).toNat)
  case atStart => exact ⟨0, _, by omega, rfl, HS.out⟩
  case round =>
    clear HS
    obtain ⟨k, hm, hk, rfl, hS⟩ := hrel
    obtain ⟨wo, rfl⟩ : ∃ wo : World, wo = wr := ⟨_, rfl⟩
    have HS := Lib.hid hS
    clear hS
    by_cases hlt : k < n
    · obtain ⟨f, hf⟩ : ∃ f, A.getD k noF = f := ⟨_, rfl⟩
      obtain ⟨ao2, cap2, hv2, hc2⟩ := HS.out.l
      obtain ⟨b, off, hao, hr⟩ := hc2 k (by rw [HN.out.1]; exact hlt)
      simp only [Value.slice.injEq] at hv2
      obtain ⟨rfl, -, -⟩ := hv2
      subst hao
      rw [hf] at hr
      have HF := Lib.hid (take17 (by rw [HN.out.1]; exact hlt) hf)
      have HOK := Lib.hid (HN.out.2.2.1 f (getD_mem17 (by rw [HN.out.1]; exact hlt) hf))
      have hBn := Blk.new wo 36 (fndC noF)
      clear hf hc2
      obtain ⟨fb, hfb⟩ : ∃ v, wo.heap.size = v := ⟨_, rfl⟩
      rw [hfb] at hBn
      have HFB := Lib.hid hfb
      go_upto_region 6 with (first
        | (refine fnd_load rfl _ rfl rfl hr ?_)
        | (refine fnd_store _ _ rfl rfl rfl hBn rfl rfl ?_; intro w2 hb2 hg2 hs2; have hE2 := g17_new (World.grownBy_alloc wo _ none) hg2 (by omega); have HE2 := Lib.hid hE2; have HS2 := Lib.hid (HS.out.next hE2); have HC2 := Lib.hid hb2; clear hBn hg2 hs2 hE2 hb2))
      clear hr hfb
      have d5 := (FCells.of HC2.out).pl
      have d6 := (FCells.of HC2.out).sq
      have d0 := (FCells.of HC2.out).bk
      have hok5 := HOK.out.1
      have hok0 := HOK.out.2
      obtain ⟨x5, hx5⟩ : ∃ z, f.pl = z := ⟨_, rfl⟩
      obtain ⟨x6, hx6⟩ : ∃ z, f.sq = z := ⟨_, rfl⟩
      obtain ⟨x0, hx0⟩ : ∃ z, f.bk = z := ⟨_, rfl⟩
      rw [hx5] at d5 hok5
      rw [hx6] at d6
      rw [hx0] at d0 hok0
      have HXX := Lib.hid (And.intro hx5 (And.intro hx6 hx0))
      obtain ⟨⟨t1, t2, t3⟩, ht⟩ : ∃ z, (topsF A x5).getD noT = z := ⟨_, rfl⟩
      have HTV := Lib.hid (show topV ((topsF A x5).getD noT) = .agg #[.int .i64 t1, .int .i64 t2, .bool t3] by rw [ht]; rfl)
      obtain ⟨z, hz⟩ : ∃ z, (x6 == t1) = z := ⟨_, rfl⟩
      have HZ := Lib.hid (show (f.sq == ((topsF A f.pl).getD noT).1) = z by rw [hx5, hx6, ht]; exact hz)
      have hm2 := HS2.out.m
      have htc : w2.cell? ⟨tb, 0, none⟩ = some (.map (some mb)) := HS2.out.tc.cell 0
      have hf0 := Try.topF0 t1 t2 t3 w2
      clear hx5 hx6 hx0 ht
      cases z
      · clear d0
        go_wp2_with (at_lookup; refine wpList_lookX rfl _ _ rfl topV_inj Try.underlying58 Try.underlying3 noT (Try.zeroTop _) hm2 rfl x5 rfl hok5 _ HTV.out ?_)
        go_roundw
        case rel => exact ⟨k + 1, hm, by omega, by go_num, HS2.out.skip HF.out HZ.out⟩
        case measure => simp [intOf]; omega
      · go_upto_region 7 with (at_lookup; refine wpList_lookX rfl _ _ rfl topV_inj Try.underlying58 Try.underlying3 noT (Try.zeroTop _) hm2 rfl x5 rfl hok5 _ HTV.out ?_)
        clear d6 htc hf0 hm2 hz
        obtain ⟨hd0, hhd⟩ : ∃ z, (hm x0).getD nilH = z := ⟨_, rfl⟩
        obtain ⟨zs, hzs⟩ : ∃ z, heldF (A.take k) (topsF A) x0 = z := ⟨_, rfl⟩
        have HD := Lib.hid (show hdV ((hm x0).getD nilH) = hdV hd0 by rw [hhd])
        have hownO := HS.out.h.own x0
        rw [hhd, hzs] at hownO
        have hfar : ∀ q, (hdV hd0).ownBlock = some q → hb < q ∧ q < fb := fun q hq => by
          have h1 := hownO.lt q hq
          have h2 := HFB.out
          omega
        have HFAR := Lib.hid (And.intro hfar (show hb < fb by have := HS.out.h.m.lt; have := HFB.out; omega))
        have hzl : zs.length ≤ 1000000 := by
          have h1 := heldF_len (A.take k) (topsF A) x0
          rw [hzs, List.length_take] at h1
          omega
        have HSd := Lib.hid (HS2.out.next (Ext.drew w2))
        have hA := World.grownBy_alloc w2.drew (.cells #[.int .i64 x5] 3) none
        have hS : BkR fb x0 x5 w2.drew := ⟨d0, d5⟩
        have hSa : BkR fb x0 x5 ((w2.alloc (.cells #[.int .i64 x5] 3)).drew) := ⟨hA.cell d0 (by simp), hA.cell d5 (by simp)⟩
        have hmd : HdrM w2.drew hb k hm := HSd.out.h.m
        have hma : HdrM ((w2.alloc (.cells #[.int .i64 x5] 3)).drew) hb k hm := hmd.ext hA
        have hown : OwnI17 (hb + 1) ((w2.alloc (.cells #[.int .i64 x5] 3)).drew) (hdV hd0) zs := by
          have h1 := (HSd.out.h.own x0).kept hA (Classical.em _)
          rw [hhd, hzs] at h1
          exact h1
        have hcx : ((w2.alloc (.cells #[.int .i64 x5] 3)).drew).cell? ⟨w2.heap.size, 0, none⟩ = some (.int .i64 x5) := box_int w2 x5
        have HA := Lib.hid hA
        have HZS := Lib.hid (And.intro hhd hzs)
        have hk4 : k < maxLen := by unfold maxLen; omega
        have hbase : hb + 1 ≤ ((w2.alloc (.cells #[.int .i64 x5] 3)).drew).heap.size := hma.lt
        clear hownO hfar hA hhd hzs
        refine region_tree (.read 0 (.read 1 (.read 2 (.read 3 (.read 4 (.read 5 (.read 7 (.read 8 (.read 9 (.two 6 10 (.one 10 (.one 11 (.one 12 .done))) (.one 6 (.one 11 (.one 12 .done))))))))))))) (BkR fb x0 x5) (by kernel_rfl) (by kernel_rfl) (fun _ _ _ d _ h => by cases d <;> exact h) hS ?_
        iterate 9 (refine tree_read (a' := ?_) rfl (by kernel_rfl) (by kernel_rfl) hS (fun z0 hx K hK => ?_) ?_; rotate_left; · (obtain ⟨q1, q2⟩ := hx; go_wp2; exact hK))
        refine tree_two ?one ?two
        case' one =>
          refine tree_one (by rfl) (fun K hK => ?_)
          refine wpList_lookX rfl _ _ rfl hdV_inj Try.underlying60 Try.underlying3 nilH (Try.zeroInts _) hmd rfl x0 rfl hok0 (hdV hd0) HD.out ?_
          go_wp2
          refine hK _ _ (BkR fb x0 x5) hS (fun x hx => hx) ?_
          clear hK K
          refine tree_one (by rfl) (fun K hK => ?_)
          go_wp2
          refine hK _ _ (BkR fb x0 x5) hSa (fun x hx => hx) ?_
          clear hK K
        case' two =>
          refine tree_one (by rfl) (fun K hK => ?_)
          go_wp2
          refine hK _ _ (BkR fb x0 x5) hSa (fun x hx => hx) ?_
          clear hK K
          refine tree_one (by rfl) (fun K hK => ?_)
          refine wpList_lookX rfl _ _ rfl hdV_inj Try.underlying60 Try.underlying3 nilH (Try.zeroInts _) hma rfl x0 rfl hok0 (hdV hd0) HD.out ?_
          go_wp2
          refine hK _ _ (BkR fb x0 x5) hSa (fun x hx => hx) ?_
          clear hK K
        all_goals
          refine tree_one (by rfl) (fun K hK => ?_)
          refine append_at17 rfl _ _ rfl (hb + 1) (hdV hd0) zs zs.length rfl rfl hown ⟨w2.heap.size, 0, none⟩ 1 x5 rfl hcx hzl hbase ?_
          intro hd1 w7 ho7 hg7 hl7
          have HO7 := Lib.hid ho7
          have HG7 := Lib.hid hg7
          have HL7 := Lib.hid hl7
          clear ho7 hg7 hl7
          go_wp2
          have hS7 : BkR fb x0 x5 w7 := ⟨HG7.out.cell hSa.1 (fun e => by have := (HFAR.out.1 _ e.symm).2; have e2 : fb < fb := this; omega), HG7.out.cell hSa.2 (fun e => by have := (HFAR.out.1 _ e.symm).2; have e2 : fb < fb := this; omega)⟩
          refine hK _ _ (BkR fb x0 x5) hS7 (fun x hx => hx) ?_
          clear hK K
          have hm7 : HdrM w7 hb k hm := hma.kept HG7.out (fun e => by have := (HFAR.out.1 _ e.symm).1; omega)
          refine tree_one (by rfl) (fun K hK => ?_)
          refine wpList_putX rfl _ _ _ rfl hdV_inj Try.underlying60 Try.underlying3 hm7 hk4 rfl x0 rfl hok0 hd1 rfl ?_
          intro w8 hm8 hg8
          have HM8 := Lib.hid hm8
          have HG8 := Lib.hid hg8
          clear hm8 hg8
          go_wp2
          have hS8 : BkR fb x0 x5 w8 := ⟨HG8.out.cell hS7.1 (fun e => by injection e with e; have h1 := HFAR.out.2; have e2 : fb = hb := e; omega), HG8.out.cell hS7.2 (fun e => by injection e with e; have h1 := HFAR.out.2; have e2 : fb = hb := e; omega)⟩
          refine hK _ _ (BkR fb x0 x5) hS8 (fun x hx => hx) ?_
          clear hK K
          refine tree_end ?_
          go_wp2
          clear hS hSa hS7 hS8 hmd hma hm7 hown hcx hzl hbase d0 d5
          go_roundw
          case rel =>
            obtain ⟨e5, e6, e0⟩ := HXX.out
            subst e5
            subst e0
            have hg7 : w2.drew.grownBy w7 (hdV ((hm f.bk).getD nilH)).ownBlock := by rw [HZS.out.1]; exact own_alloc17 (Ext.refl w2.drew) HG7.out
            have hl7 : (hdV hd1).ownBlock = (hdV ((hm f.bk).getD nilH)).ownBlock ∨ ∃ q, (hdV hd1).ownBlock = some q ∧ w2.drew.heap.size ≤ q := by
              rw [HZS.out.1]
              rcases HL7.out with h1 | h1
              · exact .inl h1
              · exact .inr ⟨_, h1, HA.out.size⟩
            exact ⟨k + 1, _, by omega, by go_num, HSd.out.put HW.out HF.out HZ.out (by rw [HZS.out.2]; exact HO7.out) hg7 hl7 HM8.out HG8.out⟩
          case measure => simp [intOf]; omega
    · obtain rfl : k = n := by omega
      have hV : LvV w wo hm hb := ⟨HS.out.ext.size, HS.out.h.m.lt, fun b q hq => (HS.out.h.own b).lt q hq⟩
      have HV := Lib.hid hV
      have HR := Lib.hid (show Lv2S w wo wo tb mb hb (.slice ro nr rc) (.slice none 0 0) A row hm 1000 (lvN A (row.take 0)).2 (lvN A (row.take 0)).1 from by
        refine ⟨HS.out.r, HS.out.tc, HS.out.m, HS.out.h.m.mono hl, fun b => ?_, ⟨by simp [lvN], .inl ⟨rfl, rfl⟩⟩, HS.out.ext, Nat.le_refl _⟩
        have h1 := (HS.out.h.own b).ints
        rw [List.take_of_length_le (by rw [HN.out.1]; exact Nat.le_refl _)] at h1
        exact h1)
      clear hV HS
      go_wp2
      go_loopw [9, 50] (fun gv i wr => ∃ (k : Nat) (N : Nat), k ≤ nr ∧ i = .int .i64 k ∧ N ≤ 1000 + k * 1000 ∧ Lv2S w wo wr tb mb hb (.slice ro nr rc) gv A row hm N (lvN A (row.take k)).2 (lvN A (row.take k)).1) (fun _ i _ => nr - (intOf i).toNat)
      case atStart => exact ⟨0, 1000, by omega, rfl, by omega, HR.out⟩
      case round =>
        clear HR
        obtain ⟨k, N, hk, rfl, hNk, hR⟩ := hrel
        obtain ⟨wp, rfl⟩ : ∃ wp : World, wp = wr := ⟨_, rfl⟩
        have HR := Lib.hid hR
        obtain ⟨go_, gc, hgv⟩ := owns_slice17 hR.own
        obtain ⟨no, hno0⟩ : ∃ z, (lvN A (row.take k)).1.length = z := ⟨_, rfl⟩
        rw [hno0] at hgv
        subst hgv
        have HNO0 := Lib.hid hno0
        clear hR hno0
        by_cases hlt : k < nr
        · obtain ⟨ro2, rc2, rb2, roff2, hrv2, hrc2⟩ := HR.out.r.form
          obtain ⟨hro, hcell⟩ := hrc2 k (by rw [HN.out.2.1]; exact hlt)
          simp only [Value.slice.injEq] at hrv2
          obtain ⟨rfl, -, -⟩ := hrv2
          subst hro
          obtain ⟨bl, hbl⟩ : ∃ x, row.getD k 0 = x := ⟨_, rfl⟩
          rw [hbl] at hcell
          have hkr : k < row.length := by rw [HN.out.2.1]; exact hlt
          have hget : row[k] = bl := by rw [List.getD_eq_getElem?_getD, List.getElem?_eq_getElem hkr] at hbl; exact hbl
          have htk : row.take (k + 1) = row.take k ++ [bl] := by rw [List.take_add_one, List.getElem?_eq_getElem hkr, hget]; rfl
          have hokb : okI bl := HN.out.2.2.2 bl (by rw [← hget]; exact List.getElem_mem hkr)
          obtain ⟨⟨out, M⟩, hst⟩ : ∃ z, lvN A (row.take k) = z := ⟨_, rfl⟩
          have HST := Lib.hid (show (lvN A (row.take k)).1 = out by rw [hst])
          obtain ⟨zs, hzs⟩ : ∃ z, heldF A (topsF A) bl = z := ⟨_, rfl⟩
          obtain ⟨nz, hnz⟩ : ∃ z, zs.length = z := ⟨_, rfl⟩
          obtain ⟨ks, hks⟩ : ∃ z, zs.any (keepsP M bl) = z := ⟨_, rfl⟩
          have hstep : lvN A (row.take (k + 1)) = if ks then (out, markAll M zs) else (out ++ [bl], M) := by
            rw [htk, lvN_snoc, hst]
            unfold lvStep
            rw [hzs, hks]
          have hR := HR.out
          rw [hst] at hR
          have HR := Lib.hid hR
          have hokz : ∀ x ∈ zs, okI x := fun x hx => by
            rw [← hzs] at hx
            obtain ⟨f, f1, _, _, f4⟩ := heldF_mem.1 hx
            rw [← f4]
            exact (HN.out.2.2.1 f f1).1
          have hnz1 : nz ≤ 1000 := by rw [← hnz, ← hzs]; have h1 := heldF_len A (topsF A) bl; have h2 := HN.out.1; omega
          obtain ⟨zo, zc, zb, zoff, hzv, hzc0⟩ := (hR.hi bl).form
          rw [hzs, hnz] at hzv
          have HZV := Lib.hid (And.intro hzv (And.intro hzs hnz))
          have HSTEP := Lib.hid hstep
          have HOKZ := Lib.hid hokz
          clear hR hrc2 hbl hkr hget htk hst hstep hzc0 hzv hzs hokz hnz
          have HR9 := Lib.hid (HR.out.next (World.grownBy_alloc wp (.cells #[.int .i64 bl] 3) none))
          have hbb9 := box_int wp bl
          obtain ⟨w9, hw9⟩ : ∃ v, wp.alloc (.cells #[.int .i64 bl] 3) = v := ⟨_, rfl⟩
          rw [hw9] at HR9 hbb9
          obtain ⟨bb, hbb⟩ : ∃ z, wp.heap.size = z := ⟨_, rfl⟩
          rw [hbb] at hbb9
          have hm9 := HR9.out.h
          have hz9 : Ints w9 (.slice zo nz zc) zs := by
            have h1 := HR9.out.hi bl
            rw [HZV.out.1, HZV.out.2.1] at h1
            exact h1
          have CON := containsFn17_any 35 Try.eg7 #[.pointer (some ⟨tb, 0, none⟩), .pointer (some ⟨bb, 0, none⟩)] (keepsP M bl) (.slice zo nz zc) zs w9 hz9 (by rw [HZV.out.2.2]; exact hnz1) (fun x hx => keeps17_any tb bb mb N M bl x w9 (HOKZ.out x hx) (HR9.out.tc.cell 0) hbb9 HR9.out.m)
          rw [hks] at CON
          clear hks hz9
          have HOL := Lib.hid (show out.length ≤ 1000 from by have h1 := lvN_len A (row.take k); rw [HST.out, List.length_take] at h1; have h2 : out.length ≤ min k row.length := h1; omega)
          have hno : out.length = no := by have h1 := HNO0.out; rw [HST.out] at h1; exact h1
          have HNO := Lib.hid hno
          cases ks
          · have hown := HR9.out.own.alloc (.cells #[.int .i64 bl] 3)
            rw [hno] at hown
            clear hno
            go_wp2_with (first
              | (at_lookup; refine wpList_lookX rfl _ _ rfl hdV_inj Try.underlying60 Try.underlying3 nilH (Try.zeroInts _) hm9 rfl bl rfl hokb (.slice zo nz zc) HZV.out.1 ?_)
              | (go_at_call 36; refine CON.mono ?_; rintro e w10 ⟨rfl, rfl⟩)
              | (at_builtin; go_loud (refine append_int17 rfl _ _ rfl wo.heap.size (.slice go_ no gc) out no HNO.out rfl hown ⟨w9.heap.size, 0, none⟩ 1 bl rfl (box_int w9 bl) (by have := HOL.out; have := HNO.out; omega) (by have := HR9.out.sz; simp; omega) ?_; intro v' w11 hrow' hg'; have hE11 := Lib.hid (own_alloc17 (Ext.refl w9) hg'); obtain ⟨ao4, cap4, hv4⟩ := owns_slice17 hrow'; subst hv4)))
            go_roundw
            case rel =>
              refine ⟨k + 1, N, by omega, by go_num, by omega, ?_⟩
              rw [HSTEP.out]
              refine HR9.out.goes HW.out HV.out hE11.out ?_
              show World.ownsRow _ _ _ _ _ (out ++ [bl]).length _
              rw [List.length_append, HNO.out]
              exact hrow'
            case measure => simp [intOf]; omega
          · go_wp2_with (first
              | (at_lookup; refine wpList_lookX rfl _ _ rfl hdV_inj Try.underlying60 Try.underlying3 nilH (Try.zeroInts _) hm9 rfl bl rfl hokb (.slice zo nz zc) HZV.out.1 ?_)
              | (go_at_call 36; refine CON.mono ?_; rintro e w10 ⟨rfl, rfl⟩))
            clear hno CON hcell hm9 hbb9
            go_loopw [69] (fun i wr => ∃ (j : Nat) (N2 : Nat), j ≤ nz ∧ i = .int .i64 j ∧ N2 ≤ 1000 + k * 1000 + j ∧ Lv2S w wo wr tb mb hb (.slice (some ⟨rb2, roff2, none⟩) nr rc) (.slice go_ no gc) A row hm N2 (markAll M (zs.take j)) out) (fun i _ => nz - (intOf i).toNat)
            case atStart => exact ⟨0, N, by omega, rfl, by omega, HR9.out⟩
            case round =>
              clear HR9
              obtain ⟨j, N2, hj, rfl, hN2, hR⟩ := hrel
              obtain ⟨wq, rfl⟩ : ∃ wq : World, wq = wr := ⟨_, rfl⟩
              have HRQ := Lib.hid hR
              by_cases hlt2 : j < nz
              · obtain ⟨zo2, zc2, zb2, zoff2, hzv2, hzc2⟩ := (hR.hi bl).form
                rw [HZV.out.1, HZV.out.2.1] at hzv2
                rw [HZV.out.2.1] at hzc2
                obtain ⟨hzo, hcell⟩ := hzc2 j (by rw [HZV.out.2.2]; exact hlt2)
                simp only [Value.slice.injEq] at hzv2
                obtain ⟨rfl, -, rfl⟩ := hzv2
                subst hzo
                obtain ⟨p, hp⟩ : ∃ x, zs.getD j 0 = x := ⟨_, rfl⟩
                rw [hp] at hcell
                have hjz : j < zs.length := by rw [HZV.out.2.2]; exact hlt2
                have hget : zs[j] = p := by rw [List.getD_eq_getElem?_getD, List.getElem?_eq_getElem hjz] at hp; exact hp
                have htk : zs.take (j + 1) = zs.take j ++ [p] := by rw [List.take_add_one, List.getElem?_eq_getElem hjz, hget]; rfl
                have hokp : okI p := HOKZ.out p (by rw [← hget]; exact List.getElem_mem hjz)
                obtain ⟨M', hM'⟩ : ∃ z, markAll M (zs.take j) = z := ⟨_, rfl⟩
                obtain ⟨⟨t1, t2, t3⟩, ht⟩ : ∃ z, (M' p).getD noT = z := ⟨_, rfl⟩
                have HMK := Lib.hid (show markAll M (zs.take (j + 1)) = updX M' p (t1, t2, true) by rw [htk, markAll_snoc, hM']; unfold markOne; rw [ht])
                have HTV := Lib.hid (show topV ((M' p).getD noT) = .agg #[.int .i64 t1, .int .i64 t2, .bool t3] by rw [ht]; rfl)
                have hR2 := HRQ.out
                rw [hM'] at hR2
                have HRQ := Lib.hid hR2
                have hmq := hR2.m
                have htc : wq.cell? ⟨tb, 0, none⟩ = some (.map (some mb)) := hR2.tc.cell 0
                have HA := Lib.hid (HRQ.out.next (World.grownBy_alloc wq (.cells #[.int .i64 t1, .int .i64 t2, .bool true] 62) none))
                have hma := HA.out.m
                have htca : (wq.alloc (.cells #[.int .i64 t1, .int .i64 t2, .bool true] 62)).cell? ⟨tb, 0, none⟩ = some (.map (some mb)) := HA.out.tc.cell 0
                have hk4 : N2 < maxLen := by unfold maxLen; omega
                clear hR hR2 hp hjz hget htk hM' ht hzc2
                go_wp2_with (first
                  | (at_lookup; refine wpList_lookX rfl _ _ rfl topV_inj Try.underlying58 Try.underlying3 noT (Try.zeroTop _) hmq rfl p rfl hokp _ HTV.out ?_)
                  | (at_mapUpdate; refine wpList_putX rfl _ _ _ rfl topV_inj Try.underlying58 Try.underlying3 hma hk4 rfl p rfl hokp (t1, t2, true) rfl ?_; intro w8 hm8 hg8; have HM8 := Lib.hid hm8; have HG8 := Lib.hid hg8; clear hm8 hg8))
                go_roundw
                case rel => exact ⟨j + 1, N2 + 1, by omega, by go_num, by omega, by rw [HMK.out]; exact HA.out.mark HW.out HV.out HG8.out HM8.out⟩
                case measure => simp [intOf]; omega
              · obtain rfl : j = nz := by omega
                have hR2 := HRQ.out
                rw [List.take_of_length_le (by rw [HZV.out.2.2]; exact Nat.le_refl _)] at hR2
                have HRQ := Lib.hid hR2
                clear hR hR2
                go_wp2
                go_roundw
                case rel =>
                  refine ⟨k + 1, N2, by omega, by go_num, by omega, ?_⟩
                  rw [HSTEP.out]
                  exact HRQ.out
                case measure => simp [intOf]; omega
        · obtain rfl : k = nr := by omega
          go_wp2
          go_ret
          have hte : row.take k = row := List.take_of_length_le (by rw [HN.out.2.1]; exact Nat.le_refl _)
          refine ⟨⟨_, rfl, ?_⟩, HR.out.ext⟩
          have hown := owns_le17 HR.out.own HV.out.s
          rw [hte] at hown
          exact hown

end Go.Proofs.Ytigfohofbpjldaa
