/-
  Package heal: topsOf.
-/
import Derived.Test.YtigfohofbpjldaaIA
import Derived.Test.YtigfohofbpjldaaID
import Derived.Test.YtigfohofbpjldaaTree
namespace Go.Proofs.Ytigfohofbpjldaa
set_option linter.unusedVariables false
set_option linter.unusedSimpArgs false
set_option maxRecDepth 100000
open Go.RowKit Go.Maps

def topC (t : TopT) : Array Value := #[.int .i64 t.1, .int .i64 t.2.1, .bool t.2.2]
def topV (t : TopT) : Value := .agg (topC t)
theorem topV_inj (x y : TopT) (h : topV x = topV y) : x = y := by
  obtain ⟨a, b, c⟩ := x
  obtain ⟨d, e, f⟩ := y
  simp [topV, topC] at h
  obtain ⟨rfl, rfl, rfl⟩ := h
  rfl
abbrev TopsM (w : World) (b n : Nat) (m : Int → Option TopT) : Prop := MapX Try.prog 3 topV w b n m
theorem Try.zeroTop (w : World) : (zeroValue 62).run Try.prog w = .ok (topV noT) w := by kernel_rfl
theorem Try.sizeTop : (Try.prog.info? 62).map (·.size) = some 3 := by kernel_rfl
section
variable {ops : Array Oper} {rest : List Oper} {o : Oper} {a : Act} {w : World} {Q : Exit → Act → World → Prop}
theorem top_load (hwt : Region.wanted o (yielded ops a.tmps) = true) (x : Operand) (ho : o.op = .load 62 x) {b off : Nat} (hx : a.eval x = .pointer (some ⟨b, off, none⟩)) {t1 t2 : Int} {t3 : Bool} (hr : w.rangeAt b off [.int .i64 t1, .int .i64 t2, .bool t3])
    (h : wpList Try.prog ops Q rest (a.put o.dst (.agg #[.int .i64 t1, .int .i64 t2, .bool t3])) w) : wpList Try.prog ops Q (o :: rest) a w :=
  wpList_want hwt fun K hK => wp_load_mid _ x ho b off hx _ _ hr Try.underlying62 rfl (by rw [Try.sizeTop]; rfl) (hK _ _ (by simpa using h))
theorem top_store (x y : Operand) (ho : o.op = .store 62 x y) {g : Nat} (hx : a.eval x = .pointer (some ⟨g, 0, none⟩)) {t1 t2 : Int} {t3 : Bool} (hy : a.eval y = .agg #[.int .i64 t1, .int .i64 t2, .bool t3]) {old : Array Value} (hg : Blk w g 62 old) (hold : old.size = 3) (hwt : Region.wanted o (yielded ops a.tmps) = true)
    (h : ∀ w', Blk w' g 62 (topC (t1, t2, t3)) → w.grownBy w' (some g) → w'.heap.size = w.heap.size → wpList Try.prog ops Q rest (a.put o.dst undef) w') : wpList Try.prog ops Q (o :: rest) a w :=
  wpList_store_part hwt _ x y ho g 0 3 _ hx hy _ old _ hg rfl Try.sizeTop (by omega) (by simp [Value.oneCell']) (by
    rw [List.drop_of_length_le (by simp; omega)]
    simp [topC]) h
end
theorem Blk.rangeT {w : World} {g : Nat} {t : TypeId} {u : TopT} (h : Blk w g t (topC u)) : w.rangeAt g 0 [.int .i64 u.1, .int .i64 u.2.1, .bool u.2.2] := World.rangeAt_of_block h 0 3

/-- What stands while tops are sought. -/
structure TpsS (w0 wr : World) (mb : Nat) (lv : Value) (A : List Fnd) (k : Nat) : Prop where
  l : RowF wr lv A
  m : TopsM wr mb k (topsF (A.take k))
  ext : w0.grownBy wr none
theorem TpsS.next {w0 wr w' : World} {mb : Nat} {lv : Value} {A : List Fnd} {k : Nat} (h : TpsS w0 wr mb lv A k) (hE : wr.grownBy w' none) : TpsS w0 w' mb lv A k := ⟨h.l.ext hE, h.m.ext hE, ext_trans h.ext hE⟩

set_option maxHeartbeats 1600000 in
theorem topsOf_any (lv : Value) (A : List Fnd) (w : World) (h : RowF w lv A) (hlb : ∀ k, lv.ownBlock = some k → k < w.heap.size) (hl : A.length ≤ 1000) (hok : ∀ f ∈ A, okI f.pl) :
    Calls Try.prog 34 #[lv] w fun e w' => (∃ b, e = .returned (.map (some b)) ∧ TopsM w' b 1000 (topsF A) ∧ w.heap.size ≤ b) ∧ w.grownBy w' none := by
  have hmm := @run_makeMap Try.prog
  have hE0 := World.grownBy_alloc w (.map #[] 0) none
  have HS := Lib.hid (show TpsS w (w.alloc (.map #[] 0)) w.heap.size lv A 0 from ⟨h.ext hE0, MapX.made _ _ _ w, hE0⟩)
  obtain ⟨ao, cap, hv, _⟩ := h
  obtain ⟨n, hn⟩ : ∃ n, A.length = n := ⟨_, rfl⟩
  rw [hn] at hv hl
  subst hv
  have HN := Lib.hid (And.intro hn (And.intro hlb hok))
  clear hn hlb hok hE0
  obtain ⟨w1, hw1⟩ : ∃ v, w.alloc (.map #[] 0) = v := ⟨_, rfl⟩
  obtain ⟨mb, hmb⟩ : ∃ v, w.heap.size = v := ⟨_, rfl⟩
  rw [hw1, hmb] at HS
  have HMB := Lib.hid hmb
  go_enter Try.func34, Try.ntmps34
  go_wp2
  clear hmm hw1 hmb
  go_loopw [13] (fun i wr => ∃ (k : Nat), k ≤ n ∧ i = .int .i64 k ∧ TpsS w wr mb (.slice ao n cap) A k) (fun i _ => n - (intOf i).toNat)
  case atStart => exact ⟨0, by omega, rfl, HS.out⟩
  case round =>
    clear HS
    obtain ⟨k, hk, rfl, hS⟩ := hrel
    obtain ⟨wo, rfl⟩ : ∃ wo : World, wo = wr := ⟨_, rfl⟩
    have HS := Lib.hid hS
    clear hS
    by_cases hlt : k < n
    · obtain ⟨f, hf⟩ : ∃ f, A.getD k noF = f := ⟨_, rfl⟩
      obtain ⟨ao2, cap2, hv2, hc2⟩ := HS.out.l
      obtain ⟨b, off, hao, hr⟩ := hc2 k (by rw [HN.out.1]; exact hlt)
      simp only [Value.slice.injEq] at hv2
      obtain ⟨rfl, -, -⟩ := hv2
      subst hao
      rw [hf] at hr
      have HF := Lib.hid (take17 (by rw [HN.out.1]; exact hlt) hf)
      have HOK := Lib.hid (HN.out.2.2 f (getD_mem17 (by rw [HN.out.1]; exact hlt) hf))
      have hBn := Blk.new wo 36 (fndC noF)
      clear hf hc2
      obtain ⟨fb, hfb⟩ : ∃ v, wo.heap.size = v := ⟨_, rfl⟩
      rw [hfb] at hBn
      go_upto_region 5 with (first
        | (refine fnd_load rfl _ rfl rfl hr ?_)
        | (refine fnd_store _ _ rfl rfl rfl hBn rfl rfl ?_; intro w2 hb2 hg2 hs2; have hE2 := g17_new (World.grownBy_alloc wo _ none) hg2 (by omega); have HS2 := Lib.hid (HS.out.next hE2); have HC2 := Lib.hid hb2; clear hBn hg2 hs2 hE2 hb2))
      clear hr hfb
      obtain ⟨x5, hx5⟩ : ∃ z, f.pl = z := ⟨_, rfl⟩
      obtain ⟨x6, hx6⟩ : ∃ z, f.sq = z := ⟨_, rfl⟩
      obtain ⟨x0, hx0⟩ : ∃ z, f.bk = z := ⟨_, rfl⟩
      go_frame
      go_cut [6, 7] (fun p q wx => p = .int .i64 x5 ∧ (∃ tb, q = .pointer (some ⟨tb, 0, none⟩) ∧ Blk wx tb 62 (topC (x6, x0, false))) ∧ w2.grownBy wx none)
      case first =>
        have d0 := (FCells.of HC2.out).bk
        have d5 := (FCells.of HC2.out).pl
        have d6 := (FCells.of HC2.out).sq
        rw [hx0] at d0
        rw [hx5] at d5
        rw [hx6] at d6
        have hlt2 : fb < w2.heap.size := HC2.out.lt
        go_region
        all_goals (go_wp2_with fail; go_meet)
        all_goals exact ⟨rfl, ⟨_, rfl, Blk.new _ _ _⟩, ext_trans (World.grownBy_alloc _ _ none) (Ext.drew _)⟩
      case rest =>
        obtain ⟨rfl, ⟨tb, rfl, hT⟩, hE3⟩ := hcut
        have HT := Lib.hid hT
        have HS3 := Lib.hid (HS2.out.next hE3)
        have HC3 := Lib.hid (HC2.out.ext hE3)
        clear hT hE3
        have hstep : topsF (A.take (k + 1)) = topStep (topsF (A.take k)) f := by rw [HF.out, topsF_snoc]
        unfold topStep at hstep
        rw [hx5, hx6, hx0] at hstep
        obtain ⟨c, hc⟩ : ∃ z, (topsF (A.take k) x5).isSome = z := ⟨_, rfl⟩
        obtain ⟨⟨t1, t2, t3⟩, ht⟩ : ∃ z, (topsF (A.take k) x5).getD noT = z := ⟨_, rfl⟩
        obtain ⟨z1, hz1⟩ : ∃ z, decide (t1 < x6) = z := ⟨_, rfl⟩
        obtain ⟨z2, hz2⟩ : ∃ z, (x6 == t1) = z := ⟨_, rfl⟩
        obtain ⟨z3, hz3⟩ : ∃ z, decide (t2 < x0) = z := ⟨_, rfl⟩
        have hbet : betT (t1, t2, t3) f = (z1 || (z2 && z3)) := by unfold betT; rw [hx6, hx0, hz1, hz2, hz3]
        rw [hc, ht, hbet] at hstep
        have HT3 := Lib.hid hstep
        have hok := HOK.out
        rw [hx5] at hok
        have hm3 := HS3.out.m
        have HTV := Lib.hid (show topV ((topsF (A.take k) x5).getD noT) = .agg #[.int .i64 t1, .int .i64 t2, .bool t3] by rw [ht]; rfl)
        have HCC := Lib.hid hc
        obtain ⟨nb, hnb⟩ : ∃ z, wc.heap.size = z := ⟨_, rfl⟩
        have hBn := Blk.new wc 62 (topC noT)
        rw [hnb] at hBn
        clear hstep hc ht hbet hx5 hx6 hx0 HF HC3
        go_upto_region 7 with (first
          | (at_lookup; refine wpList_lookXok rfl _ _ rfl topV_inj Try.underlying58 Try.underlying3 noT (Try.zeroTop _) hm3 rfl x5 rfl hok _ HTV.out c HCC.out ?_)
          | (refine top_store _ _ rfl rfl rfl hBn rfl rfl ?_; intro w4 hb4 hg4 hs4; have hE4 := g17_new (World.grownBy_alloc wc _ none) hg4 (by omega); have HS4 := Lib.hid (HS3.out.next hE4); have HT4 := Lib.hid (HT.out.ext hE4); have HN4 := Lib.hid hb4; clear hBn hg4 hs4 hE4 hb4))
        clear hnb hm3
        have e0 : w4.cell? ⟨tb, 0, none⟩ = some (.int .i64 x6) := HT4.out.cell 0
        have e1 : w4.cell? ⟨tb, 1, none⟩ = some (.int .i64 x0) := HT4.out.cell 1
        have n0 : w4.cell? ⟨nb, 0, none⟩ = some (.int .i64 t1) := HN4.out.cell 0
        have n1 : w4.cell? ⟨nb, 1, none⟩ = some (.int .i64 t2) := HN4.out.cell 1
        have hr4 : w4.rangeAt tb 0 [.int .i64 x6, .int .i64 x0, .bool false] := HT4.out.rangeT
        have hm4 := HS4.out.m
        have hk4 : k < maxLen := by unfold maxLen; omega
        have HPUT := Lib.hid (show ∀ w5, (!c || (z1 || (z2 && z3))) = true → TopsM w5 mb (k + 1) (updX (topsF (A.take k)) x5 (x6, x0, false)) → w4.grownBy w5 (some mb) → TpsS w w5 mb (.slice (some ⟨b, off, none⟩) n cap) A (k + 1) from fun w5 hc hm hg => by
          have h1 := HT3.out
          rw [if_pos hc] at h1
          have hmb := HMB.out
          refine ⟨HS4.out.l.kept hg (fun q hq e => by have := HN.out.2.1 q hq; injection e with e; omega), by rw [h1]; exact hm, g17_new HS4.out.ext hg (by omega)⟩)
        have HSTAY := Lib.hid (show (!c || (z1 || (z2 && z3))) = false → TpsS w w4 mb (.slice (some ⟨b, off, none⟩) n cap) A (k + 1) from fun hc => by
          have h1 := HT3.out
          rw [if_neg (by rw [hc]; decide)] at h1
          exact ⟨HS4.out.l, by rw [h1]; exact HS4.out.m.mono (by omega), HS4.out.ext⟩)
        cases c
        · clear hz1 hz2 hz3
          go_upto_region 8 with fail
          go_wp2_with (first
            | (refine top_load rfl _ rfl rfl hr4 ?_)
            | (at_mapUpdate; refine wpList_putX rfl _ _ _ rfl topV_inj Try.underlying58 Try.underlying3 hm4 hk4 rfl x5 rfl hok (x6, x0, false) rfl ?_; intro w5 hm5 hg5; have HM5 := Lib.hid hm5; have HG5 := Lib.hid hg5; clear hm5 hg5))
          go_roundw
          case rel => exact ⟨k + 1, by omega, by go_num, HPUT.out w5 (by simp) HM5.out HG5.out⟩
          case measure => simp [intOf]; omega
        · cases z1
          · cases z2
            · clear hz3
              go_wp2
              go_roundw
              case rel => exact ⟨k + 1, by omega, by go_num, HSTAY.out (by simp)⟩
              case measure => simp [intOf]; omega
            · cases z3
              · go_wp2
                go_roundw
                case rel => exact ⟨k + 1, by omega, by go_num, HSTAY.out (by simp)⟩
                case measure => simp [intOf]; omega
              · go_upto_region 8 with fail
                go_wp2_with (first
                  | (refine top_load rfl _ rfl rfl hr4 ?_)
                  | (at_mapUpdate; refine wpList_putX rfl _ _ _ rfl topV_inj Try.underlying58 Try.underlying3 hm4 hk4 rfl x5 rfl hok (x6, x0, false) rfl ?_; intro w5 hm5 hg5; have HM5 := Lib.hid hm5; have HG5 := Lib.hid hg5; clear hm5 hg5))
                go_roundw
                case rel => exact ⟨k + 1, by omega, by go_num, HPUT.out w5 (by simp) HM5.out HG5.out⟩
                case measure => simp [intOf]; omega
          · clear hz2 hz3
            go_upto_region 8 with fail
            go_wp2_with (first
              | (refine top_load rfl _ rfl rfl hr4 ?_)
              | (at_mapUpdate; refine wpList_putX rfl _ _ _ rfl topV_inj Try.underlying58 Try.underlying3 hm4 hk4 rfl x5 rfl hok (x6, x0, false) rfl ?_; intro w5 hm5 hg5; have HM5 := Lib.hid hm5; have HG5 := Lib.hid hg5; clear hm5 hg5))
            go_roundw
            case rel => exact ⟨k + 1, by omega, by go_num, HPUT.out w5 (by simp) HM5.out HG5.out⟩
            case measure => simp [intOf]; omega
    · obtain rfl : k = n := by omega
      go_wp2
      go_ret
      have hm := HS.out.m
      rw [List.take_of_length_le (by rw [HN.out.1]; exact Nat.le_refl _)] at hm
      exact ⟨⟨mb, rfl, hm.mono hl, by rw [HMB.out]; exact Nat.le_refl _⟩, HS.out.ext⟩

end Go.Proofs.Ytigfohofbpjldaa
