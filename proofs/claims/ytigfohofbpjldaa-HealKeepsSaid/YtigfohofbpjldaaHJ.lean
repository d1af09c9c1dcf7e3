/-
  Layer 17: HealKeeps over what Heal answers.
-/
import Derived.Test.YtigfohofbpjldaaHI
import Derived.Maps.RangeWalk
import Derived.Deep.CutBlock
namespace Go.Proofs.Ytigfohofbpjldaa
set_option linter.unusedVariables false
set_option linter.unusedSimpArgs false
set_option maxRecDepth 100000
open Go.RowKit

theorem spot_mem (A : List Fnd) (gone : List Int) : ∀ (m : Nat) (s : Int × Int × Int), s ∈ spotsN A gone m → gone.contains s.2.1 = false
  | 0, s, h => by simp [spotsN] at h
  | m + 1, s, h => by
    have h1 : spotsN A gone (m + 1) = if (bestN A gone m).2 then spotsN A gone m ++ [((m : Int), (bestN A gone m).1.bk, (bestN A gone m).1.pg)] else spotsN A gone m := rfl
    rw [h1] at h
    split at h
    · rename_i hb
      rcases List.mem_append.1 h with h2 | h2
      · exact spot_mem A gone m s h2
      · obtain rfl := List.mem_singleton.1 h2
        have hk := (bestN_keeps gone m A A.length (Nat.le_refl _)).1
        rw [List.take_length] at hk
        exact (hk hb).2.1
    · exact spot_mem A gone m s h
theorem spot_lay (A : List Fnd) (gone : List Int) : ∀ (m p : Nat), p < m → (bestN A gone p).2 = true → ((p : Int), (bestN A gone p).1.bk, (bestN A gone p).1.pg) ∈ spotsN A gone m
  | 0, p, h, _ => by omega
  | m + 1, p, h, hb => by
    have h1 : spotsN A gone (m + 1) = if (bestN A gone m).2 then spotsN A gone m ++ [((m : Int), (bestN A gone m).1.bk, (bestN A gone m).1.pg)] else spotsN A gone m := rfl
    rw [h1]
    by_cases e : p = m
    · subst e
      rw [if_pos hb]
      exact List.mem_append.2 (.inr (List.mem_singleton.2 rfl))
    · have h2 := spot_lay A gone m p (by omega) hb
      split
      · exact List.mem_append.2 (.inl h2)
      · exact h2
/-- A page that keeps a place. -/
def kpG (tn ep : Int) (f : Fnd) (s : Int × Int × Int) (g : Fnd) : Bool := (g.bk == s.2.1) && ((g.pg == s.2.2) && (mineF tn ep g && ((g.pl == s.1) && decide (f.sq ≤ g.sq))))
def kpS (L : List Fnd) (tn ep : Int) (f : Fnd) (s : Int × Int × Int) : Bool := (s.1 == f.pl) && L.any (kpG tn ep f s)
theorem any_snoc3 (L : List (Int × Int × Int)) (p : Int × Int × Int → Bool) (f : Int × Int × Int) : (L ++ [f]).any p = (L.any p || p f) := by simp [List.any_append]
def noSp : Int × Int × Int := (0, 0, 0)
theorem take3 {L : List (Int × Int × Int)} {k : Nat} {f : Int × Int × Int} (hk : k < L.length) (hf : L.getD k noSp = f) : L.take (k + 1) = L.take k ++ [f] ∧ f ∈ L ∧ L = L.take k ++ f :: L.drop (k + 1) := by
  rw [List.getD_eq_getElem?_getD, List.getElem?_eq_getElem hk] at hf
  have h2 : L[k] = f := hf
  refine ⟨?_, ?_, ?_⟩
  · rw [List.take_add_one, List.getElem?_eq_getElem hk, h2]; rfl
  · rw [← h2]; exact List.getElem_mem hk
  · rw [← h2]
    have := List.take_append_drop k L
    rw [List.drop_eq_getElem_cons hk] at this
    exact this.symm
section
variable {ops : Array Oper} {rest : List Oper} {o : Oper} {a : Act} {w : World} {Q : Exit → Act → World → Prop}
theorem fnd_load2 (x : Operand) (ho : o.op = .load 36 x) {b off : Nat} (hx : a.eval x = .pointer (some ⟨b, off, none⟩)) {f : Fnd} (hr : w.rangeAt b off (fndC f).toList) (hwt : Region.wanted o (yielded ops a.tmps) = true)
    (h : wpList Try.prog ops Q rest (a.put o.dst (.agg (fndC f))) w) : wpList Try.prog ops Q (o :: rest) a w := fnd_load hwt x ho hx hr h
theorem spt_store (x y : Operand) (ho : o.op = .store 40 x y) {g : Nat} (hx : a.eval x = .pointer (some ⟨g, 0, none⟩)) {s : Int × Int × Int} (hy : a.eval y = .agg (spotC17 s)) {old : Array Value} (hg : Blk w g 40 old) (hold : old.size = 3) (hwt : Region.wanted o (yielded ops a.tmps) = true)
    (h : ∀ w', Blk w' g 40 (spotC17 s) → w.grownBy w' (some g) → w'.heap.size = w.heap.size → wpList Try.prog ops Q rest (a.put o.dst undef) w') : wpList Try.prog ops Q (o :: rest) a w :=
  wpList_store_part hwt _ x y ho g 0 3 _ hx hy _ old _ hg rfl Try.sizeSpt (by omega) (by simp [spotC17, Value.oneCell']) (by
    have h1 : (spotC17 s).toList.length = 3 := rfl
    rw [h1, List.drop_of_length_le (by simp; omega)]
    simp) h
end
/-- A spot of the row. -/
theorem HtS.spot {w0 wr : World} {hb : Nat} {so : Option Addr} {sn sc : Nat} {go : Option Addr} {gn gc : Nat} {q : Int} {sp : List (Int × Int × Int)} (h : HtS w0 wr hb so sn sc go gn gc q sp) {k : Nat} (hk : k < sp.length) (hsn : sp.length = sn) {s : Int × Int × Int} (hs : sp.getD k noSp = s) :
    ∃ g, so = some ⟨g, 0, none⟩ ∧ wr.rangeAt g (k * 3) (spotC17 s).toList := by
  have hown := h.own
  rcases hown.2 with ⟨hv, h0⟩ | ⟨g, cap, cur, hv, _⟩
  · omega
  · simp only [Value.slice.injEq] at hv
    refine ⟨g, hv.1, fun j u hj => ?_⟩
    have hj3 : j < 3 := by
      have : (spotC17 s).toList.length = 3 := rfl
      rw [← this]
      exact (List.getElem?_eq_some_iff.1 hj).1
    obtain ⟨_, _, h3⟩ := take3 hk hs
    have h4 := spotsL17_at (sp.take k) (sp.drop (k + 1)) s j hj3
    rw [← h3, List.length_take, Nat.min_eq_left (by omega)] at h4
    rw [← h4] at hj
    have h1 := hown.cells (g := g) (by rw [hv.1]; rfl) _ _ hj
    rw [addr_add, Nat.zero_add] at h1
    exact h1
/-- What stands while pages are asked for. -/
structure KpS (w0 wr : World) (lv : Value) (L : List Fnd) (hb : Nat) (so : Option Addr) (sn sc : Nat) (go : Option Addr) (gn gc : Nat) (q : Int) (sp : List (Int × Int × Int)) (gone : List Int) : Prop where
  ht : HtS w0 wr hb so sn sc go gn gc q sp
  l : RowF wr lv L
  gi : Ints wr (.slice go gn gc) gone
theorem KpS.next {w0 wr w' : World} {lv : Value} {L : List Fnd} {hb : Nat} {so : Option Addr} {sn sc : Nat} {go : Option Addr} {gn gc : Nat} {q : Int} {sp : List (Int × Int × Int)} {gone : List Int} (h : KpS w0 wr lv L hb so sn sc go gn gc q sp gone) (hE : wr.grownBy w' none) : KpS w0 w' lv L hb so sn sc go gn gc q sp gone :=
  ⟨h.ht.next hE, h.l.ext hE, h.gi.kept hE (by simp)⟩

set_option maxHeartbeats 40000000 in
theorem healKeeps_any (HL : HealC) (FX : Fix17) (lv : Value) (L : List Fnd) (B tn ep sz : Int) (w : World) (h : RowF w lv L) (hlb : ∀ k, lv.ownBlock = some k → k < w.heap.size) (hl : L.length ≤ 9223372036854775807) :
    Calls Try.prog 4 #[lv, .int .i64 B, .int .i64 tn, .int .i64 ep, .int .i64 sz] w fun e w' => e = .returned (.bool true) ∧ w.grownBy w' none := by
  have MAY := fun wx (hE : w.grownBy wx none) => may17_any lv L B wx (h.ext hE) hl
  cases hm : mayL L B
  · simp only [hm] at MAY
    clear hm
    go_enter Try.func4, Try.ntmps4
    go_wp2_with (first
      | (go_at_call 6; refine (FX _).mono ?_; rintro e w2 ⟨rfl, hE2⟩; have HE2 := Lib.hid hE2; clear hE2)
      | (go_at_call 7; refine (MAY _ HE2.out).mono ?_; rintro e w3 ⟨rfl, hE3⟩; have HE3 := Lib.hid (ext_trans HE2.out hE3); clear hE3))
    go_ret
    exact ⟨rfl, HE3.out⟩
  simp only [hm] at MAY
  have HASK := Lib.hid (show Ask17 w lv L B from ⟨h, hlb, hm⟩)
  obtain ⟨hokl, hl60, hB64⟩ := mayL_parts hm
  have HEAL := fun wx (hE : w.grownBy wx none) => HL lv L B tn ep sz wx (HASK.out.ext hE)
  have KEEP := fun f hf => keeps17 L B tn ep sz f hf
  have SPOT := fun s hs => spot_mem (cntL B tn ep sz L) (goN L (cntL B tn ep sz L) B.toNat) 64 s hs
  have LAY := fun (p : Nat) (hp : p < 64) h => spot_lay (cntL B tn ep sz L) (goN L (cntL B tn ep sz L) B.toNat) 64 p hp h
  obtain ⟨A, hA⟩ : ∃ A, cntL B tn ep sz L = A := ⟨_, rfl⟩
  obtain ⟨gone, hgo⟩ : ∃ z, goN L A B.toNat = z := ⟨_, rfl⟩
  obtain ⟨q, hq⟩ : ∃ z, seqN B tn ep L = z := ⟨_, rfl⟩
  have hgl : gone.length ≤ 1000000 := by rw [← hgo]; have := goN_len L A B.toNat; omega
  simp only [hA, hgo, hq] at HEAL
  simp only [hA, hgo, hq] at KEEP
  simp only [hA, hgo] at SPOT
  simp only [hA, hgo] at LAY
  have hAmem : ∀ f, f ∈ A ↔ f ∈ L ∧ cntB B tn ep sz f = true := fun f => by rw [← hA]; unfold cntL; exact List.mem_filter
  obtain ⟨sp, hsp⟩ : ∃ z, spotsN A gone 64 = z := ⟨_, rfl⟩
  obtain ⟨sn, hsn⟩ : ∃ z, sp.length = z := ⟨_, rfl⟩
  obtain ⟨gn, hgn⟩ : ∃ z, gone.length = z := ⟨_, rfl⟩
  simp only [hsp, hsn] at HEAL
  simp only [hsp] at SPOT
  simp only [hsp] at LAY
  have HK := Lib.hid (And.intro KEEP (And.intro SPOT (And.intro LAY (And.intro hAmem hokl))))
  obtain ⟨n, hn⟩ : ∃ n, L.length = n := ⟨_, rfl⟩
  have hl60' : n ≤ 60 := by omega
  obtain ⟨lo, lc, hlv, _⟩ := HASK.out.row
  rw [hn] at hlv
  subst hlv
  have HN := Lib.hid hn
  have HSP := Lib.hid (And.intro hsp (And.intro hsn (And.intro hgn hgl)))
  have hsn64 : sn ≤ 64 := by have h1 := spotsN_len A gone 64; rw [hsp, hsn] at h1; exact h1
  clear hm hlb hokl hl60 hB64 h hl hA hgo hq hgl hsp hsn hgn hn KEEP SPOT LAY hAmem
  have hgl2 := HSP.out.2.2.2
  go_enter Try.func4, Try.ntmps4
  go_upto_region 6 with (first
    | (go_at_call 6; refine (FX _).mono ?_; rintro e w2 ⟨rfl, hE2⟩; have HE2 := Lib.hid hE2; clear hE2)
    | (go_at_call 7; refine (MAY _ HE2.out).mono ?_; rintro e w3 ⟨rfl, hE3⟩; have HE3 := Lib.hid (ext_trans HE2.out hE3); clear hE3)
    | (go_at_call 8; refine (HEAL _ HE3.out).mono ?_; rintro e w4 ⟨⟨sv, gv, rfl, hsv, hgv⟩, hE4⟩; have HE4 := Lib.hid hE4; have HSV := Lib.hid hsv; have HGV := Lib.hid hgv; obtain ⟨so, sc, hse⟩ := owns_slice17 hsv; obtain ⟨go, gc, hge⟩ := owns_slice17 hgv; subst hse; subst hge; have hbn := Blk.new w4 28 (hldC none 0 0 none 0 0 0); clear hsv hgv hE4)
    | (refine hld_store _ _ rfl rfl rfl hbn rfl rfl ?_; intro w5 hb5 hg5 hs5; have HE5 := Lib.hid (g17_new (World.grownBy_alloc w4 _ none) hg5 (Nat.le_refl _)); have HB5 := Lib.hid hb5; clear hbn hg5 hs5 hb5))
  clear MAY HEAL
  have HT := Lib.hid (show KpS w3 w5 (.slice lo n lc) L w4.heap.size so sn sc go gone.length gc q sp gone from ⟨⟨HB5.out, HSV.out.kept HE5.out (Classical.em _), ext_trans HE4.out HE5.out⟩, (HASK.out.ext (ext_trans HE3.out (ext_trans HE4.out HE5.out))).row, HGV.out.ints.kept HE5.out (by simp)⟩)
  clear HB5 HSV HGV HE4 HE5
  go_wp2
  go_loopw [35] (fun i wr => ∃ k : Nat, k ≤ n ∧ i = .int .i64 k ∧ KpS w3 wr (.slice lo n lc) L w4.heap.size so sn sc go gone.length gc q sp gone) (fun i _ => n - (intOf i).toNat)
  case atStart => exact ⟨0, by omega, rfl, HT.out⟩
  case round =>
    clear HT
    obtain ⟨k, hk, rfl, hT⟩ := hrel
    obtain ⟨wo, rfl⟩ : ∃ wo : World, wo = wr := ⟨_, rfl⟩
    have HT := Lib.hid hT
    clear hT
    by_cases hlt : k < n
    · obtain ⟨f, hf⟩ : ∃ f, L.getD k noF = f := ⟨_, rfl⟩
      obtain ⟨ao2, cap2, hv2, hc2⟩ := HT.out.l
      obtain ⟨b, off, hao, hr⟩ := hc2 k (by rw [HN.out]; exact hlt)
      simp only [Value.slice.injEq] at hv2
      obtain ⟨rfl, -, -⟩ := hv2
      subst hao
      rw [hf] at hr
      have HME := Lib.hid (getD_mem17 (by rw [HN.out]; exact hlt) hf)
      have hBn := Blk.new wo 36 (fndC noF)
      clear hf hc2
      obtain ⟨gf, hgf⟩ : ∃ z, wo.heap.size = z := ⟨_, rfl⟩
      rw [hgf] at hBn
      go_upto_region 9 with (first
        | (refine fnd_load rfl _ rfl rfl hr ?_)
        | (refine fnd_store _ _ rfl rfl rfl hBn rfl rfl ?_; intro w6 hb6 hg6 hs6; have HT6 := Lib.hid (HT.out.next (g17_new (World.grownBy_alloc wo _ none) hg6 (by omega))); have HF6 := Lib.hid (FCells.of hb6); have d0 := (FCells.of hb6).bk; have d5 := (FCells.of hb6).pl; have hbf := hb6; clear hBn hg6 hs6 hb6 hgf))
      clear hr HT
      obtain ⟨x0, hx0⟩ : ∃ z, f.bk = z := ⟨_, rfl⟩
      obtain ⟨x5, hx5⟩ : ∃ z, f.pl = z := ⟨_, rfl⟩
      obtain ⟨m, hm⟩ : ∃ z, mineF tn ep f = z := ⟨_, rfl⟩
      rw [hx0] at d0
      rw [hx5] at d5
      have MINE := fun wx => mine17_any f tn ep wx
      rw [hm] at MINE
      have HM := Lib.hid (And.intro hx0 (And.intro hx5 hm))
      clear hx0 hx5 hm
      by_cases h0 : x0 < 0
      · have b0 : decide (x0 < 0) = true := by simpa using h0
        clear h0
        go_wp2
        go_roundw
        case rel => exact ⟨k + 1, by omega, by go_num, HT6.out⟩
        case measure => simp [intOf]; omega
      · have b0 : decide (x0 < 0) = false := by simpa using h0
        by_cases h1 : B ≤ x0
        · have b1 : decide (B ≤ x0) = true := by simpa using h1
          clear h0 h1
          go_wp2
          go_roundw
          case rel => exact ⟨k + 1, by omega, by go_num, HT6.out⟩
          case measure => simp [intOf]; omega
        · have b1 : decide (B ≤ x0) = false := by simpa using h1
          cases m
          · clear h0 h1
            go_wp2_with (first
              | (refine fnd_load rfl _ rfl rfl hbf.range17 ?_)
              | (go_at_call 13; refine (MINE _).mono ?_; rintro e w7 ⟨rfl, hE7⟩; have HT7 := Lib.hid (HT6.out.next hE7); clear hE7))
            go_roundw
            case rel => exact ⟨k + 1, by omega, by go_num, HT7.out⟩
            case measure => simp [intOf]; omega
          · by_cases h2 : sz ≤ x5
            · have b2 : decide (sz ≤ x5) = true := by simpa using h2
              clear h0 h1 h2
              go_wp2_with (first
                | (refine fnd_load rfl _ rfl rfl hbf.range17 ?_)
                | (go_at_call 13; refine (MINE _).mono ?_; rintro e w7 ⟨rfl, hE7⟩; have d5 := hE7.cell d5 (by simp); have HT7 := Lib.hid (HT6.out.next hE7); clear hE7))
              go_roundw
              case rel => exact ⟨k + 1, by omega, by go_num, HT7.out⟩
              case measure => simp [intOf]; omega
            · have b2 : decide (sz ≤ x5) = false := by simpa using h2
              have hfA : f ∈ A := (HK.out.2.2.2.1 f).2 ⟨HME.out, by
                unfold cntB
                rw [HM.out.1, HM.out.2.1, HM.out.2.2, decide_eq_true (show (0 : Int) ≤ x0 by omega), decide_eq_true (show x0 < B by omega), decide_eq_true (show x5 < sz by omega)]
                rfl⟩
              have HFA := Lib.hid hfA
              clear h0 h1 h2 hfA
              go_upto_region 11 with (first
                | (refine fnd_load rfl _ rfl rfl hbf.range17 ?_)
                | (go_at_call 13; refine (MINE _).mono ?_; rintro e w7 ⟨rfl, hE7⟩; have d5 := hE7.cell d5 (by simp); have HT7 := Lib.hid (HT6.out.next hE7); have HF7 := Lib.hid (HF6.out.ext hE7); clear hE7))
              have c0 : w7.cell? ⟨w4.heap.size, 0, none⟩ = some (.slice so sn sc) := HT7.out.ht.blk.cell 0
              clear d0 d5 hbf HT6 HF6 MINE b0 b1 b2
              go_wp2
              go_loopw [14, 65] (fun s i wr => ∃ l : Nat, l ≤ sn ∧ i = .int .i64 l ∧ s = .bool ((sp.take l).any (kpS L tn ep f)) ∧ KpS w3 wr (.slice (some ⟨b, off, none⟩) n lc) L w4.heap.size so sn sc go gone.length gc q sp gone ∧ FCells wr gf f) (fun _ i _ => sn - (intOf i).toNat)
              case atStart => exact ⟨0, by omega, rfl, rfl, HT7.out, HF7.out⟩
              case round =>
                clear HT7 HF7 c0
                obtain ⟨l, hl1, rfl, rfl, hT, hF⟩ := hrel
                obtain ⟨wp, rfl⟩ : ∃ wp : World, wp = wr := ⟨_, rfl⟩
                have HT := Lib.hid hT
                have HF := Lib.hid hF
                clear hT hF
                obtain ⟨kb, hkb⟩ : ∃ z, (sp.take l).any (kpS L tn ep f) = z := ⟨_, rfl⟩
                rw [hkb]
                have HKB := Lib.hid hkb
                clear hkb
                by_cases hlt1 : l < sn
                · obtain ⟨s, hs⟩ : ∃ s, sp.getD l noSp = s := ⟨_, rfl⟩
                  obtain ⟨g0, hso, hr⟩ := HT.out.ht.spot (by rw [HSP.out.2.1]; exact hlt1) HSP.out.2.1 hs
                  obtain ⟨ht1, ht2, _⟩ := take3 (by rw [HSP.out.2.1]; exact hlt1) hs
                  have HS := Lib.hid (And.intro ht1 (HK.out.2.1 s ht2))
                  subst hso
                  have hBn := Blk.new wp 40 (spotC17 noSp)
                  clear hs ht1 ht2
                  obtain ⟨gs, hgs⟩ : ∃ z, wp.heap.size = z := ⟨_, rfl⟩
                  rw [hgs] at hBn
                  go_upto_region 14 with (first
                    | (refine spt_load rfl _ rfl rfl hr ?_)
                    | (refine spt_store (s := s) _ _ rfl rfl rfl hBn rfl rfl ?_; intro w8 hb8 hg8 hs8; have hE8 := g17_new (World.grownBy_alloc wp _ none) hg8 (by omega); have HT8 := Lib.hid (HT.out.next hE8); have HF8 := Lib.hid (HF.out.ext hE8); have HS8 := Lib.hid hb8; clear hBn hg8 hs8 hb8 hE8 hgs))
                  clear hr
                  have e0 : w8.cell? ⟨gs, 0, none⟩ = some (.int .i64 s.1) := HS8.out.cell 0
                  have d5 := HF8.out.pl
                  obtain ⟨s1, hs1⟩ : ∃ z, s.1 = z := ⟨_, rfl⟩
                  obtain ⟨x5', hx5'⟩ : ∃ z, f.pl = z := ⟨_, rfl⟩
                  rw [hs1] at e0
                  rw [hx5'] at d5
                  obtain ⟨z, hz⟩ : ∃ z, (s1 != x5') = z := ⟨_, rfl⟩
                  have HKS := Lib.hid (show (sp.take (l + 1)).any (kpS L tn ep f) = (kb || (!z && L.any (kpG tn ep f s))) by
                    rw [HS.out.1, any_snoc3, HKB.out]
                    unfold kpS
                    rw [hs1, hx5', ← hz]
                    simp [bne])
                  clear hs1 hx5'
                  cases z
                  · obtain rfl : s1 = x5' := by simpa using hz
                    clear hz
                    go_wp2
                    go_loopw [14, 77] (fun s14 i wr => ∃ j : Nat, j ≤ n ∧ i = .int .i64 j ∧ s14 = .bool (kb || (L.take j).any (kpG tn ep f s)) ∧ KpS w3 wr (.slice (some ⟨b, off, none⟩) n lc) L w4.heap.size (some ⟨g0, 0, none⟩) sn sc go gone.length gc q sp gone ∧ FCells wr gf f ∧ Blk wr gs 40 (spotC17 s)) (fun _ i _ => n - (intOf i).toNat)
                    case atStart => exact ⟨0, by omega, rfl, by simp, HT8.out, HF8.out, HS8.out⟩
                    case round =>
                      clear HT8 HF8 HS8 HT HF e0 d5
                      obtain ⟨j, hj, rfl, rfl, hT, hF, hS⟩ := hrel
                      obtain ⟨wq, rfl⟩ : ∃ wq : World, wq = wr := ⟨_, rfl⟩
                      have HT := Lib.hid hT
                      have HF := Lib.hid hF
                      have HSB := Lib.hid hS
                      clear hT hF hS
                      obtain ⟨ob, hob⟩ : ∃ z, (kb || (L.take j).any (kpG tn ep f s)) = z := ⟨_, rfl⟩
                      rw [hob]
                      have HOB := Lib.hid hob
                      clear hob
                      by_cases hlt2 : j < n
                      · obtain ⟨g, hg⟩ : ∃ g, L.getD j noF = g := ⟨_, rfl⟩
                        obtain ⟨ao4, cap4, hv4, hc4⟩ := HT.out.l
                        obtain ⟨b4, off4, hao4, hr⟩ := hc4 j (by rw [HN.out]; exact hlt2)
                        simp only [Value.slice.injEq] at hv4
                        obtain ⟨rfl, -, -⟩ := hv4
                        simp only [Option.some.injEq, Addr.mk.injEq, and_true] at hao4
                        obtain ⟨rfl, rfl⟩ := hao4
                        rw [hg] at hr
                        have HG := Lib.hid (take17 (by rw [HN.out]; exact hlt2) hg)
                        have hBn := Blk.new wq 36 (fndC noF)
                        clear hg hc4
                        obtain ⟨gg, hgg⟩ : ∃ z, wq.heap.size = z := ⟨_, rfl⟩
                        rw [hgg] at hBn
                        have HHT := Lib.hid (show (kb || (L.take (j + 1)).any (kpG tn ep f s)) = (ob || kpG tn ep f s g) by
                          rw [HG.out, any_snoc17, ← Bool.or_assoc, HOB.out])
                        go_upto_block 5 with fail
                        go_cut [14] (fun s14 wx => s14 = .bool (ob || kpG tn ep f s g) ∧ KpS w3 wx (.slice (some ⟨b, off, none⟩) n lc) L w4.heap.size (some ⟨g0, 0, none⟩) sn sc go gone.length gc q sp gone ∧ FCells wx gf f ∧ Blk wx gs 40 (spotC17 s))
                        case first =>
                          clear HHT HG HOB HKS HK HASK HE3 HKB HSP HM HFA HME
                          go_upto_region 18 with (first
                            | (refine fnd_load rfl _ rfl rfl hr ?_)
                            | (refine fnd_store _ _ rfl rfl rfl hBn rfl rfl ?_; intro w9 hb9 hg9 hs9; have hE9 := g17_new (World.grownBy_alloc wq _ none) hg9 (by omega); have HT9 := Lib.hid (HT.out.next hE9); have HF9 := Lib.hid (HF.out.ext hE9); have HS9 := Lib.hid (HSB.out.ext hE9); have HG9 := Lib.hid (FCells.of hb9); clear hBn hg9 hs9 hb9 hE9 hgg))
                          clear hr HT HF HSB
                          obtain ⟨y0, y1, yt, y3, y4, y5, y6, y7, y8, y9⟩ := g
                          have a0 : w9.cell? ⟨gg, 0, none⟩ = some (.int .i64 y0) := HG9.out.blk.cell 0
                          have a1 : w9.cell? ⟨gg, 1, none⟩ = some (.int .i64 y1) := HG9.out.blk.cell 1
                          have a2 : w9.cell? ⟨gg, 2, none⟩ = some (.bool yt) := HG9.out.blk.cell 2
                          have a3 : w9.cell? ⟨gg, 3, none⟩ = some (.int .i64 y3) := HG9.out.blk.cell 3
                          have a4 : w9.cell? ⟨gg, 4, none⟩ = some (.int .i64 y4) := HG9.out.blk.cell 4
                          have a5 : w9.cell? ⟨gg, 5, none⟩ = some (.int .i64 y5) := HG9.out.blk.cell 5
                          have a6 : w9.cell? ⟨gg, 6, none⟩ = some (.int .i64 y6) := HG9.out.blk.cell 6
                          have a7 : w9.cell? ⟨gg, 7, none⟩ = some (.int .i64 y7) := HG9.out.blk.cell 7
                          have a8 : w9.cell? ⟨gg, 8, none⟩ = some (.bool y8) := HG9.out.blk.cell 8
                          have a9 : w9.cell? ⟨gg, 9, none⟩ = some (.string y9) := HG9.out.blk.cell 9
                          have f6 := HF9.out.sq
                          have e0 : w9.cell? ⟨gs, 0, none⟩ = some (.int .i64 s.1) := HS9.out.cell 0
                          have e1 : w9.cell? ⟨gs, 1, none⟩ = some (.int .i64 s.2.1) := HS9.out.cell 1
                          have e2 : w9.cell? ⟨gs, 2, none⟩ = some (.int .i64 s.2.2) := HS9.out.cell 2
                          obtain ⟨x6, hx6⟩ : ∃ z, f.sq = z := ⟨_, rfl⟩
                          obtain ⟨t0, ht0⟩ : ∃ z, s.1 = z := ⟨_, rfl⟩
                          obtain ⟨t1, ht1⟩ : ∃ z, s.2.1 = z := ⟨_, rfl⟩
                          obtain ⟨t2, ht2⟩ : ∃ z, s.2.2 = z := ⟨_, rfl⟩
                          obtain ⟨m, hm⟩ : ∃ z, mineF tn ep ⟨y0, y1, yt, y3, y4, y5, y6, y7, y8, y9⟩ = z := ⟨_, rfl⟩
                          rw [hx6] at f6
                          rw [ht0] at e0
                          rw [ht1] at e1
                          rw [ht2] at e2
                          obtain ⟨z1, hz1⟩ : ∃ z, (y0 == t1) = z := ⟨_, rfl⟩
                          obtain ⟨z2, hz2⟩ : ∃ z, (y1 == t2) = z := ⟨_, rfl⟩
                          obtain ⟨z4, hz4⟩ : ∃ z, (y5 == t0) = z := ⟨_, rfl⟩
                          obtain ⟨z5, hz5⟩ : ∃ z, decide (x6 ≤ y6) = z := ⟨_, rfl⟩
                          have hkp : kpG tn ep f s ⟨y0, y1, yt, y3, y4, y5, y6, y7, y8, y9⟩ = (z1 && (z2 && (m && (z4 && z5)))) := by
                            unfold kpG
                            rw [hx6, ht0, ht1, ht2, hm, hz1, hz2, hz4, hz5]
                          have HT4 := Lib.hid hkp
                          have MINE : ∀ wx, Calls Try.prog 13 #[.agg #[.int .i64 y0, .int .i64 y1, .bool yt, .int .i64 y3, .int .i64 y4, .int .i64 y5, .int .i64 y6, .int .i64 y7, .bool y8, .string y9], .int .i64 tn, .int .i64 ep] wx fun e w' => e = .returned (.bool m) ∧ wx.grownBy w' none := fun wx => by
                            rw [← hm]
                            exact mine17_any ⟨y0, y1, yt, y3, y4, y5, y6, y7, y8, y9⟩ tn ep wx
                          clear hx6 ht0 ht1 ht2 hm HG9 hkp
                          cases ob
                          · cases z1
                            · clear hz2 hz4 hz5 MINE
                              go_wp2
                              go_meet
                              exact ⟨by rw [HT4.out]; simp, HT9.out, HF9.out, HS9.out⟩
                            · obtain rfl : y0 = t1 := by simpa using hz1
                              clear hz1
                              cases z2
                              · clear hz4 hz5 MINE
                                go_wp2
                                go_meet
                                exact ⟨by rw [HT4.out]; simp, HT9.out, HF9.out, HS9.out⟩
                              · obtain rfl : y1 = t2 := by simpa using hz2
                                clear hz2
                                cases m
                                · clear hz4 hz5
                                  go_wp2_with (go_at_call 13; refine (MINE _).mono ?_; rintro e wm ⟨rfl, hEm⟩; have a5 := hEm.cell a5 (by simp); have a6 := hEm.cell a6 (by simp); have f6 := hEm.cell f6 (by simp); have e0 := hEm.cell e0 (by simp); have HEm := Lib.hid hEm; clear hEm)
                                  go_meet
                                  exact ⟨by rw [HT4.out]; simp, HT9.out.next HEm.out, HF9.out.ext HEm.out, HS9.out.ext HEm.out⟩
                                · cases z4
                                  · clear hz5
                                    go_wp2_with (go_at_call 13; refine (MINE _).mono ?_; rintro e wm ⟨rfl, hEm⟩; have a5 := hEm.cell a5 (by simp); have a6 := hEm.cell a6 (by simp); have f6 := hEm.cell f6 (by simp); have e0 := hEm.cell e0 (by simp); have HEm := Lib.hid hEm; clear hEm)
                                    go_meet
                                    exact ⟨by rw [HT4.out]; simp, HT9.out.next HEm.out, HF9.out.ext HEm.out, HS9.out.ext HEm.out⟩
                                  · obtain rfl : y5 = t0 := by simpa using hz4
                                    clear hz4
                                    cases z5
                                    · go_wp2_with (go_at_call 13; refine (MINE _).mono ?_; rintro e wm ⟨rfl, hEm⟩; have a5 := hEm.cell a5 (by simp); have a6 := hEm.cell a6 (by simp); have f6 := hEm.cell f6 (by simp); have e0 := hEm.cell e0 (by simp); have HEm := Lib.hid hEm; clear hEm)
                                      go_meet
                                      exact ⟨by rw [HT4.out]; simp, HT9.out.next HEm.out, HF9.out.ext HEm.out, HS9.out.ext HEm.out⟩
                                    · go_wp2_with (go_at_call 13; refine (MINE _).mono ?_; rintro e wm ⟨rfl, hEm⟩; have a5 := hEm.cell a5 (by simp); have a6 := hEm.cell a6 (by simp); have f6 := hEm.cell f6 (by simp); have e0 := hEm.cell e0 (by simp); have HEm := Lib.hid hEm; clear hEm)
                                      go_meet
                                      exact ⟨by rw [HT4.out]; simp, HT9.out.next HEm.out, HF9.out.ext HEm.out, HS9.out.ext HEm.out⟩
                          · clear hz1 hz2 hz4 hz5 MINE
                            go_wp2
                            go_meet
                            exact ⟨by rw [HT4.out]; simp, HT9.out, HF9.out, HS9.out⟩
                        case rest =>
                          obtain ⟨rfl, hTc, hFc, hSc⟩ := hcut
                          have HTc := Lib.hid (And.intro hTc (And.intro hFc hSc))
                          clear hTc hFc hSc hr hBn hgg
                          go_wp2
                          go_roundw
                          case rel => exact ⟨j + 1, by omega, by go_num, by rw [HHT.out], HTc.out.1, HTc.out.2.1, HTc.out.2.2⟩
                          case measure => simp [intOf]; omega
                      · have hjn : j = n := by omega
                        have HOM := Lib.hid (show (sp.take (l + 1)).any (kpS L tn ep f) = ob by
                          have h1 := HOB.out
                          rw [List.take_of_length_le (by rw [HN.out]; omega)] at h1
                          rw [HKS.out, ← h1]
                          rfl)
                        clear hjn
                        have g1 : wq.cell? ⟨w4.heap.size, 1, none⟩ = some (.slice go gone.length gc) := HT.out.ht.blk.cell 1
                        go_wp2
                        go_loopw [123] (fun i wr => ∃ o : Nat, o ≤ gone.length ∧ i = .int .i64 o ∧ wq = wr) (fun i _ => gone.length - (intOf i).toNat)
                        case atStart => exact ⟨0, by omega, rfl, rfl⟩
                        case round =>
                          obtain ⟨o, ho, rfl, rfl⟩ := hrel
                          by_cases hlt3 : o < gone.length
                          · obtain ⟨go2, gc2, b5, off5, hge, hgc⟩ := HT.out.gi.form
                            obtain ⟨hgo2, hcell⟩ := hgc o hlt3
                            simp only [Value.slice.injEq, true_and] at hge
                            obtain ⟨rfl, -⟩ := hge
                            subst hgo2
                            obtain ⟨y, hy⟩ : ∃ z, gone.getD o 0 = z := ⟨_, rfl⟩
                            rw [hy] at hcell
                            have hne : y ≠ s.2.1 := fun e => by
                              have h1 := HS.out.2
                              rw [Bool.eq_false_iff] at h1
                              apply h1
                              rw [List.contains_iff_mem, ← e, ← hy, List.getD_eq_getElem?_getD, List.getElem?_eq_getElem hlt3]
                              exact List.getElem_mem hlt3
                            obtain ⟨t1, ht1⟩ : ∃ z, s.2.1 = z := ⟨_, rfl⟩
                            rw [ht1] at hne
                            have e1 : wq.cell? ⟨gs, 1, none⟩ = some (.int .i64 s.2.1) := HSB.out.cell 1
                            rw [ht1] at e1
                            have hb : (y == t1) = false := by simpa using hne
                            clear hne hy ht1 hgc
                            go_wp2
                            go_roundw
                            case rel => exact ⟨o + 1, by omega, by go_num, trivial⟩
                            case measure => simp [intOf]; omega
                          · go_wp2
                            go_roundw
                            case rel => exact ⟨l + 1, by omega, by go_num, by rw [HOM.out], HT.out, HF.out⟩
                            case measure => simp [intOf]; omega
                  · go_wp2
                    go_roundw
                    case rel => exact ⟨l + 1, by omega, by go_num, by rw [HKS.out]; simp, HT8.out, HF8.out⟩
                    case measure => simp [intOf]; omega
                · have hln : l = sn := by omega
                  have hk1 := HK.out.1 f HFA.out
                  have hokf := okB_sq (HK.out.2.2.2.2 f HME.out (mine_torn (HM.out.2.2)))
                  have hkt : kb = true := by
                    rw [← HKB.out, List.take_of_length_le (by rw [HSP.out.2.1]; omega)]
                    obtain ⟨p, hp⟩ := Int.eq_ofNat_of_zero_le hokf.1.1
                    have hp64 : p < 64 := by omega
                    rw [hp] at hk1
                    refine List.any_eq_true.2 ⟨_, HK.out.2.2.1 p hp64 hk1.1, ?_⟩
                    have hA := (HK.out.2.2.2.1 _).1 hk1.2.1
                    have hmi : mineF tn ep (bestN A gone p).1 = true := by
                      have h3 := hA.2
                      unfold cntB at h3
                      simp only [Bool.and_eq_true] at h3
                      exact h3.2.2.1
                    unfold kpS
                    rw [Bool.and_eq_true]
                    refine ⟨by simp [hp], List.any_eq_true.2 ⟨_, hA.1, ?_⟩⟩
                    unfold kpG
                    rw [hmi]
                    simp [hk1.2.2.2.1, hk1.2.2.2.2.1]
                  subst hkt
                  have hsq := hk1.2.2.2.2.2
                  have d6 := HF.out.sq
                  have c2 : wp.cell? ⟨w4.heap.size, 2, none⟩ = some (.int .i64 q) := HT.out.ht.blk.cell 2
                  obtain ⟨x6, hx6⟩ : ∃ z, f.sq = z := ⟨_, rfl⟩
                  rw [hx6] at d6 hsq
                  have b6 : decide (q ≤ x6) = false := decide_eq_false (by omega)
                  clear hln hk1 hokf hsq hx6
                  go_wp2
                  go_roundw
                  case rel => exact ⟨k + 1, by omega, by go_num, HT.out⟩
                  case measure => simp [intOf]; omega
    · go_wp2
      go_ret
      exact ⟨rfl, ext_trans HE3.out HT.out.ht.ext⟩

end Go.Proofs.Ytigfohofbpjldaa
