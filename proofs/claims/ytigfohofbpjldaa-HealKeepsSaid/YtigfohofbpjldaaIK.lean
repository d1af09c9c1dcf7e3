/-
  Package heal: spotsOf.
-/
import Derived.Test.YtigfohofbpjldaaIJ
import Derived.Test.YtigfohofbpjldaaIC
namespace Go.Proofs.Ytigfohofbpjldaa
set_option linter.unusedVariables false
set_option linter.unusedSimpArgs false
set_option maxRecDepth 100000
open Go.RowKit Go.Maps

def fndV (f : Fnd) : Value := .agg (fndC f)
theorem fndV_inj (x y : Fnd) (h : fndV x = fndV y) : x = y := by
  obtain ⟨a, b, c, d, e, f, g, h1, i, j⟩ := x
  obtain ⟨a2, b2, c2, d2, e2, f2, g2, h2, i2, j2⟩ := y
  simp [fndV, fndC] at h
  obtain ⟨rfl, rfl, rfl, rfl, rfl, rfl, rfl, rfl, rfl, rfl⟩ := h
  rfl
abbrev BestM (w : World) (b n : Nat) (m : Int → Option Fnd) : Prop := MapX Try.prog 3 fndV w b n m
theorem Try.zeroFnd (w : World) : (zeroValue 36).run Try.prog w = .ok (fndV noF) w := by kernel_rfl
theorem Try.infoSpt : (Try.prog.info? 40).map (fun i => (i.zero, i.size, i.bytes)) = some (some (.agg #[.int .i64 0, .int .i64 0, .int .i64 0]), 3, 24) := by kernel_rfl
theorem spotsL17_snoc (L : List Sp3) (x : Sp3) : spotsL17 (L ++ [x]) = spotsL17 L ++ encSp x := by simp [spotsL17, encSp, spotC17]

section
variable {X : Type} {P : Program} {K T E : TypeId} {mk : X → Value} {w w' : World} {b n : Nat} {m : Int → Option X}
variable {ops : Array Oper} {rest : List Oper} {o : Oper} {a : Act} {Q : Exit → Act → World → Prop}
theorem wpList_lenX (hg : o.guard = none) (mo : Operand) (hop : o.op = Op.call { callee := Callee.builtin Builtin.len, args := #[mo], argTypes := #[T] }) (hT : P.underlying T = some (.map K E)) (h : MapX P K mk w b n m) (hm : a.eval mo = .map (some b))
    (hk : ∀ s : Nat, s ≤ n → wpList P ops Q rest (a.put o.dst (.int .i64 (s : Int))) w) : wpList P ops Q (o :: rest) a w := by
  obtain ⟨D, hD, _⟩ := h
  exact wpList_len_own w hg mo T hop K E hT _ b n D hm hD (hk _ hD.size_le)
theorem wpList_make0 (hg : o.guard = none) (l c : Operand) {e : TypeId} {i : TypeInfo} {z : Value} {size : Nat} (hop : o.op = Op.makeSlice T l c) (hl : a.eval l = .int .i64 0) (hT : P.underlying T = some (.slice e)) (hi : P.info? e = some i) (hz : i.zero = some z) (hs : i.size = size) (s : Nat) (hc : a.eval c = .int .i64 (s : Int)) (hb : i.bytes * s ≤ 281474976710656) (h63 : s ≤ maxLen)
    (hk : ∀ w', w'.ownsRow w.heap.size e size (.slice (some ⟨w.heap.size, 0, none⟩) 0 s) 0 [] → w.grownBy w' none → wpList P ops Q rest (a.put o.dst (.slice (some ⟨w.heap.size, 0, none⟩) 0 s)) w') : wpList P ops Q (o :: rest) a w := by
  refine wpList_plain hg fun K' hK' => ?_
  obtain ⟨w', hrun, h1, h2⟩ := run_make_own w w.heap.size T e i z size hT hi hz hs .i64 .i64 s hb h63 (Nat.le_refl _)
  unfold Oper.wp
  simp [execOp, hop, hl, hc, hrun, Result.andThen]
  exact hK' _ _ (hk w' h1 h2)
end
section
variable {ops : Array Oper} {rest : List Oper} {o : Oper} {a : Act} {w : World} {Q : Exit → Act → World → Prop}
/-- A spot more. -/
theorem append_spt (hgd : o.guard = none) (s x : Operand) (ho : o.op = .call { callee := .builtin .append, args := #[s, x], argTypes := #[25, 25] }) (base : Nat) (v : Value) (row : List Sp3) (n : Nat) (hn : row.length = n) (hs : a.eval s = v) (hown : w.ownsRow base 40 3 v n (spotsL17 row)) (hv : v ≠ .slice none 0 0)
    (ad : Addr) (cap : Nat) (y : Sp3) (hx : a.eval x = .slice (some ad) 1 cap) (hc : ∀ j u, (encSp y)[j]? = some u → w.cell? (ad.add j) = some u) (h63 : n ≤ 1000000) (hbase : base ≤ w.heap.size)
    (h : ∀ v' w', w'.ownsRow base 40 3 v' (n + 1) (spotsL17 (row ++ [y])) → w.grownBy w' v.ownBlock → v' ≠ .slice none 0 0 → wpList Try.prog ops Q rest (a.put o.dst v') w') : wpList Try.prog ops Q (o :: rest) a w := by
  obtain ⟨i0, hi, hz0, hz1, hz2⟩ := info_parts Try.infoSpt
  refine wpList_append_own w hgd s x 25 ho base 40 i0 _ 3 24 Try.underlying25 hi hz0 hz1 hz2 rfl (by decide) v n _ hs hown ad 1 cap (encSp y) hx rfl hc (by simp [encSp, Value.oneCell']) (by unfold maxLen; omega) (by omega) hbase ?_
  intro v' w' h1 h2 h3
  exact h v' w' (by rw [spotsL17_snoc]; exact h1) h2 (fun e => hv (h3.1 e).1)
end
theorem spt_new (w : World) (p x y : Int) (T : TypeId) : ∀ j u, (encSp (p, x, y))[j]? = some u → (w.alloc (.cells #[.int .i64 p, .int .i64 x, .int .i64 y] T)).cell? ((⟨w.heap.size, 0, none⟩ : Addr).add j) = some u := by
  intro j u hj
  have hb := Blk.new w T #[.int .i64 p, .int .i64 x, .int .i64 y]
  have h1 := hb.cell j
  rw [addr_add, Nat.zero_add]
  exact h1.trans (by simpa [encSp] using hj)

/-- What stands while the best pages are sought. -/
structure BesS (w0 wr : World) (mb : Nat) (lv : Value) (A : List Fnd) (k : Nat) : Prop where
  l : RowF wr lv A
  m : BestM wr mb k (bestsF (A.take k))
  ext : w0.grownBy wr none
theorem BesS.next {w0 wr w' : World} {mb : Nat} {lv : Value} {A : List Fnd} {k : Nat} (h : BesS w0 wr mb lv A k) (hE : wr.grownBy w' none) : BesS w0 w' mb lv A k := ⟨h.l.ext hE, h.m.ext hE, ext_trans h.ext hE⟩

def toSp (x : Int × Fnd) : Sp3 := (x.1, x.2.bk, x.2.pg)
/-- What stands while the map is ranged over. -/
structure RanS (w0 wr : World) (mb r n : Nat) (D : DataW Fnd) (m : Int → Option Fnd) (v : Value) (row : List (Int × Fnd)) (left : Lit → Bool) (cnt : Nat) : Prop where
  rg : wr.ranges Try.prog 3 (rdX fndV) mb r n D left cnt
  own : wr.ownsRow w0.heap.size 40 3 v row.length (spotsL17 (row.map toSp))
  nn : v ≠ .slice none 0 0
  mem : ∀ p f, (p, f) ∈ row ↔ m p = some f ∧ left (keyI p) = false
  nod : row.Pairwise (fun a b => a.1 ≠ b.1)
  cnt_ : row.length + cnt ≤ n
  ext : w0.grownBy wr none
theorem ran_ne {w : World} {mb r n : Nat} {D : DataW Fnd} {left : Lit → Bool} {cnt base : Nat} {e : TypeId} {sz k : Nat} {v : Value} {xs : List Value} (h : w.ranges Try.prog 3 (rdX fndV) mb r n D left cnt) (ho : w.ownsRow base e sz v k xs) : some mb ≠ v.ownBlock ∧ some r ≠ v.ownBlock := by
  obtain ⟨es, clock, since, seen, c0, hb, _, _, _, hr, _⟩ := h
  rcases ho.2 with ⟨rfl, _⟩ | ⟨g, cap, cur, rfl, _, hg, _⟩
  · simp [Value.ownBlock]
  · simp only [Value.ownBlock]
    constructor
    · intro e1; injection e1 with e1; subst e1; rw [hb] at hg; cases hg
    · intro e1; injection e1 with e1; subst e1; rw [hr] at hg; cases hg

set_option maxHeartbeats 3200000 in
theorem spotsOf_any (lv : Value) (A : List Fnd) (w : World) (h : RowF w lv A) (hlb : ∀ k, lv.ownBlock = some k → k < w.heap.size) (hl : A.length ≤ 1000) (hok : ∀ f ∈ A, okI f.pl) :
    Calls Try.prog 25 #[lv] w fun e w' => (∃ v l, e = .returned v ∧ w'.ownsRow w.heap.size 40 3 v l.length (spotsL17 l) ∧ l.Pairwise (fun a b => a.1 < b.1) ∧ ∀ s, s ∈ l ↔ ∃ p f, bestsF A p = some f ∧ s = (p, f.bk, f.pg)) ∧ w.grownBy w' none := by
  have hmm := @run_makeMap Try.prog
  have hE0 := World.grownBy_alloc w (.map #[] 0) none
  have HS := Lib.hid (show BesS w (w.alloc (.map #[] 0)) w.heap.size lv A 0 from ⟨h.ext hE0, MapX.made _ _ _ w, hE0⟩)
  obtain ⟨ao, cap, hv, _⟩ := h
  obtain ⟨n, hn⟩ : ∃ n, A.length = n := ⟨_, rfl⟩
  rw [hn] at hv hl
  subst hv
  have HN := Lib.hid (And.intro hn (And.intro hlb hok))
  clear hn hlb hok hE0
  obtain ⟨w1, hw1⟩ : ∃ v, w.alloc (.map #[] 0) = v := ⟨_, rfl⟩
  obtain ⟨mb, hmb⟩ : ∃ v, w.heap.size = v := ⟨_, rfl⟩
  rw [hw1, hmb] at HS
  have HMB := Lib.hid hmb
  go_enter Try.func25, Try.ntmps25
  go_wp2
  clear hmm hw1 hmb
  go_loopw [14] (fun i wr => ∃ (k : Nat), k ≤ n ∧ i = .int .i64 k ∧ BesS w wr mb (.slice ao n cap) A k) (fun i _ => n - (intOf i).toNat)
  case atStart => exact ⟨0, by omega, rfl, HS.out⟩
  case round =>
    clear HS
    obtain ⟨k, hk, rfl, hS⟩ := hrel
    obtain ⟨wo, rfl⟩ : ∃ wo : World, wo = wr := ⟨_, rfl⟩
    have HS := Lib.hid hS
    clear hS
    by_cases hlt : k < n
    · obtain ⟨f, hf⟩ : ∃ f, A.getD k noF = f := ⟨_, rfl⟩
      obtain ⟨ao2, cap2, hv2, hc2⟩ := HS.out.l
      obtain ⟨b, off, hao, hr⟩ := hc2 k (by rw [HN.out.1]; exact hlt)
      simp only [Value.slice.injEq] at hv2
      obtain ⟨rfl, -, -⟩ := hv2
      subst hao
      rw [hf] at hr
      have HF := Lib.hid (take17 (by rw [HN.out.1]; exact hlt) hf)
      have HOK := Lib.hid (HN.out.2.2 f (getD_mem17 (by rw [HN.out.1]; exact hlt) hf))
      have hBn := Blk.new wo 36 (fndC noF)
      clear hf hc2
      obtain ⟨fb, hfb⟩ : ∃ v, wo.heap.size = v := ⟨_, rfl⟩
      rw [hfb] at hBn
      go_upto_region 5 with (first
        | (refine fnd_load rfl _ rfl rfl hr ?_)
        | (refine fnd_store _ _ rfl rfl rfl hBn rfl rfl ?_; intro w2 hb2 hg2 hs2; have hE2 := g17_new (World.grownBy_alloc wo _ none) hg2 (by omega); have HS2 := Lib.hid (HS.out.next hE2); have HC2 := Lib.hid hb2; clear hBn hg2 hs2 hE2 hb2))
      clear hr hfb
      have hstep : bestsF (A.take (k + 1)) = bsM (bestsF (A.take k)) f := by rw [HF.out, bestsF_snoc]
      unfold bsM at hstep
      have hok := HOK.out
      have d5 := (FCells.of HC2.out).pl
      obtain ⟨x5, hx5⟩ : ∃ z, f.pl = z := ⟨_, rfl⟩
      rw [hx5] at hstep hok d5
      obtain ⟨c, hc⟩ : ∃ z, (bestsF (A.take k) x5).isSome = z := ⟨_, rfl⟩
      obtain ⟨now, hnow⟩ : ∃ z, (bestsF (A.take k) x5).getD noF = z := ⟨_, rfl⟩
      rw [hc, hnow] at hstep
      have HTV := Lib.hid (show fndV ((bestsF (A.take k) x5).getD noF) = .agg (fndC now) by rw [hnow]; rfl)
      have HCC := Lib.hid hc
      have hm2 := HS2.out.m
      obtain ⟨nb, hnb⟩ : ∃ z, w2.heap.size = z := ⟨_, rfl⟩
      have hBn := Blk.new w2 36 (fndC noF)
      rw [hnb] at hBn
      have HST := Lib.hid hstep
      clear hstep hc hnow
      go_upto_region 6 with (first
        | (at_lookup; refine wpList_lookXok rfl _ _ rfl fndV_inj Try.underlying69 Try.underlying3 noF (Try.zeroFnd _) hm2 rfl x5 rfl hok _ HTV.out c HCC.out ?_)
        | (refine fnd_store _ _ rfl rfl rfl hBn rfl rfl ?_; intro w4 hb4 hg4 hs4; have hE4 := g17_new (World.grownBy_alloc w2 _ none) hg4 (by omega); have HS4 := Lib.hid (HS2.out.next hE4); have HT4 := Lib.hid (HC2.out.ext hE4); have HN4 := Lib.hid hb4; clear hBn hg4 hs4 hE4 hb4))
      clear hnb hm2 d5
      have hk4 : k < maxLen := by unfold maxLen; omega
      cases c
      · have hbf := HT4.out
        have d5 := (FCells.of HT4.out).pl
        have hm4 := HS4.out.m
        rw [hx5] at d5
        go_upto_region 7 with fail
        go_wp2_with (first
          | (refine fnd_load rfl _ rfl rfl hbf.range17 ?_)
          | (at_mapUpdate; refine wpList_putX rfl _ _ _ rfl fndV_inj Try.underlying69 Try.underlying3 hm4 hk4 rfl x5 rfl hok f rfl ?_; intro w5 hm5 hg5; have HM5 := Lib.hid hm5; have HG5 := Lib.hid hg5; clear hm5 hg5))
        go_roundw
        case rel =>
          have hmbk := HMB.out
          exact ⟨k + 1, by omega, by go_num, HS4.out.l.kept HG5.out (fun q hq e => by have := HN.out.2.1 q hq; injection e with e; omega), by rw [HST.out]; exact HM5.out, g17_new HS4.out.ext HG5.out (by omega)⟩
        case measure => simp [intOf]; omega
      · have hbf := HT4.out
        have hbn := HN4.out
        have BET := fun wx => isBetter_any f now wx
        obtain ⟨z, hz⟩ : ∃ z, betF f now = z := ⟨_, rfl⟩
        have HST2 := HST.out
        rw [hz] at BET HST2
        have HST := Lib.hid HST2
        clear hz HST2
        cases z
        · go_wp2_with (first
            | (refine fnd_load rfl _ rfl rfl hbf.range17 ?_)
            | (refine fnd_load rfl _ rfl rfl hbn.range17 ?_)
            | (go_at_call 41; refine (BET _).mono ?_; rintro e w5 ⟨rfl, hE5⟩; have HE5 := Lib.hid hE5; clear hE5))
          go_roundw
          case rel => exact ⟨k + 1, by omega, by go_num, HS4.out.l.ext HE5.out, by rw [HST.out]; exact (HS4.out.m.ext HE5.out).mono (by omega), ext_trans HS4.out.ext HE5.out⟩
          case measure => simp [intOf]; omega
        · go_upto_region 7 with (first
            | (refine fnd_load rfl _ rfl rfl hbf.range17 ?_)
            | (refine fnd_load rfl _ rfl rfl hbn.range17 ?_)
            | (go_at_call 41; refine (BET _).mono ?_; rintro e w5 ⟨rfl, hE5⟩; have HS5 := Lib.hid (HS4.out.next hE5); have HT5 := Lib.hid (HT4.out.ext hE5); clear hE5))
          clear hbf hbn
          have hbf := HT5.out
          have d5 := (FCells.of HT5.out).pl
          have hm5 := HS5.out.m
          rw [hx5] at d5
          go_wp2_with (first
            | (refine fnd_load rfl _ rfl rfl hbf.range17 ?_)
            | (at_mapUpdate; refine wpList_putX rfl _ _ _ rfl fndV_inj Try.underlying69 Try.underlying3 hm5 hk4 rfl x5 rfl hok f rfl ?_; intro w6 hm6 hg6; have HM6 := Lib.hid hm6; have HG6 := Lib.hid hg6; clear hm6 hg6))
          go_roundw
          case rel =>
            have hmbk := HMB.out
            exact ⟨k + 1, by omega, by go_num, HS5.out.l.kept HG6.out (fun q hq e => by have := HN.out.2.1 q hq; injection e with e; omega), by rw [HST.out]; exact HM6.out, g17_new HS5.out.ext HG6.out (by omega)⟩
          case measure => simp [intOf]; omega
    · obtain rfl : k = n := by omega
      have hm := HS.out.m
      rw [List.take_of_length_le (by rw [HN.out.1]; exact Nat.le_refl _)] at hm
      have HM := Lib.hid hm
      obtain ⟨i0, hi, hz0, hz1, hz2⟩ := info_parts Try.infoSpt
      go_upto_region 10 with (first
        | (at_len; refine wpList_lenX rfl _ rfl Try.underlying69 hm rfl ?_; intro s hs; have HSL := Lib.hid hs; clear hs)
        | (refine wpList_make0 rfl _ _ rfl rfl Try.underlying25 hi hz0 hz1 s rfl (by have := HSL.out; rw [hz2]; omega) (by have := HSL.out; unfold maxLen; omega) ?_; intro w2 ho2 hE2; have HO2 := Lib.hid ho2; have HE2 := Lib.hid hE2; clear ho2 hE2))
      clear hm hi hz0 hz1 hz2
      obtain ⟨D, hD, hD1, hD2⟩ := HM.out
      have hown := hD.kept HE2.out (by simp)
      have HD := Lib.hid (And.intro hD1 hD2)
      have HMR := Lib.hid (show w.heap.size ≤ mb from by rw [HMB.out]; exact Nat.le_refl _)
      clear hD hD1 hD2
      go_wp2_with (first
        | (at_range; refine wpList_range_own _ rfl _ _ rfl 3 36 (int_keyed Try.underlying3) Try.underlying69 _ mb k D rfl hown ?_; intro w3 hrg3 hg3 hs3)
        | go_in)
      go_frame
      obtain ⟨r, hr⟩ : ∃ z, w2.heap.size = z := ⟨_, rfl⟩
      rw [hr] at hrg3 ⊢
      have HRN := Lib.hid (show wo.heap.size ≤ r from by have := HE2.out.size; omega)
      have HR0 := Lib.hid (show RanS wo w3 mb r k D (bestsF A) (.slice (some ⟨wo.heap.size, 0, none⟩) 0 s) [] (Maps.has D) (Maps.size D) from
        ⟨hrg3, HO2.out.kept hg3 (Classical.em _), by simp, fun p f => ⟨fun h => by simp at h, fun ⟨h1, h2⟩ => by rw [HD.out.1, h1] at h2; simp at h2⟩, List.Pairwise.nil, by simpa using hown.size_le, ext_trans HE2.out hg3⟩)
      clear hown hrg3 hg3 hs3 hr HO2
      go_loopw [8] (fun sv wr => ∃ (row : List (Int × Fnd)) (left : Lit → Bool) (cnt : Nat), RanS wo wr mb r k D (bestsF A) sv row left cnt) (fun _ wr => wr.rangeLeft mb r)
      case atStart => exact ⟨_, _, _, HR0.out⟩
      case round =>
        clear HR0
        obtain ⟨row, left, cnt, hR⟩ := hrel
        obtain ⟨wq, rfl⟩ : ∃ wq : World, wq = wr := ⟨_, rfl⟩
        have HR := Lib.hid hR
        obtain ⟨so, sc, hsv⟩ := owns_slice17 hR.own
        subst hsv
        have hrg := hR.rg
        clear hR
        go_wp2_with (first
          | (at_next; refine wpList_next_ranges _ rfl _ rfl 3 (int_keyed Try.underlying3) (rdX fndV) (Value.int .i64) fndV (fun key kl hkey => by obtain ⟨x, rfl, _⟩ := Maps.keyOf_int_inv Try.underlying3 hkey; exact ⟨x, rfl⟩) (fun v y hv => by obtain ⟨c, rfl, _⟩ := rdX_inv hv; exact ⟨c, rfl⟩) mb r k D left cnt rfl hrg ?_ ?_)
          | go_in)
        · intro hc0 hl0
          have hown := HR.out.own
          obtain ⟨g, rfl⟩ : ∃ g, so = some ⟨g, 0, none⟩ := by
            rcases hown.2 with ⟨hv, _⟩ | ⟨g, _, _, hv, _⟩
            · exact absurd hv HR.out.nn
            · simp only [Value.slice.injEq] at hv
              exact ⟨g, hv.1⟩
          have hln : (row.map toSp).length = row.length := List.length_map _
          have SF := sortFunc17_any wo.heap.size g sc (row.map toSp) wq (by rw [hln]; exact hown) (by have := HR.out.cnt_; omega)
          rw [hln] at SF
          have HL0 := Lib.hid hl0
          have HGL := Lib.hid (hown.lt g rfl)
          clear hown hln hl0 hc0 hrg
          go_wp2_with (go_at_call 42; refine SF.mono ?_; rintro e w5 ⟨rfl, d2, hp2, hs2, ho2, hg2⟩; have HP2 := Lib.hid (And.intro hp2 hs2); have HO5 := Lib.hid ho2; have HG5 := Lib.hid hg2; clear hp2 hs2 ho2 hg2)
          go_ret
          have hlen : d2.length = row.length := by rw [HP2.out.1.length_eq, List.length_map]
          have hws := HS.out.ext.size
          refine ⟨⟨_, d2, rfl, by rw [hlen]; exact owns_le17 HO5.out hws, ?_, fun sp => ?_⟩, ext_trans HS.out.ext (g17_new HR.out.ext HG5.out HGL.out.1)⟩
          · have h1 : (row.map toSp).Pairwise (fun a b => a.1 ≠ b.1) := by
              rw [List.pairwise_map]
              exact HR.out.nod
            have h2 : d2.Pairwise (fun a b => a.1 ≠ b.1) := (HP2.out.1.pairwise_iff (fun {_ _} h => Ne.symm h)).2 h1
            refine (h2.and HP2.out.2).imp ?_
            intro a b ⟨q1, q2⟩
            omega
          · rw [HP2.out.1.mem_iff, List.mem_map]
            constructor
            · rintro ⟨⟨p, f⟩, q1, rfl⟩
              exact ⟨p, f, ((HR.out.mem p f).1 q1).1, rfl⟩
            · rintro ⟨p, f, q1, rfl⟩
              exact ⟨(p, f), (HR.out.mem p f).2 ⟨q1, HL0.out _⟩, rfl⟩
        · intro x c kl ya yb w4 cnt4 hkey hlk hv hat hrg4 hlt4 hg4 hs4 hen
          obtain ⟨x', e1, hkl, hwx⟩ := Maps.keyOf_int_inv Try.underlying3 hkey
          simp only [Value.int.injEq, true_and] at e1
          subst e1
          subst hkl
          rw [rdX_mk fndV_inj] at hv
          simp only [Option.some.injEq, Prod.mk.injEq] at hv
          obtain ⟨rfl, rfl⟩ := hv
          have hmx : bestsF A x = some c := by
            have h1 : Maps.has D (keyI x) = true := Maps.has_true_of_atKey hat
            rw [HD.out.1] at h1
            obtain ⟨e, he⟩ := Option.isSome_iff_exists.1 h1
            have h2 := HD.out.2 x e (.held c) he
            have h3 : D.atKey (keyI x) (.held c) = .held c := hat _
            rw [h3] at h2
            injection h2 with h2
            rw [he, h2]
          have hne := ran_ne hrg HR.out.own
          have HO4 := Lib.hid (HR.out.own.kept hg4 (Or.inr (fun e => hne.2 e.symm)))
          have HE4 := Lib.hid (g17_new HR.out.ext hg4 HRN.out)
          have HX := Lib.hid (And.intro hlk (And.intro hmx hlt4))
          have HRG4 := Lib.hid hrg4
          have hBn := Blk.new w4 36 (fndC noF)
          have HRGO := Lib.hid hrg
          clear hkey hlk hat hrg4 hlt4 hg4 hs4 hwx hmx hne hrg
          go_upto_region 13 with (first
            | (refine fnd_store _ _ rfl rfl rfl hBn rfl rfl ?_; intro w5 hb5 hg5 hs5; have HE5 := Lib.hid (g17_new (World.grownBy_alloc w4 _ none) hg5 (Nat.le_refl _)); have d0 := (FCells.of hb5).bk; have d1 := (FCells.of hb5).pg; clear hBn hg5 hs5 hb5))
          clear hen
          obtain ⟨x0, hx0⟩ : ∃ z, c.bk = z := ⟨_, rfl⟩
          obtain ⟨x1, hx1⟩ : ∃ z, c.pg = z := ⟨_, rfl⟩
          rw [hx0] at d0
          rw [hx1] at d1
          have HXY := Lib.hid (And.intro hx0 hx1)
          have hown := (HO4.out.kept HE5.out (Classical.em _)).alloc (.cells #[.int .i64 x, .int .i64 x0, .int .i64 x1] 40)
          have hcn := HR.out.cnt_
          clear hx0 hx1
          go_wp2_with (first
            | (at_builtin; go_loud (refine append_spt rfl _ _ rfl wo.heap.size (.slice so row.length sc) (row.map toSp) row.length (List.length_map _) rfl hown HR.out.nn ⟨w5.heap.size, 0, none⟩ 1 (x, x0, x1) rfl (spt_new w5 x x0 x1 _) (by omega) (by have := HE4.out.size; have := HE5.out.size; simp; omega) ?_; intro v' w6 hrow' hg' hnn; have hE6 := Lib.hid (own_alloc17 HE5.out hg'); obtain ⟨ao6, cap6, hv6⟩ := owns_slice17 hrow'; subst hv6)))
          go_roundw
          case rel =>
            have hne4 := ran_ne HRG4.out HO4.out
            refine ⟨row ++ [(x, c)], _, cnt4, HRG4.out.kept hE6.out (fun e => hne4.1 (e.trans rfl)) (fun e => hne4.2 (e.trans rfl)), ?_, hnn, fun p f => ?_, ?_, ?_, ?_⟩
            · rw [List.length_append, List.map_append, List.map_singleton]
              have e2 : toSp (x, c) = (x, x0, x1) := by unfold toSp; rw [HXY.out.1, HXY.out.2]
              rw [e2]
              exact hrow'
            · rw [List.mem_append, List.mem_singleton, HR.out.mem]
              by_cases hp : p = x
              · subst hp
                have hk : (keyI p).sameKey (keyI p) = true := by simp [keyI, Lit.sameKey]
                constructor
                · rintro (⟨q1, q2⟩ | q)
                  · rw [show keyI p = Lit.int .i64 p from rfl, HX.out.1] at q2; cases q2
                  · injection q with _ q
                    subst q
                    exact ⟨HX.out.2.1, by show (_ && !(keyI p).sameKey (keyI p)) = false; rw [hk]; simp⟩
                · rintro ⟨q1, _⟩
                  rw [HX.out.2.1] at q1
                  injection q1 with q1
                  exact .inr (by rw [q1])
              · have hk : (keyI p).sameKey (Lit.int .i64 x) = false := Maps.sameKey_ne (fun e => by unfold keyI at e; injection e with _ e; exact hp e)
                constructor
                · rintro (⟨q1, q2⟩ | q)
                  · exact ⟨q1, by show (left (keyI p) && _) = false; rw [q2]; rfl⟩
                  · injection q with q _
                    exact absurd q hp
                · rintro ⟨q1, q2⟩
                  have q3 : (left (keyI p) && !(keyI p).sameKey (Lit.int .i64 x)) = false := q2
                  rw [hk] at q3
                  exact .inl ⟨q1, by simpa using q3⟩
            · refine List.pairwise_append.2 ⟨HR.out.nod, by simp, fun a ha b hb => ?_⟩
              obtain rfl := List.mem_singleton.1 hb
              intro e
              have h1 := ((HR.out.mem a.1 a.2).1 ha).2
              rw [e] at h1
              have h2 : left (keyI x) = true := HX.out.1
              rw [h2] at h1
              cases h1
            · have := HX.out.2.2
              rw [List.length_append]
              simp
              omega
            · exact own_ext17 HO4.out HE4.out hE6.out (Nat.le_refl _)
          case measure =>
            have hne4 := ran_ne HRG4.out HO4.out
            have h1 := HRG4.out.kept hE6.out (fun e => hne4.1 (e.trans rfl)) (fun e => hne4.2 (e.trans rfl))
            rw [h1.left_eq, HRGO.out.left_eq]
            exact HX.out.2.2

end Go.Proofs.Ytigfohofbpjldaa
