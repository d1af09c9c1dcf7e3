/-
  Layer 17: the document's Go.
-/
import Derived.Test.YtigfohofbpjldaaHC
namespace Go.Proofs.Ytigfohofbpjldaa
set_option linter.unusedVariables false
set_option linter.unusedSimpArgs false
set_option maxRecDepth 100000
open Go.RowKit

def someB (L : List Fnd) (b : Int) : Bool := L.any fun f => f.bk == b
def othP (out : List Int) (b : Int) (f g : Fnd) : Bool := (g.bk != b) && (!out.contains g.bk && ((g.pl == f.pl) && decide (f.sq ≤ g.sq)))
def othB (A : List Fnd) (out : List Int) (b : Int) (f : Fnd) : Bool := A.any (othP out b f)
def mayP (A : List Fnd) (out : List Int) (b : Int) (f : Fnd) : Bool := (f.bk != b) || othB A out b f
def mayG (A' A : List Fnd) (out : List Int) (b : Int) : Bool := A'.all (mayP A out b)
def goStep (L A : List Fnd) (out : List Int) (b : Int) : List Int := if someB L b && mayG A A out b then out ++ [b] else out
/-- The blocks that may go, of the first k. -/
def goN (L A : List Fnd) : Nat → List Int
  | 0 => []
  | k + 1 => goStep L A (goN L A k) k
theorem goN_len (L A : List Fnd) : ∀ k, (goN L A k).length ≤ k
  | 0 => by simp [goN]
  | k + 1 => by
    have := goN_len L A k
    unfold goN goStep
    split
    · simp; omega
    · omega
theorem any_snoc17 (L : List Fnd) (p : Fnd → Bool) (f : Fnd) : (L ++ [f]).any p = (L.any p || p f) := by simp [List.any_append]
theorem all_snoc17 (L : List Fnd) (p : Fnd → Bool) (f : Fnd) : (L ++ [f]).all p = (L.all p && p f) := by simp [List.all_append]

abbrev OwnI17 (B : Nat) (w : World) (v : Value) (xs : List Int) : Prop := w.ownsRow B 3 1 v xs.length (xs.map (Value.int .i64))
theorem owns_le17 {w : World} {B B' : Nat} {e : TypeId} {sz : Nat} {v : Value} {n : Nat} {xs : List Value} (h : w.ownsRow B e sz v n xs) (hb : B' ≤ B) : w.ownsRow B' e sz v n xs := by
  refine ⟨h.1, ?_⟩
  rcases h.2 with h2 | ⟨g, cap, cur, h1, h2, h3⟩
  · exact .inl h2
  · exact .inr ⟨g, cap, cur, h1, Nat.le_trans hb h2, h3⟩
theorem OwnI17.ints {w : World} {B : Nat} {v : Value} {xs : List Int} (h : OwnI17 B w v xs) : Ints w v xs := by
  rcases h.2 with ⟨rfl, h0⟩ | ⟨g, cap, cur, rfl, _, _, hc, _⟩
  · exact .inl ⟨rfl, List.eq_nil_of_length_eq_zero h0⟩
  · refine .inr (.inl ⟨g, 0, cap, rfl, hc, fun i hi => ?_⟩)
    have h1 := h.cells (g := g) rfl i (.int .i64 (xs.getD i 0)) (by rw [List.getElem?_map, List.getElem?_eq_getElem hi, List.getD_eq_getElem?_getD, List.getElem?_eq_getElem hi]; rfl)
    rw [addr_add] at h1
    exact h1
section
variable {ops : Array Oper} {rest : List Oper} {o : Oper} {a : Act} {w : World} {Q : Exit → Act → World → Prop}
theorem append_int17 (hgd : o.guard = none) (s x : Operand) (ho : o.op = .call { callee := .builtin .append, args := #[s, x], argTypes := #[26, 26] }) (base : Nat) (v : Value) (xs : List Int) (n : Nat) (hn : xs.length = n) (hs : a.eval s = v) (hown : w.ownsRow base 3 1 v n (xs.map (Value.int .i64)))
    (ad : Addr) (cap : Nat) (y : Int) (hx : a.eval x = .slice (some ad) 1 cap) (hc : w.cell? ad = some (.int .i64 y)) (h63 : n ≤ 1000000) (hbase : base ≤ w.heap.size)
    (h : ∀ v' w', w'.ownsRow base 3 1 v' (n + 1) ((xs ++ [y]).map (Value.int .i64)) → w.grownBy w' v.ownBlock → wpList Try.prog ops Q rest (a.put o.dst v') w') : wpList Try.prog ops Q (o :: rest) a w := by
  obtain ⟨i0, hi, hz0, hz1, hz2⟩ := info_parts Try.infoInt
  refine wpList_append_own w hgd s x 26 ho base 3 i0 (.int .i64 0) 1 8 Try.underlying26 hi hz0 hz1 hz2 rfl (by decide) v n _ hs hown ad 1 cap [.int .i64 y] hx rfl (fun j u hj => ?_) (by simp [Value.oneCell']) (by unfold maxLen; omega) (by omega) hbase ?_
  · match j, hj with
    | 0, hj => simp at hj; subst hj; simpa [Addr.add] using hc
    | j + 1, hj => simp at hj
  · intro v' w' h1 h2 _
    exact h v' w' (by rw [List.map_append]; exact h1) h2
end

/-- What stands while blocks are asked: the pages, those that count, the blocks that go. -/
structure GoS (w1 wr : World) (lv av ov : Value) (L A : List Fnd) (out : List Int) : Prop where
  l : RowF wr lv L
  all : RowF wr av A
  own : OwnI17 w1.heap.size wr ov out
  lb : ∀ k, lv.ownBlock = some k → k < w1.heap.size
  ab : ∀ k, av.ownBlock = some k → k < w1.heap.size
  ext : w1.grownBy wr none
theorem GoS.next {w1 wr w' : World} {lv av ov : Value} {L A : List Fnd} {out : List Int} (h : GoS w1 wr lv av ov L A out) (hE : wr.grownBy w' none) : GoS w1 w' lv av ov L A out :=
  ⟨h.l.ext hE, h.all.ext hE, h.own.kept hE (Classical.em _), h.lb, h.ab, ext_trans h.ext hE⟩

theorem FCells.ext {w w' : World} {g : Nat} {f : Fnd} (h : FCells w g f) (hE : w.grownBy w' none) : FCells w' g f := .of (h.blk.ext hE)

set_option maxHeartbeats 3200000 in
theorem go17_any (lv : Value) (L : List Fnd) (B tn ep sz : Int) (w : World) (h : RowF w lv L) (hlb : ∀ k, lv.ownBlock = some k → k < w.heap.size) (hl : L.length ≤ 1000) (hB : B ≤ 1000) :
    Calls Try.prog 10 #[lv, .int .i64 B, .int .i64 tn, .int .i64 ep, .int .i64 sz] w fun e w' => (∃ v, e = .returned v ∧ OwnI17 w.heap.size w' v (goN L (cntL B tn ep sz L) B.toNat)) ∧ w.grownBy w' none := by
  have CNT := counting_any lv L B tn ep sz w h hlb hl
  obtain ⟨A, hA⟩ : ∃ A, cntL B tn ep sz L = A := ⟨_, rfl⟩
  have hal : A.length ≤ 1000 := by
    have h1 : (cntL B tn ep sz L).length ≤ L.length := List.length_filter_le _ _
    rw [hA] at h1
    omega
  rw [hA] at CNT ⊢
  obtain ⟨M, hM⟩ : ∃ M, B.toNat = M := ⟨_, rfl⟩
  rw [hM]
  have hM1000 : M ≤ 1000 := by omega
  have hcond : ∀ k : Nat, decide ((k : Int) < B) = decide (k < M) := fun k => by
    by_cases hk : k < M
    · rw [decide_eq_true hk, decide_eq_true (by omega)]
    · rw [decide_eq_false hk, decide_eq_false (by omega)]
  have HC := Lib.hid hcond
  have H0 := Lib.hid (And.intro h hlb)
  obtain ⟨ao, cap, hv, _⟩ := h
  obtain ⟨n, hn⟩ : ∃ n, L.length = n := ⟨_, rfl⟩
  obtain ⟨na, hna⟩ : ∃ n, A.length = n := ⟨_, rfl⟩
  rw [hn] at hv hl
  rw [hna] at CNT hal
  subst hv
  have HN := Lib.hid (And.intro hn hna)
  clear hn hna hlb hA hM hcond hB
  go_enter Try.func10, Try.ntmps10
  go_wp2_with (go_at_call 27; refine CNT.mono ?_; rintro e w1 ⟨⟨av, rfl, hAv⟩, hE1⟩; have HAV := Lib.hid hAv; obtain ⟨bo, bc, hbv⟩ := owns_slice17 hAv; have HE1 := Lib.hid hE1; subst hbv; clear hAv hE1)
  clear CNT
  have HS := Lib.hid (show GoS w1 w1 (.slice ao n cap) (.slice bo na bc) (.slice none 0 0) L A (goN L A 0) from ⟨H0.out.1.ext HE1.out, RowF.owns (by rw [HN.out.2]; exact HAV.out), ⟨by simp [goN], .inl ⟨rfl, rfl⟩⟩, fun k hk => by have := H0.out.2 k hk; have := HE1.out.size; omega, fun k hk => (HAV.out.lt k hk).2, Ext.refl w1⟩)
  clear HAV
  go_loopw [12, 13] (fun s i wr => ∃ (k : Nat) (ov : Value), k ≤ M ∧ i = .int .i64 k ∧ s = ov ∧ GoS w1 wr (.slice ao n cap) (.slice bo na bc) ov L A (goN L A k)) (fun _ i _ => M - (intOf i).toNat)
  case atStart => exact ⟨0, _, by omega, rfl, rfl, HS.out⟩
  case round =>
    clear HS
    obtain ⟨k, ov, hk, rfl, rfl, hS⟩ := hrel
    obtain ⟨wo, rfl⟩ : ∃ wo : World, wo = wr := ⟨_, rfl⟩
    have hck := HC.out k
    obtain ⟨out, hout⟩ : ∃ z, goN L A k = z := ⟨_, rfl⟩
    have hol : out.length ≤ 1000 := by rw [← hout]; have := goN_len L A k; omega
    rw [hout] at hS
    obtain ⟨oo, oc, hov⟩ := owns_slice17 hS.own
    obtain ⟨no, hno⟩ : ∃ z, out.length = z := ⟨_, rfl⟩
    rw [hno] at hov hol
    subst hov
    have HO := Lib.hid (And.intro hout hno)
    have HS := Lib.hid hS
    clear hS hout hno
    by_cases hlt : k < M
    · rw [decide_eq_true hlt] at hck
      go_wp2
      go_loopw [14, 36] (fun s i wr => ∃ j : Nat, j ≤ n ∧ i = .int .i64 j ∧ s = .bool (someB (L.take j) k) ∧ GoS w1 wr (.slice ao n cap) (.slice bo na bc) (.slice oo no oc) L A out) (fun _ i _ => n - (intOf i).toNat)
      case atStart => exact ⟨0, by omega, rfl, rfl, HS.out⟩
      case round =>
        clear HS
        obtain ⟨j, hj, rfl, rfl, hS⟩ := hrel
        obtain ⟨wp, rfl⟩ : ∃ wp : World, wp = wr := ⟨_, rfl⟩
        have HS := Lib.hid hS
        clear hS
        obtain ⟨sb, hsb⟩ : ∃ z, someB (L.take j) k = z := ⟨_, rfl⟩
        rw [hsb]
        have HSB := Lib.hid hsb
        clear hsb
        by_cases hlt1 : j < n
        · obtain ⟨f, hf⟩ : ∃ f, L.getD j noF = f := ⟨_, rfl⟩
          obtain ⟨ao2, cap2, hv2, hc2⟩ := HS.out.l
          obtain ⟨b, off, hao, hr⟩ := hc2 j (by rw [HN.out.1]; exact hlt1)
          simp only [Value.slice.injEq] at hv2
          obtain ⟨rfl, -, -⟩ := hv2
          subst hao
          rw [hf] at hr
          have HF := Lib.hid (take17 (by rw [HN.out.1]; exact hlt1) hf)
          have hBn := Blk.new wp 36 (fndC noF)
          clear hf hc2
          go_upto_region 10 with (first
            | (refine fnd_load rfl _ rfl rfl hr ?_)
            | (refine fnd_store _ _ rfl rfl rfl hBn rfl rfl ?_; intro w2 hb2 hg2 hs2; have HE2 := Lib.hid (g17_new (World.grownBy_alloc wp _ none) hg2 (Nat.le_refl _)); have d0 := (FCells.of hb2).bk; clear hBn hg2 hs2 hb2))
          clear hr
          obtain ⟨x0, hx0⟩ : ∃ z, f.bk = z := ⟨_, rfl⟩
          rw [hx0] at d0
          obtain ⟨z, hz⟩ : ∃ z, (x0 == (k : Int)) = z := ⟨_, rfl⟩
          have HT := Lib.hid (show someB (L.take (j + 1)) k = (sb || z) by
            rw [HF.out]
            unfold someB
            rw [any_snoc17, hx0, hz]
            have := HSB.out
            unfold someB at this
            rw [this])
          clear hx0
          cases sb
          · cases z
            · go_wp2
              go_roundw
              case rel => exact ⟨j + 1, by omega, by go_num, by rw [HT.out]; rfl, HS.out.next HE2.out⟩
              case measure => simp [intOf]; omega
            · go_wp2
              go_roundw
              case rel => exact ⟨j + 1, by omega, by go_num, by rw [HT.out]; rfl, HS.out.next HE2.out⟩
              case measure => simp [intOf]; omega
          · clear hz
            go_wp2
            go_roundw
            case rel => exact ⟨j + 1, by omega, by go_num, by rw [HT.out]; rfl, HS.out.next HE2.out⟩
            case measure => simp [intOf]; omega
        · have hjn : j = n := by omega
          rw [hjn] at HSB
          have HSM := Lib.hid (show someB L k = sb by have := HSB.out; rw [List.take_of_length_le (by rw [HN.out.1]; exact Nat.le_refl _)] at this; exact this)
          clear HSB hjn
          go_wp2
          go_loopw [15, 50] (fun s i wr => ∃ j : Nat, j ≤ na ∧ i = .int .i64 j ∧ s = .bool (mayG (A.take j) A out k) ∧ GoS w1 wr (.slice ao n cap) (.slice bo na bc) (.slice oo no oc) L A out) (fun _ i _ => na - (intOf i).toNat)
          case atStart => exact ⟨0, by omega, rfl, rfl, HS.out⟩
          case round =>
            clear HS
            obtain ⟨j, hj, rfl, rfl, hS⟩ := hrel
            obtain ⟨wq, rfl⟩ : ∃ wq : World, wq = wr := ⟨_, rfl⟩
            have HS := Lib.hid hS
            clear hS
            obtain ⟨mb, hmb⟩ : ∃ z, mayG (A.take j) A out k = z := ⟨_, rfl⟩
            rw [hmb]
            have HMB := Lib.hid hmb
            clear hmb
            by_cases hlt2 : j < na
            · obtain ⟨f, hf⟩ : ∃ f, A.getD j noF = f := ⟨_, rfl⟩
              obtain ⟨ao3, cap3, hv3, hc3⟩ := HS.out.all
              obtain ⟨b3, off3, hao3, hr⟩ := hc3 j (by rw [HN.out.2]; exact hlt2)
              simp only [Value.slice.injEq] at hv3
              obtain ⟨rfl, -, -⟩ := hv3
              subst hao3
              rw [hf] at hr
              have HF := Lib.hid (take17 (by rw [HN.out.2]; exact hlt2) hf)
              have hBn := Blk.new wq 36 (fndC noF)
              clear hf hc3
              obtain ⟨gf, hgf⟩ : ∃ z, wq.heap.size = z := ⟨_, rfl⟩
              rw [hgf] at hBn
              go_upto_region 15 with (first
                | (refine fnd_load rfl _ rfl rfl hr ?_)
                | (refine fnd_store _ _ rfl rfl rfl hBn rfl rfl ?_; intro w5 hb5 hg5 hs5; have HS5 := Lib.hid (HS.out.next (g17_new (World.grownBy_alloc wq _ none) hg5 (by omega))); have HF5 := Lib.hid (FCells.of hb5); have d0 := (FCells.of hb5).bk; clear hBn hg5 hs5 hb5 hgf))
              clear hr
              obtain ⟨x0, hx0⟩ : ∃ z, f.bk = z := ⟨_, rfl⟩
              rw [hx0] at d0
              obtain ⟨z, hz⟩ : ∃ z, (x0 != (k : Int)) = z := ⟨_, rfl⟩
              have HT := Lib.hid (show mayG (A.take (j + 1)) A out k = (mb && (z || othB A out k f)) by
                rw [HF.out]
                unfold mayG
                rw [all_snoc17]
                have := HMB.out
                unfold mayG at this
                rw [this]
                unfold mayP
                rw [hx0, hz])
              clear hx0
              cases z
              · go_wp2
                go_loopw [20, 60] (fun s i wr => ∃ l : Nat, l ≤ na ∧ i = .int .i64 l ∧ s = .bool ((A.take l).any (othP out k f)) ∧ GoS w1 wr (.slice ao n cap) (.slice (some ⟨b3, off3, none⟩) na bc) (.slice oo no oc) L A out ∧ FCells wr gf f) (fun _ i _ => na - (intOf i).toNat)
                case atStart => exact ⟨0, by omega, rfl, rfl, HS5.out, HF5.out⟩
                case round =>
                  clear HS5 HF5 HS d0
                  obtain ⟨l, hl3, rfl, rfl, hS, hF⟩ := hrel
                  obtain ⟨wt, rfl⟩ : ∃ wt : World, wt = wr := ⟨_, rfl⟩
                  have HS := Lib.hid hS
                  have HF5 := Lib.hid hF
                  clear hS hF
                  obtain ⟨ob, hob⟩ : ∃ z, (A.take l).any (othP out k f) = z := ⟨_, rfl⟩
                  rw [hob]
                  have HOB := Lib.hid hob
                  clear hob
                  by_cases hlt4 : l < na
                  · obtain ⟨g, hg⟩ : ∃ g, A.getD l noF = g := ⟨_, rfl⟩
                    obtain ⟨ao4, cap4, hv4, hc4⟩ := HS.out.all
                    obtain ⟨b4, off4, hao4, hr⟩ := hc4 l (by rw [HN.out.2]; exact hlt4)
                    simp only [Value.slice.injEq] at hv4
                    obtain ⟨rfl, -, -⟩ := hv4
                    simp only [Option.some.injEq, Addr.mk.injEq, and_true] at hao4
                    obtain ⟨rfl, rfl⟩ := hao4
                    rw [hg] at hr
                    have HG := Lib.hid (take17 (by rw [HN.out.2]; exact hlt4) hg)
                    have hBn := Blk.new wt 36 (fndC noF)
                    clear hg hc4
                    obtain ⟨gg, hgg⟩ : ∃ z, wt.heap.size = z := ⟨_, rfl⟩
                    rw [hgg] at hBn
                    go_upto_region 20 with (first
                      | (refine fnd_load rfl _ rfl rfl hr ?_)
                      | (refine fnd_store _ _ rfl rfl rfl hBn rfl rfl ?_; intro w6 hb6 hg6 hs6; have hE6 := g17_new (World.grownBy_alloc wt _ none) hg6 (by omega); have HS6 := Lib.hid (HS.out.next hE6); have HF6 := Lib.hid (HF5.out.ext hE6); have HG6 := Lib.hid (FCells.of hb6); clear hBn hg6 hs6 hb6 hE6 hgg))
                    clear hr
                    have e0 := HG6.out.bk
                    have e5 := HG6.out.pl
                    have e6 := HG6.out.sq
                    have d5 := HF6.out.pl
                    have d6 := HF6.out.sq
                    obtain ⟨y0, hy0⟩ : ∃ z, g.bk = z := ⟨_, rfl⟩
                    obtain ⟨y5, hy5⟩ : ∃ z, g.pl = z := ⟨_, rfl⟩
                    obtain ⟨y6, hy6⟩ : ∃ z, g.sq = z := ⟨_, rfl⟩
                    obtain ⟨x5, hx5⟩ : ∃ z, f.pl = z := ⟨_, rfl⟩
                    obtain ⟨x6, hx6⟩ : ∃ z, f.sq = z := ⟨_, rfl⟩
                    rw [hy0] at e0
                    rw [hy5] at e5
                    rw [hy6] at e6
                    rw [hx5] at d5
                    rw [hx6] at d6
                    obtain ⟨z1, hz1⟩ : ∃ z, (y0 != (k : Int)) = z := ⟨_, rfl⟩
                    obtain ⟨z2, hz2⟩ : ∃ z, out.contains y0 = z := ⟨_, rfl⟩
                    obtain ⟨z3, hz3⟩ : ∃ z, (y5 == x5) = z := ⟨_, rfl⟩
                    obtain ⟨z4, hz4⟩ : ∃ z, decide (x6 ≤ y6) = z := ⟨_, rfl⟩
                    have HT4 := Lib.hid (show (A.take (l + 1)).any (othP out k f) = (ob || (z1 && (!z2 && (z3 && z4)))) by
                      rw [HG.out, any_snoc17, HOB.out]
                      unfold othP
                      rw [hy0, hy5, hy6, hx5, hx6, hz1, hz2, hz3, hz4])
                    have HAS := fun wx (hI : Ints wx (.slice oo no oc) out) => has17_any (.slice oo no oc) out y0 wx hI (by have := HO.out.2; omega)
                    rw [hz2] at HAS
                    clear hy0 hy5 hy6 hx5 hx6 hz2
                    cases ob
                    · cases z1
                      · clear hz3 hz4 HAS
                        go_wp2
                        go_roundw
                        case rel => exact ⟨l + 1, by omega, by go_num, by rw [HT4.out]; rfl, HS6.out, HF6.out⟩
                        case measure => simp [intOf]; omega
                      · cases z2
                        · cases z3
                          · clear hz4
                            go_wp2_with (go_at_call 28; refine (HAS _ HS6.out.own.ints).mono ?_; rintro e w7 ⟨rfl, rfl⟩)
                            go_roundw
                            case rel => exact ⟨l + 1, by omega, by go_num, by rw [HT4.out]; rfl, HS6.out, HF6.out⟩
                            case measure => simp [intOf]; omega
                          · cases z4
                            · go_wp2_with (go_at_call 28; refine (HAS _ HS6.out.own.ints).mono ?_; rintro e w7 ⟨rfl, rfl⟩)
                              go_roundw
                              case rel => exact ⟨l + 1, by omega, by go_num, by rw [HT4.out]; rfl, HS6.out, HF6.out⟩
                              case measure => simp [intOf]; omega
                            · go_wp2_with (go_at_call 28; refine (HAS _ HS6.out.own.ints).mono ?_; rintro e w7 ⟨rfl, rfl⟩)
                              go_roundw
                              case rel => exact ⟨l + 1, by omega, by go_num, by rw [HT4.out]; rfl, HS6.out, HF6.out⟩
                              case measure => simp [intOf]; omega
                        · clear hz3 hz4
                          go_wp2_with (go_at_call 28; refine (HAS _ HS6.out.own.ints).mono ?_; rintro e w7 ⟨rfl, rfl⟩)
                          go_roundw
                          case rel => exact ⟨l + 1, by omega, by go_num, by rw [HT4.out]; rfl, HS6.out, HF6.out⟩
                          case measure => simp [intOf]; omega
                    · clear hz1 hz3 hz4 HAS
                      go_wp2
                      go_roundw
                      case rel => exact ⟨l + 1, by omega, by go_num, by rw [HT4.out]; rfl, HS6.out, HF6.out⟩
                      case measure => simp [intOf]; omega
                  · obtain rfl : l = na := by omega
                    have HOM := Lib.hid (show othB A out k f = ob by have := HOB.out; rw [List.take_of_length_le (by rw [HN.out.2]; exact Nat.le_refl _)] at this; exact this)
                    clear HOB
                    cases mb
                    · go_wp2
                      go_roundw
                      case rel => exact ⟨j + 1, by omega, by go_num, by rw [HT.out]; rfl, HS.out⟩
                      case measure => simp [intOf]; omega
                    · cases ob
                      · go_wp2
                        go_roundw
                        case rel => exact ⟨j + 1, by omega, by go_num, by rw [HT.out, HOM.out]; rfl, HS.out⟩
                        case measure => simp [intOf]; omega
                      · go_wp2
                        go_roundw
                        case rel => exact ⟨j + 1, by omega, by go_num, by rw [HT.out, HOM.out]; rfl, HS.out⟩
                        case measure => simp [intOf]; omega
              · go_wp2
                go_roundw
                case rel => exact ⟨j + 1, by omega, by go_num, by rw [HT.out]; simp, HS5.out⟩
                case measure => simp [intOf]; omega
            · obtain rfl : j = na := by omega
              have HMM := Lib.hid (show mayG A A out k = mb by have := HMB.out; rw [List.take_of_length_le (by rw [HN.out.2]; exact Nat.le_refl _)] at this; exact this)
              clear HMB
              have HST := Lib.hid (show goN L A (k + 1) = if sb && mb then out ++ [(k : Int)] else out by
                show goStep L A (goN L A k) k = _
                rw [HO.out.1]
                unfold goStep
                rw [HSM.out, HMM.out])
              cases sb
              · go_wp2
                go_roundw
                case rel => exact ⟨k + 1, _, by omega, by go_num, rfl, by rw [HST.out]; exact HS.out⟩
                case measure => simp [intOf]; omega
              · cases mb
                · go_wp2
                  go_roundw
                  case rel => exact ⟨k + 1, _, by omega, by go_num, rfl, by rw [HST.out]; exact HS.out⟩
                  case measure => simp [intOf]; omega
                · have hown := HS.out.own.alloc (.cells #[.int .i64 k] 3)
                  rw [HO.out.2] at hown
                  go_wp2_with (first
                    | (at_builtin; go_loud (refine append_int17 rfl _ _ rfl w1.heap.size (.slice oo no oc) out no HO.out.2 rfl hown ⟨wq.heap.size, 0, none⟩ 1 k rfl (by simp) (by omega) (by have := HS.out.ext.size; simp; omega) ?_; intro v' w7 hrow' hg'; have hE7 := Lib.hid (own_alloc17 (Ext.refl wq) hg'); obtain ⟨ao7, cap7, hv7⟩ := owns_slice17 hrow'; subst hv7)))
                  go_roundw
                  case rel =>
                    refine ⟨k + 1, _, by omega, by go_num, rfl, ?_⟩
                    rw [HST.out]
                    have hlow := HS.out.own.lt
                    refine ⟨HS.out.l.kept hE7.out (fun q hq e => by have := (hlow q e.symm).1; have := HS.out.lb q hq; omega), HS.out.all.kept hE7.out (fun q hq e => by have := (hlow q e.symm).1; have := HS.out.ab q hq; omega), ?_, HS.out.lb, HS.out.ab, own_ext17 HS.out.own HS.out.ext hE7.out (Nat.le_refl _)⟩
                    show World.ownsRow _ _ _ _ _ (out ++ [(k : Int)]).length _
                    rw [List.length_append, HO.out.2]
                    exact hrow'
                  case measure => simp [intOf]; omega
    · rw [decide_eq_false hlt] at hck
      obtain rfl : k = M := by omega
      go_wp2
      go_ret
      exact ⟨⟨_, rfl, by rw [HO.out.1]; exact owns_le17 HS.out.own HE1.out.size⟩, ext_trans HE1.out HS.out.ext⟩

end Go.Proofs.Ytigfohofbpjldaa
