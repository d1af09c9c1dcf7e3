/-
  Layer 17: the document's Best.
-/
import Derived.Test.YtigfohofbpjldaaHD
namespace Go.Proofs.Ytigfohofbpjldaa
set_option linter.unusedVariables false
set_option linter.unusedSimpArgs false
set_option maxRecDepth 100000
open Go.RowKit

def newF (f g : Fnd) : Bool := newerB f.sq g.sq f.cp g.cp
def lowF (f g : Fnd) : Bool := decide (f.bk < g.bk) || ((f.bk == g.bk) && decide (f.pg < g.pg))
def sameF (s : Bool) (f g : Fnd) : Bool := s && (!newF f g && !newF g f)
def bestStep (gone : List Int) (p : Int) (st : Fnd × Bool) (f : Fnd) : Fnd × Bool :=
  if gone.contains f.bk || f.pl != p then st else if !st.2 || (newF f st.1 || (sameF st.2 f st.1 && lowF f st.1)) then (f, true) else st
def bestN (A : List Fnd) (gone : List Int) (p : Int) : Fnd × Bool := A.foldl (bestStep gone p) (noF, false)
theorem bestN_snoc (A : List Fnd) (gone : List Int) (p : Int) (f : Fnd) : bestN (A ++ [f]) gone p = bestStep gone p (bestN A gone p) f := by unfold bestN; rw [List.foldl_append]; rfl
theorem results_cell17 {P : Program} {fn : Func} {p t : Tmp} {ty : TypeId} {tmps : Array Value} {w : World} {g : Nat} {bt : TypeId} {cs : Array Value} {v : Value} {d : TypeDesc} (h : fn.results = #[.cell p ty, .tmp t])
    (hp : tmps.getD p undef = .pointer (some ⟨g, 0, none⟩)) (hv : tmps.getD t undef = v) (hg : w.heap[g]? = some (.cells cs bt (0, 0)))
    (hu : P.underlying ty = some d) (hd : (match d with | .struct _ | .array _ _ => true | _ => false) = true) (hi : (P.info? ty).map (·.size) = some cs.size) :
    (results fn tmps).run P w = .ok (.tuple #[.agg cs, v]) w := by
  have hp' : tmps[p]?.getD undef = .pointer (some ⟨g, 0, none⟩) := by simpa using hp
  have hv' : tmps[t]?.getD undef = v := by simpa using hv
  simp [results, h, hp', hv', asAddr, run_loadVar_row w g bt ty cs (0, 0) d hg hu hd hi]

theorem newF_any (f g : Fnd) (w : World) : Calls Try.prog 29 #[.agg (tagC17 f), .agg (tagC17 g)] w fun e w' => e = .returned (.bool (newF f g)) ∧ w.grownBy w' none :=
  (refNewer_any f.te f.ep f.pl f.sq f.kd f.cp g.te g.ep g.pl g.sq g.kd g.cp w).mono fun e w' ⟨h1, h2⟩ => ⟨h1, by subst h2; exact ext_trans (World.grownBy_alloc w _ none) (World.grownBy_alloc _ _ none)⟩

/-- What stands while the best is sought. -/
structure BstS (w0 wr : World) (rb gb : Nat) (av gv : Value) (A : List Fnd) (gone : List Int) (st : Fnd × Bool) : Prop where
  res : Blk wr rb 36 (fndC noF)
  best : Blk wr gb 36 (fndC st.1)
  all : RowF wr av A
  gone : Ints wr gv gone
  rg : rb ≠ gb
  r0 : w0.heap.size ≤ rb
  g0 : w0.heap.size ≤ gb
  ag : ∀ k, av.ownBlock = some k → k ≠ gb
  gg : ∀ k, gv.ownBlock = some k → k ≠ gb
  ext : w0.grownBy wr none
theorem BstS.next {w0 wr w' : World} {rb gb : Nat} {av gv : Value} {A : List Fnd} {gone : List Int} {st : Fnd × Bool} (h : BstS w0 wr rb gb av gv A gone st) (hE : wr.grownBy w' none) : BstS w0 w' rb gb av gv A gone st :=
  ⟨h.res.ext hE, h.best.ext hE, h.all.ext hE, h.gone.kept hE (by simp), h.rg, h.r0, h.g0, h.ag, h.gg, ext_trans h.ext hE⟩
theorem BstS.put {w0 wr w' : World} {rb gb : Nat} {av gv : Value} {A : List Fnd} {gone : List Int} {st : Fnd × Bool} {f : Fnd} (h : BstS w0 wr rb gb av gv A gone st) (hb : Blk w' gb 36 (fndC f)) (hg : wr.grownBy w' (some gb)) : BstS w0 w' rb gb av gv A gone (f, true) :=
  ⟨h.res.kept hg (fun e => by injection e with e; exact h.rg e), hb, h.all.kept hg (fun k hk e => by injection e with e; exact h.ag k hk e), h.gone.kept hg (fun k hk e => by injection e with e; exact h.gg k hk e), h.rg, h.r0, h.g0, h.ag, h.gg, g17_new h.ext hg h.g0⟩

set_option maxHeartbeats 3200000 in
theorem best17_any (lv : Value) (L : List Fnd) (B tn ep sz p : Int) (w : World) (h : RowF w lv L) (hlb : ∀ k, lv.ownBlock = some k → k < w.heap.size) (hl : L.length ≤ 1000) (hB : B ≤ 1000) :
    Calls Try.prog 12 #[lv, .int .i64 B, .int .i64 tn, .int .i64 ep, .int .i64 sz, .int .i64 p] w fun e w' =>
      e = .returned (.tuple #[.agg (fndC (bestN (cntL B tn ep sz L) (goN L (cntL B tn ep sz L) B.toNat) p).1), .bool (bestN (cntL B tn ep sz L) (goN L (cntL B tn ep sz L) B.toNat) p).2]) ∧ w.grownBy w' none := by
  have CNT := fun wx (hE : w.grownBy wx none) => counting_any lv L B tn ep sz wx (h.ext hE) (fun k hk => by have := hlb k hk; have := hE.size; omega) hl
  have GO := fun wx (hE : w.grownBy wx none) => go17_any lv L B tn ep sz wx (h.ext hE) (fun k hk => by have := hlb k hk; have := hE.size; omega) hl hB
  obtain ⟨A, hA⟩ : ∃ A, cntL B tn ep sz L = A := ⟨_, rfl⟩
  have hal : A.length ≤ 1000 := by
    have h1 : (cntL B tn ep sz L).length ≤ L.length := List.length_filter_le _ _
    rw [hA] at h1
    omega
  rw [hA] at CNT GO ⊢
  obtain ⟨gone, hgo⟩ : ∃ z, goN L A B.toNat = z := ⟨_, rfl⟩
  have hgl : gone.length ≤ 1000 := by rw [← hgo]; have := goN_len L A B.toNat; omega
  rw [hgo] at GO ⊢
  obtain ⟨na, hna⟩ : ∃ n, A.length = n := ⟨_, rfl⟩
  obtain ⟨ng, hng⟩ : ∃ n, gone.length = n := ⟨_, rfl⟩
  rw [hna] at CNT hal
  rw [hng] at hgl
  obtain ⟨bb, hbb⟩ : ∃ z, bestN A gone p = z := ⟨_, rfl⟩
  rw [hbb]
  have HN := Lib.hid (And.intro hna (And.intro hng hbb))
  have hb1 := Blk.new w 36 (fndC noF)
  have HE0 := Lib.hid (World.grownBy_alloc w (.cells (fndC noF) 36) none)
  have HB1 := Lib.hid hb1
  obtain ⟨rb, hrb⟩ : ∃ z, w.heap.size = z := ⟨_, rfl⟩
  have HRB := Lib.hid hrb
  have HG := Lib.hid GO
  have HCN := Lib.hid CNT
  clear hna hng hbb hA hgo hb1 hB hlb h hrb GO CNT
  have GO := HG.out _ HE0.out
  go_enter Try.func12, Try.ntmps12
  go_wp2_with (first
    | (go_at_call 10; refine GO.mono ?_; rintro e w1 ⟨⟨gv, rfl, hgv⟩, hE1⟩; have hB2 := Blk.new w1 36 (fndC noF); have HGV := Lib.hid hgv; have HE1 := Lib.hid hE1; have hE2 := ext_trans (ext_trans HE0.out hE1) (World.grownBy_alloc w1 (.cells (fndC noF) 36) none); have HE2 := Lib.hid hE2; have HB2 := Lib.hid hB2; have CN2 := HCN.out _ hE2; obtain ⟨go_, gc, hgvs⟩ := owns_slice17 hgv; clear hgv hE1 hE2 hB2)
    | (go_at_call 27; refine CN2.mono ?_; rintro e w2 ⟨⟨av, rfl, hav⟩, hE3⟩; have HAV := Lib.hid hav; have HE3 := Lib.hid hE3; obtain ⟨bo, bc, hbv⟩ := owns_slice17 hav; clear hav hE3))
  subst hgvs
  subst hbv
  have HS := Lib.hid (show BstS w w2 w.heap.size w1.heap.size (.slice bo na bc) (.slice go_ gone.length gc) A gone (bestN (A.take 0) gone p) from by
    have hs1 := HE1.out.size
    have hA1 := World.grownBy_alloc w1 (.cells (fndC noF) 36) none
    have hs2 := hA1.size
    rw [show (w.alloc (.cells (fndC noF) 36)).heap.size = w.heap.size + 1 by simp] at hs1
    refine ⟨((HB1.out.ext HE1.out).ext hA1).ext HE3.out, HB2.out.ext HE3.out, RowF.owns (by rw [HN.out.1]; exact HAV.out), ((HGV.out.ints.kept hA1 (by simp)).kept HE3.out (by simp)), by omega, Nat.le_refl _, by omega, fun k hk => ?_, fun k hk => ?_, ext_trans HE2.out HE3.out⟩
    · have := (HAV.out.lt k hk).1
      simp at this
      omega
    · have := (HGV.out.lt k hk).2
      omega)
  rw [HN.out.2.1] at HS ⊢
  clear HB1 HB2 HAV HGV HE1 HE2 HE3 HE0 HRB HG HCN GO
  go_loopw [16, 34] (fun s i wr => ∃ (j : Nat) (st : Fnd × Bool), j ≤ na ∧ i = .int .i64 j ∧ s = .bool st.2 ∧ bestN (A.take j) gone p = st ∧ BstS w wr w.heap.size w1.heap.size (.slice bo na bc) (.slice go_ ng gc) A gone st) (fun _ i _ => na - (intOf i).toNat)
  case atStart => exact ⟨0, _, by omega, rfl, rfl, rfl, HS.out⟩
  case round =>
    clear HS
    obtain ⟨j, ⟨bst, s⟩, hj, rfl, rfl, hst, hS⟩ := hrel
    obtain ⟨wq, rfl⟩ : ∃ wq : World, wq = wr := ⟨_, rfl⟩
    have HS := Lib.hid hS
    have HST := Lib.hid hst
    clear hS hst
    by_cases hlt : j < na
    · obtain ⟨f, hf⟩ : ∃ f, A.getD j noF = f := ⟨_, rfl⟩
      obtain ⟨ao3, cap3, hv3, hc3⟩ := HS.out.all
      obtain ⟨b3, off3, hao3, hr⟩ := hc3 j (by rw [HN.out.1]; exact hlt)
      simp only [Value.slice.injEq] at hv3
      obtain ⟨rfl, -, -⟩ := hv3
      subst hao3
      rw [hf] at hr
      have HF := Lib.hid (take17 (by rw [HN.out.1]; exact hlt) hf)
      have hBn := Blk.new wq 36 (fndC noF)
      clear hf hc3
      have hstep : bestN (A.take (j + 1)) gone p = bestStep gone p (bst, s) f := by rw [HF.out, bestN_snoc, HST.out]
      unfold bestStep at hstep
      simp only at hstep
      have HT := Lib.hid hstep
      clear hstep HF HST
      obtain ⟨gf, hgf⟩ : ∃ z, wq.heap.size = z := ⟨_, rfl⟩
      rw [hgf] at hBn
      have hgf2 : wq.heap.size ≤ gf := by omega
      go_upto_region 7 with (first
        | (refine fnd_load rfl _ rfl rfl hr ?_)
        | (refine fnd_store _ _ rfl rfl rfl hBn rfl rfl ?_; intro w5 hb5 hg5 hs5; have HS5 := Lib.hid (HS.out.next (g17_new (World.grownBy_alloc wq _ none) hg5 hgf2)); have HF5 := Lib.hid (FCells.of hb5); have d0 := (FCells.of hb5).bk; have d5 := (FCells.of hb5).pl; clear hBn hg5 hs5 hb5 hgf hgf2))
      clear hr HS
      obtain ⟨x0, hx0⟩ : ∃ z, f.bk = z := ⟨_, rfl⟩
      obtain ⟨x5, hx5⟩ : ∃ z, f.pl = z := ⟨_, rfl⟩
      rw [hx0] at d0
      rw [hx5] at d5
      obtain ⟨z1, hz1⟩ : ∃ z, gone.contains x0 = z := ⟨_, rfl⟩
      obtain ⟨z2, hz2⟩ : ∃ z, (x5 != p) = z := ⟨_, rfl⟩
      have HAS := has17_any (.slice go_ ng gc) gone x0 w5 HS5.out.gone (by have := HN.out.2.1; omega)
      rw [hz1] at HAS
      have HT2 := HT.out
      rw [hx0, hx5, hz1, hz2] at HT2
      have HT := Lib.hid HT2
      clear HT2 hz1 hx5
      cases z1
      · cases z2
        · go_upto_region 8 with (go_at_call 28; refine HAS.mono ?_; rintro e w6 ⟨rfl, rfl⟩)
          clear HAS d0 d5 hx0
          obtain ⟨sm, hsm⟩ : ∃ z, sameF s f bst = z := ⟨_, rfl⟩
          obtain ⟨lw, hlw⟩ : ∃ z, lowF f bst = z := ⟨_, rfl⟩
          obtain ⟨n1, hn1⟩ : ∃ z, newF f bst = z := ⟨_, rfl⟩
          obtain ⟨n2, hn2⟩ : ∃ z, newF bst f = z := ⟨_, rfl⟩
          have HT2 := HT.out
          rw [hsm, hlw, hn1] at HT2
          have HT := Lib.hid HT2
          have hsm2 : sm = (s && (!n1 && !n2)) := by rw [← hsm, ← hn1, ← hn2]; rfl
          have HSM := Lib.hid hsm2
          have HLW := Lib.hid hlw
          clear HT2 hsm hlw hsm2
          go_cut [19] (fun x wx => x = .bool sm ∧ BstS w wx w.heap.size w1.heap.size (.slice (some ⟨b3, off3, none⟩) na bc) (.slice go_ ng gc) A gone (bst, s) ∧ FCells wx gf f)
          case first =>
            have hbf := HF5.out.blk
            have hbb := HS5.out.best
            have HA := Lib.hid (Ext.refl w5)
            cases s
            · go_wp2
              go_meet
              exact ⟨by rw [HSM.out]; rfl, HS5.out, HF5.out⟩
            · cases n1
              · cases n2
                · go_wp2_with (first
                  | (refine tag_load17 rfl _ rfl rfl hbf ?_)
                  | (refine tag_load17 rfl _ rfl rfl hbb ?_)
                  | (go_at_call 29; refine (newF_any _ _ _).mono ?_; rintro e w6 ⟨rfl, hE6⟩; have HA := Lib.hid (ext_trans HA.out hE6); have hbf := hbf.ext hE6; have hbb := hbb.ext hE6; clear hE6))
                  go_meet
                  exact ⟨by rw [HSM.out]; rfl, HS5.out.next HA.out, HF5.out.ext HA.out⟩
                · go_wp2_with (first
                  | (refine tag_load17 rfl _ rfl rfl hbf ?_)
                  | (refine tag_load17 rfl _ rfl rfl hbb ?_)
                  | (go_at_call 29; refine (newF_any _ _ _).mono ?_; rintro e w6 ⟨rfl, hE6⟩; have HA := Lib.hid (ext_trans HA.out hE6); have hbf := hbf.ext hE6; have hbb := hbb.ext hE6; clear hE6))
                  go_meet
                  exact ⟨by rw [HSM.out]; rfl, HS5.out.next HA.out, HF5.out.ext HA.out⟩
              · go_wp2_with (first
                  | (refine tag_load17 rfl _ rfl rfl hbf ?_)
                  | (refine tag_load17 rfl _ rfl rfl hbb ?_)
                  | (go_at_call 29; refine (newF_any _ _ _).mono ?_; rintro e w6 ⟨rfl, hE6⟩; have HA := Lib.hid (ext_trans HA.out hE6); have hbf := hbf.ext hE6; have hbb := hbb.ext hE6; clear hE6))
                go_meet
                exact ⟨by rw [HSM.out]; rfl, HS5.out.next HA.out, HF5.out.ext HA.out⟩
          case rest =>
            obtain ⟨rfl, hS8, hF8⟩ := hcut
            have HS8 := Lib.hid hS8
            have HF8 := Lib.hid hF8
            have e0 := hF8.bk
            have e1 := hF8.pg
            have b0 := (FCells.of hS8.best).bk
            have b1 := (FCells.of hS8.best).pg
            obtain ⟨x1, hx1⟩ : ∃ z, f.pg = z := ⟨_, rfl⟩
            obtain ⟨y0, hy0⟩ : ∃ z, bst.bk = z := ⟨_, rfl⟩
            obtain ⟨y1, hy1⟩ : ∃ z, bst.pg = z := ⟨_, rfl⟩
            obtain ⟨x9, hx9⟩ : ∃ z, f.bk = z := ⟨_, rfl⟩
            obtain ⟨l1, hl1⟩ : ∃ z, decide (x9 < y0) = z := ⟨_, rfl⟩
            obtain ⟨l2, hl2⟩ : ∃ z, (x9 == y0) = z := ⟨_, rfl⟩
            obtain ⟨l3, hl3⟩ : ∃ z, decide (x1 < y1) = z := ⟨_, rfl⟩
            have hlw2 := HLW.out
            unfold lowF at hlw2
            rw [hx9, hy0, hx1, hy1, hl1, hl2, hl3] at hlw2
            have HLW2 := Lib.hid hlw2
            rw [hx9] at e0
            rw [hx1] at e1
            rw [hy0] at b0
            rw [hy1] at b1
            clear hS8 hF8 hx1 hy0 hy1 hx9 hlw2
            go_upto_region 9 with fail
            go_cut [20] (fun x wx => x = .bool lw ∧ wc = wx)
            case first =>
              cases l1
              · cases l2
                · clear hl3
                  go_wp2
                  go_meet
                  exact ⟨by rw [← HLW2.out]; rfl, rfl⟩
                · cases l3
                  · go_wp2
                    go_meet
                    exact ⟨by rw [← HLW2.out]; rfl, rfl⟩
                  · go_wp2
                    go_meet
                    exact ⟨by rw [← HLW2.out]; rfl, rfl⟩
              · clear hl2 hl3
                go_wp2
                go_meet
                exact ⟨by rw [← HLW2.out]; rfl, rfl⟩
            case rest =>
              obtain ⟨rfl, hwc⟩ := hcut
              subst hwc
              have HA := Lib.hid (Ext.refl wc)
              have hbf := HF8.out.blk
              have hbb := HS8.out.best
              clear e0 e1 b0 b1 hl1 hl2 hl3 HLW2 HSM HLW hn2
              cases s
              · clear hn1
                go_wp2_with (first
                                | (refine tag_load17 rfl _ rfl rfl hbf ?_)
                                | (refine tag_load17 rfl _ rfl rfl hbb ?_)
                                | (go_at_call 29; refine (newF_any _ _ _).mono ?_; rintro e w6 ⟨rfl, hE6⟩; have HA := Lib.hid (ext_trans HA.out hE6); have hbf := hbf.ext hE6; have hbb := hbb.ext hE6; clear hE6)
                                | (refine fnd_load rfl _ rfl rfl hbf.range17 ?_)
                                | (refine fnd_store _ _ rfl rfl rfl hbb rfl rfl ?_; intro w9 hb9 hg9 hs9; have HS9 := Lib.hid ((HS8.out.next HA.out).put hb9 hg9); clear hb9 hg9 hs9))
                go_roundw
                case rel => exact ⟨j + 1, (f, true), by omega, by go_num, rfl, by rw [HT.out]; rfl, HS9.out⟩
                case measure => simp [intOf]; omega
              · cases n1
                · cases sm
                  · go_wp2_with (first
                                    | (refine tag_load17 rfl _ rfl rfl hbf ?_)
                                    | (refine tag_load17 rfl _ rfl rfl hbb ?_)
                                    | (go_at_call 29; refine (newF_any _ _ _).mono ?_; rintro e w6 ⟨rfl, hE6⟩; have HA := Lib.hid (ext_trans HA.out hE6); have hbf := hbf.ext hE6; have hbb := hbb.ext hE6; clear hE6)
                                    | (refine fnd_load rfl _ rfl rfl hbf.range17 ?_)
                                    | (refine fnd_store _ _ rfl rfl rfl hbb rfl rfl ?_; intro w9 hb9 hg9 hs9; have HS9 := Lib.hid ((HS8.out.next HA.out).put hb9 hg9); clear hb9 hg9 hs9))
                    go_roundw
                    case rel => exact ⟨j + 1, (bst, _), by omega, by go_num, rfl, by rw [HT.out]; rfl, HS8.out.next HA.out⟩
                    case measure => simp [intOf]; omega
                  · cases lw
                    · go_wp2_with (first
                                      | (refine tag_load17 rfl _ rfl rfl hbf ?_)
                                      | (refine tag_load17 rfl _ rfl rfl hbb ?_)
                                      | (go_at_call 29; refine (newF_any _ _ _).mono ?_; rintro e w6 ⟨rfl, hE6⟩; have HA := Lib.hid (ext_trans HA.out hE6); have hbf := hbf.ext hE6; have hbb := hbb.ext hE6; clear hE6)
                                      | (refine fnd_load rfl _ rfl rfl hbf.range17 ?_)
                                      | (refine fnd_store _ _ rfl rfl rfl hbb rfl rfl ?_; intro w9 hb9 hg9 hs9; have HS9 := Lib.hid ((HS8.out.next HA.out).put hb9 hg9); clear hb9 hg9 hs9))
                      go_roundw
                      case rel => exact ⟨j + 1, (bst, _), by omega, by go_num, rfl, by rw [HT.out]; rfl, HS8.out.next HA.out⟩
                      case measure => simp [intOf]; omega
                    · go_wp2_with (first
                                      | (refine tag_load17 rfl _ rfl rfl hbf ?_)
                                      | (refine tag_load17 rfl _ rfl rfl hbb ?_)
                                      | (go_at_call 29; refine (newF_any _ _ _).mono ?_; rintro e w6 ⟨rfl, hE6⟩; have HA := Lib.hid (ext_trans HA.out hE6); have hbf := hbf.ext hE6; have hbb := hbb.ext hE6; clear hE6)
                                      | (refine fnd_load rfl _ rfl rfl hbf.range17 ?_)
                                      | (refine fnd_store _ _ rfl rfl rfl hbb rfl rfl ?_; intro w9 hb9 hg9 hs9; have HS9 := Lib.hid ((HS8.out.next HA.out).put hb9 hg9); clear hb9 hg9 hs9))
                      go_roundw
                      case rel => exact ⟨j + 1, (f, true), by omega, by go_num, rfl, by rw [HT.out]; rfl, HS9.out⟩
                      case measure => simp [intOf]; omega
                · go_wp2_with (first
                                  | (refine tag_load17 rfl _ rfl rfl hbf ?_)
                                  | (refine tag_load17 rfl _ rfl rfl hbb ?_)
                                  | (go_at_call 29; refine (newF_any _ _ _).mono ?_; rintro e w6 ⟨rfl, hE6⟩; have HA := Lib.hid (ext_trans HA.out hE6); have hbf := hbf.ext hE6; have hbb := hbb.ext hE6; clear hE6)
                                  | (refine fnd_load rfl _ rfl rfl hbf.range17 ?_)
                                  | (refine fnd_store _ _ rfl rfl rfl hbb rfl rfl ?_; intro w9 hb9 hg9 hs9; have HS9 := Lib.hid ((HS8.out.next HA.out).put hb9 hg9); clear hb9 hg9 hs9))
                  go_roundw
                  case rel => exact ⟨j + 1, (f, true), by omega, by go_num, rfl, by rw [HT.out]; rfl, HS9.out⟩
                  case measure => simp [intOf]; omega
        · clear hx0
          go_wp2_with (go_at_call 28; refine HAS.mono ?_; rintro e w6 ⟨rfl, rfl⟩)
          go_roundw
          case rel => exact ⟨j + 1, (bst, s), by omega, by go_num, rfl, by rw [HT.out]; rfl, HS5.out⟩
          case measure => simp [intOf]; omega
      · clear hz2 hx0
        go_wp2_with (go_at_call 28; refine HAS.mono ?_; rintro e w6 ⟨rfl, rfl⟩)
        go_roundw
        case rel => exact ⟨j + 1, (bst, s), by omega, by go_num, rfl, by rw [HT.out]; rfl, HS5.out⟩
        case measure => simp [intOf]; omega
    · obtain rfl : j = na := by omega
      have hh := HST.out
      rw [List.take_of_length_le (by rw [HN.out.1]; exact Nat.le_refl _), HN.out.2.2] at hh
      subst hh
      have hbb := HS.out.best
      have hrr := HS.out.res
      go_wp2_with (first
        | (refine fnd_load rfl _ rfl rfl hbb.range17 ?_)
        | (refine fnd_store _ _ rfl rfl rfl hrr rfl rfl ?_; intro w6 hb6 hg6 hs6))
      refine bodyPost_ret (v := .tuple #[.agg (fndC bst), .bool s]) (results_cell17 (fn := Try.f12) rfl rfl rfl hb6 Try.underlying36 rfl Try.sizeFnd) rfl ?_
      exact ⟨rfl, g17_new HS.out.ext hg6 HS.out.r0⟩

end Go.Proofs.Ytigfohofbpjldaa
