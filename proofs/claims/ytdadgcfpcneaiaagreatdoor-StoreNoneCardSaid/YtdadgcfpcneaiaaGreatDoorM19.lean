/-
  Texts put together: JG JH YD JI.
-/
import Derived.Test.YtdadgcfpcneaiaaGreatDoorM18
import Derived.Deep.LoopGhost
/-
  Layer 18 (store): copyTo.
-/
namespace Go.Proofs.YtdadgcfpcneaiaaGreatDoor
set_option linter.unusedVariables false
set_option linter.unusedSimpArgs false
set_option linter.unusedVariables false
set_option linter.unusedSimpArgs false
set_option maxRecDepth 100000
open Go.RowKit

/-- What stands while pages are copied. -/
structure CpyS (p : SP) (c : SC) (m : SM) (w0 wr : World) (v : Value) (L : List Fnd) (tg : Int) (k0 : Int) (j : Nat) (n : NS) : Prop where
  st : StAt wr p c { m with n := n }
  row : RowF wr v L
  kp : Keeps (tS p c) w0 wr
  eq : copyR c tg L 0 m.n = copyR c tg (L.drop j) j n
  cn : Cnt n (k0 + 3 * j)

section
variable {w w' : World} {p : SP} {c : SC} {m : SM}

set_option maxHeartbeats 3200000 in
theorem copyTo18 (h : StAt w p c m) (ok : StOk p c) {k : Int} (hcn : Cnt m.n k) (hk : k < 1152921504606846000) {b : Nat} (hb : b < c.bl.length) (v : Value) (L : List Fnd) (hv : RowF w v L) (hvo : ∀ q, v.ownBlock = some q → tS p c q = 0) (hl : L.length ≤ 64) (hd : ∀ f ∈ L, f.dt.size ≤ 160) :
    Calls Tryz.prog 108 #[.pointer (some ⟨p.sb, 0, none⟩), .int .i64 (b : Int), v] w (Gs p c (.int .i64 (copyR c b L 0 m.n).1) { m with n := (copyR c b L 0 m.n).2 } w) := by
  have PR := Lib.hid (fun (wx : World) (s : NS) (kk : Int) (hx : StAt wx p c { m with n := s }) (hc : Cnt s kk) (hk : kk < 1152921504606846976) (i : Nat) (f : Fnd) (hf : f.dt.size ≤ 160) => program18 hx ok hc hk hb (i : Int) f.te f.ep f.pl f.sq f.kd true f.dt (by omega))
  have HS := Lib.hid (show CpyS p c m w w v L b k 0 m.n from ⟨h, hv, Keeps.refl _ w, rfl, by simpa using hcn⟩)
  obtain ⟨ao, cap, hve, _⟩ := hv
  obtain ⟨n, hn⟩ : ∃ n, L.length = n := ⟨_, rfl⟩
  rw [hn] at hve hl
  subst hve
  have HN := Lib.hid (And.intro hn (And.intro hvo hd))
  clear h hcn hn hvo hd hb
  obtain ⟨E, hE⟩ : ∃ z, (copyR c b L 0 m.n).1 = z := ⟨_, rfl⟩
  obtain ⟨M, hM⟩ : ∃ z : SM, { m with n := (copyR c b L 0 m.n).2 } = z := ⟨_, rfl⟩
  rw [hE, hM]
  have HEM := Lib.hid (And.intro hE hM)
  clear hE hM
  go_enter Tryz.func108, Tryz.ntmps108
  go_wp2
  go_loopw [12] (fun i wr => ∃ (j : Nat) (s : NS), j ≤ n ∧ i = .int .i64 j ∧ CpyS p c m w wr (.slice ao n cap) L b k j s) (fun i _ => n - (intOf i).toNat)
  case atStart => exact ⟨0, m.n, by omega, rfl, HS.out⟩
  case round =>
    clear HS
    obtain ⟨j, s, hj, rfl, hS⟩ := hrel
    obtain ⟨wo, rfl⟩ : ∃ wo : World, wo = wr := ⟨_, rfl⟩
    have HS := Lib.hid hS
    clear hS
    by_cases hlt : j < n
    · obtain ⟨f, hf⟩ : ∃ f, L.getD j noF = f := ⟨_, rfl⟩
      obtain ⟨ao2, cap2, hv2, hc2⟩ := HS.out.row
      obtain ⟨g, off, hao, hr⟩ := hc2 j (by rw [HN.out.1]; exact hlt)
      simp only [Value.slice.injEq] at hv2
      obtain ⟨rfl, -, -⟩ := hv2
      subst hao
      rw [hf] at hr
      have hjl : j < L.length := by rw [HN.out.1]; exact hlt
      have hdrop : L.drop j = f :: L.drop (j + 1) := by
        rw [List.drop_eq_getElem_cons hjl]
        rw [List.getD_eq_getElem?_getD, List.getElem?_eq_getElem hjl] at hf
        congr 1
      have hfd : f.dt.size ≤ 160 := HN.out.2.2 f (by
        rw [List.getD_eq_getElem?_getD, List.getElem?_eq_getElem hjl] at hf
        have h2 : L[j] = f := hf
        rw [← h2]
        exact List.getElem_mem _)
      have HDR := Lib.hid hdrop
      have hBn := Blk.new wo 92 (fndC noF)
      clear hf hc2 hjl hdrop
      obtain ⟨fb, hfb⟩ : ∃ z, wo.heap.size = z := ⟨_, rfl⟩
      rw [hfb] at hBn
      have HFB := Lib.hid hfb
      have FR := Lib.hid (HS.out.st.fresh (k := fb) (by omega))
      go_upto_region 4 with (first
        | (refine fnd_load rfl _ rfl rfl hr ?_)
        | (refine fnd_store _ _ rfl rfl rfl hBn rfl rfl ?_; intro w2 hb2 hg2 hs2; have hE2 := g17_new (World.grownBy_alloc wo _ none) hg2 (by omega); have hb3 := hb2.set 8 (.bool true); have f8 := hb2.free 8; have c8 := hb2.cell 8; have HE2 := Lib.hid hE2; clear hBn hg2 hs2 hE2))
      clear hr hfb
      have c8 : w2.cell? ⟨fb, 8, none⟩ = some (.bool f.cp) := hb2.cell 8
      go_upto_region 5 with fail
      obtain ⟨w3, hw3⟩ : ∃ y, w2.setCell ⟨fb, 8, none⟩ (.bool true) = y := ⟨_, rfl⟩
      rw [hw3] at hb3 ⊢
      have hb4 : Blk w3 fb 92 (fndC { f with cp := true }) := hb3
      have hE3 : wo.grownBy w3 none := by rw [← hw3]; exact g17_new HE2.out (gb_set (gb_refl w2 (some fb)) _ _) (by have := HFB.out; omega)
      have h3 := HS.out.st.ext ok hE3
      have HE3 := Lib.hid hE3
      have c9 : w3.cell? ⟨fb, 9, none⟩ = some (.string f.dt) := hb4.cell 9
      clear c8 f8 hb2 hb3 hw3 HE2
      have P := PR.out w3 s (k + 3 * j) h3 HS.out.cn (by omega) j f hfd
      have hstep : copyR c b L 0 m.n = if prgE c s b j f.pl f.sq f.kd f.te f.ep true f.dt = 0 then copyR c b (L.drop (j + 1)) (j + 1) (prgS c s b j f.pl f.sq f.kd f.te f.ep true f.dt) else (prgE c s b j f.pl f.sq f.kd f.te f.ep true f.dt, prgS c s b j f.pl f.sq f.kd f.te f.ep true f.dt) := by
        rw [HS.out.eq, HDR.out, copyR]
      have hcn2 := cnt_prg HS.out.cn b j f.pl f.sq f.kd f.te f.ep true f.dt (c := c)
      generalize prgE c s b j f.pl f.sq f.kd f.te f.ep true f.dt = er at *
      generalize prgS c s b j f.pl f.sq f.kd f.te f.ep true f.dt = s2 at *
      have HST := Lib.hid (And.intro hstep hcn2)
      clear hstep hcn2 h3 hE3
      by_cases h0 : er = 0
      · have h0' : (er != 0) = false := by simp [h0]
        have H0 := Lib.hid h0
        clear h0
        go_wp2_with (first
          | (refine tag_load17 rfl _ rfl rfl hb4 ?_)
          | (go_at_call 125; refine P.mono ?_; rintro e w4 ⟨rfl, hA4, hk4⟩))
        go_roundw
        case rel =>
          have hkk := (Keeps.ext (T := tS p c) HE3.out).trans hk4
          refine ⟨j + 1, s2, by omega, by go_num, hA4, HS.out.row.keeps hkk (by rw [show (Value.slice (some ⟨g, off, none⟩) n cap) = _ from rfl]; exact HN.out.2.1), HS.out.kp.trans hkk, by rw [HST.out.1, if_pos H0.out], HST.out.2.mono18 (by omega)⟩
        case measure => simp [intOf]; omega
      · have h0' : (er != 0) = true := by simpa using h0
        have H0 := Lib.hid h0
        clear h0
        go_wp2_with (first
          | (refine tag_load17 rfl _ rfl rfl hb4 ?_)
          | (go_at_call 125; refine P.mono ?_; rintro e w4 ⟨rfl, hA4, hk4⟩))
        go_ret
        have hq := HEM.out
        rw [HST.out.1, if_neg H0.out] at hq
        obtain ⟨rfl, rfl⟩ := hq
        exact ⟨rfl, hA4, (HS.out.kp.trans (Keeps.ext HE3.out)).trans hk4⟩
    · obtain rfl : j = n := by omega
      go_wp2
      go_ret
      have hq := HEM.out
      rw [HS.out.eq, List.drop_of_length_le (by rw [HN.out.1]; exact Nat.le_refl _), copyR] at hq
      obtain ⟨rfl, rfl⟩ := hq
      exact ⟨rfl, HS.out.st, HS.out.kp⟩
end

end Go.Proofs.YtdadgcfpcneaiaaGreatDoor

/-
  Layer 18 (store): settle.
-/
namespace Go.Proofs.YtdadgcfpcneaiaaGreatDoor
set_option linter.unusedVariables false
set_option linter.unusedSimpArgs false
set_option linter.unusedVariables false
set_option linter.unusedSimpArgs false
set_option maxRecDepth 100000
open Go.RowKit

/-- What stands while the copies are settled. -/
structure StlS (p : SP) (c : SC) (m : SM) (w0 wr : World) (v : Value) (L : List Fnd) (tg : Int) (j : Nat) (rs : List R14) : Prop where
  st : StAt wr p c { m with fr := tg, rs := rs }
  row : RowF wr v L
  kp : Keeps (tS p c) w0 wr
  eq : setlR c tg L 0 m.rs = setlR c tg (L.drop j) j rs

section
variable {w w' : World} {p : SP} {c : SC} {m : SM}

set_option maxHeartbeats 3200000 in
theorem settle18 (h : StAt w p c m) (ok : StOk p c) (tg : Int) (v : Value) (L : List Fnd) (hv : RowF w v L) (hvo : ∀ q, v.ownBlock = some q → tS p c q = 0) (hl : L.length ≤ 64) :
    Calls Tryz.prog 109 #[.pointer (some ⟨p.sb, 0, none⟩), .int .i64 tg, v] w (Gs p c (.int .i64 (setlR c tg L 0 m.rs).1) { m with fr := tg, rs := (setlR c tg L 0 m.rs).2 } w) := by
  have SE := Lib.hid (fun (wx : World) (rs : List R14) (hx : StAt wx p c { m with fr := tg, rs := rs }) (q b i : Int) => tabSet hx.tb q b i (by have := hx.tb.len; omega))
  have PL := Lib.hid (fun (wx : World) (rs : List R14) (hx : StAt wx p c { m with fr := tg, rs := rs }) (b i : Int) => tabPlace hx.tb b i)
  have hk0 : Keeps (tS p c) w (w.setCell ⟨p.sb, 10, none⟩ (.int .i64 tg)) := Keeps.own18 (gb_set (gb_refl w _) _ _) (.inl rfl)
  have c10 := h.cells.2.2.2.2.2.2.2.2.2.1
  have f10 := h.bk.free 10
  have HS := Lib.hid (show StlS p c m w (w.setCell ⟨p.sb, 10, none⟩ (.int .i64 tg)) v L tg 0 m.rs from ⟨h.setFr ok tg, hv.keeps hk0 hvo, hk0, rfl⟩)
  obtain ⟨ao, cap, hve, _⟩ := hv
  obtain ⟨n, hn⟩ : ∃ n, L.length = n := ⟨_, rfl⟩
  rw [hn] at hve hl
  subst hve
  have HN := Lib.hid (And.intro hn hvo)
  clear h hn hvo hk0
  obtain ⟨E, hE⟩ : ∃ z, (setlR c tg L 0 m.rs).1 = z := ⟨_, rfl⟩
  obtain ⟨M, hM⟩ : ∃ z : SM, { m with fr := tg, rs := (setlR c tg L 0 m.rs).2 } = z := ⟨_, rfl⟩
  rw [hE, hM]
  have HEM := Lib.hid (And.intro hE hM)
  clear hE hM
  go_enter Tryz.func109, Tryz.ntmps109
  go_upto_region 2 with fail
  clear c10 f10
  obtain ⟨w1, hw1⟩ : ∃ y, w.setCell ⟨p.sb, 10, none⟩ (.int .i64 tg) = y := ⟨_, rfl⟩
  rw [hw1] at HS ⊢
  clear hw1
  go_wp2
  go_loopw [17] (fun i wr => ∃ (j : Nat) (rs : List R14), j ≤ n ∧ i = .int .i64 j ∧ StlS p c m w wr (.slice ao n cap) L tg j rs) (fun i _ => n - (intOf i).toNat)
  case atStart => exact ⟨0, m.rs, by omega, rfl, HS.out⟩
  case round =>
    clear HS
    obtain ⟨j, rs, hj, rfl, hS⟩ := hrel
    obtain ⟨wo, rfl⟩ : ∃ wo : World, wo = wr := ⟨_, rfl⟩
    have HS := Lib.hid hS
    clear hS
    by_cases hlt : j < n
    · obtain ⟨f, hf⟩ : ∃ f, L.getD j noF = f := ⟨_, rfl⟩
      obtain ⟨ao2, cap2, hv2, hc2⟩ := HS.out.row
      obtain ⟨g, off, hao, hr⟩ := hc2 j (by rw [HN.out.1]; exact hlt)
      simp only [Value.slice.injEq] at hv2
      obtain ⟨rfl, -, -⟩ := hv2
      subst hao
      rw [hf] at hr
      have hjl : j < L.length := by rw [HN.out.1]; exact hlt
      have hdrop : L.drop j = f :: L.drop (j + 1) := by
        rw [List.drop_eq_getElem_cons hjl]
        rw [List.getD_eq_getElem?_getD, List.getElem?_eq_getElem hjl] at hf
        congr 1
      have HDR := Lib.hid hdrop
      have hBn := Blk.new wo 92 (fndC noF)
      clear hf hc2 hjl hdrop
      obtain ⟨fb, hfb⟩ : ∃ z, wo.heap.size = z := ⟨_, rfl⟩
      rw [hfb] at hBn
      have HFB := Lib.hid hfb
      have FR := HS.out.st.fresh (k := fb) (by omega)
      go_upto_region 5 with (first
        | (refine fnd_load rfl _ rfl rfl hr ?_)
        | (refine fnd_store _ _ rfl rfl rfl hBn rfl rfl ?_; intro w2 hb2 hg2 hs2; have hE2 := g17_new (World.grownBy_alloc wo _ none) hg2 (by omega); have HE2 := Lib.hid hE2; clear hBn hg2 hs2 hE2))
      clear hr hfb
      have h2 := HS.out.st.ext ok HE2.out
      have d0 : w2.cell? ⟨fb, 0, none⟩ = some (.int .i64 f.bk) := hb2.cell 0
      have d1 : w2.cell? ⟨fb, 1, none⟩ = some (.int .i64 f.pg) := hb2.cell 1
      have hS2 : w2.drew.cell? ⟨p.sb, 7, none⟩ = some (.pointer (some ⟨p.tb, 0, none⟩)) ∧ w2.drew.cell? ⟨fb, 0, none⟩ = some (.int .i64 f.bk) ∧ w2.drew.cell? ⟨fb, 1, none⟩ = some (.int .i64 f.pg) := ⟨h2.cells.2.2.2.2.2.2.1, d0, d1⟩
      have hd2 := h2.ext ok (Ext.drew w2)
      have P := PL.out w2.drew rs hd2 f.bk f.pg
      clear h2 d0 d1 hb2
      refine region_line [(0, true), (1, true), (2, true), (3, true), (4, true), (5, true), (6, true), (7, true), (8, false), (9, true)] (fun y => y.cell? ⟨p.sb, 7, none⟩ = some (.pointer (some ⟨p.tb, 0, none⟩)) ∧ y.cell? ⟨fb, 0, none⟩ = some (.int .i64 f.bk) ∧ y.cell? ⟨fb, 1, none⟩ = some (.int .i64 f.pg)) (by kernel_rfl) (by kernel_rfl) (fun _ _ _ d _ h => by cases d <;> exact h) hS2 ?_
      repeat (refine line_read (a' := ?_) rfl (by kernel_rfl) (by kernel_rfl) hS2 (fun y hy K hK => ?_) ?_; rotate_left; · obtain ⟨c7, d0, d1⟩ := hy; go_wp2; exact hK)
      refine line_act (by rfl) (fun K hK => ?_)
      go_wp2_with (go_at_call 98; refine P.mono ?_; rintro e w3 ⟨rfl, rfl⟩)
      refine hK _ _ (fun y => y.cell? ⟨p.sb, 7, none⟩ = some (.pointer (some ⟨p.tb, 0, none⟩)) ∧ y.cell? ⟨fb, 0, none⟩ = some (.int .i64 f.bk) ∧ y.cell? ⟨fb, 1, none⟩ = some (.int .i64 f.pg)) hS2 (fun _ h => h) ?_
      clear hK K
      repeat (refine line_read (a' := ?_) rfl (by kernel_rfl) (by kernel_rfl) hS2 (fun y hy K hK => ?_) ?_; rotate_left; · go_wp2; exact hK)
      refine line_end ?_
      have c7 := hS2.1
      have S2 := SE.out w2.drew rs hd2 (placeN rs f.bk f.pg) tg (j : Int)
      have hstep : setlR c tg L 0 m.rs = if setE c.bl.length c.S.pg rs (placeN rs f.bk f.pg) tg j = 0 then setlR c tg (L.drop (j + 1)) (j + 1) (setR c.bl.length c.S.pg rs (placeN rs f.bk f.pg) tg j) else (setE c.bl.length c.S.pg rs (placeN rs f.bk f.pg) tg j, rs) := by
        rw [HS.out.eq, HDR.out, setlR]
      have hsame : setE c.bl.length c.S.pg rs (placeN rs f.bk f.pg) tg j ≠ 0 → setR c.bl.length c.S.pg rs (placeN rs f.bk f.pg) tg j = rs := fun h => by unfold setR; rw [if_neg h]
      generalize placeN rs f.bk f.pg = pl at *
      generalize setE c.bl.length c.S.pg rs pl tg j = er at *
      generalize setR c.bl.length c.S.pg rs pl tg j = rs2 at *
      have HST := Lib.hid (And.intro hstep hsame)
      have HD2 := Lib.hid hd2
      clear hstep hsame hd2 hS2 P
      by_cases h0 : er = 0
      · have h0' : (er != 0) = false := by simp [h0]
        have H0 := Lib.hid h0
        clear h0
        go_wp2_with (go_at_call 62; refine S2.mono ?_; rintro e w4 ⟨rfl, hA4, hg4⟩)
        go_roundw
        case rel =>
          have hkk : Keeps (tS p c) wo w4 := (Keeps.ext (T := tS p c) (ext_trans HE2.out (Ext.drew w2))).trans (Keeps.own18 hg4 (.inr (.inl rfl)))
          exact ⟨j + 1, rs2, by omega, by go_num, HD2.out.tab ok hA4 hg4, HS.out.row.keeps hkk HN.out.2, HS.out.kp.trans hkk, by rw [HST.out.1, if_pos H0.out]⟩
        case measure => simp [intOf]; omega
      · have h0' : (er != 0) = true := by simpa using h0
        have H0 := Lib.hid h0
        clear h0
        go_wp2_with (go_at_call 62; refine S2.mono ?_; rintro e w4 ⟨rfl, hA4, hg4⟩)
        go_ret
        have hkk : Keeps (tS p c) wo w4 := (Keeps.ext (T := tS p c) (ext_trans HE2.out (Ext.drew w2))).trans (Keeps.own18 hg4 (.inr (.inl rfl)))
        have hq := HEM.out
        rw [HST.out.1, if_neg H0.out] at hq
        obtain ⟨rfl, rfl⟩ := hq
        have h4 := HD2.out.tab ok hA4 hg4
        rw [HST.out.2 H0.out] at h4
        exact ⟨rfl, h4, HS.out.kp.trans hkk⟩
    · obtain rfl : j = n := by omega
      go_wp2
      go_ret
      have hq := HEM.out
      rw [HS.out.eq, List.drop_of_length_le (by rw [HN.out.1]; exact Nat.le_refl _), setlR] at hq
      obtain ⟨rfl, rfl⟩ := hq
      exact ⟨rfl, HS.out.st, HS.out.kp⟩
end

end Go.Proofs.YtdadgcfpcneaiaaGreatDoor

/-
  Layer 18 (store): the model stays within bounds.
-/
namespace Go.Proofs.YtdadgcfpcneaiaaGreatDoor
set_option linter.unusedVariables false
set_option linter.unusedSimpArgs false
set_option linter.unusedVariables false
set_option linter.unusedSimpArgs false
set_option maxRecDepth 100000
open Go.RowKit

/-- Pages hold what they may. -/
structure PgOk (s : NS) : Prop where
  bs : ∀ i j, Byts (s.L i j).bs
  bn : ∀ i j, (s.L i j).bs.length ≤ 32
  dn : ∀ i j, (s.L i j).dt.size ≤ 160
theorem PgOk.of {s s' : NS} (h : PgOk s) (he : s'.L = s.L) : PgOk s' := ⟨fun i j => by rw [he]; exact h.bs i j, fun i j => by rw [he]; exact h.bn i j, fun i j => by rw [he]; exact h.dn i j⟩
theorem PgOk.turn {s : NS} (h : PgOk s) (i j : Nat) (x : Pg) (h1 : Byts x.bs) (h2 : x.bs.length ≤ 32) (h3 : x.dt.size ≤ 160) : PgOk (turnPg i j x s) := by
  refine ⟨fun a b => ?_, fun a b => ?_, fun a b => ?_⟩
  all_goals
    show _
    simp only [turnPg]
    split
    · simp only
      split
      · assumption
      · first | exact h.bs _ _ | exact h.bn _ _ | exact h.dn _ _
    · first | exact h.bs _ _ | exact h.bn _ _ | exact h.dn _ _
theorem PgOk.fill {s : NS} (h : PgOk s) (i k : Nat) (x : Int) : PgOk (fillTo i k x s) := by
  refine ⟨fun a b => ?_, fun a b => ?_, fun a b => ?_⟩
  all_goals
    simp only [fillTo]
    split
    · simp only
      split
      · first | (intro y hy; simp [Pg.none] at hy; done) | (simp [Pg.none]; done) | (show (0 : Nat) ≤ 160; omega)
      · first | exact h.bs _ _ | exact h.bn _ _ | exact h.dn _ _
    · first | exact h.bs _ _ | exact h.bn _ _ | exact h.dn _ _
theorem pg_oper {zs : Nat → List Int} {s : NS} {who : Int} {sp dn : NS → NS} (h : PgOk s) (hsp : ∀ s, PgOk s → PgOk (sp s)) (hdn : ∀ s, PgOk s → PgOk (dn s)) : PgOk (operS zs s who sp dn) := by
  have h1 : PgOk (spendS s) := h.of rfl
  have h2 : PgOk (drawS zs (spendS s) who) := h1.of (draw_L _ _ _)
  unfold operS
  split
  · exact h1
  · split
    · exact hsp _ h1
    · split
      · exact hsp _ h2
      · exact hdn _ h2
theorem pg_prog {S : NShape} {zs : Nat → List Int} {s : NS} (h : PgOk s) (who i j : Int) (bs : List Int) (dt : ByteArray) (hb : Byts bs) : PgOk (progS S zs s who i j bs dt) := by
  unfold progS
  split
  · rename_i hc
    exact pg_oper h (fun s hs => hs.turn _ _ _ (hs.bs _ _) (hs.bn _ _) (hs.dn _ _)) (fun s hs => hs.turn _ _ _ hb (by have := hc.2.1; simp only; omega) (by have := hc.2.1; simp only; omega))
  · exact h
theorem pg_prg {c : SC} {s : NS} (h : PgOk s) (b pg pl sq kd te ep : Int) (cp : Bool) (dt : ByteArray) : PgOk (prgS c s b pg pl sq kd te ep cp dt) := by
  unfold prgS
  split
  · rename_i hk
    exact pg_prog h _ _ _ _ _ (by
      unfold tagBL
      rw [if_pos hk]
      exact frL_byts (tagL_byts _ _ _ _ _ _))
  · exact h
theorem pg_ers {S : NShape} {zs : Nat → List Int} {s : NS} (h : PgOk s) (who i : Int) : PgOk (ersS S zs s who i) := by
  unfold ersS
  split
  · exact pg_oper h (fun s hs => hs.fill _ _ _) (fun s hs => (hs.fill _ _ _).of rfl)
  · exact h
theorem pg_mark {S : NShape} {s : NS} (h : PgOk s) (i : Int) : PgOk (markS S s i) := by
  unfold markS
  split
  · split
    · exact h.of rfl
    · exact h.of rfl
  · exact h
theorem pg_copy {c : SC} {tg : Int} : ∀ (L : List Fnd) (i : Nat) (s : NS), PgOk s → PgOk (copyR c tg L i s).2
  | [], i, s, h => h
  | f :: l, i, s, h => by
    have h1 := pg_prg (c := c) h tg i f.pl f.sq f.kd f.te f.ep true f.dt
    unfold copyR
    split
    · exact pg_copy l (i + 1) _ h1
    · exact h1

theorem Wf.pg {c : SC} {m : SM} {k : Int} (h : Wf c m k) : PgOk m.n := ⟨h.bs, h.bn, h.dn⟩
theorem Wf.mk' {c : SC} {m : SM} {k : Int} (hc : Cnt m.n k) (hp : PgOk m.n) (h1 : 0 ≤ m.sq ∧ m.sq ≤ k) (h2 : m.q.length ≤ 4) (h3 : ∀ x ∈ m.q, x.dt.size ≤ 16) (h4 : -1 ≤ m.fr ∧ m.fr < c.bl.length) : Wf c m k := ⟨hc, h1, h2, h3, h4, hp.bs, hp.bn, hp.dn⟩
/-- The array is another one. -/
theorem Wf.nand {c : SC} {m : SM} {k k' : Int} (h : Wf c m k) {s : NS} (hc : Cnt s k') (hp : PgOk s) (hk : k ≤ k') : Wf c { m with n := s } k' :=
  Wf.mk' hc hp ⟨h.sq.1, Int.le_trans h.sq.2 hk⟩ h.ql h.qd h.fr
theorem Wf.mono {c : SC} {m : SM} {k k' : Int} (h : Wf c m k) (hk : k ≤ k') : Wf c m k' := Wf.mk' (h.cn.mono18 hk) h.pg ⟨h.sq.1, Int.le_trans h.sq.2 hk⟩ h.ql h.qd h.fr
theorem wf_give {c : SC} {m : SM} {k : Int} (h : Wf c m k) (b spoken : Int) : Wf c (giveM c m b spoken) (k + 3) := by
  unfold giveM
  split
  · exact h.nand (cnt_mark h.cn _) (pg_mark h.pg _) (by omega)
  · exact Wf.mk' (h.cn.mono18 (by omega)) h.pg ⟨h.sq.1, by have := h.sq.2; simp only; omega⟩ h.ql h.qd h.fr
theorem wf_aff {c : SC} {m : SM} {k : Int} (h : Wf c m k) (spoken : Int) : Wf c (affM c m spoken) k := by
  unfold affM
  split
  · exact h
  · exact Wf.mk' h.cn h.pg h.sq h.ql h.qd h.fr
theorem wf_era {c : SC} {m : SM} {k : Int} (h : Wf c m k) (b : Int) : Wf c (eraM c m b) (k + 6) := by
  have h1 : Wf c { m with n := ersS c.S c.zs m.n c.who (c.ph b) } (k + 3) := h.nand (cnt_ers h.cn _ _) (pg_ers h.pg _ _) (by omega)
  unfold eraM
  split
  · exact h1.mono (by omega)
  · exact (wf_give h1 b 0).mono (by omega)
theorem free_in {c : SC} {m : SM} {x : Int} (h : x ∈ freeL c m) : ∃ b : Nat, x = b ∧ b < c.bl.length ∧ freeB c m b = true := by
  unfold freeL at h
  obtain ⟨b, hb, rfl⟩ := List.mem_map.1 h
  have h1 := List.mem_filter.1 hb
  exact ⟨b, rfl, List.mem_range.1 h1.1, h1.2⟩
theorem wf_move {c : SC} {row : List Fnd} {spoken : Int} (hl : row.length ≤ 64) : ∀ (j : Nat) (m : SM) (k : Int) (e : Int) (m' : SM), Wf c m k → moveF c row spoken j m = some (e, m') → Wf c m' (k + 200 * j)
  | 0, m, k, e, m', h, hm => by simp [moveF] at hm
  | j + 1, m, k, e, m', h, hm => by
    unfold moveF at hm
    cases hf : freeL c m with
    | nil =>
      rw [hf] at hm
      simp only [Option.some.injEq, Prod.mk.injEq] at hm
      rw [← hm.2]; exact h.mono (by omega)
    | cons tg l =>
      rw [hf] at hm
      simp only at hm
      obtain ⟨b, hb, hbl, _⟩ := free_in (c := c) (m := m) (x := tg) (by rw [hf]; simp)
      have hc1 := (cnt_copy (c := c) (tg := tg) row 0 m.n k h.cn).mono18 (m := k + 192) (by omega)
      have h1 : Wf c { m with n := (copyR c tg row 0 m.n).2 } (k + 192) := h.nand hc1 (pg_copy _ _ _ h.pg) (by omega)
      have h2 := wf_give h1 tg spoken
      split at hm
      · simp only [Option.some.injEq, Prod.mk.injEq] at hm
        rw [← hm.2]
        have h3 : Wf c { m with n := (copyR c tg row 0 m.n).2, fr := tg, rs := (setlR c tg row 0 m.rs).2 } (k + 192) := Wf.mk' h1.cn h1.pg h1.sq h1.ql h1.qd ⟨by simp only; omega, by simp only; omega⟩
        exact h3.mono (by omega)
      · split at hm
        · simp only [Option.some.injEq, Prod.mk.injEq] at hm
          rw [← hm.2]; exact h1.mono (by omega)
        · split at hm
          · simp only [Option.some.injEq, Prod.mk.injEq] at hm
            rw [← hm.2]; exact h2.mono (by omega)
          · exact (wf_move hl j _ _ e m' h2 hm).mono (by omega)
theorem wf_moveR {c : SC} {m : SM} {b spoken : Int} {j : Nat} {k : Int} {e : Int} {m' : SM} (hp : c.S.pg ≤ 16) (h : Wf c m k) (hm : moveR c m b spoken j = some (e, m')) : Wf c m' (k + 200 * j) := by
  unfold moveR at hm
  split at hm
  · simp only [Option.some.injEq, Prod.mk.injEq] at hm
    rw [← hm.2]; exact h.mono (by omega)
  · exact wf_move (by have := needR_len (c := c) (m := m) (b := b) c.S.pg; omega) j m k e m' h hm
theorem wf_coll {c : SC} {m : SM} {b : Int} {j : Nat} {k : Int} {e : Int} {m' : SM} (hp : c.S.pg ≤ 16) (h : Wf c m k) (hm : collR c m b j = some (e, m')) : Wf c m' (k + 200 * j + 6) := by
  unfold collR at hm
  split at hm
  · cases hm
  · rename_i e1 m1 h1
    have hw := wf_moveR hp h h1
    split at hm
    · simp only [Option.some.injEq, Prod.mk.injEq] at hm
      rw [← hm.2]; exact hw.mono (by omega)
    · simp only [Option.some.injEq, Prod.mk.injEq] at hm
      rw [← hm.2]; exact wf_era hw b
theorem wf_room {c : SC} {m : SM} {j : Nat} {k : Int} {e : Int} {m' : SM} (hp : c.S.pg ≤ 16) (h : Wf c m k) (hm : roomR c m j = some (e, m')) : Wf c m' (k + 200 * j + 6) := by
  unfold roomR at hm
  split at hm
  · simp only [Option.some.injEq, Prod.mk.injEq] at hm
    rw [← hm.2]; exact h.mono (by omega)
  · split at hm
    · rename_i hf
      simp only [Option.some.injEq, Prod.mk.injEq] at hm
      rw [← hm.2]
      refine Wf.mono (k := k) (Wf.mk' h.cn h.pg h.sq h.ql h.qd ?_) (by omega)
      cases hl : freeL c m with
      | nil =>
        rw [hl] at hf
        have : (0 : Int) ≤ sprN c m := by unfold sprN; split <;> omega
        simp at hf
        omega
      | cons x l =>
        obtain ⟨b, hb, hbl, _⟩ := free_in (c := c) (m := m) (x := x) (by rw [hl]; simp)
        simp only [List.headD_cons]
        omega
    · split at hm
      · simp only [Option.some.injEq, Prod.mk.injEq] at hm
        rw [← hm.2]; exact h.mono (by omega)
      · exact wf_coll hp h hm
theorem wf_put {c : SC} {m : SM} {k : Int} (h : Wf c m k) (x : Chg) : Wf c (putM c m x) (k + 4) := by
  unfold putM
  split
  · exact Wf.mk' ((cnt_prg h.cn _ _ _ _ _ _ _ _ _).mono18 (by omega)) (pg_prg h.pg _ _ _ _ _ _ _ _ _) ⟨by have := h.sq; simp only; omega, by have := h.sq; simp only; omega⟩ h.ql h.qd h.fr
  · exact (h.nand (cnt_prg h.cn _ _ _ _ _ _ _ _ _) (pg_prg h.pg _ _ _ _ _ _ _ _ _) (by omega)).mono (by omega)
theorem wf_leav {c : SC} {m : SM} {j : Nat} {k : Int} {e : Int} {m' : SM} (hp : c.S.pg ≤ 16) (h : Wf c m k) (hm : leavR c m j = some (e, m')) : Wf c m' (k + 200 * j + 3) := by
  unfold leavR at hm
  split at hm
  · split at hm
    · cases hm
    · rename_i e1 m1 h1
      have hw := wf_moveR hp h h1
      split at hm
      · simp only [Option.some.injEq, Prod.mk.injEq] at hm
        rw [← hm.2]; exact hw.mono (by omega)
      · simp only [Option.some.injEq, Prod.mk.injEq] at hm
        rw [← hm.2]; exact hw.nand (cnt_mark hw.cn _) (pg_mark hw.pg _) (by omega)
  · simp only [Option.some.injEq, Prod.mk.injEq] at hm
    rw [← hm.2]
    exact Wf.mono (k := k) (Wf.mk' h.cn h.pg h.sq h.ql h.qd h.fr) (by omega)
theorem wf_chg {c : SC} {x : Chg} {k : Nat} (hp : c.S.pg ≤ 16) : ∀ (j : Nat) (m : SM) (n : Int) (e : Int) (m' : SM), Wf c m n → chgR c x k j m = some (e, m') → Wf c m' (n + (400 * k + 20) * j)
  | 0, m, n, e, m', h, hm => by simp [chgR] at hm
  | j + 1, m, n, e, m', h, hm => by
    unfold chgR at hm
    have hmul : (400 * (k : Int) + 20) * ((j + 1 : Nat) : Int) = (400 * (k : Int) + 20) * (j : Int) + (400 * (k : Int) + 20) := by rw [Int.natCast_add, Int.mul_add]; simp
    have hpos : 0 ≤ (400 * (k : Int) + 20) * (j : Int) := Int.mul_nonneg (by omega) (by omega)
    split at hm
    · cases hm
    · rename_i e1 m1 h1
      have hw := wf_room hp h h1
      have hw2 := wf_put hw x
      split at hm
      · simp only [Option.some.injEq, Prod.mk.injEq] at hm
        rw [← hm.2]; exact hw.mono (by omega)
      · split at hm
        · simp only [Option.some.injEq, Prod.mk.injEq] at hm
          rw [← hm.2]; exact hw2.mono (by omega)
        · split at hm
          · cases hm
          · rename_i e2 m2 h2
            have hw3 := wf_leav hp hw2 h2
            split at hm
            · simp only [Option.some.injEq, Prod.mk.injEq] at hm
              rw [← hm.2]; exact hw3.mono (by omega)
            · exact (wf_chg hp j m2 _ e m' hw3 hm).mono (by omega)
theorem wf_fir {c : SC} {k : Nat} {m : SM} {n : Int} {e : Int} {m' : SM} (hp : c.S.pg ≤ 16) (h : Wf c m n) (hm : firR c k m = some (e, m')) : Wf c m' (n + (400 * k + 20) * k) := by
  have hpos : 0 ≤ (400 * (k : Int) + 20) * (k : Int) := Int.mul_nonneg (by omega) (by omega)
  unfold firR at hm
  split at hm
  · simp only [Option.some.injEq, Prod.mk.injEq] at hm
    rw [← hm.2]; exact h.mono (by omega)
  · split at hm
    · cases hm
    · rename_i e1 m1 h1
      have hw := wf_chg hp k m n e1 m1 h h1
      split at hm
      · simp only [Option.some.injEq, Prod.mk.injEq] at hm
        rw [← hm.2]; exact hw
      · simp only [Option.some.injEq, Prod.mk.injEq] at hm
        rw [← hm.2]
        exact Wf.mk' hw.cn hw.pg hw.sq (by have := hw.ql; simp only [List.length_drop]; omega) (fun y hy => hw.qd y (List.mem_of_mem_drop hy)) hw.fr

end Go.Proofs.YtdadgcfpcneaiaaGreatDoor

/-
  Layer 18 (store): move.
-/
namespace Go.Proofs.YtdadgcfpcneaiaaGreatDoor
set_option linter.unusedVariables false
set_option linter.unusedSimpArgs false
set_option linter.unusedVariables false
set_option linter.unusedSimpArgs false
set_option maxRecDepth 100000
open Go.RowKit

theorem fdF_dt {c : SC} {n : NS} (h : PgOk n) (b pg : Int) : (fdF c n b pg).dt.size ≤ 160 := by
  have h0 : noF.dt.size ≤ 160 := by show (0 : Nat) ≤ 160; omega
  have ht : ∀ x y, (tornF x y).dt.size ≤ 160 := fun _ _ => by show (0 : Nat) ≤ 160; omega
  have h1 : (oneF c n b pg).dt.size ≤ 160 := by
    unfold oneF
    split
    · unfold findF
      split
      · exact ht _ _
      · split
        · unfold fndOf
          split
          · exact h.dn _ _
          · exact ht _ _
        · exact h0
    · exact h0
  unfold fdF
  split
  · exact h0
  · exact h1
theorem needR_dt {c : SC} {m : SM} (h : PgOk m.n) (b : Int) : ∀ k, ∀ f ∈ (needR c m b k).1, f.dt.size ≤ 160
  | 0, f, hf => by simp [needR] at hf
  | k + 1, f, hf => by
    rw [needR] at hf
    split at hf
    · exact needR_dt h b k f hf
    · split at hf
      · exact needR_dt h b k f hf
      · split at hf
        · rcases List.mem_append.1 hf with hf | hf
          · exact needR_dt h b k f hf
          · simp at hf
            rw [hf]
            exact fdF_dt h b k
        · simp at hf

/-- What stands between the tries of a move. -/
structure MovS (p : SP) (c : SC) (w0 wr : World) (v : Value) (row : List Fnd) (spoken : Int) (k0 : Int) (j g : Nat) (e : Int) (m' m : SM) : Prop where
  st : StAt wr p c m
  wf : Wf c m (k0 + 200 * ((j : Int) - g))
  rw_ : RowF wr v row
  kp : Keeps (tS p c) w0 wr
  eq : moveF c row spoken g m = some (e, m')
  le : g ≤ j

section
variable {w w' : World} {p : SP} {c : SC} {m : SM}

set_option maxHeartbeats 3200000 in
theorem move18 (h : StAt w p c m) (ok : StOk p c) {k : Int} (wf : Wf c m k) (hs : -9223372036854775000 ≤ c.sp ∧ c.sp ≤ 9223372036854775000) (b spoken : Int) (j : Nat) (hk : k + 200 * j < 1152921504606840000) {e : Int} {m' : SM} (hm : moveR c m b spoken j = some (e, m')) :
    Calls Tryz.prog 81 #[.pointer (some ⟨p.sb, 0, none⟩), .int .i64 b, .int .i64 spoken] w (Gs p c (.int .i64 e) m' w) := by
  have ND := needed18 h ok wf b
  have hpg := ok.R.bds.2.2.2
  have hdt := needR_dt (c := c) wf.pg b c.S.pg
  have hlen := needR_len (c := c) (m := m) (b := b) c.S.pg
  have FR := Lib.hid (fun q (hq : w.heap.size ≤ q) => h.fresh hq)
  have SA := Lib.hid (fun (wx : World) (hE : w.grownBy wx none) => h.ext ok hE)
  have GV := Lib.hid (fun (wx : World) (mx : SM) (hx : StAt wx p c mx) => give18 hx ok)
  have CP := Lib.hid (fun (wx : World) (mx : SM) (hx : StAt wx p c mx) (kk : Int) (hc : Cnt mx.n kk) (hk : kk < 1152921504606846000) (tb : Nat) (hb : tb < c.bl.length) (v : Value) (L : List Fnd) (hv : RowF wx v L) (hvo : ∀ q, v.ownBlock = some q → tS p c q = 0) (hl : L.length ≤ 64) (hd : ∀ f ∈ L, f.dt.size ≤ 160) => copyTo18 hx ok hc hk hb v L hv hvo hl hd)
  have SL := Lib.hid (fun (wx : World) (mx : SM) (hx : StAt wx p c mx) (tg : Int) (v : Value) (L : List Fnd) (hv : RowF wx v L) (hvo : ∀ q, v.ownBlock = some q → tS p c q = 0) (hl : L.length ≤ 64) => settle18 hx ok tg v L hv hvo hl)
  have GU := Lib.hid (fun (wx : World) (mx : SM) (hx : StAt wx p c mx) (kk : Int) (hc : Cnt mx.n kk) (hk : kk < 1152921504606846976) (tb : Nat) (hb : tb < c.bl.length) => giveUp18 hx ok hc hk hs hb spoken)
  unfold moveR at hm
  obtain ⟨row, hrow⟩ : ∃ z, (needR c m b c.S.pg).1 = z := ⟨_, rfl⟩
  obtain ⟨er, her⟩ : ∃ z, (needR c m b c.S.pg).2 = z := ⟨_, rfl⟩
  rw [hrow] at ND hdt hlen hm
  rw [her] at ND hm
  have WF := Lib.hid (And.intro wf (And.intro hdt hlen))
  clear h wf hrow her hdt hlen
  unfold PagesP at ND
  by_cases h0 : er = 0
  · rw [if_neg (by simp [h0])] at hm
    have h0' : (er != 0) = false := by simp [h0]
    have HM := Lib.hid hm
    clear h0 hm
    obtain ⟨nr, hnr⟩ : ∃ z, row.length = z := ⟨_, rfl⟩
    rw [hnr] at ND
    have HNR := Lib.hid hnr
    clear hnr
    go_enter Tryz.func81, Tryz.ntmps81
    go_wp2_with (go_at_call 107; refine ND.mono ?_; rintro e1 w1 ⟨v1, rfl, hown, hg1⟩; have HW := Lib.hid (And.intro hown hg1); obtain ⟨ao1, cp1, hv1⟩ := owns_slice17 hown; subst hv1; clear hown hg1)
    clear ND
    have HS := Lib.hid (show MovS p c w w1 (.slice ao1 nr cp1) row spoken k j j e m' m from ⟨SA.out _ HW.out.2, WF.out.1.mono (by omega), RowF.owns (by rw [HNR.out]; exact HW.out.1), Keeps.ext HW.out.2, HM.out, Nat.le_refl _⟩)
    have HV := Lib.hid (show ∀ q, (Value.slice ao1 nr cp1).ownBlock = some q → tS p c q = 0 from fun q hq => FR.out q (HW.out.1.lt q hq).1)
    clear HW HM
    go_loopg [9] j (fun g _ wr => ∃ mx, MovS p c w wr (.slice ao1 nr cp1) row spoken k j g e m' mx)
    case atStart => exact ⟨m, HS.out⟩
    case round =>
      clear HS
      obtain ⟨mx, hS⟩ := hrel
      match gk, hS with
      | 0, hS => exact absurd hS.eq (by simp [moveF])
      | g + 1, hS =>
        obtain ⟨wo, rfl⟩ : ∃ wo : World, wo = wr := ⟨_, rfl⟩
        have G := GV.out wo mx hS.st
        have heq := hS.eq
        unfold moveF at heq
        cases hf : freeL c mx with
        | nil =>
          rw [hf] at heq G
          simp only [Option.some.injEq, Prod.mk.injEq, List.headD_nil, List.isEmpty_nil, Bool.not_true] at heq G
          obtain ⟨rfl, rfl⟩ := heq
          have HS := Lib.hid hS
          clear hS hf
          go_wp2_with (go_at_call 24; refine G.mono ?_; rintro e2 w2 ⟨rfl, hg2⟩)
          go_ret
          exact ⟨rfl, HS.out.st.ext ok hg2, HS.out.kp.trans (Keeps.ext hg2)⟩
        | cons tg l =>
          rw [hf] at heq G
          simp only [List.headD_cons, List.isEmpty_cons, Bool.not_false] at heq G
          obtain ⟨tb, htb, htl, _⟩ := free_in (c := c) (m := mx) (x := tg) (by rw [hf]; simp)
          subst htb
          have HS := Lib.hid hS
          have HTL := Lib.hid htl
          clear hf htl
          have hle := hS.le
          have hwf := hS.wf
          have hcl := (cnt_copy (c := c) (tg := (tb : Int)) row 0 mx.n _ hwf.cn)
          have hpc := pg_copy (c := c) (tg := (tb : Int)) row 0 mx.n hwf.pg
          have hrl := WF.out.2.2
          have hwf1 : Wf c { mx with n := (copyR c tb row 0 mx.n).2 } (k + 200 * ((j : Int) - (g + 1 : Nat)) + 192) := hwf.nand (hcl.mono18 (by omega)) hpc (by omega)
          have hkk : k + 200 * ((j : Int) - (g + 1 : Nat)) + 192 < 1152921504606846000 := by omega
          have C1 := fun wx (hx : wo.grownBy wx none) => CP.out wx mx (HS.out.st.ext ok hx) _ hwf.cn (by omega) tb HTL.out _ row (HS.out.rw_.ext hx) HV.out (by omega) WF.out.2.1
          have S1 := fun wx (hx : StAt wx p c { mx with n := (copyR c tb row 0 mx.n).2 }) (hr : RowF wx (.slice ao1 nr cp1) row) => SL.out wx _ hx (tb : Int) _ row hr HV.out (by omega)
          have U1 := fun wx (hx : StAt wx p c { mx with n := (copyR c tb row 0 mx.n).2 }) => GU.out wx _ hx _ hwf1.cn (by omega) tb HTL.out
          have hwf2 := wf_give hwf1 (tb : Int) spoken
          generalize (copyR c tb row 0 mx.n).1 = e1 at *
          generalize (copyR c tb row 0 mx.n).2 = n1 at *
          simp only at S1
          generalize (setlR c tb row 0 mx.rs).1 = e3 at *
          generalize (setlR c tb row 0 mx.rs).2 = r3 at *
          generalize giveE c { mx with n := n1 } tb spoken = e2 at *
          obtain ⟨m2, hm2⟩ : ∃ z, giveM c { mx with n := n1 } tb spoken = z := ⟨_, rfl⟩
          rw [hm2] at heq U1 hwf2
          have HW2 := Lib.hid (And.intro hwf2 (And.intro hle hkk))
          clear hS hle hwf hcl hpc hrl hwf1 hwf2 hkk hm2
          by_cases a0 : e1 = 0
          · rw [if_pos a0] at heq
            simp only [Option.some.injEq, Prod.mk.injEq] at heq
            obtain ⟨rfl, rfl⟩ := heq
            have a0' : (e1 == 0) = true := by simpa using a0
            clear a0 U1
            go_wp2_with (first
              | (go_at_call 24; refine G.mono ?_; rintro e2 w2 ⟨rfl, hg2⟩; have C2 := C1 _ hg2; have HG2 := Lib.hid hg2; clear hg2)
              | (go_at_call 108; refine C2.mono ?_; rintro e2 w3 ⟨rfl, hA3, hk3⟩; have S2 := S1 _ hA3 (HS.out.rw_.keeps ((Keeps.ext HG2.out).trans hk3) HV.out); have HK3 := Lib.hid (HS.out.kp.trans ((Keeps.ext HG2.out).trans hk3)); clear hA3 hk3)
              | (go_at_call 109; refine S2.mono ?_; rintro e2 w4 ⟨rfl, hA4, hk4⟩))
            go_ret
            exact ⟨rfl, hA4, HK3.out.trans hk4⟩
          · rw [if_neg a0] at heq
            have a0' : (e1 == 0) = false := by simpa using a0
            clear a0 S1
            by_cases a1 : e1 = 10
            · rw [if_neg (by simp [a1])] at heq
              have a1' : (e1 != 10) = false := by simp [a1]
              clear a1
              by_cases a2 : e2 = 0
              · rw [if_neg (by simp [a2])] at heq
                have a2' : (e2 != 0) = false := by simp [a2]
                have HEQ := Lib.hid heq
                clear a2 heq
                go_wp2_with (first
                  | (go_at_call 24; refine G.mono ?_; rintro e2 w2 ⟨rfl, hg2⟩; have C2 := C1 _ hg2; have HG2 := Lib.hid hg2; clear hg2)
                  | (go_at_call 108; refine C2.mono ?_; rintro e2 w3 ⟨rfl, hA3, hk3⟩; have U2 := U1 _ hA3; have HK3 := Lib.hid ((Keeps.ext (T := tS p c) HG2.out).trans hk3); clear hA3 hk3)
                  | (go_at_call 110; refine U2.mono ?_; rintro e2 w4 ⟨rfl, hA4, hk4⟩))
                go_roundg g
                case measure => omega
                case rel =>
                  have hkk := HK3.out.trans hk4
                  exact ⟨m2, hA4, HW2.out.1.mono (by have := HW2.out.2.1; omega), HS.out.rw_.keeps hkk HV.out, HS.out.kp.trans hkk, HEQ.out, by have := HW2.out.2.1; omega⟩
              · rw [if_pos a2] at heq
                simp only [Option.some.injEq, Prod.mk.injEq] at heq
                obtain ⟨rfl, rfl⟩ := heq
                have a2' : (e2 != 0) = true := by simpa using a2
                clear a2
                go_wp2_with (first
                  | (go_at_call 24; refine G.mono ?_; rintro e2 w2 ⟨rfl, hg2⟩; have C2 := C1 _ hg2; have HG2 := Lib.hid hg2; clear hg2)
                  | (go_at_call 108; refine C2.mono ?_; rintro e2 w3 ⟨rfl, hA3, hk3⟩; have U2 := U1 _ hA3; have HK3 := Lib.hid (HS.out.kp.trans ((Keeps.ext HG2.out).trans hk3)); clear hA3 hk3)
                  | (go_at_call 110; refine U2.mono ?_; rintro e2 w4 ⟨rfl, hA4, hk4⟩))
                go_ret
                exact ⟨rfl, hA4, HK3.out.trans hk4⟩
            · rw [if_pos a1] at heq
              simp only [Option.some.injEq, Prod.mk.injEq] at heq
              obtain ⟨rfl, rfl⟩ := heq
              have a1' : (e1 != 10) = true := by simpa using a1
              clear a1 U1
              go_wp2_with (first
                | (go_at_call 24; refine G.mono ?_; rintro e2 w2 ⟨rfl, hg2⟩; have C2 := C1 _ hg2; have HG2 := Lib.hid hg2; clear hg2)
                | (go_at_call 108; refine C2.mono ?_; rintro e2 w3 ⟨rfl, hA3, hk3⟩))
              go_ret
              exact ⟨rfl, hA3, HS.out.kp.trans ((Keeps.ext HG2.out).trans hk3)⟩
  · rw [if_pos h0] at hm
    simp only [Option.some.injEq, Prod.mk.injEq] at hm
    obtain ⟨rfl, rfl⟩ := hm
    have h0' : (er != 0) = true := by simpa using h0
    clear h0
    go_enter Tryz.func81, Tryz.ntmps81
    go_wp2_with (go_at_call 107; refine ND.mono ?_; rintro e1 w1 ⟨v1, rfl, hown, hg1⟩; obtain ⟨ao1, cp1, hv1⟩ := owns_slice17 hown; subst hv1)
    go_ret
    exact ⟨rfl, SA.out _ hg1, Keeps.ext hg1⟩
end

end Go.Proofs.YtdadgcfpcneaiaaGreatDoor
