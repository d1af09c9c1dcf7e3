/-
  Texts put together: MB MD ME.
-/
import Derived.Test.YtfibpgfjlmlpaaaGreatDoorM20
/-
  Layer 18's laws: few.
-/
namespace Go.Proofs.YtfibpgfjlmlpaaaGreatDoor
set_option linter.unusedVariables false
set_option linter.unusedSimpArgs false
set_option linter.unusedVariables false
set_option linter.unusedSimpArgs false
set_option maxRecDepth 100000
open Go.RowKit

/-- Few acts, few faults, short data. -/
def FewP18 (len n : Nat) (A : Nat → Act18) : Prop := (∀ i, i < len → (A i).dt.size ≤ 100) ∧ len ≤ 200 ∧ n ≤ 64
def FewR (len n : Nat) (A : Nat → Act18) (e : Ending) : Prop := ∃ b : Bool, e = .returned (.bool b) ∧ (b = true ↔ FewP18 len n A)
theorem few_yes {len n : Nat} {A : Nat → Act18} {e : Ending} (h : FewP18 len n A) (he : e = .returned (.bool true)) : FewR len n A e := ⟨true, he, fun _ => h, fun _ => rfl⟩
theorem few_no {len n : Nat} {A : Nat → Act18} {e : Ending} (h : ¬ FewP18 len n A) (he : e = .returned (.bool false)) : FewR len n A e := ⟨false, he, (fun e => by cases e), fun e => absurd e h⟩
set_option maxHeartbeats 1600000 in
theorem few18_any (n0 n1 n2 n3 : Int) (ao : Option Addr) (n cap : Nat) (zs : List Int) (a : Option Addr) (len cap2 : Nat) (A : Nat → Act18) (w : World) (W : WardP w n0 n1 n2 n3 ao n cap zs) (h : Acts18 w a len A) :
    Calls Tryz.prog 11 #[.agg #[.int .i64 n0, .int .i64 n1, .int .i64 n2, .int .i64 n3, .slice ao n cap], .slice a len cap2] w fun e w' => FewR len n A e ∧ w.grownBy w' none := by
  have HH := Lib.hid h
  have hmax := h.1
  have hn : n ≤ 9223372036854775807 := by have := W.mx; unfold maxLen at this; omega
  have hBw := Blk.new w 24 (wardC n0 n1 n2 n3 ao n cap)
  clear h W
  go_enter Tryz.func11, Tryz.ntmps11
  go_wp2
  have HB0 := Lib.hid hBw
  clear hBw
  have HE0 := Lib.hid (World.grownBy_alloc w (.cells (wardC n0 n1 n2 n3 ao n cap) 24) none)
  obtain ⟨w1, hw1⟩ : ∃ v, w.alloc (.cells (wardC n0 n1 n2 n3 ao n cap) 24) = v := ⟨_, rfl⟩
  rw [hw1] at HB0 HE0
  unfold wardC at hw1
  try rw [hw1]
  clear hw1
  go_loopw [9] (fun i wr => ∃ k : Nat, k ≤ len ∧ i = .int .i64 k ∧ w1.grownBy wr none ∧ ∀ j, j < k → (A j).dt.size ≤ 100) (fun i _ => len - (intOf i).toNat)
  case atStart => exact ⟨0, by omega, rfl, Ext.refl _, fun j hj => by omega⟩
  case round =>
    obtain ⟨k, hk, rfl, hE, hall⟩ := hrel
    obtain ⟨wo, rfl⟩ : ∃ wo : World, wo = wr := ⟨_, rfl⟩
    have HE := Lib.hid hE
    have HAll := Lib.hid hall
    clear hE hall
    by_cases hlt : k < len
    · obtain ⟨⟨ab, abo, rfl, hr, _⟩, _, _, hdt⟩ := HH.out.2 k hlt
      have hr1 : wo.rangeAt ab (abo + k * 3) (act18C (A k)).toList := fun j u hj => (ext_trans HE0.out HE.out).cell (hr j u hj) (by simp)
      have HLK := Lib.hid (show (A k).dt.size ≤ 100 → ∀ j, j < k + 1 → (A j).dt.size ≤ 100 from fun h j hj => by
        by_cases e : j = k
        · rw [e]; exact h
        · exact HAll.out j (by omega))
      have HBG := Lib.hid (show FewP18 len n A → (A k).dt.size ≤ 100 from fun e => e.1 k hlt)
      generalize A k = x at hr1 hdt HLK HBG
      clear hr
      have hBa := Blk.new wo 38 #[.int .u8 0, .int .i64 0, .string ⟨#[]⟩]
      have hdn : (x.dt.size : Int) = ((x.dt.size : Nat) : Int) := rfl
      go_upto_region 4 with (first
        | (refine act18_load rfl _ rfl rfl hr1 ?_)
        | (refine act18_store _ _ rfl rfl rfl hBa rfl rfl ?_; intro w4 hb4 hg4 hs4; have HE4 := Lib.hid (ext_trans HE.out (g17_new (World.grownBy_alloc wo _ none) hg4 (Nat.le_refl _))); have c2 := (hb4.cell 2).trans (show (act18C x)[2]? = some (.string x.dt) from rfl); clear hBa hg4 hs4 hb4 hr1))
      obtain ⟨dt, hdt2⟩ : ∃ z, x.dt = z := ⟨_, rfl⟩
      rw [hdt2] at c2 HLK hdt HBG
      clear hdt2
      by_cases hbig : (100 : Int) < dt.size
      · go_wp2
        go_ret
        exact ⟨few_no (fun e => by have := HBG.out e; omega) rfl, ext_trans HE0.out HE4.out⟩
      · go_wp2
        go_roundw
        case rel => exact ⟨k + 1, by omega, by go_num, HE4.out, HLK.out (by omega)⟩
        case measure => simp [intOf]; omega
    · obtain rfl : k = len := by omega
      have c4 := (HB0.out.ext HE.out).cell 4
      have c4' : wo.cell? ⟨w.heap.size, 4, none⟩ = some (.slice ao n cap) := c4
      clear c4
      by_cases h1 : (k : Int) ≤ 200
      · by_cases h2 : (n : Int) ≤ 64
        · go_wp2
          go_ret
          exact ⟨few_yes ⟨HAll.out, by omega, by omega⟩ rfl, ext_trans HE0.out HE.out⟩
        · go_wp2
          go_ret
          exact ⟨few_no (fun e => by have := e.2; omega) rfl, ext_trans HE0.out HE.out⟩
      · go_wp2
        go_ret
        exact ⟨few_no (fun e => by have := e.2; omega) rfl, ext_trans HE0.out HE.out⟩

end Go.Proofs.YtfibpgfjlmlpaaaGreatDoor

/-
  Layer 18's law: StoreBound.
-/
namespace Go.Proofs.YtfibpgfjlmlpaaaGreatDoor
set_option linter.unusedVariables false
set_option linter.unusedSimpArgs false
set_option linter.unusedVariables false
set_option linter.unusedSimpArgs false
set_option maxRecDepth 100000
open Go.RowKit

structure LwU (w0 : World) (p : SP) (c : SC) (tb : Nat) : Prop extends LwC w0 p c where
  t : tS p c tb = 0
/-- A law's store, between its acts. -/
structure LwB (w0 : World) (p : SP) (c : SC) (tb : Nat) (tv : Value) (m : SM) (n : Nat) (wx : World) : Prop where
  lw : Lw w0 p c m (20000000 * n) wx
  sq : m.sq + m.q.length ≤ 2 * n
  bt : Blk wx tb 33 #[.bool true, .int .i64 1, .int .i64 c.sz, .int .i64 c.sp, tv]
section
variable {w0 wx wy : World} {p : SP} {c : SC} {m m' : SM} {tb : Nat} {tv : Value} {n : Nat}
theorem LwB.ext (C : LwU w0 p c tb) (h : LwB w0 p c tb tv m n wx) (hg : wx.grownBy wy none) : LwB w0 p c tb tv m n wy := ⟨h.lw.ext C.toLwC hg, h.sq, h.bt.ext hg⟩
theorem LwB.mono (h : LwB w0 p c tb tv m n wx) {n' : Nat} (hn : n ≤ n') : LwB w0 p c tb tv m n' wx := ⟨⟨h.lw.st, h.lw.inv, h.lw.wf.mono (by omega), h.lw.out⟩, by have := h.sq; omega, h.bt⟩
theorem LwB.wai (C : LwU w0 p c tb) (h : LwB w0 p c tb tv m n wx) (hn : n < 1000) {x : Chg} (hk : x.kd = 1 ∨ (x.kd = 2 ∧ x.dt = ⟨#[]⟩)) :
    ∃ e m', waiR c 100 m x = some (e, m') ∧ WaP c m x e m' ∧ ∀ wy, StAt wy p c m' → Keeps (tS p c) wx wy → LwB w0 p c tb tv m' (n + 1) wy := by
  have hs := h.sq
  have hi := h.lw.inv.sq
  obtain ⟨e, m', hm, W⟩ := wai_is C.stt h.lw.inv (by omega) hk
  have hw := wf_wai C.stt.pg.2 h.lw.wf hm
  exact ⟨e, m', hm, W, fun wy hs hk => ⟨h.lw.call C.toLwC hs hk W.inv (hw.mono (by omega)), by have := W.sq; omega, hk.blk18 h.bt C.t⟩⟩
theorem LwB.write (C : LwU w0 p c tb) (h : LwB w0 p c tb tv m n wx) (hn : n < 1000) (pl : Int) (dt : ByteArray) (hd : dt.size ≤ 9223372036854775807) :
    ∃ e m', Calls Tryz.prog 15 #[.pointer (some ⟨p.sb, 0, none⟩), .int .i64 pl, .string dt] wx (fun er wy => er = .returned (.int .i64 e) ∧ LwB w0 p c tb tv m' (n + 1) wy ∧ Keeps (tS p c) wx wy) ∧ WaP c m ⟨pl, 1, dt⟩ e m' := by
  obtain ⟨e, m', hm, W, h1⟩ := h.wai C hn (x := ⟨pl, 1, dt⟩) (.inl rfl)
  exact ⟨e, m', (write18 h.lw.st C.ok h.lw.wf C.spb (by omega) pl dt hd hm).mono fun er wy ⟨a, b, d⟩ => ⟨a, h1 wy b d, d⟩, W⟩
theorem LwB.trim (C : LwU w0 p c tb) (h : LwB w0 p c tb tv m n wx) (hn : n < 1000) (pl : Int) :
    ∃ e m', Calls Tryz.prog 14 #[.pointer (some ⟨p.sb, 0, none⟩), .int .i64 pl] wx (fun er wy => er = .returned (.int .i64 e) ∧ LwB w0 p c tb tv m' (n + 1) wy ∧ Keeps (tS p c) wx wy) ∧ WaP c m ⟨pl, 2, ⟨#[]⟩⟩ e m' := by
  obtain ⟨e, m', hm, W, h1⟩ := h.wai C hn (x := ⟨pl, 2, ⟨#[]⟩⟩) (.inr ⟨rfl, rfl⟩)
  exact ⟨e, m', (trim18 h.lw.st C.ok h.lw.wf C.spb (by omega) pl hm).mono fun er wy ⟨a, b, d⟩ => ⟨a, h1 wy b d, d⟩, W⟩
end
/-- Operations within the bound. -/
theorem WaP.bound {c : SC} {m m' : SM} {x : Chg} {e : Int} (st : Stt c) (W : WaP c m x e m') (h1 : c.who = 1) : ∃ f : Nat, f ≤ 10 ∧ m'.n.M 1 = m.n.M 1 + f ∧ ¬ (((f : Int) + 1) * (2 * (c.S.pg : Int) + 3) < m'.n.po - m.n.po) ∧ m.n.po ≤ m'.n.po := by
  obtain ⟨f, f1, f2, f3⟩ := W.fa
  have e1 : c.who.toNat = 1 := by rw [h1]; rfl
  rw [e1] at f1
  refine ⟨f, f2, f1, ?_, W.po⟩
  have hm : ((f : Int) + 1) * (2 * (c.S.pg : Int) + 3) = (2 * (c.S.pg : Int) + 3) * f + (2 * (c.S.pg : Int) + 3) := by
    rw [Int.add_mul, Int.mul_comm]
    simp
  have := st.pg
  omega

set_option maxHeartbeats 6400000 in
theorem storeBound18_any (n0 n1 n2 n3 : Int) (ao : Option Addr) (n cap : Nat) (zs : List Int) (a : Option Addr) (len cap2 : Nat) (A : Nat → Act18) (w : World) (hF : Flds w) (W : WardP w n0 n1 n2 n3 ao n cap zs) (h : Acts18 w a len A) :
    Calls Tryz.prog 4 #[.agg #[.int .i64 n0, .int .i64 n1, .int .i64 n2, .int .i64 n3, .slice ao n cap], .slice a len cap2] w fun e w' => e = .returned (.bool true) ∧ w.grownBy w' none := by
  have B0 := Blk.new w 24 (wardC n0 n1 n2 n3 ao n cap)
  have E0 := World.grownBy_alloc w (.cells (wardC n0 n1 n2 n3 ao n cap) 24) none
  obtain ⟨w1, hw1⟩ : ∃ v, w.alloc (.cells (wardC n0 n1 n2 n3 ao n cap) 24) = v := ⟨_, rfl⟩
  have hw1' : w.alloc (.cells #[.int .i64 n0, .int .i64 n1, .int .i64 n2, .int .i64 n3, .slice ao n cap] 24) = w1 := hw1
  obtain ⟨wb, hwb⟩ : ∃ v, w.heap.size = v := ⟨_, rfl⟩
  rw [hw1] at B0 E0
  rw [hwb] at B0
  have FX := fixed18_any w1 (hF.ext E0)
  have HF := Lib.hid hF
  have HW := Lib.hid W
  have HA := Lib.hid h
  have FW := Lib.hid (fun (wx : World) (hE : w.grownBy wx none) => few18_any n0 n1 n2 n3 ao n cap zs a len cap2 A wx (W.ext hE) (show Acts18 wx a len A from ⟨h.1, fun i hi => by
    obtain ⟨⟨b, off, h1, h2, h3⟩, h4⟩ := h.2 i hi
    exact ⟨⟨b, off, h1, fun j u hj => hE.cell (h2 j u hj) (by simp), Nat.lt_of_lt_of_le h3 hE.size⟩, h4⟩⟩))
  have hlm : len ≤ 9223372036854775807 := h.1
  have H0 := Lib.hid (And.intro B0 E0)
  have HWB := Lib.hid hwb
  clear hF B0 E0 hw1 W h
  go_enter Tryz.func4, Tryz.ntmps4
  go_upto_region 3 with (go_at_call 10; refine FX.mono ?_; rintro e w2 ⟨rfl, hE2⟩; have H2 := Lib.hid (And.intro (H0.out.1.ext hE2) (ext_trans H0.out.2 hE2)); clear hE2)
  clear FX hw1' hwb
  have B2 : Blk w2 wb 24 (wardC n0 n1 n2 n3 ao n cap) := H2.out.1
  have FW2 := FW.out w2 H2.out.2
  by_cases hfew : FewP18 len n A
  case neg =>
    have FW3 : Calls Tryz.prog 11 #[.agg #[.int .i64 n0, .int .i64 n1, .int .i64 n2, .int .i64 n3, .slice ao n cap], .slice a len cap2] w2 fun e w' => e = .returned (.bool false) ∧ w2.grownBy w' none := FW2.mono fun e w' ⟨⟨b, h1, h2⟩, h3⟩ => ⟨by cases b; exact h1; exact absurd (h2.1 rfl) hfew, h3⟩
    clear FW2 hfew
    go_wp2_with (first
      | (refine ward_load18 rfl _ rfl rfl B2 ?_)
      | (go_at_call 11; refine FW3.mono ?_; rintro e w3 ⟨rfl, hg3⟩))
    go_ret
    exact ⟨rfl, ext_trans H2.out.2 hg3⟩
  have FW3 : Calls Tryz.prog 11 #[.agg #[.int .i64 n0, .int .i64 n1, .int .i64 n2, .int .i64 n3, .slice ao n cap], .slice a len cap2] w2 fun e w' => e = .returned (.bool true) ∧ w2.grownBy w' none := FW2.mono fun e w' ⟨⟨b, h1, h2⟩, h3⟩ => ⟨by cases b; exact absurd (h2.2 hfew) (by decide); exact h1, h3⟩
  have HFEW := Lib.hid hfew
  clear FW2 hfew
  go_upto_region 5 with (first
    | (refine ward_load18 rfl _ rfl rfl B2 ?_)
    | (go_at_call 11; refine FW3.mono ?_; rintro e w3 ⟨rfl, hg3⟩; have H3 := Lib.hid (And.intro (H2.out.1.ext hg3) (ext_trans H2.out.2 hg3)); clear hg3))
  clear B2 FW3
  have B3 : Blk w3 wb 24 (wardC n0 n1 n2 n3 ao n cap) := H3.out.1
  have OP3 := open18 n0 n1 n2 n3 (.slice ao n cap) zs w3 (HF.out.ext H3.out.2) (HW.out.is.kept H3.out.2 (by simp)) (fun k hk => Nat.lt_of_lt_of_le (HW.out.lt k hk) H3.out.2.size) (by have := HFEW.out.2.2; have := HW.out.len; omega)
  by_cases hne : newE (zsO zs) = 0
  case neg =>
    have OP4 : Calls Tryz.prog 12 #[.agg #[.int .i64 n0, .int .i64 n1, .int .i64 n2, .int .i64 n3, .slice ao n cap], .int .i64 (-1)] w3 fun e w' => (∃ ao n cap, e = .returned (.tuple #[.pointer none, .pointer none, .pointer none, .pointer none, .agg #[.bool true, .int .i64 1, .int .i64 (szO n0), .int .i64 (prO n1), .slice ao n cap]])) ∧ w3.grownBy w' none := OP3.mono fun e w' hop => (hop.resolve_right (fun h => hne h.1)).2
    clear OP3 hne
    go_wp2_with (first
      | (refine ward_load18 rfl _ rfl rfl B3 ?_)
      | (go_at_call 12; refine OP4.mono ?_; rintro e w4 ⟨⟨vo, vn, vc, rfl⟩, hg4⟩; have hBn := Blk.new w4 33 (teC false 0 0 0 (.slice none 0 0)))
      | (refine ten_store18 _ _ rfl rfl rfl hBn rfl rfl ?_; intro w5 hb5 hg5 hs5))
    go_ret
    exact ⟨rfl, ext_trans H3.out.2 (g17_new (ext_trans hg4 (World.grownBy_alloc w4 _ none)) hg5 hg4.size)⟩
  go_upto_region 6 with (first
    | (refine ward_load18 rfl _ rfl rfl B3 ?_)
    | (go_at_call 12; refine OP3.mono ?_; rintro e w4 hop; obtain ⟨_, p, S, v, rfl, hO⟩ := hop.resolve_left (fun h => h.1 hne); have HO := Lib.hid hO; obtain ⟨vo, vn, vc, rfl⟩ := hO.vf; have hBn := Blk.new w4 33 (teC false 0 0 0 (.slice none 0 0)); clear hop hO)
    | (refine ten_store18 _ _ rfl rfl rfl hBn rfl rfl ?_; intro w5 hb5 hg5 hs5))
  clear hne
  have C := Lib.hid (show LwU w3 p (cO S zs (szO n0) (prO n1) (toO n0 n1 n2 n3).toNat) w4.heap.size from ⟨⟨HO.out.ok, stt_O HO.out.pgs HO.out.all, HO.out.lo, HO.out.lb, rfl⟩, HO.out.st.fresh (Nat.le_refl _)⟩)
  have E45 : w4.grownBy w5 none := g17_new (World.grownBy_alloc w4 _ none) hg5 (Nat.le_refl _)
  have Z0 := Lib.hid (show LwB w3 p (cO S zs (szO n0) (prO n1) (toO n0 n1 n2 n3).toNat) w4.heap.size (.slice vo vn vc) m0F 0 w5 from ⟨⟨HO.out.st.ext HO.out.ok E45, inv_O (open_room n0 n1 n2 n3), wf_O.mono (by omega), ext_trans HO.out.ext E45⟩, by decide, hb5⟩)
  have HS := Lib.hid (show S = (cO S zs (szO n0) (prO n1) (toO n0 n1 n2 n3).toNat).S from rfl)
  obtain ⟨c, hc⟩ : ∃ z, cO S zs (szO n0) (prO n1) (toO n0 n1 n2 n3).toNat = z := ⟨_, rfl⟩
  rw [hc] at C Z0 HS
  obtain ⟨tb, htb⟩ : ∃ z, w4.heap.size = z := ⟨_, rfl⟩
  rw [htb] at C Z0 ⊢
  clear hb5 hg5 hs5 hBn B3 OP3 HO E45 hc htb H0 H2
  rw [HS.out]
  clear HS
  go_wp2
  go_loopw [32] (fun i wr => ∃ (k : Nat) (m : SM), k ≤ len ∧ i = .int .i64 k ∧ LwB w3 p c tb (.slice vo vn vc) m k wr) (fun i _ => len - (intOf i).toNat)
  case atStart => exact ⟨0, _, Nat.zero_le _, rfl, Z0.out⟩
  case round =>
    obtain ⟨k, m, hk, rfl, hZ⟩ := hrel
    obtain ⟨wo, rfl⟩ : ∃ wo : World, wo = wr := ⟨_, rfl⟩
    have Z := Lib.hid hZ
    clear hZ
    by_cases hlt : k < len
    · have hk1 : k < 1000 := by have := HFEW.out.2.1; omega
      obtain ⟨⟨ab, abo, rfl, hr, _⟩, hkd, hpl, hdt⟩ := HA.out.2 k hlt
      have hr1 : wo.rangeAt ab (abo + k * 3) (act18C (A k)).toList := fun j u hj => (ext_trans H3.out.2 Z.out.lw.out).cell (hr j u hj) (by simp)
      generalize A k = x at hr1 hdt hkd hpl
      clear hr
      have hBa := Blk.new wo 38 #[.int .u8 0, .int .i64 0, .string ⟨#[]⟩]
      go_upto_region 11 with (first
        | (refine act18_load rfl _ rfl rfl hr1 ?_)
        | (refine act18_store _ _ rfl rfl rfl hBa rfl rfl ?_; intro w6 hb6 hg6 hs6; have Z6 := Lib.hid (Z.out.ext C.out (g17_new (World.grownBy_alloc wo _ none) hg6 (Nat.le_refl _))); have c0 := (hb6.cell 0).trans (show (act18C x)[0]? = some (.int .u8 x.kd) from rfl); have c1 := (hb6.cell 1).trans (show (act18C x)[1]? = some (.int .i64 x.pl) from rfl); have c2 := (hb6.cell 2).trans (show (act18C x)[2]? = some (.string x.dt) from rfl); clear hBa hg6 hs6 hb6 hr1))
      clear Z
      obtain ⟨kd, hkde⟩ : ∃ z, x.kd = z := ⟨_, rfl⟩
      obtain ⟨pl, hple⟩ : ∃ z, x.pl = z := ⟨_, rfl⟩
      obtain ⟨dt, hdte⟩ : ∃ z, x.dt = z := ⟨_, rfl⟩
      rw [hkde] at c0 hkd
      rw [hple] at c1 hpl
      rw [hdte] at c2 hdt
      clear hkde hple hdte
      obtain ⟨e1, m1, WR, P1⟩ := Z6.out.write C.out hk1 pl dt hdt
      obtain ⟨e2, m2, TR, P2⟩ := Z6.out.trim C.out hk1 pl
      have Q1 := Lib.hid (P1.bound C.out.stt C.out.w1)
      have Q2 := Lib.hid (P2.bound C.out.stt C.out.w1)
      have OPS := ops18 Z6.out.lw.st
      have FAU := faults18 Z6.out.lw.st
      have HCN := Lib.hid (show (0 ≤ m.n.po ∧ m.n.po ≤ 20000000 * (k : Int)) ∧ (0 ≤ m.n.M 1 ∧ m.n.M 1 ≤ 20000000 * (k : Int)) from ⟨Z6.out.lw.wf.cn.po, Z6.out.lw.wf.cn.M 1⟩)
      obtain ⟨o0, ho0⟩ : ∃ z, m.n.po = z := ⟨_, rfl⟩
      obtain ⟨f0, hf0⟩ : ∃ z, m.n.M 1 = z := ⟨_, rfl⟩
      rw [ho0] at OPS Q1 Q2 HCN
      rw [hf0] at FAU Q1 Q2 HCN
      clear P1 P2 hdt hpl ho0 hf0
      have hk0 := hkd.1
      have hk255 := hkd.2
      clear hkd
      go_upto_if 43 with (first
        | (go_at_call 22; refine OPS.mono ?_; rintro e w7 ⟨rfl, rfl⟩)
        | (go_at_call 20; refine FAU.mono ?_; rintro e w7 ⟨rfl, rfl⟩))
      clear OPS FAU
      go_cut [] (fun wx => ∃ (m' : SM) (f : Nat), LwB w3 p c tb (.slice vo vn vc) m' (k + 1) wx ∧ f ≤ 10 ∧ m'.n.M 1 = f0 + f ∧ ¬ (((f : Int) + 1) * (2 * (c.S.pg : Int) + 3) < m'.n.po - o0) ∧ o0 ≤ m'.n.po)
      case first =>
        go_wp2_with (first
          | (go_at_call 15; refine WR.mono ?_; rintro e w8 ⟨rfl, hZ8, _⟩)
          | (go_at_call 14; refine TR.mono ?_; rintro e w8 ⟨rfl, hZ8, _⟩))
        all_goals go_meet
        · obtain ⟨f, h1, h2, h3, h4⟩ := Q1.out
          exact ⟨_, f, hZ8, h1, h2, h3, h4⟩
        · obtain ⟨f, h1, h2, h3, h4⟩ := Q2.out
          exact ⟨_, f, hZ8, h1, h2, h3, h4⟩
      case rest =>
        obtain ⟨m', f, hZ8, hf10, hM, hB, hpo⟩ := hcut
        have Z8 := Lib.hid hZ8
        have OPS := ops18 hZ8.lw.st
        have GE := geo18 hZ8.lw.st C.out.ok
        have hcn := hZ8.lw.wf.cn.po
        have HPG := Lib.hid C.out.stt.pg
        have hpg0 := HPG.out
        obtain ⟨pg, hpg⟩ : ∃ z : Int, (c.S.pg : Int) = z := ⟨_, rfl⟩
        obtain ⟨o1, ho1⟩ : ∃ z, m'.n.po = z := ⟨_, rfl⟩
        have FA8 := Lib.hid (fun (wx : World) (hg : wc.grownBy wx none) => (hM ▸ faults18 (hZ8.lw.ext C.out.toLwC hg).st : Calls Tryz.prog 20 #[.pointer (some ⟨c.S.db, 0, none⟩), .int .i64 1] wx fun e w' => e = .returned (.int .i64 (f0 + f)) ∧ wx = w'))
        have BO := fun wx => ruleBound_any (c.S.pg : Int) f wx (by omega) (by omega)
        rw [hpg] at GE BO hB
        rw [ho1] at OPS hB hpo hcn
        obtain ⟨r, hr⟩ : ∃ z, ((f : Int) + 1) * (2 * pg + 3) = z := ⟨_, rfl⟩
        rw [hr] at BO hB
        have hfld := geo_pages18 c.S.c c.S.d c.S.b pg
        have hh := HCN.out
        have hb1 : 0 ≤ f0 := by omega
        have hb2 : f0 ≤ 20000000000 := by omega
        have hb3 : 0 ≤ o0 := by omega
        have hb4 : o0 ≤ 20000000000 := by omega
        have hb5 : o1 ≤ 20000000000 := by omega
        have hb6 : f0 + f - f0 = f := by omega
        clear hZ8 hM hpg ho1 hr WR TR Q1 Q2 Z6 hh hcn HCN hpg0
        go_wp2_with (first
          | (go_at_call 22; refine OPS.mono ?_; rintro e w9 ⟨rfl, rfl⟩)
          | (go_at_call 24; refine GE.mono ?_; rintro e w9 ⟨rfl, hg9⟩; have Z9 := Lib.hid (Z8.out.ext C.out hg9); have FA9 := FA8.out w9 hg9; clear hg9)
          | (go_at_call 20; refine FA9.mono ?_; rintro e w10 ⟨rfl, rfl⟩)
          | (go_at_call 23; refine (BO _).mono ?_; rintro e w10 ⟨rfl, rfl⟩))
        go_roundw
        case rel => exact ⟨k + 1, m', by omega, by go_num, Z9.out⟩
        case measure => simp [intOf]; omega
    · go_wp2
      go_ret
      exact ⟨rfl, ext_trans H3.out.2 Z.out.lw.out⟩

end Go.Proofs.YtfibpgfjlmlpaaaGreatDoor

/-
  Layer 18's law: StoreFull.
-/
namespace Go.Proofs.YtfibpgfjlmlpaaaGreatDoor
set_option linter.unusedVariables false
set_option linter.unusedSimpArgs false
set_option linter.unusedVariables false
set_option linter.unusedSimpArgs false
set_option maxRecDepth 100000
open Go.RowKit

/-- A row of n strings. -/
def stsC (n : Nat) (F : Nat → ByteArray) : Array Value := ((List.range n).map (fun i => Value.string (F i))).toArray
theorem stsC_size (n : Nat) (F : Nat → ByteArray) : (stsC n F).size = n := by simp [stsC]
theorem stsC_at {n : Nat} {F : Nat → ByteArray} {i : Nat} (hi : i < n) : (stsC n F)[i]? = some (.string (F i)) := by
  simp [stsC, hi]
def updF (F : Nat → ByteArray) (i : Nat) (d : ByteArray) : Nat → ByteArray := fun j => if j = i then d else F j
theorem stsC_set {n : Nat} {F : Nat → ByteArray} {i : Nat} (d : ByteArray) : (stsC n F).setIfInBounds i (.string d) = stsC n (updF F i d) := by
  apply Array.ext_getElem?
  intro j
  by_cases hj : j < n
  · rw [stsC_at hj]
    by_cases e : j = i
    · subst e
      rw [Array.getElem?_setIfInBounds_self_of_lt (by rw [stsC_size]; exact hj)]
      simp [updF]
    · rw [Array.getElem?_setIfInBounds_ne (fun h => e h.symm), stsC_at hj]
      simp [updF, e]
  · rw [Array.getElem?_eq_none (by simp [stsC_size]; omega), Array.getElem?_eq_none (by rw [stsC_size]; omega)]
theorem stsC_made (n : Nat) : madeCells #[.string ⟨#[]⟩] n = stsC n (fun _ => ⟨#[]⟩) := by
  apply Array.ext_getElem?
  intro j
  by_cases hj : j < n
  · rw [made_one _ _ _ hj, stsC_at hj]
  · rw [Array.getElem?_eq_none (by simp [madeCells]; omega), Array.getElem?_eq_none (by rw [stsC_size]; omega)]
theorem sts_noint {w : World} {g n : Nat} {F : Nat → ByteArray} (h : Blk w g 9 (stsC n F)) (o : Nat) (k : IntKind) (x : Int) : w.cell? ⟨g, o, none⟩ ≠ some (.int k x) := by
  intro hc
  rw [h.cell o] at hc
  by_cases ho : o < n
  · rw [stsC_at ho] at hc; cases hc
  · rw [Array.getElem?_eq_none (by rw [stsC_size]; omega)] at hc; cases hc

/-- What the places should have, beside the store. -/
structure LwW (w0 : World) (p : SP) (c : SC) (tb : Nat) (tv : Value) (g sz : Nat) (m : SM) (n : Nat) (F : Nat → ByteArray) (wx : World) : Prop where
  z : LwZ w0 p c tb tv m n wx
  ws : Blk wx g 9 (stsC sz F)
  va : ∀ i, i < sz → Val c m i (F i)
structure LwG (w0 : World) (p : SP) (c : SC) (tb g sz : Nat) : Prop extends LwT w0 p c tb where
  gt : tS p c g = 0
  g0 : g ≠ 0
  gl : w0.heap.size ≤ g
  gb : g ≠ tb
  sz' : c.sz = sz
section
variable {w0 wx wy : World} {p : SP} {c : SC} {m m' : SM} {tb g sz : Nat} {tv : Value} {n : Nat} {F : Nat → ByteArray}
/-- What a place should have is turned, and written. -/
theorem LwW.put (C : LwG w0 p c tb g sz) (h : LwW w0 p c tb tv g sz m n F wx) (hn : n < 1000) (i : Nat) (hi : i < sz) (st : ByteArray) (hst : st.size ≤ 16) (wz wq : World) (hz : wx.setCell ⟨g, i, none⟩ (.string st) = wz) (hE : wz.grownBy wq none) :
    Blk wq g 9 (stsC sz (updF F i st)) ∧ ∃ m', Calls Tryz.prog 15 #[.pointer (some ⟨p.sb, 0, none⟩), .int .i64 (i : Int), .string st] wq (fun e wy => e = .returned (.int .i64 0) ∧ LwW w0 p c tb tv g sz m' (n + 1) (updF F i st) wy) := by
  have hg : wx.grownBy wz (some g) := by rw [← hz]; exact gb_set (gb_refl wx _) _ _
  have hb2 : Blk wz g 9 (stsC sz (updF F i st)) := by
    rw [← hz, ← stsC_set]
    exact h.ws.set i (.string st)
  have hl : LwZ w0 p c tb tv m n wz := ⟨h.z.lw.past C.toLwC hg C.gt C.g0 C.gl (sts_noint h.ws), h.z.z, h.z.sq, h.z.bt.kept hg (fun e => by injection e with e; exact C.gb e.symm)⟩
  obtain ⟨m', W, hv⟩ := (hl.ext C.toLwT hE).write C.toLwT hn i st (by rw [C.sz']; omega) hst
  have hb3 := hb2.ext hE
  refine ⟨hb3, m', W.mono fun e wy ⟨h1, h2, h3⟩ => ⟨h1, h2, h3.blk18 hb3 C.gt, fun j hj => hv j _ ?_⟩⟩
  unfold updF
  by_cases e : j = i
  · rw [if_pos e, if_pos (by omega)]
  · rw [if_neg e, if_neg (by omega)]
    exact h.va j hj
theorem LwW.flush (C : LwG w0 p c tb g sz) (h : LwW w0 p c tb tv g sz m n F wx) (hn : n < 1000) :
    ∃ m', Calls Tryz.prog 17 #[.pointer (some ⟨p.sb, 0, none⟩)] wx (fun e wy => e = .returned (.int .i64 0) ∧ LwW w0 p c tb tv g sz m' (n + 4) F wy) := by
  obtain ⟨m', W, hv⟩ := h.z.flush C.toLwT hn
  exact ⟨m', W.mono fun e wy ⟨h1, h2, h3⟩ => ⟨h1, h2, h3.blk18 h.ws C.gt, fun j hj => hv j _ (h.va j hj)⟩⟩
theorem LwW.read (C : LwG w0 p c tb g sz) (h : LwW w0 p c tb tv g sz m n F wx) (i : Nat) (hi : i < sz) :
    Calls Tryz.prog 16 #[.pointer (some ⟨p.sb, 0, none⟩), .int .i64 (i : Int)] wx (ReadP (F i) 0 wx) := by
  have R := read18 h.z.lw.st C.ok h.z.lw.wf (i : Int)
  obtain ⟨r1, _, r2⟩ := rea_is h.z.lw.inv.lit C.stt.hB h.z.lw.inv.R (q := (i : Int)) (by rw [C.sz']; omega)
  rw [r1, r2 _ (h.va i hi)] at R
  exact R
theorem LwW.ext (C : LwG w0 p c tb g sz) (h : LwW w0 p c tb tv g sz m n F wx) (hg : wx.grownBy wy none) : LwW w0 p c tb tv g sz m n F wy := ⟨h.z.ext C.toLwT hg, h.ws.ext hg, h.va⟩
end
theorem conv_row18 (v : World) (xs : List Int) : (convert 54 9 (.slice (some ⟨v.heap.size, 0, none⟩) xs.length xs.length)).run Tryz.prog (v.alloc (.cells (xs.map (Value.int .u8)).toArray 5)) = .ok (.string (strOfNums xs)) (v.alloc (.cells (xs.map (Value.int .u8)).toArray 5)) :=
  convert7 (.inr ⟨_, 0, xs.length, rfl, Nat.le_refl _, fun i hi => by
    rw [World.cell?_alloc_at _ _ _ _ rfl]
    simp [hi]⟩) rfl

theorem row_at18 {w wx : World} {a : Option Addr} {len cap : Nat} {ys : List Int} (h : IsRow .u8 w a len cap ys) (hs : ∀ x, a = some x → x.spot = none ∧ x.block < w.heap.size) (hE : w.grownBy wx none) {i : Nat} (hi : i < len) :
    ∃ b off, a = some ⟨b, off, none⟩ ∧ ∃ y : Nat, wx.cell? ⟨b, off + i, none⟩ = some (.int .u8 (y : Int)) ∧ y ≤ 255 := by
  rcases h with ⟨rfl, rfl, rfl, rfl⟩ | ⟨x, rfl, h1, h2, h3, h4, h5⟩
  · omega
  · obtain ⟨hsp, hb⟩ := hs x rfl
    obtain ⟨b, off, sp⟩ := x
    simp only at hsp hb
    subst hsp
    have hc := h4 i (by omega)
    rw [addr_add] at hc
    have hw := h5 _ (List.getElem_mem (show i < ys.length by omega))
    have hwb : 0 ≤ ys[i] ∧ ys[i] ≤ 255 := by simpa [Lit.wf, IntKind.min, IntKind.max, IntKind.bits, IntKind.signed] using hw
    have hg : ys.getD i 0 = ys[i]'(by omega) := by rw [List.getD_eq_getElem?_getD, List.getElem?_eq_getElem (by omega)]; rfl
    rw [hg] at hc
    refine ⟨b, off, rfl, (ys[i]'(by omega)).toNat, ?_, by omega⟩
    rw [show (((ys[i]'(by omega)).toNat : Nat) : Int) = ys[i]'(by omega) by omega]
    exact hE.cell hc (by simp)
theorem Tryz.infoStr18 : (Tryz.prog.info? 9).map (fun i => (i.zero, i.size, i.bytes)) = some (some (.string ⟨#[]⟩), 1, 16) := by kernel_rfl
set_option maxHeartbeats 6400000 in
theorem storeFull18_any (n0 n1 n2 n3 : Int) (ao : Option Addr) (n cap : Nat) (a : Option Addr) (len cap2 : Nat) (ys : List Int) (w : World) (hF : Flds w) (hy : IsRow .u8 w a len cap2 ys) (hys : ∀ x, a = some x → x.spot = none ∧ x.block < w.heap.size) :
    Calls Tryz.prog 6 #[.agg #[.int .i64 n0, .int .i64 n1, .int .i64 n2, .int .i64 n3, .slice ao n cap], .slice a len cap2] w fun e w' => e = .returned (.bool true) ∧ w.grownBy w' none := by
  have B0 := Blk.new w 24 (wardC n0 n1 n2 n3 ao n cap)
  have E0 := World.grownBy_alloc w (.cells (wardC n0 n1 n2 n3 ao n cap) 24) none
  obtain ⟨w1, hw1⟩ : ∃ v, w.alloc (.cells (wardC n0 n1 n2 n3 ao n cap) 24) = v := ⟨_, rfl⟩
  have hw1' : w.alloc (.cells #[.int .i64 n0, .int .i64 n1, .int .i64 n2, .int .i64 n3, .slice ao n cap] 24) = w1 := hw1
  obtain ⟨wb, hwb⟩ : ∃ v, w.heap.size = v := ⟨_, rfl⟩
  rw [hw1] at B0 E0
  rw [hwb] at B0
  have FX := fixed18_any w1 (hF.ext E0)
  have HF := Lib.hid hF
  have HY := Lib.hid (And.intro hy hys)
  have H0 := Lib.hid (And.intro B0 E0)
  have HWB := Lib.hid hwb
  clear hF B0 E0 hw1 hy hys
  go_enter Tryz.func6, Tryz.ntmps6
  go_upto_region 3 with (go_at_call 10; refine FX.mono ?_; rintro e w2 ⟨rfl, hE2⟩; have H2 := Lib.hid (And.intro (H0.out.1.ext hE2) (ext_trans H0.out.2 hE2)); clear hE2)
  clear FX hw1' hwb
  by_cases hbig : (100 : Int) < len
  · go_wp2
    go_ret
    exact ⟨rfl, H2.out.2⟩
  have hl100 : len ≤ 100 := by omega
  go_upto_region 5 with fail
  clear hbig
  have c4 : w2.cell? ⟨wb, 4, none⟩ = some (.slice ao n cap) := H2.out.1.cell 4
  have f4 := H2.out.1.free 4
  have B3 : Blk (w2.setCell ⟨wb, 4, none⟩ (.slice none 0 0)) wb 24 (wardC n0 n1 n2 n3 none 0 0) := H2.out.1.set 4 (.slice none 0 0)
  have E3 : w.grownBy (w2.setCell ⟨wb, 4, none⟩ (.slice none 0 0)) none := g17_new H2.out.2 (gb_set (gb_refl w2 _) _ _) (by rw [HWB.out]; exact Nat.le_refl _)
  go_upto_region 6 with fail
  clear c4 f4
  obtain ⟨w3, hw3⟩ : ∃ v, w2.setCell ⟨wb, 4, none⟩ (.slice none 0 0) = v := ⟨_, rfl⟩
  rw [hw3] at B3 E3 ⊢
  clear hw3 H2
  have HE3 := Lib.hid E3
  have OP3 := open18 n0 n1 n2 n3 (.slice none 0 0) [] w3 (HF.out.ext E3) (.inl ⟨rfl, rfl⟩) (fun k hk => by simp [Value.ownBlock] at hk) (by decide)
  clear E3
  go_upto_region 9 with (first
    | (refine ward_load18 rfl _ rfl rfl B3 ?_)
    | (go_at_call 12; refine OP3.mono ?_; rintro e w4 hop; obtain ⟨_, p, S, v, rfl, hO⟩ := hop.resolve_left (fun h => h.1 newE_none); have HO := Lib.hid hO; obtain ⟨vo, vn, vc, rfl⟩ := hO.vf; have hBn := Blk.new w4 33 (teC false 0 0 0 (.slice none 0 0)); clear hop hO)
    | (refine ten_store18 _ _ rfl rfl rfl hBn rfl rfl ?_; intro w5 hb5 hg5 hs5))
  have CT : LwT w3 p (cO S [] (szO n0) (prO n1) (toO n0 n1 n2 n3).toNat) w4.heap.size := ⟨⟨HO.out.ok, stt_O HO.out.pgs HO.out.all, HO.out.lo, HO.out.lb, rfl⟩, (show zsO [] 1 = [] from zsO_nil 1), HO.out.st.fresh (Nat.le_refl _)⟩
  have E45 : w4.grownBy w5 none := g17_new (World.grownBy_alloc w4 _ none) hg5 (Nat.le_refl _)
  have Z0 : LwZ w3 p (cO S [] (szO n0) (prO n1) (toO n0 n1 n2 n3).toNat) w4.heap.size (.slice vo vn vc) m0F 0 w5 := ⟨⟨HO.out.st.ext HO.out.ok E45, inv_O (open_room n0 n1 n2 n3), wf_O.mono (by omega), ext_trans HO.out.ext E45⟩, rfl, by decide, hb5⟩
  have hszi := szO_in n0
  obtain ⟨sz, hsz⟩ : ∃ z : Nat, szO n0 = z := ⟨(szO n0).toNat, by omega⟩
  have E56 := World.grownBy_alloc w5 (.cells (madeCells #[.string ⟨#[]⟩] (sz * 1)) 9) none
  have G := Lib.hid (show LwG w3 p (cO S [] (szO n0) (prO n1) (toO n0 n1 n2 n3).toNat) w4.heap.size w5.heap.size sz from ⟨CT, (Z0.lw.st).fresh (Nat.le_refl _), by have := hb5.lt; omega, Z0.lw.out.size, by have := hb5.lt; omega, hsz⟩)
  have W0 := Lib.hid (show LwW w3 p (cO S [] (szO n0) (prO n1) (toO n0 n1 n2 n3).toNat) w4.heap.size (.slice vo vn vc) w5.heap.size sz m0F 0 (fun _ => ⟨#[]⟩) (w5.alloc (.cells (madeCells #[.string ⟨#[]⟩] (sz * 1)) 9)) from ⟨Z0.ext CT E56, by
    have h := Blk.new w5 9 (madeCells #[.string ⟨#[]⟩] (sz * 1))
    rw [Nat.mul_one, stsC_made] at h ⊢
    exact h, fun i _ => val_O _⟩)
  have mk1 := make_run Tryz.underlying57 Tryz.infoStr18 sz (by omega) (by omega) w5
  obtain ⟨w6, hw6⟩ : ∃ v, w5.alloc (.cells (madeCells #[.string ⟨#[]⟩] (sz * 1)) 9) = v := ⟨_, rfl⟩
  rw [show (Value.string ⟨#[]⟩).cells = #[.string ⟨#[]⟩] from rfl, hw6] at mk1
  rw [hw6] at W0
  clear hw6
  have c2 : w5.cell? ⟨w4.heap.size, 2, none⟩ = some (.int .i64 (szO n0)) := hb5.cell 2
  rw [hsz] at c2 G W0
  have hsz12 : sz ≤ 12 ∧ 1 ≤ sz := by omega
  obtain ⟨c, hc⟩ : ∃ z, cO S [] (sz : Int) (prO n1) (toO n0 n1 n2 n3).toNat = z := ⟨_, rfl⟩
  rw [hc] at G W0
  obtain ⟨tb, htb⟩ : ∃ z, w4.heap.size = z := ⟨_, rfl⟩
  rw [htb] at G W0 c2 ⊢
  clear hb5 hg5 hs5 hBn B3 OP3 HO E45 hc htb H0 HF CT Z0 hszi E56
  have HSZ := Lib.hid hsz
  clear hsz
  go_upto_region 10 with fail
  clear mk1 c2
  obtain ⟨g, hg⟩ : ∃ v, w5.heap.size = v := ⟨_, rfl⟩
  rw [hg] at W0 G ⊢
  clear hg
  have hs1 := hsz12.1
  go_wp2
  go_loopw [38] (fun i wr => ∃ (r k : Nat) (m : SM) (F : Nat → ByteArray), r ≤ 3 ∧ i = .int .i64 r ∧ k ≤ r * 120 ∧ LwW w3 p c tb (.slice vo vn vc) g sz m k F wr) (fun i _ => 3 - (intOf i).toNat)
  case atStart => exact ⟨0, 0, _, _, by omega, rfl, by omega, W0.out⟩
  case round =>
    obtain ⟨r, k, m, F, hr, rfl, hk, hW⟩ := hrel
    obtain ⟨wo, rfl⟩ : ∃ wo : World, wo = wr := ⟨_, rfl⟩
    have HW := Lib.hid hW
    have c2 := (hW.z.bt.cell 2).trans (show (#[.bool true, .int .i64 1, .int .i64 c.sz, .int .i64 c.sp, .slice vo vn vc] : Array Value)[2]? = some (.int .i64 (sz : Int)) by rw [← G.out.sz']; rfl)
    clear hW
    have HK := Lib.hid hk
    clear hk
    by_cases hlt : (r : Int) < 3
    · go_wp2
      go_loopw [43] (fun i wr => ∃ (j k : Nat) (m : SM) (F : Nat → ByteArray), j ≤ sz ∧ i = .int .i64 j ∧ k ≤ r * 120 + j ∧ LwW w3 p c tb (.slice vo vn vc) g sz m k F wr) (fun i _ => sz - (intOf i).toNat)
      case atStart => exact ⟨0, k, m, F, by omega, rfl, by have := HK.out; omega, HW.out⟩
      case round =>
        clear c2
        obtain ⟨j, k2, m2, F2, hj, rfl, hk2, hW2⟩ := hrel
        obtain ⟨wi, rfl⟩ : ∃ wo : World, wo = wr := ⟨_, rfl⟩
        have HW2 := Lib.hid hW2
        have HK2 := Lib.hid hk2
        clear hk2
        by_cases hlt2 : j < sz
        · have cg := (hW2.ws.cell j).trans (stsC_at hlt2)
          have fg := hW2.ws.free j
          have hgl := hW2.ws.lt
          have KC := conv_row18 wi [(r : Int), (j : Int)]
          obtain ⟨st, hst⟩ : ∃ z, strOfNums [(r : Int), (j : Int)] = z := ⟨_, rfl⟩
          rw [hst] at KC
          have hst2 : st.size ≤ 16 := by rw [← hst, strOfNums_size]; simp
          simp only [List.map_cons, List.map_nil, List.length_cons, List.length_nil, Nat.zero_add] at KC
          clear hst hW2
          obtain ⟨wz, hwz⟩ : ∃ v, wi.setCell ⟨g, j, none⟩ (.string st) = v := ⟨_, rfl⟩
          obtain ⟨B5, m5, WR⟩ := HW2.out.put G.out (by have := HK2.out; omega) j hlt2 st hst2 wz (wz.alloc (.cells #[.int .u8 (r : Int), .int .u8 (j : Int)] 5)) hwz (World.grownBy_alloc wz _ none)
          have cz := (B5.cell j).trans (stsC_at hlt2)
          rw [show updF F2 j st j = st by simp [updF]] at cz
          obtain ⟨z0, hz0⟩ : ∃ z : Int, (0 : Int) = z := ⟨_, rfl⟩
          rw [hz0] at WR
          have hz1 : (z0 != 0) = false := by rw [← hz0]; rfl
          clear hz0 hst2 B5
          go_upto_region 17 with fail
          clear hwz cg fg hgl KC
          go_wp2_with (go_at_call 15; refine WR.mono ?_; rintro e w8 ⟨rfl, hW8⟩; have HW8 := Lib.hid hW8; clear hW8)
          go_roundw
          case rel => exact ⟨j + 1, k2 + 1, m5, _, by omega, by go_num, by have := HK2.out; omega, HW8.out⟩
          case measure => simp [intOf]; omega
        · clear hW2
          go_wp2
          go_loopw [66] (fun i wr => ∃ (j k : Nat) (m : SM) (F : Nat → ByteArray), j ≤ len ∧ i = .int .i64 j ∧ k ≤ r * 120 + 12 + j ∧ LwW w3 p c tb (.slice vo vn vc) g sz m k F wr) (fun i _ => len - (intOf i).toNat)
          case atStart => exact ⟨0, k2, m2, F2, by omega, rfl, by have := HK2.out; omega, HW2.out⟩
          case round =>
            clear HW2 HK2 hj hlt2
            obtain ⟨i, k3, m3, F3, hi, rfl, hk3, hW3⟩ := hrel
            obtain ⟨wi, rfl⟩ : ∃ wo : World, wo = wr := ⟨_, rfl⟩
            have HW3 := Lib.hid hW3
            have HK3 := Lib.hid hk3
            have c2 := (hW3.z.bt.cell 2).trans (show (#[.bool true, .int .i64 1, .int .i64 c.sz, .int .i64 c.sp, .slice vo vn vc] : Array Value)[2]? = some (.int .i64 (sz : Int)) by rw [← G.out.sz']; rfl)
            clear hk3 hW3
            by_cases hlt3 : i < len
            · obtain ⟨yb, yo, hya, y, hyc, hy255⟩ : ∃ b off, a = some ⟨b, off, none⟩ ∧ ∃ y : Nat, wi.cell? ⟨b, off + i, none⟩ = some (.int .u8 (y : Int)) ∧ y ≤ 255 := row_at18 HY.out.1 HY.out.2 (ext_trans HE3.out HW3.out.z.lw.out) hlt3
              subst hya
              obtain ⟨q, hq⟩ : ∃ q : Nat, ((y : Int) % (sz : Int)) = q := ⟨y % sz, (Int.natCast_emod y sz).symm⟩
              have hqs : q < sz := by
                have h1 := Int.emod_lt_of_pos (y : Int) (show (0 : Int) < sz by omega)
                omega
              have HW3q := HW3.out.ws
              have cg := (HW3q.cell q).trans (stsC_at hqs)
              have fg := HW3q.free q
              have hgl := HW3q.lt
              have KC := conv_row18 wi [(i : Int), 120]
              obtain ⟨st, hst⟩ : ∃ z, strOfNums [(i : Int), 120] = z := ⟨_, rfl⟩
              rw [hst] at KC
              have hst2 : st.size ≤ 16 := by rw [← hst, strOfNums_size]; simp
              simp only [List.map_cons, List.map_nil, List.length_cons, List.length_nil, Nat.zero_add] at KC
              clear hst HW3q
              have hs2 := hsz12.2
              obtain ⟨wz, hwz⟩ : ∃ v, wi.setCell ⟨g, q, none⟩ (.string st) = v := ⟨_, rfl⟩
              obtain ⟨B5, m5, WR⟩ := HW3.out.put G.out (by have := HK3.out; omega) q hqs st hst2 wz (wz.alloc (.cells #[.int .u8 (i : Int), .int .u8 120] 5)) hwz (World.grownBy_alloc wz _ none)
              have cz := (B5.cell q).trans (stsC_at hqs)
              rw [show updF F3 q st q = st by simp [updF]] at cz
              obtain ⟨z0, hz0⟩ : ∃ z : Int, (0 : Int) = z := ⟨_, rfl⟩
              rw [hz0] at WR
              have hz1 : (z0 != 0) = false := by rw [← hz0]; rfl
              clear hz0 hst2 B5
              go_upto_region 24 with fail
              try rw [hq]
              clear c2 hyc hq hs2
              go_upto_region 25 with fail
              clear hwz cg fg hgl KC
              go_wp2_with (go_at_call 15; refine WR.mono ?_; rintro e w8 ⟨rfl, hW8⟩; have HW8 := Lib.hid hW8; clear hW8)
              go_roundw
              case rel => exact ⟨i + 1, k3 + 1, m5, _, by omega, by go_num, by have := HK3.out; omega, HW8.out⟩
              case measure => simp [intOf]; omega
            · obtain ⟨m5, FL⟩ := HW3.out.flush G.out (by have := HK3.out; omega)
              obtain ⟨z0, hz0⟩ : ∃ z : Int, (0 : Int) = z := ⟨_, rfl⟩
              rw [hz0] at FL
              have hz1 : (z0 != 0) = false := by rw [← hz0]; rfl
              clear hz0 c2
              go_wp2_with (go_at_call 17; refine FL.mono ?_; rintro e w8 ⟨rfl, hW8⟩; have HW8 := Lib.hid hW8; clear hW8)
              go_roundw
              case rel => exact ⟨r + 1, k3 + 4, m5, _, by omega, by go_num, by have := HK3.out; omega, HW8.out⟩
              case measure => simp [intOf]; omega
    · go_wp2
      clear hlt
      go_loopw [98] (fun i wr => ∃ j : Nat, j ≤ sz ∧ i = .int .i64 j ∧ LwW w3 p c tb (.slice vo vn vc) g sz m k F wr) (fun i _ => sz - (intOf i).toNat)
      case atStart => exact ⟨0, by omega, rfl, HW.out⟩
      case round =>
        clear c2 HW
        obtain ⟨j, hj, rfl, hW⟩ := hrel
        obtain ⟨wi, rfl⟩ : ∃ wo : World, wo = wr := ⟨_, rfl⟩
        have HW := Lib.hid hW
        by_cases hlt2 : j < sz
        · have RD := hW.read G.out j hlt2
          have cg := Lib.hid (fun (wx : World) (hE : wi.grownBy wx none) => ((hW.ws.ext hE).cell j).trans (stsC_at (F := F) hlt2))
          obtain ⟨d, hd⟩ : ∃ z, F j = z := ⟨_, rfl⟩
          rw [hd] at RD cg
          obtain ⟨z0, hz0⟩ : ∃ z : Int, (0 : Int) = z := ⟨_, rfl⟩
          rw [hz0] at RD
          have hz1 : (z0 != 0) = false := by rw [← hz0]; rfl
          clear hz0 hW hd
          go_upto_region 35 with (go_at_call 16; refine RD.mono ?_; rintro e w8 ⟨rfl, hg8⟩; have HW8 := Lib.hid (HW.out.ext G.out hg8); have cq := cg.out w8 hg8; clear hg8)
          clear RD
          go_wp2
          go_roundw
          case rel => exact ⟨j + 1, by omega, by go_num, HW8.out⟩
          case measure => simp [intOf]; omega
        · clear hW
          go_wp2
          go_ret
          exact ⟨rfl, ext_trans HE3.out HW.out.z.lw.out⟩

end Go.Proofs.YtfibpgfjlmlpaaaGreatDoor
