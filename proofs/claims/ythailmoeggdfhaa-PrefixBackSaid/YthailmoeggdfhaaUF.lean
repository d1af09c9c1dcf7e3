/-
  Layer 24: PrefixFinds over the contracts.
-/
import Derived.Test.YthailmoeggdfhaaUE
namespace Go.Proofs.Ythailmoeggdfhaa
set_option linter.unusedVariables false
set_option linter.unusedSimpArgs false
set_option maxRecDepth 100000
open Go.RowKit

theorem lastD24 (y : Nat) (r : List Nat) : (y :: r).getD r.length 0 = (y :: r).getLastD 0 := by
  rw [List.getD_eq_getElem?_getD, List.getLastD_eq_getLast?, List.getLast?_eq_getElem?]
  simp

set_option maxHeartbeats 3200000 in
theorem prefixFinds_any (FX : Fix24) (AC : AftC) (FC : FinC) (LC : LonC) (w : World) (a b c : Option Addr) (ca cb cc : Nat) (ss ts : List ByteArray) (X : List (Int × ByteArray)) (h1 : TxR w a ss) (s1 : Sl a ss.length ca) (h2 : ChT w b X) (s2 : Sl b X.length cb) (h3 : TxR w c ts) (s3 : Sl c ts.length cc)
    (l1 : ss.length ≤ 1048576) (l2 : X.length ≤ 1048576) (l3 : ts.length ≤ 1048576) :
    Calls Try.prog 3 #[.slice a ss.length ca, .slice b X.length cb, .slice c ts.length cc] w fun e w' => e = .returned (.bool true) ∧ w.grownBy w' none := by
  have FXH := Lib.hid FX
  have FW := Lib.hid (fun (wx : World) (hE : w.grownBy wx none) => few24 wx a c b ca cc cb ss ts X (h1.ext hE) s1.nil s1.spot (h3.ext hE) s3.nil s3.spot (h2.ext hE) (by omega) (by omega))
  have HR := Lib.hid h2
  have REST := Lib.hid (fun (wx : World) (hE : w.grownBy wx none) (m1 : ss.length ≤ 1000) (m2 : X.length ≤ 1000) (m3 : ts.length ≤ 1000) => And.intro (FC wx a b c ca cb cc ss ts X (h1.ext hE) s1 (h2.ext hE) s2 (h3.ext hE) s3 m1 m2 m3) (And.intro (LC wx a b c ca cb cc ss ts X (h1.ext hE) s1 (h2.ext hE) s2 (h3.ext hE) s3 m1 m2 m3) (AC wx a b ca cb ss X (h1.ext hE) s1 (h2.ext hE) s2 m1 m2)))
  have REF := Lib.hid (fun (wx : World) (hE : w.grownBy wx none) (x : Option Addr) (cx : Nat) (hX : ChT wx x X) (sx : Sl x X.length cx) (m1 : ss.length ≤ 1000) (m2 : X.length ≤ 1000) (m3 : ts.length ≤ 1000) => And.intro (all24 wx a x c ca cx cc ss ts X (h1.ext hE) s1.nil s1.spot hX ⟨sx.le, sx.max⟩ (fun h => (sx.nil h).2) sx.spot (h3.ext hE) m1 m2 m3) (after24 wx a x ca cx ss X (h1.ext hE) s1.nil s1.spot hX m1 m2))
  clear FX AC FC LC h1 h2 h3
  go_enter Try.func3, Try.ntmps3
  go_upto_if 21 with (first
    | (go_at_call 5; refine (FXH.out _).mono ?_; rintro e w1 ⟨rfl, hE1⟩; have HE1 := Lib.hid hE1; clear hE1)
    | (go_at_call 6; refine (FW.out _ HE1.out).mono ?_; rintro e w2 ⟨⟨r, rfl, hr⟩, hE2⟩; have HR2 := Lib.hid hr; have HE2 := Lib.hid (ext_trans HE1.out hE2); clear hr hE2))
  rcases r with _ | _
  · go_wp2
    go_ret
    exact ⟨rfl, HE2.out⟩
  obtain ⟨m1, m3, m2⟩ := HR2.out rfl
  clear HR2
  have m1' : ss.length ≤ 1000 := by omega
  have m2' : X.length ≤ 1000 := by omega
  have m3' : ts.length ≤ 1000 := by omega
  go_wp2
  go_loopw [7, 24] (fun s i wr => ∃ (j : Nat) (v : Value), j ≤ X.length ∧ s = v ∧ i = .int .i64 j ∧ OwnCh w.heap.size wr v (X.take j) ∧ w.grownBy wr none) (fun _ i _ => X.length - (intOf i).toNat)
  case atStart => exact ⟨0, _, by omega, rfl, rfl, ⟨rfl, .inl ⟨rfl, rfl⟩⟩, HE2.out⟩
  case round =>
    obtain ⟨j, v, hj, rfl, rfl, ho, hE⟩ := hrel
    by_cases hlt : j < X.length
    · obtain ⟨ab, off, rfl, hr⟩ := (HR.out.ext hE) j hlt
      obtain ⟨⟨pl, dt⟩, hx⟩ : ∃ x, X.getD j (0, ByteArray.empty) = x := ⟨_, rfl⟩
      rw [hx] at hr
      have hBa := Blk.new wr 28 #[.int .i64 0, .string ⟨#[]⟩]
      have HX0 := Lib.hid (show X.take (j + 1) = X.take j ++ [(pl, dt)] from by
        rw [← List.take_append_getElem hlt, ← hx, List.getD_eq_getElem?_getD, List.getElem?_eq_getElem hlt]
        rfl)
      obtain ⟨Z, hZ⟩ : ∃ Z, X.take j = Z := ⟨_, rfl⟩
      rw [hZ] at ho
      have HX := Lib.hid (show X.take (j + 1) = Z ++ [(pl, dt)] from by rw [HX0.out, hZ])
      obtain ⟨ao, co, rfl⟩ := owns_shape13 ho
      have HT := Lib.hid (And.intro ho hE)
      have HL := Lib.hid (show Z.length ≤ 1000000 from by rw [← hZ]; simp; omega)
      clear ho hE hx hZ
      go_wp2_with (first
        | (refine ch23_load rfl _ rfl rfl hr ?_)
        | (refine ch23_store rfl _ _ rfl rfl rfl hBa rfl ?_; intro w6 hb6 hg6 hs6; have c0 := (hb6.cell 0).trans (show (ch24C (pl, dt))[0]? = some (.int .i64 pl) from rfl); have c1 := (hb6.cell 1).trans (show (ch24C (pl, dt))[1]? = some (.string dt) from rfl); have hE6 : wr.grownBy w6 none := new24 (World.grownBy_alloc wr _ none) hg6 (Nat.le_refl _); have HO6 := Lib.hid ((HT.out.1.kept hE6 (Classical.em _)).kept (World.grownBy_alloc w6 (.cells (ch24C (pl, dt)) 29) none) (Classical.em _)); have HE6 := Lib.hid (ext_trans (ext_trans HT.out.2 hE6) (World.grownBy_alloc w6 (.cells (ch24C (pl, dt)) 29) none)); clear hBa hg6 hs6 hb6 hr hE6)
        | (at_builtin; go_loud (refine append_ch24 rfl _ _ rfl w.heap.size _ Z rfl HO6.out ⟨w6.heap.size, 0, none⟩ 1 (pl, dt) rfl (cells_new24 w6 _ _) HL.out HE6.out.size ?_; intro v7 w7 ho7 hg7; obtain ⟨Y, hY⟩ : ∃ Y, Z ++ [(pl, dt)] = Y := ⟨_, rfl⟩; rw [hY] at ho7; obtain ⟨a7, c7, rfl⟩ := owns_shape13 ho7; have HY := Lib.hid (HX.out.trans hY); have H7 := Lib.hid (And.intro ho7 (grown_trans HE6.out hg7 (fun p hp hlt => by have := (HO6.out.lt p hp).1; omega))); clear ho7 hg7 hY)))
      go_roundw
      case rel =>
        refine ⟨_, _, _, _, _, _, _, _, _, _, _, _, _, _, _, ?_, rfl⟩
        exact ⟨j + 1, _, by omega, rfl, by go_num, by rw [HY.out]; exact H7.out.1, H7.out.2⟩
      case measure => simp [intOf]; omega
    · obtain rfl : j = X.length := by omega
      rw [List.take_length] at ho
      obtain ⟨x, cx, rfl, sx, hx⟩ := ownCh_open ho
      have HT := Lib.hid hE
      have HX := Lib.hid hx
      have SX := Lib.hid sx
      clear hE ho hx sx
      have AL := (REF.out wr HT.out x cx HX.out SX.out m1' m2' m3').1
      have RF := Lib.hid (fun (wx : World) (hE : w.grownBy wx none) (hX : ChT wx x X) => (REF.out wx hE x cx hX SX.out m1' m2' m3').2)
      have SM := Lib.hid (fun (wx : World) (a1 : Option Addr) (c1 g cap : Nat) (h : TxR wx a1 (aftR X ss)) (hT : TxB wx g ss.length (aftU X ss ss.length)) => by
        have := same24 wx a1 (some ⟨g, 0, none⟩) c1 cap (aftR X ss) (aftR X ss) h hT.aft (by rw [aftR_length]; exact m1') (by rw [aftR_length]; exact m1')
        rw [aftR_length, decide_eq_true rfl] at this
        exact this)
      have FL := fun (wx : World) (hE : w.grownBy wx none) => REST.out wx hE m1' m2' m3'
      obtain ⟨l, hl⟩ : ∃ l, allN X ss ts (X.length + 1) = l := ⟨_, rfl⟩
      simp only [hl] at AL FL
      have hll : l.length ≤ 61 := by rw [← hl]; exact Nat.le_trans (allN_length _ _ _ _) (by omega)
      clear hl REF REST FXH FW
      rcases l with _ | ⟨y, r⟩
      · obtain ⟨k0, hk0⟩ : ∃ z : Int, z = 0 := ⟨_, rfl⟩
        have hk : (k0 == 0) = true := by simp [hk0]
        have FL0 := Lib.hid (fun (wx : World) (hE : w.grownBy wx none) => show Calls Try.prog 8 #[.slice a ss.length ca, .slice b X.length cb, .slice c ts.length cc] wx (fun e w' => e = .returned (.tuple #[.int .i64 k0, .bool false]) ∧ wx.grownBy w' none) from by rw [hk0]; exact (FL wx hE).1)
        have FL1 := Lib.hid (fun (wx : World) (hE : w.grownBy wx none) => show Calls Try.prog 9 #[.slice a ss.length ca, .slice b X.length cb, .slice c ts.length cc] wx (fun e w' => e = .returned (.tuple #[.int .i64 k0, .bool false]) ∧ wx.grownBy w' none) from by rw [hk0]; exact (FL wx hE).2.1)
        have FL2 := Lib.hid (fun (wx : World) (hE : w.grownBy wx none) => (FL wx hE).2.2)
        clear FL hk0
        go_wp2_with (first
          | (go_at_call 7; refine AL.mono ?_; rintro e w3 ⟨v3, rfl, ho3, hE3⟩; obtain ⟨a3, c3, rfl, hc3⟩ := ownI_open24 ho3; have HX3 := Lib.hid (HX.out.ext hE3); have HE3 := Lib.hid (ext_trans HT.out hE3); clear ho3 hc3 hE3)
          | (go_at_call 8; refine (FL0.out _ HE3.out).mono ?_; rintro e w4 ⟨rfl, hE4⟩; have HX4 := Lib.hid (HX3.out.ext hE4); have HE4 := Lib.hid (ext_trans HE3.out hE4); clear hE4)
          | (go_at_call 9; refine (FL1.out _ HE4.out).mono ?_; rintro e w5 ⟨rfl, hE5⟩; have HX5 := Lib.hid (HX4.out.ext hE5); have HE5 := Lib.hid (ext_trans HE4.out hE5); clear hE5)
          | (go_at_call 11; refine (FL2.out _ HE5.out).mono ?_; rintro e w6 ⟨a6, c6, rfl, s6, t6, hE6⟩; have HX6 := Lib.hid (HX5.out.ext hE6); have HE6 := Lib.hid (ext_trans HE5.out hE6); have T6 := Lib.hid t6; clear hE6 t6 s6)
          | (go_at_call 12; refine (RF.out _ HE6.out HX6.out).mono ?_; rintro e w7 ⟨g7, cap7, rfl, _, t7, hE7⟩; have HE7 := Lib.hid (ext_trans HE6.out hE7); have T67 := Lib.hid (T6.out.ext hE7); have T7 := Lib.hid t7; clear hE7 t7)
          | (go_at_call 10; refine (SM.out _ a6 c6 g7 cap7 T67.out T7.out).mono ?_; rintro e w8 ⟨rfl, hE8⟩; have HE8 := Lib.hid (ext_trans HE7.out hE8); clear hE8))
        go_ret
        exact ⟨rfl, HE8.out⟩
      · have hrl : r.length ≤ 60 := by simp at hll; omega
        clear hll
        obtain ⟨z, hz⟩ : ∃ z, (y :: r).getLastD 0 = z := ⟨_, rfl⟩
        have hz2 := (lastD24 y r).trans hz
        have FL0 := Lib.hid (fun (wx : World) (hE : w.grownBy wx none) => show Calls Try.prog 8 #[.slice a ss.length ca, .slice b X.length cb, .slice c ts.length cc] wx (fun e w' => e = .returned (.tuple #[.int .i64 (y : Nat), .bool true]) ∧ wx.grownBy w' none) from (FL wx hE).1)
        have FL1 := Lib.hid (fun (wx : World) (hE : w.grownBy wx none) => show Calls Try.prog 9 #[.slice a ss.length ca, .slice b X.length cb, .slice c ts.length cc] wx (fun e w' => e = .returned (.tuple #[.int .i64 (z : Nat), .bool true]) ∧ wx.grownBy w' none) from by rw [← hz]; exact (FL wx hE).2.1)
        have FL2 := Lib.hid (fun (wx : World) (hE : w.grownBy wx none) => (FL wx hE).2.2)
        have HZ := Lib.hid hz2
        clear FL hz hz2
        go_upto_if 74 with (first
          | (go_at_call 7; refine AL.mono ?_; rintro e w3 ⟨v3, rfl, ho3, hE3⟩; obtain ⟨a3, c3, rfl, hc3⟩ := ownI_open24 ho3; obtain ⟨g3, rfl, cy⟩ := hc3 0 (by simp); obtain ⟨_, e3, cz⟩ := hc3 r.length (by simp); injection e3 with e3; injection e3 with e3; subst e3; rw [HZ.out] at cz; have C3 := Lib.hid (show w3.cell? ⟨g3, 0, none⟩ = some (.int .i64 (y : Nat)) ∧ w3.cell? ⟨g3, r.length, none⟩ = some (.int .i64 (z : Nat)) from ⟨cy, cz⟩); have HX3 := Lib.hid (HX.out.ext hE3); have HE3 := Lib.hid (ext_trans HT.out hE3); clear ho3 hc3 hE3 cy cz)
          | (go_at_call 8; refine (FL0.out _ HE3.out).mono ?_; rintro e w4 ⟨rfl, hE4⟩; have HX4 := Lib.hid (HX3.out.ext hE4); have HE4 := Lib.hid (ext_trans HE3.out hE4); have G4 := Lib.hid hE4; clear hE4)
          | (go_at_call 9; refine (FL1.out _ HE4.out).mono ?_; rintro e w5 ⟨rfl, hE5⟩; have HX5 := Lib.hid (HX4.out.ext hE5); have HE5 := Lib.hid (ext_trans HE4.out hE5); have G5 := Lib.hid (ext_trans G4.out hE5); clear hE5)
          | (go_at_call 11; refine (FL2.out _ HE5.out).mono ?_; rintro e w6 ⟨a6, c6, rfl, s6, t6, hE6⟩; have HX6 := Lib.hid (HX5.out.ext hE6); have HE6 := Lib.hid (ext_trans HE5.out hE6); have G6 := Lib.hid (ext_trans G5.out hE6); have T6 := Lib.hid t6; clear hE6 t6 s6)
          | (go_at_call 12; refine (RF.out _ HE6.out HX6.out).mono ?_; rintro e w7 ⟨g7, cap7, rfl, _, t7, hE7⟩; have HE7 := Lib.hid (ext_trans HE6.out hE7); have G7 := Lib.hid (ext_trans G6.out hE7); have T67 := Lib.hid (T6.out.ext hE7); have T7 := Lib.hid t7; clear hE7 t7)
          | (go_at_call 10; refine (SM.out _ a6 c6 g7 cap7 T67.out T7.out).mono ?_; rintro e w8 ⟨rfl, hE8⟩; have HE8 := Lib.hid (ext_trans HE7.out hE8); have G8 := Lib.hid (ext_trans G7.out hE8); clear hE8))
        have cy := G8.out.cell C3.out.1 (by simp)
        have cz := G8.out.cell C3.out.2 (by simp)
        go_wp2
        go_ret
        exact ⟨rfl, HE8.out⟩

end Go.Proofs.Ythailmoeggdfhaa
