/-
  Layer 17: what Heal and Void answer (contracts); HealVoid over them.
-/
import Derived.Test.YtigfohofbpjldaaHF
namespace Go.Proofs.Ytigfohofbpjldaa
set_option linter.unusedVariables false
set_option linter.unusedSimpArgs false
set_option maxRecDepth 100000
open Go.RowKit

def voidB (tn ep sz b : Int) (f : Fnd) : Bool := (f.bk == b) && (mineF tn ep f && decide (sz ≤ f.pl))
/-- The blocks, of the first k, with a page of a place beyond the size. -/
def voidN (L : List Fnd) (tn ep sz : Int) : Nat → List Int
  | 0 => []
  | k + 1 => if L.any (voidB tn ep sz k) then voidN L tn ep sz k ++ [(k : Int)] else voidN L tn ep sz k
theorem voidN_len (L : List Fnd) (tn ep sz : Int) : ∀ k, (voidN L tn ep sz k).length ≤ k
  | 0 => by simp [voidN]
  | k + 1 => by
    have := voidN_len L tn ep sz k
    unfold voidN
    split
    · simp; omega
    · omega
/-- A place's page, as the program's row has it. -/
def spotC17 (x : Int × Int × Int) : Array Value := #[.int .i64 x.1, .int .i64 x.2.1, .int .i64 x.2.2]
def spotsL17 (xs : List (Int × Int × Int)) : List Value := xs.flatMap fun x => (spotC17 x).toList
/-- The places' pages, of the first k places. -/
def spotsN (A : List Fnd) (gone : List Int) : Nat → List (Int × Int × Int)
  | 0 => []
  | k + 1 => if (bestN A gone k).2 then spotsN A gone k ++ [((k : Int), (bestN A gone k).1.bk, (bestN A gone k).1.pg)] else spotsN A gone k
/-- A row of pages that may be asked. -/
structure Ask17 (w : World) (lv : Value) (L : List Fnd) (B : Int) : Prop where
  row : RowF w lv L
  lb : ∀ k, lv.ownBlock = some k → k < w.heap.size
  may : mayL L B = true
theorem Ask17.ext {w w' : World} {lv : Value} {L : List Fnd} {B : Int} (h : Ask17 w lv L B) (hE : w.grownBy w' none) : Ask17 w' lv L B :=
  ⟨h.row.ext hE, fun k hk => by have := h.lb k hk; have := hE.size; omega, h.may⟩
theorem mayL_parts {L : List Fnd} {B : Int} (h : mayL L B = true) : OkL L ∧ L.length ≤ 60 ∧ B ≤ 64 := by
  unfold mayL at h
  simp only [Bool.and_eq_true, decide_eq_true_eq] at h
  refine ⟨fun f hf ht => ?_, h.2.1, h.2.2⟩
  have h1 := List.all_eq_true.1 h.1 f hf
  unfold okF at h1
  rw [ht] at h1
  simpa using h1
/-- What the program's Heal answers. -/
def HealC : Prop := ∀ (lv : Value) (L : List Fnd) (B tn ep sz : Int) (w : World), Ask17 w lv L B →
  Calls Try.prog 8 #[lv, .int .i64 B, .int .i64 tn, .int .i64 ep, .int .i64 sz] w fun e w' => (∃ sv gv, e = .returned (.agg #[sv, gv, .int .i64 (seqN B tn ep L)]) ∧
    w'.ownsRow w.heap.size 40 3 sv (spotsN (cntL B tn ep sz L) (goN L (cntL B tn ep sz L) B.toNat) 64).length (spotsL17 (spotsN (cntL B tn ep sz L) (goN L (cntL B tn ep sz L) B.toNat) 64)) ∧
    OwnI17 w.heap.size w' gv (goN L (cntL B tn ep sz L) B.toNat)) ∧ w.grownBy w' none
/-- What the program's Void answers. -/
def VoidC : Prop := ∀ (lv : Value) (L : List Fnd) (B tn ep sz : Int) (w : World), Ask17 w lv L B →
  Calls Try.prog 14 #[lv, .int .i64 B, .int .i64 tn, .int .i64 ep, .int .i64 sz] w fun e w' => (∃ v, e = .returned v ∧ OwnI17 w.heap.size w' v (voidN L tn ep sz B.toNat)) ∧ w.grownBy w' none
def Fix17 : Prop := ∀ w : World, Calls Try.prog 6 #[] w fun e w' => e = .returned (.bool true) ∧ w.grownBy w' none

set_option maxHeartbeats 3200000 in
theorem healVoid_any (VC : VoidC) (FX : Fix17) (lv : Value) (L : List Fnd) (B tn ep sz : Int) (w : World) (h : RowF w lv L) (hlb : ∀ k, lv.ownBlock = some k → k < w.heap.size) (hl : L.length ≤ 9223372036854775807) :
    Calls Try.prog 5 #[lv, .int .i64 B, .int .i64 tn, .int .i64 ep, .int .i64 sz] w fun e w' => e = .returned (.bool true) ∧ w.grownBy w' none := by
  have MAY := fun wx (hE : w.grownBy wx none) => may17_any lv L B wx (h.ext hE) hl
  cases hm : mayL L B
  · simp only [hm] at MAY
    clear hm
    go_enter Try.func5, Try.ntmps5
    go_wp2_with (first
      | (go_at_call 6; refine (FX _).mono ?_; rintro e w2 ⟨rfl, hE2⟩; have HE2 := Lib.hid hE2; clear hE2)
      | (go_at_call 7; refine (MAY _ HE2.out).mono ?_; rintro e w3 ⟨rfl, hE3⟩; have HE3 := Lib.hid (ext_trans HE2.out hE3); clear hE3))
    go_ret
    exact ⟨rfl, HE3.out⟩
  simp only [hm] at MAY
  have HASK := Lib.hid (show Ask17 w lv L B from ⟨h, hlb, hm⟩)
  obtain ⟨hokl, hl60, hB64⟩ := mayL_parts hm
  obtain ⟨mB, hmB⟩ : ∃ z, max B 0 = z := ⟨_, rfl⟩
  obtain ⟨M, hM⟩ : ∃ z, B.toNat = z := ⟨_, rfl⟩
  have hcond : ∀ k : Nat, decide ((k : Int) < mB) = decide (k < M) := fun k => by
    by_cases hk : k < M
    · rw [decide_eq_true hk, decide_eq_true (by omega)]
    · rw [decide_eq_false hk, decide_eq_false (by omega)]
  have hM64 : M ≤ 64 := by omega
  have HC := Lib.hid (And.intro hcond (And.intro hmB hM))
  obtain ⟨ao, cap, hv, _⟩ := h
  obtain ⟨n, hn⟩ : ∃ n, L.length = n := ⟨_, rfl⟩
  rw [hn] at hv hl60
  subst hv
  have HN := Lib.hid hn
  clear hn hm hlb hokl hcond hmB hM hB64 hl
  go_enter Try.func5, Try.ntmps5
  go_upto_region 6 with (first
    | (go_at_call 6; refine (FX _).mono ?_; rintro e w2 ⟨rfl, hE2⟩; have HE2 := Lib.hid hE2; clear hE2)
    | (go_at_call 7; refine (MAY _ HE2.out).mono ?_; rintro e w3 ⟨rfl, hE3⟩; have HE3 := Lib.hid (ext_trans HE2.out hE3); clear hE3))
  clear MAY
  go_cut [22, 23] (fun s i wx => s = .int .i64 mB ∧ i = .int .i64 0 ∧ w3 = wx)
  case first =>
    go_wp2
    all_goals
      go_meet
      exact ⟨congrArg (Value.int .i64) (by have := HC.out.2.1; omega), rfl, rfl⟩
  case rest =>
    obtain ⟨rfl, rfl, rfl⟩ := hcut
    have HS := Lib.hid (show GoS w3 w3 (.slice ao n cap) (.slice ao n cap) (.slice none 0 0) L L (voidN L tn ep sz 0) from ⟨HASK.out.row.ext HE3.out, HASK.out.row.ext HE3.out, ⟨by simp [voidN], .inl ⟨rfl, rfl⟩⟩, (HASK.out.ext HE3.out).lb, (HASK.out.ext HE3.out).lb, Ext.refl w3⟩)
    go_wp2
    go_loopw [11, 23] (fun s i wr => ∃ (k : Nat) (ov : Value), k ≤ M ∧ i = .int .i64 k ∧ s = ov ∧ GoS w3 wr (.slice ao n cap) (.slice ao n cap) ov L L (voidN L tn ep sz k)) (fun _ i _ => M - (intOf i).toNat)
    case atStart => exact ⟨0, _, by omega, rfl, rfl, HS.out⟩
    case round =>
      clear HS
      obtain ⟨k, ov, hk, rfl, rfl, hS⟩ := hrel
      obtain ⟨wo, rfl⟩ : ∃ wo : World, wo = wr := ⟨_, rfl⟩
      have hck := HC.out.1 k
      obtain ⟨out, hout⟩ : ∃ z, voidN L tn ep sz k = z := ⟨_, rfl⟩
      have hol : out.length ≤ 1000 := by rw [← hout]; have := voidN_len L tn ep sz k; omega
      rw [hout] at hS
      obtain ⟨oo, oc, hov⟩ := owns_slice17 hS.own
      obtain ⟨no, hno⟩ : ∃ z, out.length = z := ⟨_, rfl⟩
      rw [hno] at hov hol
      subst hov
      have HO := Lib.hid (And.intro hout hno)
      have HS := Lib.hid hS
      clear hS hout hno
      by_cases hlt : k < M
      · rw [decide_eq_true hlt] at hck
        go_wp2
        go_loopw [11, 28] (fun s i wr => s = .slice oo no oc ∧ ∃ j : Nat, j ≤ n ∧ i = .int .i64 j ∧ (L.take j).any (voidB tn ep sz k) = false ∧ GoS w3 wr (.slice ao n cap) (.slice ao n cap) (.slice oo no oc) L L out) (fun _ i _ => n - (intOf i).toNat)
        case atStart => exact ⟨rfl, 0, by omega, rfl, rfl, HS.out⟩
        case round =>
          clear HS
          obtain ⟨rfl, j, hj, rfl, hno_, hS⟩ := hrel
          obtain ⟨wp, rfl⟩ : ∃ wp : World, wp = wr := ⟨_, rfl⟩
          have HS := Lib.hid hS
          have HNO := Lib.hid hno_
          clear hS hno_
          by_cases hlt1 : j < n
          · obtain ⟨f, hf⟩ : ∃ f, L.getD j noF = f := ⟨_, rfl⟩
            obtain ⟨ao2, cap2, hv2, hc2⟩ := HS.out.l
            obtain ⟨b, off, hao, hr⟩ := hc2 j (by rw [HN.out]; exact hlt1)
            simp only [Value.slice.injEq] at hv2
            obtain ⟨rfl, -, -⟩ := hv2
            subst hao
            rw [hf] at hr
            have HF := Lib.hid (take17 (by rw [HN.out]; exact hlt1) hf)
            have HME := Lib.hid (getD_mem17 (by rw [HN.out]; exact hlt1) hf)
            have hBn := Blk.new wp 36 (fndC noF)
            clear hf hc2
            go_upto_region 12 with (first
              | (refine fnd_load rfl _ rfl rfl hr ?_)
              | (refine fnd_store _ _ rfl rfl rfl hBn rfl rfl ?_; intro w4 hb4 hg4 hs4; have HS4 := Lib.hid (HS.out.next (g17_new (World.grownBy_alloc wp _ none) hg4 (Nat.le_refl _))); have d0 := (FCells.of hb4).bk; have d5 := (FCells.of hb4).pl; have hbf := hb4; clear hBn hg4 hs4 hb4))
            clear hr HS
            obtain ⟨x0, hx0⟩ : ∃ z, f.bk = z := ⟨_, rfl⟩
            obtain ⟨x5, hx5⟩ : ∃ z, f.pl = z := ⟨_, rfl⟩
            rw [hx0] at d0
            rw [hx5] at d5
            obtain ⟨z1, hz1⟩ : ∃ z, (x0 == (k : Int)) = z := ⟨_, rfl⟩
            obtain ⟨m, hm⟩ : ∃ z, mineF tn ep f = z := ⟨_, rfl⟩
            obtain ⟨z3, hz3⟩ : ∃ z, decide (sz ≤ x5) = z := ⟨_, rfl⟩
            have HT := Lib.hid (show voidB tn ep sz k f = (z1 && (m && z3)) by unfold voidB; rw [hx0, hx5, hz1, hm, hz3])
            have MINE := fun wx => mine17_any f tn ep wx
            rw [hm] at MINE
            clear hx0 hx5 hm
            cases z1
            · clear hz3
              go_wp2
              go_roundw
              case rel => exact ⟨rfl, j + 1, by omega, by go_num, by rw [HF.out, any_snoc17, HNO.out, HT.out]; rfl, HS4.out⟩
              case measure => simp [intOf]; omega
            · cases m
              · clear hz3
                go_wp2_with (first
                  | (refine fnd_load rfl _ rfl rfl hbf.range17 ?_)
                  | (go_at_call 13; refine (MINE _).mono ?_; rintro e w5 ⟨rfl, hE5⟩; have HS5 := Lib.hid (HS4.out.next hE5); clear hE5))
                go_roundw
                case rel => exact ⟨rfl, j + 1, by omega, by go_num, by rw [HF.out, any_snoc17, HNO.out, HT.out]; rfl, HS5.out⟩
                case measure => simp [intOf]; omega
              · cases z3
                · go_wp2_with (first
                    | (refine fnd_load rfl _ rfl rfl hbf.range17 ?_)
                    | (go_at_call 13; refine (MINE _).mono ?_; rintro e w5 ⟨rfl, hE5⟩; have d5 := hE5.cell d5 (by simp); have HS5 := Lib.hid (HS4.out.next hE5); clear hE5))
                  go_roundw
                  case rel => exact ⟨rfl, j + 1, by omega, by go_num, by rw [HF.out, any_snoc17, HNO.out, HT.out]; rfl, HS5.out⟩
                  case measure => simp [intOf]; omega
                · have HST := Lib.hid (show voidN L tn ep sz (k + 1) = out ++ [(k : Int)] by
                    have h1 : L.any (voidB tn ep sz k) = true := List.any_eq_true.2 ⟨f, HME.out, by rw [HT.out]; rfl⟩
                    unfold voidN
                    rw [if_pos h1, HO.out.1])
                  go_upto_region 13 with (first
                    | (refine fnd_load rfl _ rfl rfl hbf.range17 ?_)
                    | (go_at_call 13; refine (MINE _).mono ?_; rintro e w5 ⟨rfl, hE5⟩; have d5 := hE5.cell d5 (by simp); have HS5 := Lib.hid (HS4.out.next hE5); clear hE5))
                  have hown := HS5.out.own.alloc (.cells #[.int .i64 k] 3)
                  rw [HO.out.2] at hown
                  go_wp2_with (first
                    | (at_builtin; go_loud (refine append_int17 rfl _ _ rfl w3.heap.size (.slice oo no oc) out no HO.out.2 rfl hown ⟨w5.heap.size, 0, none⟩ 1 k rfl (by simp) (by omega) (by have := HS5.out.ext.size; simp; omega) ?_; intro v' w7 hrow' hg'; have hE7 := Lib.hid (own_alloc17 (Ext.refl w5) hg'); obtain ⟨ao7, cap7, hv7⟩ := owns_slice17 hrow'; subst hv7)))
                  go_roundw
                  case rel =>
                    refine ⟨k + 1, _, by omega, by go_num, rfl, ?_⟩
                    rw [HST.out]
                    have hlow := HS5.out.own.lt
                    refine ⟨HS5.out.l.kept hE7.out (fun q hq e => by have := (hlow q e.symm).1; have := HS5.out.lb q hq; omega), HS5.out.all.kept hE7.out (fun q hq e => by have := (hlow q e.symm).1; have := HS5.out.ab q hq; omega), ?_, HS5.out.lb, HS5.out.ab, own_ext17 HS5.out.own HS5.out.ext hE7.out (Nat.le_refl _)⟩
                    show World.ownsRow _ _ _ _ _ (out ++ [(k : Int)]).length _
                    rw [List.length_append, HO.out.2]
                    exact hrow'
                  case measure => simp [intOf]; omega
          · have hjn : j = n := by omega
            have HST := Lib.hid (show voidN L tn ep sz (k + 1) = out by
              have h1 := HNO.out
              rw [List.take_of_length_le (by rw [HN.out]; omega)] at h1
              unfold voidN
              rw [h1, HO.out.1]
              rfl)
            clear hjn
            go_wp2
            go_roundw
            case rel => exact ⟨k + 1, _, by omega, by go_num, rfl, by rw [HST.out]; exact HS.out⟩
            case measure => simp [intOf]; omega
      · rw [decide_eq_false hlt] at hck
        have hkM : k = M := by omega
        have HV := Lib.hid (show voidN L tn ep sz B.toNat = out by rw [HC.out.2.2, ← hkM, HO.out.1])
        clear hkM
        have hASK := HASK.out.ext (ext_trans HE3.out HS.out.ext)
        have VO := VC (.slice ao n cap) L B tn ep sz wo hASK
        rw [HV.out] at VO
        clear hASK
        have SAME := fun (v : Value) wx (h1 : Ints wx v out) (h2 : Ints wx (.slice oo no oc) out) => same17_any v (.slice oo no oc) out out wx h1 h2 (by have := HO.out.2; omega) (by have := HO.out.2; omega)
        rw [show decide (out = out) = true from decide_eq_true rfl] at SAME
        go_wp2_with (first
          | (go_at_call 14; refine VO.mono ?_; rintro e w8 ⟨⟨vv, rfl, hvv⟩, hE8⟩; have HVV := Lib.hid hvv; have HS8 := Lib.hid (HS.out.next hE8); obtain ⟨vo, vc, hve⟩ := owns_slice17 hvv; subst hve; clear hvv hE8)
          | (go_at_call 9; refine (SAME _ _ HVV.out.ints HS8.out.own.ints).mono ?_; rintro e w9 ⟨rfl, hE9⟩; have HE9 := Lib.hid (ext_trans (ext_trans HE3.out HS8.out.ext) hE9); clear hE9))
        go_ret
        exact ⟨rfl, HE9.out⟩

end Go.Proofs.Ytigfohofbpjldaa
