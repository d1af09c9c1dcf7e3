/-
  Texts put together: KI.
-/
import Derived.Test.YteionppcjgggiaaGreatM17
import Derived.Test.YteionppcjgggiaaGreatM16
import Derived.Test.YteionppcjgggiaaGreatM14
import Derived.Test.YteionppcjgggiaaGreatM18
/-
  The law AdlogSpoilt, over what Load answers. 
-/
namespace Go.Proofs.YteionppcjgggiaaGreat
set_option linter.unusedVariables false
set_option linter.unusedSimpArgs false
set_option maxRecDepth 100000
open Go.RowKit

/-- What is read while a page is written. -/
def SpoB (v : Value) (st : ByteArray) (b off NB : Nat) (gx gn : Int) (x : World) : Prop :=
  (convert 37 9 v).run Tryz.prog x = .ok (.string st) x ∧ x.cell? ⟨b, off, none⟩ = some (.int .i64 gx) ∧ x.cell? ⟨NB, 0, none⟩ = some (.int .i64 gn)
def SpoS (b off : Nat) (st : ByteArray) (x : World) : Prop := x.cell? ⟨b, off, none⟩ = some (.string st)
set_option maxHeartbeats 12800000 in
theorem adlogSpoilt_any (LD : LoadC) (FX : FixC) (a1 : Option Addr) (len1 cap1 : Nat) (Ls : Nat → Led) (Vs : Nat → Nat → Value) (a2 : Option Addr) (len2 cap2 : Nat) (ss : Nat → ByteArray) (a3 : Option Addr) (len3 cap3 : Nat) (bs : Nat → Bool) (w : World)
    (h1 : IsLeds w a1 len1 cap1 Ls Vs) (hc1 : len1 ≤ cap1 ∧ cap1 ≤ 9223372036854775807) (h2 : StrsF w a2 len2 cap2 ss) (h3 : IsBools w a3 len3 cap3 bs) :
    Calls Tryz.prog 3 #[.slice a1 len1 cap1, .slice a2 len2 cap2, .slice a3 len3 cap3] w fun e w' => e = .returned (.bool true) ∧ Ext w w' := by
  have HI := Lib.hid h1
  have HB := Lib.hid h3
  have HS := Lib.hid h2
  have hmax1 := h1.1
  have hmax2 := h2.1
  have hmax22 := h2.2.1
  have hmax3 := h3.1
  unfold maxLen at hmax1 hmax3
  have FW := fun w2 (hE : Ext w w2) {b : Bool} (hb : b = true ↔ FewP len1 Ls) => few12_is a1 len1 cap1 Ls Vs w2 ⟨h1.1, fun i hi => by
    obtain ⟨⟨b, off, e1, e2, e3⟩, hC⟩ := h1.2 i hi
    exact ⟨⟨b, off, e1, range_ext e2 hE, Nat.lt_of_lt_of_le e3 hE.size⟩, hC.is.ext hE, fun j hj h0 q hq => Nat.lt_of_lt_of_le (hC.low j hj h0 q hq) hE.size, hC.len, hC.wf, hC.ep⟩⟩ hb
  clear h1 h2 h3
  by_cases hfew : FewP len1 Ls
  case neg =>
    have FW := fun w2 (hE : Ext w w2) => FW w2 hE (b := false) ⟨fun h => Bool.noConfusion h, fun h => absurd h hfew⟩
    go_enter Tryz.func3, Tryz.ntmps3
    go_wp2_with (first
      | (go_at_call 4; refine (FX _).mono ?_; rintro e w2 ⟨rfl, hE2⟩)
      | (go_at_call 5; refine (FW w2 hE2).mono ?_; rintro e w3 ⟨rfl, hE3⟩))
    go_ret
    exact ⟨rfl, ext_trans hE2 hE3⟩
  have FW := fun w2 (hE : Ext w w2) => FW w2 hE (b := true) ⟨fun _ => hfew, fun _ => rfl⟩
  by_cases hb1 : (4 : Int) < (len1 : Int)
  case pos =>
    go_enter Tryz.func3, Tryz.ntmps3
    go_wp2_with (first
      | (go_at_call 4; refine (FX _).mono ?_; rintro e w2 ⟨rfl, hE2⟩)
      | (go_at_call 5; refine (FW w2 hE2).mono ?_; rintro e w3 ⟨rfl, hE3⟩))
    go_ret
    exact ⟨rfl, ext_trans hE2 hE3⟩
  by_cases hb2 : (8 : Int) < (len2 : Int)
  case pos =>
    go_enter Tryz.func3, Tryz.ntmps3
    go_wp2_with (first
      | (go_at_call 4; refine (FX _).mono ?_; rintro e w2 ⟨rfl, hE2⟩)
      | (go_at_call 5; refine (FW w2 hE2).mono ?_; rintro e w3 ⟨rfl, hE3⟩))
    go_ret
    exact ⟨rfl, ext_trans hE2 hE3⟩
  by_cases hb3 : (16 : Int) < (len3 : Int)
  case pos =>
    go_enter Tryz.func3, Tryz.ntmps3
    go_wp2_with (first
      | (go_at_call 4; refine (FX _).mono ?_; rintro e w2 ⟨rfl, hE2⟩)
      | (go_at_call 5; refine (FW w2 hE2).mono ?_; rintro e w3 ⟨rfl, hE3⟩))
    go_ret
    exact ⟨rfl, ext_trans hE2 hE3⟩
  have HALL := Lib.hid hfew.2
  have HL0 : LedsF w a1 len1 cap1 Ls Vs := ⟨hc1.1, hc1.2, HI.out, HALL.out⟩
  have HL1 := Lib.hid HL0
  clear HL0 hfew
  go_enter Tryz.func3, Tryz.ntmps3
  go_wp2_with (first
    | (go_at_call 4; refine (FX _).mono ?_; rintro e w2 ⟨rfl, hE2⟩)
    | (go_at_call 5; refine (FW w2 hE2).mono ?_; rintro e w3 ⟨rfl, hE3⟩; have HE3 := Lib.hid (ext_trans hE2 hE3))
    | (go_at_call 6; refine (array12_any 16 (-1) _ (by decide)).mono ?_; rintro e w4 ⟨S, V, hR, ⟨q1, q2, q3, q4, q5, q6⟩, rfl, hN, hE4, hT⟩; have hBn := Blk.new w4 36 zeroC)
    | (refine led_build0 rfl rfl ?_)
    | (refine led_store (L := noLed) (V := fun _ => nilS) _ _ rfl rfl rfl hBn rfl (fun _ _ => ⟨_, _, _, rfl⟩) rfl ?_; intro w5 hb5 hg5 hs5))
  have hE5 : Ext w4 w5 := grown_trans (World.grownBy_alloc w4 (.cells zeroC 36) none) hg5 (fun p hp hlt => by injection hp with hp; omega)
  have S5 : Spo w3 w5 S V (blankS [] (-1) false 0 (fun _ => 0) (fun _ => 0)) w4.heap.size noLed (fun _ => nilS) false noLed 0 0 :=
    ⟨hN.ext hE5 hR, blank_want _ _ _ _, (blank_calm []).mono (by omega), by rw [nextN_eq (k := 0) (Nat.zero_le _) (fun _ _ _ => rfl) (fun h => absurd h (by decide))]; exact Nat.le_refl _, rfl, fun _ _ => ⟨rfl, pgOk_none (.inl rfl)⟩, hb5, noLed_is _, fun _ _ => by simp [noLed, noTen], hN.fresh (Nat.le_refl _), hT, ext_trans hE4 hE5⟩
  have HS5 := Lib.hid S5
  have HR := Lib.hid (And.intro hR (And.intro q5 (And.intro q6 q4)))
  have HNB := Lib.hid (show w3.heap.size ≤ w4.heap.size from hE4.size)
  clear S5 hb5 hg5 hs5 hE5 hN hE4 hT hBn hR q1 q2 q3 q4 q5 q6 FW hE2 hE3
  obtain ⟨NB, hNB⟩ : ∃ n, w4.heap.size = n := ⟨_, rfl⟩
  rw [hNB] at HS5 HNB ⊢
  clear hNB
  go_loopw [0, 1, 10, 46] (fun l j t i wr => ∃ (k m : Nat) (b1 : Option Addr) (n1 c1 : Nat) (Ls1 : Nat → Led) (Vs1 : Nat → Nat → Value) (b2 : Option Addr) (n2 c2 : Nat) (ss2 : Nat → ByteArray) (there : Bool) (s : NS) (now : Led) (Vn : Nat → Value),
    k ≤ len3 ∧ m + n1 + n2 ≤ 12 ∧ l = .slice b1 n1 c1 ∧ j = .slice b2 n2 c2 ∧ t = .bool there ∧ i = .int .i64 k ∧ LedsF w b1 n1 c1 Ls1 Vs1 ∧ StrsF w b2 n2 c2 ss2 ∧ Spo w3 wr S V s NB now Vn there now m (2 * k)) (fun _ _ _ i _ => len3 - (intOf i).toNat)
  case atStart => exact ⟨0, 0, _, _, _, _, _, _, _, _, _, _, _, _, _, by omega, by omega, rfl, rfl, rfl, rfl, HL1.out, HS.out, HS5.out⟩
  case round =>
    obtain ⟨k, m, b1, n1, c1, Ls1, Vs1, b2, n2, c2, ss2, there, s, now, Vn, hk, hmn, rfl, rfl, rfl, rfl, hLF, hSF, hL⟩ := hrel
    obtain ⟨wo, rfl⟩ : ∃ wo : World, wo = wr := ⟨_, rfl⟩
    by_cases hlt : k < len3
    · obtain ⟨b3, off3, rfl, hu, _⟩ := HB.out.2 k hlt
      have hu2 := (ext_trans HE3.out hL.ext).cell hu (by simp)
      have HLF := Lib.hid hLF
      have HSF := Lib.hid hSF
      have hcc1 := hLF.1
      have hcc2 := hSF.1
      have hcd1 := hLF.2.1
      have hcd2 := hSF.2.1
      have HL := Lib.hid hL
      clear hu hL hLF hSF
      cases hob : bs k
      · rw [hob] at hu2
        by_cases hz2 : n2 = 0
        · subst hz2
          go_wp2
          go_roundw
          case rel => exact ⟨k + 1, m, _, _, _, _, _, _, _, _, _, there, s, now, Vn, by omega, hmn, rfl, rfl, rfl, by go_num, HLF.out, HSF.out, HL.out.mono (by omega) (by omega)⟩
          case measure => simp [intOf]; omega
        · obtain ⟨n2', rfl⟩ : ∃ n, n2 = n + 1 := ⟨n2 - 1, by omega⟩
          obtain ⟨⟨bb, oo, rfl, hs0, hbb⟩, hsz⟩ := HSF.out.2.2 0 (by omega)
          obtain ⟨st, hst⟩ : ∃ z, ss2 0 = z := ⟨_, rfl⟩
          rw [hst] at hs0 hsz
          rw [Nat.add_zero] at hs0
          have hs1 := (ext_trans HE3.out HL.out.ext).cell hs0 (by simp)
          have hconv := run_bytes_of_string (P := Tryz.prog) wo 9 37 5 st Tryz.underlying9 Tryz.underlying37 Tryz.underlying5
          have hcp0 := grownCap_ge wo st.size 0 5
          obtain ⟨cp, hcp⟩ : ∃ z, grownCap wo st.size 0 5 = z := ⟨_, rfl⟩
          rw [hcp] at hconv hcp0
          have hbt := bytes_bts (w := wo) 5 ((bytesRow st cp).size, (bytesRow st cp).size + 1) cp hcp0
          have hEc : Ext wo (wo.drew.alloc (.cells (bytesRow st cp) 5 ((bytesRow st cp).size, (bytesRow st cp).size + 1))) := grown_alloc (Ext.drew wo) _
          have hwl : wo.heap.size < (wo.drew.alloc (.cells (bytesRow st cp) 5 ((bytesRow st cp).size, (bytesRow st cp).size + 1))).heap.size := (by show wo.heap.size < (wo.heap.push _).size; rw [Array.size_push]; exact Nat.lt_succ_self _)
          obtain ⟨wc, hwc⟩ : ∃ z, wo.drew.alloc (.cells (bytesRow st cp) 5 ((bytesRow st cp).size, (bytesRow st cp).size + 1)) = z := ⟨_, rfl⟩
          rw [hwc] at hconv hbt hEc hwl
          have PARSE := refSnapParse_any _ (byt st) 30 16 wc hbt (byt_byts8 st) (by rw [byt_len]; omega) (fun q hq => by simp [Value.ownBlock] at hq; omega) (by decide) (by decide)
          obtain ⟨PE, hPE⟩ : ∃ z, snpE (byt st) 30 16 = z := ⟨_, rfl⟩
          obtain ⟨PL, hPL⟩ : ∃ z, snpL (byt st) 30 16 = z := ⟨_, rfl⟩
          rw [hPE, hPL] at PARSE
          have HPE := Lib.hid hPE
          have HLc := Lib.hid (HL.out.next HR.out.1 hEc)
          have hs2 := hEc.cell hs1 (by simp)
          have hbw3 : bb < w3.heap.size := Nat.lt_of_lt_of_le hbb HE3.out.size
          have HB0 := Lib.hid hbw3
          clear hPE hPL hwc hcp hcp0 hbt hEc hs0 hst hbb hbw3
          go_upto_region 19 with (first
            | (go_at_call 10; refine PARSE.mono ?_; rintro e w6 ⟨Vg, rfl, hI, _, hE6⟩; have HL6 := Lib.hid (HLc.out.next HR.out.1 hE6); have hBg := Blk.new w6 36 zeroC; have hs6 := hE6.cell hs2 (by simp); clear hE6 hs2)
            | (refine led_store (L := PL) (V := Vg) _ _ rfl rfl rfl hBg rfl hI.slices rfl ?_; intro w7 hb7 hg7 hs7; have hE7 := grown_trans (World.grownBy_alloc w6 (.cells zeroC 36) none) hg7 (fun p hp hlt => by injection hp with hp; omega); have HL7 := Lib.hid (HL6.out.next HR.out.1 hE7); have hs8 := hE7.cell hs6 (by simp); clear hBg hg7 hs7 hE7 hI hs6 hb7))
          have REST := Lib.hid (HSF.out.rest2)
          by_cases hok : PE = 0
          · subst hok
            go_wp2
            go_roundw
            case rel => exact ⟨k + 1, m, _, _, _, _, _, _, n2', _, _, there, s, now, Vn, by omega, by omega, rfl, by go_num, rfl, by go_num, HLF.out, REST.out, HL7.out.mono (by omega) (by omega)⟩
            case measure => simp [intOf]; omega
          · have hok' : (PE == 0) = false := by simpa using hok
            by_cases hbig : (st.size : Int) ≤ 160
            · go_upto_region 20 with fail
              have HLd := Lib.hid (HL7.out.next HR.out.1 (Ext.drew _))
              have hmp : m < S.pg := by rw [HR.out.2.2.1]; omega
              have hall : 2 ≤ S.all := by rw [HR.out.2.1]; decide
              have hSd : SpoS bb oo st w7.drew := (Ext.drew w7).cell hs8 (by simp)
              have NX : Calls Tryz.prog 9 #[.pointer (some ⟨S.nb, 0, none⟩), .int .i64 1] w7.drew _ := next7_is (i := 1) HLd.out.nd.fix (by omega) (HLd.out.nd.row 1 (by omega)) HR.out.1
              have WR := HLd.out.write HR.out.1 (by omega) hall hmp 2 (dt := st) (by omega)
              have hT : WantN (stepN S.all S.p 1 (newestN S.all S.p S.pg s.L) ⟨1, [], st⟩) there now := HLd.out.tells.junk (by
                unfold pgLed
                rw [HR.out.2.1, HR.out.2.2.2]
                have hq : snpE (byt st) 30 16 = PE := HPE.out
                refine if_neg (fun hh => hok ?_)
                rw [← hq]; exact hh.2)
              have HT := Lib.hid hT
              have HSZ := Lib.hid (show st.size ≤ 160 by omega)
              have HMP := Lib.hid hmp
              have hb0 : S.T bb = 0 := Classical.byContradiction fun hne => by have h1 := HLd.out.lo bb hne; have h2 := HB0.out; omega
              have hblt : bb < w7.drew.heap.size := Nat.lt_of_lt_of_le HB0.out HLd.out.ext.size
              have KEEP := fun (x : World) (hk : Keeps S.T w7.drew x) => (show SpoS bb oo st x from (World.cell?_of_block (hk.block bb hblt hb0)).trans hSd)
              clear hT hmp hall hb0 hblt hs8
              refine region_line [(0, true), (1, true), (3, true), (4, true), (5, true), (2, false), (6, false)] (SpoS bb oo st) (by kernel_rfl) (by kernel_rfl) (fun _ _ _ d _ h => by cases d <;> exact h) hSd ?_
              repeat (refine line_read (a' := ?_) rfl (by kernel_rfl) (by kernel_rfl) hSd (fun x hx K hK => ?_) ?_; rotate_left; · unfold SpoS at hx; go_wp2; exact hK)
              refine line_act (by rfl) (fun K hK => ?_)
              go_wp2_with (go_at_call 9; refine NX.mono ?_; rintro e w' ⟨rfl, rfl⟩)
              refine hK _ _ _ hSd (fun x hx => hx) ?_
              clear hK K
              refine line_act (by rfl) (fun K hK => ?_)
              go_wp2_with (go_at_call 8; refine WR.mono ?_; rintro e w9 ⟨rfl, hN9, hk9⟩)
              refine hK _ _ _ (KEEP _ hk9) (fun x hx => hx) ?_
              clear hK K
              refine line_end ?_
              have HL9 := Lib.hid (HLd.out.wrote HMP.out hN9 hk9 HT.out HSZ.out)
              go_wp2
              go_roundw
              case rel => exact ⟨k + 1, m + 1, _, _, _, _, _, _, n2', _, _, there, _, now, Vn, by omega, by omega, rfl, by go_num, rfl, by go_num, HLF.out, REST.out, HL9.out.mono (by omega) (by omega)⟩
              case measure => simp [intOf]; omega
            · go_wp2
              go_roundw
              case rel => exact ⟨k + 1, m, _, _, _, _, _, _, n2', _, _, there, s, now, Vn, by omega, by omega, rfl, by go_num, rfl, by go_num, HLF.out, REST.out, HL7.out.mono (by omega) (by omega)⟩
              case measure => simp [intOf]; omega
      · rw [hob] at hu2
        by_cases hz1 : n1 = 0
        · subst hz1
          go_wp2
          go_roundw
          case rel => exact ⟨k + 1, m, _, _, _, _, _, _, _, _, _, there, s, now, Vn, by omega, hmn, rfl, rfl, rfl, by go_num, HLF.out, HSF.out, HL.out.mono (by omega) (by omega)⟩
          case measure => simp [intOf]; omega
        · obtain ⟨n1', rfl⟩ : ∃ n, n1 = n + 1 := ⟨n1 - 1, by omega⟩
          obtain ⟨⟨bb, oo, rfl, hr0, hbb⟩, hX⟩ := HLF.out.2.2.1.2 0 (by omega)
          have hlx := HLF.out.2.2.2 0 (by omega)
          obtain ⟨x, hx⟩ : ∃ L, Ls1 0 = L := ⟨_, rfl⟩
          obtain ⟨VX, hVX⟩ : ∃ V, Vs1 0 = V := ⟨_, rfl⟩
          rw [hx, hVX] at hr0 hX
          rw [hx] at hlx
          rw [Nat.zero_mul, Nat.add_zero] at hr0
          have hr1 := range_ext hr0 (ext_trans HE3.out HL.out.ext)
          have hsl := hX.is.slices
          have HX := Lib.hid (And.intro hX (And.intro (hX.good hlx) hlx))
          have BYT := refSnapBytes_any x VX 30 16 wo (HX.out.1.is.ext (ext_trans HE3.out HL.out.ext)) HX.out.2.1 (by decide) (by decide)
          have REST := Lib.hid (HLF.out.rest2)
          have HB0 := Lib.hid (Nat.lt_of_lt_of_le hbb HE3.out.size)
          obtain ⟨YE, hYE⟩ : ∃ z, snE x 30 16 = z := ⟨_, rfl⟩
          obtain ⟨ys, hys⟩ : ∃ z, snL x 30 16 = z := ⟨_, rfl⟩
          rw [hYE, hys] at BYT
          clear hr0 hX hx hVX hlx hbb
          by_cases hok : YE = 0
          case neg =>
            have hok' : (YE == 0) = false := by simpa using hok
            go_wp2_with (first
              | (refine leds_load rfl _ rfl rfl hr1 ?_)
              | (go_at_call 7; refine BYT.mono ?_; rintro e w6 ⟨v6, rfl, _, hE6⟩; have HL6 := Lib.hid (HL.out.next HR.out.1 hE6); clear hE6))
            go_roundw
            case rel => exact ⟨k + 1, m, _, n1', _, _, _, _, n2, _, _, there, s, now, Vn, by omega, by omega, by go_num, rfl, rfl, by go_num, REST.out, HSF.out, HL6.out.mono (by omega) (by omega)⟩
            case measure => simp [intOf]; omega
          have hok' : (YE == 0) = true := by simpa using hok
          have hrl : rightL x 30 16 = true := by
            have h := hYE
            rw [hok] at h
            unfold snE at h
            split at h
            · assumption
            · exact absurd h (by decide)
          have hRP : RightP x 30 16 := (rightL_iff (by decide) (by decide)).1 hrl
          obtain ⟨pm, hpm, hpe⟩ := page_tells (n := 30) (p := 16) hRP (by decide) (by decide)
          have hfit := page_fits (n := 30) (p := 16) hRP (by decide) (by decide)
          rw [hys] at hpm hfit
          obtain ⟨st, hst⟩ : ∃ z, strOfNums ys = z := ⟨_, rfl⟩
          rw [hst] at hpm hfit
          have HPM := Lib.hid (And.intro hpm hpe)
          have HST := Lib.hid hst
          have HFIT := Lib.hid hfit
          clear hYE hys hrl hRP hpm hpe hfit hst hok
          go_upto_region 14 with (first
              | (refine leds_load rfl _ rfl rfl hr1 ?_)
              | (go_at_call 7; refine BYT.mono ?_; rintro e w6 ⟨v6, rfl, hown6, hE6⟩; have HL6 := Lib.hid (HL.out.next HR.out.1 hE6); have hr6 := range_ext hr1 hE6; have HV6 := Lib.hid (show ∀ q, v6.ownBlock = some q → S.T q = 0 from fun q hq => HL.out.nd.fresh (hown6.lt q hq).1); have HBT := Lib.hid (Owns.bts rfl hown6); clear hE6 hr1 hown6))
          have HLd := Lib.hid (HL6.out.next HR.out.1 (Ext.drew _))
          have hmp : m < S.pg := by rw [HR.out.2.2.1]; omega
          have hall : 2 ≤ S.all := by rw [HR.out.2.1]; decide
          have hbd : Bts w6.drew v6 ys := HBT.out.kept (Ext.drew w6) (by simp)
          have hrd := range_ext hr6 (Ext.drew w6)
          have hgx : w6.drew.cell? ⟨bb, oo, none⟩ = some (.int .i64 x.gen) := by have := hrd 0 (.int .i64 x.gen) rfl; rwa [Nat.add_zero] at this
          have hgn : w6.drew.cell? ⟨NB, 0, none⟩ = some (.int .i64 now.gen) := (HLd.out.nb.cell 0).trans (led_gen _ _)
          obtain ⟨gx, hxg⟩ : ∃ z, x.gen = z := ⟨_, rfl⟩
          obtain ⟨gn, hng⟩ : ∃ z, now.gen = z := ⟨_, rfl⟩
          rw [hxg] at hgx
          rw [hng] at hgn
          have HGG := Lib.hid (And.intro hxg hng)
          clear hxg hng
          have hSd : SpoB v6 st bb oo NB gx gn w6.drew := ⟨convert_is hbd HST.out, hgx, hgn⟩
          have NX : Calls Tryz.prog 9 #[.pointer (some ⟨S.nb, 0, none⟩), .int .i64 1] w6.drew _ := next7_is (i := 1) HLd.out.nd.fix (by omega) (HLd.out.nd.row 1 (by omega)) HR.out.1
          obtain ⟨z0, hz0⟩ : ∃ z : Int, z = 0 := ⟨0, rfl⟩
          have WR := (HLd.out.write HR.out.1 (by omega) hall hmp 4 (dt := st) HFIT.out).mono (R' := Goes S V noZs (.int .i64 z0) (progDone 1 (nextN (s.L 1) S.pg) ⟨1, [], st⟩ s 4) w6.drew) (fun e w' hh => by rw [hz0]; exact hh)
          have hzb : (z0 == 0) = true := by rw [hz0]; rfl
          clear hz0
          have HT0 := Lib.hid HLd.out.tells
          have hpm2 : pgLed S.all S.p ⟨1, [], st⟩ = some pm := by rw [HR.out.2.1, HR.out.2.2.2]; exact HPM.out.1
          have HPM2 := Lib.hid hpm2
          have HMP := Lib.hid hmp
          have hb0 : S.T bb = 0 := Classical.byContradiction fun hne => by have h1 := HLd.out.lo bb hne; have h2 := HB0.out; omega
          have hblt : bb < w6.drew.heap.size := Nat.lt_of_lt_of_le HB0.out HLd.out.ext.size
          have KEEP := fun (y : World) (hk : Keeps S.T w6.drew y) => (show SpoB v6 st bb oo NB gx gn y from ⟨convert_is (hk.bts hbd HV6.out) HST.out, (World.cell?_of_block (hk.block bb hblt hb0)).trans hgx, (World.cell?_of_block (hk.block NB HLd.out.nb.lt HLd.out.t0)).trans hgn⟩)
          have KR := fun (y : World) (hk : Keeps S.T w6.drew y) => (show y.rangeAt bb oo (ledC x VX).toList from fun j v hv => (World.cell?_of_block (hk.block bb hblt hb0)).trans (hrd j v hv))
          clear hmp hall hb0 hblt hr6 hpm2 hgx hgn hrd hbd
          cases there
          · have HT := Lib.hid (HT0.out.first HPM2.out HPM.out.2 (b := 1))
            refine region_line [(0, true), (1, true), (3, true), (4, true), (2, false), (5, false), (6, true), (7, true), (8, true), (9, true), (10, true), (11, true), (12, true), (13, true), (14, true), (15, true), (16, true), (17, true), (18, true), (19, true)] (SpoB v6 st bb oo NB gx gn) (by kernel_rfl) (by kernel_rfl) (fun _ _ _ d _ h => by cases d <;> exact h) hSd ?_
            repeat (refine line_read (a' := ?_) rfl (by kernel_rfl) (by kernel_rfl) hSd (fun y hy K hK => ?_) ?_; rotate_left; · obtain ⟨hy0, hy1, hy2⟩ := hy; go_wp2; exact hK)
            refine line_act (by rfl) (fun K hK => ?_)
            go_wp2_with (go_at_call 9; refine NX.mono ?_; rintro e w' ⟨rfl, rfl⟩)
            refine hK _ _ _ hSd (fun x hx => hx) ?_
            clear hK K
            refine line_act (by rfl) (fun K hK => ?_)
            go_wp2_with (go_at_call 8; refine WR.mono ?_; rintro e w9 ⟨rfl, hN9, hk9⟩)
            refine hK _ _ _ (KEEP _ hk9) (fun x hx => hx) ?_
            clear hK K
            have hS9 := KEEP _ hk9
            have hr9 := KR _ hk9
            iterate 5 (refine line_read (a' := ?_) rfl (by kernel_rfl) (by kernel_rfl) hS9 (fun y hy K hK => ?_) ?_; rotate_left; · obtain ⟨hy0, hy1, hy2⟩ := hy; clear hy0 hy1 hy2; go_wp2; exact hK)
            iterate 7 (refine line_read (a' := ?_) rfl (by kernel_rfl) (by kernel_rfl) hS9 (fun y hy K hK => ?_) ?_; rotate_left; · clear hy; refine wpList_pass (a' := ?_) (by kernel_rfl) ?_ ?_; rotate_left; (simp only [Act.put, List.getElem_toArray, List.getElem_cons_succ, List.getElem_cons_zero, List.setIfInBounds_toArray, List.set_cons_succ, List.set_cons_zero]; rfl); exact hK)
            iterate 2 (refine line_read (a' := ?_) rfl (by kernel_rfl) (by kernel_rfl) hS9 (fun y hy K hK => ?_) ?_; rotate_left; · clear hy; go_wp2; exact hK)
            refine line_end ?_
            have HL9 := Lib.hid (HLd.out.wrote HMP.out hN9 hk9 HT.out HFIT.out)
            have hnb9 := HL9.out.nb
            go_wp2_with (first
              | (refine leds_load rfl _ rfl rfl hr9 ?_)
              | (refine led_store (L := x) (V := VX) _ _ rfl rfl rfl hnb9 (ledC_size _ _) hsl rfl ?_; intro w10 hb10 hg10 hs10; have HL10 := Lib.hid (HL9.out.put HR.out.1 hb10 hg10 HNB.out (HX.out.1.is.ext HE3.out) HX.out.2.2); clear hb10 hg10 hs10 hnb9))
            go_roundw
            case rel => exact ⟨k + 1, m + 1, _, n1', _, _, _, _, n2, _, _, true, _, x, VX, by omega, by omega, by go_num, rfl, rfl, by go_num, REST.out, HSF.out, HL10.out.mono (by omega) (by omega)⟩
            case measure => simp [intOf]; omega
          · by_cases hgt : gn < gx
            · have HT := Lib.hid (HT0.out.newer HPM2.out HPM.out.2 (by rw [HGG.out.1, HGG.out.2]; exact hgt) (b := 1))
              have hgtb : decide (gn < gx) = true := by simpa using hgt
              clear hgt
              refine region_line [(0, true), (1, true), (3, true), (4, true), (2, false), (5, false), (6, true), (7, true), (8, true), (9, true), (10, true), (11, true), (12, true), (13, true), (14, true), (15, true), (16, true), (17, true), (18, true), (19, true)] (SpoB v6 st bb oo NB gx gn) (by kernel_rfl) (by kernel_rfl) (fun _ _ _ d _ h => by cases d <;> exact h) hSd ?_
              repeat (refine line_read (a' := ?_) rfl (by kernel_rfl) (by kernel_rfl) hSd (fun y hy K hK => ?_) ?_; rotate_left; · obtain ⟨hy0, hy1, hy2⟩ := hy; go_wp2; exact hK)
              refine line_act (by rfl) (fun K hK => ?_)
              go_wp2_with (go_at_call 9; refine NX.mono ?_; rintro e w' ⟨rfl, rfl⟩)
              refine hK _ _ _ hSd (fun x hx => hx) ?_
              clear hK K
              refine line_act (by rfl) (fun K hK => ?_)
              go_wp2_with (go_at_call 8; refine WR.mono ?_; rintro e w9 ⟨rfl, hN9, hk9⟩)
              refine hK _ _ _ (KEEP _ hk9) (fun x hx => hx) ?_
              clear hK K
              have hS9 := KEEP _ hk9
              have hr9 := KR _ hk9
              iterate 14 (refine line_read (a' := ?_) rfl (by kernel_rfl) (by kernel_rfl) hS9 (fun y hy K hK => ?_) ?_; rotate_left; · obtain ⟨hy0, hy1, hy2⟩ := hy; go_wp2; exact hK)
              refine line_end ?_
              have HL9 := Lib.hid (HLd.out.wrote HMP.out hN9 hk9 HT.out HFIT.out)
              have hnb9 := HL9.out.nb
              go_wp2_with (first
                | (refine leds_load rfl _ rfl rfl hr9 ?_)
                | (refine led_store (L := x) (V := VX) _ _ rfl rfl rfl hnb9 (ledC_size _ _) hsl rfl ?_; intro w10 hb10 hg10 hs10; have HL10 := Lib.hid (HL9.out.put HR.out.1 hb10 hg10 HNB.out (HX.out.1.is.ext HE3.out) HX.out.2.2); clear hb10 hg10 hs10 hnb9))
              go_roundw
              case rel => exact ⟨k + 1, m + 1, _, n1', _, _, _, _, n2, _, _, true, _, x, VX, by omega, by omega, by go_num, rfl, rfl, by go_num, REST.out, HSF.out, HL10.out.mono (by omega) (by omega)⟩
              case measure => simp [intOf]; omega
            · have HT := Lib.hid (HT0.out.older HPM2.out HPM.out.2 (by rw [HGG.out.1, HGG.out.2]; exact hgt) (b := 1))
              have hgtb : decide (gn < gx) = false := by simpa using hgt
              clear hgt
              refine region_line [(0, true), (1, true), (3, true), (4, true), (2, false), (5, false), (6, true), (7, true), (8, true), (9, true), (10, true), (11, true), (12, true), (13, true), (14, true), (15, true), (16, true), (17, true), (18, true), (19, true)] (SpoB v6 st bb oo NB gx gn) (by kernel_rfl) (by kernel_rfl) (fun _ _ _ d _ h => by cases d <;> exact h) hSd ?_
              repeat (refine line_read (a' := ?_) rfl (by kernel_rfl) (by kernel_rfl) hSd (fun y hy K hK => ?_) ?_; rotate_left; · obtain ⟨hy0, hy1, hy2⟩ := hy; go_wp2; exact hK)
              refine line_act (by rfl) (fun K hK => ?_)
              go_wp2_with (go_at_call 9; refine NX.mono ?_; rintro e w' ⟨rfl, rfl⟩)
              refine hK _ _ _ hSd (fun x hx => hx) ?_
              clear hK K
              refine line_act (by rfl) (fun K hK => ?_)
              go_wp2_with (go_at_call 8; refine WR.mono ?_; rintro e w9 ⟨rfl, hN9, hk9⟩)
              refine hK _ _ _ (KEEP _ hk9) (fun x hx => hx) ?_
              clear hK K
              have hS9 := KEEP _ hk9
              have hr9 := KR _ hk9
              iterate 14 (refine line_read (a' := ?_) rfl (by kernel_rfl) (by kernel_rfl) hS9 (fun y hy K hK => ?_) ?_; rotate_left; · obtain ⟨hy0, hy1, hy2⟩ := hy; go_wp2; exact hK)
              refine line_end ?_
              have HL9 := Lib.hid (HLd.out.wrote HMP.out hN9 hk9 HT.out HFIT.out)
              go_wp2
              go_roundw
              case rel => exact ⟨k + 1, m + 1, _, n1', _, _, _, _, n2, _, _, true, _, now, Vn, by omega, by omega, by go_num, rfl, rfl, by go_num, REST.out, HSF.out, HL9.out.mono (by omega) (by omega)⟩
              case measure => simp [intOf]; omega
    · have HL := Lib.hid hL
      obtain rfl : k = len3 := by omega
      have hlen := hL.len
      clear hL
      go_wp2_with (first
        | (go_at_call 11; refine ((LD S V noZs s _ HL.out.nd HR.out.1 HL.out.calm.off HL.out.sm.small).mono (fun e w' h => ChangeP.eqL h HL.out.tells.led)).mono ?_; rintro e w6 ⟨Vg, rfl, hI, _, hE6⟩; have HL6 := Lib.hid (HL.out.next HR.out.1 hE6); have hBg := Blk.new w6 36 zeroC; clear hE6)
        | (refine led_store (L := now) (V := Vg) _ _ rfl rfl rfl hBg rfl hI.slices rfl ?_; intro w7 hb7 hg7 hs7; have hE7 := grown_trans (World.grownBy_alloc w6 (.cells zeroC 36) none) hg7 (fun p hp hlt => by injection hp with hp; omega); have HL7 := Lib.hid (HL6.out.next HR.out.1 hE7); have hnb7 := HL7.out.nb; have HI7 := Lib.hid (hI.ext hE7); clear hBg hg7 hs7 hE7 hI)
        | (refine led_load _ rfl rfl hb7 rfl ?_)
        | (refine led_load _ rfl rfl hnb7 rfl ?_)
        | (go_at_call 12; refine (same10_eq now Vg Vn w7 HI7.out (HL7.out.is.ext HL7.out.ext) (fun j hj => by have := HL7.out.len j hj; omega)).mono ?_; rintro e w8 ⟨rfl, hE8⟩; have HL8 := Lib.hid (HL7.out.next HR.out.1 hE8); clear hE8))
      go_ret
      exact ⟨rfl, ext_trans HE3.out HL8.out.ext⟩


end Go.Proofs.YteionppcjgggiaaGreat
