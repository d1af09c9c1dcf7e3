/-
  Layer 14: TableMoves.
-/
import Derived.Test.YtdnjpoioojahkaaOG
namespace Go.Proofs.Ytdnjpoioojahkaa
set_option linter.unusedVariables false
set_option linter.unusedSimpArgs false
set_option maxRecDepth 100000
open Go.RowKit

theorem setR_len (B P : Int) (rs : List R14) (q b p : Int) : (setR B P rs q b p).length ≤ rs.length + 1 := by
  unfold setR
  split
  · rw [List.length_append, List.length_singleton]
    have : (clearN rs q).length ≤ rs.length := List.length_filter_le _ _
    omega
  · omega
/-- What a place leaves is free. -/
theorem moved14 {w : World} {t B P : Nat} {rs : List R14} (h : TabA w t B P rs) {q b p x y : Int} (hs : setE B P rs q b p = 0) (ha : atN rs q = (x, y, true)) (hne : x ≠ b ∨ y ≠ p) : placeN (setR B P rs q b p) x y = -1 := by
  obtain ⟨R, W, S, hT, hI⟩ := h
  unfold setR
  rw [if_pos hs]
  refine placeN_none fun r hr he => ?_
  by_cases hex : ∃ s ∈ rs, s.pl = q
  · obtain ⟨s, hs2, hq⟩ := hex
    have h1 := atN_some hI.pls hs2
    rw [hq, ha] at h1
    simp at h1
    rcases List.mem_append.1 hr with h2 | h2
    · obtain ⟨h3, h4⟩ := mem_clear.1 h2
      obtain rfl := nodup_inj hI.pgs h3 hs2 (by rw [Prod.mk.injEq]; omega)
      exact h4 hq
    · obtain rfl := List.mem_singleton.1 h2
      simp at he
      omega
  · rw [atN_none (fun s hs2 hq => hex ⟨s, hs2, hq⟩)] at ha
    simp at ha

/-- What stands between the acts. -/
structure Mov14 (w0 w : World) (t B P : Nat) (rs : List R14) : Prop where
  tab : TabA w t B P rs
  t0 : w0.heap.size ≤ t
  ext : w0.grownBy w none
theorem Mov14.next {w0 w w' : World} {t B P : Nat} {rs : List R14} (h : Mov14 w0 w t B P rs) (hE : w.grownBy w' none) : Mov14 w0 w' t B P rs := ⟨h.tab.ext hE, h.t0, g14_trans h.ext hE⟩
theorem Mov14.turn {w0 w w' : World} {t B P B' : Nat} {rs rs' : List R14} (h : Mov14 w0 w t B P rs) (hA : TabA w' t B' P rs') (hg : w.grownBy w' (some t)) : Mov14 w0 w' t B' P rs' := ⟨hA, h.t0, g14_past h.ext hg h.t0⟩

set_option maxHeartbeats 3200000 in
theorem tableMoves_any (a : Option Addr) (len cap : Nat) (X : Nat → Act14) (w : World) (h : Acts14 w a len X) :
    Calls Try.prog 6 #[.slice a len cap] w fun e w' => e = .returned (.bool true) ∧ w.grownBy w' none := by
  have HH := Lib.hid h
  have hmax := h.1
  clear h
  have NEW : ∀ wx : World, Calls Try.prog 18 #[.int .i64 8, .int .i64 8] wx fun e w' => ∃ t, e = .returned (.pointer (some ⟨t, 0, none⟩)) ∧ TabA w' t 8 8 [] ∧ wx.heap.size ≤ t ∧ wx.grownBy w' none := fun wx => new14_ok 8 8 wx (by unfold newOk; omega)
  by_cases hbig : (150 : Int) < len
  · go_enter Try.func6, Try.ntmps6
    go_wp2_with (go_at_call 17; refine (fix14_any _).mono ?_; rintro e w2 ⟨rfl, hE2⟩)
    go_ret
    exact ⟨rfl, hE2⟩
  · have HB := Lib.hid hbig
    go_enter Try.func6, Try.ntmps6
    go_wp2_with (first
      | (go_at_call 17; refine (fix14_any _).mono ?_; rintro e w2 ⟨rfl, hE2⟩; have HE2 := Lib.hid hE2; clear hE2)
      | (go_at_call 18; refine (NEW _).mono ?_; rintro e w3 ⟨t, rfl, hA3, ht0, hE3⟩; have S3 := Lib.hid (show Mov14 w w3 t 8 8 [] from ⟨hA3, by have := HE2.out.size; omega, g14_trans HE2.out hE3⟩); clear hA3 ht0 hE3))
    clear NEW hbig
    go_loopw [20] (fun i wr => ∃ (k : Nat) (rs : List R14), k ≤ len ∧ i = .int .i64 k ∧ rs.length ≤ k ∧ Mov14 w wr t 8 8 rs) (fun i _ => len - (intOf i).toNat)
    case atStart => exact ⟨0, [], by omega, rfl, Nat.le_refl _, S3.out⟩
    case round =>
      clear S3
      obtain ⟨k, rs, hk, rfl, hrl, hS⟩ := hrel
      obtain ⟨wo, rfl⟩ : ∃ wo : World, wo = wr := ⟨_, rfl⟩
      have HRL := Lib.hid hrl
      clear hrl
      by_cases hlt : k < len
      · obtain ⟨⟨ab, ao, rfl, hr, _⟩, hk8, hdt⟩ := HH.out.2 k hlt
        obtain ⟨x, hx⟩ : ∃ x, X k = x := ⟨_, rfl⟩
        rw [hx] at hr
        have hr1 : wo.rangeAt ab (ao + k * 4) (act14C x).toList := fun j u hj => hS.ext.cell (hr j u hj) (by simp)
        have hBa := Blk.new wo 55 #[.int .u8 0, .int .i64 0, .int .i64 0, .int .i64 0]
        have HS := Lib.hid hS
        have hl6 : rs.length ≤ 1000000 := by have := HRL.out; have := HB.out; omega
        obtain ⟨x1, hx1⟩ : ∃ z, x.pl = z := ⟨_, rfl⟩
        obtain ⟨x2, hx2⟩ : ∃ z, x.bk = z := ⟨_, rfl⟩
        obtain ⟨x3, hx3⟩ : ∃ z, x.pg = z := ⟨_, rfl⟩
        obtain ⟨⟨y1, y2, y3⟩, hat⟩ : ∃ z, atN rs x1 = z := ⟨_, rfl⟩
        obtain ⟨z, hz⟩ : ∃ z, setE ((8 : Nat) : Int) ((8 : Nat) : Int) rs x1 x2 x3 = z := ⟨_, rfl⟩
        obtain ⟨rs2, hrs2⟩ : ∃ z, setR ((8 : Nat) : Int) ((8 : Nat) : Int) rs x1 x2 x3 = z := ⟨_, rfl⟩
        obtain ⟨v, hv⟩ : ∃ v, placeN rs2 y1 y2 = v := ⟨_, rfl⟩
        have AT := fun wx (h : TabA wx t 8 8 rs) => tabAt h x1
        have SET := fun wx (h : TabA wx t 8 8 rs) => tabSet h x1 x2 x3 hl6
        have PLC := fun wx (h : TabA wx t 8 8 rs2) => tabPlace h y1 y2
        simp only [hat] at AT
        simp only [hz, hrs2] at SET
        simp only [hv] at PLC
        have hcase : (z == 0) = false ∨ ((z == 0) = true ∧ y3 = false) ∨ ((z == 0) = true ∧ y3 = true ∧ (y1 != x2) = false ∧ (y2 != x3) = false) ∨ ((z == 0) = true ∧ y3 = true ∧ (y1 != x2) = true ∧ (v != -1) = false) ∨ ((z == 0) = true ∧ y3 = true ∧ (y1 != x2) = false ∧ (y2 != x3) = true ∧ (v != -1) = false) := by
          by_cases q1 : z = 0
          · cases y3 with
            | false => exact .inr (.inl ⟨by simpa using q1, rfl⟩)
            | true =>
              have hmv := fun hne => moved14 HS.out.tab (hz.trans q1) hat hne
              rw [hrs2, hv] at hmv
              by_cases q2 : y1 = x2
              · by_cases q3 : y2 = x3
                · exact .inr (.inr (.inl ⟨by simpa using q1, rfl, by simpa using q2, by simpa using q3⟩))
                · exact .inr (.inr (.inr (.inr ⟨by simpa using q1, rfl, by simpa using q2, by simpa using q3, by simpa using hmv (.inr q3)⟩)))
              · exact .inr (.inr (.inr (.inl ⟨by simpa using q1, rfl, by simpa using q2, by simpa using hmv (.inl q2)⟩)))
          · exact .inl (by simpa using q1)
        have HR2 := Lib.hid (show rs2.length ≤ k + 1 by rw [← hrs2]; have := setR_len ((8 : Nat) : Int) ((8 : Nat) : Int) rs x1 x2 x3; have := HRL.out; omega)
        clear hr hS hat hz hrs2 hv hx
        go_upto_region 11 with (first
          | (refine act14_load rfl _ rfl rfl hr1 ?_)
          | (refine act14_store _ _ rfl rfl rfl hBa rfl rfl ?_; intro w4 hb4 hg4 hs4; have HS4 := Lib.hid (HS.out.next (grown_trans14 (World.grownBy_alloc wo _ none) hg4)); have c1 := (hb4.cell 1).trans (show (act14C x)[1]? = some (.int .i64 x.pl) from rfl); have c2 := (hb4.cell 2).trans (show (act14C x)[2]? = some (.int .i64 x.bk) from rfl); have c3 := (hb4.cell 3).trans (show (act14C x)[3]? = some (.int .i64 x.pg) from rfl); rw [hx1] at c1; rw [hx2] at c2; rw [hx3] at c3; have HBL := Lib.hid hb4; clear hBa hg4 hs4 hb4)
          | (go_at_call 19; refine (AT _ HS4.out.tab).mono ?_; rintro e w5 ⟨rfl, hE5⟩; have HS5 := Lib.hid (HS4.out.next hE5); have HB5 := Lib.hid (HBL.out.ext hE5); have c1 := hE5.cell c1 (by simp); have c2 := hE5.cell c2 (by simp); have c3 := hE5.cell c3 (by simp); clear hE5)
          | (go_at_call 20; refine (SET _ HS5.out.tab).mono ?_; rintro e w6 ⟨rfl, hA6, hg6⟩; have HS6 := Lib.hid (HS5.out.turn hA6 hg6); have hne6 : wo.heap.size ≠ t := (by have := HS.out.tab.lt; omega); have c2 := hg6.cell c2 (fun e => by injection e with e; exact hne6 e); have c3 := hg6.cell c3 (fun e => by injection e with e; exact hne6 e); clear hA6 hg6 hne6))
        clear AT SET HBL HB5 HS HS4 HS5 hr1 c1
        go_cut [63] (fun s wx => s = .bool false ∧ Mov14 w wx t 8 8 rs2)
        case first =>
          rcases hcase with b1 | ⟨b1, rfl⟩ | ⟨b1, rfl, b2, b3⟩ | ⟨b1, rfl, b2, b4⟩ | ⟨b1, rfl, b2, b3, b4⟩
          all_goals
            go_wp2_with (go_at_call 22; refine (PLC _ HS6.out.tab).mono ?_; rintro e w7 ⟨rfl, rfl⟩)
            go_meet
            exact ⟨rfl, HS6.out⟩
        case rest =>
          obtain ⟨rfl, hS7⟩ := hcut
          obtain ⟨w7, rfl⟩ : ∃ v : World, v = wc := ⟨_, rfl⟩
          have HS7 := Lib.hid hS7
          clear hS7 HS6 c2 c3 hcase PLC
          have hl8 : rs2.length ≤ 1000000 := by have := HR2.out; have := HB.out; omega
          obtain ⟨V, hV⟩ : ∃ V : Nat → Nat, (fun i : Nat => worthN rs2 i) = V := ⟨_, rfl⟩
          obtain ⟨n, hn⟩ : ∃ n, rs2.length = n := ⟨_, rfl⟩
          have hsum : sumN V 8 = n := by
            obtain ⟨R, W, S, hT, hI⟩ := HS7.out.tab
            rw [← hV, sumN_worth rs2 8 (fun r hr => by have := hI.ok r hr; omega), hn]
          have WOR := fun i : Nat => tabWorth HS7.out.tab i
          have CNT := tabCount HS7.out.tab hl8
          rw [hn] at CNT hl8
          have hV2 : ∀ i : Nat, worthN rs2 i = V i := fun i => by rw [← hV]
          simp only [hV2] at WOR
          have HV := Lib.hid (And.intro hsum (And.intro hn hV))
          have hle : ∀ i, i ≤ 8 → sumN V i ≤ n := fun i hi => by rw [← hsum]; exact sumN_le V i 8 hi
          have HLE := Lib.hid hle
          clear hV hn hsum hV2 hle
          go_wp2
          go_loopw [10, 64] (fun s i wr => ∃ j : Nat, j ≤ 8 ∧ i = .int .i64 j ∧ s = .int .i64 (sumN V j : Nat) ∧ w7 = wr) (fun _ i _ => 8 - (intOf i).toNat)
          case atStart => exact ⟨0, by omega, rfl, rfl, rfl⟩
          case round =>
            obtain ⟨j, hj, rfl, rfl, rfl⟩ := hrel
            by_cases hlt8 : j < 8
            · have W1 := WOR j
              have h1 := HLE.out (j + 1) (by omega)
              have H2 := Lib.hid (show sumN V (j + 1) = sumN V j + V j from rfl)
              rw [H2.out] at h1
              obtain ⟨s, hs⟩ : ∃ s, sumN V j = s := ⟨_, rfl⟩
              rw [hs] at h1 H2
              rw [hs]
              obtain ⟨u, hu⟩ : ∃ u, V j = u := ⟨_, rfl⟩
              rw [hu] at W1 h1 H2
              clear hs hu
              go_wp2_with (go_at_call 23; refine W1.mono ?_; rintro e w8 ⟨rfl, rfl⟩)
              go_roundw
              case rel => exact ⟨j + 1, by omega, by go_num, by rw [H2.out]; go_num, trivial⟩
              case measure => simp [intOf]; omega
            · obtain rfl : j = 8 := by omega
              rw [HV.out.1]
              go_wp2_with (go_at_call 24; refine CNT.mono ?_; rintro e w8 ⟨rfl, rfl⟩)
              go_roundw
              case rel => exact ⟨k + 1, rs2, by omega, by go_num, HR2.out, HS7.out⟩
              case measure => simp [intOf]; omega
      · go_wp2
        go_ret
        exact ⟨rfl, hS.ext⟩

end Go.Proofs.Ytdnjpoioojahkaa
