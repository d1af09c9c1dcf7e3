/-
  Layer 14: the document's table: Clear, Set.
-/
import Derived.Test.YtdnjpoioojahkaaQE
namespace Go.Proofs.Ytdnjpoioojahkaa
set_option linter.unusedVariables false
set_option linter.unusedSimpArgs false
set_option maxRecDepth 100000
open Go.RowKit

theorem clear_snoc (rs : List R14) (c : R14) (pl : Int) : clearN (rs ++ [c]) pl = if c.pl = pl then clearN rs pl else clearN rs pl ++ [c] := by
  unfold clearN
  rw [List.filter_append]
  by_cases h : c.pl = pl
  · rw [if_pos h]; simp [h]
  · rw [if_neg h]; simp [h]
theorem ret_bool14 {a b : Bool} (h : a = b) : Ending.returned (.bool a) = .returned (.bool b) := by rw [h]
theorem g14_set {w w1 w2 : World} {q : Nat} (h : w.grownBy w1 none) (h2 : w1.grownBy w2 (some q)) : w.grownBy w2 (some q) :=
  ⟨h2.os.trans h.os, h2.tape.trans h.tape, h2.output.trans h.output, Nat.le_trans h.size h2.size, fun k hk hne => (h2.block k (Nat.lt_of_lt_of_le hk h.size) hne).trans (h.block k hk (by simp))⟩
theorem g14_set1 (w : World) (q i : Nat) (v : Value) : w.grownBy (w.setCell ⟨q, i, none⟩ v) (some q) :=
  ⟨rfl, rfl, rfl, by simp [World.setCell], fun k _ hne => heap_setCell_other w ⟨q, i, none⟩ k v (fun e => hne (by rw [e]))⟩
theorem set_own14 {w w1 w2 w3 : World} {q : Nat} {v : Value} (h : w.grownBy w1 (some q)) (h2 : w1.grownBy w2 none) (h3 : w2.grownBy w3 v.ownBlock) (hv : ∀ k, v.ownBlock = some k → w.heap.size ≤ k) : w.grownBy w3 (some q) :=
  ⟨h3.os.trans (h2.os.trans h.os), h3.tape.trans (h2.tape.trans h.tape), h3.output.trans (h2.output.trans h.output), Nat.le_trans h.size (Nat.le_trans h2.size h3.size), fun k hk hne =>
    (h3.block k (Nat.lt_of_lt_of_le hk (Nat.le_trans h.size h2.size)) (fun e => by have := hv k e.symm; omega)).trans ((h2.block k (Nat.lt_of_lt_of_le hk h.size) (by simp)).trans (h.block k hk hne))⟩
theorem set_chain14 {w w1 w2 : World} {q : Nat} (h : w.grownBy w1 (some q)) (h2 : w1.grownBy w2 (some q)) : w.grownBy w2 (some q) :=
  ⟨h2.os.trans h.os, h2.tape.trans h.tape, h2.output.trans h.output, Nat.le_trans h.size h2.size, fun k hk hne => (h2.block k (Nat.lt_of_lt_of_le hk h.size) hne).trans (h.block k hk hne)⟩
theorem g14_own {w w1 w2 : World} {v : Value} (h : w.grownBy w1 none) (h2 : w1.grownBy w2 v.ownBlock) (hg : ∀ k, v.ownBlock = some k → w.heap.size ≤ k) : w.grownBy w2 none :=
  ⟨h2.os.trans h.os, h2.tape.trans h.tape, h2.output.trans h.output, Nat.le_trans h.size h2.size, fun k hk hne => (h2.block k (Nat.lt_of_lt_of_le hk h.size) (fun e => by have := hg k e.symm; omega)).trans (h.block k hk hne)⟩

set_option maxHeartbeats 1600000 in
theorem clear14_any {w : World} {q : Nat} {B P : Int} {rs : List R14} {v : Value} (h : Tab14 w q B P rs v) (pl : Int) (hl : rs.length ≤ 1000000) :
    Calls Try.prog 26 #[.pointer (some ⟨q, 0, none⟩), .int .i64 pl] w fun e w' => e = .returned (.bool (decide ((clearN rs pl).length < rs.length))) ∧ (∃ v', Tab14 w' q B P (clearN rs pl) v' ∧ ∀ k, v'.ownBlock = some k → w.heap.size ≤ k) ∧ w.grownBy w' (some q) := by
  obtain ⟨so, sc, hv⟩ := h.row.form14
  obtain ⟨n, hn⟩ : ∃ n, rs.length = n := ⟨_, rfl⟩
  rw [hn] at hv hl
  subst hv
  have c2 := (h.blk.cell 2).trans (show (#[.int .i64 B, .int .i64 P, .slice so n sc] : Array Value)[2]? = some (.slice so n sc) from rfl)
  have HH := Lib.hid (And.intro h hn)
  obtain ⟨i0, hi, hz0, hz1, hz2⟩ := info_parts Try.infoRow14
  rw [hn]
  obtain ⟨gb, hgb⟩ : ∃ z, decide ((clearN rs pl).length < n) = z := ⟨_, rfl⟩
  rw [hgb]
  have HGB := Lib.hid hgb
  clear h hn hgb
  go_enter Try.func26, Try.ntmps26
  go_wp2
  go_loopw [5, 14] (fun s i wr => ∃ (k : Nat) (vo : Value), k ≤ n ∧ s = vo ∧ i = .int .i64 k ∧ w.grownBy wr none ∧ TailRow wr w.heap.size 72 3 vo (clearN (rs.take k) pl).length (rowsL (clearN (rs.take k) pl))) (fun _ i _ => n - (intOf i).toNat)
  case atStart => exact ⟨0, _, by omega, rfl, rfl, ⟨rfl, rfl, rfl, Nat.le_refl _, fun _ _ _ => rfl⟩, TailRow.nil _ _ _ _⟩
  case round =>
    obtain ⟨k, vo, hk, rfl, rfl, hE, hrow⟩ := hrel
    obtain ⟨wo, rfl⟩ : ∃ wo : World, wo = wr := ⟨_, rfl⟩
    have HE := Lib.hid hE
    have HRW := Lib.hid hrow
    clear hE hrow
    by_cases hlt : k < n
    · obtain ⟨c, hc⟩ : ∃ c, rs.getD k no14 = c := ⟨_, rfl⟩
      obtain ⟨g, off, rfl, hrg⟩ := row14_at (HH.out.1.next HE.out).row (by rw [HH.out.2]; exact hlt) hc
      have hBn := Blk.new wo 72 #[.int .i64 0, .int .i64 0, .int .i64 0]
      have HT := Lib.hid (take14 (by rw [HH.out.2]; exact hlt) hc)
      clear hc
      obtain ⟨x2, hx2⟩ : ∃ z, c.pl = z := ⟨_, rfl⟩
      have HX := Lib.hid hx2
      obtain ⟨to_, tc, hvo⟩ := HRW.out.form14
      obtain ⟨m, hm⟩ : ∃ m, (clearN (rs.take k) pl).length = m := ⟨_, rfl⟩
      have hmk : m ≤ k := by rw [← hm]; unfold clearN; exact Nat.le_trans (List.length_filter_le _ _) (by rw [List.length_take]; exact Nat.min_le_left _ _)
      rw [hm] at HRW hvo
      have HM := Lib.hid hm
      clear hx2 hm
      subst hvo
      go_upto_region 5 with (first
        | (refine row14_load rfl _ rfl rfl hrg ?_)
        | (refine row14_store _ _ rfl rfl rfl hBn rfl rfl ?_; intro w2 hb2 hg2 hs2; have hE2 := g14_new (World.grownBy_alloc wo _ none) hg2 (Nat.le_refl _); have HE2 := Lib.hid (g14_trans HE.out hE2); have HR2 := Lib.hid (HRW.out.kept hE2 (by simp)); have d0 := (hb2.cell 0).trans (show (r14C c)[0]? = some (.int .i64 x2) by rw [← HX.out]; rfl); clear hBn hg2 hs2 hrg hE2))
      by_cases h1 : x2 = pl
      · have b1 : (x2 != pl) = false := by simp [h1]
        have HB := Lib.hid h1
        clear h1
        go_wp2
        go_roundw
        case rel => exact ⟨k + 1, _, by omega, rfl, by go_num, HE2.out, by rw [HT.out, clear_snoc, if_pos (by rw [HX.out]; exact HB.out), HM.out]; exact HR2.out⟩
        case measure => simp [intOf]; omega
      · have b1 : (x2 != pl) = true := by simpa using h1
        have HB := Lib.hid h1
        clear h1
        go_wp2_with (first
          | (refine row14_lit rfl _ rfl rfl (hb2.range14 0 3 rfl) ?_; have HTR := HR2.out.kept (World.grownBy_alloc w2 (.cells #[.int .i64 c.pl, .int .i64 c.bk, .int .i64 c.pg] 72) none) (by simp))
          | (at_builtin; refine append_tail rfl _ _ 51 rfl w.heap.size 72 i0 _ 3 24 Try.underlying51 hi hz0 hz1 hz2 rfl (by decide) rfl HTR ⟨w2.heap.size, 0, none⟩ 1 (r14C c).toList rfl rfl (r14_new w2 c _) (by simp [r14C, Value.oneCell']) (by unfold maxLen; omega) (by omega) (by have := HE2.out.size; simp; omega) ?_; intro v7 w7 hr7 hg7 _; have HE7 := Lib.hid (g14_own (g14_trans HE2.out (World.grownBy_alloc w2 _ none)) hg7 (fun k hk => (HTR.lt k hk).1)); have HR7 := Lib.hid hr7; clear hr7 hg7 HTR))
        go_roundw
        case rel => exact ⟨k + 1, v7, by omega, rfl, by go_num, HE7.out, by rw [HT.out, clear_snoc, if_neg (by rw [HX.out]; exact HB.out), List.length_append, rowsL_snoc, HM.out]; exact HR7.out⟩
        case measure => simp [intOf]; omega
    · obtain rfl : k = n := by omega
      have htk : rs.take k = rs := List.take_of_length_le (by rw [HH.out.2]; exact Nat.le_refl _)
      rw [htk] at HRW
      obtain ⟨to_, tc, hvo⟩ := HRW.out.form14
      obtain ⟨m, hm⟩ : ∃ m, (clearN rs pl).length = m := ⟨_, rfl⟩
      have hmk : m ≤ k := by rw [← hm, ← HH.out.2]; unfold clearN; exact List.length_filter_le _ _
      rw [hm] at HRW hvo HGB
      have HM := Lib.hid hm
      clear hm
      subst hvo
      have hT := HH.out.1.next HE.out
      have c2b := (hT.blk.cell 2).trans (show (#[.int .i64 B, .int .i64 P, .slice so k sc] : Array Value)[2]? = some (.slice so k sc) from rfl)
      have f2 := hT.blk.free 2
      have HTT := Lib.hid hT
      clear hT
      go_wp2
      go_ret
      have hgs := g14_set1 wo q 2 (.slice to_ m tc)
      have hql := HH.out.1.blk.lt
      have hrow := HRW.out
      have hlt2 := hrow.lt
      refine ⟨ret_bool14 HGB.out, ⟨.slice to_ m tc, ⟨HTT.out.blk.set 2 (.slice to_ m tc), ?_⟩, fun j hj => (hlt2 j hj).1⟩, g14_set HE.out hgs⟩
      rw [HM.out]
      exact (hrow.le (show q + 1 ≤ w.heap.size by omega)).kept hgs (fun j hj e => by injection e with e; have := (hlt2 j hj).1; omega)

/-! ### Set -/
def setE (B P : Int) (rs : List R14) (pl bk pg : Int) : Int := if pl < 0 ∨ 63 < pl ∨ bk < 0 ∨ B ≤ bk ∨ pg < 0 ∨ P ≤ pg then 5 else if 0 ≤ placeN rs bk pg ∧ placeN rs bk pg ≠ pl then 7 else 0
def setR (B P : Int) (rs : List R14) (pl bk pg : Int) : List R14 := if setE B P rs pl bk pg = 0 then clearN rs pl ++ [⟨pl, bk, pg⟩] else rs

set_option maxHeartbeats 1600000 in
theorem set14_any {w : World} {q : Nat} {B P : Int} {rs : List R14} {v : Value} (h : Tab14 w q B P rs v) (pl bk pg : Int) (hl : rs.length ≤ 100000) :
    Calls Try.prog 25 #[.pointer (some ⟨q, 0, none⟩), .int .i64 pl, .int .i64 bk, .int .i64 pg] w fun e w' => e = .returned (.int .i64 (setE B P rs pl bk pg)) ∧ (∃ v', Tab14 w' q B P (setR B P rs pl bk pg) v') ∧ w.grownBy w' (some q) := by
  obtain ⟨r, hr⟩ : ∃ r, setE B P rs pl bk pg = r := ⟨_, rfl⟩
  obtain ⟨R, hR⟩ : ∃ R, setR B P rs pl bk pg = R := ⟨_, rfl⟩
  rw [hr, hR]
  have c0 := (h.blk.cell 0).trans (show (#[.int .i64 B, .int .i64 P, v] : Array Value)[0]? = some (.int .i64 B) from rfl)
  have c1 := (h.blk.cell 1).trans (show (#[.int .i64 B, .int .i64 P, v] : Array Value)[1]? = some (.int .i64 P) from rfl)
  have HRR := Lib.hid (And.intro hr hR)
  have PL := place14_any h bk pg (by omega)
  have HH := Lib.hid (And.intro h hl)
  have same : ∀ z : Int, setE B P rs pl bk pg = z → z ≠ 0 → r = z ∧ R = rs := fun z hz h0 => ⟨hr.symm.trans hz, by rw [← hR]; unfold setR; rw [hz, if_neg h0]⟩
  have HSM := Lib.hid same
  clear hr hR same h hl
  by_cases q1 : pl < 0
  case pos =>
    have bq1 : decide (pl < 0) = true := by simpa using q1
    have HQ := Lib.hid q1
    clear q1 PL
    go_enter Try.func25, Try.ntmps25
    go_wp2
    go_ret
    obtain ⟨e1, e2⟩ := HSM.out 5 (by unfold setE; rw [if_pos (.inl HQ.out)]) (by decide)
    refine ⟨ret_int14 e1.symm, ⟨v, by rw [e2]; exact HH.out.1⟩, ⟨rfl, rfl, rfl, Nat.le_refl _, fun _ _ _ => rfl⟩⟩
  have bq1 : decide (pl < 0) = false := by simpa using q1
  have HQ1 := Lib.hid q1
  clear q1
  by_cases q2 : 63 < pl
  case pos =>
    have bq2 : decide (63 < pl) = true := by simpa using q2
    have HQ := Lib.hid q2
    clear q2 PL
    go_enter Try.func25, Try.ntmps25
    go_wp2
    go_ret
    obtain ⟨e1, e2⟩ := HSM.out 5 (by unfold setE; rw [if_pos (.inr (.inl HQ.out))]) (by decide)
    refine ⟨ret_int14 e1.symm, ⟨v, by rw [e2]; exact HH.out.1⟩, ⟨rfl, rfl, rfl, Nat.le_refl _, fun _ _ _ => rfl⟩⟩
  have bq2 : decide (63 < pl) = false := by simpa using q2
  have HQ2 := Lib.hid q2
  clear q2
  by_cases q3 : bk < 0
  case pos =>
    have bq3 : decide (bk < 0) = true := by simpa using q3
    have HQ := Lib.hid q3
    clear q3 PL
    go_enter Try.func25, Try.ntmps25
    go_wp2
    go_ret
    obtain ⟨e1, e2⟩ := HSM.out 5 (by unfold setE; rw [if_pos (.inr (.inr (.inl HQ.out)))]) (by decide)
    refine ⟨ret_int14 e1.symm, ⟨v, by rw [e2]; exact HH.out.1⟩, ⟨rfl, rfl, rfl, Nat.le_refl _, fun _ _ _ => rfl⟩⟩
  have bq3 : decide (bk < 0) = false := by simpa using q3
  have HQ3 := Lib.hid q3
  clear q3
  by_cases q4 : B ≤ bk
  case pos =>
    have bq4 : decide (B ≤ bk) = true := by simpa using q4
    have HQ := Lib.hid q4
    clear q4 PL
    go_enter Try.func25, Try.ntmps25
    go_wp2
    go_ret
    obtain ⟨e1, e2⟩ := HSM.out 5 (by unfold setE; rw [if_pos (.inr (.inr (.inr (.inl HQ.out))))]) (by decide)
    refine ⟨ret_int14 e1.symm, ⟨v, by rw [e2]; exact HH.out.1⟩, ⟨rfl, rfl, rfl, Nat.le_refl _, fun _ _ _ => rfl⟩⟩
  have bq4 : decide (B ≤ bk) = false := by simpa using q4
  have HQ4 := Lib.hid q4
  clear q4
  by_cases q5 : pg < 0
  case pos =>
    have bq5 : decide (pg < 0) = true := by simpa using q5
    have HQ := Lib.hid q5
    clear q5 PL
    go_enter Try.func25, Try.ntmps25
    go_wp2
    go_ret
    obtain ⟨e1, e2⟩ := HSM.out 5 (by unfold setE; rw [if_pos (.inr (.inr (.inr (.inr (.inl HQ.out)))))]) (by decide)
    refine ⟨ret_int14 e1.symm, ⟨v, by rw [e2]; exact HH.out.1⟩, ⟨rfl, rfl, rfl, Nat.le_refl _, fun _ _ _ => rfl⟩⟩
  have bq5 : decide (pg < 0) = false := by simpa using q5
  have HQ5 := Lib.hid q5
  clear q5
  by_cases q6 : P ≤ pg
  case pos =>
    have bq6 : decide (P ≤ pg) = true := by simpa using q6
    have HQ := Lib.hid q6
    clear q6 PL
    go_enter Try.func25, Try.ntmps25
    go_wp2
    go_ret
    obtain ⟨e1, e2⟩ := HSM.out 5 (by unfold setE; rw [if_pos (.inr (.inr (.inr (.inr (.inr HQ.out)))))]) (by decide)
    refine ⟨ret_int14 e1.symm, ⟨v, by rw [e2]; exact HH.out.1⟩, ⟨rfl, rfl, rfl, Nat.le_refl _, fun _ _ _ => rfl⟩⟩
  have bq6 : decide (P ≤ pg) = false := by simpa using q6
  have HQ6 := Lib.hid q6
  clear q6
  have HNO := Lib.hid (show ¬ (pl < 0 ∨ 63 < pl ∨ bk < 0 ∨ B ≤ bk ∨ pg < 0 ∨ P ≤ pg) from fun hh => by
    have a1 := HQ1.out; have a2 := HQ2.out; have a3 := HQ3.out; have a4 := HQ4.out; have a5 := HQ5.out; have a6 := HQ6.out
    omega)
  obtain ⟨x, hx⟩ : ∃ z, placeN rs bk pg = z := ⟨_, rfl⟩
  rw [hx] at PL
  have HX := Lib.hid hx
  clear hx
  by_cases hbad : 0 ≤ x ∧ x ≠ pl
  case pos =>
    have b7 : decide (0 ≤ x) = true := by simpa using hbad.1
    have b8 : (x != pl) = true := by simpa using hbad.2
    have HB := Lib.hid hbad
    clear hbad
    go_enter Try.func25, Try.ntmps25
    go_wp2_with (go_at_call 29; refine PL.mono ?_; rintro e w2 ⟨rfl, hE2⟩)
    go_ret
    obtain ⟨e1, e2⟩ := HSM.out 7 (by unfold setE; rw [if_neg HNO.out, HX.out, if_pos HB.out]) (by decide)
    refine ⟨ret_int14 e1.symm, ⟨v, by rw [e2]; exact HH.out.1.next hE2⟩, g14_set hE2 ⟨rfl, rfl, rfl, Nat.le_refl _, fun _ _ _ => rfl⟩⟩
  have he : setE B P rs pl bk pg = 0 := by unfold setE; rw [if_neg HNO.out, HX.out, if_neg hbad]
  have hRv : R = clearN rs pl ++ [⟨pl, bk, pg⟩] := by rw [← HRR.out.2]; unfold setR; rw [if_pos he]
  have hrv : r = 0 := by rw [← HRR.out.1]; exact he
  have HRV := Lib.hid (And.intro hrv hRv)
  clear he hRv hrv
  have CL := fun wx (hE : w.grownBy wx none) => clear14_any (HH.out.1.next hE) pl (by have := HH.out.2; omega)
  obtain ⟨i0, hi, hz0, hz1, hz2⟩ := info_parts Try.infoRow14
  have hcl : (clearN rs pl).length ≤ 100000 := Nat.le_trans (List.length_filter_le _ _) HH.out.2
  go_enter Try.func25, Try.ntmps25
  go_upto_region 4 with (go_at_call 29; refine PL.mono ?_; rintro e w2 ⟨rfl, hE2⟩; have HE2 := Lib.hid hE2; have CL2 := CL w2 hE2; clear hE2 CL)
  by_cases h0 : 0 ≤ x
  case pos =>
    have b7 : decide (0 ≤ x) = true := by simpa using h0
    have b8 : (x != pl) = false := by simpa using (by omega : x = pl)
    clear h0 hbad
    go_wp2_with (first
      | (go_at_call 26; refine CL2.mono ?_; rintro e w3 ⟨rfl, ⟨v3, hT3, hv3b⟩, hg3⟩; obtain ⟨to_, tc, hv3⟩ := hT3.row.form14; subst hv3; have d2 := (hT3.blk.cell 2).trans (show (#[.int .i64 B, .int .i64 P, .slice to_ (clearN rs pl).length tc] : Array Value)[2]? = some (.slice to_ (clearN rs pl).length tc) from rfl); have HT3 := Lib.hid (And.intro hT3 (And.intro (g14_set HE2.out hg3) (show ∀ k, (Value.slice to_ (clearN rs pl).length tc).ownBlock = some k → w.heap.size ≤ k from fun k hk => Nat.le_trans HE2.out.size (hv3b k hk)))); have HTR := hT3.row.kept (World.grownBy_alloc w3 (.cells #[.int .i64 pl, .int .i64 bk, .int .i64 pg] 72) none) (by simp); clear hT3 hg3 CL2 hv3b)
      | (at_builtin; refine append_tail rfl _ _ 51 rfl (q + 1) 72 i0 _ 3 24 Try.underlying51 hi hz0 hz1 hz2 rfl (by decide) rfl HTR ⟨w3.heap.size, 0, none⟩ 1 (r14C ⟨pl, bk, pg⟩).toList rfl rfl (r14_new w3 ⟨pl, bk, pg⟩ _) (by simp [r14C, Value.oneCell']) (by unfold maxLen; omega) (by omega) (by have := HT3.out.1.blk.lt; simp; omega) ?_; intro v7 w7 hr7 hg7 _; have hb7 := (HT3.out.1.blk.ext (World.grownBy_alloc w3 _ none)).kept hg7 (fun e => by have := (HTR.lt q e.symm).1; omega); have f7 := hb7.free 2; have k7 := hb7.cell 2; have HB7 := Lib.hid hb7; have HG7 := Lib.hid (set_own14 HT3.out.2.1 (World.grownBy_alloc w3 _ none) hg7 HT3.out.2.2); obtain ⟨ao7, ac7, hv7⟩ := hr7.form14; subst hv7; have HR7 := Lib.hid hr7; clear hr7 hg7 HTR hb7))
    go_ret
    have hgs := g14_set1 w7 q 2 (.slice ao7 ((clearN rs pl).length + 1) ac7)
    have hlt7 := HR7.out.lt
    refine ⟨ret_int14 HRV.out.1.symm, ⟨_, HB7.out.set 2 _, ?_⟩, set_chain14 HG7.out hgs⟩
    rw [HRV.out.2, List.length_append, rowsL_snoc]
    exact HR7.out.kept hgs (fun j hj e => by injection e with e; have := (hlt7 j hj).1; omega)
  have b7 : decide (0 ≤ x) = false := by simpa using h0
  clear h0 hbad
  go_wp2_with (first
    | (go_at_call 26; refine CL2.mono ?_; rintro e w3 ⟨rfl, ⟨v3, hT3, hv3b⟩, hg3⟩; obtain ⟨to_, tc, hv3⟩ := hT3.row.form14; subst hv3; have d2 := (hT3.blk.cell 2).trans (show (#[.int .i64 B, .int .i64 P, .slice to_ (clearN rs pl).length tc] : Array Value)[2]? = some (.slice to_ (clearN rs pl).length tc) from rfl); have HT3 := Lib.hid (And.intro hT3 (And.intro (g14_set HE2.out hg3) (show ∀ k, (Value.slice to_ (clearN rs pl).length tc).ownBlock = some k → w.heap.size ≤ k from fun k hk => Nat.le_trans HE2.out.size (hv3b k hk)))); have HTR := hT3.row.kept (World.grownBy_alloc w3 (.cells #[.int .i64 pl, .int .i64 bk, .int .i64 pg] 72) none) (by simp); clear hT3 hg3 CL2 hv3b)
    | (at_builtin; refine append_tail rfl _ _ 51 rfl (q + 1) 72 i0 _ 3 24 Try.underlying51 hi hz0 hz1 hz2 rfl (by decide) rfl HTR ⟨w3.heap.size, 0, none⟩ 1 (r14C ⟨pl, bk, pg⟩).toList rfl rfl (r14_new w3 ⟨pl, bk, pg⟩ _) (by simp [r14C, Value.oneCell']) (by unfold maxLen; omega) (by omega) (by have := HT3.out.1.blk.lt; simp; omega) ?_; intro v7 w7 hr7 hg7 _; have hb7 := (HT3.out.1.blk.ext (World.grownBy_alloc w3 _ none)).kept hg7 (fun e => by have := (HTR.lt q e.symm).1; omega); have f7 := hb7.free 2; have k7 := hb7.cell 2; have HB7 := Lib.hid hb7; have HG7 := Lib.hid (set_own14 HT3.out.2.1 (World.grownBy_alloc w3 _ none) hg7 HT3.out.2.2); obtain ⟨ao7, ac7, hv7⟩ := hr7.form14; subst hv7; have HR7 := Lib.hid hr7; clear hr7 hg7 HTR hb7))
  go_ret
  have hgs := g14_set1 w7 q 2 (.slice ao7 ((clearN rs pl).length + 1) ac7)
  have hlt7 := HR7.out.lt
  refine ⟨ret_int14 HRV.out.1.symm, ⟨_, HB7.out.set 2 _, ?_⟩, set_chain14 HG7.out hgs⟩
  rw [HRV.out.2, List.length_append, rowsL_snoc]
  exact HR7.out.kept hgs (fun j hj e => by injection e with e; have := (hlt7 j hj).1; omega)

end Go.Proofs.Ytdnjpoioojahkaa
