/-
  Texts put together: VG.
-/
import Derived.Test.YteionppcjgggiaaGreatM16
/-
  The document's Parse of a ledger.
-/
namespace Go.Proofs.YteionppcjgggiaaGreat
set_option linter.unusedVariables false
set_option linter.unusedSimpArgs false
set_option maxRecDepth 100000
open Go.RowKit

theorem refNumber_s {s : Rst} {br c : Nat} {n : Int} {w : World} (hR : RdIs 76 w br c s.1 s.2) (hB : Byts s.1) :
    Calls Tryz.prog 27 #[.pointer (some ⟨br, 0, none⟩), .int .i64 n] w fun e w' => e = .returned (.int .i64 (rdV n s)) ∧ RdIs 76 w' br c (rdN n s).1 (rdN n s).2 ∧ w.grownBy w' (some br) := refNumber_is hR hB rfl rfl rfl
theorem refFlag_s {s : Rst} {br c : Nat} {w : World} (hR : RdIs 76 w br c s.1 s.2) (hB : Byts s.1) :
    Calls Tryz.prog 28 #[.pointer (some ⟨br, 0, none⟩)] w fun e w' => e = .returned (.bool (rdB s)) ∧ RdIs 76 w' br c (rdF s).1 (rdF s).2 ∧ w.grownBy w' (some br) := refFlag_any br c s.1 s.2 w hR hB
theorem refDone_s {s : Rst} {br c : Nat} {w : World} (hR : RdIs 76 w br c s.1 s.2) {e1 : Int} (h1 : doneE s.1 s.2 = e1) :
    Calls Tryz.prog 29 #[.pointer (some ⟨br, 0, none⟩)] w fun e w' => e = .returned (.int .i64 e1) ∧ RdIs 76 w' br c s.1 e1 ∧ w.grownBy w' (some br) := by
  subst h1
  exact refDone_any br c s.1 s.2 w hR
theorem ref_reader11 {v : Value} {xs : List Int} {w : World} (hb : Bts w v xs) (hlt : ∀ k, v.ownBlock = some k → k < w.heap.size) (h0 : 0 < w.heap.size) :
    ∃ c, RdIs 76 (w.alloc (.cells #[v, .int .i64 0] 76)) w.heap.size c xs 0 ∧ c < w.heap.size := by
  have hga := World.grownBy_alloc w (.cells #[v, .int .i64 0] 76) none
  cases ho : v.ownBlock with
  | none => exact ⟨0, ⟨v, heap_alloc_new w _, hb.kept hga (by simp), fun k hk => (by rw [ho] at hk; cases hk), by omega⟩, h0⟩
  | some c => exact ⟨c, ⟨v, heap_alloc_new w _, hb.kept hga (by simp), fun k hk => (by rw [ho] at hk; cases hk; rfl), Nat.ne_of_lt (hlt c ho)⟩, hlt c ho⟩

/-! An error stays. -/
theorem rdN_err {n : Int} {s : Rst} (h : s.2 ≠ 0) : rdN n s = s := by
  unfold rdN numX numE
  rw [if_neg (fun hh => h hh.1), if_neg h]
theorem rdN_ok {n : Int} {s : Rst} (h : (rdN n s).2 = 0) : s.2 = 0 := by
  by_cases h0 : s.2 = 0
  · exact h0
  · rw [rdN_err h0] at h; exact h
theorem rdF_ok {s : Rst} (h : (rdF s).2 = 0) : s.2 = 0 := by
  by_cases h0 : s.2 = 0
  · exact h0
  · have : numV 1 s.1 s.2 = 0 := by unfold numV; rw [if_neg (fun hh => h0 hh.1)]
    have h2 : flagE s.1 s.2 = 0 := h
    unfold flagE at h2
    rw [this, if_neg (by decide)] at h2
    unfold numE at h2
    rw [if_neg h0] at h2
    exact h2
theorem rowS_err {s : Rst} {q : Nat} (h : (rowS s q).2 ≠ 0) : ∀ d, rowS s (q + d) = rowS s q
  | 0 => rfl
  | d + 1 => by
    rw [← Nat.add_assoc, rowS, rowS_err h d, rdN_err h]
theorem rowS_ok {s : Rst} : ∀ {q : Nat}, (rowS s q).2 = 0 → s.2 = 0
  | 0, h => h
  | q + 1, h => rowS_ok (rdN_ok h)
theorem entS_ok {s : Rst} (h : (entS s).2 = 0) : s.2 = 0 := by
  unfold entS at h
  split at h
  · exact rdF_ok (rdN_ok (rdN_ok (rdN_ok (rdN_ok (rowS_ok h)))))
  · exact rdF_ok h
theorem ledK_same {bs : List Int} {k : Nat} (h : rdB (ledS bs k) = false) : ledK bs (k + 1) = ledK bs k := by
  unfold ledK
  congr 1
  funext j
  by_cases e : j = k
  · subst e
    simp [entT, h]
  · by_cases e2 : j < k
    · simp [e2, show j < k + 1 by omega]
    · simp [e2, show ¬ j < k + 1 by omega]

/-- What stands while the document reads an entry. -/
structure EntD (T : TypeId) (w0 w : World) (br c E : Nat) (s : Rst) (x : Ten) (v : Value) : Prop where
  rd : RdIs T w br c s.1 s.2
  byt : Byts s.1
  ent : Blk w E 33 (tenC x v)
  row : OwnI (E + 1) w v x.bs
  ext : w0.grownBy w (some br)
  oE : w0.heap.size ≤ E
  ob : br < w0.heap.size
  oc : c < w0.heap.size
theorem EntD.num {T : TypeId} {w0 w w' : World} {br c E : Nat} {s s' : Rst} {x : Ten} {v : Value} (h : EntD T w0 w br c E s x v) (hg : w.grownBy w' (some br)) (hR : RdIs T w' br c s'.1 s'.2) (hB : Byts s'.1) : EntD T w0 w' br c E s' x v := by
  have := h.oE
  have := h.ob
  exact ⟨hR, hB, h.ent.kept hg (by simp; omega), own_kept h.row hg (fun p hp e => by injection e with e; have := (own_lt h.row p hp).1; omega), grown_trans h.ext hg (fun p hp _ => by injection hp with hp; rw [hp]), h.oE, h.ob, h.oc⟩
theorem EntD.put {T : TypeId} {w0 w : World} {br c E : Nat} {s : Rst} {x y : Ten} {v : Value} {i : Nat} {u : Value} (h : EntD T w0 w br c E s x v) (hy : (tenC x v).setIfInBounds i u = tenC y v) (hb : y.bs = x.bs) : EntD T w0 (w.setCell ⟨E, i, none⟩ u) br c E s y v := by
  have q2 := h.oE
  have q3 := h.ob
  have q4 := h.oc
  have hg : w.grownBy (w.setCell ⟨E, i, none⟩ u) (some E) := grown_set w ⟨E, i, none⟩ u
  refine ⟨h.rd.kept hg (by simp; omega) (by simp; omega), h.byt, ?_, ?_, grown_trans h.ext hg (fun p hp hlt => by injection hp with hp; omega), h.oE, h.ob, h.oc⟩
  · rw [← hy]; exact h.ent.set i u
  · rw [hb]; exact own_kept h.row hg (fun p hp e => by injection e with e; have := (own_lt h.row p hp).1; omega)
theorem EntD.next {T : TypeId} {w0 w w' : World} {br c E : Nat} {s : Rst} {x : Ten} {v : Value} (h : EntD T w0 w br c E s x v) (hg : Ext w w') : EntD T w0 w' br c E s x v :=
  ⟨h.rd.kept hg (by simp) (by simp), h.byt, h.ent.ext hg, own_kept h.row hg (by simp), grown_trans h.ext hg (fun p hp => by simp at hp), h.oE, h.ob, h.oc⟩
theorem EntD.more {T : TypeId} {w0 w w1 : World} {br c E : Nat} {s : Rst} {x : Ten} {v v' : Value} {a : Int} (h : EntD T w0 w br c E s x v) (ho : OwnI (E + 1) w1 v' (x.bs ++ [a]))
    (hg : (w.alloc (.cells #[.int .i64 a] 3)).grownBy w1 v.ownBlock) : EntD T w0 (w1.setCell ⟨E, 4, none⟩ v') br c E s { x with bs := x.bs ++ [a] } v' := by
  have q2 := h.oE
  have q3 := h.ob
  have q4 := h.oc
  have ha := World.grownBy_alloc w (.cells #[.int .i64 a] 3) none
  have own : ∀ p, v.ownBlock = some p → E < p ∧ p < w.heap.size := fun p hp => by have := own_lt h.row p hp; omega
  have hs : w1.grownBy (w1.setCell ⟨E, 4, none⟩ v') (some E) := grown_set w1 ⟨E, 4, none⟩ v'
  have hE1 := (h.ent.ext ha).kept hg (fun e => by have := own E e.symm; omega)
  have hr1 := (h.rd.kept ha (by simp) (by simp)).kept hg (fun e => by have := own br e.symm; omega) (fun e => by have := own c e.symm; omega)
  refine ⟨hr1.kept hs (by simp; omega) (by simp; omega), h.byt, ?_, ?_, ?_, h.oE, h.ob, h.oc⟩
  · exact hE1.set 4 v'
  · exact own_kept ho hs (fun p hp e => by injection e with e; have := (own_lt ho p hp).1; omega)
  · have e1 : w0.grownBy (w.alloc (.cells #[.int .i64 a] 3)) (some br) := grown_trans h.ext ha (fun p hp => by simp at hp)
    exact grown_trans (grown_trans e1 hg (fun p hp hlt => by have := own p hp; omega)) hs (fun p hp hlt => by injection hp with hp; omega)
theorem entD_start {T : TypeId} {w wf wn : World} {br c : Nat} {s : Rst} {y : Int} (hf : w.grownBy wf (some br)) (hn : wf.grownBy wn (some br)) (hR : RdIs T wn br c s.1 s.2) (hB : Byts s.1) (hb : br < w.heap.size) (hc : c < w.heap.size) :
    EntD T w (wn.alloc (.cells #[.bool true, .int .i64 y, .int .i64 0, .int .i64 0, .slice none 0 0] 33)) br c wn.heap.size s ⟨true, y, 0, 0, []⟩ nilS := by
  have ha := World.grownBy_alloc wn (.cells #[.bool true, .int .i64 y, .int .i64 0, .int .i64 0, .slice none 0 0] 33) none
  have q1 := hf.size
  have q2 := hn.size
  exact ⟨hR.kept ha (by simp) (by simp), hB, Blk.new wn 33 (tenC ⟨true, y, 0, 0, []⟩ nilS), World.ownsRow_nil _ _ _ _, grown_trans (grown_trans hf hn (fun p hp _ => hp.symm)) ha (fun p hp => by simp at hp), by omega, hb, hc⟩

theorem RdIs.err {T : TypeId} {w : World} {br c : Nat} {xs : List Int} {e : Int} (h : RdIs T w br c xs e) : w.cell? ⟨br, 1, none⟩ = some (.int .i64 e) := by
  obtain ⟨v, h1, _⟩ := h
  exact two_cell1 h1

set_option maxRecDepth 100000 in
set_option maxHeartbeats 800000 in
theorem refSnapParse_not (v : Value) (xs : List Int) (n p : Int) (w : World) (hb : Bts w v xs) (hB : Byts xs) (hm : xs.length ≤ 140737488351232) (hlt : ∀ k, v.ownBlock = some k → k < w.heap.size) (hE : whE xs 76 ≠ 0) :
    Calls Tryz.prog 10 #[v, .int .i64 n, .int .i64 p] w (ChangeP w (noLed, whE xs 76)) := by
  have hres := Blk.new w 36 zeroC
  have ha := World.grownBy_alloc w (.cells zeroC 36) none
  obtain ⟨w1, hw1⟩ : ∃ x, w.alloc (.cells zeroC 36) = x := ⟨_, rfl⟩
  rw [hw1] at hres ha
  have W := refWhole_any v xs 76 w1 (hb.kept ha (by simp)) hB hm (fun k hk => Nat.lt_of_lt_of_le (hlt k hk) ha.size)
  obtain ⟨ao, cap, b, off, rfl, _⟩ := hb.sform
  generalize whE xs 76 = er at *
  have hE' : (er != 0) = true := by simpa using hE
  generalize whB xs 76 = ys at *
  have HA := Lib.hid ha
  clear hE hb hB ha hlt
  go_enter Tryz.func10, Tryz.ntmps10
  go_wp2_with (first
    | (go_at_call 26; refine W.mono ?_; rintro e w2 ⟨v2, rfl, hown2, hg2⟩; obtain ⟨ao2, cp2, rfl⟩ := owns_shape hown2; have hr2 := hres.ext hg2)
    | (refine led_store (L := noLed) (V := fun _ => nilS) _ _ rfl rfl rfl hr2 rfl (fun _ _ => ⟨_, _, _, rfl⟩) rfl ?_; intro w3 hb3 hg3 hs3))
  refine bodyPost_ret (v := .tuple #[.agg (ledC noLed fun _ => nilS), .int .i64 er]) (results_cell_row2 (fn := Tryz.f10) rfl rfl rfl hb3 Tryz.underlying36 rfl Tryz.sizeLed) rfl ?_
  exact ⟨_, rfl, noLed_is _, fun j _ q hq => by simp [Value.ownBlock] at hq, grown_trans (ext_trans HA.out hg2) hg3 (fun p hp hlt => by injection hp with hp; omega)⟩

theorem par_startD {T : TypeId} {w w1 w2 w3 w4 w5 w6 : World} {c : Nat} {s5 : Rst} {g e : Int} (ha : Ext w w1) (hres : Blk w1 w.heap.size 36 zeroC) (hsz : w1.heap.size = w.heap.size + 1) (hg2 : Ext w1 w2) (hg3 : Ext w2 w3) (hl2 : w2.heap.size < w3.heap.size) (hl3 : c < w2.heap.size)
    (hg4 : w3.grownBy w4 (some w2.heap.size)) (hg5 : w4.grownBy w5 (some w2.heap.size)) (hR : RdIs T w5 w2.heap.size c s5.1 s5.2) (hB : Byts s5.1) (hb6 : Blk w6 w5.heap.size 36 (ledC ⟨g, e, fun _ => noTen⟩ (fun _ => nilS))) (hg : Ext w5 w6) :
    Par T w w6 w2.heap.size c w.heap.size w5.heap.size s5 ⟨g, e, fun _ => noTen⟩ (fun _ => nilS) :=
  par_start ha hres hsz hg2 hg3 (Nat.le_refl _) hl2 (by omega) hg4 hg5 hR hB hb6 hg

set_option maxRecDepth 100000 in
set_option maxHeartbeats 3200000 in
theorem refSnapParse_is (v : Value) (xs bs : List Int) (n p : Int) (w : World) (hb : Bts w v xs) (hB : Byts xs) (hm : xs.length ≤ 140737488351232) (hlt : ∀ k, v.ownBlock = some k → k < w.heap.size) (hE : whE xs 76 = 0) (hbs : whB xs 76 = bs) (hn0 : -9223372036854775000 ≤ n) (hn9 : n ≤ 9223372036854775807)
    (d : Int) (hd : ledE bs = d) (r : Bool) (hr : rightL (ledR bs) n p = r) (L2 : Led) (er : Int) (hyes : d = 0 ∧ r = true → L2 = ledR bs ∧ er = 0) (hno : ¬ (d = 0 ∧ r = true) → L2 = noLed ∧ er = 2) :
    Calls Tryz.prog 10 #[v, .int .i64 n, .int .i64 p] w (ChangeP w (L2, er)) := by
  have HYES := Lib.hid hyes
  have HNO := Lib.hid hno
  clear hyes hno
  have hres := Blk.new w 36 zeroC
  have ha := World.grownBy_alloc w (.cells zeroC 36) none
  have hsz : (w.alloc (.cells zeroC 36)).heap.size = w.heap.size + 1 := by simp
  obtain ⟨w1, hw1⟩ : ∃ x, w.alloc (.cells zeroC 36) = x := ⟨_, rfl⟩
  rw [hw1] at hres ha hsz
  have W := refWhole_any v xs 76 w1 (hb.kept ha (by simp)) hB hm (fun k hk => Nat.lt_of_lt_of_le (hlt k hk) ha.size)
  have hBb : Byts bs := hbs ▸ whB11_byts 76 hB
  obtain ⟨ao, cap, b, off, rfl, _⟩ := hb.sform
  rw [hE, hbs] at W
  have N1 := fun wx (br c : Nat) (h : RdIs 76 wx br c bs 0) => refNumber_s (s := (bs, 0)) (n := 4) h hBb
  have N2 := fun wx (br c : Nat) (h : RdIs 76 wx br c (rdN 4 (bs, 0)).1 (rdN 4 (bs, 0)).2) => refNumber_s (s := rdN 4 (bs, 0)) (n := 4) h (rdN_byts (s := (bs, 0)) hBb)
  have HG := Lib.hid (ledK_good hBb)
  have HBY := Lib.hid (ledS_byts hBb)
  obtain ⟨gen, hgen⟩ : ∃ z, rdV 4 (bs, 0) = z := ⟨_, rfl⟩
  obtain ⟨eps, heps⟩ : ∃ z, rdV 4 (rdN 4 (bs, 0)) = z := ⟨_, rfl⟩
  have HK0 := Lib.hid (show (⟨gen, eps, fun _ => noTen⟩ : Led) = ledK bs 0 by unfold ledK; rw [hgen, heps]; congr 1)
  rw [hgen] at N1
  rw [heps] at N2
  have HA := Lib.hid (And.intro ha (And.intro hres hsz))
  have HR0 := Lib.hid hr
  have HD := Lib.hid hd
  have HN := Lib.hid (And.intro hn0 hn9)
  clear hgen heps hE hbs hb hB hBb ha hres hr hd hlt hn0 hn9
  go_enter Tryz.func10, Tryz.ntmps10
  go_wp2_with (first
    | (go_at_call 27; refine (N2 _ _ _ hR4).mono ?_; rintro e w5 ⟨rfl, hR5, hg5⟩; have hBn := Blk.new w5 36 zeroC)
    | (go_at_call 27; refine (N1 _ _ _ hR3.out.1).mono ?_; rintro e w4 ⟨rfl, hR4, hg4⟩)
    | (refine led_build rfl _ _ rfl rfl rfl ?_)
    | (refine led_store (L := ⟨gen, eps, fun _ => noTen⟩) (V := fun _ => nilS) _ _ rfl rfl rfl hBn rfl (fun _ _ => ⟨_, _, _, rfl⟩) rfl ?_; intro w6 hb6 hg6 hs6; have S6 := par_startD HA.out.1 HA.out.2.1 HA.out.2.2 hg2 (World.grownBy_alloc w2 (.cells #[.slice ao2 bs.length cp2, .int .i64 0] 76) none) (by simp) hR3.out.2 hg4 hg5 hR5 (HBY.out 0) hb6 (grown_trans (World.grownBy_alloc w5 (.cells zeroC 36) none) hg6 (fun p hp hlt => by injection hp with hp; omega)); clear hb6 hg6 hs6 hBn hR5 hg5 hR4 hg4 hR3 hown2 hg2)
    | (go_at_call 26; refine W.mono ?_; rintro e w2 ⟨v2, rfl, hown2, hg2⟩; obtain ⟨ao2, cp2, rfl⟩ := owns_shape hown2; obtain ⟨c, hr3, hc3⟩ := ref_reader11 (Owns.bts rfl hown2) (fun k hk => (hown2.lt k hk).2) (by have := hg2.size; omega); have hR3 := Lib.hid (And.intro hr3 hc3); clear hr3 hc3))
  obtain ⟨br, hbr⟩ : ∃ br, w2.heap.size = br := ⟨_, rfl⟩
  obtain ⟨s0, hs0⟩ : ∃ z, rdN 4 (rdN 4 (bs, 0)) = z := ⟨_, rfl⟩
  rw [hs0, HK0.out] at S6
  rw [hbr] at S6 ⊢
  have HS0 := Lib.hid (show ledS bs 0 = s0 from hs0)
  have HK1 := Lib.hid S6
  clear S6 hs0 hbr
  clear N1 N2 W hsz hm
  go_loopw [33] (fun i wr => ∃ (k : Nat) (A : Led) (V : Nat → Value), k ≤ 4 ∧ i = .int .i64 k ∧ Par 76 w wr br c w.heap.size w5.heap.size (ledS bs k) A V ∧ ((ledS bs k).2 = 0 → A = ledK bs k)) (fun i _ => 4 - (intOf i).toNat)
  case atStart => exact ⟨0, _, _, by omega, rfl, by rw [HS0.out]; exact HK1.out, fun _ => rfl⟩
  case round =>
    obtain ⟨k, A, V, hk, rfl, hS, hAK⟩ := hrel
    obtain ⟨wo, rfl⟩ : ∃ wo : World, wo = wr := ⟨_, rfl⟩
    obtain ⟨s, hs⟩ : ∃ s, ledS bs k = s := ⟨_, rfl⟩
    rw [hs] at hS hAK
    have HEQ := Lib.hid hs
    have HAK := Lib.hid hAK
    have HS := Lib.hid hS
    have hBY : Byts s.1 := hS.byt
    by_cases hlt : k < 4
    · have F1 := refFlag_s hS.rd hBY
      have hbc : br < wo.heap.size ∧ c < wo.heap.size := ⟨by have := hS.oB; have := hS.led.lt; omega, by have := hS.oc; have := hS.led.lt; omega⟩
      cases hq : rdB s
      · rw [hq] at F1
        have HX := Lib.hid (show entS s = rdF s by unfold entS; rw [if_neg (by rw [hq]; simp)])
        have HSM := Lib.hid (show ledK bs (k + 1) = ledK bs k from ledK_same (by rw [HEQ.out]; exact hq))
        clear hs hS hAK hq
        go_wp2_with (go_at_call 28; refine F1.mono ?_; rintro e wf ⟨rfl, hRf, hgf⟩; have HP := Lib.hid (HS.out.num (s' := rdF s) hgf hRf (rdF_byts hBY)); clear hRf hgf)
        go_roundw
        case rel => exact ⟨k + 1, A, V, by omega, by go_num, by rw [ledS, HEQ.out, HX.out]; exact HP.out, by rw [ledS, HEQ.out, HX.out, HSM.out]; exact fun h => HAK.out (rdF_ok h)⟩
        case measure => simp [intOf]; omega
      · rw [hq] at F1
        obtain ⟨s1, hs1⟩ : ∃ z, rdF s = z := ⟨_, rfl⟩
        obtain ⟨s2, hs2⟩ : ∃ z, rdN 4 s1 = z := ⟨_, rfl⟩
        obtain ⟨s3, hs3⟩ : ∃ z, rdN 1 s2 = z := ⟨_, rfl⟩
        obtain ⟨s4, hs4⟩ : ∃ z, rdN 1 s3 = z := ⟨_, rfl⟩
        obtain ⟨s5, hs5⟩ : ∃ z, rdN 1 s4 = z := ⟨_, rfl⟩
        obtain ⟨y1, hy1⟩ : ∃ z, rdV 4 s1 = z := ⟨_, rfl⟩
        obtain ⟨y2, hy2⟩ : ∃ z, rdV 1 s2 = z := ⟨_, rfl⟩
        obtain ⟨y3, hy3⟩ : ∃ z, rdV 1 s3 = z := ⟨_, rfl⟩
        have b1 : Byts s1.1 := hs1 ▸ rdF_byts hBY
        have b2 : Byts s2.1 := hs2 ▸ rdN_byts b1
        have b3 : Byts s3.1 := hs3 ▸ rdN_byts b2
        have b4 : Byts s4.1 := hs4 ▸ rdN_byts b3
        have b5 : Byts s5.1 := hs5 ▸ rdN_byts b4
        have e4 : ent4 s = s4 := by unfold ent4; rw [hs1, hs2, hs3, hs4]
        obtain ⟨m, hm⟩ : ∃ m : Nat, rdV 1 s4 = (m : Int) := ⟨(rdV 1 s4).toNat, by have := rdV_one b4; omega⟩
        have hm5 : m ≤ 255 := by have := rdV_one b4; omega
        have HX := Lib.hid (show entT s = ⟨true, y1, y2, y3, rowV s5 m⟩ by unfold entT entN; rw [if_pos hq, e4, hs1, hy1, hs2, hy2, hs3, hy3, hs5, hm, Int.toNat_natCast])
        have HES := Lib.hid (show entS s = rowS s5 m by unfold entS entN; rw [if_pos hq, e4, hs5, hm, Int.toNat_natCast])
        have N1 := fun wr (h : RdIs 76 wr br c s1.1 s1.2) => refNumber_s (n := 4) h b1
        have N2 := fun wr (h : RdIs 76 wr br c s2.1 s2.2) => refNumber_s (n := 1) h b2
        have N3 := fun wr (h : RdIs 76 wr br c s3.1 s3.2) => refNumber_s (n := 1) h b3
        have N4 := fun wr (h : RdIs 76 wr br c s4.1 s4.2) => refNumber_s (n := 1) h b4
        rw [hs1] at F1
        rw [hs2, hy1] at N1
        rw [hs3, hy2] at N2
        rw [hs4, hy3] at N3
        rw [hs5, hm] at N4
        have HBS := Lib.hid (And.intro b1 (And.intro b2 (And.intro b3 (And.intro b4 b5))))
        have HBC := Lib.hid hbc
        clear hq hs hS hAK hs1 hs2 hs3 hs4 hs5 hy1 hy2 hy3 b1 b2 b3 b4 b5 e4 hm hBY hbc
        go_wp2_with (first
          | (go_at_call 27; refine (N4 _ S4.out.rd).mono ?_; rintro e n5 ⟨rfl, hR5, hg5⟩; have S5 := Lib.hid (S4.out.num hg5 hR5 HBS.out.2.2.2.2); clear hR5 hg5)
          | (go_at_call 27; refine (N3 _ S3.out.rd).mono ?_; rintro e n4 ⟨rfl, hR4, hg4⟩; have T4 := S3.out.num hg4 hR4 HBS.out.2.2.2.1; have d3 := (T4.ent.cell 3).trans (ten_sp _ _); have f3 := T4.ent.free 3; have S4 := Lib.hid (T4.put (i := 3) (y := ⟨true, y1, y2, y3, []⟩) (u := .int .i64 y3) rfl rfl); clear T4 hR4 hg4)
          | (go_at_call 27; refine (N2 _ S2.out.rd).mono ?_; rintro e n3 ⟨rfl, hR3, hg3⟩; have T3 := S2.out.num hg3 hR3 HBS.out.2.2.1; have d2 := (T3.ent.cell 2).trans (ten_sz _ _); have f2 := T3.ent.free 2; have S3 := Lib.hid (T3.put (i := 2) (y := ⟨true, y1, y2, 0, []⟩) (u := .int .i64 y2) rfl rfl); clear T3 hR3 hg3)
          | (go_at_call 27; refine (N1 _ HWF.out.1).mono ?_; rintro e n2 ⟨rfl, hR2, hg2⟩; have S2 := Lib.hid (entD_start (y := y1) HWF.out.2 hg2 hR2 HBS.out.2.1 HBC.out.1 HBC.out.2); clear hR2 hg2)
          | (go_at_call 28; refine F1.mono ?_; rintro e wf ⟨rfl, hRf, hgf⟩; have HWF := Lib.hid (And.intro hRf hgf); clear hRf hgf))
        clear F1 N1 N2 N3 N4
        go_loopw [15] (fun i wr => ∃ (q : Nat) (v : Value), q ≤ m ∧ i = .int .i64 q ∧ EntD 76 wo wr br c n2.heap.size (rowS s5 q) ⟨true, y1, y2, y3, rowV s5 q⟩ v) (fun i _ => m - (intOf i).toNat)
        case atStart => exact ⟨0, nilS, by omega, rfl, S5.out⟩
        case round =>
          obtain ⟨q, v, hq, rfl, hS⟩ := hrel
          by_cases hlq : q < m
          · have ce := hS.rd.err
            obtain ⟨er1, her1⟩ : ∃ z, (rowS s5 q).2 = z := ⟨_, rfl⟩
            rw [her1] at ce
            have HER := Lib.hid her1
            have HR := Lib.hid hS
            clear her1
            by_cases he0 : er1 = 0
            · subst he0
              obtain ⟨a, ha⟩ : ∃ z, rdV 1 (rowS s5 q) = z := ⟨_, rfl⟩
              have N := fun wx (h : RdIs 76 wx br c (rowS s5 q).1 (rowS s5 q).2) => refNumber_s (n := 1) h hS.byt
              rw [ha] at N
              have HAA := Lib.hid ha
              have hlen : (rowV s5 q).length ≤ 255 := by rw [rowV_len]; omega
              have HLEN := Lib.hid hlen
              clear ha hS hlen
              go_wp2
              refine region_tree (.read 0 (.read 2 (.two 1 3 (.one 3 (.one 4 (.one 5 (.read 6 (.one 7 .done))))) (.two 1 4 (.one 4 (.one 5 (.read 6 (.one 7 .done)))) (.one 1 (.one 5 (.read 6 (.one 7 .done)))))))) (fun _ => True) (by kernel_rfl) (by kernel_rfl) (fun _ _ _ d _ h => by cases d <;> exact h) trivial ?_
              have HW := Lib.hid (HR.out.next (Ext.drew wr))
              generalize wr.drew = wd at HW ⊢
              have hT : True := trivial
              repeat (refine tree_read (a' := ?_) rfl (by kernel_rfl) (by kernel_rfl) hT (fun x hx K hK => ?_) ?_; rotate_left; · go_wp2; exact hK)
              refine tree_two ?_ ?_
              · have HX1 := HW
                have c4 := (HX1.out.ent.cell 4).trans (ten_bs _ _)
                refine tree_one (by rfl) (fun K hK => ?_)
                go_wp2
                refine hK _ _ (fun _ => True) hT (fun x hx => hx) ?_
                clear hK K
                clear c4
                refine tree_one (by rfl) (fun K hK => ?_)
                have hRd := HW.out.rd
                go_wp2_with (go_at_call 27; refine (N _ hRd).mono ?_; rintro e wn ⟨rfl, hRn, hgn⟩)
                have HNN := Lib.hid (HW.out.num (s' := rowS s5 (q + 1)) hgn hRn (rdN_byts HW.out.byt))
                refine hK _ _ (fun _ => True) hT (fun x hx => hx) ?_
                clear hK K
                clear hRn hgn hRd
                refine tree_one (by rfl) (fun K hK => ?_)
                go_wp2
                refine hK _ _ (fun _ => True) hT (fun x hx => hx) ?_
                clear hK K
                refine tree_one (by rfl) (fun K hK => ?_)
                refine append_ints rfl _ _ rfl (n2.heap.size + 1) v (rowV s5 q) rfl (own_kept HNN.out.row (World.grownBy_alloc wn (.cells #[.int .i64 a] 3) none) (by simp)) (.slice (some ⟨wn.heap.size, 0, none⟩) 1 1) [a] rfl (ints_one wn a 3) ?_ ?_ ?_
                · have hq := HLEN.out
                  simp only [List.length_cons, List.length_nil]
                  omega
                · have hq := HNN.out.ent.lt
                  simp
                  omega
                intro v9 w9 ho9 hg9 hw9
                obtain ⟨av9, nv9, cv9, rfl⟩ : SliceV v9 := (owns_ints rfl ho9).slice
                go_wp2
                refine hK _ _ (fun _ => True) hT (fun x hx => hx) ?_
                clear hK K
                repeat (refine tree_read (a' := ?_) rfl (by kernel_rfl) (by kernel_rfl) hT (fun x hx K hK => ?_) ?_; rotate_left; · go_wp2; exact hK)
                have hE9 := (HNN.out.ent.ext (World.grownBy_alloc wn (.cells #[.int .i64 a] 3) none)).kept hg9 (fun e => by have := (own_lt HNN.out.row _ e.symm).1; omega)
                have c9 := (hE9.cell 4).trans (ten_bs _ _)
                have f9 := hE9.free 4
                have HM := Lib.hid (HNN.out.more ho9 hg9)
                clear hE9
                refine tree_one (by rfl) (fun K hK => ?_)
                go_wp2
                refine hK _ _ (fun _ => True) hT (fun x hx => hx) ?_
                clear hK K
                refine tree_end ?_
                go_wp2
                go_roundw
                case rel => exact ⟨q + 1, _, by omega, by go_num, by rw [rowV, HAA.out]; exact HM.out⟩
                case measure => simp [intOf]; omega
              · refine tree_one (by rfl) (fun K hK => ?_)
                have hRd := HW.out.rd
                go_wp2_with (go_at_call 27; refine (N _ hRd).mono ?_; rintro e wn ⟨rfl, hRn, hgn⟩)
                have HNN := Lib.hid (HW.out.num (s' := rowS s5 (q + 1)) hgn hRn (rdN_byts HW.out.byt))
                refine hK _ _ (fun _ => True) hT (fun x hx => hx) ?_
                clear hK K
                clear hRn hgn hRd
                refine tree_two ?_ ?_
                · have HX1 := HNN
                  have c4 := (HX1.out.ent.cell 4).trans (ten_bs _ _)
                  refine tree_one (by rfl) (fun K hK => ?_)
                  go_wp2
                  refine hK _ _ (fun _ => True) hT (fun x hx => hx) ?_
                  clear hK K
                  clear c4
                  refine tree_one (by rfl) (fun K hK => ?_)
                  go_wp2
                  refine hK _ _ (fun _ => True) hT (fun x hx => hx) ?_
                  clear hK K
                  refine tree_one (by rfl) (fun K hK => ?_)
                  refine append_ints rfl _ _ rfl (n2.heap.size + 1) v (rowV s5 q) rfl (own_kept HNN.out.row (World.grownBy_alloc wn (.cells #[.int .i64 a] 3) none) (by simp)) (.slice (some ⟨wn.heap.size, 0, none⟩) 1 1) [a] rfl (ints_one wn a 3) ?_ ?_ ?_
                  · have hq := HLEN.out
                    simp only [List.length_cons, List.length_nil]
                    omega
                  · have hq := HNN.out.ent.lt
                    simp
                    omega
                  intro v9 w9 ho9 hg9 hw9
                  obtain ⟨av9, nv9, cv9, rfl⟩ : SliceV v9 := (owns_ints rfl ho9).slice
                  go_wp2
                  refine hK _ _ (fun _ => True) hT (fun x hx => hx) ?_
                  clear hK K
                  repeat (refine tree_read (a' := ?_) rfl (by kernel_rfl) (by kernel_rfl) hT (fun x hx K hK => ?_) ?_; rotate_left; · go_wp2; exact hK)
                  have hE9 := (HNN.out.ent.ext (World.grownBy_alloc wn (.cells #[.int .i64 a] 3) none)).kept hg9 (fun e => by have := (own_lt HNN.out.row _ e.symm).1; omega)
                  have c9 := (hE9.cell 4).trans (ten_bs _ _)
                  have f9 := hE9.free 4
                  have HM := Lib.hid (HNN.out.more ho9 hg9)
                  clear hE9
                  refine tree_one (by rfl) (fun K hK => ?_)
                  go_wp2
                  refine hK _ _ (fun _ => True) hT (fun x hx => hx) ?_
                  clear hK K
                  refine tree_end ?_
                  go_wp2
                  go_roundw
                  case rel => exact ⟨q + 1, _, by omega, by go_num, by rw [rowV, HAA.out]; exact HM.out⟩
                  case measure => simp [intOf]; omega
                · refine tree_one (by rfl) (fun K hK => ?_)
                  go_wp2
                  refine hK _ _ (fun _ => True) hT (fun x hx => hx) ?_
                  clear hK K
                  have HX1 := Lib.hid (HNN.out.next (World.grownBy_alloc wn (.cells #[.int .i64 a] 3) none))
                  have c4 := (HX1.out.ent.cell 4).trans (ten_bs _ _)
                  refine tree_one (by rfl) (fun K hK => ?_)
                  go_wp2
                  refine hK _ _ (fun _ => True) hT (fun x hx => hx) ?_
                  clear hK K
                  clear c4
                  refine tree_one (by rfl) (fun K hK => ?_)
                  refine append_ints rfl _ _ rfl (n2.heap.size + 1) v (rowV s5 q) rfl (own_kept HNN.out.row (World.grownBy_alloc wn (.cells #[.int .i64 a] 3) none) (by simp)) (.slice (some ⟨wn.heap.size, 0, none⟩) 1 1) [a] rfl (ints_one wn a 3) ?_ ?_ ?_
                  · have hq := HLEN.out
                    simp only [List.length_cons, List.length_nil]
                    omega
                  · have hq := HNN.out.ent.lt
                    simp
                    omega
                  intro v9 w9 ho9 hg9 hw9
                  obtain ⟨av9, nv9, cv9, rfl⟩ : SliceV v9 := (owns_ints rfl ho9).slice
                  go_wp2
                  refine hK _ _ (fun _ => True) hT (fun x hx => hx) ?_
                  clear hK K
                  repeat (refine tree_read (a' := ?_) rfl (by kernel_rfl) (by kernel_rfl) hT (fun x hx K hK => ?_) ?_; rotate_left; · go_wp2; exact hK)
                  have hE9 := (HNN.out.ent.ext (World.grownBy_alloc wn (.cells #[.int .i64 a] 3) none)).kept hg9 (fun e => by have := (own_lt HNN.out.row _ e.symm).1; omega)
                  have c9 := (hE9.cell 4).trans (ten_bs _ _)
                  have f9 := hE9.free 4
                  have HM := Lib.hid (HNN.out.more ho9 hg9)
                  clear hE9
                  refine tree_one (by rfl) (fun K hK => ?_)
                  go_wp2
                  refine hK _ _ (fun _ => True) hT (fun x hx => hx) ?_
                  clear hK K
                  refine tree_end ?_
                  go_wp2
                  go_roundw
                  case rel => exact ⟨q + 1, _, by omega, by go_num, by rw [rowV, HAA.out]; exact HM.out⟩
                  case measure => simp [intOf]; omega
            · have he1 : (er1 == 0) = false := by simpa using he0
              have HFIN := Lib.hid (show rowS s5 m = rowS s5 q by
                have h := rowS_err (s := s5) (q := q) (by rw [HER.out]; exact he0) (m - q)
                rwa [show q + (m - q) = m by omega] at h)
              have HNE := Lib.hid he0
              have he := hS.ent
              clear hS he0
              have HP := Lib.hid (HS.out.num (s' := rowS s5 q) HR.out.ext HR.out.rd HR.out.byt)
              have hled := HP.out.led
              have hsv : SliceV v := (owns_ints rfl HR.out.row).slice
              go_wp2_with (first
                | (refine ten_load _ rfl rfl he rfl ?_)
                | (refine ten_store_in _ _ rfl hlt rfl rfl hled hsv rfl ?_; intro w7 hb7 hg7 hs7; clear hled))
              go_roundw
              case rel =>
                have hQ := HP.out.put hb7 hg7 hs7 HR.out.row (by have := HR.out.oE; have := HS.out.led.lt; omega)
                exact ⟨k + 1, _, _, by omega, by go_num, by rw [ledS, HEQ.out, HES.out, HFIN.out]; exact hQ, by rw [ledS, HEQ.out, HES.out, HFIN.out, HER.out]; exact fun h => absurd h HNE.out⟩
              case measure => simp [intOf]; omega
          · obtain rfl : q = m := by omega
            have he := hS.ent
            have HR := Lib.hid hS
            clear hS
            have HP := Lib.hid (HS.out.num (s' := rowS s5 q) HR.out.ext HR.out.rd HR.out.byt)
            have hled := HP.out.led
            have hsv : SliceV v := (owns_ints rfl HR.out.row).slice
            go_wp2_with (first
              | (refine ten_load _ rfl rfl he rfl ?_)
              | (refine ten_store_in _ _ rfl hlt rfl rfl hled hsv rfl ?_; intro w7 hb7 hg7 hs7; clear hled))
            go_roundw
            case rel =>
              have hQ := HP.out.put hb7 hg7 hs7 HR.out.row (by have := HR.out.oE; have := HS.out.led.lt; omega)
              refine ⟨k + 1, _, _, by omega, by go_num, by rw [ledS, HEQ.out, HES.out]; exact hQ, ?_⟩
              rw [ledS, HEQ.out]
              intro h
              rw [HAK.out (entS_ok h), ← HX.out, ← HEQ.out]
              exact ledK_next bs k
            case measure => simp [intOf]; omega
    · obtain rfl : k = 4 := by omega
      have DN := refDone_s (e1 := d) hS.rd (by have := HD.out; unfold ledE at this; rw [hs] at this; exact this)
      have HDE := Lib.hid (show d = 0 → s.2 = 0 by
        intro h
        have h2 := HD.out
        unfold ledE doneE at h2
        rw [hs, h] at h2
        split at h2
        · omega
        · exact h2)
      clear hS hs hAK
      by_cases h0 : d = 0
      · subst h0
        obtain rfl := HAK.out (HDE.out rfl)
        obtain ⟨A, hA⟩ : ∃ A, ledK bs 4 = A := ⟨_, rfl⟩
        rw [hA] at HS
        have CK := fun wx (h : LedIs wx A V) => right10_is A V n p wx h (hA ▸ HG.out 4) HN.out.1 HN.out.2 (show rightL A n p = r from hA ▸ HR0.out)
        have HLR := Lib.hid (show ledR bs = A from hA)
        clear hA HAK
        cases r
        · obtain ⟨rfl, rfl⟩ := HNO.out (by simp)
          go_wp2_with (first
            | (go_at_call 29; refine DN.mono ?_; rintro e w8 ⟨rfl, hR8, hg8⟩; have HP := Lib.hid (HS.out.num (s' := (s.1, 0)) hg8 hR8 HS.out.byt); have hled := HP.out.led; clear hg8 hR8)
            | (refine led_load _ rfl rfl hled rfl ?_)
            | (go_at_call 17; refine (CK _ HP.out.is).mono ?_; rintro e w9 ⟨rfl, hE9⟩; have HQ := Lib.hid (HP.out.next hE9); have hres := HQ.out.res; clear hE9)
            | (refine led_store (L := noLed) (V := fun _ => nilS) _ _ rfl rfl rfl hres rfl (fun _ _ => ⟨_, _, _, rfl⟩) rfl ?_; intro w10 hb10 hg10 hs10))
          refine bodyPost_ret (v := .tuple #[.agg (ledC noLed fun _ => nilS), .int .i64 2]) (results_cell_row2 (fn := Tryz.f10) rfl rfl rfl hb10 Tryz.underlying36 rfl Tryz.sizeLed) rfl ?_
          exact HQ.out.none hg10 2
        · obtain ⟨hL2, rfl⟩ := HYES.out ⟨rfl, rfl⟩
          rw [HLR.out] at hL2
          subst hL2
          go_wp2_with (first
            | (go_at_call 29; refine DN.mono ?_; rintro e w8 ⟨rfl, hR8, hg8⟩; have HP := Lib.hid (HS.out.num (s' := (s.1, 0)) hg8 hR8 HS.out.byt); have hled := HP.out.led; clear hg8 hR8)
            | (refine led_load _ rfl rfl hlq rfl ?_)
            | (refine led_load _ rfl rfl hled rfl ?_)
            | (go_at_call 17; refine (CK _ HP.out.is).mono ?_; rintro e w9 ⟨rfl, hE9⟩; have HQ := Lib.hid (HP.out.next hE9); have hres := HQ.out.res; have hlq := HQ.out.led; have hsl := HQ.out.is.slices; clear hE9 hled)
            | (refine led_store (L := L2) (V := V) _ _ rfl rfl rfl hres rfl hsl rfl ?_; intro w10 hb10 hg10 hs10))
          refine bodyPost_ret (v := .tuple #[.agg (ledC L2 V), .int .i64 0]) (results_cell_row2 (fn := Tryz.f10) rfl rfl rfl hb10 Tryz.underlying36 rfl Tryz.sizeLed) rfl ?_
          have hdn := HQ.out.done hg10
          exact ⟨V, rfl, hdn.1, hdn.2.1, hdn.2.2⟩
      · have h0b : (d != 0) = true := by simpa using h0
        obtain ⟨rfl, rfl⟩ := HNO.out (fun h => h0 h.1)
        go_wp2_with (first
          | (go_at_call 29; refine DN.mono ?_; rintro e w8 ⟨rfl, hR8, hg8⟩; have HP := Lib.hid (HS.out.num (s' := (s.1, d)) hg8 hR8 HS.out.byt); have hres := HP.out.res; clear hg8 hR8)
          | (refine led_store (L := noLed) (V := fun _ => nilS) _ _ rfl rfl rfl hres rfl (fun _ _ => ⟨_, _, _, rfl⟩) rfl ?_; intro w10 hb10 hg10 hs10))
        refine bodyPost_ret (v := .tuple #[.agg (ledC noLed fun _ => nilS), .int .i64 2]) (results_cell_row2 (fn := Tryz.f10) rfl rfl rfl hb10 Tryz.underlying36 rfl Tryz.sizeLed) rfl ?_
        exact HP.out.none hg10 2

theorem refSnapParse_any (v : Value) (xs : List Int) (n p : Int) (w : World) (hb : Bts w v xs) (hB : Byts xs) (hm : xs.length ≤ 140737488351232) (hlt : ∀ k, v.ownBlock = some k → k < w.heap.size) (hn0 : -9223372036854775000 ≤ n) (hn9 : n ≤ 9223372036854775807) :
    Calls Tryz.prog 10 #[v, .int .i64 n, .int .i64 p] w (ChangeP w (snpL xs n p, snpE xs n p)) := by
  by_cases h : whE xs 76 = 0
  · have e : snpE xs n p = if ledE (whB xs 76) = 0 ∧ rightL (ledR (whB xs 76)) n p = true then 0 else 2 := by unfold snpE; rw [if_pos h]
    refine refSnapParse_is v xs _ n p w hb hB hm hlt h rfl hn0 hn9 _ rfl _ rfl _ _ (fun hc => ?_) (fun hc => ?_)
    · have e0 : snpE xs n p = 0 := by rw [e, if_pos hc]
      exact ⟨by unfold snpL; rw [if_pos e0], e0⟩
    · have e0 : snpE xs n p = 2 := by rw [e, if_neg hc]
      exact ⟨by unfold snpL; rw [e0]; rfl, e0⟩
  · have e : snpE xs n p = whE xs 76 := by unfold snpE; rw [if_neg h]
    have e2 : snpL xs n p = noLed := by unfold snpL; rw [e, if_neg h]
    rw [e, e2]
    exact refSnapParse_not v xs n p w hb hB hm hlt h

end Go.Proofs.YteionppcjgggiaaGreat
