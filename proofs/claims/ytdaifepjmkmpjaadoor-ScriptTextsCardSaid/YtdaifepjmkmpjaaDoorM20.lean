/-
  Texts put together: SpN ScU SpO.
-/
import Derived.Test.YtdaifepjmkmpjaaDoorM19
import Derived.Test.YtdaifepjmkmpjaaDoorM12
import Derived.Test.YtdaifepjmkmpjaaDoorM05
/-
  Package script: line.
-/
namespace Go.Proofs.YtdaifepjmkmpjaaDoor
set_option linter.unusedVariables false
set_option linter.unusedSimpArgs false
set_option linter.unusedVariables false
set_option linter.unusedSimpArgs false
set_option maxRecDepth 100000
open Go.RowKit

/-- What line tells and leaves. -/
def LinP (w0 : World) (pb mb i : Nat) (p : PSt) (l : List UInt8) (e : Ending) (w' : World) : Prop := ∃ ok, e = .returned (.bool ok) ∧ w0.grownBy w' none ∧ ((ok = true ∧ ∃ V vm sv rk q, lineP i l p = some q ∧ PaM w0 w' pb mb V vm sv rk (i + 1) q) ∨ (ok = false ∧ lineP i l p = none))
theorem beq_dec (a b : List UInt8) : (a == b) = decide (a = b) := by rw [Bool.eq_iff_iff]; simp
theorem headS_not {l : List UInt8} {p : PSt} (h : ∀ c d b q : Int, valsOf (splitL 32 l).tail ≠ some [c, d, b, q]) : lineP 0 l p = none := by
  unfold lineP headS
  rw [if_pos rfl]
  split
  · rename_i e; exact absurd e (h _ _ _ _)
  · rfl
theorem faultP_not {l : List UInt8} {p : PSt} (h : ∀ n r, valsOf (splitL 32 l).tail = some (n :: r) → r ≠ [] → ¬ (p.last < n ∧ n ≤ 3 ∧ p.s.m = [] ∧ p.st = [])) : faultP l p = none := by
  unfold faultP
  split
  · rename_i n r e
    rw [if_neg]
    rintro ⟨h1, h2⟩
    exact h n r e h1 h2
  · rfl
theorem no_step {l : List UInt8} (h : ∀ j, j < 11 → (cutL 32 l).1 ≠ nmL j) : (stepR l).2 = false := by
  rw [stepR_none (fun x hx => h _ (read_only hx).1 (read_only hx).2.1)]
theorem rk_next {rk : Int} {i : Nat} {p : PSt} (h : rk = rkOf p) (h1 : -1 ≤ p.last) (h2 : p.last ≤ 3) : RkOk rk (i + 1) p := ⟨fun h => by omega, fun _ => h, h1, h2⟩
theorem PaM.gr {w0 w w' : World} {pb mb : Nat} {V : Nat → Value} {vm sv : Value} {rk : Int} {i : Nat} {p : PSt} (h : PaM w0 w pb mb V vm sv rk i p) (hg : w.grownBy w' (some pb)) : w0.grownBy w' none := grown_fill h.r.g hg h.lo
theorem nm_array : ∀ j, j < 11 → arrayS ≠ nmL j := by decide
theorem nm_fault : ∀ j, j < 11 → faultS ≠ nmL j := by decide
theorem nm_marked : ∀ j, j < 11 → markedS ≠ nmL j := by decide
set_option maxHeartbeats 6400000 in
theorem line_pc (w0 w : World) (pb mb : Nat) (V : Nat → Value) (vm sv : Value) (rk : Int) (i : Nat) (p : PSt) (l : List UInt8) (hL : Lib25 w0) (hP : PaM w0 w pb mb V vm sv rk i p) (hp : p.st.length < 4096) (hl : l.length ≤ 200000) :
    Calls Tryd.prog 33 #[.pointer (some ⟨pb, 0, none⟩), .string (bs l)] w (LinP w0 pb mb i p l) := by
  have HL := Lib.hid hL
  have HP := Lib.hid hP
  have hcl := cutL_len 32 l
  have C := fun wx h => cut_c l 32 ⟨#[32]⟩ rfl wx h (by omega)
  have hhd := split_headC l
  have hvt := vals_tail l
  obtain ⟨q1, hq1⟩ : ∃ q, (cutL 32 l).1 = q := ⟨_, rfl⟩
  obtain ⟨q2, hq2⟩ : ∃ q, (cutL 32 l).2.1 = q := ⟨_, rfl⟩
  obtain ⟨q3, hq3⟩ : ∃ q, (cutL 32 l).2.2 = q := ⟨_, rfl⟩
  rw [hq1, hq2, hq3] at C
  rw [hq1, hq2] at hcl
  rw [hq1] at hhd
  rw [hq2] at hvt
  have HC := Lib.hid C
  have HQ := Lib.hid (And.intro hhd (And.intro hvt hq1))
  have hq2l : q2.length ≤ 200000 := by omega
  clear hL hcl C hhd hvt hq1 hq2 hq3 hP
  go_enter Tryd.func33, Tryd.ntmps33
  go_upto_region 2 with (go_at_call 32; refine (HC.out w (HL.out.ext HP.out.r.g)).mono ?_; rintro e w1 ⟨rfl, hg1⟩; have HP1 := Lib.hid (HP.out.ext hg1); clear hg1)
  have HNO := Lib.hid (show i = 0 → q1 ≠ arrayS → lineP i l p = none from fun hi h => by subst hi; exact headS_word (by rw [HQ.out.1]; exact h))
  have b1 : ((bs q1).toList == [97, 114, 114, 97, 121]) = decide (q1 = arrayS) := by rw [bs_toList]; exact beq_dec q1 arrayS
  have b2 : ((bs q1).toList == [102, 97, 117, 108, 116]) = decide (q1 = faultS) := by rw [bs_toList]; exact beq_dec q1 faultS
  have b3 : ((bs q1).toList == [109, 97, 114, 107, 101, 100]) = decide (q1 = markedS) := by rw [bs_toList]; exact beq_dec q1 markedS
  by_cases ha : q1 = arrayS
  · rw [decide_eq_true ha] at b1
    have HA := Lib.hid ha
    clear b2 b3 HNO ha
    have CM := Lib.hid (comes_c w1 pb _ rk 1 HP1.out.b rfl)
    by_cases hi : i = 0
    · have HI := Lib.hid hi
      have HZ := Lib.hid (HP1.out.k.z hi)
      have HOC := Lib.hid (show comB rk 1 from by rw [HZ.out.1]; exact (com_zero 1).2 rfl)
      clear hi
      go_wp2_with (first
        | (go_at_call 43; refine GE.out.mono ?_; rintro e w3 ⟨ok, rfl, hg3, hok⟩; have HG3 := Lib.hid hg3; have HOK := Lib.hid hok; clear hg3 hok)
        | (go_at_call 42; refine CM.out.mono ?_; rintro e w2 ⟨ok, rfl, hg2, hcm⟩; obtain ⟨rfl, hb2⟩ : ok = true ∧ Blk w2 pb 68 (parC p.s V vm sv 1 mb) := (by rcases hcm with ⟨h, _, h2⟩ | ⟨_, h⟩; exact ⟨h, h2⟩; exact absurd HOC.out h); have HR2 := Lib.hid (HP1.out.r.at HP1.out.b HP1.out.lo hg2); have HB2 := Lib.hid hb2; have GE := Lib.hid (geometry_c w2 pb _ q2 (fun wx hx => HL.out.ext (grown_fill HR2.out.g hx HP1.out.lo)) hb2 rfl (by omega)); clear hg2 hcm hb2))
      go_ret
      have hr3 := HR2.out.at HB2.out HP1.out.lo HG3.out
      refine ⟨ok, rfl, hr3.g, ?_⟩
      have hi := HI.out
      subst hi
      rcases HOK.out with ⟨h, c, d, b, q, hv, hb⟩ | ⟨h, hv⟩
      · rw [parC_geo] at hb
        refine .inl ⟨h, V, vm, sv, 1, _, headS_yes (by rw [HQ.out.2.1]; exact hv) (by rw [HQ.out.1]; exact HA.out), hb, ⟨hr3.f, hr3.m, hr3.t, hr3.k, hr3.g⟩, HP1.out.lo, rk_next ?_ ?_ ?_⟩
        · rw [HZ.out.2]; rfl
        · rw [HZ.out.2]; show (-1 : Int) ≤ -1; omega
        · rw [HZ.out.2]; show (-1 : Int) ≤ 3; omega
      · exact .inr ⟨h, headS_not (fun c d b q => by rw [HQ.out.2.1]; exact hv c d b q)⟩
    · have HI := Lib.hid (show 0 < i from by omega)
      have HNC := Lib.hid (HP1.out.k.com HI.out).2.2.2
      clear hi
      go_wp2_with (first
        | (go_at_call 42; refine CM.out.mono ?_; rintro e w2 ⟨ok, rfl, hg2, hcm⟩; obtain rfl : ok = false := (by rcases hcm with ⟨_, h, _⟩ | ⟨h, _⟩; exact absurd h HNC.out; exact h); have HG2 := Lib.hid hg2; clear hg2 hcm))
      go_ret
      exact ⟨false, rfl, HP1.out.gr HG2.out, .inr ⟨rfl, by rw [step_is HI.out (by rw [HQ.out.1, HA.out]; decide) (by rw [HQ.out.1, HA.out]; decide), stepP_no (no_step (fun j hj => by rw [HQ.out.2.2, HA.out]; exact nm_array j hj))]⟩⟩
  · rw [decide_eq_false ha] at b1
    have HNA := Lib.hid ha
    clear ha
    by_cases hf : q1 = faultS
    · rw [decide_eq_true hf] at b2
      have HF := Lib.hid hf
      clear b3 hf
      have FA := Lib.hid (faults_c w1 pb _ rk q2 (fun wx hx => HL.out.ext (HP1.out.gr hx)) HP1.out.b rfl rfl (by omega))
      go_wp2_with (go_at_call 44; refine FA.out.mono ?_; rintro e w2 ⟨ok, rfl, hg2, hok⟩; have HG2 := Lib.hid hg2; have HOK := Lib.hid hok; clear hg2 hok)
      go_ret
      have hr2 := HP1.out.r.at HP1.out.b HP1.out.lo HG2.out
      refine ⟨ok, rfl, hr2.g, ?_⟩
      rcases HOK.out with ⟨h, n, r, v, h1, h2, h3, h4, h5, h6⟩ | ⟨h, hv⟩
      · have hi : 0 < i := by
          rcases Nat.eq_zero_or_pos i with h0 | h0
          · rw [(HP1.out.k.z h0).1, com_zero] at h4; omega
          · exact h0
        have hc := ((HP1.out.k.com hi).1 n (by omega) (by omega)).1 h4
        have hvv := (vals_two q2 n r).2 ⟨h1, h2⟩
        rw [parC_rank, parC_fault _ _ _ _ _ _ _ n h3 r] at h6
        have hfy := faultP_yes (line := l) (p := p) (by rw [HQ.out.2.1]; exact hvv.1) ⟨hvv.2, hc.1, by omega, hc.2.1, hc.2.2⟩
        refine .inl ⟨h, (fun t => if t = n then v else V t), vm, sv, 2 + n, { p with s := { p.s with f := updF25 p.s.f (n : Int).toNat r }, last := n }, by rw [fault_is hi (by rw [HQ.out.1, HF.out]), hfy], h6, ⟨fun t ht => ?_, hr2.m, hr2.t, hr2.k, hr2.g⟩, HP1.out.lo, rk_next ?_ (by show (-1 : Int) ≤ n; omega) (by show (n : Int) ≤ 3; omega)⟩
        · show OwnI25 _ _ (if t = n then v else V t) (updF25 p.s.f (n : Int).toNat r t)
          rw [Int.toNat_natCast]
          unfold updF25
          by_cases e : t = n
          · rw [if_pos e, if_pos e]; exact some_le h5 HP1.out.r.g.size
          · rw [if_neg e, if_neg e]; exact hr2.f t ht
        · unfold rkOf
          simp only [hc.2.1, hc.2.2, ne_eq, not_true, if_false]
          rw [if_pos (by omega)]
      · refine .inr ⟨h, ?_⟩
        rcases Nat.eq_zero_or_pos i with h0 | h0
        · exact HNO.out h0 HNA.out
        · rw [fault_is h0 (by rw [HQ.out.1, HF.out])]
          refine faultP_not fun n r h1 h2 h3 => ?_
          rw [HQ.out.2.1] at h1
          have h4 := (vals_two q2 n r).1 ⟨h1, h2⟩
          have h5 := HP1.out.k.lo
          exact hv n r h4.1 h4.2 (by omega) (by omega) (((HP1.out.k.com h0).1 n (by omega) (by omega)).2 ⟨h3.1, h3.2.2⟩)
    · rw [decide_eq_false hf] at b2
      have HNF := Lib.hid hf
      clear hf
      by_cases hm : q1 = markedS
      · rw [decide_eq_true hm] at b3
        have HMK := Lib.hid hm
        clear hm
        have LS := Lib.hid (listOf_c q2 w1 (HL.out.ext HP1.out.r.g) (by omega))
        go_upto_region 10 with (go_at_call 45; refine LS.out.mono ?_; rintro e w2 ⟨v, okl, xs, rfl, hov, hok, hg2⟩; have HOV := Lib.hid hov; have HOK := Lib.hid hok; have HP2 := Lib.hid (HP1.out.ext hg2); have hb2 := HP1.out.b.ext hg2; have c8 : w2.cell? ⟨pb, 8, none⟩ = some vm := hb2.cell 8; have f8 : w2.frozen? ⟨pb, 8, none⟩ = false := hb2.free 8; have HG2 := Lib.hid hg2; obtain ⟨ao, ac, rfl⟩ := owns_shape25 hov; clear hov hok hg2 hb2)
        have hb3 := HP2.out.b.set 8 (.slice ao xs.length ac)
        rw [parC_marked _ _ _ _ _ _ _ xs] at hb3
        have hg3 := grown_set w2 ⟨pb, 8, none⟩ (.slice ao xs.length ac)
        have HR3 := Lib.hid (HP2.out.r.at HP2.out.b HP2.out.lo hg3)
        have HOV3 := Lib.hid (some_le (own_kept25 HOV.out hg3 (ne_some (own_ne25 HOV.out HP2.out.b (by decide)))) HP1.out.r.g.size)
        obtain ⟨w3, hw3⟩ : ∃ z, w2.setCell ⟨pb, 8, none⟩ (.slice ao xs.length ac) = z := ⟨_, rfl⟩
        rw [hw3] at hb3 HR3 HOV3 ⊢
        have HB3 := Lib.hid hb3
        have CM := Lib.hid (comes_c w3 pb _ rk 6 hb3 rfl)
        clear hb3 hg3 hw3 c8 f8
        have HNO2 := Lib.hid (show ¬ (0 < i ∧ comB rk 6 ∧ okl = true) → lineP i l p = none from fun h => by
          rcases Nat.eq_zero_or_pos i with h0 | h0
          · exact HNO.out h0 HNA.out
          · rw [marked_is h0 (by rw [HQ.out.1, HMK.out])]
            rcases HOK.out with ⟨h1, h2⟩ | ⟨h1, h2⟩
            · exact markedP_no (by rw [HQ.out.2.1]; exact h2) (fun hc => h ⟨h0, (HP1.out.k.com h0).2.1.2 hc, h1⟩)
            · exact markedP_none (by rw [HQ.out.2.1]; exact h2))
        by_cases hcb : comB rk 6
        · have HCB := Lib.hid hcb
          clear hcb
          go_wp2_with (go_at_call 42; refine CM.out.mono ?_; rintro e w4 ⟨ok, rfl, hg4, hcm⟩; obtain ⟨rfl, hb4⟩ : ok = true ∧ Blk w4 pb 68 (parC { p.s with m := xs } V (.slice ao xs.length ac) sv 6 mb) := (by rcases hcm with ⟨h, _, h2⟩ | ⟨_, h⟩; exact ⟨h, h2⟩; exact absurd HCB.out h); have HG4 := Lib.hid hg4; have HB4 := Lib.hid hb4; clear hg4 hcm hb4)
          go_ret
          have hr4 := HR3.out.at HB3.out HP2.out.lo HG4.out
          have ho4 := own_kept25 HOV3.out HG4.out (ne_some (own_ne25 HOV3.out HB3.out (by decide)))
          refine ⟨okl, rfl, hr4.g, ?_⟩
          have hi : 0 < i := by
            rcases Nat.eq_zero_or_pos i with h0 | h0
            · have h2 := HCB.out; rw [(HP1.out.k.z h0).1, com_zero] at h2; omega
            · exact h0
          have hc := (HP1.out.k.com hi).2.1.1 HCB.out
          rcases HOK.out with ⟨h4, h5⟩ | ⟨h4, h5⟩
          · refine .inl ⟨h4, V, (.slice ao xs.length ac), sv, 6, { p with s := { p.s with m := xs } }, by rw [marked_is hi (by rw [HQ.out.1, HMK.out]), markedP_yes (by rw [HQ.out.2.1]; exact h5) hc], HB4.out, ⟨hr4.f, ho4, hr4.t, hr4.k, hr4.g⟩, HP2.out.lo, rk_next ?_ HP1.out.k.lo HP1.out.k.hi⟩
            unfold rkOf
            have hx := (vals_some.1 h5).2
            simp only [hc.2, ne_eq, not_true, if_false]
            rw [if_pos hx]
          · exact .inr ⟨h4, HNO2.out (fun h => by rw [h4] at h; cases h.2.2)⟩
        · have HCB := Lib.hid hcb
          clear hcb
          go_wp2_with (go_at_call 42; refine CM.out.mono ?_; rintro e w4 ⟨ok, rfl, hg4, hcm⟩; obtain rfl : ok = false := (by rcases hcm with ⟨_, h, _⟩ | ⟨h, _⟩; exact absurd h HCB.out; exact h); have HG4 := Lib.hid hg4; clear hg4 hcm)
          go_ret
          have hr4 := HR3.out.at HB3.out HP2.out.lo HG4.out
          exact ⟨false, rfl, hr4.g, .inr ⟨rfl, HNO2.out (fun h => HCB.out h.2.1)⟩⟩
      · rw [decide_eq_false hm] at b3
        have HNM := Lib.hid hm
        clear hm
        have ST := Lib.hid (step_c w0 w1 pb mb V vm sv rk p l HL.out HP1.out.b HP1.out.r HP1.out.lo hp hl)
        go_wp2_with (go_at_call 46; refine ST.out.mono ?_; rintro e w2 ⟨ok, rfl, hg2, hok⟩; have HG2 := Lib.hid hg2; have HOK := Lib.hid hok; clear hg2 hok)
        go_ret
        refine ⟨ok, rfl, HG2.out, ?_⟩
        rcases HOK.out with ⟨h, x, sv', h1, h2, h3, h4⟩ | ⟨h, hv⟩
        · have hi : 0 < i := by
            rcases Nat.eq_zero_or_pos i with h0 | h0
            · rw [(HP1.out.k.z h0).1, com_zero] at h2; omega
            · exact h0
          have hy := (stepP_yes (line := l) (p := p) (by rw [h1])).1
          rw [h1] at hy
          refine .inl ⟨h, V, vm, sv', 7, { p with st := p.st ++ [x] }, by rw [step_is hi (by rw [HQ.out.1]; exact HNF.out) (by rw [HQ.out.1]; exact HNM.out), hy], h3, h4, HP1.out.lo, rk_next ?_ HP1.out.k.lo HP1.out.k.hi⟩
          unfold rkOf
          rw [if_pos (by simp)]
        · refine .inr ⟨h, ?_⟩
          rcases Nat.eq_zero_or_pos i with h0 | h0
          · exact HNO.out h0 HNA.out
          · rw [step_is h0 (by rw [HQ.out.1]; exact HNF.out) (by rw [HQ.out.1]; exact HNM.out)]
            refine stepP_no ?_
            rw [← Bool.not_eq_true]
            exact fun hs => hv hs (HP1.out.k.com h0).2.2.1
end Go.Proofs.YtdaifepjmkmpjaaDoor

/-
  Layer 25's law: what Line, Step, Parse, Print, Setup answer (their contracts); ScriptReads, ScriptLines over them.
-/
namespace Go.Proofs.YtdaifepjmkmpjaaDoor
set_option linter.unusedVariables false
set_option linter.unusedSimpArgs false
set_option linter.unusedVariables false
set_option linter.unusedSimpArgs false
set_option maxRecDepth 100000
open Go.RowKit

/-- What a text is parsed to, in memory. -/
def ParP (l : List UInt8) (w : World) (e : Ending) (w' : World) : Prop := ∃ V vm v, e = .returned (.tuple #[.agg (stuC (parseL l).1 V vm), v, .int .i64 (parseL l).2.2]) ∧ StuIs w' (parseL l).1 V vm ∧ (∃ a cap, v = .slice a (parseL l).2.1.length cap ∧ StpR w' a (parseL l).2.1) ∧ w.grownBy w' none
def LinC25 : Prop := ∀ (w : World), Lib25 w → ∀ (x : Stp), x.rng → x.d.length ≤ 1000 → Calls Tryd.prog 8 #[.agg (stpC x)] w (LineA x w)
def StpC25 : Prop := ∀ (w : World), Lib25 w → ∀ (s : ByteArray), s.size ≤ 40000 → Calls Tryd.prog 10 #[.string s] w (StepA s.data.toList w)
def ParC25 : Prop := ∀ (w : World), Lib25 w → ∀ (s : ByteArray), s.size ≤ 200000 → (splitL 10 s.data.toList).length ≤ 4000 → Calls Tryd.prog 12 #[.string s] w (ParP s.data.toList w)
def PriC25 : Prop := ∀ (w : World), Lib25 w → ∀ (s : Stu) (V : Nat → Value) (vm : Value) (a : Option Addr) (cap : Nat) (l : List Stp), StuIs w s V vm → s.rng → s.few → StpR w a l → (∀ x ∈ l, x.rng) → (∀ x ∈ l, x.d.length ≤ 200) → l.length ≤ 100 →
  Calls Tryd.prog 16 #[.agg (stuC s V vm), .slice a l.length cap] w (PrintA s l w)
def Fix25 : Prop := ∀ w : World, Lib25 w → Calls Tryd.prog 7 #[] w fun e w' => e = .returned (.bool true) ∧ w.grownBy w' none

theorem stepA_size {l : List UInt8} (h : l.length ≤ 40000) : ((stepR l).2 = true → StepIs l (stepR l).1) ∧ ((stepR l).2 = false → (stepR l).1 = noStp ∧ ∀ x, ¬ StepIs l x) := by
  unfold stepR
  constructor
  · intro h1
    split at h1
    · rename_i x e; exact stepOf_is e
    · cases h1
  · intro h1
    split at h1
    · cases h1
    · rename_i e
      refine ⟨rfl, fun x hx => ?_⟩
      rw [stepOf_some hx] at e; cases e
theorem stp_eql (x y : Stp) (w : World) : (binOp .eql 25 (.agg (stpC x)) (.agg (stpC y))).run Tryd.prog w = .ok (.bool (decide (x = y))) w := by
  obtain ⟨k, t, o, a, b, op, pl, d⟩ := x
  obtain ⟨k', t', o', a', b', op', pl', d'⟩ := y
  have hE : ∀ W : World, (binOp .eql 25 (.agg (stpC ⟨k, t, o, a, b, op, pl, d⟩)) (.agg (stpC ⟨k', t', o', a', b', op', pl', d'⟩))).run Tryd.prog W = .ok (.bool (k == k' && t == t' && o == o' && a == a' && b == b' && op == op' && pl == pl' && d == d')) W := fun W => by
    unfold stpC
    simp only
    cases h0 : k == k'
    · simp [go_sem, bs_toList, h0]
    cases h1 : t == t'
    · simp [go_sem, bs_toList, h0, h1]
    cases h2 : o == o'
    · simp [go_sem, bs_toList, h0, h1, h2]
    cases h3 : a == a'
    · simp [go_sem, bs_toList, h0, h1, h2, h3]
    cases h4 : b == b'
    · simp [go_sem, bs_toList, h0, h1, h2, h3, h4]
    cases h5 : op == op'
    · simp [go_sem, bs_toList, h0, h1, h2, h3, h4, h5]
    cases h6 : pl == pl'
    · simp [go_sem, bs_toList, h0, h1, h2, h3, h4, h5, h6]
    cases h7 : d == d'
    · simp [go_sem, bs_toList, h0, h1, h2, h3, h4, h5, h6, h7]
    simp [go_sem, bs_toList, h0, h1, h2, h3, h4, h5, h6, h7]
  rw [hE]
  congr 2
  rw [Bool.eq_iff_iff]
  simp [Stp.mk.injEq, and_assoc]
theorem stp_load_w {ops : Array Oper} {rest : List Oper} {o : Oper} {a : Act} {w : World} {Q : Exit → Act → World → Prop} (hwt : Region.wanted o (yielded ops a.tmps) = true) (x : Operand) (ho : o.op = .load 25 x) {b off : Nat} (hx : a.eval x = .pointer (some ⟨b, off, none⟩)) {y : Stp} (hr : w.rangeAt b off (stpC y).toList)
    (h : wpList Tryd.prog ops Q rest (a.put o.dst (.agg (stpC y))) w) : wpList Tryd.prog ops Q (o :: rest) a w := by
  refine wpList_want hwt fun K hK => wp_load_mid 25 x ho b off hx _ _ hr Tryd.underlying25 rfl (by rw [Tryd.sizeStp25]; rfl) (hK _ _ (by simpa using h))
theorem stp_eql_op {ops : Array Oper} {rest : List Oper} {o : Oper} {a : Act} {w : World} {Q : Exit → Act → World → Prop} (hwt : Region.wanted o (yielded ops a.tmps) = true) (x y : Operand) (ho : o.op = .binOp .eql 25 x y 25) {u v : Stp} {r : Bool} (hr : decide (u = v) = r) (hx : a.eval x = .agg (stpC u)) (hy : a.eval y = .agg (stpC v))
    (h : wpList Tryd.prog ops Q rest (a.put o.dst (.bool r)) w) : wpList Tryd.prog ops Q (o :: rest) a w := by
  subst hr
  refine wpList_want hwt fun K hK => ?_
  have hm : Tryd.prog.eqGuardType Tryd.prog.depth 25 = false := by kernel_rfl
  unfold Oper.wp execOp
  simp only [ho, hx, hy, Sem.run_bind, run_eqGuard_agg w .eql 25 x y (stpC u) (stpC v) hm, stp_eql, Result.andThen_ok, Sem.run_pure]
  exact hK _ _ h

set_option maxHeartbeats 1600000 in
theorem scriptReads_any (SC : StpC25) (FC : Fix25) (w : World) (hLb : Lib25 w) (s : ByteArray) (hs : s.size ≤ 9223372036854775807) :
    Calls Tryd.prog 4 #[.string s] w fun e w' => e = .returned (.bool true) ∧ w.grownBy w' none := by
  have HSC := Lib.hid SC
  have HLB := Lib.hid hLb
  have HFC := Lib.hid FC
  have HSZ := Lib.hid hs
  clear SC FC hs hLb
  go_enter Tryd.func4, Tryd.ntmps4
  by_cases h2 : 200 < s.size
  · go_wp2_with (first | (go_at_call 7; refine (HFC.out _ HLB.out).mono ?_; rintro e w1 ⟨rfl, hg1⟩))
    go_ret
    exact ⟨rfl, hg1⟩
  · have hb : decide ((200 : Int) < (s.size : Int)) = false := by rw [decide_eq_false_iff_not]; omega
    obtain ⟨y, hy⟩ : ∃ y, (stepR s.data.toList).1 = y := ⟨_, rfl⟩
    obtain ⟨bb, hbb⟩ : ∃ b, (stepR s.data.toList).2 = b := ⟨_, rfl⟩
    have HY := Lib.hid (And.intro hy hbb)
    have HL := Lib.hid h2
    clear hy hbb
    go_wp2_with (first
      | (go_at_call 7; refine (HFC.out _ HLB.out).mono ?_; rintro e w1 ⟨rfl, hg1⟩; have HG1 := Lib.hid hg1; clear hg1)
      | (go_at_call 11; refine (step25 _ s (by have := HL.out; omega)).mono ?_; rintro e w4 ⟨rfl, hg4⟩; rw [HY.out.1, HY.out.2]; have hBn4 := Blk.new w4 25 (stpC noStp); have HB4 := Lib.hid (HB3.out.ext hg4); have HG4 := Lib.hid (ext_trans HG3.out hg4); clear hg4)
      | (go_at_call 10; refine (HSC.out _ (HLB.out.ext HG1.out) s (by have := HL.out; omega)).mono ?_; rintro e w2 ⟨rfl, hg2⟩; rw [HY.out.1, HY.out.2]; have hBn := Blk.new w2 25 (stpC noStp); have HG2 := Lib.hid (ext_trans HG1.out hg2); clear hg2)
      | (refine stp_store (z := y) rfl _ _ rfl rfl rfl hBn4 rfl ?_; intro w5 hb5 hg5 hs5; have hE5 := new24 (World.grownBy_alloc w4 _ none) hg5 (Nat.le_refl _); have r5 := hb5.range25; have r3 := (HB4.out.ext hE5).range25; have HG5 := Lib.hid (ext_trans HG4.out hE5); clear hb5 hg5 hs5 hBn4 hE5)
      | (refine stp_store (z := y) rfl _ _ rfl rfl rfl hBn rfl ?_; intro w3 hb3 hg3 hs3; have HB3 := Lib.hid hb3; have HG3 := Lib.hid (ext_trans HG2.out (new24 (World.grownBy_alloc w2 _ none) hg3 (Nat.le_refl _))); clear hb3 hg3 hs3 hBn)
      | (refine stp_eql_op (u := y) (v := y) (r := true) rfl _ _ rfl (by simp) rfl rfl ?_)
      | (refine stp_load rfl _ rfl rfl r5 ?_)
      | (refine stp_load rfl _ rfl rfl r3 ?_))
    go_ret
    exact ⟨by simp, HG5.out⟩

set_option maxHeartbeats 1600000 in
theorem scriptLines_any (LC : LinC25) (SC : StpC25) (FC : Fix25) (w : World) (hLb : Lib25 w) (x : Stp) (hx : x.rng) (hd : x.d.length ≤ 9223372036854775807) :
    Calls Tryd.prog 3 #[.agg (stpC x)] w fun e w' => e = .returned (.bool true) ∧ w.grownBy w' none := by
  have HLC := Lib.hid LC
  have HSC := Lib.hid SC
  have HLB := Lib.hid hLb
  have HFC := Lib.hid FC
  have HX := Lib.hid hx
  have B0 := Blk.new w 25 (stpC x)
  have E0 := World.grownBy_alloc w (.cells (stpC x) 25) none
  obtain ⟨w1, hw1⟩ : ∃ z, w.alloc (.cells (stpC x) 25) = z := ⟨_, rfl⟩
  rw [hw1] at B0 E0
  have HB0 := Lib.hid B0
  have HE0 := Lib.hid E0
  have HW := Lib.hid hw1
  clear LC SC FC hx B0 E0 hw1 hLb
  go_enter Tryd.func3, Tryd.ntmps3
  go_upto_region 1 with fail
  rw [HW.out]
  go_upto_region 3 with (go_at_call 7; refine (HFC.out _ (HLB.out.ext HE0.out)).mono ?_; rintro e w2 ⟨rfl, hg2⟩; have HB2 := Lib.hid (HB0.out.ext hg2); have HE2 := Lib.hid (ext_trans HE0.out hg2); clear hg2)
  have c7 : w2.cell? ⟨w.heap.size, 7, none⟩ = some (.string (bs x.d)) := HB2.out.cell 7
  have hsz : (bs x.d).size = x.d.length := bs_size x.d
  by_cases h2 : 200 < x.d.length
  · go_wp2
    go_ret
    exact ⟨rfl, HE2.out⟩
  · have hb : decide ((200 : Int) < (x.d.length : Int)) = false := by rw [decide_eq_false_iff_not]; omega
    have hd2 : x.d.length ≤ 200 := by omega
    have HD := Lib.hid hd2
    clear h2
    obtain ⟨t, ht⟩ : ∃ t, (if okL x then lineL x else []) = t := ⟨_, rfl⟩
    obtain ⟨ok, hok⟩ : ∃ b, okL x = b := ⟨_, rfl⟩
    have htl : t.length ≤ 20000 := by
      rw [← ht]
      split
      · exact lineL_len HX.out (by omega)
      · simp
    obtain ⟨y, hy⟩ : ∃ y, (stepR t).1 = y := ⟨_, rfl⟩
    obtain ⟨bb, hbb⟩ : ∃ b, (stepR t).2 = b := ⟨_, rfl⟩
    have HH := Lib.hid (show bb = ok ∧ (ok = true → y = x) from by
      have hs := stepA_size (l := t) (by omega)
      rw [hy, hbb] at hs
      cases hk : ok
      · refine ⟨?_, by simp⟩
        rw [hk] at hok
        have ht0 : t = [] := by rw [← ht, hok]; rfl
        cases hb2 : bb
        · rfl
        · exact absurd (hs.1 hb2).2.2 (by rw [ht0]; unfold lineL spellL; intro h; have h3 := (List.append_eq_nil_iff.1 h).1
                                          have ho := (hs.1 hb2).2.1
                                          simp only [okL, Bool.and_eq_true, decide_eq_true_eq] at ho
                                          exact (by decide : ∀ j, j < 11 → nmL j ≠ []) _ ho.1 h3)
      · rw [hk] at hok
        have hti : t = lineL x := by rw [← ht, hok, if_pos rfl]
        have hsi : StepIs t x := ⟨HX.out, hok, hti.symm⟩
        have := stepR_some hsi
        rw [← hbb, ← hy, this]
        exact ⟨rfl, fun _ => rfl⟩)
    have HY := Lib.hid (And.intro hy hbb)
    have HT := Lib.hid (And.intro ht hok)
    have r2 := HB2.out.range25
    clear hy hbb ht hok hd2
    go_upto_region 8 with (first
      | (go_at_call 10; refine (HSC.out _ (HLB.out.ext HE4.out) (bs t) (by rw [bs_size]; omega)).mono ?_; rintro e w5 ⟨rfl, hg5⟩; rw [bs_data, HY.out.1, HY.out.2]; have hBn := Blk.new w5 25 (stpC noStp); have HB5 := Lib.hid (HB4.out.ext hg5); have HE5 := Lib.hid (ext_trans HE4.out hg5); clear hg5 r3)
      | (go_at_call 9; refine (line25 _ x HX.out (by have := HD.out; omega)).mono ?_; rintro e w4 hL; obtain ⟨rfl, hg4⟩ := hL; rw [HT.out.1, HT.out.2]; have HB4 := Lib.hid (HB3.out.ext hg4); have HE4 := Lib.hid (ext_trans HE3.out hg4); clear hg4)
      | (go_at_call 8; refine (HLC.out _ (HLB.out.ext HE2.out) x HX.out (by have := HD.out; omega)).mono ?_; rintro e w3 hL; obtain ⟨rfl, hg3⟩ := hL; rw [HT.out.1, HT.out.2]; have HB3 := Lib.hid (HB2.out.ext hg3); have HE3 := Lib.hid (ext_trans HE2.out hg3); have r3 := HB3.out.range25; clear hg3 r2 c7)
      | (refine stp_store (z := y) rfl _ _ rfl rfl rfl hBn rfl ?_; intro w6 hb6 hg6 hs6; have hE6 := new24 (World.grownBy_alloc w5 _ none) hg6 (Nat.le_refl _); have r6 := hb6.range25; have r0 := (HB5.out.ext hE6).range25; have HE6 := Lib.hid (ext_trans HE5.out hE6); clear hb6 hg6 hs6 hBn hE6)
      | (refine stp_load rfl _ rfl rfl r3 ?_)
      | (refine stp_load rfl _ rfl rfl r2 ?_))
    obtain ⟨rfl, hyx⟩ := HH.out
    cases bb
    · go_wp2
      go_ret
      exact ⟨by simp, HE6.out⟩
    · obtain rfl := hyx rfl
      go_wp2_with (first
        | (refine stp_eql_op (u := y) (v := y) (r := true) rfl _ _ rfl (by simp) rfl rfl ?_)
        | (refine stp_load_w rfl _ rfl rfl r6 ?_)
        | (refine stp_load_w rfl _ rfl rfl r0 ?_))
      go_ret
      exact ⟨by simp, HE6.out⟩

end Go.Proofs.YtdaifepjmkmpjaaDoor

/-
  Package script: Parse.
-/
namespace Go.Proofs.YtdaifepjmkmpjaaDoor
set_option linter.unusedVariables false
set_option linter.unusedSimpArgs false
set_option linter.unusedVariables false
set_option linter.unusedSimpArgs false
set_option maxRecDepth 100000
open Go.RowKit

/-! ### a text's lines, one by one -/
noncomputable def restE (l : List UInt8) (i : Nat) (p : PSt) : Option PSt := if l.getLast? = some 10 then linesP (splitL 10 l.dropLast) i p else none
theorem split_cut10 (l : List UInt8) : splitL 10 l = if (cutL 10 l).2.2 then (cutL 10 l).1 :: splitL 10 (cutL 10 l).2.1 else [(cutL 10 l).1] := split_cut 10 l
theorem restE_none {l : List UInt8} {i : Nat} {p : PSt} (h : (cutL 10 l).2.2 = false) : restE l i p = none := by
  unfold restE
  rw [if_neg]
  intro h2
  have hm : (10 : UInt8) ∈ l := List.mem_of_getLast? h2
  rw [← (cutL_no h).1] at hm
  exact cutL_mem (c := 10) (l := l) 10 hm rfl
theorem restE_last {l : List UInt8} {i : Nat} {p : PSt} (h : (cutL 10 l).2.2 = true) (h2 : (cutL 10 l).2.1 = []) : restE l i p = lineP i (cutL 10 l).1 p := by
  have e := cutL_eq h
  rw [h2] at e
  have hp : ∀ x ∈ (cutL 10 l).1, x ≠ 10 := fun x hx => cutL_mem x hx
  generalize (cutL 10 l).1 = n at e hp
  unfold restE
  rw [e, List.getLast?_concat, if_pos rfl, List.dropLast_concat]
  have h3 := cutL_plain hp
  rw [split_cut10, h3]
  show linesP [n] i p = _
  simp only [linesP]
  cases lineP i n p <;> rfl
theorem restE_more {l : List UInt8} {i : Nat} {p : PSt} (h : (cutL 10 l).2.2 = true) (h2 : (cutL 10 l).2.1 ≠ []) : restE l i p = match lineP i (cutL 10 l).1 p with
    | some q => restE (cutL 10 l).2.1 (i + 1) q
    | none => none := by
  have e := cutL_eq h
  have hp : ∀ x ∈ (cutL 10 l).1, x ≠ 10 := fun x hx => cutL_mem x hx
  generalize (cutL 10 l).1 = n at e hp ⊢
  generalize (cutL 10 l).2.1 = r at e h2 ⊢
  have e1 : l.getLast? = r.getLast? := by
    have e0 : l = (n ++ [10]) ++ r := by rw [e]; simp
    rw [e0, List.getLast?_append]
    cases hr : r.getLast? with
    | none => exact absurd (List.getLast?_eq_none_iff.1 hr) h2
    | some x => rfl
  have e2 : l.dropLast = n ++ 10 :: r.dropLast := by
    rw [e, List.dropLast_append_of_ne_nil (by simp), List.dropLast_cons_of_ne_nil h2]
  unfold restE
  rw [e1, e2]
  by_cases h10 : r.getLast? = some 10
  · simp only [if_pos h10]
    rw [split_cut10, cutL_app hp]
    simp only [if_true, linesP]
    cases lineP i n p <;> rfl
  · simp only [if_neg h10]
    cases lineP i n p <;> rfl
theorem parse_rest (l : List UInt8) : parseE l = restE l 0 noPSt := rfl
/-- How many lines a text has at most. -/
def linesN (l : List UInt8) : Nat := (splitL 10 l).length
theorem linesN_more {l : List UInt8} (h : (cutL 10 l).2.2 = true) : linesN l = linesN (cutL 10 l).2.1 + 1 := by
  unfold linesN
  rw [split_cut10, if_pos h, List.length_cons]
/-- What stands while a text is parsed. -/
structure PsM (w0 w : World) (pb mb : Nat) (V : Nat → Value) (vm sv : Value) (rk : Int) (i : Nat) (p : PSt) (s rest : List UInt8) (mo : Bool) : Prop where
  m : PaM w0 w pb mb V vm sv rk i p
  e : if mo then parseE s = restE rest i p else parseE s = some p
  l : rest.length ≤ s.length
  n : p.st.length ≤ i
  k : i + (if mo then linesN rest else 0) ≤ 4000
theorem st_le {i : Nat} {l : List UInt8} {p q : PSt} (h : lineP i l p = some q) : q.st.length ≤ p.st.length + 1 := by
  unfold lineP at h
  split at h
  · unfold headS at h
    split at h
    · split at h
      · injection h with h; subst h; simp
      · cases h
    · cases h
  · unfold restP at h
    split at h
    · unfold faultP at h
      split at h
      · split at h
        · injection h with h; subst h; simp
        · cases h
      · cases h
    · split at h
      · unfold markedP at h
        split at h
        · split at h
          · injection h with h; subst h; simp
          · cases h
        · cases h
      · unfold stepP at h
        split at h
        · injection h with h; subst h; simp
        · cases h
theorem parP_no {l : List UInt8} {w w' : World} (h : parseE l = none) (hg : w.grownBy w' none) : ParP l w (.returned (.tuple #[.agg (stuC noStu (fun _ => nl25) nl25), nl25, .int .i64 2])) w' := by
  have hp : parseL l = (noStu, [], 2) := by unfold parseL; rw [h]
  unfold ParP
  rw [hp]
  exact ⟨fun _ => nl25, nl25, nl25, rfl, ⟨fun t _ => .inl ⟨rfl, rfl⟩, .inl ⟨rfl, rfl⟩⟩, ⟨none, 0, rfl, fun i hi => by simp at hi⟩, hg⟩
theorem parP_ok {l : List UInt8} {w w' : World} {p : PSt} {V : Nat → Value} {vm v : Value} {a : Option Addr} {cap : Nat} (h : parseE l = some p) (hs : StuIs w' p.s V vm) (hv : v = .slice a p.st.length cap) (hr : StpR w' a p.st) (hl : p.st.length ≤ 4096) (hg : w.grownBy w' none) : ParP l w (.returned (.tuple #[.agg (stuC p.s V vm), v, .int .i64 0])) w' := by
  have hp : parseL l = (p.s, p.st, 0) := by unfold parseL; rw [h]; simp only; rw [if_neg (by omega)]
  unfold ParP
  rw [hp]
  exact ⟨V, vm, v, rfl, hs, ⟨a, cap, hv, hr⟩, hg⟩
theorem stu_slv25 {w : World} {s : Stu} {V : Nat → Value} {vm : Value} (h : StuIs w s V vm) : (∀ t, t < 4 → SliceV (V t)) ∧ SliceV vm := ⟨fun t ht => (h.f t ht).slice, h.m.slice⟩
theorem parse_step_no {s rest : List UInt8} {i : Nat} {p : PSt} (he : parseE s = restE rest i p) (h3 : (cutL 10 rest).2.2 = true) (hn : lineP i (cutL 10 rest).1 p = none) : parseE s = none := by
  rw [he]
  by_cases h : (cutL 10 rest).2.1 = []
  · rw [restE_last h3 h, hn]
  · rw [restE_more h3 h, hn]
theorem parse_step_yes {s rest : List UInt8} {i : Nat} {p q : PSt} (he : parseE s = restE rest i p) (h3 : (cutL 10 rest).2.2 = true) (hn : lineP i (cutL 10 rest).1 p = some q) : if decide ((cutL 10 rest).2.1 ≠ []) then parseE s = restE (cutL 10 rest).2.1 (i + 1) q else parseE s = some q := by
  by_cases h : (cutL 10 rest).2.1 = []
  · simp [h]
    rw [he, restE_last h3 h, hn]
  · simp [h]
    rw [he, restE_more h3 h, hn]
theorem owns_nil8 (B : Nat) (w : World) : OwnP B w nl25 [] := ⟨rfl, .inl ⟨rfl, rfl⟩⟩
set_option maxHeartbeats 6400000 in
theorem parse_c (w : World) (hLb : Lib25 w) (s : List UInt8) (hs : s.length ≤ 200000) (hln : (splitL 10 s).length ≤ 4000) : Calls Tryd.prog 12 #[.string (bs s)] w (ParP s w) := by
  have HL := Lib.hid hLb
  have hBr := Blk.new w 38 (stuC noStu (fun _ => nl25) nl25)
  have hEr := World.grownBy_alloc w (.cells (stuC noStu (fun _ => nl25) nl25) 38) none
  obtain ⟨w0, hw0⟩ : ∃ z, w.alloc (.cells (stuC noStu (fun _ => nl25) nl25) 38) = z := ⟨_, rfl⟩
  rw [hw0] at hBr hEr
  obtain ⟨rb, hrb⟩ : ∃ z, w.heap.size = z := ⟨_, rfl⟩
  rw [hrb] at hBr
  have HB0 := Lib.hid hBr
  have HE0 := Lib.hid hEr
  have HW0 := Lib.hid (show w.alloc (.cells #[.int .i64 0, .int .i64 0, .int .i64 0, .int .i64 0, .slice none 0 0, .slice none 0 0, .slice none 0 0, .slice none 0 0, .slice none 0 0] 38) = w0 from hw0)
  have HRB := Lib.hid (show w.heap.size ≤ rb from Nat.le_of_eq hrb)
  have HLN := Lib.hid hln
  clear hLb hBr hEr hw0 hln
  go_enter Tryd.func12, Tryd.ntmps12
  go_upto_region 1 with fail
  rw [HW0.out]
  clear hrb
  go_upto_region 2 with (first
    | (go_at_call 28; refine (kinds_c _).mono ?_; rintro e w1 ⟨mb, rfl, hD, hlb, hg1⟩; have HM := Lib.hid hD; have HG1 := Lib.hid (ext_trans HE0.out hg1); have HB1 := Lib.hid (HB0.out.ext hg1); clear hD hg1 hlb))
  have hPB := Blk.new w1 68 (parC noStu (fun _ => nl25) nl25 nl25 0 mb)
  have hE2 := World.grownBy_alloc w1 (.cells (parC noStu (fun _ => nl25) nl25 nl25 0 mb) 68) none
  have HLO := Lib.hid (show w1.heap.size ≤ w1.heap.size ∧ rb ≠ w1.heap.size from ⟨Nat.le_refl _, by have := HB1.out.lt; omega⟩)
  obtain ⟨w2, hw2⟩ : ∃ z, w1.alloc (.cells (parC noStu (fun _ => nl25) nl25 nl25 0 mb) 68) = z := ⟨_, rfl⟩
  have hw2' : w1.alloc (.cells #[.int .i64 0, .int .i64 0, .int .i64 0, .int .i64 0, .slice none 0 0, .slice none 0 0, .slice none 0 0, .slice none 0 0, .slice none 0 0, .slice none 0 0, .bool false, .int .i64 0, .map (some mb)] 68) = w2 := hw2
  rw [hw2']
  rw [hw2] at hPB hE2
  obtain ⟨pb, hpb⟩ : ∃ z, w1.heap.size = z := ⟨_, rfl⟩
  have HLO := Lib.hid (show w1.heap.size ≤ pb ∧ rb ≠ pb from by rw [← hpb]; exact HLO.out)
  rw [hpb] at hPB ⊢
  have HP0 := Lib.hid (show PsM w1 w2 pb mb (fun _ => nl25) nl25 nl25 0 0 noPSt s s true from
    ⟨⟨hPB, ⟨fun t _ => own_nil25 w2 w1.heap.size 3, own_nil25 w2 w1.heap.size 3, owns_nil8 _ _, HM.out.ext hE2, hE2⟩, HLO.out.1, ⟨fun _ => ⟨rfl, rfl⟩, fun h => by omega, by show (-1 : Int) ≤ -1; omega, by show (-1 : Int) ≤ 3; omega⟩⟩, rfl, Nat.le_refl _, Nat.le_refl _, by have := HLN.out; unfold linesN; simpa using this⟩)
  have HNE := Lib.hid HLO.out.2
  clear hPB hE2 hw2 hw2' hpb
  go_wp2
  go_loopw [0, 6] (fun a m wr => ∃ (rest : List UInt8) (mo : Bool) (V : Nat → Value) (vm sv : Value) (rk : Int) (i : Nat) (p : PSt), a = .string (bs rest) ∧ m = .bool mo ∧ PsM w1 wr pb mb V vm sv rk i p s rest mo) (fun a _ _ => szV a)
  case atStart => exact ⟨s, true, _, _, _, _, _, _, rfl, rfl, HP0.out⟩
  case round =>
    clear HP0
    obtain ⟨rest, mo, V, vm, sv, rk, i, p, rfl, rfl, hS⟩ := hrel
    have HS := Lib.hid hS
    clear hS
    cases mo
    · have c10 : wr.cell? ⟨pb, 10, none⟩ = some (.bool false) := HS.out.m.b.cell 10
      obtain ⟨sa, sc, hsv, hsr⟩ := HS.out.m.r.t.read
      obtain ⟨n, hn⟩ : ∃ n, p.st.length = n := ⟨_, rfl⟩
      rw [hn] at hsv
      have HN := Lib.hid hn
      have HSV := Lib.hid (And.intro hsv hsr)
      have q1 : wr.rangeAt pb 0 (stuC p.s V vm).toList := HS.out.m.b.range 0 9 rfl
      have q2 : wr.cell? ⟨pb, 9, none⟩ = some (.slice sa n sc) := (HS.out.m.b.cell 9).trans (by rw [← hsv]; rfl)
      have HQ := Lib.hid (And.intro q1 q2)
      have HIS := Lib.hid (show StuIs wr p.s V vm from ⟨fun t ht => own_ints25 (HS.out.m.r.f t ht), own_ints25 HS.out.m.r.m⟩)
      have HBR := Lib.hid (show Blk wr.drew rb 38 (stuC noStu (fun _ => nl25) nl25) from (HB1.out.ext HS.out.m.r.g).drew)
      clear hn hsv hsr q1 q2
      go_upto_region 11 with fail
      clear c10
      refine region_line [(0, true), (1, true), (2, true), (3, true), (4, false), (5, true), (6, true)] (fun z => z.rangeAt pb 0 (stuC p.s V vm).toList ∧ z.cell? ⟨pb, 9, none⟩ = some (.slice sa n sc)) (by kernel_rfl) (by kernel_rfl) (fun _ _ _ d _ h => by cases d <;> exact h) ⟨HQ.out.1, HQ.out.2⟩ ?_
      iterate 4 (refine line_read (a' := ?_) rfl (by kernel_rfl) (by kernel_rfl) ⟨HQ.out.1, HQ.out.2⟩ (fun z hz K hK => ?_) ?_; rotate_left; · (obtain ⟨r1, r2⟩ := hz; go_wp2_with (refine stu_load rfl _ rfl rfl r1 ?_); exact hK))
      refine line_act rfl fun K hK => ?_
      refine stu_store (s := p.s) (V := V) (vm := vm) rfl _ _ rfl rfl (stu_slv25 HIS.out).1 (stu_slv25 HIS.out).2 rfl HBR.out rfl ?_
      intro w5 hb5 hg5 hs5
      have HG5 := Lib.hid (show wr.grownBy w5 (some rb) from grown_trans (some_of_none (Ext.drew wr)) hg5 (fun k hk _ => hk.symm ▸ rfl))
      have HB5 := Lib.hid hb5
      have hp5 := HS.out.m.b.kept HG5.out (by intro e; injection e with e; exact HNE.out e.symm)
      have HA5 := Lib.hid (show w5.rangeAt pb 0 (stuC p.s V vm).toList ∧ w5.cell? ⟨pb, 9, none⟩ = some (.slice sa n sc) from ⟨hp5.range 0 9 rfl, (hp5.cell 9).trans (by rw [← HSV.out.1]; rfl)⟩)
      clear hb5 hg5 hs5 hp5
      go_wp2
      refine hK _ _ (fun z => z.rangeAt pb 0 (stuC p.s V vm).toList ∧ z.cell? ⟨pb, 9, none⟩ = some (.slice sa n sc)) HA5.out (fun _ h => h) ?_
      clear hK K
      iterate 2 (refine line_read (a' := ?_) rfl (by kernel_rfl) (by kernel_rfl) HA5.out (fun z hz K hK => ?_) ?_; rotate_left; · (go_wp2; exact hK))
      refine line_end ?_
      go_wp2
      refine bodyPost_ret (v := .tuple #[.agg (stuC p.s V vm), .slice sa n sc, .int .i64 0]) (results_cell25_3 (fn := Tryd.f12) rfl rfl rfl rfl HB5.out Tryd.underlying38 rfl Tryd.sizeStu25) rfl ?_
      have he := HS.out.e
      simp only [Bool.false_eq_true, if_false] at he
      have hnf : ∀ t, t < 4 → ∀ k, (V t).ownBlock = some k → some k ≠ some rb := fun t ht => ne_some (own_ne25 (HS.out.m.r.f t ht) (HB1.out.ext HS.out.m.r.g) (by decide))
      have ht5 : OwnP w1.heap.size w5 (.slice sa n sc) p.st := by rw [← HSV.out.1]; exact own_kept25 HS.out.m.r.t HG5.out (ne_some (own_ne25 HS.out.m.r.t (HB1.out.ext HS.out.m.r.g) (by decide)))
      obtain ⟨a5, c5, e5, hr5⟩ := ht5.read
      have hsl : w5.grownBy w5 none := Ext.refl w5
      injection e5 with e6 e7 e8
      subst e6
      exact parP_ok he ⟨fun t ht => own_ints25 (own_kept25 (HS.out.m.r.f t ht) HG5.out (hnf t ht)), own_ints25 (own_kept25 HS.out.m.r.m HG5.out (ne_some (own_ne25 HS.out.m.r.m (HB1.out.ext HS.out.m.r.g) (by decide))))⟩ (by rw [HN.out]) hr5 (by have h1 := HS.out.n; have h2 := HS.out.k; omega) (grown_fill (ext_trans HG1.out HS.out.m.r.g) HG5.out HRB.out)
    · have hrl : rest.length ≤ 200000 := by have := HS.out.l; omega
      have he := HS.out.e
      simp only [if_true] at he
      have HCL := Lib.hid (cutL_len 10 rest)
      have C := fun wx h => cut_c rest 10 ⟨#[10]⟩ rfl wx h (by omega)
      have HNO := Lib.hid (fun (h : (cutL 10 rest).2.2 = false) => he.trans (restE_none (i := i) (p := p) h))
      have HNO2 := Lib.hid (fun h3 hn => parse_step_no (i := i) (p := p) he h3 hn)
      have HYS := Lib.hid (fun q h3 hn => parse_step_yes (i := i) (p := p) (q := q) he h3 hn)
      have HLM := Lib.hid (fun h3 => linesN_more (l := rest) h3)
      obtain ⟨q1, hq1⟩ : ∃ q, (cutL 10 rest).1 = q := ⟨_, rfl⟩
      obtain ⟨q2, hq2⟩ : ∃ q, (cutL 10 rest).2.1 = q := ⟨_, rfl⟩
      obtain ⟨q3, hq3⟩ : ∃ q, (cutL 10 rest).2.2 = q := ⟨_, rfl⟩
      rw [hq1, hq2, hq3] at C
      rw [hq1, hq2, hq3] at HCL
      rw [hq3] at HNO
      rw [hq1, hq3] at HNO2
      rw [hq1, hq2, hq3] at HYS
      rw [hq2, hq3] at HLM
      have HC := Lib.hid C
      clear C hq1 hq2 hq3 he
      go_upto_region 6 with (go_at_call 32; refine (HC.out wr ((HL.out.ext HG1.out).ext HS.out.m.r.g)).mono ?_; rintro e w3 ⟨rfl, hg3⟩; have HM3 := Lib.hid (HS.out.m.ext hg3); have HR3 := Lib.hid (HB1.out.ext (ext_trans HS.out.m.r.g hg3)); clear hg3)
      cases q3
      · have HE := Lib.hid (HNO.out rfl)
        clear HNO HNO2 HYS HLM HCL
        go_wp2_with (first
          | (refine stu_store (s := noStu) (V := fun _ => nl25) (vm := nl25) rfl _ _ rfl rfl (fun _ _ => slv_nl) slv_nl rfl HR3.out rfl ?_; intro w9 hb9 hg9 hs9; have HB9 := Lib.hid hb9; have HG9 := Lib.hid (grown_fill (ext_trans HG1.out HM3.out.r.g) hg9 HRB.out); clear hb9 hg9 hs9))
        refine bodyPost_ret (v := .tuple #[.agg (stuC noStu (fun _ => nl25) nl25), nl25, .int .i64 2]) (results_cell25_3 (fn := Tryd.f12) rfl rfl rfl rfl HB9.out Tryd.underlying38 rfl Tryd.sizeStu25) rfl ?_
        exact parP_no HE.out HG9.out
      · have LP := Lib.hid (line_pc w1 w3 pb mb V vm sv rk i p q1 (HL.out.ext HG1.out) HM3.out (by have h1 := HS.out.n; have h2 := HS.out.k; simp only [if_true] at h2; omega) (by have := HCL.out.1; omega))
        have HNY := Lib.hid (HNO2.out rfl)
        have HYY := Lib.hid (fun q => HYS.out q rfl)
        have HLL := Lib.hid (HLM.out rfl)
        have HC2 := Lib.hid (HCL.out.2.2 rfl)
        clear HNO HNO2 HYS HLM HCL
        go_upto_if 27 with (go_at_call 33; refine LP.out.mono ?_; rintro e w4 ⟨ok, rfl, hg4, hok⟩; have HG4 := Lib.hid hg4; have HOK := Lib.hid hok; clear hg4 hok)
        cases ok
        · have HE := Lib.hid (show parseE s = none from HNY.out (by rcases HOK.out with ⟨h, _⟩ | ⟨_, h⟩; cases h; exact h))
          have HR4 := Lib.hid (HB1.out.ext HG4.out)
          clear HOK HNY HYY LP
          go_wp2_with (first
            | (refine stu_store (s := noStu) (V := fun _ => nl25) (vm := nl25) rfl _ _ rfl rfl (fun _ _ => slv_nl) slv_nl rfl HR4.out rfl ?_; intro w9 hb9 hg9 hs9; have HB9 := Lib.hid hb9; have HG9 := Lib.hid (grown_fill (ext_trans HG1.out HG4.out) hg9 HRB.out); clear hb9 hg9 hs9))
          refine bodyPost_ret (v := .tuple #[.agg (stuC noStu (fun _ => nl25) nl25), nl25, .int .i64 2]) (results_cell25_3 (fn := Tryd.f12) rfl rfl rfl rfl HB9.out Tryd.underlying38 rfl Tryd.sizeStu25) rfl ?_
          exact parP_no HE.out HG9.out
        · obtain ⟨V', vm', sv', rk', q, hq, hm'⟩ : ∃ V vm sv rk q, lineP i q1 p = some q ∧ PaM w1 w4 pb mb V vm sv rk (i + 1) q := by
            rcases HOK.out with ⟨_, h⟩ | ⟨h, _⟩
            · exact h
            · cases h
          have HY := Lib.hid (HYY.out q hq)
          have HM4 := Lib.hid hm'
          have HST := Lib.hid (st_le hq)
          clear HOK HNY HYY LP hq hm'
          have hmo : ((bs q2).toList != []) = decide (q2 ≠ []) := by rw [bs_toList, bne, beq_dec]; simp
          have hmo2 : ((bs q2).toList.isEmpty) = !decide (q2 ≠ []) := by rw [bs_toList]; cases q2 <;> simp
          obtain ⟨mo, hmo3⟩ : ∃ mo, decide (q2 ≠ []) = mo := ⟨_, rfl⟩
          rw [hmo3] at hmo hmo2 HY
          have HMO := Lib.hid hmo3
          clear hmo3
          go_wp2
          go_roundw
          case rel =>
            refine ⟨q2, mo, _, _, _, _, i + 1, q, rfl, ?_, HM4.out, HY.out, by have := HC2.out; have := HS.out.l; omega, by have := HST.out; have := HS.out.n; omega, ?_⟩
            · first | rfl | simp
            · have h2 := HS.out.k
              simp only [if_true] at h2
              have h3 := HLL.out
              split <;> omega
          case measure => simp only [szV, bs_size]; exact HC2.out
end Go.Proofs.YtdaifepjmkmpjaaDoor
