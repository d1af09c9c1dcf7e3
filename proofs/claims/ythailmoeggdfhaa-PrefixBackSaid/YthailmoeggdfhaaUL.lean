/-
  Package prefix: ends, over whatever is told; Find, Longest.
-/
import Derived.Test.YthailmoeggdfhaaUK
import Derived.Deep.DeepCutAuto
import Derived.Deep.CutBlock
namespace Go.Proofs.Ythailmoeggdfhaa
set_option linter.unusedVariables false
set_option linter.unusedSimpArgs false
set_option maxRecDepth 100000
open Go.RowKit

theorem allN_pre (X : List (Int × ByteArray)) (ss ts : List ByteArray) (n m : Nat) : ∃ R, allN X ss ts (n + m) = allN X ss ts n ++ R := by
  induction m with
  | zero => exact ⟨[], by simp⟩
  | succ m ih =>
    obtain ⟨R, hR⟩ := ih
    rw [← Nat.add_assoc, allN_succ, hR]
    by_cases e : aftR (X.take (n + m)) ss = ts
    · exact ⟨R ++ [n + m], by rw [if_pos e, List.append_assoc]⟩
    · exact ⟨R, by rw [if_neg e]⟩
theorem allN_none (X : List (Int × ByteArray)) {ss ts : List ByteArray} (h : ss.length ≠ ts.length) (n : Nat) : allN X ss ts n = [] := by
  unfold allN
  rw [List.filter_eq_nil_iff]
  intro j _
  simp only [decide_eq_true_eq]
  intro e
  apply h
  rw [← e, aftR_length]
/-- What the one who asked has. -/
def EndP (r : Bool) (t1 t2 : Nat) (L : List Nat) (w : World) : Prop := Blk w t1 3 #[.int .i64 (selL r L)] ∧ Blk w t2 4 #[.bool (decide (L ≠ []))]
theorem EndP.first {r : Bool} {t1 t2 : Nat} {L R : List Nat} {w : World} (h : EndP r t1 t2 L w) (hr : r = false) (hL : L ≠ []) : EndP r t1 t2 (L ++ R) w := by
  subst hr
  rcases L with _ | ⟨x, l⟩
  · exact absurd rfl hL
  · exact h
theorem Try.hmf24 : ∀ (fn : Fn) (first cap : Array Value) (w : World), (Instr.makeFunc fn first cap).run Try.prog w = .ok (.func fn first cap) w := fun _ _ _ _ => rfl
/-- What is told is kept. -/
def TelC (g : Nat) (r : Bool) (t1 t2 : Nat) : Prop := ∀ (k : Nat) (u : Int) (v : Bool) (wx : World), Blk wx t1 3 #[.int .i64 u] → Blk wx t2 4 #[.bool v] →
  Calls Try.prog g (#[.int .i64 k] ++ #[.pointer (some ⟨t1, 0, none⟩), .pointer (some ⟨t2, 0, none⟩)]) wx fun e w' => e = .returned (.bool r) ∧ (wx.setCell ⟨t1, 0, none⟩ (.int .i64 k)).setCell ⟨t2, 0, none⟩ (.bool true) = w'
theorem block24' {w w' : World} {g : Nat} {t : TypeId} {cs : Array Value} (hg : w.grownBy w' none) (h : Blk w g t cs) : Blk w' g t cs := h.ext hg
theorem own_new24 {W0 : World} {a1 : Option Addr} {c1 n : Nat} {c : Option Addr} {cc gn t1 t2 : Nat} {r : Bool} {w2 : World} {F : Nat → ByteArray} (hn : Blk w2 gn 22 #[.slice c n cc]) (hb1 : Blk w2 t1 3 #[.int .i64 0]) (hb2 : Blk w2 t2 4 #[.bool false]) (hr : TxO (gn + 1) w2 a1 n F) (ho : W0.heap.size ≤ t1 ∧ t1 < t2 ∧ t2 < gn) (hE : W0.grownBy w2 none) :
    EnS W0 a1 c1 n c cc gn w2.heap.size (w2.heap.size + 1) t1 t2 r ((w2.alloc (.cells #[.slice a1 n c1] 22)).alloc (.cells #[.int .i64 0] 3)) F 0 [] := by
  have g1 := World.grownBy_alloc w2 (.cells #[.slice a1 n c1] 22) none
  have g2 := World.grownBy_alloc (w2.alloc (.cells #[.slice a1 n c1] 22)) (.cells #[.int .i64 0] 3) none
  have hg := ext_trans g1 g2
  have hlt := hn.lt
  refine ⟨hn.ext hg, (Blk.new w2 _ _).ext g2, Blk.newAt _ _ (by simp) _ _, ?_, hb2.ext hg, hr.kept hg (fun k hk => by cases hk), fun g hgg => ?_, ⟨ho.1, ho.2.1, ho.2.2, hlt, by omega⟩, ext_trans hE hg⟩
  · have := hb1.ext hg
    cases r <;> exact this
  · rcases hr with ⟨h1, _⟩ | ⟨g', h1, _, h3⟩
    · rw [hgg] at h1; cases h1
    · rw [hgg] at h1; injection h1 with h1; injection h1 with h1; subst h1; exact h3.lt

theorem EnS.far_do {W0 : World} {a1 : Option Addr} {c1 n : Nat} {c : Option Addr} {cc gn gp gu t1 t2 : Nat} {r : Bool} {wr w' : World} {F : Nat → ByteArray} {u : Int} {L : List Nat} (h : EnS W0 a1 c1 n c cc gn gp gu t1 t2 r wr F u L) (hg : wr.grownBy w' (a1.map (·.block))) {lb : Nat} {t : TypeId} {cs : Array Value} (hb : Blk wr lb t cs) (hl : gu < lb) : Blk w' lb t cs := by
  obtain ⟨o1, o2, o3, o4, o5⟩ := h.ord
  rcases h.row with ⟨rfl, _⟩ | ⟨g, rfl, _, _⟩
  · exact hb.ext hg
  · have := h.far g rfl
    exact hb.kept hg (by simp; omega)

set_option maxHeartbeats 3200000 in
theorem ends24 (r : Bool) (g : Nat) (eg : ∀ args w, (callFunc g args).run Try.prog w = .ok (.enter g args) w) (t1 t2 : Nat) (HT : TelC g r t1 t2) (W0 w : World) (hW : W0.grownBy w none) (ht : W0.heap.size ≤ t1 ∧ t1 < t2) (hb1 : Blk w t1 3 #[.int .i64 0]) (hb2 : Blk w t2 4 #[.bool false])
    (a b c : Option Addr) (ca cb cc : Nat) (ss ts : List ByteArray) (X : List (Int × ByteArray)) (h1 : TxR W0 a ss) (s1 : Sl a ss.length ca) (h2 : ChT W0 b X) (s2 : Sl b X.length cb) (h3 : TxR W0 c ts) (l1 : ss.length ≤ 1000) (l2 : X.length ≤ 1000) (l3 : ts.length ≤ 1000) :
    Calls Try.prog 13 #[.slice a ss.length ca, .slice b X.length cb, .slice c ts.length cc, .func (.func g) #[] #[.pointer (some ⟨t1, 0, none⟩), .pointer (some ⟨t2, 0, none⟩)]] w fun e w' => e = .returned (.tuple #[]) ∧ EndP r t1 t2 (allN X ss ts (X.length + 1)) w' ∧ W0.grownBy w' none := by
  obtain ⟨n, hn⟩ : ∃ n, ss.length = n := ⟨_, rfl⟩
  obtain ⟨m, hm⟩ : ∃ m, X.length = m := ⟨_, rfl⟩
  obtain ⟨q, hq⟩ : ∃ q, ts.length = q := ⟨_, rfl⟩
  have HN := Lib.hid (And.intro hn (And.intro hm hq))
  have hBn := Blk.new w 22 #[.slice c ts.length cc]
  have hE1 := World.grownBy_alloc w (.cells #[.slice c ts.length cc] 22) none
  rw [hq] at hBn hE1
  by_cases hl : n = q
  · subst hl
    have CL := Lib.hid (fun (wx : World) (hE : W0.grownBy wx none) => clone24 wx a ca ss (h1.ext hE) s1 l1)
    have HTH := Lib.hid HT
    have HX := Lib.hid h2
    have H3 := Lib.hid h3
    have hm1 := s2.le
    have hm2 := s2.max
    rw [hn] at CL l1
    rw [hm] at hm1 l2
    rw [hn, hm, hq]
    obtain ⟨gn, hgn⟩ : ∃ z, w.heap.size = z := ⟨_, rfl⟩
    have hlt2 := hb2.lt
    have HB := Lib.hid (And.intro (hb1.ext hE1) (And.intro (hb2.ext hE1) (And.intro hBn (And.intro ht (And.intro hlt2 (ext_trans hW hE1))))))
    rw [hgn] at HB
    obtain ⟨w1, hw1⟩ : ∃ z, w.alloc (.cells #[.slice c n cc] 22) = z := ⟨_, rfl⟩
    rw [hw1] at HB
    have hc6 : w1.cell? ⟨gn, 0, none⟩ = some (.slice c n cc) := HB.out.2.2.1.cell 0
    clear HT h1 h2 h3 s1 s2 l3 hb1 hb2 hW ht hBn hE1 hlt2 hn hm hq
    go_enter Try.func13, Try.ntmps13
    go_upto_region 5 with (go_at_call 16; refine (CL.out _ HB.out.2.2.2.2.2).mono ?_; rintro e w2 ⟨a1, c1, rfl, sl1, row, hE2⟩; have H2 := Lib.hid (And.intro row (And.intro sl1 hE2)); clear row sl1 hE2)
    have hS3 := own_new24 (r := r) (block24' H2.out.2.2 HB.out.2.2.1) (block24' H2.out.2.2 HB.out.1) (block24' H2.out.2.2 HB.out.2.1) (H2.out.1.le (by have := HB.out.2.2.1.lt; omega)) ⟨HB.out.2.2.2.1.1, HB.out.2.2.2.1.2, HB.out.2.2.2.2.1⟩ (ext_trans HB.out.2.2.2.2.2 H2.out.2.2) (c1 := c1)
    obtain ⟨w3, hw3⟩ : ∃ z, (w2.alloc (.cells #[.slice a1 n c1] 22)).alloc (.cells #[.int .i64 0] 3) = z := ⟨_, rfl⟩
    obtain ⟨gu, hgu⟩ : ∃ z, w2.heap.size + 1 = z := ⟨_, rfl⟩
    obtain ⟨gp, hgp⟩ : ∃ z, w2.heap.size = z := ⟨_, rfl⟩
    rw [hw3, hgu, hgp] at hS3 ⊢
    have HS3 := Lib.hid (show EnS W0 a1 c1 n c cc gn gp gu t1 t2 r w3 (nthF X ss 0) ((cntF (nthF X ss 0) ts 0 : Nat) : Int) [] from hS3)
    have hc8 : w3.cell? ⟨gp, 0, none⟩ = some (.slice a1 n c1) := hS3.cp.cell 0
    clear hgn hw1 hgu hgp hw3 hS3 hc6 CL HB H2
    go_wp2
    go_loopw [24] (fun i wr => ∃ j : Nat, j ≤ n ∧ i = .int .i64 j ∧ EnS W0 a1 c1 n c cc gn gp gu t1 t2 r wr (nthF X ss 0) ((cntF (nthF X ss 0) ts j : Nat) : Int) []) (fun i _ => n - (intOf i).toNat)
    case atStart => exact ⟨0, by omega, rfl, HS3.out⟩
    case round =>
      clear hc8 HS3
      obtain ⟨j, hj, rfl, hS⟩ := hrel
      by_cases hlt : j < n
      · have CT := count24 wr hS ts (H3.out.ext hS.ext) HN.out.2.2 j 1 (by omega) (by have := cntF_le (nthF X ss 0) ts j; omega)
        have HJ := Lib.hid (cntF_succ (F := nthF X ss 0) (ts := ts) hlt)
        clear hS
        go_wp2_with (go_at_call 18; refine CT.mono ?_; rintro e w4 ⟨rfl, hS4, hg4⟩; have HS4 := Lib.hid hS4; clear hS4 hg4)
        go_roundw
        case rel =>
          refine ⟨j + 1, by omega, by go_num, ?_⟩
          rw [HJ.out]
          have := HS4.out
          rw [Int.one_mul] at this
          exact_mod_cast this
        case measure => simp [intOf]; omega
      · obtain rfl : j = n := by omega
        have HS := Lib.hid hS
        obtain ⟨z, hz⟩ : ∃ z, (decide (cntF (nthF X ss 0) ts j = 0) && !r) = z := ⟨_, rfl⟩
        have hA : cntF (nthF X ss 0) ts j = 0 ↔ aftR (X.take 0) ss = ts := by rw [cntF_zero HN.out.2.2, ← HN.out.1, nthF_aft]
        have HZ := Lib.hid (And.intro hz hA)
        obtain ⟨wq, hwq⟩ : ∃ x, x = wr := ⟨_, rfl⟩
        obtain ⟨ux, hux⟩ : ∃ x, ((cntF (nthF X ss 0) ts j : Nat) : Int) = x := ⟨_, rfl⟩
        have u0 : wr.cell? ⟨gu, 0, none⟩ = some (.int .i64 ux) := by rw [← hux]; exact hS.cu.cell 0
        have TL := HTH.out 0 (selL r []) (decide (([] : List Nat) ≠ [])) wr hS.b1 hS.b2
        have HU := Lib.hid hux
        clear hS hz hA hux hwq
        go_upto_region 10 with fail
        go_cut [37] (fun s wx => s = .bool z ∧ EnS W0 a1 c1 j c cc gn gp gu t1 t2 r wx (nthF X ss 0) ((cntF (nthF X ss 0) ts j : Nat) : Int) (allN X ss ts 1))
        case first =>
          by_cases hu : ux = 0
          · have hb : (ux == 0) = true := by simp [hu]
            have hs := Lib.hid hu
            clear hu
            go_wp2_with (go_at_fn g; refine TL.mono ?_; rintro e w4 ⟨rfl, rfl⟩)
            go_meet
            case rel =>
              have h0 : cntF (nthF X ss 0) ts j = 0 := by have h1 := HU.out; have h2 := hs.out; omega
              refine ⟨by rw [← HZ.out.1, decide_eq_true h0]; simp, ?_⟩
              have := HS.out.told 0 (fun _ => rfl)
              rw [allN_succ, if_pos (HZ.out.2.1 h0)]
              exact this
          · have hb : (ux == 0) = false := by simpa using hu
            have hs := Lib.hid hu
            clear hu TL
            go_wp2
            go_meet
            case rel =>
              have h0 : ¬ cntF (nthF X ss 0) ts j = 0 := by have h1 := HU.out; have h2 := hs.out; omega
              refine ⟨by rw [← HZ.out.1, decide_eq_false h0]; simp, ?_⟩
              rw [allN_succ, if_neg (fun h => h0 (HZ.out.2.2 h))]
              exact HS.out
        case rest =>
          clear TL u0 HS HU
          obtain ⟨rfl, hS⟩ := hcut
          cases z
          · have hLz : r = false → allN X ss ts 1 = [] := fun hr => by
              have h1 := HZ.out.1
              rw [hr, Bool.not_false, Bool.and_true, decide_eq_false_iff_not] at h1
              rw [allN_succ, if_neg (fun h => h1 (HZ.out.2.2 h))]
              rfl
            have HS0 := Lib.hid (And.intro hS hLz)
            clear hS hLz HZ
            go_wp2
            go_loopw [40] (fun i wr => ∃ k : Nat, k ≤ m ∧ i = .int .i64 k ∧ EnS W0 a1 c1 j c cc gn gp gu t1 t2 r wr (nthF X ss k) ((cntF (nthF X ss k) ts j : Nat) : Int) (allN X ss ts (k + 1)) ∧ (r = false → allN X ss ts (k + 1) = [])) (fun i _ => m - (intOf i).toNat)
            case atStart => exact ⟨0, by omega, rfl, HS0.out.1, HS0.out.2⟩
            case round =>
              clear HS0
              obtain ⟨k, hk, rfl, hS, hLz⟩ := hrel
              by_cases hkm : k < m
              · obtain ⟨ab, off, rfl, hr⟩ := (HX.out.ext hS.ext) k (by rw [HN.out.2.1]; exact hkm)
                obtain ⟨⟨pl, dt⟩, hy⟩ : ∃ x, X.getD k (0, ByteArray.empty) = x := ⟨_, rfl⟩
                rw [hy] at hr
                have HY := Lib.hid (nthF_succ X ss (k := k) (by rw [HN.out.2.1]; exact hkm))
                rw [hy] at HY
                have hBa := Blk.new wr 28 #[.int .i64 0, .string ⟨#[]⟩]
                have hu2 := cntF_le (nthF X ss k) ts j
                have HD := Lib.hid (cntF_do (nthF X ss k) ts j (pl, dt) j (Nat.le_refl _))
                obtain ⟨d1, hd1⟩ : ∃ x, dif (nthF X ss k) ts j pl = x := ⟨_, rfl⟩
                have hd1' := dif_le (nthF X ss k) ts j pl
                rw [hd1] at hd1'
                have HD1 := Lib.hid hd1
                have HS := Lib.hid (And.intro hS hLz)
                obtain ⟨u, hu⟩ : ∃ u, cntF (nthF X ss k) ts j = u := ⟨_, rfl⟩
                have hgu := hS.cu.lt
                have hgp := hS.ord
                rw [hu] at HS HD hu2
                clear hS hLz hy hd1 hu
                go_upto_region 14 with (first
                  | (refine ch23_load rfl _ rfl rfl hr ?_)
                  | (refine ch23_store rfl _ _ rfl rfl rfl hBa rfl ?_; intro w6 hb6 hg6 hs6; have hE6 := new24 (World.grownBy_alloc wr (.cells #[.int .i64 0, .string ⟨#[]⟩] 28) none) hg6 (Nat.le_refl _); have HB6 := Lib.hid hb6; have HS6 := Lib.hid (HS.out.1.kept hE6); clear hBa hg6 hs6 hr hE6 hb6))
                obtain ⟨lb, hlb⟩ : ∃ z, wr.heap.size = z := ⟨_, rfl⟩
                rw [hlb] at HB6 hgu ⊢
                clear hlb
                have c0 := (HB6.out.cell 0).trans (show (ch24C (pl, dt))[0]? = some (.int .i64 pl) from rfl)
                have CT := count24 w6 HS6.out ts (H3.out.ext HS6.out.ext) HN.out.2.2 pl (-1) (by omega) (by omega)
                rw [HD1.out] at CT
                go_upto_region 15 with (go_at_call 18; refine CT.mono ?_; rintro e w7 ⟨rfl, hS7, hg7⟩; have HS7 := Lib.hid hS7; have HB7 := Lib.hid (HB6.out.kept hg7 (by simp; omega)); clear hS7 hg7)
                clear CT c0
                have hb7 := HB7.out.range24
                have hc8 : w7.cell? ⟨gp, 0, none⟩ = some (.slice a1 j c1) := HS7.out.cp.cell 0
                have DO := do24 w7 (gn + 1) a1 j c1 _ (pl, dt) HS7.out.row l1
                go_upto_region 16 with (first
                  | (refine ch23_load rfl _ rfl rfl hb7 ?_)
                  | (go_at_call 17; refine DO.mono ?_; rintro e w8 ⟨rfl, t8, hg8⟩; have HS8 := Lib.hid (HS7.out.done hg8 t8); have HB8 := Lib.hid (HS7.out.far_do hg8 HB7.out hgu); clear t8 hg8))
                clear DO hc8 hb7
                have c0 := (HB8.out.cell 0).trans (show (ch24C (pl, dt))[0]? = some (.int .i64 pl) from rfl)
                have CT := count24 w8 HS8.out ts (H3.out.ext HS8.out.ext) HN.out.2.2 pl 1 (by omega) (by omega)
                obtain ⟨d2, hd2⟩ : ∃ x, dif (doF (nthF X ss k) (pl, dt)) ts j pl = x := ⟨_, rfl⟩
                have HD2 := Lib.hid hd2
                rw [hd2] at CT
                clear hd2
                go_upto_region 17 with (go_at_call 18; refine CT.mono ?_; rintro e w9 ⟨rfl, hS9, hg9⟩; have HS9 := Lib.hid hS9; clear hS9 hg9)
                clear CT c0
                have hS9 : EnS W0 a1 c1 j c cc gn gp gu t1 t2 r w9 (nthF X ss (k + 1)) ((cntF (nthF X ss (k + 1)) ts j : Nat) : Int) (allN X ss ts (k + 1)) := by
                  have h1 := HS9.out
                  have h2 := HD.out
                  rw [HD1.out, HD2.out, HY.out] at h2
                  rw [HY.out, show (u : Int) + -1 * (d1 : Nat) + 1 * (d2 : Nat) = ((cntF (nthF X ss (k + 1)) ts j : Nat) : Int) by omega] at h1
                  exact h1
                have hA : cntF (nthF X ss (k + 1)) ts j = 0 ↔ aftR (X.take (k + 1)) ss = ts := by rw [cntF_zero HN.out.2.2, ← HN.out.1, nthF_aft]
                obtain ⟨z, hz⟩ : ∃ z, (decide (cntF (nthF X ss (k + 1)) ts j = 0) && !r) = z := ⟨_, rfl⟩
                have HZ := Lib.hid (And.intro hz hA)
                obtain ⟨ux, hux⟩ : ∃ x, ((cntF (nthF X ss (k + 1)) ts j : Nat) : Int) = x := ⟨_, rfl⟩
                have u0 : w9.cell? ⟨gu, 0, none⟩ = some (.int .i64 ux) := by rw [← hux]; exact hS9.cu.cell 0
                have TL := HTH.out (k + 1) _ _ w9 hS9.b1 hS9.b2
                rw [show ((k + 1 : Nat) : Int) = (k : Int) + 1 by omega] at TL
                have HU := Lib.hid hux
                have HT9 := Lib.hid (And.intro hS9 HS.out.2)
                clear hS9 hA hz hux HS9 HS8 HS7 HS6 HB6 HB7 HB8 HS HD HD1 HD2
                go_cut [64] (fun s wx => s = .bool z ∧ EnS W0 a1 c1 j c cc gn gp gu t1 t2 r wx (nthF X ss (k + 1)) ((cntF (nthF X ss (k + 1)) ts j : Nat) : Int) (allN X ss ts (k + 1 + 1)))
                case first =>
                  by_cases hu : ux = 0
                  · have hb : (ux == 0) = true := by simp [hu]
                    have hs := Lib.hid hu
                    clear hu
                    go_wp2_with (go_at_fn g; refine TL.mono ?_; rintro e w10 ⟨rfl, rfl⟩)
                    go_meet
                    case rel =>
                      have h0 : cntF (nthF X ss (k + 1)) ts j = 0 := by have h1 := HU.out; have h2 := hs.out; omega
                      refine ⟨by rw [← HZ.out.1, decide_eq_true h0]; simp, ?_⟩
                      have := HT9.out.1.told (k + 1) HT9.out.2
                      rw [allN_succ, if_pos (HZ.out.2.1 h0)]
                      exact this
                  · have hb : (ux == 0) = false := by simpa using hu
                    have hs := Lib.hid hu
                    clear hu TL
                    go_wp2
                    go_meet
                    case rel =>
                      have h0 : ¬ cntF (nthF X ss (k + 1)) ts j = 0 := by have h1 := HU.out; have h2 := hs.out; omega
                      refine ⟨by rw [← HZ.out.1, decide_eq_false h0]; simp, ?_⟩
                      rw [allN_succ, if_neg (fun h => h0 (HZ.out.2.2 h))]
                      exact HT9.out.1
                case rest =>
                  clear TL u0 HU
                  obtain ⟨rfl, hS⟩ := hcut
                  cases z
                  · have hLz : r = false → allN X ss ts (k + 1 + 1) = [] := fun hr => by
                      have h1 := HZ.out.1
                      rw [hr, Bool.not_false, Bool.and_true, decide_eq_false_iff_not] at h1
                      rw [allN_succ, if_neg (fun h => h1 (HZ.out.2.2 h))]
                      exact HT9.out.2 hr
                    have HS0 := Lib.hid (And.intro hS hLz)
                    clear hS hLz HZ HT9
                    go_wp2
                    go_roundw
                    case rel => exact ⟨k + 1, by omega, by go_num, HS0.out.1, HS0.out.2⟩
                    case measure => simp [intOf]; omega
                  · have hr : r = false ∧ allN X ss ts (k + 1 + 1) ≠ [] := by
                      have h1 := HZ.out.1
                      rw [Bool.and_eq_true, decide_eq_true_eq] at h1
                      refine ⟨by simpa using h1.2, ?_⟩
                      rw [allN_succ, if_pos (HZ.out.2.1 h1.1)]
                      simp
                    obtain ⟨R, hR⟩ := allN_pre X ss ts (k + 1 + 1) (m - (k + 1))
                    rw [show k + 1 + 1 + (m - (k + 1)) = m + 1 by omega] at hR
                    have HR := Lib.hid (And.intro hr (And.intro hR hS))
                    clear hS hr hR HZ HT9
                    go_wp2
                    refine bodyPost_ret (results_none rfl _ _ _) rfl ?_
                    have h1 := HR.out.2.2
                    exact ⟨rfl, by rw [HR.out.2.1]; exact EndP.first ⟨h1.b1, h1.b2⟩ HR.out.1.1 HR.out.1.2, h1.ext⟩
              · obtain rfl : k = m := by omega
                go_wp2
                go_end0
                exact ⟨rfl, ⟨hS.b1, hS.b2⟩, hS.ext⟩
          · have hr : r = false ∧ allN X ss ts 1 ≠ [] := by
              have h1 := HZ.out.1
              rw [Bool.and_eq_true, decide_eq_true_eq] at h1
              refine ⟨by simpa using h1.2, ?_⟩
              rw [allN_succ, if_pos (HZ.out.2.1 h1.1)]
              simp
            obtain ⟨R, hR⟩ := allN_pre X ss ts 1 m
            have HR := Lib.hid (And.intro hr (And.intro hR hS))
            clear hS hr hR HZ
            go_wp2
            refine bodyPost_ret (results_none rfl _ _ _) rfl ?_
            have h1 := HR.out.2.2
            exact ⟨rfl, by rw [Nat.add_comm m 1, HR.out.2.1]; exact EndP.first ⟨h1.b1, h1.b2⟩ HR.out.1.1 HR.out.1.2, h1.ext⟩
  · have HZ := Lib.hid (allN_none X (ss := ss) (ts := ts) (by omega) (m + 1))
    have hne : ((n : Int) != (q : Int)) = true := by simp; omega
    have HB := Lib.hid (show EndP r t1 t2 [] (w.alloc (.cells #[.slice c q cc] 22)) ∧ W0.grownBy (w.alloc (.cells #[.slice c q cc] 22)) none from ⟨⟨by have := hb1.ext hE1; cases r <;> exact this, hb2.ext hE1⟩, ext_trans hW hE1⟩)
    rw [hn, hm, hq]
    clear HT h1 h2 h3 s1 s2 l1 l2 l3 hb1 hb2 hW ht hE1 hn hm hq hl eg
    have hc6 := hBn.cell 0
    go_enter Try.func13, Try.ntmps13
    go_wp2
    refine bodyPost_ret (results_none rfl _ _ _) rfl ?_
    exact ⟨rfl, by rw [HZ.out]; exact HB.out.1, HB.out.2⟩

theorem Try.eg24a : ∀ args w, (callFunc 14 args).run Try.prog w = .ok (.enter 14 args) w := enters_of Try.func14 (by kernel_rfl) rfl
theorem Try.eg24b : ∀ args w, (callFunc 15 args).run Try.prog w = .ok (.enter 15 args) w := enters_of Try.func15 (by kernel_rfl) rfl
theorem tell_a (t1 t2 : Nat) (hne : t1 < t2) : TelC 14 false t1 t2 := fun k u v w h1 h2 => by
  have c1 := h1.cell 0
  have f1 := h1.free 0
  have hg : w.grownBy (w.setCell ⟨t1, 0, none⟩ (.int .i64 k)) (some t1) := gb_set (gb_refl w _) _ _
  have hb := h2.kept hg (by simp; omega)
  have c2 := hb.cell 0
  have f2 := hb.free 0
  clear h1 h2 hg hb
  go_enter Try.func14, Try.ntmps14
  go_wp2
  go_ret
  exact ⟨rfl, rfl⟩
theorem tell_b (t1 t2 : Nat) (hne : t1 < t2) : TelC 15 true t1 t2 := fun k u v w h1 h2 => by
  have c1 := h1.cell 0
  have f1 := h1.free 0
  have hg : w.grownBy (w.setCell ⟨t1, 0, none⟩ (.int .i64 k)) (some t1) := gb_set (gb_refl w _) _ _
  have hb := h2.kept hg (by simp; omega)
  have c2 := hb.cell 0
  have f2 := hb.free 0
  clear h1 h2 hg hb
  go_enter Try.func15, Try.ntmps15
  go_wp2
  go_ret
  exact ⟨rfl, rfl⟩

set_option maxHeartbeats 1600000 in
theorem find_c : FinC := fun w a b c ca cb cc ss ts X h1 s1 h2 s2 h3 s3 l1 l2 l3 => by
  obtain ⟨w1, hw1⟩ : ∃ z, (w.alloc (.cells #[.int .i64 0] 3)).alloc (.cells #[.bool false] 4) = z := ⟨_, rfl⟩
  have g1 := World.grownBy_alloc w (.cells #[.int .i64 0] 3) none
  have g2 := World.grownBy_alloc (w.alloc (.cells #[.int .i64 0] 3)) (.cells #[.bool false] 4) none
  have b1 := (Blk.new w 3 #[.int .i64 0]).ext g2
  have b2 := Blk.newAt (w.alloc (.cells #[.int .i64 0] 3)) (w.heap.size + 1) (by simp) 4 #[.bool false]
  have g3 := ext_trans g1 g2
  rw [hw1] at b1 b2 g3
  obtain ⟨L, hL⟩ : ∃ L, allN X ss ts (X.length + 1) = L := ⟨_, rfl⟩
  have EN := ends24 false 14 Try.eg24a w.heap.size (w.heap.size + 1) (tell_a _ _ (by omega)) w w1 g3 ⟨Nat.le_refl _, by omega⟩ b1 b2 a b c ca cb cc ss ts X h1 s1 h2 s2 h3 l1 l2 l3
  rw [hL] at EN ⊢
  obtain ⟨k, hk⟩ : ∃ k : Int, selL false L = k := ⟨_, rfl⟩
  obtain ⟨q, hq⟩ : ∃ q, decide (L ≠ []) = q := ⟨_, rfl⟩
  have HK := Lib.hid (And.intro (show ((L.headD 0 : Nat) : Int) = k from hk) hq)
  have hmf := Try.hmf24
  clear h1 h2 h3 s1 s2 s3 l1 l2 l3 g1 g2 b1 b2 g3 hL
  have HW1 := Lib.hid hw1
  clear hw1
  go_enter Try.func8, Try.ntmps8
  go_upto_region 2 with fail
  rw [HW1.out]
  go_upto_region 3 with (go_at_call 13; refine EN.mono ?_; rintro e w2 ⟨rfl, hP, hE⟩; have HE2 := Lib.hid hE; have c1 : w2.cell? ⟨w.heap.size, 0, none⟩ = some (.int .i64 k) := (by rw [← hk]; exact hP.1.cell 0); have c2 : w2.cell? ⟨w.heap.size + 1, 0, none⟩ = some (.bool q) := (by rw [← hq]; exact hP.2.cell 0); clear hP hE)
  clear EN hk hq
  have hC : w2.drew.cell? ⟨w.heap.size, 0, none⟩ = some (.int .i64 k) ∧ w2.drew.cell? ⟨w.heap.size + 1, 0, none⟩ = some (.bool q) := ⟨c1, c2⟩
  clear c1 c2
  refine region_line [(0, true), (1, true), (2, true), (3, true)] (fun z => z.cell? ⟨w.heap.size, 0, none⟩ = some (.int .i64 k) ∧ z.cell? ⟨w.heap.size + 1, 0, none⟩ = some (.bool q)) (by kernel_rfl) (by kernel_rfl) (fun _ _ _ d _ h => by cases d <;> exact h) hC ?_
  repeat (refine line_read (a' := ?_) rfl (by kernel_rfl) (by kernel_rfl) hC (fun z hz K hK => ?_) ?_; rotate_left; · obtain ⟨d0, d1⟩ := hz; go_wp2; exact hK)
  refine line_end ?_
  clear hC
  go_wp2
  refine bodyPost_ret (v := .tuple #[.int .i64 k, .bool q]) (by simp [results, Try.results8, go_sem]) rfl ?_
  exact ⟨by rw [HK.out.1, HK.out.2], gb_drew HE2.out⟩

set_option maxHeartbeats 1600000 in
theorem long_c : LonC := fun w a b c ca cb cc ss ts X h1 s1 h2 s2 h3 s3 l1 l2 l3 => by
  obtain ⟨w1, hw1⟩ : ∃ z, (w.alloc (.cells #[.int .i64 0] 3)).alloc (.cells #[.bool false] 4) = z := ⟨_, rfl⟩
  have g1 := World.grownBy_alloc w (.cells #[.int .i64 0] 3) none
  have g2 := World.grownBy_alloc (w.alloc (.cells #[.int .i64 0] 3)) (.cells #[.bool false] 4) none
  have b1 := (Blk.new w 3 #[.int .i64 0]).ext g2
  have b2 := Blk.newAt (w.alloc (.cells #[.int .i64 0] 3)) (w.heap.size + 1) (by simp) 4 #[.bool false]
  have g3 := ext_trans g1 g2
  rw [hw1] at b1 b2 g3
  obtain ⟨L, hL⟩ : ∃ L, allN X ss ts (X.length + 1) = L := ⟨_, rfl⟩
  have EN := ends24 true 15 Try.eg24b w.heap.size (w.heap.size + 1) (tell_b _ _ (by omega)) w w1 g3 ⟨Nat.le_refl _, by omega⟩ b1 b2 a b c ca cb cc ss ts X h1 s1 h2 s2 h3 l1 l2 l3
  rw [hL] at EN ⊢
  obtain ⟨k, hk⟩ : ∃ k : Int, selL true L = k := ⟨_, rfl⟩
  obtain ⟨q, hq⟩ : ∃ q, decide (L ≠ []) = q := ⟨_, rfl⟩
  have HK := Lib.hid (And.intro (show ((L.getLastD 0 : Nat) : Int) = k from hk) hq)
  have hmf := Try.hmf24
  clear h1 h2 h3 s1 s2 s3 l1 l2 l3 g1 g2 b1 b2 g3 hL
  have HW1 := Lib.hid hw1
  clear hw1
  go_enter Try.func9, Try.ntmps9
  go_upto_region 2 with fail
  rw [HW1.out]
  go_upto_region 3 with (go_at_call 13; refine EN.mono ?_; rintro e w2 ⟨rfl, hP, hE⟩; have HE2 := Lib.hid hE; have c1 : w2.cell? ⟨w.heap.size, 0, none⟩ = some (.int .i64 k) := (by rw [← hk]; exact hP.1.cell 0); have c2 : w2.cell? ⟨w.heap.size + 1, 0, none⟩ = some (.bool q) := (by rw [← hq]; exact hP.2.cell 0); clear hP hE)
  clear EN hk hq
  have hC : w2.drew.cell? ⟨w.heap.size, 0, none⟩ = some (.int .i64 k) ∧ w2.drew.cell? ⟨w.heap.size + 1, 0, none⟩ = some (.bool q) := ⟨c1, c2⟩
  clear c1 c2
  refine region_line [(0, true), (1, true), (2, true), (3, true)] (fun z => z.cell? ⟨w.heap.size, 0, none⟩ = some (.int .i64 k) ∧ z.cell? ⟨w.heap.size + 1, 0, none⟩ = some (.bool q)) (by kernel_rfl) (by kernel_rfl) (fun _ _ _ d _ h => by cases d <;> exact h) hC ?_
  repeat (refine line_read (a' := ?_) rfl (by kernel_rfl) (by kernel_rfl) hC (fun z hz K hK => ?_) ?_; rotate_left; · obtain ⟨d0, d1⟩ := hz; go_wp2; exact hK)
  refine line_end ?_
  clear hC
  go_wp2
  refine bodyPost_ret (v := .tuple #[.int .i64 k, .bool q]) (by simp [results, Try.results9, go_sem]) rfl ?_
  exact ⟨by rw [HK.out.1, HK.out.2], gb_drew HE2.out⟩

/-- Changes that came in. -/
theorem chT_recs {w : World} {a : Option Addr} {len cap : Nat} (h : IsRecs [.inl .i64, .inr true] w a len cap) (hs : ∀ x, a = some x → x.spot = none) : ∃ X : List (Int × ByteArray), X.length = len ∧ ChT w a X ∧ Sl a len cap := by
  refine chT_of ?_ hs
  rcases h with h | ⟨x, h1, h2, h3, h4⟩
  · exact .inl h
  · refine .inr ⟨x, h1, h2, h3, fun i hi j k hk => ?_⟩
    match j, hk with
    | 0, hk =>
      cases hk
      obtain ⟨v, hv, hf⟩ := h4 i hi 0 _ rfl
      exact ⟨v, hv, hf⟩
    | 1, hk =>
      cases hk
      obtain ⟨v, hv, hf⟩ := h4 i hi 1 _ rfl
      exact ⟨v, hv, hf⟩
    | j + 2, hk => simp at hk

end Go.Proofs.Ythailmoeggdfhaa
