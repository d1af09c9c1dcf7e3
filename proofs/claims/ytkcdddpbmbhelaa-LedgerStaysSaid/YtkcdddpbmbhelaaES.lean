/-
  Package ledger: Check.
-/
import Derived.Test.YtkcdddpbmbhelaaER
namespace Go.Proofs.Ytkcdddpbmbhelaa
open Go.RowKit Go.Maps

theorem checkDo_any (x : Ten) (v : Value) (b nb pb : Nat) (L : Led) (V : Nat → Value) (n p : Int) (w : World) (hI : Ints w v x.bs) (hm : x.bs.length ≤ 1048576) (hb : Blk w b 27 (ledC L V)) (hn : w.cell? ⟨nb, 0, none⟩ = some (.int .i64 n)) (hp : w.cell? ⟨pb, 0, none⟩ = some (.int .i64 p)) :
    Calls Try.prog 32 #[.agg (tenC x v), .pointer (some ⟨b, 0, none⟩), .pointer (some ⟨nb, 0, none⟩), .pointer (some ⟨pb, 0, none⟩)] w fun e w' => e = .returned (.bool (!rightT x L.eps n p)) ∧ Ext w w' := by
  have hE := World.grownBy_alloc w (.cells (tenC x v) 24) none
  have hbt := Blk.new w 24 (tenC x v)
  have ce := ((hb.ext hE).cell 1).trans (led_eps L V)
  have cn := hE.cell hn (by simp)
  have cp := hE.cell hp (by simp)
  have R := isRight_any x v L.eps n p _ (hI.kept hE (by simp)) hm
  have HE := Lib.hid hE
  clear hE hb hn hp hI
  go_enter Try.func32, Try.ntmps32
  go_wp2_with (first
    | (refine ten_load _ rfl rfl hbt rfl ?_)
    | (go_at_call 33; refine R.mono ?_; rintro e w' ⟨rfl, hE2⟩; have HE2 := Lib.hid hE2; clear hE2))
  go_ret
  exact ⟨rfl, ext_trans HE.out HE2.out⟩

def wrongP (L : Led) (n p : Int) (j : Nat) : Bool := !rightT (L.t j) L.eps n p

set_option maxHeartbeats 800000 in
theorem indexCheck_any (L : Led) (V : Nat → Value) (b nb pb : Nat) (n p : Int) (w : World) (hb : Blk w b 27 (ledC L V)) (hL : LedIs w L V) (hm : ∀ j, j < 4 → (L.t j).bs.length ≤ 1048576) (hn : w.cell? ⟨nb, 0, none⟩ = some (.int .i64 n)) (hp : w.cell? ⟨pb, 0, none⟩ = some (.int .i64 p)) :
    Calls Try.prog 28 #[.slice (some ⟨b, 2, none⟩) 4 4, .func (.func 32) #[] #[.pointer (some ⟨b, 0, none⟩), .pointer (some ⟨nb, 0, none⟩), .pointer (some ⟨pb, 0, none⟩)]] w fun e w' => e = .returned (.int .i64 (firstB (wrongP L n p))) ∧ Ext w w' := by
  have HB := Lib.hid hb
  have HL := Lib.hid hL
  have HX := Lib.hid (And.intro hn hp)
  clear hb hL hn hp
  go_enter Try.func28, Try.ntmps28
  go_wp2
  go_loopw [8] (fun i wr => ∃ k : Nat, k ≤ 4 ∧ i = .int .i64 k ∧ (∀ j, j < k → wrongP L n p j = false) ∧ Ext w wr) (fun i _ => 4 - (intOf i).toNat)
  case atStart => exact ⟨0, by omega, rfl, fun j hj => by omega, Ext.refl w⟩
  case round =>
    obtain ⟨k, hk, rfl, hnot, hE⟩ := hrel
    have NOT := Lib.hid hnot
    clear hnot
    by_cases hlt : k < 4
    · have hb1 := HB.out.ext hE
      have D := checkDo_any (L.t k) (V k) b nb pb L V n p wr ((HL.out k hlt).kept hE (by simp)) (hm k hlt) hb1 (hE.cell HX.out.1 (by simp)) (hE.cell HX.out.2 (by simp))
      obtain ⟨q, hq⟩ : ∃ q, (!rightT (L.t k) L.eps n p) = q := ⟨_, rfl⟩
      rw [hq] at D
      have HP := Lib.hid (show wrongP L n p k = q from hq)
      have HE := Lib.hid hE
      clear hq hE hm
      cases q
      · go_wp2_with (first
          | (refine ten_load_in _ rfl hlt rfl hb1 rfl ?_)
          | (go_at_call 32; refine D.mono ?_; rintro e w2 ⟨rfl, hE2⟩; have HE2 := Lib.hid (ext_trans HE.out hE2); clear hE2))
        go_roundw
        case rel =>
          refine ⟨k + 1, by omega, by go_num, fun j hj => ?_, HE2.out⟩
          by_cases e : j = k
          · subst e; exact HP.out
          · exact NOT.out j (by omega)
        case measure => simp [intOf]; omega
      · have HO := Lib.hid (firstB_at (p := wrongP L n p) hlt HP.out NOT.out)
        go_wp2_with (first
          | (refine ten_load_in _ rfl hlt rfl hb1 rfl ?_)
          | (go_at_call 32; refine D.mono ?_; rintro e w2 ⟨rfl, hE2⟩; have HE2 := Lib.hid (ext_trans HE.out hE2); clear hE2))
        go_ret
        exact ⟨ret_int (by rw [HO.out]), HE2.out⟩
    · obtain rfl : k = 4 := by omega
      have HO := Lib.hid (firstB_no (p := wrongP L n p) NOT.out)
      go_wp2
      go_ret
      exact ⟨ret_int (by rw [HO.out]), hE⟩

def someB (p : Nat → Bool) : Bool := p 0 || p 1 || p 2 || p 3
theorem firstB_some (p : Nat → Bool) : decide (0 ≤ firstB p) = someB p := by
  unfold firstB someB
  cases p 0 <;> cases p 1 <;> cases p 2 <;> cases p 3 <;> simp

theorem containsCheck_any (L : Led) (V : Nat → Value) (b nb pb : Nat) (n p : Int) (w : World) (hb : Blk w b 27 (ledC L V)) (hL : LedIs w L V) (hm : ∀ j, j < 4 → (L.t j).bs.length ≤ 1048576) (hn : w.cell? ⟨nb, 0, none⟩ = some (.int .i64 n)) (hp : w.cell? ⟨pb, 0, none⟩ = some (.int .i64 p)) :
    Calls Try.prog 34 #[.slice (some ⟨b, 2, none⟩) 4 4, .func (.func 32) #[] #[.pointer (some ⟨b, 0, none⟩), .pointer (some ⟨nb, 0, none⟩), .pointer (some ⟨pb, 0, none⟩)]] w fun e w' => e = .returned (.bool (someB (wrongP L n p))) ∧ Ext w w' := by
  have I := indexCheck_any L V b nb pb n p w hb hL hm hn hp
  have HS := Lib.hid (firstB_some (wrongP L n p))
  obtain ⟨r, hr⟩ : ∃ r, firstB (wrongP L n p) = r := ⟨_, rfl⟩
  rw [hr] at I HS
  clear hb hL hm hn hp hr
  go_enter Try.func34, Try.ntmps34
  go_wp2_with (go_at_call 28; refine I.mono ?_; rintro e w' ⟨rfl, hE2⟩; have HE2 := Lib.hid hE2; clear hE2)
  go_ret
  exact ⟨ret_bool HS.out, HE2.out⟩

def epochsTo (L : Led) : Nat → List Int
  | 0 => []
  | k + 1 => if (L.t k).th = true then epochsTo L k ++ [(L.t k).ep] else epochsTo L k
def epochsL (L : Led) : List Int := epochsTo L 4
theorem epochsTo_len (L : Led) : ∀ k, (epochsTo L k).length ≤ k
  | 0 => by simp [epochsTo]
  | k + 1 => by
    have := epochsTo_len L k
    unfold epochsTo
    split
    · simp; omega
    · omega
theorem epochsTo_wf {L : Led} (h : ∀ j, j < 4 → (Lit.int .i64 (L.t j).ep).wf = true) : ∀ k, k ≤ 4 → WfL (epochsTo L k)
  | 0, _ => fun n hn => by simp [epochsTo] at hn
  | k + 1, hk => fun n hn => by
    unfold epochsTo at hn
    split at hn
    · rcases List.mem_append.1 hn with hn | hn
      · exact epochsTo_wf h k (by omega) n hn
      · simp at hn; subst hn; exact h k (by omega)
    · exact epochsTo_wf h k (by omega) n hn

set_option maxHeartbeats 1600000 in
theorem epochs10_any (L : Led) (V : Nat → Value) (w : World) (hL : LedIs w L V) :
    Calls Try.prog 36 #[.agg (ledC L V)] w fun e w' => ∃ v, e = .returned v ∧ OwnI w.heap.size w' v (epochsL L) ∧ Ext w w' := by
  have hb := Blk.new w 27 (ledC L V)
  have hE0 := World.grownBy_alloc w (.cells (ledC L V) 27) none
  obtain ⟨w1, hw1⟩ : ∃ v, w.alloc (.cells (ledC L V) 27) = v := ⟨_, rfl⟩
  rw [hw1] at hb hE0
  have HL := Lib.hid (hL.slices)
  have HE0 := Lib.hid hE0
  clear hL hE0
  go_enter Try.func36, Try.ntmps36
  go_wp2_with (refine tens_load _ rfl rfl hb rfl ?_)
  clear hw1 hb
  go_loopw [3, 8] (fun x i wr => ∃ (k : Nat) (v : Value), k ≤ 4 ∧ v = x ∧ i = .int .i64 k ∧ OwnI w1.heap.size wr v (epochsTo L k) ∧ Ext w1 wr) (fun _ i _ => 4 - (intOf i).toNat)
  case atStart => exact ⟨0, _, by omega, rfl, rfl, World.ownsRow_nil w1 _ _ _, Ext.refl w1⟩
  case round =>
    obtain ⟨k, v, hk, hvx, rfl, hO, hE1⟩ := hrel
    subst hvx
    have HO := Lib.hid hO
    have HE1 := Lib.hid hE1
    clear hO hE1
    by_cases hlt : k < 4
    · have hix := tens_at L V hlt
      have hS := HL.out k hlt
      have hBn := Blk.new wr 24 zeroTC
      have HLEN := Lib.hid (epochsTo_len L k)
      obtain ⟨ep, hep⟩ : ∃ n, (L.t k).ep = n := ⟨_, rfl⟩
      have HEP := Lib.hid hep
      obtain ⟨th, hth⟩ : ∃ b, (L.t k).th = b := ⟨_, rfl⟩
      have HTH := Lib.hid hth
      clear hep hth
      cases th
      · go_wp2_with (refine ten_store _ _ rfl rfl rfl hBn rfl hS rfl ?_; intro w6 hb6 hg6 hs6; clear hBn hs6; have c0 := (hb6.cell 0).trans (ten_th _ _); rw [HTH.out] at c0; have HG6 := Lib.hid (grown_trans (World.grownBy_alloc wr (.cells zeroTC 24) none) hg6 (fun p hp hlt => by injection hp with hp; omega)); clear hg6 hb6)
        go_roundw
        case rel => exact ⟨k + 1, _, by omega, rfl, by go_num, by unfold epochsTo; rw [HTH.out]; exact own_kept HO.out HG6.out (by simp), ext_trans HE1.out HG6.out⟩
        case measure => simp [intOf]; omega
      · go_wp2_with (first
          | (refine ten_store _ _ rfl rfl rfl hBn rfl hS rfl ?_; intro w6 hb6 hg6 hs6; clear hBn hs6; have c0 := (hb6.cell 0).trans (ten_th _ _); rw [HTH.out] at c0; have c1 := (hb6.cell 1).trans (ten_ep _ _); rw [HEP.out] at c1; have HG6 := Lib.hid (grown_trans (World.grownBy_alloc wr (.cells zeroTC 24) none) hg6 (fun p hp hlt => by injection hp with hp; omega)); clear hg6 hb6)
          | (at_builtin; go_loud (refine append_ints rfl _ _ rfl w1.heap.size v (epochsTo L k) rfl (own_kept HO.out (ext_trans HG6.out (World.grownBy_alloc w6 (.cells #[.int .i64 ep] 3) none)) (by simp)) (.slice (some ⟨w6.heap.size, 0, none⟩) 1 1) [ep] rfl (ints_one w6 ep 3) ?_ ?_ ?_); (have hq := HLEN.out; simp only [List.length_cons, List.length_nil]; omega); (have hq := HE1.out.size; have hq2 := HG6.out.size; simp; omega); intro v7 w7 ho7 hg7 _; have HO7 := Lib.hid ho7; have HE7 := Lib.hid (ext_own (ext_trans HE1.out (ext_trans HG6.out (World.grownBy_alloc w6 (.cells #[.int .i64 ep] 3) none))) (own_kept HO.out (ext_trans HG6.out (World.grownBy_alloc w6 (.cells #[.int .i64 ep] 3) none)) (by simp)) (Nat.le_refl _) hg7); clear ho7 hg7))
        go_roundw
        case rel => exact ⟨k + 1, _, by omega, rfl, by go_num, by unfold epochsTo; rw [HTH.out, HEP.out]; exact HO7.out, HE7.out⟩
        case measure => simp [intOf]; omega
    · obtain rfl : k = 4 := by omega
      go_wp2
      go_ret
      exact ⟨_, rfl, ownsRow_le HO.out HE0.out.size, ext_trans HE0.out HE1.out⟩

/-- Does a number stand twice? -/
def repB (xs : List Int) : Bool := decide (((xs.map (Lit.int .i64)).foldl addKey []).length < xs.length)

set_option maxHeartbeats 800000 in
theorem repeats10_any (v : Value) (xs : List Int) (w : World) (hI : Ints w v xs) (hm : xs.length ≤ 16777216) (hwf : WfL xs) :
    Calls Try.prog 35 #[v] w fun e w' => e = .returned (.bool (repB xs)) ∧ Ext w w' := by
  have S := set10_any v xs w hI hm hwf
  have HS := Lib.hid (size_setOf (H := Unit) (.agg []) (xs.map (Lit.int .i64)) (fun y hy => by obtain ⟨n, _, rfl⟩ := List.mem_map.1 hy; trivial))
  obtain ⟨ao, cp, _, _, rfl, _⟩ := hI.form
  obtain ⟨z, hz⟩ : ∃ z, ((xs.map (Lit.int .i64)).foldl addKey []).length = z := ⟨_, rfl⟩
  rw [hz] at HS
  have HZ := Lib.hid hz
  clear hI hwf hz
  go_enter Try.func35, Try.ntmps35
  go_wp2_with (first
    | (go_at_call 16; refine S.mono ?_; rintro e w2 ⟨mb, rfl, hM, _, hE⟩; have HE := Lib.hid hE; have hlen := hM.len (t := 43) Try.underlying43 3; rw [show Maps.size (setD xs) = z from HS.out] at hlen; clear hE hM))
  go_ret
  exact ⟨ret_bool (by unfold repB; rw [HZ.out]), HE.out⟩

/-- May a ledger be? -/
def rightL (L : Led) (n p : Int) : Bool := inB L.gen 0 2147483647 && inB L.eps 0 2147483647 && !someB (wrongP L n p) && !repB (epochsL L) && !repB (takenL L)

structure GoodL (L : Led) : Prop where
  len : ∀ j, j < 4 → (L.t j).bs.length ≤ 1048576
  wf : ∀ j, j < 4 → WfL (L.t j).bs
  wfe : ∀ j, j < 4 → (Lit.int .i64 (L.t j).ep).wf = true

set_option maxHeartbeats 3200000 in
theorem check10_any (L : Led) (V : Nat → Value) (n p : Int) (w : World) (hL : LedIs w L V) (hG : GoodL L) :
    Calls Try.prog 13 #[.agg (ledC L V), .int .i64 n, .int .i64 p] w fun e w' => e = .returned (.int .i64 (if rightL L n p = true then 0 else 2)) ∧ Ext w w' := by
  have hb := ((Blk.new w 27 (ledC L V)).alloc (.cells #[.int .i64 n] 3)).alloc (.cells #[.int .i64 p] 3)
  have hn := ((Blk.newAt (w.alloc (.cells (ledC L V) 27)) (w.heap.size + 1) (by simp) 3 #[.int .i64 n]).alloc (.cells #[.int .i64 p] 3)).cell 0
  have hp := (Blk.newAt ((w.alloc (.cells (ledC L V) 27)).alloc (.cells #[.int .i64 n] 3)) (w.heap.size + 2) (by simp) 3 #[.int .i64 p]).cell 0
  have hE := grown_alloc (grown_alloc (World.grownBy_alloc w (.cells (ledC L V) 27) none) (.cells #[.int .i64 n] 3)) (.cells #[.int .i64 p] 3)
  obtain ⟨w1, hw1⟩ : ∃ v, ((w.alloc (.cells (ledC L V) 27)).alloc (.cells #[.int .i64 n] 3)).alloc (.cells #[.int .i64 p] 3) = v := ⟨_, rfl⟩
  rw [hw1] at hb hn hp hE
  have hL1 := hL.ext hE
  have C := containsCheck_any L V w.heap.size (w.heap.size + 1) (w.heap.size + 2) n p w1 hb hL1 hG.len hn hp
  have EP := fun w2 (h : Ext w1 w2) => epochs10_any L V w2 (hL1.ext h)
  have TK := fun w2 (h : Ext w1 w2) => taken10_any L V w2 (hL1.ext h) hG.len
  have RE := fun v w2 (h : Ints w2 v (epochsL L)) => repeats10_any v (epochsL L) w2 h (by have := epochsTo_len L 4; show (epochsTo L 4).length ≤ _; omega) (epochsTo_wf hG.wfe 4 (by omega))
  have RT := fun v w2 (h : Ints w2 v (takenL L)) => repeats10_any v (takenL L) w2 h (by have := takenTo_len hG.len 4 (by omega); show (takenTo L 4).length ≤ _; omega) (takenTo_wf hG.wf 4 (by omega))
  have cg := (hb.cell 0).trans (led_gen L V)
  have ce := (hb.cell 1).trans (led_eps L V)
  have HE := Lib.hid hE
  have HB := Lib.hid hb
  clear hL hL1 hE hn hp hG
  unfold rightL
  obtain ⟨g, hg⟩ : ∃ g, inB L.gen 0 2147483647 = g := ⟨_, rfl⟩
  obtain ⟨e, he⟩ : ∃ e, inB L.eps 0 2147483647 = e := ⟨_, rfl⟩
  obtain ⟨q, hq⟩ : ∃ q, someB (wrongP L n p) = q := ⟨_, rfl⟩
  obtain ⟨r, hr⟩ : ∃ r, repB (epochsL L) = r := ⟨_, rfl⟩
  obtain ⟨s, hs⟩ : ∃ s, repB (takenL L) = s := ⟨_, rfl⟩
  have HGQ := Lib.hid hg
  have HEQ := Lib.hid he
  rw [hg, he]
  rw [hq] at C ⊢
  rw [hr] at RE ⊢
  rw [hs] at RT ⊢
  clear hg he hq hr hs
  cases g
  · go_enter Try.func13, Try.ntmps13
    go_wp2_with (go_at_call 31; refine (within10_any _ _ _ _).mono ?_; rintro e w' ⟨rfl, rfl⟩; first | rw [HGQ.out] | rw [HEQ.out])
    go_ret
    exact ⟨ret_int (by simp), HE.out⟩
  · cases e
    · go_enter Try.func13, Try.ntmps13
      go_wp2_with (first
        | (go_at_call 31; refine (within10_any _ _ _ _).mono ?_; rintro e w' ⟨rfl, rfl⟩; first | rw [HGQ.out] | rw [HEQ.out]))
      go_ret
      exact ⟨ret_int (by simp), HE.out⟩
    · cases q
      · cases r
        · cases s
          all_goals
            go_enter Try.func13, Try.ntmps13
            go_wp2_with (first
              | (go_at_call 31; refine (within10_any _ _ _ _).mono ?_; rintro e w' ⟨rfl, rfl⟩; first | rw [HGQ.out] | rw [HEQ.out])
              | (go_at_call 34; refine C.mono ?_; rintro e w2 ⟨rfl, hE2⟩; have HE2 := Lib.hid hE2; have hb2 := hb.ext hE2; clear hE2)
              | (refine led_load _ rfl rfl hb2 rfl ?_)
              | (go_at_call 36; refine (EP _ HE2.out).mono ?_; rintro e w3 ⟨v3, rfl, ho3, hE3⟩; have HE3 := Lib.hid (ext_trans HE2.out hE3); have HI3 := Lib.hid (owns_ints rfl ho3); clear ho3 hE3)
              | (go_at_call 35; have hq5 := HI5; (with_reducible refine (RT _ _ HI5.out).mono ?_); rintro e w6 ⟨rfl, hE6⟩; have HE6 := Lib.hid (ext_trans HE5.out hE6); clear hE6)
              | (go_at_call 35; (with_reducible refine (RE _ _ HI3.out).mono ?_); rintro e w4 ⟨rfl, hE4⟩; have HE4 := Lib.hid (ext_trans HE3.out hE4); have hb4 := hb.ext (ext_trans HE3.out hE4); clear hE4)
              | (refine led_load _ rfl rfl hb4 rfl ?_)
              | (go_at_call 17; refine (TK _ HE4.out).mono ?_; rintro e w5 ⟨v5, rfl, ho5, hE5⟩; have HE5 := Lib.hid (ext_trans HE4.out hE5); have HI5 := Lib.hid (owns_ints rfl ho5); clear ho5 hE5))
            go_ret
            exact ⟨ret_int (by simp), ext_trans HE.out HE6.out⟩
        · go_enter Try.func13, Try.ntmps13
          go_wp2_with (first
            | (go_at_call 31; refine (within10_any _ _ _ _).mono ?_; rintro e w' ⟨rfl, rfl⟩; first | rw [HGQ.out] | rw [HEQ.out])
            | (go_at_call 34; refine C.mono ?_; rintro e w2 ⟨rfl, hE2⟩; have HE2 := Lib.hid hE2; have hb2 := hb.ext hE2; clear hE2)
            | (refine led_load _ rfl rfl hb2 rfl ?_)
            | (go_at_call 36; refine (EP _ HE2.out).mono ?_; rintro e w3 ⟨v3, rfl, ho3, hE3⟩; have HE3 := Lib.hid (ext_trans HE2.out hE3); have HI3 := Lib.hid (owns_ints rfl ho3); clear ho3 hE3)
            | (go_at_call 35; (with_reducible refine (RE _ _ HI3.out).mono ?_); rintro e w4 ⟨rfl, hE4⟩; have HE4 := Lib.hid (ext_trans HE3.out hE4); clear hE4))
          go_ret
          exact ⟨ret_int (by simp), ext_trans HE.out HE4.out⟩
      · go_enter Try.func13, Try.ntmps13
        go_wp2_with (first
          | (go_at_call 31; refine (within10_any _ _ _ _).mono ?_; rintro e w' ⟨rfl, rfl⟩; first | rw [HGQ.out] | rw [HEQ.out])
          | (go_at_call 34; refine C.mono ?_; rintro e w2 ⟨rfl, hE2⟩; have HE2 := Lib.hid hE2; clear hE2))
        go_ret
        exact ⟨ret_int (by simp), ext_trans HE.out HE2.out⟩

end Go.Proofs.Ytkcdddpbmbhelaa
