/-
  Texts put together: ES EV EW EX VA VB VC VH.
-/
import Derived.Test.YtfgifgglcafadaaGreatDoorM10
import Derived.Test.YtfgifgglcafadaaGreatDoorM06
import Derived.Handy
namespace Go.Proofs.YtfgifgglcafadaaGreatDoor
set_option linter.unusedVariables false
set_option linter.unusedSimpArgs false
set_option linter.unusedVariables false
set_option linter.unusedSimpArgs false
set_option maxRecDepth 100000
open Go.RowKit Go.Maps
theorem checkDo_any (x : Ten) (v : Value) (b nb pb : Nat) (L : Led) (V : Nat → Value) (n p : Int) (w : World) (hI : Ints w v x.bs) (hm : x.bs.length ≤ 1048576) (hb : Blk w b 56 (ledC L V)) (hn : w.cell? ⟨nb, 0, none⟩ = some (.int .i64 n)) (hp : w.cell? ⟨pb, 0, none⟩ = some (.int .i64 p)) :
   Calls Tryz.prog 251 #[.agg (tenC x v), .pointer (some ⟨b, 0, none⟩), .pointer (some ⟨nb, 0, none⟩), .pointer (some ⟨pb, 0, none⟩)] w fun e w' => e = .returned (.bool (!rightT x L.eps n p)) ∧ Ext w w' := by
 have hE := World.grownBy_alloc w (.cells (tenC x v) 53) none
 have hbt := Blk.new w 53 (tenC x v)
 have ce := ((hb.ext hE).cell 1).trans (led_eps L V)
 have cn := hE.cell hn (by simp)
 have cp := hE.cell hp (by simp)
 have R := isRight_any x v L.eps n p _ (hI.kept hE (by simp)) hm
 have HE := Lib.hid hE
 clear hE hb hn hp hI
 go_enter Tryz.func251, Tryz.ntmps251
 go_wp2_with (first
   | (refine ten_load _ rfl rfl hbt rfl ?_)
   | (go_at_call 252; refine R.mono ?_; rintro e w' ⟨rfl, hE2⟩; have HE2 := Lib.hid hE2; clear hE2))
 go_ret
 exact ⟨rfl, ext_trans HE.out HE2.out⟩
def wrongP (L : Led) (n p : Int) (j : Nat) : Bool := !rightT (L.t j) L.eps n p
set_option maxHeartbeats 800000 in
theorem indexCheck_any (L : Led) (V : Nat → Value) (b nb pb : Nat) (n p : Int) (w : World) (hb : Blk w b 56 (ledC L V)) (hL : LedIs w L V) (hm : ∀ j, j < 4 → (L.t j).bs.length ≤ 1048576) (hn : w.cell? ⟨nb, 0, none⟩ = some (.int .i64 n)) (hp : w.cell? ⟨pb, 0, none⟩ = some (.int .i64 p)) :
   Calls Tryz.prog 286 #[.slice (some ⟨b, 2, none⟩) 4 4, .func (.func 251) #[] #[.pointer (some ⟨b, 0, none⟩), .pointer (some ⟨nb, 0, none⟩), .pointer (some ⟨pb, 0, none⟩)]] w fun e w' => e = .returned (.int .i64 (firstB (wrongP L n p))) ∧ Ext w w' := by
 have HB := Lib.hid hb
 have HL := Lib.hid hL
 have HX := Lib.hid (And.intro hn hp)
 clear hb hL hn hp
 go_enter Tryz.func286, Tryz.ntmps286
 go_wp2
 go_loopw [8] (fun i wr => ∃ k : Nat, k ≤ 4 ∧ i = .int .i64 k ∧ (∀ j, j < k → wrongP L n p j = false) ∧ Ext w wr) (fun i _ => 4 - (intOf i).toNat)
 case atStart => exact ⟨0, by omega, rfl, fun j hj => by omega, Ext.refl w⟩
 case round =>
   obtain ⟨k, hk, rfl, hnot, hE⟩ := hrel
   have NOT := Lib.hid hnot
   clear hnot
   by_cases hlt : k < 4
   · have hb1 := HB.out.ext hE
     have D := checkDo_any (L.t k) (V k) b nb pb L V n p wr ((HL.out k hlt).kept hE (by simp)) (hm k hlt) hb1 (hE.cell HX.out.1 (by simp)) (hE.cell HX.out.2 (by simp))
     obtain ⟨q, hq⟩ : ∃ q, (!rightT (L.t k) L.eps n p) = q := ⟨_, rfl⟩
     rw [hq] at D
     have HP := Lib.hid (show wrongP L n p k = q from hq)
     have HE := Lib.hid hE
     clear hq hE hm
     cases q
     · go_wp2_with (first
         | (refine ten_load_in _ rfl hlt rfl hb1 rfl ?_)
         | (go_at_call 251; refine D.mono ?_; rintro e w2 ⟨rfl, hE2⟩; have HE2 := Lib.hid (ext_trans HE.out hE2); clear hE2))
       go_roundw
       case rel =>
         refine ⟨k + 1, by omega, by go_num, fun j hj => ?_, HE2.out⟩
         by_cases e : j = k
         · subst e; exact HP.out
         · exact NOT.out j (by omega)
       case measure => simp [intOf]; omega
     · have HO := Lib.hid (firstB_at (p := wrongP L n p) hlt HP.out NOT.out)
       go_wp2_with (first
         | (refine ten_load_in _ rfl hlt rfl hb1 rfl ?_)
         | (go_at_call 251; refine D.mono ?_; rintro e w2 ⟨rfl, hE2⟩; have HE2 := Lib.hid (ext_trans HE.out hE2); clear hE2))
       go_ret
       exact ⟨ret_int (by rw [HO.out]), HE2.out⟩
   · obtain rfl : k = 4 := by omega
     have HO := Lib.hid (firstB_no (p := wrongP L n p) NOT.out)
     go_wp2
     go_ret
     exact ⟨ret_int (by rw [HO.out]), hE⟩
def someB10 (p : Nat → Bool) : Bool := p 0 || p 1 || p 2 || p 3
theorem firstB_some (p : Nat → Bool) : decide (0 ≤ firstB p) = someB10 p := by
 unfold firstB someB10
 cases p 0 <;> cases p 1 <;> cases p 2 <;> cases p 3 <;> simp
theorem containsCheck_any (L : Led) (V : Nat → Value) (b nb pb : Nat) (n p : Int) (w : World) (hb : Blk w b 56 (ledC L V)) (hL : LedIs w L V) (hm : ∀ j, j < 4 → (L.t j).bs.length ≤ 1048576) (hn : w.cell? ⟨nb, 0, none⟩ = some (.int .i64 n)) (hp : w.cell? ⟨pb, 0, none⟩ = some (.int .i64 p)) :
   Calls Tryz.prog 253 #[.slice (some ⟨b, 2, none⟩) 4 4, .func (.func 251) #[] #[.pointer (some ⟨b, 0, none⟩), .pointer (some ⟨nb, 0, none⟩), .pointer (some ⟨pb, 0, none⟩)]] w fun e w' => e = .returned (.bool (someB10 (wrongP L n p))) ∧ Ext w w' := by
 have I := indexCheck_any L V b nb pb n p w hb hL hm hn hp
 have HS := Lib.hid (firstB_some (wrongP L n p))
 obtain ⟨r, hr⟩ : ∃ r, firstB (wrongP L n p) = r := ⟨_, rfl⟩
 rw [hr] at I HS
 clear hb hL hm hn hp hr
 go_enter Tryz.func253, Tryz.ntmps253
 go_wp2_with (go_at_call 286; refine I.mono ?_; rintro e w' ⟨rfl, hE2⟩; have HE2 := Lib.hid hE2; clear hE2)
 go_ret
 exact ⟨ret_bool HS.out, HE2.out⟩
def epochsTo (L : Led) : Nat → List Int
 | 0 => []
 | k + 1 => if (L.t k).th = true then epochsTo L k ++ [(L.t k).ep] else epochsTo L k
def epochsL (L : Led) : List Int := epochsTo L 4
theorem epochsTo_len (L : Led) : ∀ k, (epochsTo L k).length ≤ k
 | 0 => by simp [epochsTo]
 | k + 1 => by
   have := epochsTo_len L k
   unfold epochsTo
   split
   · simp; omega
   · omega
theorem epochsTo_wf {L : Led} (h : ∀ j, j < 4 → (Lit.int .i64 (L.t j).ep).wf = true) : ∀ k, k ≤ 4 → WfL (epochsTo L k)
 | 0, _ => fun n hn => by simp [epochsTo] at hn
 | k + 1, hk => fun n hn => by
   unfold epochsTo at hn
   split at hn
   · rcases List.mem_append.1 hn with hn | hn
     · exact epochsTo_wf h k (by omega) n hn
     · simp at hn; subst hn; exact h k (by omega)
   · exact epochsTo_wf h k (by omega) n hn
set_option maxHeartbeats 1600000 in
theorem epochs10_any (L : Led) (V : Nat → Value) (w : World) (hL : LedIs w L V) :
   Calls Tryz.prog 255 #[.agg (ledC L V)] w fun e w' => ∃ v, e = .returned v ∧ OwnI w.heap.size w' v (epochsL L) ∧ Ext w w' := by
 have hb := Blk.new w 56 (ledC L V)
 have hE0 := World.grownBy_alloc w (.cells (ledC L V) 56) none
 obtain ⟨w1, hw1⟩ : ∃ v, w.alloc (.cells (ledC L V) 56) = v := ⟨_, rfl⟩
 rw [hw1] at hb hE0
 have HL := Lib.hid (hL.slices)
 have HE0 := Lib.hid hE0
 clear hL hE0
 go_enter Tryz.func255, Tryz.ntmps255
 go_wp2_with (refine tens_load _ rfl rfl hb rfl ?_)
 clear hw1 hb
 go_loopw [3, 8] (fun x i wr => ∃ (k : Nat) (v : Value), k ≤ 4 ∧ v = x ∧ i = .int .i64 k ∧ OwnI w1.heap.size wr v (epochsTo L k) ∧ Ext w1 wr) (fun _ i _ => 4 - (intOf i).toNat)
 case atStart => exact ⟨0, _, by omega, rfl, rfl, World.ownsRow_nil w1 _ _ _, Ext.refl w1⟩
 case round =>
   obtain ⟨k, v, hk, hvx, rfl, hO, hE1⟩ := hrel
   subst hvx
   have HO := Lib.hid hO
   have HE1 := Lib.hid hE1
   clear hO hE1
   by_cases hlt : k < 4
   · have hix := tens_at L V hlt
     have hS := HL.out k hlt
     have hBn := Blk.new wr 53 zeroTC
     have HLEN := Lib.hid (epochsTo_len L k)
     obtain ⟨ep, hep⟩ : ∃ n, (L.t k).ep = n := ⟨_, rfl⟩
     have HEP := Lib.hid hep
     obtain ⟨th, hth⟩ : ∃ b, (L.t k).th = b := ⟨_, rfl⟩
     have HTH := Lib.hid hth
     clear hep hth
     cases th
     · go_wp2_with (refine ten_store _ _ rfl rfl rfl hBn rfl hS rfl ?_; intro w6 hb6 hg6 hs6; clear hBn hs6; have c0 := (hb6.cell 0).trans (ten_th _ _); rw [HTH.out] at c0; have HG6 := Lib.hid (grown_trans (World.grownBy_alloc wr (.cells zeroTC 53) none) hg6 (fun p hp hlt => by injection hp with hp; omega)); clear hg6 hb6)
       go_roundw
       case rel => exact ⟨k + 1, _, by omega, rfl, by go_num, by unfold epochsTo; rw [HTH.out]; exact own_kept HO.out HG6.out (by simp), ext_trans HE1.out HG6.out⟩
       case measure => simp [intOf]; omega
     · go_wp2_with (first
         | (refine ten_store _ _ rfl rfl rfl hBn rfl hS rfl ?_; intro w6 hb6 hg6 hs6; clear hBn hs6; have c0 := (hb6.cell 0).trans (ten_th _ _); rw [HTH.out] at c0; have c1 := (hb6.cell 1).trans (ten_ep _ _); rw [HEP.out] at c1; have HG6 := Lib.hid (grown_trans (World.grownBy_alloc wr (.cells zeroTC 53) none) hg6 (fun p hp hlt => by injection hp with hp; omega)); clear hg6 hb6)
         | (at_builtin; go_loud (refine append_ints rfl _ _ rfl w1.heap.size v (epochsTo L k) rfl (own_kept HO.out (ext_trans HG6.out (World.grownBy_alloc w6 (.cells #[.int .i64 ep] 3) none)) (by simp)) (.slice (some ⟨w6.heap.size, 0, none⟩) 1 1) [ep] rfl (ints_one w6 ep 3) ?_ ?_ ?_); (have hq := HLEN.out; simp only [List.length_cons, List.length_nil]; omega); (have hq := HE1.out.size; have hq2 := HG6.out.size; simp; omega); intro v7 w7 ho7 hg7 _; have HO7 := Lib.hid ho7; have HE7 := Lib.hid (ext_own (ext_trans HE1.out (ext_trans HG6.out (World.grownBy_alloc w6 (.cells #[.int .i64 ep] 3) none))) (own_kept HO.out (ext_trans HG6.out (World.grownBy_alloc w6 (.cells #[.int .i64 ep] 3) none)) (by simp)) (Nat.le_refl _) hg7); clear ho7 hg7))
       go_roundw
       case rel => exact ⟨k + 1, _, by omega, rfl, by go_num, by unfold epochsTo; rw [HTH.out, HEP.out]; exact HO7.out, HE7.out⟩
       case measure => simp [intOf]; omega
   · obtain rfl : k = 4 := by omega
     go_wp2
     go_ret
     exact ⟨_, rfl, ownsRow_le HO.out HE0.out.size, ext_trans HE0.out HE1.out⟩
def repB (xs : List Int) : Bool := decide (((xs.map (Lit.int .i64)).foldl addKey []).length < xs.length)
set_option maxHeartbeats 800000 in
theorem repeats10_any (v : Value) (xs : List Int) (w : World) (hI : Ints w v xs) (hm : xs.length ≤ 16777216) (hwf : WfL xs) :
   Calls Tryz.prog 254 #[v] w fun e w' => e = .returned (.bool (repB xs)) ∧ Ext w w' := by
 have S := set10_any v xs w hI hm hwf
 have HS := Lib.hid (size_setOf (H := Unit) (.agg []) (xs.map (Lit.int .i64)) (fun y hy => by obtain ⟨n, _, rfl⟩ := List.mem_map.1 hy; trivial))
 obtain ⟨ao, cp, _, _, rfl, _⟩ := hI.form
 obtain ⟨z, hz⟩ : ∃ z, ((xs.map (Lit.int .i64)).foldl addKey []).length = z := ⟨_, rfl⟩
 rw [hz] at HS
 have HZ := Lib.hid hz
 clear hI hwf hz
 go_enter Tryz.func254, Tryz.ntmps254
 go_wp2_with (first
   | (go_at_call 167; refine S.mono ?_; rintro e w2 ⟨mb, rfl, hM, _, hE⟩; have HE := Lib.hid hE; have hlen := hM.len (t := 218) Tryz.underlying218 3; rw [show Maps.size (setD xs) = z from HS.out] at hlen; clear hE hM))
 go_ret
 exact ⟨ret_bool (by unfold repB; rw [HZ.out]), HE.out⟩
def rightL (L : Led) (n p : Int) : Bool := inB L.gen 0 2147483647 && inB L.eps 0 2147483647 && !someB10 (wrongP L n p) && !repB (epochsL L) && !repB (takenL L)
structure GoodL (L : Led) : Prop where
 len : ∀ j, j < 4 → (L.t j).bs.length ≤ 1048576
 wf : ∀ j, j < 4 → WfL (L.t j).bs
 wfe : ∀ j, j < 4 → (Lit.int .i64 (L.t j).ep).wf = true
set_option maxHeartbeats 3200000 in
theorem check10_any (L : Led) (V : Nat → Value) (n p : Int) (w : World) (hL : LedIs w L V) (hG : GoodL L) :
   Calls Tryz.prog 208 #[.agg (ledC L V), .int .i64 n, .int .i64 p] w fun e w' => e = .returned (.int .i64 (if rightL L n p = true then 0 else 2)) ∧ Ext w w' := by
 have hb := ((Blk.new w 56 (ledC L V)).alloc (.cells #[.int .i64 n] 3)).alloc (.cells #[.int .i64 p] 3)
 have hn := ((Blk.newAt (w.alloc (.cells (ledC L V) 56)) (w.heap.size + 1) (by simp) 3 #[.int .i64 n]).alloc (.cells #[.int .i64 p] 3)).cell 0
 have hp := (Blk.newAt ((w.alloc (.cells (ledC L V) 56)).alloc (.cells #[.int .i64 n] 3)) (w.heap.size + 2) (by simp) 3 #[.int .i64 p]).cell 0
 have hE := grown_alloc (grown_alloc (World.grownBy_alloc w (.cells (ledC L V) 56) none) (.cells #[.int .i64 n] 3)) (.cells #[.int .i64 p] 3)
 obtain ⟨w1, hw1⟩ : ∃ v, ((w.alloc (.cells (ledC L V) 56)).alloc (.cells #[.int .i64 n] 3)).alloc (.cells #[.int .i64 p] 3) = v := ⟨_, rfl⟩
 rw [hw1] at hb hn hp hE
 have hL1 := hL.ext hE
 have C := containsCheck_any L V w.heap.size (w.heap.size + 1) (w.heap.size + 2) n p w1 hb hL1 hG.len hn hp
 have EP := fun w2 (h : Ext w1 w2) => epochs10_any L V w2 (hL1.ext h)
 have TK := fun w2 (h : Ext w1 w2) => taken10_any L V w2 (hL1.ext h) hG.len
 have RE := fun v w2 (h : Ints w2 v (epochsL L)) => repeats10_any v (epochsL L) w2 h (by have := epochsTo_len L 4; show (epochsTo L 4).length ≤ _; omega) (epochsTo_wf hG.wfe 4 (by omega))
 have RT := fun v w2 (h : Ints w2 v (takenL L)) => repeats10_any v (takenL L) w2 h (by have := takenTo_len hG.len 4 (by omega); show (takenTo L 4).length ≤ _; omega) (takenTo_wf hG.wf 4 (by omega))
 have cg := (hb.cell 0).trans (led_gen L V)
 have ce := (hb.cell 1).trans (led_eps L V)
 have HE := Lib.hid hE
 have HB := Lib.hid hb
 clear hL hL1 hE hn hp hG
 unfold rightL
 obtain ⟨g, hg⟩ : ∃ g, inB L.gen 0 2147483647 = g := ⟨_, rfl⟩
 obtain ⟨e, he⟩ : ∃ e, inB L.eps 0 2147483647 = e := ⟨_, rfl⟩
 obtain ⟨q, hq⟩ : ∃ q, someB10 (wrongP L n p) = q := ⟨_, rfl⟩
 obtain ⟨r, hr⟩ : ∃ r, repB (epochsL L) = r := ⟨_, rfl⟩
 obtain ⟨s, hs⟩ : ∃ s, repB (takenL L) = s := ⟨_, rfl⟩
 have HGQ := Lib.hid hg
 have HEQ := Lib.hid he
 rw [hg, he]
 rw [hq] at C ⊢
 rw [hr] at RE ⊢
 rw [hs] at RT ⊢
 clear hg he hq hr hs
 cases g
 · go_enter Tryz.func208, Tryz.ntmps208
   go_wp2_with (go_at_call 165; refine (within10_any _ _ _ _).mono ?_; rintro e w' ⟨rfl, rfl⟩; first | rw [HGQ.out] | rw [HEQ.out])
   go_ret
   exact ⟨ret_int (by simp), HE.out⟩
 · cases e
   · go_enter Tryz.func208, Tryz.ntmps208
     go_wp2_with (first
       | (go_at_call 165; refine (within10_any _ _ _ _).mono ?_; rintro e w' ⟨rfl, rfl⟩; first | rw [HGQ.out] | rw [HEQ.out]))
     go_ret
     exact ⟨ret_int (by simp), HE.out⟩
   · cases q
     · cases r
       · cases s
         all_goals
           go_enter Tryz.func208, Tryz.ntmps208
           go_wp2_with (first
             | (go_at_call 165; refine (within10_any _ _ _ _).mono ?_; rintro e w' ⟨rfl, rfl⟩; first | rw [HGQ.out] | rw [HEQ.out])
             | (go_at_call 253; refine C.mono ?_; rintro e w2 ⟨rfl, hE2⟩; have HE2 := Lib.hid hE2; have hb2 := hb.ext hE2; clear hE2)
             | (refine led_load _ rfl rfl hb2 rfl ?_)
             | (go_at_call 255; refine (EP _ HE2.out).mono ?_; rintro e w3 ⟨v3, rfl, ho3, hE3⟩; have HE3 := Lib.hid (ext_trans HE2.out hE3); have HI3 := Lib.hid (owns_ints rfl ho3); clear ho3 hE3)
             | (go_at_call 254; have hq5 := HI5; (with_reducible refine (RT _ _ HI5.out).mono ?_); rintro e w6 ⟨rfl, hE6⟩; have HE6 := Lib.hid (ext_trans HE5.out hE6); clear hE6)
             | (go_at_call 254; (with_reducible refine (RE _ _ HI3.out).mono ?_); rintro e w4 ⟨rfl, hE4⟩; have HE4 := Lib.hid (ext_trans HE3.out hE4); have hb4 := hb.ext (ext_trans HE3.out hE4); clear hE4)
             | (refine led_load _ rfl rfl hb4 rfl ?_)
             | (go_at_call 168; refine (TK _ HE4.out).mono ?_; rintro e w5 ⟨v5, rfl, ho5, hE5⟩; have HE5 := Lib.hid (ext_trans HE4.out hE5); have HI5 := Lib.hid (owns_ints rfl ho5); clear ho5 hE5))
           go_ret
           exact ⟨ret_int (by simp), ext_trans HE.out HE6.out⟩
       · go_enter Tryz.func208, Tryz.ntmps208
         go_wp2_with (first
           | (go_at_call 165; refine (within10_any _ _ _ _).mono ?_; rintro e w' ⟨rfl, rfl⟩; first | rw [HGQ.out] | rw [HEQ.out])
           | (go_at_call 253; refine C.mono ?_; rintro e w2 ⟨rfl, hE2⟩; have HE2 := Lib.hid hE2; have hb2 := hb.ext hE2; clear hE2)
           | (refine led_load _ rfl rfl hb2 rfl ?_)
           | (go_at_call 255; refine (EP _ HE2.out).mono ?_; rintro e w3 ⟨v3, rfl, ho3, hE3⟩; have HE3 := Lib.hid (ext_trans HE2.out hE3); have HI3 := Lib.hid (owns_ints rfl ho3); clear ho3 hE3)
           | (go_at_call 254; (with_reducible refine (RE _ _ HI3.out).mono ?_); rintro e w4 ⟨rfl, hE4⟩; have HE4 := Lib.hid (ext_trans HE3.out hE4); clear hE4))
         go_ret
         exact ⟨ret_int (by simp), ext_trans HE.out HE4.out⟩
     · go_enter Tryz.func208, Tryz.ntmps208
       go_wp2_with (first
         | (go_at_call 165; refine (within10_any _ _ _ _).mono ?_; rintro e w' ⟨rfl, rfl⟩; first | rw [HGQ.out] | rw [HEQ.out])
         | (go_at_call 253; refine C.mono ?_; rintro e w2 ⟨rfl, hE2⟩; have HE2 := Lib.hid hE2; clear hE2))
       go_ret
       exact ⟨ret_int (by simp), ext_trans HE.out HE2.out⟩
end Go.Proofs.YtfgifgglcafadaaGreatDoor

namespace Go.Proofs.YtfgifgglcafadaaGreatDoor
set_option linter.unusedVariables false
set_option linter.unusedSimpArgs false
set_option linter.unusedVariables false
set_option linter.unusedSimpArgs false
set_option maxRecDepth 100000
open Go.RowKit
def tenOk (x : Ten) (newest n p : Int) : Prop :=
 (x.th = true → 1 ≤ x.ep ∧ x.ep ≤ newest ∧ totS x.sz x.sp p ≠ 0 ∧ totS x.sz x.sp p ≤ x.bs.length ∧ (x.bs.length : Int) ≤ wrap64 (n - 2) ∧ ∀ b ∈ x.bs, 2 ≤ b ∧ b < n) ∧
 (x.th = false → x.ep = 0 ∧ x.sz = 0 ∧ x.sp = 0 ∧ x.bs = [])
structure RightP (L : Led) (n p : Int) : Prop where
 gen : 0 ≤ L.gen ∧ L.gen ≤ 2147483647
 eps : 0 ≤ L.eps ∧ L.eps ≤ 2147483647
 ten : ∀ j, j < 4 → tenOk (L.t j) L.eps n p
 blk : (takenL L).Nodup
 epo : (epochsL L).Nodup
theorem taken_nodup {L : Led} : ∀ k, (takenTo L k).Nodup ↔ (∀ j, j < k → (L.t j).bs.Nodup) ∧ ∀ i j, i < j → j < k → ∀ b ∈ (L.t i).bs, b ∉ (L.t j).bs
 | 0 => by simp [takenTo]
 | k + 1 => by
   have mem : ∀ b, b ∈ takenTo L k ↔ ∃ i, i < k ∧ b ∈ (L.t i).bs := by
     intro b
     clear taken_nodup
     induction k with
     | zero => simp [takenTo]
     | succ k ih =>
       simp only [takenTo, List.mem_append, ih]
       constructor
       · rintro (⟨i, hi, hb⟩ | hb)
         · exact ⟨i, by omega, hb⟩
         · exact ⟨k, by omega, hb⟩
       · rintro ⟨i, hi, hb⟩
         by_cases e : i = k
         · subst e; exact .inr hb
         · exact .inl ⟨i, by omega, hb⟩
   simp only [takenTo, List.nodup_append, taken_nodup k]
   constructor
   · rintro ⟨⟨h1, h2⟩, h3, h4⟩
     refine ⟨fun j hj => ?_, fun i j hij hj b hb hb2 => ?_⟩
     · by_cases e : j = k
       · subst e; exact h3
       · exact h1 j (by omega)
     · by_cases e : j = k
       · subst e; exact h4 b ((mem b).2 ⟨i, hij, hb⟩) b hb2 rfl
       · exact h2 i j hij (by omega) b hb hb2
   · rintro ⟨h1, h2⟩
     refine ⟨⟨fun j hj => h1 j (by omega), fun i j hij hj => h2 i j hij (by omega)⟩, h1 k (by omega), fun a ha b hb e => ?_⟩
     subst e
     obtain ⟨i, hi, hai⟩ := (mem a).1 ha
     exact h2 i k hi (by omega) a hai hb
theorem taken_mem {L : Led} : ∀ (k : Nat) (b : Int), b ∈ takenTo L k ↔ ∃ i, i < k ∧ b ∈ (L.t i).bs
 | 0, b => by simp [takenTo]
 | k + 1, b => by
   simp only [takenTo, List.mem_append, taken_mem k b]
   constructor
   · rintro (⟨i, hi, hb⟩ | hb)
     · exact ⟨i, by omega, hb⟩
     · exact ⟨k, by omega, hb⟩
   · rintro ⟨i, hi, hb⟩
     by_cases e : i = k
     · subst e; exact .inr hb
     · exact .inl ⟨i, by omega, hb⟩
end Go.Proofs.YtfgifgglcafadaaGreatDoor

namespace Go.Proofs.YtfgifgglcafadaaGreatDoor
set_option linter.unusedVariables false
set_option linter.unusedSimpArgs false
set_option linter.unusedVariables false
set_option linter.unusedSimpArgs false
set_option maxRecDepth 100000
open Go.RowKit
end Go.Proofs.YtfgifgglcafadaaGreatDoor

namespace Go.Proofs.YtfgifgglcafadaaGreatDoor
set_option linter.unusedVariables false
set_option linter.unusedSimpArgs false
set_option linter.unusedVariables false
set_option linter.unusedSimpArgs false
set_option maxRecDepth 100000
open Go.RowKit
theorem getD_mem0 {xs : List Int} {q : Nat} (h : q < xs.length) : xs.getD q 0 ∈ xs := by
 rw [List.getD_eq_getElem?_getD, List.getElem?_eq_getElem h]
 exact List.getElem_mem h
end Go.Proofs.YtfgifgglcafadaaGreatDoor

namespace Go.Proofs.YtfgifgglcafadaaGreatDoor
set_option linter.unusedVariables false
set_option linter.unusedSimpArgs false
set_option linter.unusedVariables false
set_option linter.unusedSimpArgs false
set_option maxRecDepth 100000
open Go.RowKit Go.Maps
theorem any_key (xs : List Int) (x : Int) : (xs.map (Lit.int .i64)).any (fun y => y.sameKey (Lit.int .i64 x)) = decide (x ∈ xs) := by
 induction xs with
 | nil => simp
 | cons a r ih =>
   have e : (Lit.int .i64 a).sameKey (Lit.int .i64 x) = decide (a = x) := by simp [Lit.sameKey]
   rw [List.map_cons, List.any_cons, ih, e]
   by_cases h : a = x
   · subst h; simp
   · simp [h, Ne.symm h]
theorem addKey_map (acc : List Int) (x : Int) : addKey (acc.map (Lit.int .i64)) (Lit.int .i64 x) = (if x ∈ acc then acc else acc ++ [x]).map (Lit.int .i64) := by
 unfold addKey
 rw [any_key]
 by_cases h : x ∈ acc
 · simp [h]
 · simp [h]
theorem fold_len : ∀ (xs acc : List Int), acc.Nodup → ((xs.map (Lit.int .i64)).foldl addKey (acc.map (Lit.int .i64))).length ≤ acc.length + xs.length ∧
   (((xs.map (Lit.int .i64)).foldl addKey (acc.map (Lit.int .i64))).length = acc.length + xs.length ↔ (acc ++ xs).Nodup)
 | [], acc, h => by simp [h]
 | x :: r, acc, h => by
   simp only [List.map_cons, List.foldl_cons, addKey_map]
   by_cases hx : x ∈ acc
   · rw [if_pos hx]
     obtain ⟨h1, h2⟩ := fold_len r acc h
     refine ⟨by simp only [List.length_cons]; omega, ⟨fun e => ?_, fun hn => ?_⟩⟩
     · simp only [List.length_cons] at e; omega
     · exact absurd rfl ((List.nodup_append.1 hn).2.2 x hx x (by simp))
   · rw [if_neg hx]
     have h3 : (acc ++ [x]).Nodup := List.nodup_append.2 ⟨h, by simp, fun a ha b hb e => by simp at hb; subst hb; subst e; exact hx ha⟩
     obtain ⟨h1, h2⟩ := fold_len r (acc ++ [x]) h3
     simp only [List.length_append, List.length_cons, List.length_nil, List.append_assoc, List.cons_append, List.nil_append] at h1 h2 ⊢
     refine ⟨by omega, ?_⟩
     rw [← h2]
     constructor <;> intro e <;> omega
theorem repB_iff (xs : List Int) : repB xs = false ↔ xs.Nodup := by
 obtain ⟨h1, h2⟩ := fold_len xs [] (by simp)
 simp only [List.map_nil, List.length_nil, List.nil_append, Nat.zero_add] at h1 h2
 unfold repB
 rw [decide_eq_false_iff_not, ← h2]
 constructor <;> intro e <;> omega
theorem tenB_no (x : Ten) : tenB x noTen = true ↔ x.th = false ∧ x.ep = 0 ∧ x.sz = 0 ∧ x.sp = 0 ∧ x.bs = [] := by
 simp [tenB, noTen, and_assoc]
theorem rightT_iff {x : Ten} {m n p : Int} (hn : -9223372036854775000 ≤ n) (hn1 : n ≤ 9223372036854775807) : rightT x m n p = true ↔ tenOk x m n p := by
 have hw : wrap64 (n - 2) = n - 2 := by unfold wrap64; omega
 unfold rightT tenOk
 cases hth : x.th
 · simp only [hth, Bool.false_eq_true, if_false, tenB_no, false_implies, true_and, true_implies]
 · simp only [hth, if_true, inB, Bool.and_eq_true, decide_eq_true_eq, Bool.not_eq_true', List.any_eq_false, outB, true_implies, hw, Bool.true_eq_false, false_implies, and_true]
   constructor
   · rintro ⟨⟨⟨⟨h1, h2⟩, h3⟩, h4⟩, h5⟩
     exact ⟨h2.1, h2.2, h1, h3, by omega, fun b hb => by have := h5 b hb; omega⟩
   · rintro ⟨h1, h2, h3, h4, h5, h6⟩
     exact ⟨⟨⟨⟨h3, h1, h2⟩, h4⟩, by omega⟩, fun b hb => by have := h6 b hb; omega⟩
theorem someB_no (p : Nat → Bool) : someB10 p = false ↔ ∀ j, j < 4 → p j = false := by
 unfold someB10
 constructor
 · intro h j hj
   simp only [Bool.or_eq_false_iff] at h
   obtain rfl | rfl | rfl | rfl : j = 0 ∨ j = 1 ∨ j = 2 ∨ j = 3 := by omega
   · exact h.1.1.1
   · exact h.1.1.2
   · exact h.1.2
   · exact h.2
 · intro h
   simp [h 0 (by omega), h 1 (by omega), h 2 (by omega), h 3 (by omega)]
theorem rightL_iff {L : Led} {n p : Int} (hn : -9223372036854775000 ≤ n) (hn1 : n ≤ 9223372036854775807) : rightL L n p = true ↔ RightP L n p := by
 unfold rightL
 simp only [Bool.and_eq_true, Bool.not_eq_true', someB_no, repB_iff, inB, decide_eq_true_eq, wrongP, Bool.not_eq_false', rightT_iff hn hn1]
 constructor
 · rintro ⟨⟨⟨⟨h1, h2⟩, h3⟩, h4⟩, h5⟩
   exact ⟨h1, h2, h3, h5, h4⟩
 · rintro ⟨h1, h2, h3, h4, h5⟩
   exact ⟨⟨⟨⟨h1, h2⟩, h3⟩, h5⟩, h4⟩
def entL (x : Ten) : List Int := if x.th = true then [1] ++ (leB x.ep 4 ++ ([x.sz, x.sp, (x.bs.length : Int)] ++ x.bs)) else [0]
def bodyTo (L : Led) : Nat → List Int
 | 0 => leB L.gen 4 ++ leB L.eps 4
 | k + 1 => bodyTo L k ++ entL (L.t k)
def bodyL (L : Led) : List Int := bodyTo L 4
def One (xs : List Int) : Prop := ∀ x ∈ xs, 0 ≤ x ∧ x ≤ 255
theorem One.byts {xs : List Int} (h : One xs) : Byts xs := fun x hx => by have := h x hx; omega
structure FitsT (x : Ten) : Prop where
 ep : 0 ≤ x.ep ∧ x.ep ≤ 4294967295
 sz : 0 ≤ x.sz ∧ x.sz ≤ 255
 sp : 0 ≤ x.sp ∧ x.sp ≤ 255
 len : x.bs.length ≤ 255
 bs : One x.bs
theorem leB_one {v : Int} (h0 : 0 ≤ v) (h1 : v ≤ 255) : leB v 1 = [v] := by
 simp [leB, List.range_succ]
 omega
theorem putL_one {xs : List Int} {v : Int} (h0 : 0 ≤ v) (h1 : v ≤ 255) : putL xs v 1 = xs ++ [v] := by
 have hf : fitsB v 1 = true := by simp [fitsB]; omega
 simp [putL, hf, leB_one h0 h1]
theorem putL_four {xs : List Int} {v : Int} (h0 : 0 ≤ v) (h1 : v ≤ 4294967295) : putL xs v 4 = xs ++ leB v 4 := by
 have hf : fitsB v 4 = true := by simp [fitsB]; omega
 simp [putL, hf]
theorem entL_byts {x : Ten} (h : x.th = true → FitsT x) : Byts (entL x) := by
 unfold entL
 split
 · rename_i ht
   have f := h ht
   have hl := f.len
   have h2 := f.sz
   have h3 := f.sp
   refine byts_append (fun y hy => by simp at hy; omega) (byts_append (leB_byts _ _) (byts_append (fun y hy => ?_) f.bs.byts))
   simp at hy
   omega
 · exact fun y hy => by simp at hy; omega
theorem entL_len {x : Ten} (h : x.th = true → FitsT x) : (entL x).length ≤ 263 := by
 unfold entL
 split
 · rename_i ht
   have := (h ht).len
   simp [leB_len]
   omega
 · simp
def FitsL (L : Led) : Prop := (0 ≤ L.gen ∧ L.gen ≤ 4294967295) ∧ (0 ≤ L.eps ∧ L.eps ≤ 4294967295) ∧ ∀ j, j < 4 → (L.t j).th = true → FitsT (L.t j)
theorem bodyTo_byts {L : Led} (h : FitsL L) : ∀ k, k ≤ 4 → Byts (bodyTo L k)
 | 0, _ => byts_append (leB_byts _ _) (leB_byts _ _)
 | k + 1, hk => byts_append (bodyTo_byts h k (by omega)) (entL_byts (h.2.2 k (by omega)))
theorem bodyTo_len {L : Led} (h : FitsL L) : ∀ k, k ≤ 4 → (bodyTo L k).length ≤ 8 + 263 * k
 | 0, _ => by simp [bodyTo, leB_len]
 | k + 1, hk => by
   have h1 := bodyTo_len h k (by omega)
   have h2 := entL_len (h.2.2 k (by omega))
   simp only [bodyTo, List.length_append]
   omega
theorem totS_need {s r p : Int} (h : totS s r p ≠ 0) : (1 ≤ s ∧ s ≤ 64) ∧ (0 ≤ r ∧ r ≤ 8) := by
 unfold totS at h
 split at h
 · rename_i hv
   simp [rightB, inB] at hv
   exact ⟨hv.1.1, hv.1.2⟩
 · exact absurd rfl h
theorem RightP.fits {L : Led} {n p : Int} (h : RightP L n p) (hn : n ≤ 256) (hn0 : -9223372036854775000 ≤ n) : FitsL L := by
 refine ⟨by have := h.gen; omega, by have := h.eps; omega, fun j hj ht => ?_⟩
 obtain ⟨h1, h2, h3, h4, h5, h6⟩ := (h.ten j hj).1 ht
 have he := h.eps
 obtain ⟨q1, q2⟩ := totS_need h3
 have hw : wrap64 (n - 2) = n - 2 := by unfold wrap64; omega
 rw [hw] at h5
 exact ⟨by omega, by omega, by omega, by omega, fun b hb => by have := h6 b hb; omega⟩
def snE (L : Led) (n p : Int) : Int := if rightL L (min n 256) p = true then 0 else 2
def snL (L : Led) (n p : Int) : List Int := if rightL L (min n 256) p = true then frL 76 (bodyL L) else []
theorem body_mk {L : Led} (h : FitsL L) : mkE 76 (bodyL L) = 0 ∧ mkL 76 (bodyL L) = frL 76 (bodyL L) := by
 have hl := bodyTo_len h 4 (by omega)
 have h0 : mkE 76 (bodyL L) = 0 := by
   unfold mkE
   rw [if_pos (by decide), if_pos (by show (bodyTo L 4).length ≤ 65535; omega)]
 exact ⟨h0, by unfold mkL; rw [if_pos h0]⟩
end Go.Proofs.YtfgifgglcafadaaGreatDoor

namespace Go.Proofs.YtfgifgglcafadaaGreatDoor
set_option linter.unusedVariables false
set_option linter.unusedSimpArgs false
set_option linter.unusedVariables false
set_option linter.unusedSimpArgs false
set_option maxRecDepth 100000
open Go.RowKit
def GotB (w : World) (xs : List Int) (e : Ending) (w' : World) : Prop := ∃ v', e = .returned v' ∧ Bts w' v' xs ∧ Ext w w'
set_option maxHeartbeats 800000 in
theorem putAll_any (v0 rv : Value) (xs row : List Int) (w : World) (hb : Bts w v0 xs) (hI : Ints w rv row) (hf : One row) (hm : xs.length + row.length ≤ 1000000) :
   Calls Tryz.prog 257 #[v0, rv] w (GotB w (xs ++ row)) := by
 obtain ⟨ao, cap, b, off, rfl, hc⟩ := hI.form
 have HC := Lib.hid hc
 have HF := Lib.hid hf
 clear hc hf hI
 go_enter Tryz.func257, Tryz.ntmps257
 go_wp2
 go_loopw [0, 9] (fun o i wr => ∃ (k : Nat) (v : Value), k ≤ row.length ∧ v = o ∧ i = .int .i64 k ∧ Bts wr v (xs ++ row.take k) ∧ Ext w wr) (fun _ i _ => row.length - (intOf i).toNat)
 case atStart => exact ⟨0, _, by omega, rfl, rfl, by simpa using hb, Ext.refl w⟩
 case round =>
   obtain ⟨k, v, hk, hv, rfl, hB, hE⟩ := hrel
   subst hv
   by_cases hlt : k < row.length
   · obtain ⟨rfl, hcell⟩ := HC.out k hlt
     have hcell := hE.cell hcell (by simp)
     obtain ⟨x, hx⟩ : ∃ x, row.getD k 0 = x := ⟨_, rfl⟩
     have hx1 := HF.out _ (getD_mem0 hlt)
     rw [hx] at hcell hx1
     have P := put_is (n := 1) hB (by simp only [List.length_append, List.length_take]; omega) (by omega) (putL_one hx1.1 hx1.2)
     have HX := Lib.hid hx
     have HE := Lib.hid hE
     clear hx hE hB hb
     go_wp2_with (go_at_call 209; refine P.mono ?_; rintro e w2 ⟨v2, rfl, hown2, hg2⟩)
     go_roundw
     case rel => exact ⟨k + 1, _, by omega, rfl, by go_num, by rw [take_snocI hlt, HX.out, ← List.append_assoc]; exact Owns.bts rfl hown2, ext_trans HE.out hg2⟩
     case measure => simp [intOf]; omega
   · obtain rfl : k = row.length := by omega
     rw [List.take_length] at hB
     have HB := Lib.hid hB
     go_wp2
     go_ret
     exact ⟨_, rfl, HB.out, hE⟩
theorem ints_three (w : World) (x y z : Int) (T : TypeId) : Ints (w.alloc (.cells #[.int .i64 x, .int .i64 y, .int .i64 z] T)) (.slice (some ⟨w.heap.size, 0, none⟩) 3 3) [x, y, z] :=
 .inr (.inl ⟨w.heap.size, 0, 3, rfl, by simp, fun i hi => by
   have : i = 0 ∨ i = 1 ∨ i = 2 := by simp at hi; omega
   rcases this with rfl | rfl | rfl <;> simp⟩)
set_option maxHeartbeats 1600000 in
theorem putEntry_any (v0 vx : Value) (xs : List Int) (x : Ten) (w : World) (hb : Bts w v0 xs) (hI : Ints w vx x.bs) (hf : x.th = true → FitsT x) (hm : xs.length ≤ 900000) :
   Calls Tryz.prog 210 #[v0, .agg (tenC x vx)] w (GotB w (xs ++ entL x)) := by
 have hbt := Blk.new w 53 (tenC x vx)
 have hE0 := World.grownBy_alloc w (.cells (tenC x vx) 53) none
 have x0 := (hbt.cell 0).trans (ten_th _ _)
 have x1 := (hbt.cell 1).trans (ten_ep _ _)
 have x2 := (hbt.cell 2).trans (ten_sz _ _)
 have x3 := (hbt.cell 3).trans (ten_sp _ _)
 have x4 := (hbt.cell 4).trans (ten_bs _ _)
 obtain ⟨ao, cp, bb, oo, hvx, hc⟩ := hI.form
 obtain ⟨w1, hw1⟩ : ∃ v, w.alloc (.cells (tenC x vx) 53) = v := ⟨_, rfl⟩
 rw [hw1] at x0 x1 x2 x3 x4 hbt hE0
 have HB := Lib.hid (hb.kept hE0 (by simp))
 have HI := Lib.hid (hI.kept hE0 (by simp))
 have HE0 := Lib.hid hE0
 obtain ⟨xt, xe, xz, xp, xb⟩ := x
 simp only [] at x0 x1 x2 x3 x4 hvx HI hf
 obtain ⟨nx, hnx⟩ : ∃ n, xb.length = n := ⟨_, rfl⟩
 rw [hnx] at hvx
 have HNX := Lib.hid hnx
 clear hb hI hE0 hc hbt
 cases xt
 · rw [hvx] at hw1 ⊢
   clear x1 x2 x3 x4 hnx
   have P := fun wr (h : Ext w1 wr) => putAll_any v0 (.slice (some ⟨wr.heap.size, 0, none⟩) 1 1) xs [0] (wr.alloc (.cells #[.int .i64 0] 3)) (HB.out.kept (ext_trans h (World.grownBy_alloc wr _ none)) (by simp)) (ints_one wr 0 3) (fun y hy => by simp at hy; omega) (by simp; omega)
   have P1 := P w1 (Ext.refl w1)
   clear P
   go_enter Tryz.func210, Tryz.ntmps210
   go_wp2_with (go_at_call 257; refine P1.mono ?_; rintro e w2 ⟨v2, rfl, hB2, hE2⟩)
   go_ret
   exact ⟨_, rfl, hB2, ext_trans HE0.out (ext_trans (World.grownBy_alloc w1 (.cells #[.int .i64 0] 3) none) hE2)⟩
 · have HF := Lib.hid (hf rfl)
   have hq1 := HF.out.ep
   have hq2 := HF.out.sz
   have hq3 := HF.out.sp
   have hq4 := HF.out.len
   have hq5 := HF.out.bs
   simp only [] at hq1 hq2 hq3 hq4 hq5
   have P1 := fun wd (h : Ext w1 wd) => putAll_any v0 (.slice (some ⟨wd.heap.size, 0, none⟩) 1 1) xs [1] (wd.alloc (.cells #[.int .i64 1] 3)) (HB.out.kept (ext_trans h (World.grownBy_alloc wd _ none)) (by simp)) (ints_one wd 1 3) (fun y hy => by simp at hy; omega) (by simp; omega)
   have P2 := fun v2 w2 (h : Bts w2 v2 (xs ++ [1])) => put_is (v := xe) (n := 4) h (by simp; omega) (by omega) (putL_four hq1.1 hq1.2)
   have P3 := fun v3 w3 (h : Bts w3 v3 (xs ++ [1] ++ leB xe 4)) => putAll_any v3 (.slice (some ⟨w3.heap.size, 0, none⟩) 3 3) _ [xz, xp, (nx : Int)] (w3.alloc (.cells #[.int .i64 xz, .int .i64 xp, .int .i64 nx] 3)) (h.kept (World.grownBy_alloc w3 _ none) (by simp)) (ints_three w3 xz xp nx 3) (fun y hy => by simp at hy; omega) (by simp [leB_len]; omega)
   have P4 := fun v4 w4 (h : Bts w4 v4 (xs ++ [1] ++ leB xe 4 ++ [xz, xp, (nx : Int)])) (hw : Ext w1 w4) => putAll_any v4 vx _ xb w4 h (HI.out.kept hw (by simp)) hq5 (by simp [leB_len]; omega)
   rw [hvx] at x4 P4 hw1 ⊢
   clear hnx hq1 hq2 hq3 hq4 hq5 hf hvx HI
   go_enter Tryz.func210, Tryz.ntmps210
   go_wp2
   have hgd := Ext.drew w1
   have hS := hgd.cell x1 (by simp)
   refine region_line [(0, true), (3, true), (4, true), (1, false), (2, false), (5, false), (6, true)] (fun x => x.cell? ⟨w.heap.size, 1, none⟩ = some (.int .i64 xe)) (by kernel_rfl) (by kernel_rfl) (fun _ _ _ d _ h => by cases d <;> exact h) hS ?_
   generalize w1.drew = wd at hgd hS ⊢
   repeat (refine line_read (a' := ?_) rfl (by kernel_rfl) (by kernel_rfl) hS (fun x hx K hK => ?_) ?_; rotate_left; · go_wp2; exact hK)
   refine line_act (by rfl) (fun K hK => ?_)
   go_wp2
   replace hS := cell_past hS (.cells #[.int .i64 1] 3)
   refine hK _ _ _ hS (fun x hx => hx) ?_
   clear hK K
   refine line_act (by rfl) (fun K hK => ?_)
   go_wp2_with (go_at_call 257; refine (P1 wd hgd).mono ?_; rintro e w2 ⟨v2, rfl, hB2, hE2⟩)
   replace hS := hE2.cell hS (by simp)
   refine hK _ _ _ hS (fun x hx => hx) ?_
   clear hK K
   refine line_act (by rfl) (fun K hK => ?_)
   go_wp2_with (go_at_call 209; refine (P2 v2 w2 hB2).mono ?_; rintro e w3 ⟨v3, rfl, hown3, hg3⟩)
   replace hS := hg3.cell hS (by simp)
   refine hK _ _ _ hS (fun x hx => hx) ?_
   clear hK K
   repeat (refine line_read (a' := ?_) rfl (by kernel_rfl) (by kernel_rfl) hS (fun x hx K hK => ?_) ?_; rotate_left; · go_wp2; exact hK)
   refine line_end ?_
   have e3 : Ext w1 w3 := ext_trans hgd (ext_trans (World.grownBy_alloc wd (.cells #[.int .i64 1] 3) none) (ext_trans hE2 hg3))
   have y2 := e3.cell x2 (by simp)
   have y3 := e3.cell x3 (by simp)
   have y4 := e3.cell x4 (by simp)
   have HE3 := Lib.hid e3
   clear e3 hg3 hE2 hgd hS P1 P2 x0 x1 x2 x3
   go_wp2_with (first
     | (go_at_call 257; refine (P4 v4 w4 hB4 HE4.out).mono ?_; rintro e w5 ⟨v5, rfl, hB5, hE5⟩)
     | (go_at_call 257; refine (P3 v3 w3 (Owns.bts rfl hown3)).mono ?_; rintro e w4 ⟨v4, rfl, hB4, hE4⟩; have e4 := ext_trans HE3.out (ext_trans (World.grownBy_alloc w3 (.cells #[.int .i64 xz, .int .i64 xp, .int .i64 nx] 3) none) hE4); have HE4 := Lib.hid e4; have z4 := e4.cell x4 (by simp); clear e4 hE4))
   go_ret
   refine ⟨_, rfl, ?_, ext_trans HE0.out (ext_trans HE4.out hE5)⟩
   have e : xs ++ entL (⟨true, xe, xz, xp, xb⟩ : Ten) = xs ++ [1] ++ leB xe 4 ++ [xz, xp, (nx : Int)] ++ xb := by
     simp [entL, HNX.out]
   rw [e]
   exact hB5
set_option maxRecDepth 100000 in
set_option maxHeartbeats 1600000 in
theorem snapBytes_at (L : Led) (V : Nat → Value) (n m p : Int) (w : World) (hL : LedIs w L V) (hG : GoodL L) (hm : min n 256 = m) (hn0 : -9223372036854775000 ≤ n) (hn9 : n ≤ 9223372036854775807) :
   Calls Tryz.prog 177 #[.agg (ledC L V), .int .i64 n, .int .i64 p] w (MadeE w (if rightL L m p = true then frL 76 (bodyL L) else []) (if rightL L m p = true then 0 else 2)) := by
 have hb := Blk.new w 56 (ledC L V)
 have hE0 := World.grownBy_alloc w (.cells (ledC L V) 56) none
 obtain ⟨w1, hw1⟩ : ∃ v, w.alloc (.cells (ledC L V) 56) = v := ⟨_, rfl⟩
 rw [hw1] at hb hE0
 have C := check10_any L V m p w1 (hL.ext hE0) hG
 have HL := Lib.hid (hL.ext hE0)
 have HE0 := Lib.hid hE0
 have hmn : (n ≤ 256 ∧ m = n) ∨ (256 < n ∧ m = 256) := by omega
 have HR : rightL L m p = true → FitsL L := fun h => ((rightL_iff (by omega) (by omega)).1 h).fits (by omega) (by omega)
 clear hL hE0 hG hm
 cases hr : rightL L m p
 · rw [hr] at C
   simp only [Bool.false_eq_true, if_false] at C ⊢
   clear HR hr
   rcases hmn with ⟨h1, rfl⟩ | ⟨h1, rfl⟩
   all_goals
     go_enter Tryz.func177, Tryz.ntmps177
     go_wp2_with (first
       | (refine led_load _ rfl rfl hb rfl ?_)
       | (go_at_call 208; refine C.mono ?_; rintro e w2 ⟨rfl, hE2⟩))
     go_returns
     exact ⟨_, rfl, owns_nil _ _, ext_trans HE0.out hE2⟩
 · rw [hr] at C
   simp only [if_true] at C ⊢
   have hF := HR hr
   have HF := Lib.hid hF
   have g0 := hF.1
   have g1 := hF.2.1
   have P1 := fun wr => put_is (w := wr) (v0 := .slice none 0 0) (xs := []) (v := L.gen) (n := 4) (.inl ⟨rfl, rfl⟩) (by simp) (by omega) (putL_four g0.1 g0.2)
   have P2 := fun v2 wr (h : Bts wr v2 ([] ++ leB L.gen 4)) => put_is (v := L.eps) (n := 4) h (by simp [leB_len]) (by omega) (putL_four g1.1 g1.2)
   have M := fun v wr (h : Bts wr v (bodyL L)) => make_any 76 v (bodyL L) wr h (bodyTo_byts HF.out 4 (by omega)) (by have := bodyTo_len HF.out 4 (by omega); show (bodyTo L 4).length ≤ _; omega) (by decide)
   rw [(body_mk hF).1, (body_mk hF).2] at M
   have cg := (hb.cell 0).trans (led_gen L V)
   have ce := (hb.cell 1).trans (led_eps L V)
   obtain ⟨fin, hfin⟩ : ∃ z, frL 76 (bodyL L) = z := ⟨_, rfl⟩
   rw [hfin] at M ⊢
   have HFIN := Lib.hid hfin
   clear HR hr hF g0 g1 hfin
   rcases hmn with ⟨h1, rfl⟩ | ⟨h1, rfl⟩
   all_goals
     go_enter Tryz.func177, Tryz.ntmps177
     go_wp2_with (first
       | (refine led_load _ rfl rfl hb rfl ?_)
       | (go_at_call 208; refine C.mono ?_; rintro e w2 ⟨rfl, hE2⟩; have HE2 := Lib.hid hE2; have hb2 := hb.ext hE2; have c0 := hE2.cell cg (by simp); have c1 := hE2.cell ce (by simp); clear hE2 C cg ce))
     have hgd := Ext.drew w2
     have hS := And.intro (hgd.cell c0 (by simp)) (hgd.cell c1 (by simp))
     have hb3 := hb2.ext hgd
     have HE3 := Lib.hid (ext_trans HE2.out hgd)
     clear c0 c1
     refine region_line [(0, true), (1, true), (3, true), (4, true), (2, false), (5, false), (6, true)] (fun x => x.cell? ⟨w.heap.size, 0, none⟩ = some (.int .i64 L.gen) ∧ x.cell? ⟨w.heap.size, 1, none⟩ = some (.int .i64 L.eps)) (by kernel_rfl) (by kernel_rfl) (fun _ _ _ d _ h => by cases d <;> exact h) hS ?_
     generalize w2.drew = wd at hgd hS hb3 HE3 ⊢
     repeat (refine line_read (a' := ?_) rfl (by kernel_rfl) (by kernel_rfl) hS (fun x hx K hK => ?_) ?_; rotate_left; · obtain ⟨q0, q1⟩ := hx; go_wp2; exact hK)
     refine line_act (by rfl) (fun K hK => ?_)
     go_wp2_with (go_at_call 209; refine (P1 wd).mono ?_; rintro e w3 ⟨v3, rfl, hown3, hg3⟩)
     replace hS := And.intro (hg3.cell hS.1 (by simp)) (hg3.cell hS.2 (by simp))
     refine hK _ _ _ hS (fun x hx => hx) ?_
     clear hK K
     refine line_act (by rfl) (fun K hK => ?_)
     go_wp2_with (go_at_call 209; refine (P2 v3 w3 (Owns.bts rfl hown3)).mono ?_; rintro e w4 ⟨v4, rfl, hown4, hg4⟩)
     replace hS := And.intro (hg4.cell hS.1 (by simp)) (hg4.cell hS.2 (by simp))
     refine hK _ _ _ hS (fun x hx => hx) ?_
     clear hK K
     repeat (refine line_read (a' := ?_) rfl (by kernel_rfl) (by kernel_rfl) hS (fun x hx K hK => ?_) ?_; rotate_left; · obtain ⟨q0, q1⟩ := hx; go_wp2; exact hK)
     refine line_end ?_
     have hb4 := hb3.ext (ext_trans hg3 hg4)
     have HW4 := Lib.hid (And.intro (Owns.bts rfl hown4) (ext_trans HE3.out (ext_trans hg3 hg4)))
     clear hown4 hg3 hg4 hS hgd hb3 hb2 hown3
     go_wp2_with (refine tens_load _ rfl rfl hb4 rfl ?_)
     go_loopw [9, 28] (fun o i wr => ∃ (k : Nat) (v : Value), k ≤ 4 ∧ v = o ∧ i = .int .i64 k ∧ Bts wr v (bodyTo L k) ∧ Ext w1 wr) (fun _ i _ => 4 - (intOf i).toNat)
     case atStart => exact ⟨0, _, by omega, rfl, rfl, HW4.out.1, HW4.out.2⟩
     case round =>
       obtain ⟨k, v, hk, hv, rfl, hB, hE⟩ := hrel
       subst hv
       by_cases hlt : k < 4
       · have hix := tens_at L V hlt
         have hI := (HL.out k hlt).kept hE (by simp)
         have hS := hI.slice
         have hBn := Blk.new wr 53 zeroTC
         have HE := Lib.hid hE
         have P := fun w6 (h : Ext wr w6) => putEntry_any v (V k) _ (L.t k) w6 (hB.kept h (by simp)) (hI.kept h (by simp)) (HF.out.2.2 k hlt) (by have := bodyTo_len HF.out k (by omega); omega)
         clear hE hI hB hb4 hb M P1 P2
         go_wp2_with (first
           | (refine ten_store _ _ rfl rfl rfl hBn rfl hS rfl ?_; intro w6 hb6 hg6 hs6; clear hBn hs6; have HG6 := Lib.hid (grown_trans (World.grownBy_alloc wr (.cells zeroTC 53) none) hg6 (fun p hp hlt => by injection hp with hp; omega)); clear hg6)
           | (refine ten_load _ rfl rfl hb6 rfl ?_)
           | (go_at_call 210; refine (P w6 HG6.out).mono ?_; rintro e w7 ⟨v7, rfl, hB7, hE7⟩))
         go_roundw
         case rel => exact ⟨k + 1, _, by omega, rfl, by go_num, hB7, ext_trans HE.out (ext_trans HG6.out hE7)⟩
         case measure => simp [intOf]; omega
       · obtain rfl : k = 4 := by omega
         have HB := Lib.hid hB
         go_wp2_with (go_at_call 211; refine (M v wr HB.out).mono ?_; rintro e w8 ⟨v8, rfl, hown8, hg8⟩)
         go_returns
         exact ⟨_, rfl, ownsRow_le hown8 (by have := HE0.out.size; have := hE.size; omega), ext_trans HE0.out (ext_trans hE hg8)⟩
theorem snapBytes_any (L : Led) (V : Nat → Value) (n p : Int) (w : World) (hL : LedIs w L V) (hG : GoodL L) (hn0 : -9223372036854775000 ≤ n) (hn9 : n ≤ 9223372036854775807) :
   Calls Tryz.prog 177 #[.agg (ledC L V), .int .i64 n, .int .i64 p] w (MadeE w (snL L n p) (snE L n p)) := snapBytes_at L V n _ p w hL hG rfl hn0 hn9
end Go.Proofs.YtfgifgglcafadaaGreatDoor

namespace Go.Proofs.YtfgifgglcafadaaGreatDoor
set_option linter.unusedVariables false
set_option linter.unusedSimpArgs false
set_option linter.unusedVariables false
set_option linter.unusedSimpArgs false
set_option maxRecDepth 100000
open Go.RowKit
abbrev Rst := List Int × Int
def rdN (n : Int) (s : Rst) : Rst := (numX n s.1 s.2, numE n s.1 s.2)
def rdV (n : Int) (s : Rst) : Int := numV n s.1 s.2
def rdF (s : Rst) : Rst := (numX 1 s.1 s.2, flagE s.1 s.2)
def rdB (s : Rst) : Bool := flagB s.1 s.2
def rowS (s : Rst) : Nat → Rst
 | 0 => s
 | k + 1 => rdN 1 (rowS s k)
def rowV (s : Rst) : Nat → List Int
 | 0 => []
 | k + 1 => rowV s k ++ [rdV 1 (rowS s k)]
def ent4 (s : Rst) : Rst := rdN 1 (rdN 1 (rdN 4 (rdF s)))
def entN (s : Rst) : Nat := (rdV 1 (ent4 s)).toNat
def entS (s : Rst) : Rst := if rdB s = true then rowS (rdN 1 (ent4 s)) (entN s) else rdF s
def entT (s : Rst) : Ten := if rdB s = true then ⟨true, rdV 4 (rdF s), rdV 1 (rdN 4 (rdF s)), rdV 1 (rdN 1 (rdN 4 (rdF s))), rowV (rdN 1 (ent4 s)) (entN s)⟩ else noTen
def ledS (bs : List Int) : Nat → Rst
 | 0 => rdN 4 (rdN 4 (bs, 0))
 | k + 1 => entS (ledS bs k)
def ledK (bs : List Int) (k : Nat) : Led := ⟨rdV 4 (bs, 0), rdV 4 (rdN 4 (bs, 0)), fun j => if j < k then entT (ledS bs j) else noTen⟩
def ledR (bs : List Int) : Led := ledK bs 4
def ledE (bs : List Int) : Int := doneE (ledS bs 4).1 (ledS bs 4).2
def snpE (xs : List Int) (n p : Int) : Int := if whE xs 76 = 0 then (if ledE (whB xs 76) = 0 ∧ rightL (ledR (whB xs 76)) n p = true then 0 else 2) else whE xs 76
def snpL (xs : List Int) (n p : Int) : Led := if snpE xs n p = 0 then ledR (whB xs 76) else noLed
theorem rdN_byts {n : Int} {s : Rst} (h : Byts s.1) : Byts (rdN n s).1 := numX_byts h
theorem rdF_byts {s : Rst} (h : Byts s.1) : Byts (rdF s).1 := numX_byts h
theorem rowS_byts {s : Rst} (h : Byts s.1) : ∀ k, Byts (rowS s k).1
 | 0 => h
 | k + 1 => rdN_byts (rowS_byts h k)
theorem entS_byts {s : Rst} (h : Byts s.1) : Byts (entS s).1 := by
 unfold entS
 split
 · exact rowS_byts (rdN_byts (rdN_byts (rdN_byts (rdN_byts (rdF_byts h))))) _
 · exact rdF_byts h
theorem ledS_byts {bs : List Int} (h : Byts bs) : ∀ k, Byts (ledS bs k).1
 | 0 => rdN_byts (rdN_byts (s := (bs, 0)) h)
 | k + 1 => entS_byts (ledS_byts h k)
theorem take_byts {xs : List Int} (h : Byts xs) (n : Nat) : Byts (xs.take n) := fun x hx => h x (List.mem_of_mem_take hx)
theorem rdV_one {s : Rst} (h : Byts s.1) : 0 ≤ rdV 1 s ∧ rdV 1 s ≤ 255 := by
 unfold rdV numV
 split
 · rename_i hh
   have h1 := leV_bd _ (take_byts h (1 : Int).toNat)
   have h2 : (s.1.take (1 : Int).toNat).length ≤ 1 := by simp; omega
   have h3 : (256 : Int) ^ (s.1.take (1 : Int).toNat).length ≤ 256 := by
     have : (s.1.take (1 : Int).toNat).length = 0 ∨ (s.1.take (1 : Int).toNat).length = 1 := by omega
     rcases this with e | e <;> rw [e] <;> decide
   omega
 · omega
theorem rdV_four {s : Rst} (h : Byts s.1) : 0 ≤ rdV 4 s ∧ rdV 4 s ≤ 4294967295 := by
 unfold rdV numV
 split
 · rename_i hh
   have h1 := leV_bd _ (take_byts h (4 : Int).toNat)
   have h2 : (s.1.take (4 : Int).toNat).length = 4 := by simp; omega
   rw [h2] at h1
   omega
 · omega
theorem rowV_len (s : Rst) : ∀ k, (rowV s k).length = k
 | 0 => rfl
 | k + 1 => by simp [rowV, rowV_len s k]
theorem rowV_one {s : Rst} (h : Byts s.1) : ∀ k, One (rowV s k)
 | 0 => fun x hx => by simp [rowV] at hx
 | k + 1 => fun x hx => by
   rw [rowV, List.mem_append] at hx
   rcases hx with hx | hx
   · exact rowV_one h k x hx
   · simp at hx; subst hx; exact rdV_one (rowS_byts h k)
theorem ent4_byts {s : Rst} (h : Byts s.1) : Byts (ent4 s).1 := rdN_byts (rdN_byts (rdN_byts (rdF_byts h)))
theorem entN_le {s : Rst} (h : Byts s.1) : entN s ≤ 255 := by
 have := rdV_one (ent4_byts h)
 unfold entN
 omega
theorem wf_nat {n : Int} (h0 : 0 ≤ n) (h1 : n ≤ 4294967295) : (Lit.int .i64 n).wf = true := by
 simp [Lit.wf, IntKind.min, IntKind.max, IntKind.bits, IntKind.signed]
 omega
theorem entT_good {s : Rst} (h : Byts s.1) : (entT s).bs.length ≤ 255 ∧ One (entT s).bs ∧ (0 ≤ (entT s).ep ∧ (entT s).ep ≤ 4294967295) := by
 unfold entT
 split
 · exact ⟨by show (rowV _ _).length ≤ 255; rw [rowV_len]; exact entN_le h, rowV_one (rdN_byts (ent4_byts h)) _, rdV_four (rdF_byts h)⟩
 · exact ⟨by simp [noTen], fun x hx => by simp [noTen] at hx, by simp [noTen]⟩
theorem ledK_good {bs : List Int} (h : Byts bs) (k : Nat) : GoodL (ledK bs k) := by
 have key : ∀ j, ((ledK bs k).t j).bs.length ≤ 255 ∧ One ((ledK bs k).t j).bs ∧ (0 ≤ ((ledK bs k).t j).ep ∧ ((ledK bs k).t j).ep ≤ 4294967295) := fun j => by
   show (if j < k then entT (ledS bs j) else noTen).bs.length ≤ 255 ∧ One (if j < k then entT (ledS bs j) else noTen).bs ∧ _
   unfold ledK
   dsimp only
   split
   · exact entT_good (ledS_byts h j)
   · exact ⟨by simp [noTen], fun x hx => by simp [noTen] at hx, by simp [noTen]⟩
 exact ⟨fun j _ => by have := (key j).1; omega, fun j _ b hb => by have := (key j).2.1 b hb; exact wf_nat (by omega) (by omega), fun j _ => wf_nat (key j).2.2.1 (key j).2.2.2⟩
theorem ledK_next (bs : List Int) (k : Nat) : updT (ledK bs k) k (entT (ledS bs k)) = ledK bs (k + 1) := by
 unfold updT ledK
 congr 1
 funext j
 dsimp only
 by_cases e : j = k
 · subst e; simp
 · by_cases e2 : j < k
   · simp [e, e2, show j < k + 1 by omega]
   · simp [e, e2, show ¬ j < k + 1 by omega]
theorem numLe {x : Int} {n : Nat} {r : List Int} (hn : n = 1 ∨ n = 4) (h0 : 0 ≤ x) (h1 : x < 256 ^ n) : rdV n (leB x n ++ r, 0) = x ∧ rdN n (leB x n ++ r, 0) = (r, 0) := by
 have hs : sizeB (n : Int) = true := by rcases hn with rfl | rfl <;> decide
 have hl : ((n : Nat) : Int) ≤ ((leB x n ++ r).length : Int) := by rw [List.length_append, leB_len]; omega
 obtain ⟨e1, e2, e3⟩ := num_ok hs hl
 refine ⟨?_, ?_⟩
 · show numV _ _ _ = _
   rw [e1, Int.toNat_natCast, List.take_left' (leB_len x n), leV_leB n h0 h1]
 · show (numX _ _ _, numE _ _ _) = _
   rw [e2, e3, Int.toNat_natCast, List.drop_left' (leB_len x n)]
theorem numOne {x : Int} {r : List Int} (h0 : 0 ≤ x) (h1 : x ≤ 255) : rdV 1 (x :: r, 0) = x ∧ rdN 1 (x :: r, 0) = (r, 0) := by
 have := numLe (x := x) (n := 1) (r := r) (.inl rfl) h0 (by show x < 256; omega)
 rw [leB_one h0 h1] at this
 exact this
theorem numFour {x : Int} {r : List Int} (h0 : 0 ≤ x) (h1 : x ≤ 4294967295) : rdV 4 (leB x 4 ++ r, 0) = x ∧ rdN 4 (leB x 4 ++ r, 0) = (r, 0) := numLe (n := 4) (.inr rfl) h0 (by show x < 4294967296; omega)
theorem flagOne {r : List Int} : rdB (1 :: r, 0) = true ∧ rdF (1 :: r, 0) = (r, 0) := by
 obtain ⟨e1, e2⟩ := numOne (x := 1) (r := r) (by decide) (by decide)
 have v : numV 1 (1 :: r) 0 = 1 := e1
 have n2 : (numX 1 (1 :: r) 0, numE 1 (1 :: r) 0) = (r, 0) := e2
 injection n2 with n3 n4
 refine ⟨?_, ?_⟩
 · show flagB _ _ = true
   unfold flagB; rw [v]; rfl
 · show (numX _ _ _, flagE _ _) = _
   unfold flagE; rw [v, n3, n4]; rfl
theorem flagZero {r : List Int} : rdB (0 :: r, 0) = false ∧ rdF (0 :: r, 0) = (r, 0) := by
 obtain ⟨e1, e2⟩ := numOne (x := 0) (r := r) (by decide) (by decide)
 have v : numV 1 (0 :: r) 0 = 0 := e1
 have n2 : (numX 1 (0 :: r) 0, numE 1 (0 :: r) 0) = (r, 0) := e2
 injection n2 with n3 n4
 refine ⟨?_, ?_⟩
 · show flagB _ _ = false
   unfold flagB; rw [v]; rfl
 · show (numX _ _ _, flagE _ _) = _
   unfold flagE; rw [v, n3, n4]; rfl
theorem row_back {xs r : List Int} (h : One xs) : ∀ k, k ≤ xs.length → rowS (xs ++ r, 0) k = (xs.drop k ++ r, 0) ∧ rowV (xs ++ r, 0) k = xs.take k
 | 0, _ => by simp [rowS, rowV]
 | k + 1, hk => by
   obtain ⟨e1, e2⟩ := row_back h (r := r) k (by omega)
   have hx := h _ (getD_mem0 (xs := xs) (q := k) (by omega))
   have hd : xs.drop k = xs.getD k 0 :: xs.drop (k + 1) := by
     rw [List.drop_eq_getElem_cons (by omega), List.getD_eq_getElem?_getD, List.getElem?_eq_getElem (by omega)]; rfl
   obtain ⟨f1, f2⟩ := numOne (x := xs.getD k 0) (r := xs.drop (k + 1) ++ r) hx.1 hx.2
   rw [rowS, rowV, e1, e2, hd, List.cons_append, f1, f2, take_snocI (by omega)]
   exact ⟨rfl, rfl⟩
theorem ent_back {x : Ten} {r : List Int} (h : x.th = true → FitsT x) (h2 : x.th = false → x = noTen) : entT (entL x ++ r, 0) = x ∧ entS (entL x ++ r, 0) = (r, 0) := by
 cases ht : x.th
 · obtain rfl := h2 ht
   obtain ⟨f1, f2⟩ := flagZero (r := r)
   have e : entL noTen = [0] := rfl
   rw [e, List.cons_append, List.nil_append]
   unfold entT entS
   rw [f1, f2]
   exact ⟨rfl, rfl⟩
 · have f := h ht
   obtain ⟨xt, xe, xz, xp, xb⟩ := x
   simp only [] at ht
   subst ht
   have q1 := f.ep
   have q2 := f.sz
   have q3 := f.sp
   have q4 := f.len
   have q5 := f.bs
   simp only [] at q1 q2 q3 q4 q5
   have e : entL (⟨true, xe, xz, xp, xb⟩ : Ten) ++ r = 1 :: (leB xe 4 ++ (xz :: (xp :: ((xb.length : Int) :: (xb ++ r))))) := by simp [entL]
   obtain ⟨a1, a2⟩ := flagOne (r := leB xe 4 ++ (xz :: (xp :: ((xb.length : Int) :: (xb ++ r)))))
   obtain ⟨b1, b2⟩ := numFour (x := xe) (r := xz :: (xp :: ((xb.length : Int) :: (xb ++ r)))) q1.1 q1.2
   obtain ⟨c1, c2⟩ := numOne (x := xz) (r := xp :: ((xb.length : Int) :: (xb ++ r))) q2.1 q2.2
   obtain ⟨d1, d2⟩ := numOne (x := xp) (r := (xb.length : Int) :: (xb ++ r)) q3.1 q3.2
   obtain ⟨g1, g2⟩ := numOne (x := (xb.length : Int)) (r := xb ++ r) (by omega) (by omega)
   obtain ⟨h1, h3⟩ := row_back (r := r) q5 xb.length (Nat.le_refl _)
   rw [e]
   unfold entT entS entN ent4
   rw [if_pos a1, if_pos a1, a2, b1, b2, c1, c2, d1, d2, g1, g2, Int.toNat_natCast, h1, h3]
   simp
theorem led_back {L : Led} (h : FitsL L) (h2 : ∀ j, j < 4 → (L.t j).th = false → L.t j = noTen) :
   (ledR (bodyL L)).gen = L.gen ∧ (ledR (bodyL L)).eps = L.eps ∧ (∀ j, j < 4 → (ledR (bodyL L)).t j = L.t j) ∧ ledE (bodyL L) = 0 := by
 obtain ⟨g1, g2⟩ := h.1
 obtain ⟨e1, e2⟩ := h.2.1
 have s0 : ∃ r, bodyL L = leB L.gen 4 ++ (leB L.eps 4 ++ r) ∧ r = entL (L.t 0) ++ (entL (L.t 1) ++ (entL (L.t 2) ++ (entL (L.t 3) ++ []))) := ⟨_, by simp only [bodyL, bodyTo, List.append_assoc, List.append_nil], rfl⟩
 obtain ⟨r, hr, hr2⟩ := s0
 obtain ⟨a1, a2⟩ := numFour (x := L.gen) (r := leB L.eps 4 ++ r) g1 g2
 obtain ⟨b1, b2⟩ := numFour (x := L.eps) (r := r) e1 e2
 rw [← hr] at a1 a2
 have z0 : ledS (bodyL L) 0 = (entL (L.t 0) ++ (entL (L.t 1) ++ (entL (L.t 2) ++ (entL (L.t 3) ++ []))), 0) := by
   rw [ledS, a2, b2, hr2]
 obtain ⟨u0, v0⟩ := ent_back (r := entL (L.t 1) ++ (entL (L.t 2) ++ (entL (L.t 3) ++ []))) (h.2.2 0 (by omega)) (h2 0 (by omega))
 have z1 : ledS (bodyL L) 1 = (entL (L.t 1) ++ (entL (L.t 2) ++ (entL (L.t 3) ++ [])), 0) := by rw [ledS, z0, v0]
 obtain ⟨u1, v1⟩ := ent_back (r := entL (L.t 2) ++ (entL (L.t 3) ++ [])) (h.2.2 1 (by omega)) (h2 1 (by omega))
 have z2 : ledS (bodyL L) 2 = (entL (L.t 2) ++ (entL (L.t 3) ++ []), 0) := by rw [ledS, z1, v1]
 obtain ⟨u2, v2⟩ := ent_back (r := entL (L.t 3) ++ []) (h.2.2 2 (by omega)) (h2 2 (by omega))
 have z3 : ledS (bodyL L) 3 = (entL (L.t 3) ++ [], 0) := by rw [ledS, z2, v2]
 obtain ⟨u3, v3⟩ := ent_back (r := []) (h.2.2 3 (by omega)) (h2 3 (by omega))
 have z4 : ledS (bodyL L) 4 = ([], 0) := by rw [ledS, z3, v3]
 refine ⟨a1, ?_, fun j hj => ?_, ?_⟩
 · show rdV 4 (rdN 4 (bodyL L, 0)) = _
   rw [a2, b1]
 · show (if j < 4 then entT (ledS (bodyL L) j) else noTen) = _
   rw [if_pos hj]
   obtain rfl | rfl | rfl | rfl : j = 0 ∨ j = 1 ∨ j = 2 ∨ j = 3 := by omega
   · rw [z0, u0]
   · rw [z1, u1]
   · rw [z2, u2]
   · rw [z3, u3]
 · unfold ledE doneE
   rw [z4]
   rfl
end Go.Proofs.YtfgifgglcafadaaGreatDoor

namespace Go.Proofs.YtfgifgglcafadaaGreatDoor
set_option linter.unusedVariables false
set_option linter.unusedSimpArgs false
set_option linter.unusedVariables false
set_option linter.unusedSimpArgs false
set_option maxRecDepth 100000
open Go.RowKit
structure EqL (A B : Led) : Prop where
 gen : A.gen = B.gen
 eps : A.eps = B.eps
 t : ∀ j, j < 4 → A.t j = B.t j
theorem EqL.refl (A : Led) : EqL A A := ⟨rfl, rfl, fun _ _ => rfl⟩
theorem EqL.symm {A B : Led} (h : EqL A B) : EqL B A := ⟨h.gen.symm, h.eps.symm, fun j hj => (h.t j hj).symm⟩
theorem EqL.taken {A B : Led} (h : EqL A B) : ∀ k, k ≤ 4 → takenTo A k = takenTo B k
 | 0, _ => rfl
 | k + 1, hk => by rw [takenTo, takenTo, h.taken k (by omega), h.t k (by omega)]
theorem EqL.epochs {A B : Led} (h : EqL A B) : ∀ k, k ≤ 4 → epochsTo A k = epochsTo B k
 | 0, _ => rfl
 | k + 1, hk => by rw [epochsTo, epochsTo, h.epochs k (by omega), h.t k (by omega)]
theorem EqL.right {A B : Led} {n p : Int} (h : EqL A B) (hA : RightP A n p) : RightP B n p :=
 ⟨h.gen ▸ hA.gen, h.eps ▸ hA.eps, fun j hj => by rw [← h.t j hj, ← h.eps]; exact hA.ten j hj, by
   have := hA.blk
   show (takenTo B 4).Nodup
   rw [← h.taken 4 (by omega)]
   exact this, by
   have := hA.epo
   show (epochsTo B 4).Nodup
   rw [← h.epochs 4 (by omega)]
   exact this⟩
theorem RightP.no {L : Led} {n p : Int} (h : RightP L n p) : ∀ j, j < 4 → (L.t j).th = false → L.t j = noTen := fun j hj ht => by
 obtain ⟨h1, h2, h3, h4⟩ := (h.ten j hj).2 ht
 cases hx : L.t j
 rw [hx] at ht h1 h2 h3 h4
 simp only [] at ht h1 h2 h3 h4
 subst ht h1 h2 h3 h4
 rfl
theorem whole_back {body : List Int} (hl : body.length ≤ 65535) : whE (frL 76 body) 76 = 0 ∧ whB (frL 76 body) 76 = body := by
 have hb := open_back (k := 76) (body := body) (rest := []) (by decide) (by decide) hl
 rw [List.append_nil] at hb
 obtain ⟨_, h1, h2, h3, h4⟩ := hb
 have e : whE (frL 76 body) 76 = 0 := by
   unfold whE
   rw [if_pos h1, if_pos ⟨by rw [h4, frL_len]; omega, h2⟩]
 exact ⟨e, by unfold whB; rw [if_pos e, h3]⟩
theorem snap_back {L : Led} {n p : Int} (h : RightP L n p) (hn0 : -9223372036854775000 ≤ n) (hn : n ≤ 256) :
   snE L n p = 0 ∧ snL L n p = frL 76 (bodyL L) ∧ snpE (frL 76 (bodyL L)) n p = 0 ∧ EqL (snpL (frL 76 (bodyL L)) n p) L := by
 have hm : min n 256 = n := by omega
 have hr : rightL L n p = true := (rightL_iff hn0 (by omega)).2 h
 have hF := h.fits hn hn0
 obtain ⟨w1, w2⟩ := whole_back (body := bodyL L) (by have := bodyTo_len hF 4 (by omega); show (bodyTo L 4).length ≤ _; omega)
 obtain ⟨b1, b2, b3, b4⟩ := led_back hF h.no
 have hE : EqL (ledR (bodyL L)) L := ⟨b1, b2, b3⟩
 have hr2 : rightL (ledR (bodyL L)) n p = true := (rightL_iff hn0 (by omega)).2 (hE.symm.right h)
 have e : snpE (frL 76 (bodyL L)) n p = 0 := by unfold snpE; rw [if_pos w1, w2, if_pos ⟨b4, hr2⟩]
 refine ⟨by unfold snE; rw [hm, if_pos hr], by unfold snL; rw [hm, if_pos hr], e, ?_⟩
 unfold snpL
 rw [if_pos e, w2]
 exact hE
theorem few_of : ∀ (k : Nat) (a : Int) (xs : List Int), xs.Nodup → (∀ x ∈ xs, a ≤ x ∧ x < a + k) → xs.length ≤ k
 | 0, a, xs, _, h => by
   cases xs with
   | nil => simp
   | cons x r => have := h x (by simp); omega
 | k + 1, a, xs, hn, h => by
   by_cases hm : a + k ∈ xs
   · have h1 := few_of k a (xs.erase (a + k)) (hn.erase _) (fun x hx => by
       have hx2 := h x (List.mem_of_mem_erase hx)
       have hne : x ≠ a + k := fun e => by
         subst e
         exact (List.Nodup.not_mem_erase hn) hx
       omega)
     rw [List.length_erase_of_mem hm] at h1
     omega
   · have h1 := few_of k a xs hn (fun x hx => by
       have hx2 := h x hx
       have hne : x ≠ a + k := fun e => hm (e ▸ hx)
       omega)
     omega
theorem entL_size (x : Ten) : (entL x).length ≤ 8 + x.bs.length := by
 unfold entL
 split
 · simp [leB_len]; omega
 · simp only [List.length_cons, List.length_nil]; omega
theorem bodyTo_size (L : Led) : ∀ k, (bodyTo L k).length ≤ 8 + 8 * k + (takenTo L k).length
 | 0 => by simp [bodyTo, leB_len, takenTo]
 | k + 1 => by
   have h1 := bodyTo_size L k
   have h2 := entL_size (L.t k)
   simp only [bodyTo, takenTo, List.length_append]
   omega
theorem RightP.few {L : Led} {n p : Int} (h : RightP L n p) (hn : n ≤ 64) : (takenL L).length ≤ 62 := by
 refine few_of 62 2 _ h.blk (fun x hx => ?_)
 obtain ⟨j, hj, hx⟩ := (taken_mem 4 x).1 hx
 cases ht : (L.t j).th
 · rw [((h.ten j hj).2 ht).2.2.2] at hx
   cases hx
 · have := ((h.ten j hj).1 ht).2.2.2.2.2 x hx
   omega
theorem snap_fits {L : Led} {n p : Int} (h : RightP L n p) (hn : n ≤ 64) : (frL 76 (bodyL L)).length ≤ 109 := by
 have h1 := bodyTo_size L 4
 have h2 : (takenTo L 4).length ≤ 62 := h.few hn
 rw [frL_len]
 show (bodyTo L 4).length + 7 ≤ 109
 omega
end Go.Proofs.YtfgifgglcafadaaGreatDoor
