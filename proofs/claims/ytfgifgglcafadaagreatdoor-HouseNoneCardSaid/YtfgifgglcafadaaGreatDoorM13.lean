/-
  Texts put together: VE KJ KL EZ KR KC.
-/
import Derived.Test.YtfgifgglcafadaaGreatDoorM12
import Derived.Test.YtfgifgglcafadaaGreatDoorM05
import Derived.Test.YtfgifgglcafadaaGreatDoorM11
import Derived.Test.YtfgifgglcafadaaGreatDoorM01
import Derived.OpenShut
import Derived.WideShapes
import Derived.Test.YtfgifgglcafadaaGreatDoorM10
namespace Go.Proofs.YtfgifgglcafadaaGreatDoor
set_option linter.unusedVariables false
set_option linter.unusedSimpArgs false
set_option linter.unusedVariables false
set_option linter.unusedSimpArgs false
set_option maxRecDepth 100000
open Go.RowKit
theorem led_buildV (g e : Int) (w : World) : (Instr.build 56 #[(0, .int .i64 g), (1, .int .i64 e)]).run Tryz.prog w = .ok (.agg (ledC ⟨g, e, fun _ => noTen⟩ (fun _ => nilS))) w := by kernel_rfl
theorem led_build {ops : Array Oper} {rest : List Oper} {o : Oper} {a : Act} {w : World} {Q : Exit → Act → World → Prop} (hgd : o.guard = none) (x y : Operand) (ho : o.op = .build 56 #[(0, x), (1, y)]) {g e : Int} (hx : a.eval x = .int .i64 g) (hy : a.eval y = .int .i64 e)
   (h : wpList Tryz.prog ops Q rest (a.put o.dst (.agg (ledC ⟨g, e, fun _ => noTen⟩ (fun _ => nilS)))) w) : wpList Tryz.prog ops Q (o :: rest) a w := by
 refine wpList_plain hgd fun K hK => ?_
 have hm : (#[((0 : Nat), x), (1, y)].map fun (q : Nat × Operand) => (q.1, a.eval q.2)) = #[(0, .int .i64 g), (1, .int .i64 e)] := by simp [hx, hy]
 unfold Oper.wp execOp
 simp only [ho, hm, Sem.run_bind, led_buildV, Result.andThen_ok, Sem.run_pure]
 exact hK _ _ h
structure Par (T : TypeId) (w0 w : World) (br c R B : Nat) (s : Rst) (A : Led) (V : Nat → Value) : Prop where
 rd : RdIs T w br c s.1 s.2
 byt : Byts s.1
 res : Blk w R 56 zeroC
 led : Blk w B 56 (ledC A V)
 is : LedIs w A V
 low : ∀ j, j < 4 → ∀ q, (V j).ownBlock = some q → B < q ∧ q < w.heap.size
 ext : Ext w0 w
 oR : w0.heap.size ≤ R
 ob : R < br
 oB : br < B
 oc : c < B
theorem Par.num {T : TypeId} {w0 w w' : World} {br c R B : Nat} {s s' : Rst} {A : Led} {V : Nat → Value} (h : Par T w0 w br c R B s A V) (hg : w.grownBy w' (some br)) (hR : RdIs T w' br c s'.1 s'.2) (hB : Byts s'.1) : Par T w0 w' br c R B s' A V := by
 have q1 := h.oR
 have q2 := h.ob
 have q3 := h.oB
 have q4 := hg.size
 exact ⟨hR, hB, h.res.kept hg (by simp; omega), h.led.kept hg (by simp; omega), h.is.kept hg (fun j hj p hp e => by injection e with e; have := h.low j hj p hp; omega), fun j hj q hq => by have := h.low j hj q hq; omega, grown_trans h.ext hg (fun p hp hlt => by injection hp with hp; omega), h.oR, h.ob, h.oB, h.oc⟩
theorem Par.next {T : TypeId} {w0 w w' : World} {br c R B : Nat} {s : Rst} {A : Led} {V : Nat → Value} (h : Par T w0 w br c R B s A V) (hg : Ext w w') : Par T w0 w' br c R B s A V := by
 have q4 := hg.size
 exact ⟨h.rd.kept hg (by simp) (by simp), h.byt, h.res.ext hg, h.led.ext hg, h.is.ext hg, fun j hj q hq => by have := h.low j hj q hq; omega, ext_trans h.ext hg, h.oR, h.ob, h.oB, h.oc⟩
theorem Par.put {T : TypeId} {w0 w w' : World} {br c R B k : Nat} {s : Rst} {A : Led} {V : Nat → Value} {z : Ten} {v : Value} {M : Nat} (h : Par T w0 w br c R B s A V) (hb : Blk w' B 56 (ledC (updT A k z) (updV V k v))) (hg : w.grownBy w' (some B))
   (hs : w'.heap.size = w.heap.size) (ho : OwnI M w v z.bs) (hM : B < M) : Par T w0 w' br c R B s (updT A k z) (updV V k v) := by
 have q1 := h.oR
 have q2 := h.ob
 have q3 := h.oB
 have q4 := h.oc
 have hv : ∀ q, v.ownBlock = some q → B < q ∧ q < w.heap.size := fun q hq => by have := own_lt ho q hq; omega
 refine ⟨h.rd.kept hg (by simp; omega) (by simp; omega), h.byt, h.res.kept hg (by simp; omega), hb, fun j hj => ?_, fun j hj q hq => ?_, grown_trans h.ext hg (fun p hp hlt => by injection hp with hp; omega), h.oR, h.ob, h.oB, h.oc⟩
 · show Ints w' (if j = k then v else V j) ((if j = k then z else A.t j).bs)
   split
   · exact (owns_ints rfl ho).kept hg (fun p hp e => by injection e with e; have := hv p hp; omega)
   · exact (h.is j hj).kept hg (fun p hp e => by injection e with e; have := h.low j hj p hp; omega)
 · have hq2 : (if j = k then v else V j).ownBlock = some q := hq
   rw [hs]
   split at hq2
   · exact hv q hq2
   · exact h.low j hj q hq2
theorem par_start {T : TypeId} {w w1 w2 w3 w4 w5 w6 : World} {br c : Nat} {s5 : Rst} {g e : Int} (ha : Ext w w1) (hres : Blk w1 w.heap.size 56 zeroC) (hsz : w1.heap.size = w.heap.size + 1) (hg2 : Ext w1 w2) (hg3 : Ext w2 w3) (hl1 : w2.heap.size ≤ br) (hl2 : br < w3.heap.size) (hl3 : c < w3.heap.size)
   (hg4 : w3.grownBy w4 (some br)) (hg5 : w4.grownBy w5 (some br)) (hR : RdIs T w5 br c s5.1 s5.2) (hB : Byts s5.1) (hb6 : Blk w6 w5.heap.size 56 (ledC ⟨g, e, fun _ => noTen⟩ (fun _ => nilS))) (hg : Ext w5 w6) :
   Par T w w6 br c w.heap.size w5.heap.size s5 ⟨g, e, fun _ => noTen⟩ (fun _ => nilS) := by
 have z1 := hg2.size
 have z2 := hg3.size
 have z3 := hg4.size
 have z4 := hg5.size
 have hE5 : Ext w w5 := grown_trans (grown_trans (ext_trans ha (ext_trans hg2 hg3)) hg4 (fun p hp hlt => by injection hp with hp; omega)) hg5 (fun p hp hlt => by injection hp with hp; omega)
 exact ⟨hR.kept hg (by simp) (by simp), hB, ((((hres.ext hg2).ext hg3).kept hg4 (by simp; omega)).kept hg5 (by simp; omega)).ext hg, hb6, fun _ _ => .inl ⟨rfl, rfl⟩, fun j _ q hq => by simp [Value.ownBlock] at hq, ext_trans hE5 hg, Nat.le_refl _, by omega, by omega, by omega⟩
theorem Par.done {T : TypeId} {w0 w w' : World} {br c R B : Nat} {s : Rst} {A : Led} {V : Nat → Value} (h : Par T w0 w br c R B s A V) (hg : w.grownBy w' (some R)) : LedIs w' A V ∧ (∀ j, j < 4 → ∀ p, (V j).ownBlock = some p → w0.heap.size ≤ p ∧ p < w'.heap.size) ∧ Ext w0 w' := by
 have q1 := h.oR
 have q2 := h.ob
 have q3 := h.oB
 have q4 := hg.size
 exact ⟨h.is.kept hg (fun j hj p hp e => by injection e with e; have := h.low j hj p hp; omega), fun j hj p hp => by have := h.low j hj p hp; omega, grown_trans h.ext hg (fun p hp hlt => by injection hp with hp; omega)⟩
theorem Par.none {T : TypeId} {w0 w w' : World} {br c R B : Nat} {s : Rst} {A : Led} {V : Nat → Value} (h : Par T w0 w br c R B s A V) (hg : w.grownBy w' (some R)) (er : Int) : ChangeP w0 (noLed, er) (.returned (.tuple #[.agg (ledC noLed fun _ => nilS), .int .i64 er])) w' :=
 ⟨_, rfl, noLed_is _, fun j _ q hq => by simp [Value.ownBlock] at hq, (h.done hg).2.2⟩
theorem whB11_byts {xs : List Int} (k : Int) (h : Byts xs) : Byts (whB xs k) := by
 unfold whB
 split
 · unfold opB
   split
   · exact fun x hx => h x (List.mem_of_mem_drop (List.mem_of_mem_take hx))
   · exact fun x hx => by cases hx
 · exact fun x hx => by cases hx
theorem whB11_len (xs : List Int) (k : Int) : (whB xs k).length ≤ xs.length := by
 unfold whB
 split
 · unfold opB
   split
   · simp; omega
   · simp
 · simp
set_option maxRecDepth 100000 in
set_option maxHeartbeats 800000 in
theorem snapParse_not (v : Value) (xs : List Int) (n p : Int) (w : World) (hb : Bts w v xs) (hB : Byts xs) (hm : xs.length ≤ 140737488351232) (hE : whE xs 76 ≠ 0) :
   Calls Tryz.prog 223 #[v, .int .i64 n, .int .i64 p] w (ChangeP w (noLed, whE xs 76)) := by
 have hres := Blk.new w 56 zeroC
 have ha := World.grownBy_alloc w (.cells zeroC 56) none
 obtain ⟨w1, hw1⟩ : ∃ x, w.alloc (.cells zeroC 56) = x := ⟨_, rfl⟩
 rw [hw1] at hres ha
 have W := whole_any v xs 76 w1 (hb.kept ha (by simp)) hB hm
 obtain ⟨ao, cap, b, off, rfl, _⟩ := hb.sform
 generalize whE xs 76 = er at *
 have hE' : (er != 0) = true := by simpa using hE
 generalize whB xs 76 = ys at *
 have HA := Lib.hid ha
 clear hE hb hB ha
 go_enter Tryz.func223, Tryz.ntmps223
 go_wp2_with (first
   | (go_at_call 242; refine W.mono ?_; rintro e w2 ⟨v2, rfl, hown2, hg2⟩; obtain ⟨ao2, cp2, rfl⟩ := owns_shape hown2; have hr2 := hres.ext hg2)
   | (refine led_store (L := noLed) (V := fun _ => nilS) _ _ rfl rfl rfl hr2 rfl (fun _ _ => ⟨_, _, _, rfl⟩) rfl ?_; intro w3 hb3 hg3 hs3))
 refine bodyPost_ret (v := .tuple #[.agg (ledC noLed fun _ => nilS), .int .i64 er]) (results_cell_row2 (fn := Tryz.f223) rfl rfl rfl hb3 Tryz.underlying56 rfl Tryz.sizeLed) rfl ?_
 exact ⟨_, rfl, noLed_is _, fun j _ q hq => by simp [Value.ownBlock] at hq, grown_trans (ext_trans HA.out hg2) hg3 (fun p hp hlt => by injection hp with hp; omega)⟩
set_option maxRecDepth 100000 in
set_option maxHeartbeats 3200000 in
theorem snapParse_is (v : Value) (xs bs : List Int) (n p : Int) (w : World) (hb : Bts w v xs) (hB : Byts xs) (hm : xs.length ≤ 140737488351232) (hE : whE xs 76 = 0) (hbs : whB xs 76 = bs) (d : Int) (hd : ledE bs = d) (r : Bool) (hr : rightL (ledR bs) n p = r) (L2 : Led) (er : Int) (hyes : d = 0 ∧ r = true → L2 = ledR bs ∧ er = 0) (hno : ¬ (d = 0 ∧ r = true) → L2 = noLed ∧ er = 2) :
   Calls Tryz.prog 223 #[v, .int .i64 n, .int .i64 p] w (ChangeP w (L2, er)) := by
 have HYES := Lib.hid hyes
 have HNO := Lib.hid hno
 clear hyes hno
 have hres := Blk.new w 56 zeroC
 have ha := World.grownBy_alloc w (.cells zeroC 56) none
 have hsz : (w.alloc (.cells zeroC 56)).heap.size = w.heap.size + 1 := by simp
 obtain ⟨w1, hw1⟩ : ∃ x, w.alloc (.cells zeroC 56) = x := ⟨_, rfl⟩
 rw [hw1] at hres ha hsz
 have W := whole_any v xs 76 w1 (hb.kept ha (by simp)) hB hm
 have hBb : Byts bs := hbs ▸ whB11_byts 76 hB
 have hlb : bs.length ≤ 140737488351232 := by have := whB11_len xs 76; rw [hbs] at this; omega
 obtain ⟨ao, cap, b, off, rfl, _⟩ := hb.sform
 rw [hE, hbs] at W
 have N1 := fun wx (br c : Nat) (h : RdIs 303 wx br c bs 0) => number_s (s := (bs, 0)) (n := 4) h hBb
 have N2 := fun wx (br c : Nat) (h : RdIs 303 wx br c (rdN 4 (bs, 0)).1 (rdN 4 (bs, 0)).2) => number_s (s := rdN 4 (bs, 0)) (n := 4) h (rdN_byts (s := (bs, 0)) hBb)
 have HG := Lib.hid (ledK_good hBb)
 have HBY := Lib.hid (ledS_byts hBb)
 obtain ⟨gen, hgen⟩ : ∃ z, rdV 4 (bs, 0) = z := ⟨_, rfl⟩
 obtain ⟨eps, heps⟩ : ∃ z, rdV 4 (rdN 4 (bs, 0)) = z := ⟨_, rfl⟩
 have HK0 := Lib.hid (show (⟨gen, eps, fun _ => noTen⟩ : Led) = ledK bs 0 by unfold ledK; rw [hgen, heps]; congr 1)
 rw [hgen] at N1
 rw [heps] at N2
 have HA := Lib.hid (And.intro ha (And.intro hres hsz))
 have HR0 := Lib.hid hr
 have HD := Lib.hid hd
 clear hgen heps hE hbs hb hB hBb ha hres hr hd
 go_enter Tryz.func223, Tryz.ntmps223
 go_wp2_with (first
   | (go_at_call 244; refine (N2 _ _ _ hR4).mono ?_; rintro e w5 ⟨rfl, hR5, hg5⟩; have hBn := Blk.new w5 56 zeroC)
   | (refine led_build rfl _ _ rfl rfl rfl ?_)
   | (refine led_store (L := ⟨gen, eps, fun _ => noTen⟩) (V := fun _ => nilS) _ _ rfl rfl rfl hBn rfl (fun _ _ => ⟨_, _, _, rfl⟩) rfl ?_; intro w6 hb6 hg6 hs6; have S6 := par_start HA.out.1 HA.out.2.1 HA.out.2.2 hg2 hg3 hl1 hl2 hl3 hg4 hg5 hR5 (HBY.out 0) hb6 (grown_trans (World.grownBy_alloc w5 (.cells zeroC 56) none) hg6 (fun p hp hlt => by injection hp with hp; omega)); clear hb6 hg6 hs6 hBn hR5 hg5 hR4 hg4 hR3 hg3 hown2 hg2)
   | (go_at_call 244; refine (N1 _ _ _ hR3).mono ?_; rintro e w4 ⟨rfl, hR4, hg4⟩)
   | (go_at_call 242; refine W.mono ?_; rintro e w2 ⟨v2, rfl, hown2, hg2⟩; obtain ⟨ao2, cp2, rfl⟩ := owns_shape hown2)
   | (go_at_call 243; refine (read_any _ _ _ (Owns.bts rfl hown2) hlb (by have := hg2.size; omega)).mono ?_; rintro e w3 ⟨br, c, rfl, hR3, hg3, hl1, hl2, hl3⟩))
 obtain ⟨s0, hs0⟩ : ∃ z, rdN 4 (rdN 4 (bs, 0)) = z := ⟨_, rfl⟩
 rw [hs0, HK0.out] at S6
 have HS0 := Lib.hid (show ledS bs 0 = s0 from hs0)
 have HK1 := Lib.hid S6
 clear S6 hs0
 clear N1 N2 W hl1 hl2 hl3 hsz hlb hm
 go_loopw [30] (fun i wr => ∃ (k : Nat) (V : Nat → Value), k ≤ 4 ∧ i = .int .i64 k ∧ Par 303 w wr br c w.heap.size w5.heap.size (ledS bs k) (ledK bs k) V) (fun i _ => 4 - (intOf i).toNat)
 case atStart => exact ⟨0, _, by omega, rfl, by rw [HS0.out]; exact HK1.out⟩
 case round =>
   obtain ⟨k, V, hk, rfl, hS⟩ := hrel
   obtain ⟨A, hA⟩ : ∃ A, ledK bs k = A := ⟨_, rfl⟩
   obtain ⟨s, hs⟩ : ∃ s, ledS bs k = s := ⟨_, rfl⟩
   rw [hA, hs] at hS
   have HEQ := Lib.hid (And.intro hA hs)
   clear hA hs
   by_cases hlt : k < 4
   · have HS := Lib.hid hS
     have RE := readEntry_any br c s wr hS.rd hS.byt (by have := hS.oB; have := hS.led.lt; omega) (by have := hS.oc; have := hS.led.lt; omega)
     clear hS
     go_wp2_with (first
       | (go_at_call 270; refine RE.mono ?_; rintro e w6' ⟨v6, rfl, ho6, hR6, hg6⟩; have HP := Lib.hid (HS.out.num (s' := entS s) hg6 hR6 (entS_byts HS.out.byt)); have hled := HP.out.led; have hsv : SliceV v6 := (owns_ints rfl ho6).slice; clear hg6 hR6)
       | (refine ten_store_in _ _ rfl hlt rfl rfl hled hsv rfl ?_; intro w7 hb7 hg7 hs7; clear hled))
     go_roundw
     case rel =>
       have hQ := HP.out.put hb7 hg7 hs7 ho6 HS.out.led.lt
       obtain ⟨rfl, rfl⟩ := HEQ.out
       rw [ledK_next] at hQ
       exact ⟨k + 1, _, by omega, by go_num, hQ⟩
     case measure => simp [intOf]; omega
   · obtain rfl : k = 4 := by omega
     obtain ⟨hA, hs⟩ := HEQ.out
     have HS := Lib.hid hS
     have DN := done_is (e1 := d) hS.rd (by have := HD.out; unfold ledE at this; rw [hs] at this; exact this)
     have HGA := Lib.hid (show GoodL A from hA ▸ HG.out 4)
     have HRA := Lib.hid (show rightL A n p = r from hA ▸ HR0.out)
     have HLR := Lib.hid (show ledR bs = A from hA)
     clear hS hA hs
     by_cases h0 : d = 0
     · subst h0
       have CK := fun wx (h : LedIs wx A V) => check10_any A V n p wx h HGA.out
       rw [HRA.out] at CK
       cases r
       · obtain ⟨rfl, rfl⟩ := HNO.out (by simp)
         go_wp2_with (first
           | (go_at_call 247; refine DN.mono ?_; rintro e w8 ⟨rfl, hR8, hg8⟩; have HP := Lib.hid (HS.out.num (s' := (s.1, 0)) hg8 hR8 HS.out.byt); have hled := HP.out.led; clear hg8 hR8)
           | (refine led_load _ rfl rfl hled rfl ?_)
           | (go_at_call 208; refine (CK _ HP.out.is).mono ?_; rintro e w9 ⟨rfl, hE9⟩; have HQ := Lib.hid (HP.out.next hE9); have hres := HQ.out.res; clear hE9)
           | (refine led_store (L := noLed) (V := fun _ => nilS) _ _ rfl rfl rfl hres rfl (fun _ _ => ⟨_, _, _, rfl⟩) rfl ?_; intro w10 hb10 hg10 hs10))
         refine bodyPost_ret (v := .tuple #[.agg (ledC noLed fun _ => nilS), .int .i64 2]) (results_cell_row2 (fn := Tryz.f223) rfl rfl rfl hb10 Tryz.underlying56 rfl Tryz.sizeLed) rfl ?_
         exact HQ.out.none hg10 2
       · obtain ⟨hL2, rfl⟩ := HYES.out ⟨rfl, rfl⟩
         rw [HLR.out] at hL2
         subst hL2
         go_wp2_with (first
           | (go_at_call 247; refine DN.mono ?_; rintro e w8 ⟨rfl, hR8, hg8⟩; have HP := Lib.hid (HS.out.num (s' := (s.1, 0)) hg8 hR8 HS.out.byt); have hled := HP.out.led; clear hg8 hR8)
           | (refine led_load _ rfl rfl hlq rfl ?_)
           | (refine led_load _ rfl rfl hled rfl ?_)
           | (go_at_call 208; refine (CK _ HP.out.is).mono ?_; rintro e w9 ⟨rfl, hE9⟩; have HQ := Lib.hid (HP.out.next hE9); have hres := HQ.out.res; have hlq := HQ.out.led; have hsl := HQ.out.is.slices; clear hE9 hled)
           | (refine led_store (L := L2) (V := V) _ _ rfl rfl rfl hres rfl hsl rfl ?_; intro w10 hb10 hg10 hs10))
         refine bodyPost_ret (v := .tuple #[.agg (ledC L2 V), .int .i64 0]) (results_cell_row2 (fn := Tryz.f223) rfl rfl rfl hb10 Tryz.underlying56 rfl Tryz.sizeLed) rfl ?_
         have hdn := HQ.out.done hg10
         exact ⟨V, rfl, hdn.1, hdn.2.1, hdn.2.2⟩
     · have h0b : (d != 0) = true := by simpa using h0
       obtain ⟨rfl, rfl⟩ := HNO.out (fun h => h0 h.1)
       go_wp2_with (first
         | (go_at_call 247; refine DN.mono ?_; rintro e w8 ⟨rfl, hR8, hg8⟩; have HP := Lib.hid (HS.out.num (s' := (s.1, d)) hg8 hR8 HS.out.byt); have hres := HP.out.res; clear hg8 hR8)
         | (refine led_store (L := noLed) (V := fun _ => nilS) _ _ rfl rfl rfl hres rfl (fun _ _ => ⟨_, _, _, rfl⟩) rfl ?_; intro w10 hb10 hg10 hs10))
       refine bodyPost_ret (v := .tuple #[.agg (ledC noLed fun _ => nilS), .int .i64 2]) (results_cell_row2 (fn := Tryz.f223) rfl rfl rfl hb10 Tryz.underlying56 rfl Tryz.sizeLed) rfl ?_
       exact HP.out.none hg10 2
theorem snapParse_any (v : Value) (xs : List Int) (n p : Int) (w : World) (hb : Bts w v xs) (hB : Byts xs) (hm : xs.length ≤ 140737488351232) :
   Calls Tryz.prog 223 #[v, .int .i64 n, .int .i64 p] w (ChangeP w (snpL xs n p, snpE xs n p)) := by
 by_cases h : whE xs 76 = 0
 · have e : snpE xs n p = if ledE (whB xs 76) = 0 ∧ rightL (ledR (whB xs 76)) n p = true then 0 else 2 := by unfold snpE; rw [if_pos h]
   refine snapParse_is v xs _ n p w hb hB hm h rfl _ rfl _ rfl _ _ (fun hc => ?_) (fun hc => ?_)
   · have e0 : snpE xs n p = 0 := by rw [e, if_pos hc]
     exact ⟨by unfold snpL; rw [if_pos e0], e0⟩
   · have e0 : snpE xs n p = 2 := by rw [e, if_neg hc]
     exact ⟨by unfold snpL; rw [e0]; rfl, e0⟩
 · have e : snpE xs n p = whE xs 76 := by unfold snpE; rw [if_neg h]
   have e2 : snpL xs n p = noLed := by unfold snpL; rw [e, if_neg h]
   rw [e, e2]
   exact snapParse_not v xs n p w hb hB hm h
end Go.Proofs.YtfgifgglcafadaaGreatDoor

namespace Go.Proofs.YtfgifgglcafadaaGreatDoor
set_option linter.unusedVariables false
set_option linter.unusedSimpArgs false
set_option linter.unusedVariables false
set_option linter.unusedSimpArgs false
set_option maxRecDepth 100000
open Go.RowKit
theorem bytes_bts {w : World} {s : ByteArray} (e : TypeId) (fr : Nat × Nat) (cap : Nat) (hc : s.size ≤ cap) : Bts (w.drew.alloc (.cells (bytesRow s cap) e fr)) (.slice (some ⟨w.heap.size, 0, none⟩) s.size cap) (byt s) := by
 refine .inr ⟨w.heap.size, 0, cap, by rw [byt_len], by rw [byt_len]; exact hc, fun i hi => ?_⟩
 rw [byt_len] at hi
 rw [show w.heap.size = w.drew.heap.size from rfl, World.cell?_alloc_mark, Nat.zero_add]
 have hi2 : i < s.data.size := hi
 show (bytesRow s cap)[i]? = _
 unfold bytesRow byt
 rw [Array.getElem?_append_left (by simpa using hi2)]
 simp only [Array.getElem?_map, Array.getElem?_eq_getElem hi2, List.getElem?_map, Array.getElem?_toList, List.getD_eq_getElem?_getD, Option.map_some, Option.getD_some]
theorem byt_byts8 (s : ByteArray) : Byts (byt s) := by
 intro n hn
 simp only [byt, List.mem_map] at hn
 obtain ⟨b, _, rfl⟩ := hn
 have := b.toNat_lt
 omega
theorem conv_str (w : World) (st : ByteArray) : ∃ (w' : World) (cap : Nat), (convert 9 73 (.string st)).run Tryz.prog w = .ok (.slice (some ⟨w.heap.size, 0, none⟩) st.size cap) w' ∧ Bts w' (.slice (some ⟨w.heap.size, 0, none⟩) st.size cap) (byt st) ∧ Ext w w' ∧ st.size ≤ cap := by
 have hcp0 := grownCap_ge w st.size 0 5
 exact ⟨_, _, run_bytes_of_string (P := Tryz.prog) w 9 73 5 st Tryz.underlying9 Tryz.underlying73 Tryz.underlying5, bytes_bts 5 _ _ hcp0, grown_alloc (Ext.drew w) _, hcp0⟩
theorem led_build0V (w : World) : (Instr.build 56 #[]).run Tryz.prog w = .ok (.agg (ledC noLed (fun _ => nilS))) w := by kernel_rfl
theorem led_build0 {ops : Array Oper} {rest : List Oper} {o : Oper} {a : Act} {w : World} {Q : Exit → Act → World → Prop} (hgd : o.guard = none) (ho : o.op = .build 56 #[])
   (h : wpList Tryz.prog ops Q rest (a.put o.dst (.agg (ledC noLed (fun _ => nilS)))) w) : wpList Tryz.prog ops Q (o :: rest) a w := by
 refine wpList_plain hgd fun K hK => ?_
 have hm : ((#[] : Array (Nat × Operand)).map fun (q : Nat × Operand) => (q.1, a.eval q.2)) = #[] := by simp
 unfold Oper.wp execOp
 simp only [ho, hm, Sem.run_bind, led_build0V, Result.andThen_ok, Sem.run_pure]
 exact hK _ _ h
theorem Tryz.sizeGeo : (Tryz.prog.info? 23).map (·.size) = some 4 := by kernel_rfl
theorem geo_load {ops : Array Oper} {rest : List Oper} {o : Oper} {a : Act} {w : World} {Q : Exit → Act → World → Prop} (hgd : o.guard = none) (x : Operand) (ho : o.op = .load 23 x) {g : Nat} (hx : a.eval x = .pointer (some ⟨g, 0, none⟩)) {c d b p : Int}
   (hr : w.rangeAt g 0 [.int .i64 c, .int .i64 d, .int .i64 b, .int .i64 p]) (h : wpList Tryz.prog ops Q rest (a.put o.dst (.agg #[.int .i64 c, .int .i64 d, .int .i64 b, .int .i64 p])) w) : wpList Tryz.prog ops Q (o :: rest) a w := by
 refine wpList_plain hgd fun K hK => wp_load_mid 23 x ho g 0 hx _ _ hr Tryz.underlying23 rfl (by rw [Tryz.sizeGeo]; rfl) (hK _ _ h)
section
variable {w : World} {S : NShape} {V : Nat → Value} {zs : Nat → List Int} {s : NS}
theorem geometry7_is (h : FixAt w S) :
   Calls Tryz.prog 141 #[.pointer (some ⟨S.nb, 0, none⟩)] w fun e w' => e = .returned (.agg #[.int .i64 S.c, .int .i64 S.d, .int .i64 S.b, .int .i64 S.p]) ∧ Ext w w' := by
 have hr : (w.alloc (.cells #[.int .i64 0, .int .i64 0, .int .i64 0, .int .i64 0] 23)).rangeAt S.nb 0 [.int .i64 S.c, .int .i64 S.d, .int .i64 S.b, .int .i64 S.p] := fun j v hj => by
   have hg := World.grownBy_alloc w (.cells #[.int .i64 0, .int .i64 0, .int .i64 0, .int .i64 0] 23) none
   match j, hj with
   | 0, hj => simp at hj; subst hj; exact hg.cell h.g0 (by simp)
   | 1, hj => simp at hj; subst hj; exact hg.cell h.g1 (by simp)
   | 2, hj => simp at hj; subst hj; exact hg.cell h.g2 (by simp)
   | 3, hj => simp at hj; subst hj; exact hg.cell h.g3 (by simp)
   | j + 4, hj => simp at hj
 clear h
 generalize S.c = c at *
 generalize S.d = d at *
 generalize S.b = b at *
 generalize S.p = p at *
 go_enter Tryz.func141, Tryz.ntmps141
 go_wp2_with (refine geo_load rfl _ rfl rfl hr ?_)
 refine bodyPost_ret (v := .agg #[.int .i64 c, .int .i64 d, .int .i64 b, .int .i64 p]) (by simp [results, Tryz.results141, go_sem]) rfl ⟨rfl, ?_⟩
 exact World.grownBy_alloc w _ none
theorem snpE_ne12 {xs : List Int} {n p : Int} : snpE xs n p ≠ 12 := by
 unfold snpE whE opE
 repeat' split
 all_goals omega
theorem snp_gen {xs : List Int} {n p : Int} (hn : -9223372036854775000 ≤ n) (hn1 : n ≤ 9223372036854775807) (h : snpE xs n p = 0) : 0 ≤ (snpL xs n p).gen := by
 have e : snpL xs n p = ledR (whB xs 76) := by unfold snpL; rw [if_pos h]
 rw [e]
 unfold snpE at h
 split at h
 · split at h
   · rename_i hh
     exact ((rightL_iff hn hn1).1 hh.2).gen.1
   · omega
 · rename_i h1; exact absurd h h1
theorem geo_pages (c d b p : Int) (w : World) : (Instr.field 23 (.agg #[.int .i64 c, .int .i64 d, .int .i64 b, .int .i64 p]) 3).run Tryz.prog w = .ok (.int .i64 p) w := by kernel_rfl
theorem adRead_not {i j er : Int} (RD : ∀ wx, Ext w wx → Calls Tryz.prog 203 #[.pointer (some ⟨S.nb, 0, none⟩), .int .i64 i, .int .i64 j] wx (ReadsNot er wx)) (her : er ≠ 0) :
   Calls Tryz.prog 187 #[.pointer (some ⟨S.nb, 0, none⟩), .int .i64 i, .int .i64 j] w (ChangeP w (noLed, er)) := by
 have hres := Blk.new w 56 zeroC
 have ha := World.grownBy_alloc w (.cells zeroC 56) none
 obtain ⟨w1, hw1⟩ : ∃ x, w.alloc (.cells zeroC 56) = x := ⟨_, rfl⟩
 rw [hw1] at hres ha
 have R := RD w1 ha
 have her' : (er != 0) = true := by simpa using her
 have HA := Lib.hid ha
 clear RD her ha
 go_enter Tryz.func187, Tryz.ntmps187
 go_wp2_with (first
   | (go_at_call 203; refine R.mono ?_; rintro e w2 ⟨rfl, hg2⟩; have hr2 := hres.ext hg2; clear R hres)
   | (refine led_build0 rfl rfl ?_)
   | (refine led_store (L := noLed) (V := fun _ => nilS) _ _ rfl rfl rfl hr2 rfl (fun _ _ => ⟨_, _, _, rfl⟩) rfl ?_; intro w3 hb3 hg3 hs3))
 refine bodyPost_ret (v := .tuple #[.agg (ledC noLed fun _ => nilS), .int .i64 er]) (results_cell_row2 (fn := Tryz.f187) rfl rfl rfl hb3 Tryz.underlying56 rfl Tryz.sizeLed) rfl ?_
 exact ⟨_, rfl, noLed_is _, fun j _ q hq => by simp [Value.ownBlock] at hq, grown_trans (ext_trans HA.out hg2) hg3 (fun p hp hlt => by injection hp with hp; omega)⟩
set_option maxHeartbeats 800000 in
theorem adRead_yes {i j : Int} {bs : List Int} {dt : ByteArray} (hF : FixAt w S) (hNB : S.nb < w.heap.size) (hBL : S.bl < w.heap.size) (RD : ∀ wx, Ext w wx → Calls Tryz.prog 203 #[.pointer (some ⟨S.nb, 0, none⟩), .int .i64 i, .int .i64 j] wx (ReadsPg bs dt wx)) (hdt : dt.size ≤ 160) :
   Calls Tryz.prog 187 #[.pointer (some ⟨S.nb, 0, none⟩), .int .i64 i, .int .i64 j] w (ChangeP w (snpL (byt dt) S.all S.p, snpE (byt dt) S.all S.p)) := by
 have hres := Blk.new w 56 zeroC
 have ha := World.grownBy_alloc w (.cells zeroC 56) none
 obtain ⟨w1, hw1⟩ : ∃ x, w.alloc (.cells zeroC 56) = x := ⟨_, rfl⟩
 rw [hw1] at hres ha
 have R := RD w1 ha
 have FX := fun wx (hE : Ext w wx) => (hF.stays (hE.block _ hNB (by simp)) (hE.block _ hBL (by simp)) : FixAt wx S)
 have HFX := Lib.hid FX
 have HA := Lib.hid ha
 have HD := Lib.hid hdt
 have hsz : w.heap.size < w1.heap.size := by rw [← hw1]; simp
 have HSZ := Lib.hid hsz
 have hfld := geo_pages S.c S.d S.b S.p
 clear RD ha hF FX hNB hBL hdt hsz
 go_enter Tryz.func187, Tryz.ntmps187
 go_wp2_with (first
   | (go_at_call 203; refine R.mono ?_; rintro e w2 ⟨ao, cap, rfl, _, hg2, _⟩; obtain ⟨w3, cp, hconv, hb3, hg3, hcp⟩ := conv_str w2 dt; have hr3 := (hres.ext hg2).ext hg3; have HE3 := Lib.hid (ext_trans HA.out (ext_trans hg2 hg3)); have HB3 := Lib.hid hb3; have HZ := Lib.hid (show w.heap.size < w3.heap.size from Nat.lt_of_lt_of_le HSZ.out (Nat.le_trans hg2.size hg3.size)); clear R hres hg2 hg3 hb3)
   | (go_at_call 24; refine (blocks7_is (HFX.out w3 HE3.out)).mono ?_; rintro e w' ⟨rfl, rfl⟩)
   | (go_at_call 141; refine (geometry7_is (HFX.out w3 HE3.out)).mono ?_; rintro e w4 ⟨rfl, hg4⟩; have hr4 := hr3.ext hg4; have HE4 := Lib.hid (ext_trans HE3.out hg4); have HB4 := Lib.hid (HB3.out.kept hg4 (by simp)); have HZ4 := Lib.hid (show w.heap.size < w4.heap.size from Nat.lt_of_lt_of_le HZ.out hg4.size); clear hr3 hg4)
   | (go_at_call 223; refine (snapParse_any _ (byt dt) S.all S.p w4 HB4.out (byt_byts8 dt) (by rw [byt_len]; have := HD.out; omega)).mono ?_; rintro e w5 ⟨V5, rfl, hI5, hl5, hg5⟩; have hr5 := hr4.ext hg5; have hsl := hI5.slices; have HI5 := Lib.hid (And.intro hI5 hl5); have HE5 := Lib.hid (ext_trans HE4.out hg5); clear hr4 hg5 hI5 hl5)
   | (refine led_store (L := snpL (byt dt) S.all S.p) (V := V5) _ _ rfl rfl rfl hr5 rfl hsl rfl ?_; intro w6 hb6 hg6 hs6))
 refine bodyPost_ret (v := .tuple #[.agg (ledC (snpL (byt dt) S.all S.p) V5), .int .i64 (snpE (byt dt) S.all S.p)]) (results_cell_row2 (fn := Tryz.f187) rfl rfl rfl hb6 Tryz.underlying56 rfl Tryz.sizeLed) rfl ?_
 have h4 := HE4.out.size
 exact ⟨_, rfl, HI5.out.1.kept hg6 (fun j hj p hp e => by injection e with e; have := HI5.out.2 j hj p hp; have := HZ4.out; omega), fun j hj p hp => by have := HI5.out.2 j hj p hp; omega, grown_trans HE5.out hg6 (fun p hp hlt => by injection hp with hp; omega)⟩
theorem adRead_any (h : NandAt w S V zs s) (hR : Roles S) (hs : Small s) {i j : Nat} (hi : i < S.all) (hj : j < S.pg) :
   ∃ (L : Led) (er : Int), Calls Tryz.prog 187 #[.pointer (some ⟨S.nb, 0, none⟩), .int .i64 (i : Int), .int .i64 (j : Int)] w (ChangeP w (L, er)) ∧
     ((s.off = true ∧ er = 12) ∨ (s.off = false ∧ er = 0 ∧ pgLed S.all S.p (s.L i j) = some L ∧ 0 ≤ L.gen) ∨ (s.off = false ∧ er ≠ 0 ∧ er ≠ 12 ∧ pgLed S.all S.p (s.L i j) = none)) := by
 have hbd := hR.bds
 have hlk : lackE S i j = 0 := lackE_at hi hj
 have hsm := hs i j
 have RD := fun wx (hE : Ext w wx) => read7_any (h.ext hE hR) hR i j (fun a b => by have := (hs a b).1; omega)
 have hRE : readE S s i j = if s.off then 12 else if (s.L i j).st = 0 then 6 else if (s.L i j).st = 2 then 11 else 0 := by unfold readE; rw [if_pos hlk]; rfl
 by_cases h0 : readE S s i j = 0
 · have RD2 : ∀ wx, Ext w wx → Calls Tryz.prog 203 #[.pointer (some ⟨S.nb, 0, none⟩), .int .i64 i, .int .i64 j] wx (ReadsPg (s.L i j).bs (s.L i j).dt wx) := fun wx hE => (RD wx hE).mono fun e w' hh => by
     rcases hh with ⟨h1, _⟩ | ⟨_, h2⟩
     · exact absurd h0 h1
     · exact h2
   refine ⟨_, _, adRead_yes h.fix (h.hi _ (by rw [hR.tn]; decide)) (h.hi _ (by rw [hR.tl]; decide)) RD2 hsm.2.1, .inr ?_⟩
   rw [h0] at hRE
   have hoff : s.off = false := by cases ho : s.off; rfl; rw [ho] at hRE; simp at hRE
   have hst : (s.L i j).st = 1 := by
     rw [hoff] at hRE
     rcases hsm.2.2 with h | h | h
     · rw [h] at hRE; simp at hRE
     · exact h
     · rw [h] at hRE; simp at hRE
   by_cases hp : snpE (byt (s.L i j).dt) S.all S.p = 0
   · refine .inl ⟨hoff, hp, by unfold pgLed; rw [if_pos ⟨hst, hp⟩], snp_gen (by omega) (by omega) hp⟩
   · refine .inr ⟨hoff, hp, snpE_ne12, by unfold pgLed; rw [if_neg (fun hh => hp hh.2)]⟩
 · have RD2 : ∀ wx, Ext w wx → Calls Tryz.prog 203 #[.pointer (some ⟨S.nb, 0, none⟩), .int .i64 i, .int .i64 j] wx (ReadsNot (readE S s i j) wx) := fun wx hE => (RD wx hE).mono fun e w' hh => by
     rcases hh with ⟨_, h1⟩ | ⟨h1, _⟩
     · exact h1
     · exact absurd h1 h0
   refine ⟨_, _, adRead_not RD2 h0, ?_⟩
   cases ho : s.off
   · rw [ho] at hRE
     refine .inr (.inr ⟨rfl, h0, ?_, ?_⟩)
     · rw [hRE]; simp only [Bool.false_eq_true, if_false]; split <;> (try split) <;> omega
     · unfold pgLed
       refine if_neg (fun hh => h0 ?_)
       rw [hRE, hh.1]; simp
   · rw [ho] at hRE
     exact .inl ⟨rfl, by rw [hRE]; simp⟩
end
end Go.Proofs.YtfgifgglcafadaaGreatDoor

namespace Go.Proofs.YtfgifgglcafadaaGreatDoor
set_option linter.unusedVariables false
set_option linter.unusedSimpArgs false
set_option linter.unusedVariables false
set_option linter.unusedSimpArgs false
set_option maxRecDepth 100000
open Go.RowKit
def roomN (S : NShape) (zs : Nat → List Int) (b : Nat) (s : NS) : NS × Nat × Int :=
 if nextN (s.L b) S.pg < S.pg then (s, b, 0)
 else if nextN (s.L (1 - b)) S.pg = 0 then (s, 1 - b, 0)
 else (ersS S zs s 4 (1 - b : Nat), 1 - b, ersE S zs s 4 (1 - b : Nat))
section
variable {w : World} {S : NShape} {V : Nat → Value} {zs : Nat → List Int} {s : NS}
set_option maxHeartbeats 800000 in
theorem adRoom_any (h : NandAt w S V zs s) (hR : Roles S) {c : Int} (hc : Cnt s c) (hcn : c < 80000) (hz : ∀ j, j < 4 → (zs j).length ≤ 64) {b : Nat} (hb : b < 2) :
   Calls Tryz.prog 178 #[.pointer (some ⟨S.nb, 0, none⟩), .int .i64 (b : Int)] w (Goes S V zs (.tuple #[.int .i64 ((roomN S zs b s).2.1 : Nat), .int .i64 (roomN S zs b s).2.2]) (roomN S zs b s).1 w) := by
 have hbd := hR.bds
 have hpg := hR.pgs
 have NX := next7_is h.fix (i := b) (by omega) (h.row b (by omega)) hR
 have GE := geometry7_is h.fix
 have hfld := geo_pages S.c S.d S.b S.p
 have hsub : (1 : Int) - (b : Int) = ((1 - b : Nat) : Int) := by omega
 have BL := fun wx (hE : Ext w wx) => blank7_is (h.ext hE hR) hR (i := 1 - b) (by omega)
 have ER := fun wx (hE : Ext w wx) => erase_any (h.ext hE hR) hR hc (by omega) hz 4 ((1 - b : Nat) : Int)
 have HN := Lib.hid (And.intro h hR)
 unfold roomN
 by_cases h1 : nextN (s.L b) S.pg < S.pg
 · rw [if_pos h1]
   have h1' : ((nextN (s.L b) S.pg : Nat) : Int) < S.p := by omega
   generalize nextN (s.L b) S.pg = n at *
   clear BL ER h hR hc hz hbd hpg h1
   go_enter Tryz.func178, Tryz.ntmps178
   go_wp2_with (first
     | (go_at_call 81; refine NX.mono ?_; rintro e w' ⟨rfl, rfl⟩)
     | (go_at_call 141; refine GE.mono ?_; rintro e w2 ⟨rfl, hg2⟩))
   refine bodyPost_ret (v := .tuple #[.int .i64 (b : Int), .int .i64 0]) (by simp [results, Tryz.results178, go_sem]) rfl ⟨rfl, HN.out.1.ext hg2 HN.out.2, .ext hg2⟩
 · rw [if_neg h1]
   have h1' : ¬ ((nextN (s.L b) S.pg : Nat) : Int) < S.p := by omega
   generalize nextN (s.L b) S.pg = n at *
   by_cases h2 : nextN (s.L (1 - b)) S.pg = 0
   · rw [if_pos h2]
     rw [decide_eq_true h2] at BL
     clear ER h hR hc hz hbd hpg h1 h2
     go_enter Tryz.func178, Tryz.ntmps178
     go_wp2_with (first
       | (go_at_call 81; refine NX.mono ?_; rintro e w' ⟨rfl, rfl⟩)
       | (go_at_call 141; refine GE.mono ?_; rintro e w2 ⟨rfl, hg2⟩)
       | (go_at_call 35; refine (BL w2 hg2).mono ?_; rintro e w' ⟨rfl, rfl⟩))
     refine bodyPost_ret (v := .tuple #[.int .i64 ((1 - b : Nat) : Int), .int .i64 0]) (by simp [results, Tryz.results178, go_sem]) rfl ⟨rfl, HN.out.1.ext hg2 HN.out.2, .ext hg2⟩
   · rw [if_neg h2]
     rw [decide_eq_false h2] at BL
     clear h hR hc hz hbd hpg h1 h2
     go_enter Tryz.func178, Tryz.ntmps178
     go_wp2_with (first
       | (go_at_call 81; refine NX.mono ?_; rintro e w' ⟨rfl, rfl⟩)
       | (go_at_call 141; refine GE.mono ?_; rintro e w2 ⟨rfl, hg2⟩)
       | (go_at_call 35; refine (BL w2 hg2).mono ?_; rintro e w' ⟨rfl, rfl⟩)
       | (go_at_call 144; refine (ER w2 hg2).mono ?_; rintro e w3 ⟨rfl, hN3, hk3⟩))
     refine bodyPost_ret (v := .tuple #[.int .i64 ((1 - b : Nat) : Int), .int .i64 (ersE S zs s 4 ((1 - b : Nat) : Int))]) (by simp [results, Tryz.results178, go_sem]) rfl ⟨rfl, hN3, (Keeps.ext hg2).trans hk3⟩
end
def accN (n p : Int) (pg : Nat) (L : Nat → Nat → Pg) : Nat → Option (Led × Nat)
 | 0 => none
 | i + 1 => scanN n p i (L i) (accN n p pg L i) pg
def genOf (r : Option (Led × Nat)) : Int := match r with | none => -1 | some (l, _) => l.gen
theorem stepN_gt {n p : Int} {b : Nat} {acc : Option (Led × Nat)} {x : Pg} {m : Led} (h : pgLed n p x = some m) (hg : genOf acc < m.gen) : stepN n p b acc x = some (m, b) := by
 unfold stepN
 rw [h]
 cases acc with
 | none => rfl
 | some q => exact if_pos hg
theorem stepN_le {n p : Int} {b : Nat} {acc : Option (Led × Nat)} {x : Pg} {m : Led} (h : pgLed n p x = some m) (h0 : 0 ≤ m.gen) (hg : ¬ genOf acc < m.gen) : stepN n p b acc x = acc := by
 unfold stepN
 rw [h]
 cases acc with
 | none => exact absurd (show (-1 : Int) < m.gen by omega) hg
 | some q => exact if_neg hg
theorem results_cell_row3 {P : Program} {fn : Func} {p t u : Tmp} {ty : TypeId} {tmps : Array Value} {w : World} {g : Nat} {bt : TypeId} {cs : Array Value} {v z : Value} {d : TypeDesc} (h : fn.results = #[.cell p ty, .tmp t, .tmp u])
   (hp : tmps.getD p undef = .pointer (some ⟨g, 0, none⟩)) (hv : tmps.getD t undef = v) (hz : tmps.getD u undef = z) (hg : w.heap[g]? = some (.cells cs bt (0, 0)))
   (hu : P.underlying ty = some d) (hd : (match d with | .struct _ | .array _ _ => true | _ => false) = true) (hi : (P.info? ty).map (·.size) = some cs.size) :
   (results fn tmps).run P w = .ok (.tuple #[.agg cs, v, z]) w := by
 have hp' : tmps[p]?.getD undef = .pointer (some ⟨g, 0, none⟩) := by simpa using hp
 have hv' : tmps[t]?.getD undef = v := by simpa using hv
 have hz' : tmps[u]?.getD undef = z := by simpa using hz
 simp [results, h, hp', hv', hz', asAddr, run_loadVar_row w g bt ty cs (0, 0) d hg hu hd hi]
structure Newest (w0 wr : World) (F : Nat) (acc : Option (Led × Nat)) (VF : Nat → Value) : Prop where
 res : Blk wr w0.heap.size 56 zeroC
 blk : Blk wr F 56 (ledC (ledOf acc) VF)
 is : LedIs wr (ledOf acc) VF
 low : ∀ j, j < 4 → ∀ q, (VF j).ownBlock = some q → F < q ∧ q < wr.heap.size
 ext : Ext w0 wr
 oF : F = w0.heap.size + 1
theorem Newest.next {w0 w w' : World} {F : Nat} {acc : Option (Led × Nat)} {VF : Nat → Value} (h : Newest w0 w F acc VF) (hE : Ext w w') : Newest w0 w' F acc VF :=
 ⟨h.res.ext hE, h.blk.ext hE, h.is.ext hE, fun j hj q hq => by have := h.low j hj q hq; have := hE.size; omega, ext_trans h.ext hE, h.oF⟩
theorem Newest.put {w0 w w' : World} {F : Nat} {acc acc' : Option (Led × Nat)} {VF VX : Nat → Value} {x : Led} (h : Newest w0 w F acc VF) (ha : ledOf acc' = x) (hb : Blk w' F 56 (ledC x VX)) (hg : w.grownBy w' (some F))
   (hi : LedIs w x VX) (hl : ∀ j, j < 4 → ∀ q, (VX j).ownBlock = some q → F < q ∧ q < w.heap.size) : Newest w0 w' F acc' VX := by
 subst ha
 have := h.oF
 refine ⟨h.res.kept hg (by simp; omega), hb, hi.kept hg (fun j hj q hq e => by injection e with e; have := hl j hj q hq; omega), fun j hj q hq => by have := hl j hj q hq; have := hg.size; omega, grown_trans h.ext hg (fun p hp hlt => by injection hp with hp; omega), h.oF⟩
def NewestP (w : World) (L : Led) (b : Nat) (er : Int) (e : Ending) (w' : World) : Prop :=
 ∃ V', e = .returned (.tuple #[.agg (ledC L V'), .int .i64 (b : Int), .int .i64 er]) ∧ LedIs w' L V' ∧ (∀ j, j < 4 → ∀ p, (V' j).ownBlock = some p → w.heap.size ≤ p ∧ p < w'.heap.size) ∧ Ext w w'
set_option maxHeartbeats 3200000 in
theorem adNewest_any {w : World} {S : NShape} {V : Nat → Value} {zs : Nat → List Int} {s : NS} (h : NandAt w S V zs s) (hR : Roles S) (hs : Small s) :
   Calls Tryz.prog 160 #[.pointer (some ⟨S.nb, 0, none⟩)] w (NewestP w (if s.off then noLed else ledOf (newestN S.all S.p S.pg s.L)) (if s.off then 0 else blkOf (newestN S.all S.p S.pg s.L)) (if s.off then 12 else 0)) := by
 obtain ⟨fL, hfL⟩ : ∃ z, (if s.off then noLed else ledOf (newestN S.all S.p S.pg s.L)) = z := ⟨_, rfl⟩
 obtain ⟨fb, hfb⟩ : ∃ z, (if s.off then 0 else blkOf (newestN S.all S.p S.pg s.L)) = z := ⟨_, rfl⟩
 obtain ⟨fe, hfe⟩ : ∃ z, (if s.off then (12 : Int) else 0) = z := ⟨_, rfl⟩
 rw [hfL, hfb, hfe]
 have HF := Lib.hid (And.intro hfL (And.intro hfb hfe))
 clear hfL hfb hfe
 have hbd := hR.bds
 have hpg := hR.pgs
 have hfld := geo_pages S.c S.d S.b S.p
 have HN := Lib.hid (And.intro h (And.intro hR hs))
 have hres := Blk.new w 56 zeroC
 have ha := World.grownBy_alloc w (.cells zeroC 56) none
 obtain ⟨w1, hw1⟩ : ∃ x, w.alloc (.cells zeroC 56) = x := ⟨_, rfl⟩
 have hsz : w1.heap.size = w.heap.size + 1 := by rw [← hw1]; simp
 rw [hw1] at hres ha
 have hg2 := World.grownBy_alloc w1 (.cells zeroC 56) none
 have hb2 := Blk.new w1 56 zeroC
 obtain ⟨w2, hw2⟩ : ∃ x, w1.alloc (.cells zeroC 56) = x := ⟨_, rfl⟩
 rw [hw2] at hg2 hb2
 have S2 : Newest w w2 w1.heap.size none (fun _ => nilS) := ⟨hres.ext hg2, hb2, noLed_is _, fun j _ q hq => by simp [Value.ownBlock] at hq, ext_trans ha hg2, hsz⟩
 obtain ⟨F, hF⟩ : ∃ F, w1.heap.size = F := ⟨_, rfl⟩
 rw [hF] at S2
 have HS2 := Lib.hid S2
 have hwF : F ≠ w.heap.size := by omega
 clear hres ha hg2 hb2 S2 h hR hs hsz
 go_enter Tryz.func160, Tryz.ntmps160
 go_wp2
 go_loopw [6, 7, 15] (fun a g i wr => ∃ (k : Nat) (VF : Nat → Value), k ≤ 2 ∧ i = .int .i64 k ∧ a = .int .i64 (blkOf (accN S.all S.p S.pg s.L k) : Nat) ∧ g = .int .i64 (genOf (accN S.all S.p S.pg s.L k)) ∧ (s.off = true → k = 0) ∧ Newest w wr F (accN S.all S.p S.pg s.L k) VF) (fun _ _ i _ => 2 - (intOf i).toNat)
 case atStart => exact ⟨0, _, by omega, rfl, rfl, rfl, fun _ => rfl, HS2.out⟩
 case round =>
   obtain ⟨k, VF, hk, rfl, rfl, rfl, hoff, hL⟩ := hrel
   obtain ⟨wo, rfl⟩ : ∃ wo : World, wo = wr := ⟨_, rfl⟩
   have HL := Lib.hid hL
   have HO := Lib.hid hoff
   obtain ⟨acc, hacc⟩ : ∃ z, accN S.all S.p S.pg s.L k = z := ⟨_, rfl⟩
   rw [hacc] at HL ⊢
   have HACC := Lib.hid hacc
   clear hL hoff hacc
   by_cases hlt : k < 2
   · have GE := geometry7_is (HN.out.1.ext HL.out.ext HN.out.2.1).fix
     go_wp2_with (go_at_call 141; refine GE.mono ?_; rintro e w3 ⟨rfl, hg3⟩; have HL3 := Lib.hid (HL.out.next hg3); clear hg3 GE)
     go_loopw [6, 7, 21] (fun a g i wr => ∃ (j : Nat) (VF : Nat → Value), j ≤ S.pg ∧ i = .int .i64 j ∧ a = .int .i64 (blkOf (scanN S.all S.p k (s.L k) acc j) : Nat) ∧ g = .int .i64 (genOf (scanN S.all S.p k (s.L k) acc j)) ∧ (s.off = true → k = 0 ∧ j = 0) ∧ Newest w wr F (scanN S.all S.p k (s.L k) acc j) VF) (fun _ _ i _ => S.pg - (intOf i).toNat)
     case atStart => exact ⟨0, _, by omega, rfl, rfl, rfl, fun ho => ⟨HO.out ho, rfl⟩, HL3.out⟩
     case round =>
       obtain ⟨j, VF, hj, rfl, rfl, rfl, hoff, hL⟩ := hrel
       obtain ⟨wi, rfl⟩ : ∃ wi : World, wi = wr := ⟨_, rfl⟩
       have HL := Lib.hid hL
       have HO2 := Lib.hid hoff
       obtain ⟨r, hr⟩ : ∃ z, scanN S.all S.p k (s.L k) acc j = z := ⟨_, rfl⟩
       rw [hr] at HL ⊢
       have HR := Lib.hid hr
       clear hL hoff hr
       by_cases hlt2 : j < S.pg
       · have hlt2' : (j : Int) < S.p := by omega
         obtain ⟨L, er, RD, hcase⟩ := adRead_any (HN.out.1.ext HL.out.ext HN.out.2.1) HN.out.2.1 HN.out.2.2 (i := k) (j := j) (by omega) hlt2
         have HC := Lib.hid hcase
         have hwl : F < wi.heap.size := HL.out.blk.lt
         have HWL := Lib.hid hwl
         clear hcase hwl
         go_upto_if 32 with (first
           | (go_at_call 187; refine RD.mono ?_; rintro e w4 ⟨V4, rfl, hI4, hl4, hg4⟩; have HL4 := Lib.hid (HL.out.next hg4); have hB4 := Blk.new w4 56 zeroC; have hsl := hI4.slices; have HI4 := Lib.hid (And.intro hI4 hl4); have HZ4 := Lib.hid hg4.size; clear hg4 hI4 hl4 RD)
           | (refine led_store (L := L) (V := V4) _ _ rfl rfl rfl hB4 rfl hsl rfl ?_; intro w5 hb5 hg5 hs5; have hE5 := grown_trans (World.grownBy_alloc w4 (.cells zeroC 56) none) hg5 (fun p hp hlt => by injection hp with hp; omega); have HL5 := Lib.hid (HL4.out.next hE5); have HI5 := Lib.hid (HI4.out.1.ext hE5); have HZ5 := Lib.hid hE5.size; have hz5 : w4.heap.size < w5.heap.size := hb5.lt; clear hB4 hg5 hs5 hE5))
         rcases HC.out with ⟨ho, rfl⟩ | ⟨ho, he, hpl, hpos⟩ | ⟨ho, he0, he12, hpl⟩
         · have hr5 := HL5.out.res
           obtain ⟨f1, f2, f3⟩ := HF.out
           rw [if_pos ho] at f1 f2 f3
           subst f1 f2 f3
           clear hb5 hsl
           go_wp2_with (first
             | (refine led_build0 rfl rfl ?_)
             | (refine led_store (L := noLed) (V := fun _ => nilS) _ _ rfl rfl rfl hr5 rfl (fun _ _ => ⟨_, _, _, rfl⟩) rfl ?_; intro w6 hb6 hg6 hs6))
           refine bodyPost_ret (v := .tuple #[.agg (ledC noLed fun _ => nilS), .int .i64 0, .int .i64 12]) (results_cell_row3 (fn := Tryz.f160) rfl rfl rfl rfl hb6 Tryz.underlying56 rfl Tryz.sizeLed) rfl ?_
           exact ⟨_, rfl, noLed_is _, fun j _ q hq => by simp [Value.ownBlock] at hq, grown_trans HL5.out.ext hg6 (fun p hp hlt => by injection hp with hp; omega)⟩
         · have c0 := (hb5.cell 0).trans (led_gen _ _)
           obtain ⟨gx, hgx⟩ : ∃ z, L.gen = z := ⟨_, rfl⟩
           obtain ⟨gr, hgr⟩ : ∃ z, genOf r = z := ⟨_, rfl⟩
           rw [hgx] at c0
           have HG := Lib.hid (And.intro hgx hgr)
           have HP := Lib.hid (And.intro hpl hpos)
           have HOF := Lib.hid ho
           clear hgx hpl hpos ho
           rw [hgr]
           have hb0 : (er == 0) = true := by simp [he]
           have hb12 : (er == 12) = false := by simp [he]
           clear hgr he
           by_cases hgt : gr < gx
           · have hgtb : decide (gr < gx) = true := by simpa using hgt
             go_upto_region 15 with fail
             have HLd := Lib.hid (HL5.out.next (Ext.drew w5))
             have hbF := HLd.out.blk
             have hbd : Blk w5.drew w4.heap.size 56 (ledC L V4) := hb5
             refine region_line [(0, true), (1, true), (2, true), (3, true), (4, false), (5, true), (6, true)] (fun x => Blk x w4.heap.size 56 (ledC L V4) ∧ x.cell? ⟨w4.heap.size, 0, none⟩ = some (.int .i64 gx)) (by kernel_rfl) (by kernel_rfl) (fun _ _ _ d _ h => by cases d <;> exact h) ⟨hbd, c0⟩ ?_
             repeat (refine line_read (a' := ?_) rfl (by kernel_rfl) (by kernel_rfl) ⟨hbd, c0⟩ (fun x hx K hK => ?_) ?_; rotate_left; · obtain ⟨hx1, hx2⟩ := hx; go_wp2_with (refine led_load _ rfl rfl hx1 rfl ?_); exact hK)
             refine line_act (by rfl) (fun K hK => ?_)
             go_wp2_with (refine led_store (L := L) (V := V4) _ _ rfl rfl rfl hbF (ledC_size _ _) hsl rfl ?_; intro w6 hb6 hg6 hs6)
             have hLF : w4.heap.size ≠ F := by have := HLd.out.oF; have := HWL.out; have := HZ4.out; omega
             have hb6' : Blk w6 w4.heap.size 56 (ledC L V4) := hbd.kept hg6 (by simp; exact hLF)
             have c6 := (hb6'.cell 0).trans (led_gen _ _)
             rw [HG.out.1] at c6
             refine hK _ _ _ ⟨hb6', c6⟩ (fun x hx => hx) ?_
             clear hK K
             repeat (refine line_read (a' := ?_) rfl (by kernel_rfl) (by kernel_rfl) ⟨hb6', c6⟩ (fun x hx K hK => ?_) ?_; rotate_left; · obtain ⟨hx1, hx2⟩ := hx; go_wp2_with (refine led_load _ rfl rfl hx1 rfl ?_); exact hK)
             refine line_end ?_
             have hst := stepN_gt (b := k) (acc := r) HP.out.1 (by rw [HG.out.1, HG.out.2]; exact hgt)
             have HS6 := Lib.hid (HLd.out.put (acc' := some (L, k)) rfl hb6 hg6 (HI5.out.ext (Ext.drew w5)) (fun jj hjj q hq => by have := HI4.out.2 jj hjj q hq; have h5 : w5.drew.heap.size = w5.heap.size := rfl; have := HZ5.out; have := HWL.out; omega))
             have HST := Lib.hid hst
             clear hst hb6 hg6 hs6 hb6' c6 hbd hbF c0 hb5
             go_wp2
             go_roundw
             case rel => exact ⟨j + 1, V4, by omega, by go_num, by rw [scanN, HR.out, HST.out]; rfl, by rw [scanN, HR.out, HST.out]; exact congrArg _ HG.out.1.symm, fun h2 => absurd (HOF.out.symm.trans h2) (by decide), by rw [scanN, HR.out, HST.out]; exact HS6.out⟩
             case measure => simp [intOf]; omega
           · have hgtb : decide (gr < gx) = false := by simpa using hgt
             have HST := Lib.hid (stepN_le (b := k) (acc := r) HP.out.1 HP.out.2 (by rw [HG.out.1, HG.out.2]; exact hgt))
             go_wp2
             go_roundw
             case rel => exact ⟨j + 1, VF, by omega, by go_num, by rw [scanN, HR.out, HST.out], by rw [scanN, HR.out, HST.out, HG.out.2], fun h2 => absurd (HOF.out.symm.trans h2) (by decide), by rw [scanN, HR.out, HST.out]; exact HL5.out⟩
             case measure => simp [intOf]; omega
         · have hb0 : (er == 0) = false := by simpa using he0
           have hb12 : (er == 12) = false := by simpa using he12
           have HST := Lib.hid (stepN_none (b := k) (acc := r) hpl)
           have HOF := Lib.hid ho
           clear he0 he12 hpl ho hb5 hsl
           go_wp2
           go_roundw
           case rel => exact ⟨j + 1, VF, by omega, by go_num, by rw [scanN, HR.out, HST.out], by rw [scanN, HR.out, HST.out], fun h2 => absurd (HOF.out.symm.trans h2) (by decide), by rw [scanN, HR.out, HST.out]; exact HL5.out⟩
           case measure => simp [intOf]; omega
       · obtain rfl : j = S.pg := by omega
         have hlt2' : ¬ ((S.pg : Nat) : Int) < S.p := by omega
         have hnx : accN S.all S.p S.pg s.L (k + 1) = r := by rw [accN, HACC.out]; exact HR.out
         have HNX := Lib.hid hnx
         clear hnx
         go_wp2
         go_roundw
         case rel => exact ⟨k + 1, VF, by omega, by go_num, by rw [HNX.out], by rw [HNX.out], fun h2 => absurd (HO2.out h2).2 (by omega), by rw [HNX.out]; exact HL.out⟩
         case measure => simp [intOf]; omega
   · obtain rfl : k = 2 := by omega
     have hof : s.off = false := by
       cases ho : s.off
       · rfl
       · exact absurd (HO.out ho) (by decide)
     obtain ⟨f1, f2, f3⟩ := HF.out
     rw [hof] at f1 f2 f3
     simp only [Bool.false_eq_true, if_false] at f1 f2 f3
     have hac : newestN S.all S.p S.pg s.L = acc := HACC.out
     rw [hac] at f1 f2
     subst f1 f2 f3
     have hbF := HL.out.blk
     have hr := HL.out.res
     have hsl := HL.out.is.slices
     clear hof hac
     go_wp2_with (first
       | (refine led_load _ rfl rfl hbF rfl ?_)
       | (refine led_store (L := ledOf acc) (V := VF) _ _ rfl rfl rfl hr rfl hsl rfl ?_; intro w6 hb6 hg6 hs6))
     refine bodyPost_ret (v := .tuple #[.agg (ledC (ledOf acc) VF), .int .i64 (blkOf acc : Nat), .int .i64 0]) (results_cell_row3 (fn := Tryz.f160) rfl rfl rfl rfl hb6 Tryz.underlying56 rfl Tryz.sizeLed) rfl ?_
     have hoF := HL.out.oF
     exact ⟨_, rfl, HL.out.is.kept hg6 (fun j hj q hq e => by injection e with e; have := HL.out.low j hj q hq; omega), fun j hj q hq => by have := HL.out.low j hj q hq; omega, grown_trans HL.out.ext hg6 (fun p hp hlt => by injection hp with hp; omega)⟩
end Go.Proofs.YtfgifgglcafadaaGreatDoor

namespace Go.Proofs.YtfgifgglcafadaaGreatDoor
set_option linter.unusedVariables false
set_option linter.unusedSimpArgs false
set_option linter.unusedVariables false
set_option linter.unusedSimpArgs false
set_option maxRecDepth 100000
open Go.RowKit Go.ChangeShapes Go.WideShapes
section
variable {H : Type} {enc : TypeId × Value → H} {w : World} {base b0 : Nat} {held : Bool}
end
end Go.Proofs.YtfgifgglcafadaaGreatDoor

namespace Go.Proofs.YtfgifgglcafadaaGreatDoor
set_option linter.unusedVariables false
set_option linter.unusedSimpArgs false
set_option linter.unusedVariables false
set_option linter.unusedSimpArgs false
set_option maxRecDepth 100000
open Go.RowKit Go.ChangeShapes Go.WideShapes Go.Deep
theorem add_zero (a : Addr) : a.add 0 = a := by unfold Addr.add; simp
section
variable {H : Type} {enc : TypeId × Value → H} {w : World} {base : Nat} {held : Bool}
end
end Go.Proofs.YtfgifgglcafadaaGreatDoor

namespace Go.Proofs.YtfgifgglcafadaaGreatDoor
set_option linter.unusedVariables false
set_option linter.unusedSimpArgs false
set_option linter.unusedVariables false
set_option linter.unusedSimpArgs false
set_option maxRecDepth 100000
open Go.RowKit
end Go.Proofs.YtfgifgglcafadaaGreatDoor
