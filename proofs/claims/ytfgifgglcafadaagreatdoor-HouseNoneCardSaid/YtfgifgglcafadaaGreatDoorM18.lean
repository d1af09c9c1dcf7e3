/-
  Texts put together: AK AL DD AM AN AO AP.
-/
import Derived.Test.YtfgifgglcafadaaGreatDoorM17
import Derived.Test.YtfgifgglcafadaaGreatDoorM02
import Derived.Test.YtfgifgglcafadaaGreatDoorM05
namespace Go.Proofs.YtfgifgglcafadaaGreatDoor
set_option linter.unusedVariables false
set_option linter.unusedSimpArgs false
set_option linter.unusedVariables false
set_option linter.unusedSimpArgs false
set_option maxRecDepth 100000
open Go.RowKit
def NoPan (Q : Exit → Act → World → Prop) : Exit → Act → World → Prop := fun e a w => (∀ c, e ≠ .panic c) ∧ Q e a w
theorem wp_nopan {P : Program} {c : Code} {Q : Exit → Act → World → Prop} {a : Act} {w : World} (h : c.wp P (NoPan Q) a w) : c.wp P Q a w := Code.wp_mono (fun _ _ _ h => h.2) h
section
variable {w w' : World} {H : HC} {ρ : Nat → Nat} {x : HX}
theorem HAt.count (h : HAt w H ρ x) (hR : Roles H.S) (k : Int) : HAt (w.setCell ⟨H.hb, 33, none⟩ (.int .i64 k)) H ρ { x with sl := k } :=
 h.own hR k (by rw [← hsC_setSl]; exact h.bk.set 33 _) (gb_set (gb_refl w (some H.hb)) 33 _) (h.nandOwn hR (gb_set (gb_refl w (some H.hb)) 33 _))
set_option maxHeartbeats 1600000 in
theorem slot_none21 (h : HAt w H ρ x) (hR : Roles H.S) (ho : x.n.off = false) (t : Nat) (ht : t < 4) (hsl : 0 ≤ x.sl ∧ x.sl ≤ 1000000) (hm : x.sl.tmod 4 = (t : Int)) (hw : x.ws t = []) :
   Calls Tryz.prog 21 #[.pointer (some ⟨H.hb, 0, none⟩)] w fun e w' => e = .returned (.bool false) ∧ HAt w' H ρ { x with sl := x.sl + 1 } ∧ Fr w.heap.size ρ ρ w w' := by
 have U := up21 h
 rw [ho] at U
 have HC1 := Lib.hid (show ∀ v, Fr w.heap.size ρ ρ w (w.setCell ⟨H.hb, 33, none⟩ v) from fun v => ⟨KpF.of_grown (gb_set (gb_refl w (some H.hb)) 33 v) (fun k e => by injection e with e; rw [← e, h.rh]; omega), fun k e => .inl e⟩)
 have h1 := h.count hR (x.sl + 1)
 have cN := h.cN
 have fN := h.bk.free 33
 have q1 := h1.qs t ht
 rw [show ({ x with sl := x.sl + 1 } : HX).ws t = [] from hw] at q1
 have cQ := h1.cQ ht
 have hR1 := Lib.hid (And.intro h1 (And.intro hR ho))
 obtain ⟨sl, hsle⟩ : ∃ z, x.sl = z := ⟨_, rfl⟩
 rw [hsle] at cN hsl hm q1 cQ hR1 ⊢
 have NX := next20_none q1
 have ht4 : (t : Int) < 4 := by omega
 obtain ⟨w1, hw1⟩ : ∃ z, w.setCell ⟨H.hb, 33, none⟩ (.int .i64 (sl + 1)) = z := ⟨_, rfl⟩
 rw [hw1] at NX cQ hR1
 have HF1 := Lib.hid (hw1 ▸ HC1.out (.int .i64 (sl + 1)))
 have hd : Blk.new w1 30 (chgC noChg) = Blk.new w1 30 (chgC noChg) := rfl
 clear h ho h1 q1 hsle hR hd hw
 go_enter_defers Tryz.func21, Tryz.ntmps21
 go_upto_region 7 with (go_at_call 13; refine U.mono ?_; rintro e w2 ⟨rfl, rfl⟩)
 clear hw1 cN fN U hsl hm
 rw [chgV_is] at NX
 go_wp2_with (first
   | (go_at_call 68; refine NX.mono ?_; rintro e w2 ⟨rfl, hg2⟩; have hBn := Blk.new w2 30 (chgC noChg))
   | (refine cmd_store (c := noChg) _ _ rfl rfl rfl hBn rfl rfl ?_; intro w3 hb3 hg3 hs3; have HE := Lib.hid (g17_new (ext_trans hg2 (World.grownBy_alloc w2 _ none)) hg3 hg2.size); clear hg3 hs3 hBn hb3))
 have h3 := hR1.out.1.ext hR1.out.2.1 HE.out
 refine leaves_cons (f := 67) (args := #[.pointer (some ⟨H.hb, 0, none⟩)]) (by simp) (by simp [go_sem]) ?_
 refine (drop21 h3 hR1.out.2.2 .returning).mono ?_
 rintro e u' w'' ⟨rfl, rfl, rfl⟩
 exact ⟨_, results_tmp rfl _ _ _, rfl, h3, HF1.out.trans (Fr.ext HE.out) (Nat.le_refl _) (Nat.le_refl _)⟩
def wroteX (x : HX) (t : Nat) (p : SP) (c : SC) (m : SM) (r : List Chg) (pl : Int) (dt : ByteArray) (v vd : Value) : HX :=
 { x with sl := x.sl + 1, st := updH x.st t (some (p, c, { m with n := x.n, q := putR m.q ⟨pl, 1, dt⟩ })), vw := updH x.vw t v, vd := updH x.vd t vd, ws := updH x.ws t r, ds := updH x.ds t (x.ds t ++ [⟨x.sl, putE m.q ⟨pl, 1, dt⟩, ⟨#[]⟩⟩]) }
set_option maxHeartbeats 3200000 in
theorem slot_write21 (h : HAt w H ρ x) (hR : Roles H.S) (ho : x.n.off = false) (hnb : ∀ i j, (x.n.L i j).bs = []) (t : Nat) (ht : t < 4) (hsl : 0 ≤ x.sl ∧ x.sl ≤ 1000000) (hm : x.sl.tmod 4 = (t : Int)) (pl : Int) (dt : ByteArray) (r : List Chg) (hw : x.ws t = ⟨2, pl, dt⟩ :: r) {p : SP} {c : SC} {m : SM} (hst : x.st t = some (p, c, m))
   (hl : lacE c pl = 0) (h16 : dt.size ≤ 16) (hro : m.ro = false) (h4 : m.q.length < 4) (hd : (x.ds t).length ≤ 100000) (hpe : (putE m.q ⟨pl, 1, dt⟩ == 12) = false) :
   Calls Tryz.prog 21 #[.pointer (some ⟨H.hb, 0, none⟩)] w fun e w' => e = .returned (.bool true) ∧ ∃ ρ' v vd, HAt w' H ρ' (wroteX x t p c m r pl dt v vd) ∧ Fr w.heap.size ρ ρ' w w' := by
 have U := up21 h
 rw [ho] at U
 have HC1 := Lib.hid (show ∀ v, Fr w.heap.size ρ ρ w (w.setCell ⟨H.hb, 33, none⟩ v) from fun v => ⟨KpF.of_grown (gb_set (gb_refl w (some H.hb)) 33 v) (fun k e => by injection e with e; rw [← e, h.rh]; omega), fun k e => .inl e⟩)
 have h1 := h.count hR (x.sl + 1)
 have cN := h.cN
 have fN := h.bk.free 33
 have q1 := h1.qs t ht
 have cQ := h1.cQ ht
 have HW := Lib.hid (And.intro hR (And.intro ho (And.intro hnb (And.intro hst (And.intro hl (And.intro h16 (And.intro hro (And.intro h4 hd))))))))
 obtain ⟨sl, hsle⟩ : ∃ z, x.sl = z := ⟨_, rfl⟩
 have HSL := Lib.hid hsle
 rw [hsle] at cN hsl hm q1 cQ h1
 have NX := next20_some q1 (c := ⟨2, pl, dt⟩) (r := r) hw
 have ht4 : (t : Int) < 4 := by omega
 obtain ⟨w1, hw1⟩ : ∃ z, w.setCell ⟨H.hb, 33, none⟩ (.int .i64 (sl + 1)) = z := ⟨_, rfl⟩
 rw [hw1] at NX cQ h1
 have HF1 := Lib.hid (hw1 ▸ HC1.out (.int .i64 (sl + 1)))
 rw [chgV_is] at NX
 have H1 := Lib.hid h1
 clear h ho h1 q1 hsle hR hnb hw hst hl h16 hro h4 hd
 go_enter_defers Tryz.func21, Tryz.ntmps21
 go_upto_region 7 with (go_at_call 13; refine U.mono ?_; rintro e w2 ⟨rfl, rfl⟩)
 clear hw1 cN fN U hsl hm
 go_upto_region 10 with (first
   | (go_at_call 68; refine NX.mono ?_; rintro e w2 ⟨rfl, hq2⟩; have hBn := Blk.new w2 30 (chgC noChg); have HQ2 := Lib.hid hq2; clear hq2)
   | (refine cmd_store (c := ⟨2, pl, dt⟩) _ _ rfl rfl rfl hBn rfl rfl ?_; intro w3 hb3 hg3 hs3; have HE := Lib.hid (g17_new (World.grownBy_alloc w2 _ none) hg3 (Nat.le_refl _)); clear hg3 hs3 hBn))
 obtain ⟨ρ2, v2, h2, fr2⟩ := H1.out.turnW HW.out.1 ht HW.out.2.2.1 HQ2.out
 have HF2 := Lib.hid ((HF1.out.trans fr2 (Nat.le_refl _) HF1.out.1.size).trans (Fr.ext (B := w2.heap.size) HE.out) (Nat.le_refl _) (Nat.le_trans HF1.out.1.size fr2.1.size))
 have h3 := h2.ext HW.out.1 HE.out
 have cS := h3.cS ht
 have cQ3 := h3.cQ ht
 have e1 : x.st t = some (p, c, m) := HW.out.2.2.2.1
 obtain ⟨a3, ok, _, _, _⟩ := h3.ss t ht p c m e1
 have cS3 : w3.cell? ⟨H.hb, 25 + t, none⟩ = some (.pointer (some ⟨p.sb, 0, none⟩)) := cS.trans (by show some (ptS (x.st t)) = _; rw [e1]; rfl)
 have hlt3 := h3.bk.lt
 have RN := Lib.hid (fun (wx : World) (hE : w3.grownBy wx none) => run21 (a3.ext ok hE) ok pl dt HW.out.2.2.2.2.1 HW.out.2.2.2.2.2.1 HW.out.2.2.2.2.2.2.1 HW.out.2.2.2.2.2.2.2.1)
 have hgb := hb3.lt
 have hS : SeeB w3 [H.hb, w2.heap.size] w3.drew := SeeB.of_ext (Ext.drew w3) (by simp; omega)
 have HC := Lib.hid (show ∀ y, SeeB w3 [H.hb, w2.heap.size] y → y.cell? ⟨H.hb, 25 + t, none⟩ = some (.pointer (some ⟨p.sb, 0, none⟩)) ∧ Blk y w2.heap.size 30 (chgC ⟨2, pl, dt⟩) from fun y hy => ⟨hy.cell (by simp) cS3, (hy _ (by simp)).trans hb3⟩)
 have hz2 : ρ2 w2.heap.size = 0 := Classical.byContradiction fun e => by have := h2.rt _ e; omega
 have H3 := Lib.hid (And.intro h3 (And.intro hb3 (And.intro hz2 (And.intro hlt3 hgb))))
 clear cS cQ3 a3 cS3 h2 h3 hb3 hz2 NX cQ
 refine wp_nopan ?_
 refine region_line [(0, true), (1, true), (2, true), (3, true), (4, true), (5, true), (6, true), (7, false), (8, true), (9, true), (10, true), (11, true), (12, true)] (SeeB w3 [H.hb, w2.heap.size]) (by kernel_rfl) (by kernel_rfl) (fun c _ _ _ _ h => absurd rfl (h.1 c)) hS ?_
 repeat (refine line_read (a' := ?_) rfl (by kernel_rfl) (by kernel_rfl) hS (fun y hy K hK => ?_) ?_; rotate_left; · (obtain ⟨k1, b0⟩ := HC.out y hy; go_wp2_with (refine cmd_load rfl _ rfl rfl (b0.range 0 3 rfl) ?_); exact hK))
 refine line_act (by rfl) (fun K hK => ?_)
 go_wp2_with (go_at_call 69; refine (RN.out _ (Ext.drew w3)).mono ?_; rintro e w4 ⟨rfl, hA4, hk4⟩)
 have h3d := H3.out.1.ext HW.out.1 (Ext.drew w3)
 have h4 := h3d.store ht (p := p) (c := c) (m := m) e1 hA4 hk4
 have hS4 : SeeB w3 [H.hb, w2.heap.size] w4 := fun k hk => by
   simp at hk
   have hT : ∀ k, ρ2 k ≠ 1 → ρ2 k ≠ 7 + t → tS p c k = 0 := fun k n1 n2 => by
     obtain ⟨⟨r1, r2, r3⟩, _⟩ := H3.out.1.rs t ht p c m e1
     unfold tS
     rw [if_neg (by rintro (e | e | e); rw [e] at n2; exact n2 r1; rw [e] at n2; exact n2 r2; rw [e] at n2; exact n2 r3)]
     obtain ⟨_, _, cSS, _⟩ := H3.out.1.ss t ht p c m e1
     rw [cSS]
     exact H3.out.1.T0 n1
   rcases hk with rfl | rfl
   · exact hk4.block _ H3.out.2.2.2.1 (hT _ (by rw [H3.out.1.rh]; omega) (by rw [H3.out.1.rh]; omega))
   · exact hk4.block _ H3.out.2.2.2.2 (hT _ (by rw [H3.out.2.2.1]; omega) (by rw [H3.out.2.2.1]; omega))
 have HF4 := Lib.hid ((HF2.out.trans (Fr.ext (B := w3.heap.size) (Ext.drew w3)) (Nat.le_refl _) HF2.out.1.size).trans (⟨hk4.kpf (fun k e => by
   obtain ⟨⟨r1, r2, r3⟩, _⟩ := H3.out.1.rs t ht p c m e1
   obtain ⟨_, _, cSS, _⟩ := H3.out.1.ss t ht p c m e1
   unfold tS at e
   split at e
   · rename_i h1
     rcases h1 with rfl | rfl | rfl
     · rw [r1]; omega
     · rw [r2]; omega
     · rw [r3]; omega
   · rw [cSS] at e
     rw [(H3.out.1.rn k).1 e]; omega), fun k e => .inl e⟩ : Fr w3.heap.size ρ2 ρ2 w3.drew w4) (Nat.le_refl _) HF2.out.1.size)
 refine hK _ _ (SeeB w3 [H.hb, w2.heap.size]) hS4 (fun _ h => h) ?_
 clear hK K
 repeat (refine line_read (a' := ?_) rfl (by kernel_rfl) (by kernel_rfl) hS4 (fun y hy K hK => ?_) ?_; rotate_left; · go_wp2; exact hK)
 refine line_end ?_
 refine ⟨fun c e => (by cases e), ?_⟩
 have cQ4 := h4.cQ ht
 have DN := done20 (h4.qs t ht) ⟨sl, putE m.q ⟨pl, 1, dt⟩, ⟨#[]⟩⟩ (by show (updH x.ds t (x.ds t) t).length ≤ 100000; rw [updH_same]; exact HW.out.2.2.2.2.2.2.2.2)
 obtain ⟨er, her⟩ : ∃ z, putE m.q ⟨pl, 1, dt⟩ = z := ⟨_, rfl⟩
 have HER := Lib.hid her
 rw [her] at DN hpe
 have H4 := Lib.hid h4
 rw [chgV_is] at DN
 rw [show (chgC ⟨sl, er, ⟨#[]⟩⟩) = #[.int .i64 sl, .int .i64 er, .string ⟨#[]⟩] from rfl] at DN
 rw [her]
 clear her h4 h3d hA4 hk4 hS hS4 RN
 go_wp2_with (go_at_call 70; refine DN.mono ?_; rintro e w5 ⟨rfl, hq5⟩)
 obtain ⟨ρ6, vd6, h6, fr6⟩ := H4.out.turnD HW.out.1 ht HW.out.2.2.1 hq5
 refine leaves_cons (f := 67) (args := #[.pointer (some ⟨H.hb, 0, none⟩)]) (by simp) (by simp [go_sem]) ?_
 refine (drop21 h6 HW.out.2.1 .returning).mono ?_
 rintro e u' w'' ⟨rfl, rfl, rfl⟩
 refine ⟨_, results_tmp rfl _ _ _, rfl, ρ6, v2, vd6, ?_, HF4.out.trans fr6 (Nat.le_refl _) HF4.out.1.size⟩
 have ue : ∀ {α : Type} (f : Nat → α) (a : α), updH (updH f t a) t a = updH f t a := fun f a => by funext j; unfold updH; split <;> rfl
 have ue2 : ∀ {α : Type} (f : Nat → α), updH f t (f t) = f := fun f => by funext j; unfold updH; split <;> simp_all
 have ue3 : ∀ {α : Type} (f : Nat → α) (a b : α), updH (updH f t a) t b = updH f t b := fun f a b => by funext j; unfold updH; split <;> rfl
 simp only [updH_same, ue3, ue2, HSL.out] at h6 ⊢
 unfold wroteX
 rw [HSL.out, HER.out]
 exact h6
end
end Go.Proofs.YtfgifgglcafadaaGreatDoor

namespace Go.Proofs.YtfgifgglcafadaaGreatDoor
set_option linter.unusedVariables false
set_option linter.unusedSimpArgs false
set_option linter.unusedVariables false
set_option linter.unusedSimpArgs false
set_option maxRecDepth 100000
open Go.RowKit
def stC21 (a b c d e f : Int) (g : Bool) (h i : Int) : Array Value := #[.int .i64 a, .int .i64 b, .int .i64 c, .int .i64 d, .int .i64 e, .int .i64 f, .bool g, .int .i64 h, .int .i64 i]
theorem Tryz.sizeStat : (Tryz.prog.info? 43).map (·.size) = some 9 := by kernel_rfl
section
variable {ops : Array Oper} {rest : List Oper} {o : Oper} {a : Act} {w : World} {Q : Exit → Act → World → Prop}
theorem stat_store (x y : Operand) (ho : o.op = .store 43 x y) {g : Nat} (hx : a.eval x = .pointer (some ⟨g, 0, none⟩)) {p1 p2 p3 p4 p5 p6 : Int} {p7 : Bool} {p8 p9 : Int} (hy : a.eval y = .agg (stC21 p1 p2 p3 p4 p5 p6 p7 p8 p9)) {old : Array Value} (hg : Blk w g 43 old) (hold : old.size = 9) (hwt : Region.wanted o (yielded ops a.tmps) = true)
   (h : ∀ w', Blk w' g 43 (stC21 p1 p2 p3 p4 p5 p6 p7 p8 p9) → w.grownBy w' (some g) → w'.heap.size = w.heap.size → wpList Tryz.prog ops Q rest (a.put o.dst undef) w') : wpList Tryz.prog ops Q (o :: rest) a w :=
 wpList_store_part hwt _ x y ho g 0 9 _ hx hy _ old _ hg rfl Tryz.sizeStat (by omega) (by simp [stC21, Value.oneCell']) (by
   have h1 : (stC21 p1 p2 p3 p4 p5 p6 p7 p8 p9).toList.length = 9 := rfl
   rw [h1, List.drop_of_length_le (by simp; omega)]
   simp) h
end
def StatP (nb wt : Int) (w : World) (e : Ending) (w' : World) : Prop := (∃ a b d e2 f g h, e = .returned (.tuple #[.agg (stC21 a b nb d e2 f g h wt), .int .i64 0])) ∧ w.grownBy w' none
section
variable {w : World} {H : HC} {ρ : Nat → Nat} {x : HX}
set_option maxHeartbeats 3200000 in
theorem stat21 (h : HAt w H ρ x) (hR : Roles H.S) (ho : x.n.off = false) (t : Nat) (ht : t < 4) (hth : (x.L.t t).th = true) {p : SP} {c : SC} {m : SM} (hst : x.st t = some (p, c, m)) (hq : m.q.length ≤ 4) (hbl : (x.L.t t).bs.length ≤ 1048576) :
   Calls Tryz.prog 14 #[.pointer (some ⟨H.hb, 0, none⟩), .int .i64 (t : Int)] w (StatP (x.L.t t).bs.length (m.q.length + (x.ws t).length : Nat) w) := by
 have hE := World.grownBy_alloc w (.cells #[.int .i64 0, .int .i64 0, .int .i64 0, .int .i64 0, .int .i64 0, .int .i64 0, .bool false, .int .i64 0, .int .i64 0] 43) none
 have hb1 := Blk.new w 43 #[.int .i64 0, .int .i64 0, .int .i64 0, .int .i64 0, .int .i64 0, .int .i64 0, .bool false, .int .i64 0, .int .i64 0]
 have hbz := h.bk.lt
 obtain ⟨rb, hrb⟩ : ∃ z, w.heap.size = z := ⟨_, rfl⟩
 obtain ⟨w1, hw1⟩ : ∃ z, w.alloc (.cells #[.int .i64 0, .int .i64 0, .int .i64 0, .int .i64 0, .int .i64 0, .int .i64 0, .bool false, .int .i64 0, .int .i64 0] 43) = z := ⟨_, rfl⟩
 rw [hw1] at hE hb1
 rw [hrb] at hb1 hbz
 have h1 := h.ext hR hE
 have LK := lacks21 h1 (t : Int)
 have hl0 : lackT x.n.off x.L (t : Int) = 0 := by
   unfold lackT missT
   rw [ho, if_neg (by decide), if_pos (by simp [inB]; omega)]
   simp [hth]
 rw [hl0] at LK
 obtain ⟨er, her⟩ : ∃ z : Int, z = 0 := ⟨_, rfl⟩
 have e0 : (er != 0) = false := by rw [her]; rfl
 rw [← her] at LK
 have hws := (h.qs t ht).wl
 obtain ⟨ao, bn, cap, hvl⟩ := led_slices h.li ht
 have hbn : bn = (x.L.t t).bs.length := by
   obtain ⟨_, _, _, _, e1, _⟩ := (h.li t ht).form
   rw [hvl] at e1
   simp only [Value.slice.injEq] at e1
   exact e1.2.1
 rw [← hbn]
 have hbnl : bn ≤ 1048576 := by omega
 have HA := Lib.hid (And.intro h (And.intro hR (And.intro hst hE)))
 have BD := Lib.hid (fun (wx : World) (hg : w1.grownBy wx none) => (show Calls Tryz.prog 49 #[.pointer (some ⟨p.sb, 0, none⟩)] wx fun e w' => e = .returned (.int .i64 (badN c { m with n := x.n } : Nat)) ∧ wx.grownBy w' none from by
   obtain ⟨a, ok, _⟩ := (h1.ext hR hg).ss t ht p c m hst
   exact bad18 a ok))
 have FA := Lib.hid (fun (wx : World) (hg : w1.grownBy wx none) => faults_is H.S.db t _ _ _ _ wx (h1.ext hR hg).nd.drs ht)
 have OP := Lib.hid (fun (wx : World) (hg : w1.grownBy wx none) => drOps_is H.S.db t _ _ _ _ wx (h1.ext hR hg).nd.drs ht)
 have RO := Lib.hid (fun (wx : World) (hg : w1.grownBy wx none) => readOnly18 ((h1.ext hR hg).ss t ht p c m hst).1)
 have FR := Lib.hid (fun (wx : World) (hg : w1.grownBy wx none) => (show Calls Tryz.prog 53 #[.pointer (some ⟨p.sb, 0, none⟩)] wx fun e w' => (∃ ao k cap, e = .returned (.slice ao k cap)) ∧ wx.grownBy w' none from by
   obtain ⟨a, ok, _⟩ := (h1.ext hR hg).ss t ht p c m hst
   exact (free18 a ok).mono fun e w' ⟨⟨v, e1, e2⟩, e3⟩ => ⟨by obtain ⟨ao, cap, hv⟩ := owns_shape13 e2; exact ⟨ao, _, cap, by rw [e1, hv]⟩, e3⟩))
 have WT := Lib.hid (fun (wx : World) (hg : w1.grownBy wx none) => waiting18 ((h1.ext hR hg).ss t ht p c m hst).1 hq)
 have LN := Lib.hid (fun (wx : World) (hg : w1.grownBy wx none) => len20 ((h1.ext hR hg).qs t ht))
 obtain ⟨bdN, hbdN⟩ : ∃ z, badN c { m with n := x.n } = z := ⟨_, rfl⟩
 obtain ⟨mN, hmN⟩ : ∃ z, m.q.length = z := ⟨_, rfl⟩
 obtain ⟨wN, hwN⟩ : ∃ z, (x.ws t).length = z := ⟨_, rfl⟩
 rw [hbdN] at BD
 rw [hmN] at WT hq ⊢
 rw [hwN] at LN hws ⊢
 have ht4 : (t : Int) < 4 := by omega
 have k25 := h1.cS ht
 rw [hst] at k25
 have k25 : w1.cell? ⟨H.hb, 25 + t, none⟩ = some (.pointer (some ⟨p.sb, 0, none⟩)) := k25
 have hbk := h1.bk
 have HC := Lib.hid (show ∀ y, SeeB w1 [H.hb, rb] y → Blk y H.hb 95 (hsC H x) ∧ y.cell? ⟨H.hb, 1, none⟩ = some (.pointer (some ⟨H.S.db, 0, none⟩)) ∧ y.cell? ⟨H.hb, 25 + t, none⟩ = some (.pointer (some ⟨p.sb, 0, none⟩)) ∧ y.cell? ⟨H.hb, 29 + t, none⟩ = some (.pointer (some ⟨x.qp t, 0, none⟩)) from fun y hy => ⟨(hy _ (by simp)).trans hbk, hy.cell (by simp) h1.c1, hy.cell (by simp) k25, hy.cell (by simp) (h1.cQ ht)⟩)
 have HB1 := Lib.hid hb1
 have SE := Lib.hid (fun (y : World) (hg : w1.grownBy y none) => (SeeB.of_ext hg (by have h2 := hbk.lt; have h3 := hb1.lt; simp; omega) : SeeB w1 [H.hb, rb] y))
 have hsl := h.li.slices t ht
 have HBX := Lib.hid (show H.hb < rb ∧ w.heap.size ≤ rb from ⟨hbz, by omega⟩)
 clear h hR ho hth hst hE hl0 her hbn hbdN hmN hwN hbl k25 hbk h1 hb1 hbz
 go_enter Tryz.func14, Tryz.ntmps14
 go_upto_region 4 with (go_at_call 48; refine LK.mono ?_; rintro e w2 ⟨rfl, rfl⟩)
 clear hw1 hrb e0 LK
 have hS : SeeB w1 [H.hb, rb] w1.drew := SE.out _ (Ext.drew w1)
 refine region_line [(0, true), (1, true), (2, true), (3, true), (4, true), (5, true), (6, true), (7, true), (8, true), (9, true), (10, true), (11, true), (12, true), (13, false), (14, false), (15, true)] (SeeB w1 [H.hb, rb]) (by kernel_rfl) (by kernel_rfl) (fun _ _ _ d _ h => by cases d <;> exact h) hS ?_
 repeat (refine line_read (a' := ?_) rfl (by kernel_rfl) (by kernel_rfl) hS (fun y hy K hK => ?_) ?_; rotate_left; · (obtain ⟨b0, k1, k25, k29⟩ := HC.out y hy; go_wp2_with (refine hten_load rfl _ rfl ht rfl b0 ?_); exact hK))
 rw [hvl] at hsl
 refine line_act (by rfl) (fun K hK => ?_)
 go_wp2
 have hb2 := Blk.new w1.drew 53 (tenC noTen nilS)
 have hE2 : w1.grownBy (w1.drew.alloc (.cells (tenC noTen nilS) 53)) none := ext_trans (Ext.drew w1) (World.grownBy_alloc w1.drew (.cells (tenC noTen nilS) 53) none)
 refine hK _ _ (SeeB w1 [H.hb, rb]) (SE.out _ hE2) (fun _ h => h) ?_
 clear hK K
 refine line_act (by rfl) (fun K hK => ?_)
 go_wp2_with (refine ten_store _ _ rfl rfl rfl hb2 rfl hsl rfl ?_; intro w3 hb3 hg3 hs3)
 have hE3 : w1.grownBy w3 none := g17_new hE2 hg3 (Nat.le_refl _)
 refine hK _ _ (SeeB w1 [H.hb, rb]) (SE.out _ hE3) (fun _ h => h) ?_
 clear hK K
 repeat (refine line_read (a' := ?_) rfl (by kernel_rfl) (by kernel_rfl) (SE.out _ hE3) (fun y hy K hK => ?_) ?_; rotate_left; · (go_wp2; exact hK))
 refine line_end ?_
 have hb3 : Blk w3 w1.heap.size 53 (tenC (x.L.t t) (.slice ao bn cap)) := hb3
 have hrl := HB1.out.lt
 obtain ⟨w1.heap.size, htb⟩ : ∃ z, w1.heap.size = z := ⟨_, rfl⟩
 rw [htb] at hb3 hrl
 have hb1' : Blk w3 rb 43 #[.int .i64 0, .int .i64 0, .int .i64 0, .int .i64 0, .int .i64 0, .int .i64 0, .bool false, .int .i64 0, .int .i64 0] := HB1.out.ext hE3
 have hbl3 := ((SE.out _ hE3) H.hb (by simp))
 have HC3 := Lib.hid (show ∀ y, SeeB w3 [H.hb, w1.heap.size] y → y.cell? ⟨H.hb, 1, none⟩ = some (.pointer (some ⟨H.S.db, 0, none⟩)) ∧ y.cell? ⟨H.hb, 29 + t, none⟩ = some (.pointer (some ⟨x.qp t, 0, none⟩)) ∧ y.cell? ⟨w1.heap.size, 2, none⟩ = some (.int .i64 (x.L.t t).sz) ∧ y.cell? ⟨w1.heap.size, 3, none⟩ = some (.int .i64 (x.L.t t).sp) ∧ y.cell? ⟨w1.heap.size, 4, none⟩ = some (.slice ao bn cap) from fun y hy => by
   obtain ⟨_, k1, _, k29⟩ := HC.out w3 (SE.out _ hE3)
   exact ⟨hy.cell (by simp) k1, hy.cell (by simp) k29, hy.cell (by simp) (hb3.cell 2), hy.cell (by simp) (hb3.cell 3), hy.cell (by simp) (hb3.cell 4)⟩)
 have SE3 := Lib.hid (fun (y : World) (hg : w3.grownBy y none) => (SeeB.of_ext hg (by have h2 := (HC.out w3 (SE.out _ hE3)).1.lt; have h4 := hb3.lt; simp; omega) : SeeB w3 [H.hb, w1.heap.size] y))
 have HE3 := Lib.hid (And.intro hE3 (And.intro hb3.lt hrl))
 have hS3 : SeeB w3 [H.hb, w1.heap.size] w3.drew := SE3.out _ (Ext.drew w3)
 clear hb2 hE2 hg3 hs3 hE3 hS hb1' hbl3 hb3 hvl
 go_wp2
 refine region_line [(0, true), (1, true), (2, true), (3, true), (4, true), (5, true), (6, true), (7, true), (9, true), (10, true), (11, true), (12, true), (13, true), (15, true), (16, true), (17, true), (18, true), (19, true), (21, true), (23, true), (26, true), (28, true), (29, true), (30, true), (31, true), (32, true), (33, true), (8, false), (14, false), (20, false), (22, false), (24, false), (25, true), (27, false), (34, false), (35, true), (36, false), (37, false), (38, true)] (SeeB w3 [H.hb, w1.heap.size]) (by kernel_rfl) (by kernel_rfl) (fun _ _ _ d _ h => by cases d <;> exact h) hS3 ?_
 repeat (refine line_read (a' := ?_) rfl (by kernel_rfl) (by kernel_rfl) hS3 (fun y hy K hK => ?_) ?_; rotate_left; · (obtain ⟨k1, k29, t2, t3, t4⟩ := HC3.out y hy; go_wp2; exact hK))
 refine line_act (by rfl) (fun K hK => ?_)
 go_wp2_with (go_at_call 49; refine (BD.out _ (ext_trans HE3.out.1 (Ext.drew w3))).mono ?_; rintro e w4 ⟨rfl, hg4⟩)
 have hE4 : w3.grownBy w4 none := ext_trans (Ext.drew w3) hg4
 refine hK _ _ (SeeB w3 [H.hb, w1.heap.size]) (SE3.out _ hE4) (fun _ h => h) ?_
 clear hK K
 refine line_act (by rfl) (fun K hK => ?_)
 go_wp2_with (go_at_call 50; refine (FA.out _ (ext_trans HE3.out.1 hE4)).mono ?_; rintro e w5 ⟨rfl, rfl⟩)
 refine hK _ _ (SeeB w3 [H.hb, w1.heap.size]) (SE3.out _ hE4) (fun _ h => h) ?_
 clear hK K
 refine line_act (by rfl) (fun K hK => ?_)
 go_wp2_with (go_at_call 51; refine (OP.out _ (ext_trans HE3.out.1 hE4)).mono ?_; rintro e w5 ⟨rfl, rfl⟩)
 refine hK _ _ (SeeB w3 [H.hb, w1.heap.size]) (SE3.out _ hE4) (fun _ h => h) ?_
 clear hK K
 refine line_act (by rfl) (fun K hK => ?_)
 go_wp2_with (go_at_call 52; refine (RO.out _ (ext_trans HE3.out.1 hE4)).mono ?_; rintro e w5 ⟨rfl, rfl⟩)
 refine hK _ _ (SeeB w3 [H.hb, w1.heap.size]) (SE3.out _ hE4) (fun _ h => h) ?_
 clear hK K
 refine line_act (by rfl) (fun K hK => ?_)
 go_wp2_with (go_at_call 53; refine (FR.out _ (ext_trans HE3.out.1 hE4)).mono ?_; rintro e w6 ⟨⟨fo, fk, fc, rfl⟩, hg6⟩)
 have hE6 := ext_trans hE4 hg6
 refine hK _ _ (SeeB w3 [H.hb, w1.heap.size]) (SE3.out _ hE6) (fun _ h => h) ?_
 clear hK K
 repeat (refine line_read (a' := ?_) rfl (by kernel_rfl) (by kernel_rfl) (SE3.out _ hE6) (fun y hy K hK => ?_) ?_; rotate_left; · (go_wp2; exact hK))
 refine line_act (by rfl) (fun K hK => ?_)
 go_wp2_with (go_at_call 54; refine (WT.out _ (ext_trans HE3.out.1 hE6)).mono ?_; rintro e w7 ⟨rfl, hg7⟩)
 have hE7 := ext_trans hE6 hg7
 refine hK _ _ (SeeB w3 [H.hb, w1.heap.size]) (SE3.out _ hE7) (fun _ h => h) ?_
 clear hK K
 refine line_act (by rfl) (fun K hK => ?_)
 go_wp2_with (go_at_call 55; refine (LN.out _ (ext_trans HE3.out.1 hE7)).mono ?_; rintro e w8 ⟨rfl, rfl⟩)
 refine hK _ _ (SeeB w3 [H.hb, w1.heap.size]) (SE3.out _ hE7) (fun _ h => h) ?_
 clear hK K
 repeat (refine line_read (a' := ?_) rfl (by kernel_rfl) (by kernel_rfl) (SE3.out _ hE7) (fun y hy K hK => ?_) ?_; rotate_left; · (go_wp2; exact hK))
 refine line_act (by rfl) (fun K hK => ?_)
 go_wp2
 refine hK _ _ (SeeB w3 [H.hb, w1.heap.size]) (SE3.out _ hE7) (fun _ h => h) ?_
 clear hK K
 refine line_act (by rfl) (fun K hK => ?_)
 have hb7 : Blk w7 rb 43 #[.int .i64 0, .int .i64 0, .int .i64 0, .int .i64 0, .int .i64 0, .int .i64 0, .bool false, .int .i64 0, .int .i64 0] := HB1.out.ext (ext_trans HE3.out.1 hE7)
 have hlb := HA.out.1.bk.lt
 go_wp2_with (refine stat_store (p1 := (x.L.t t).sz) (p2 := (x.L.t t).sp) (p3 := bn) (p4 := bdN) (p5 := x.n.M t) (p6 := x.n.N t) (p7 := m.ro) (p8 := fk) (p9 := (mN : Int) + wN) _ _ rfl rfl rfl hb7 rfl rfl ?_; intro w9 hb9 hg9 hs9)
 have hS9 : SeeB w3 [H.hb, w1.heap.size] w9 := fun k hk => (hg9.block k (by have h1 := hE7.size; have h2 := HE3.out.2.1; have h3 := HA.out.2.2.2.size; have h4 := HE3.out.1.size; simp at hk; omega) (fun e => by injection e with e; have h5 := HE3.out.2.2; have h6 := HBX.out; simp at hk; omega)).trans (SE3.out _ hE7 k hk)
 refine hK _ _ (SeeB w3 [H.hb, w1.heap.size]) hS9 (fun _ h => h) ?_
 clear hK K
 repeat (refine line_read (a' := ?_) rfl (by kernel_rfl) (by kernel_rfl) hS9 (fun y hy K hK => ?_) ?_; rotate_left; · (go_wp2; exact hK))
 refine line_end ?_
 go_wp2
 refine bodyPost_ret (v := .tuple #[.agg (stC21 (x.L.t t).sz (x.L.t t).sp bn bdN (x.n.M t) (x.n.N t) m.ro fk ((mN : Int) + wN)), .int .i64 0]) (results_ct20 (fn := Tryz.f14) rfl rfl rfl hb9 Tryz.underlying43 rfl Tryz.sizeStat) rfl ?_
 refine And.intro (Exists.intro (x.L.t t).sz (Exists.intro (x.L.t t).sp (Exists.intro (bdN : Int) (Exists.intro (x.n.M t) (Exists.intro (x.n.N t) (Exists.intro m.ro (Exists.intro (fk : Int) ?_))))))) ?_
 · rw [show ((mN + wN : Nat) : Int) = (mN : Int) + wN by omega]
 · exact g17_new (ext_trans HA.out.2.2.2 (ext_trans HE3.out.1 hE7)) hg9 (by have h6 := HBX.out; omega)
end
end Go.Proofs.YtfgifgglcafadaaGreatDoor

namespace Go.Proofs.YtfgifgglcafadaaGreatDoor
set_option linter.unusedVariables false
set_option linter.unusedSimpArgs false
set_option linter.unusedVariables false
set_option linter.unusedSimpArgs false
set_option maxRecDepth 100000
open Go.RowKit
end Go.Proofs.YtfgifgglcafadaaGreatDoor

namespace Go.Proofs.YtfgifgglcafadaaGreatDoor
set_option linter.unusedVariables false
set_option linter.unusedSimpArgs false
set_option linter.unusedVariables false
set_option linter.unusedSimpArgs false
set_option maxRecDepth 100000
open Go.RowKit
def suC (c d b p : Int) (U : Nat → Value) (v : Value) : Array Value := #[.int .i64 c, .int .i64 d, .int .i64 b, .int .i64 p, U 0, U 1, U 2, U 3, v]
def hsN (pb db nb : Nat) (f : Nat → Value) : Array Value :=
 #[ptB pb, ptB db, ptB nb, .int .i64 0, .int .i64 0, .bool false, .int .i64 0, .int .i64 0, .int .i64 0, .slice none 0 0, .bool false, .int .i64 0, .int .i64 0, .int .i64 0, .slice none 0 0, .bool false, .int .i64 0, .int .i64 0, .int .i64 0, .slice none 0 0, .bool false, .int .i64 0, .int .i64 0, .int .i64 0, .slice none 0 0,
   .pointer none, .pointer none, .pointer none, .pointer none, f 0, f 1, f 2, f 3, .int .i64 0]
theorem hsN_set (pb db nb : Nat) (f : Nat → Value) {t : Nat} (ht : t < 4) (v : Value) : (hsN pb db nb f).setIfInBounds (29 + t) v = hsN pb db nb (updH f t v) := by
 rcases (by omega : t = 0 ∨ t = 1 ∨ t = 2 ∨ t = 3) with rfl | rfl | rfl | rfl <;> simp [hsN, updH]
theorem hsN_at (pb db nb : Nat) (f : Nat → Value) {t : Nat} (ht : t < 4) : (hsN pb db nb f)[29 + t]? = some (f t) := by
 rcases (by omega : t = 0 ∨ t = 1 ∨ t = 2 ∨ t = 3) with rfl | rfl | rfl | rfl <;> rfl
theorem hsN_nobyte {w : World} {hb pb db nb : Nat} {f : Nat → Value} (hf : ∀ j, ∃ a, f j = .pointer a) (h : Blk w hb 95 (hsN pb db nb f)) (o : Nat) (n : Int) : w.cell? ⟨hb, o, none⟩ ≠ some (.int .u8 n) := by
 intro hc
 rw [h.cell o] at hc
 obtain ⟨a0, e0⟩ := hf 0
 obtain ⟨a1, e1⟩ := hf 1
 obtain ⟨a2, e2⟩ := hf 2
 obtain ⟨a3, e3⟩ := hf 3
 have hm := Array.mem_of_getElem? hc
 simp [hsN, e0, e1, e2, e3, ptB] at hm
theorem house_buildV (p d n : Nat) (w : World) : (Instr.build 95 #[(0, .pointer (some ⟨p, 0, none⟩)), (1, .pointer (some ⟨d, 0, none⟩)), (2, .pointer (some ⟨n, 0, none⟩))]).run Tryz.prog w = .ok (.agg (hsN p d n fun _ => .pointer none)) w := by kernel_rfl
theorem Tryz.sizeFaults21 : (Tryz.prog.info? 25).map (·.size) = some 4 := by kernel_rfl
theorem Tryz.sizeGeo21 : (Tryz.prog.info? 23).map (·.size) = some 4 := by kernel_rfl
section
variable {ops : Array Oper} {rest : List Oper} {o : Oper} {a : Act} {w : World} {Q : Exit → Act → World → Prop}
theorem house_build (hgd : o.guard = none) (x y z : Operand) (ho : o.op = .build 95 #[(0, x), (1, y), (2, z)]) {p d n : Nat} (hx : a.eval x = .pointer (some ⟨p, 0, none⟩)) (hy : a.eval y = .pointer (some ⟨d, 0, none⟩)) (hz : a.eval z = .pointer (some ⟨n, 0, none⟩))
   (h : wpList Tryz.prog ops Q rest (a.put o.dst (.agg (hsN p d n fun _ => .pointer none))) w) : wpList Tryz.prog ops Q (o :: rest) a w := by
 refine wpList_plain hgd fun K hK => ?_
 have hm : (#[((0 : Nat), x), (1, y), (2, z)].map fun (q : Nat × Operand) => (q.1, a.eval q.2)) = #[(0, .pointer (some ⟨p, 0, none⟩)), (1, .pointer (some ⟨d, 0, none⟩)), (2, .pointer (some ⟨n, 0, none⟩))] := by simp [hx, hy, hz]
 unfold Oper.wp execOp
 simp only [ho, hm, Sem.run_bind, house_buildV, Result.andThen_ok, Sem.run_pure]
 exact hK _ _ h
theorem su_arr (hwt : Region.wanted o (yielded ops a.tmps) = true) (u : Operand) (ho : o.op = .load 25 u) {g : Nat} (hx : a.eval u = .pointer (some ⟨g, 4, none⟩)) {c d b p : Int} {U : Nat → Value} {v : Value} (hg : Blk w g 27 (suC c d b p U v))
   (h : wpList Tryz.prog ops Q rest (a.put o.dst (.agg #[U 0, U 1, U 2, U 3])) w) : wpList Tryz.prog ops Q (o :: rest) a w :=
 wpList_load_part hwt _ u ho g 4 4 hx _ _ _ _ _ hg (show (suC c d b p U v).extract 4 (4 + 4) = #[U 0, U 1, U 2, U 3] from rfl) rfl Tryz.underlying25 rfl Tryz.sizeFaults21 h
theorem su_geo (hwt : Region.wanted o (yielded ops a.tmps) = true) (u : Operand) (ho : o.op = .load 23 u) {g : Nat} (hx : a.eval u = .pointer (some ⟨g, 0, none⟩)) {c d b p : Int} {U : Nat → Value} {v : Value} (hg : Blk w g 27 (suC c d b p U v))
   (h : wpList Tryz.prog ops Q rest (a.put o.dst (.agg #[.int .i64 c, .int .i64 d, .int .i64 b, .int .i64 p])) w) : wpList Tryz.prog ops Q (o :: rest) a w :=
 wpList_load_part hwt _ u ho g 0 4 hx _ _ _ _ _ hg (show (suC c d b p U v).extract 0 (0 + 4) = #[.int .i64 c, .int .i64 d, .int .i64 b, .int .i64 p] from rfl) rfl Tryz.underlying23 rfl Tryz.sizeGeo21 h
end
def newX (n : NS) (qp : Nat → Nat) : HX := ⟨n, noLed, fun _ => nilS, fun _ => none, qp, fun _ => nilS, fun _ => nilS, fun _ => [], fun _ => [], 0⟩
structure NewS (w0 wr : World) (S : NShape) (V : Nat → Value) (zs : Nat → List Int) (n : NS) (hb k : Nat) (qp : Nat → Nat) : Prop where
 nd : NandAt wr S V zs n
 bk : Blk wr hb 95 (hsN S.pb S.db S.nb fun j => if j < k then ptB (qp j) else .pointer none)
 qs : ∀ j, j < k → QS wr (qp j) nilS nilS [] []
 up : ∀ j, j < k → hb < qp j ∧ ∀ i, i < j → qp i < qp j
 ex : w0.grownBy wr none
section
variable {w w1 : World}
theorem NewS.done {w0 wr : World} {S : NShape} {V : Nat → Value} {zs : Nat → List Int} {n : NS} {hb : Nat} {qp : Nat → Nat} (h : NewS w0 wr S V zs n hb 4 qp) (hF : Flds w0) (hhb : w0.heap.size ≤ hb) (hT : ∀ k, S.T k ≠ 0 → w0.heap.size ≤ k ∧ k < hb) (hV : ∀ j, j < 4 → ∀ k, (V j).ownBlock = some k → w0.heap.size ≤ k ∧ k < hb) :
   ∃ ρ, HAt wr ⟨S, V, zs, hb⟩ ρ (newX n qp) ∧ ∀ k, ρ k ≠ 0 → w0.heap.size ≤ k := by
 have hz := h.ex.size
 have hbl := h.bk.lt
 have ql : ∀ j, j < 4 → qp j < wr.heap.size := fun j hj => (h.qs j hj).blk.lt
 have q0 := h.up 0 (by omega)
 have q1 := h.up 1 (by omega)
 have q2 := h.up 2 (by omega)
 have q3 := h.up 3 (by omega)
 have o1 := q1.2 0 (by omega)
 have o2 := q2.2 1 (by omega)
 have o3 := q3.2 2 (by omega)
 have hz1 : ∀ k, S.T k = 0 → k ≠ hb → (∀ j, j < 4 → k ≠ qp j) → (if S.T k ≠ 0 then 1 else if k = hb then 2 else if k = qp 0 then 3 else if k = qp 1 then 4 else if k = qp 2 then 5 else if k = qp 3 then 6 else 0) = 0 := fun k h1 h2 h3 => by
   rw [if_neg (by simp [h1]), if_neg h2, if_neg (h3 0 (by omega)), if_neg (h3 1 (by omega)), if_neg (h3 2 (by omega)), if_neg (h3 3 (by omega))]
 refine ⟨fun k => if S.T k ≠ 0 then 1 else if k = hb then 2 else if k = qp 0 then 3 else if k = qp 1 then 4 else if k = qp 2 then 5 else if k = qp 3 then 6 else 0, ?_, fun k hk => ?_⟩
 rotate_left
 · refine Classical.byContradiction fun hn => hk (hz1 k ?_ ?_ ?_)
   · exact Classical.byContradiction fun e => by have := (hT k e).1; omega
   · omega
   · intro j hj e; have := (h.up j hj).1; omega
 have hz0 : ∀ k, S.T k = 0 → k ≠ hb → (∀ j, j < 4 → k ≠ qp j) → (if S.T k ≠ 0 then 1 else if k = hb then 2 else if k = qp 0 then 3 else if k = qp 1 then 4 else if k = qp 2 then 5 else if k = qp 3 then 6 else 0) = 0 := fun k h1 h2 h3 => by
   rw [if_neg (by simp [h1]), if_neg h2, if_neg (h3 0 (by omega)), if_neg (h3 1 (by omega)), if_neg (h3 2 (by omega)), if_neg (h3 3 (by omega))]
 have hTz : ∀ k, hb ≤ k → S.T k = 0 := fun k hk => Classical.byContradiction fun e => by have := (hT k e).2; omega
 refine ⟨h.nd, ?_, hF.ext h.ex, noLed_is _, fun t ht => h.qs t ht, fun t ht p c m e => (by cases e), ?_, fun k => ?_, fun t ht k hk => ?_, fun t ht p c m e => (by cases e), fun j hj k hk => (by simp [newX, nilS, Value.ownBlock] at hk), fun j hj k hk => ?_, ?_, fun k hk => ?_⟩
 · exact h.bk
 · show (if _ then _ else _) = 2
   rw [if_neg (by rw [hTz hb (Nat.le_refl _)]; simp), if_pos rfl]
 · show S.T k ≠ 0 ↔ (if _ then _ else _) = 1
   constructor
   · intro e; rw [if_pos e]
   · intro e
     by_cases e2 : S.T k ≠ 0
     · exact e2
     · rw [if_neg e2] at e
       split at e
       · omega
       · split at e
         · omega
         · split at e
           · omega
           · split at e
             · omega
             · split at e <;> omega
 · have hk : k = qp t := by
     rcases hk with hk | hk | hk
     · exact hk
     · simp [newX, nilS, Value.ownBlock] at hk
     · simp [newX, nilS, Value.ownBlock] at hk
   subst hk
   have hu := h.up t ht
   show (if _ then _ else _) = 3 + t
   rw [if_neg (by rw [hTz _ (by omega)]; simp), if_neg (by omega)]
   rcases (by omega : t = 0 ∨ t = 1 ∨ t = 2 ∨ t = 3) with rfl | rfl | rfl | rfl
   · rw [if_pos rfl]
   · rw [if_neg (by omega), if_pos rfl]
   · rw [if_neg (by omega), if_neg (by omega), if_pos rfl]
   · rw [if_neg (by omega), if_neg (by omega), if_neg (by omega), if_pos rfl]
 · have hk2 := hV j hj k hk
   refine ⟨hz0 k (h.nd.tv j hj k hk) (by omega) (fun j hj => by have := (h.up j hj).1; omega), by omega⟩
 · have h0 : 0 < w0.heap.size := by have := hF.lt; omega
   exact hz0 0 (Classical.byContradiction fun e => by have := (hT 0 e).1; omega) (by omega) (fun j hj => by have := (h.up j hj).1; omega)
 · have hk : (if S.T k ≠ 0 then 1 else if k = hb then 2 else if k = qp 0 then 3 else if k = qp 1 then 4 else if k = qp 2 then 5 else if k = qp 3 then 6 else 0) ≠ 0 := hk
   by_cases e : S.T k ≠ 0
   · have := (hT k e).2; omega
   · rw [if_neg e] at hk
     have a0 := ql 0 (by omega)
     have a1 := ql 1 (by omega)
     have a2 := ql 2 (by omega)
     have a3 := ql 3 (by omega)
     split at hk
     · omega
     · split at hk
       · omega
       · split at hk
         · omega
         · split at hk
           · omega
           · split at hk
             · omega
             · exact absurd rfl hk
end
end Go.Proofs.YtfgifgglcafadaaGreatDoor

namespace Go.Proofs.YtfgifgglcafadaaGreatDoor
set_option linter.unusedVariables false
set_option linter.unusedSimpArgs false
set_option linter.unusedVariables false
set_option linter.unusedSimpArgs false
set_option maxRecDepth 100000
open Go.RowKit
def NewH (c d b : Int) (pg al : Nat) (zs : Nat → List Int) (ms : List Int) (w : World) (e : Ending) (w' : World) : Prop :=
 ∃ H ρ qp, e = .returned (.tuple #[.pointer (some ⟨H.hb, 0, none⟩), .int .i64 0]) ∧ HAt w' H ρ (newX (blankS ms (-1) false 0 (fun _ => 0) (fun _ => 0)) qp) ∧ Roles H.S ∧ (H.S.c = c ∧ H.S.d = d ∧ H.S.b = b ∧ H.S.p = pg ∧ H.S.all = al ∧ H.S.pg = pg) ∧ H.zs = zs ∧ w.grownBy w' none ∧ w.heap.size ≤ H.hb ∧ ∀ k, ρ k ≠ 0 → w.heap.size ≤ k
section
variable {w : World}
set_option maxHeartbeats 6400000 in
theorem hnew21 (c d b : Int) (pg al : Nat) (U : Nat → Value) (zs : Nat → List Int) (v : Value) (ms : List Int) (hF : Flds w) (hU : Four w U zs) (hzn : newE zs = 0) (hv : Ints w v ms) (hml : ms.length ≤ 9223372036854775807) (hg : geoE c d b pg = 0) (hal : c * d * b = al) (hok : okM al ms = true) :
   Calls Tryz.prog 11 #[.agg (suC c d b pg U v)] w (NewH c d b pg al zs ms w) := by
 obtain ⟨mo, mn, mc, hmv⟩ := hv.slice
 have hE1 := World.grownBy_alloc w (.cells (suC c d b pg U v) 27) none
 have hb1 := Blk.new w 27 (suC c d b pg U v)
 obtain ⟨sb, hsb⟩ : ∃ z, w.heap.size = z := ⟨_, rfl⟩
 obtain ⟨w1, hw1⟩ : ∃ z, w.alloc (.cells (suC c d b pg U v) 27) = z := ⟨_, rfl⟩
 rw [hw1] at hE1 hb1
 rw [hsb] at hb1
 have ND := new_any U zs w1 (hU.kept hE1)
 have H0 := Lib.hid (And.intro hF (And.intro hzn (And.intro hE1 hsb)))
 have HG := Lib.hid (And.intro hv (And.intro hml (And.intro hg (And.intro hal hok))))
 subst hmv
 obtain ⟨er, her⟩ : ∃ z : Int, z = 0 := ⟨_, rfl⟩
 have e0 : (er != 0) = false := by rw [her]; rfl
 have HER := Lib.hid her
 have ND2 : Calls Tryz.prog 43 #[.agg #[U 0, U 1, U 2, U 3]] w1 fun e w' => ∃ db V, e = .returned (.tuple #[.pointer (some ⟨db, 0, none⟩), .int .i64 er]) ∧ DrAt w' db V zs (fun _ => 0) (fun _ => 0) ∧ w1.grownBy w' none ∧ w1.heap.size ≤ db ∧ ∀ j, j < 4 → ∀ k, (V j).ownBlock = some k → w1.heap.size ≤ k ∧ k < w'.heap.size :=
   ND.mono fun e w' h => by rw [her]; exact (h.resolve_left (fun h2 => h2.1 hzn)).2
 clear ND hF hU hzn hv hml hg hal hok hE1 her
 go_enter Tryz.func11, Tryz.ntmps11
 go_upto_region 1 with fail
 clear hw1 hsb
 have c8 : ∀ wx, w1.grownBy wx none → Blk wx sb 27 (suC c d b pg U (.slice mo mn mc)) := fun wx hE => hb1.ext hE
 go_upto_region 4 with (first
   | (refine su_arr rfl _ rfl rfl hb1 ?_)
   | (go_at_call 43; refine ND2.mono ?_; rintro e w2 ⟨db, V, rfl, hD2, hg2, hdb2, hV2⟩))
 have NP := new_is (-1) w2
 go_upto_region 5 with (go_at_call 44; refine NP.mono ?_; rintro e w3 ⟨rfl, hp3, hg3⟩)
 have hE3 := ext_trans hg2 hg3
 have hz2 := hg2.size
 have hz3 := hg3.size
 have hdl := hD2.lt
 have hD3 := hD2.other hg3 (by simp) (fun _ _ _ _ => by simp)
 have hpl := hp3.lt
 have hdV := hD2.apart
 have NN := new7_any w2.heap.size db pg al c d b (.slice mo mn mc) ms w3 HG.out.2.2.1 HG.out.2.2.2.1 ((HG.out.1.kept H0.out.2.2.1 (by simp)).kept hE3 (by simp)) HG.out.2.1 hp3 hD3 (fun j hj q hq => by have := hV2 j hj q hq; omega) (by omega)
 have NN2 : Calls Tryz.prog 45 #[.agg #[.int .i64 c, .int .i64 d, .int .i64 b, .int .i64 (pg : Int)], .pointer (some ⟨w2.heap.size, 0, none⟩), .pointer (some ⟨db, 0, none⟩), .slice mo mn mc] w3 fun e w' => ∃ S : NShape, e = .returned (.tuple #[.pointer (some ⟨S.nb, 0, none⟩), .int .i64 er]) ∧ Roles S ∧ (S.pb = w2.heap.size ∧ S.db = db ∧ S.c = c ∧ S.d = d ∧ S.b = b ∧ S.p = pg ∧ S.all = al ∧ S.pg = pg) ∧ NandAt w' S V zs (blankS ms (-1) false 0 (fun _ => 0) (fun _ => 0)) ∧ w3.grownBy w' none ∧ ∀ k, S.T k ≠ 0 → k = w2.heap.size ∨ k = db ∨ w3.heap.size ≤ k := NN.mono fun e w' h => by
   unfold NewP7 at h
   rw [if_pos HG.out.2.2.2.2] at h
   obtain ⟨S, h1, h2, h3, h4, h5, h6⟩ := h
   rw [HER.out]
   exact ⟨S, h3, h1, h2, h4, h5, h6⟩
 have hb3 := c8 w3 hE3
 have k8 : w3.cell? ⟨sb, 8, none⟩ = some (.slice mo mn mc) := hb3.cell 8
 have H3 := Lib.hid (show w1.grownBy w3 none ∧ w1.heap.size ≤ db ∧ db < w2.heap.size ∧ w1.heap.size ≤ w2.heap.size ∧ w2.heap.size < w3.heap.size ∧ (∀ j, j < 4 → ∀ k, (V j).ownBlock = some k → w1.heap.size ≤ k ∧ k < w2.heap.size) from ⟨hE3, hdb2, hdl, hz2, hpl, hV2⟩)
 obtain ⟨pb, hpb⟩ : ∃ z, w2.heap.size = z := ⟨_, rfl⟩
 rw [hpb] at NN2 H3
 have HPB := Lib.hid hpb
 clear NN c8 hb1 ND2 NP hp3 hg2 hg3 hE3 hz2 hz3 hdl hD3 hpl hdV hD2 hdb2 hV2
 go_upto_region 8 with (first
   | (refine su_geo rfl _ rfl rfl hb3 ?_)
   | (go_at_call 45; refine NN2.mono ?_; rintro e w4 ⟨S, rfl, hR, ⟨hSp, hSd, hSc, hSD, hSb, hSP, hSa, hSpg⟩, hN4, hg4, hT4⟩))
 clear hpb NN2 k8 hb3
 go_upto_region 9 with (refine house_build rfl _ _ _ rfl rfl rfl rfl ?_)
 have hz4 := hg4.size
 have hE5 : w.grownBy (w4.alloc (.cells (hsN pb db S.nb fun _ => .pointer none) 95)) none := ext_trans (ext_trans (ext_trans H0.out.2.2.1 H3.out.1) hg4) (World.grownBy_alloc w4 _ none)
 have h5 : NewS w (w4.alloc (.cells (hsN pb db S.nb fun _ => .pointer none) 95)) S V zs (blankS ms (-1) false 0 (fun _ => 0) (fun _ => 0)) w4.heap.size 0 (fun _ => 0) := by
   refine ⟨hN4.ext (World.grownBy_alloc w4 _ none) hR, ?_, fun j hj => by omega, fun j hj => by omega, hE5⟩
   have hb5 := Blk.new w4 95 (hsN pb db S.nb fun _ => .pointer none)
   rw [hSp, hSd]
   simp only [Nat.not_lt_zero, if_false]
   exact hb5
 have hhb : w.heap.size ≤ w4.heap.size := by have h1 := H0.out.2.2.1.size; have h2 := H3.out.1.size; omega
 have hTh : ∀ k, S.T k ≠ 0 → w.heap.size ≤ k ∧ k < w4.heap.size := fun k hk => by
   have h1 := hT4 k hk
   have h2 := hN4.hi k hk
   have h3 := H0.out.2.2.1.size
   have h4 := H3.out
   have h5 := H3.out.1.size
   omega
 have hVh : ∀ j, j < 4 → ∀ k, (V j).ownBlock = some k → w.heap.size ≤ k ∧ k < w4.heap.size := fun j hj k hk => by
   have h1 := H3.out.2.2.2.2.2 j hj k hk
   have h3 := H0.out.2.2.1.size
   have h4 := H3.out
   have h5 := H3.out.1.size
   omega
 obtain ⟨hb, hhbe⟩ : ∃ z, w4.heap.size = z := ⟨_, rfl⟩
 have h5b := h5
 rw [hhbe] at h5 hhb hTh hVh
 have HS := Lib.hid (show Roles S ∧ (S.c = c ∧ S.d = d ∧ S.b = b ∧ S.p = pg ∧ S.all = al ∧ S.pg = pg) ∧ w.heap.size ≤ hb ∧ (∀ k, S.T k ≠ 0 → w.heap.size ≤ k ∧ k < hb) ∧ (∀ j, j < 4 → ∀ k, (V j).ownBlock = some k → w.heap.size ≤ k ∧ k < hb) ∧ S.T hb = 0 from ⟨hR, ⟨hSc, hSD, hSb, hSP, hSa, hSpg⟩, hhb, hTh, hVh, Classical.byContradiction fun e => by have := (hTh hb e).2; omega⟩)
 obtain ⟨n0, hn0⟩ : ∃ z, blankS ms (-1) false 0 (fun _ => 0) (fun _ => 0) = z := ⟨_, rfl⟩
 rw [hn0] at h5
 have H5 := Lib.hid h5
 have HN0 := Lib.hid hn0
 clear hN4 hR hSp hSd hSc hSD hSb hSP hSa hSpg hg4 hT4 hz4 hE5 h5 h5b hhb hTh hVh hn0 H3
 go_wp2
 clear hhbe
 go_loopw [38] (fun i wr => ∃ (k : Nat) (qp : Nat → Nat), k ≤ 4 ∧ i = .int .i64 k ∧ NewS w wr S V zs n0 hb k qp) (fun i _ => 4 - (intOf i).toNat)
 case atStart => exact ⟨0, _, by omega, rfl, H5.out⟩
 case round =>
   obtain ⟨k, qp, hk, rfl, hS⟩ := hrel
   obtain ⟨wo, rfl⟩ : ∃ wo : World, wo = wr := ⟨_, rfl⟩
   have HS2 := Lib.hid hS
   by_cases hlt : (k : Int) < 4
   · have hk4 : k < 4 := by omega
     have N := new20 wo.drew
     clear hS
     go_wp2
     refine region_line [(0, true), (1, true), (3, true), (4, true), (2, false), (5, true), (6, false)] (fun _ => True) (by kernel_rfl) (by kernel_rfl) (fun _ _ _ d _ h => by cases d <;> exact h) trivial ?_
     repeat (refine line_read (a' := ?_) rfl (by kernel_rfl) (by kernel_rfl) trivial (fun y hy K hK => ?_) ?_; rotate_left; · (go_wp2; exact hK))
     refine line_act (by rfl) (fun K hK => ?_)
     go_wp2_with (go_at_call 46; refine N.mono ?_; rintro e w6 ⟨qb, rfl, hq6, hb6, hg6⟩)
     refine hK _ _ (fun _ => True) trivial (fun _ _ => trivial) ?_
     clear hK K
     repeat (refine line_read (a' := ?_) rfl (by kernel_rfl) (by kernel_rfl) trivial (fun y hy K hK => ?_) ?_; rotate_left; · (go_wp2; exact hK))
     refine line_act (by rfl) (fun K hK => ?_)
     have hE6 : wo.grownBy w6 none := ext_trans (Ext.drew wo) hg6
     have hbk6 := HS2.out.bk.ext hE6
     have c6 := (hbk6.cell (29 + k)).trans (hsN_at S.pb S.db S.nb _ hk4)
     have f6 := hbk6.free (29 + k)
     have H6 := Lib.hid (And.intro hbk6 (And.intro hE6 (And.intro hq6 hb6)))
     clear hbk6 hE6 hq6 hb6 hg6
     go_wp2
     refine hK _ _ (fun _ => True) trivial (fun _ _ => trivial) ?_
     clear hK K c6 f6
     refine line_end ?_
     go_wp2
     go_roundw
     case rel =>
       obtain ⟨hbk6, hE6, hq6, hb6⟩ := H6.out
       have hwz : wo.drew.heap.size = wo.heap.size := rfl
       have hbo := HS2.out.bk.lt
       have hg7 := gb_set (gb_refl w6 (some hb)) (29 + k) (.pointer (some ⟨qb, 0, none⟩))
       have hFx : (fun j => if j < k + 1 then ptB (updH qp k qb j) else .pointer none) = updH (fun j => if j < k then ptB (qp j) else .pointer none) k (ptB qb) := by
         funext j
         by_cases e : j = k
         · subst e; simp [updH]
         · rw [updH_ne _ _ e, updH_ne _ _ e]
           by_cases e2 : j < k
           · simp only [if_pos e2, if_pos (by omega : j < k + 1)]
           · simp only [if_neg e2, if_neg (by omega : ¬ j < k + 1)]
       refine ⟨k + 1, updH qp k qb, by omega, by go_num, ⟨?_, ?_, fun j hj => ?_, fun j hj => ?_, ?_⟩⟩
       · exact (HS2.out.nd.ext hE6 HS.out.1).other18 HS.out.1 hg7 HS.out.2.2.2.2.2 (hsN_nobyte (fun j => by split; exact ⟨_, rfl⟩; exact ⟨_, rfl⟩) hbk6) (fun j hj q hq e => by have := (HS.out.2.2.2.2.1 j hj q hq).2; omega)
       · rw [hFx, ← hsN_set S.pb S.db S.nb _ hk4]
         exact hbk6.set (29 + k) _
       · have hne : ∀ q, q ≠ hb → q < w6.heap.size → True := fun _ _ _ => trivial
         by_cases e : j = k
         · subst e
           rw [updH_same]
           exact hq6.kept (F := fun q => q = hb) (KpF.of_grown hg7 (fun q e => by injection e with e; exact e.symm)) (by omega) (fun q hq => by simp [nilS, Value.ownBlock] at hq) (fun q hq => by simp [nilS, Value.ownBlock] at hq)
         · rw [updH_ne _ _ e]
           have hu := (HS2.out.up j (by omega)).1
           exact ((HS2.out.qs j (by omega)).ext hE6).kept (F := fun q => q = hb) (KpF.of_grown hg7 (fun q e => by injection e with e; exact e.symm)) (by omega) (fun q hq => by simp [nilS, Value.ownBlock] at hq) (fun q hq => by simp [nilS, Value.ownBlock] at hq)
       · by_cases e : j = k
         · subst e
           rw [updH_same]
           refine ⟨by omega, fun i hi => ?_⟩
           rw [updH_ne _ _ (by omega)]
           have := (HS2.out.qs i hi).blk.lt
           omega
         · rw [updH_ne _ _ e]
           refine ⟨(HS2.out.up j (by omega)).1, fun i hi => ?_⟩
           rw [updH_ne _ _ (by omega)]
           exact (HS2.out.up j (by omega)).2 i hi
       · exact g17_new (ext_trans HS2.out.ex hE6) hg7 HS.out.2.2.1
     case measure => simp [intOf]; omega
   · obtain rfl : k = 4 := by omega
     obtain ⟨ρ, hA, hlo⟩ := HS2.out.done H0.out.1 HS.out.2.2.1 HS.out.2.2.2.1 HS.out.2.2.2.2.1
     have HA := Lib.hid (And.intro hA hlo)
     clear hA hlo hS
     go_wp2
     go_returns
     refine ⟨⟨S, V, zs, hb⟩, ρ, qp, rfl, by rw [HN0.out]; exact HA.out.1, HS.out.1, HS.out.2.1, rfl, HS2.out.ex, HS.out.2.2.1, HA.out.2⟩
end
end Go.Proofs.YtfgifgglcafadaaGreatDoor

namespace Go.Proofs.YtfgifgglcafadaaGreatDoor
set_option linter.unusedVariables false
set_option linter.unusedSimpArgs false
set_option linter.unusedVariables false
set_option linter.unusedSimpArgs false
set_option maxRecDepth 100000
open Go.RowKit
theorem blank_tells21 (n p bud : Int) (pg : Nat) : Tells n p pg (blankS [] bud false 0 (fun _ => 0) (fun _ => 0)).L noLed := by
 have h : ∀ b j, pgLed n p ((blankS [] bud false 0 (fun _ => 0) (fun _ => 0)).L b j) = none := fun b j => pgLed_blank (show (0 : Int) ≠ 1 by decide)
 exact ⟨fun b _ j _ m hm => (by rw [h b j] at hm; cases hm), .inl ⟨fun b _ j _ => h b j, EqL.refl _⟩⟩
def n21 : NS := blankS [] (-1) false 0 (fun _ => 0) (fun _ => 0)
def g21 : List Int := [2, 3, 4, 5]
def led21 : Led := createL (bump noLed) 1 5 1 g21
theorem taken21 : takenL noLed = [] := by simp [takenL, takenTo, noLed, noTen]
theorem free21 : (freeM (takenL noLed) n21.mr 14).take 4 = g21 := by
 rw [taken21]
 unfold n21 blankS g21
 decide +kernel
theorem led21_right : RightP led21 16 4 := (rightL_iff (by decide) (by decide)).1 (by kernel_rfl)
theorem led21_t (j : Nat) : led21.t j = if j = 1 then ⟨true, 1, 5, 1, g21⟩ else noTen := by
 unfold led21 createL updT bump
 by_cases e : j = 1
 · subst e; simp [inc, wrap64, noLed]
 · simp [e, noLed]
theorem led21_gen : noLed.gen < led21.gen := by
 have h : led21.gen = 1 := by kernel_rfl
 rw [h]
 decide
theorem led21_good : GoodL led21 := by
 refine ⟨fun j hj => ?_, fun j hj => ?_, fun j hj => ?_⟩
 · rw [led21_t]; split
   · decide
   · decide
 · rw [led21_t]; split
   · intro b hb
     simp [g21] at hb
     rcases hb with rfl | rfl | rfl | rfl <;> decide
   · intro b hb; simp [noTen] at hb
 · rw [led21_t]; split
   · decide
   · decide
theorem n21_cnt : Cnt n21 0 := (blank_calm []).cnt
theorem n21_bs : Beside (· = []) n21 := fun _ _ => ⟨rfl, pgOk_none (.inl rfl)⟩
theorem save21 (S : NShape) (zs : Nat → List Int) (ha : S.all = 16) (hp : S.p = 4) (hg : S.pg = 4) :
   (saveN S zs led21 S.all S.p n21).2 = 0 ∧ (saveN S zs led21 S.all S.p n21).1.off = false ∧ Beside (· = []) (saveN S zs led21 S.all S.p n21).1 := by
 have hR : RightP led21 S.all S.p := by rw [ha, hp]; exact led21_right
 have T := blank_tells21 S.all S.p (-1) S.pg
 obtain ⟨a, b⟩ := save_calm (zs := zs) (blank_calm []) T (by omega) (by omega) ⟨rfl, rfl⟩ hR led21_gen (by omega) (by omega)
 exact ⟨a, b.off, (save_small (zs := zs) (P := (· = [])) n21_bs rfl n21_cnt T (by omega) (by omega) ⟨rfl, rfl⟩ hR led21_gen (by omega) (by omega)).1⟩
theorem cra21 (H : HC) (qp : Nat → Nat) (ha : H.S.all = 16) (hp : H.S.p = 4) (hg : H.S.pg = 4) : CrA H (newX n21 qp) 1 5 1 1 4 led21 (saveN H.S H.zs led21 H.S.all H.S.p n21).1 := by
 obtain ⟨s1, s2, _⟩ := save21 H.S H.zs ha hp hg
 have hf : (freeM (takenL (newX n21 qp).L) (newX n21 qp).n.mr (H.S.all - 2)).take 4 = g21 := by rw [ha]; exact free21
 have hfl : 4 ≤ (freeM (takenL (newX n21 qp).L) (newX n21 qp).n.mr (H.S.all - 2)).length := by
   have h1 : (g21).length = 4 := rfl
   rw [← hf, List.length_take] at h1
   omega
 refine ⟨by omega, by omega, by omega, by kernel_rfl, ?_, by omega, hfl, ?_, ?_, fun i hi => ?_, led21_good, ?_, cnt_mono n21_cnt (by decide), n21_bs.small, s2, fun j _ => ?_, fun j _ b hb => ?_⟩
 · rw [hg]; decide
 · rw [hf]; kernel_rfl
 · rw [hf, led21_t]; rfl
 · exact nextN_blank _
 · exact Prod.ext rfl s1
 · show (noTen.bs).length ≤ _
   simp [noTen]
 · have : b ∈ noTen.bs := hb
   simp [noTen] at this
end Go.Proofs.YtfgifgglcafadaaGreatDoor

namespace Go.Proofs.YtfgifgglcafadaaGreatDoor
set_option linter.unusedVariables false
set_option linter.unusedSimpArgs false
set_option linter.unusedVariables false
set_option linter.unusedSimpArgs false
set_option maxRecDepth 100000
open Go.RowKit
theorem small21 (b p : Int) (w : World) : Calls Tryz.prog 41 #[.int .i64 b, .int .i64 p] w fun e w' => e = .returned (.agg (suC 2 1 b p (fun _ => nilS) nilS)) ∧ w.grownBy w' none := by
 have HE := Lib.hid (World.grownBy_alloc w (.cells #[.int .i64 2, .int .i64 1, .int .i64 b, .int .i64 p, .slice none 0 0, .slice none 0 0, .slice none 0 0, .slice none 0 0, .slice none 0 0] 27) none)
 go_enter Tryz.func41, Tryz.ntmps41
 go_wp2
 refine bodyPost_ret (v := .agg (suC 2 1 b p (fun _ => nilS) nilS)) (by simp [results, Tryz.results41, go_sem, suC, nilS]) rfl ?_
 exact ⟨rfl, HE.out⟩
structure Fx21 (w0 w : World) (H : HC) (n : NS) (p : SP) (c : SC) (k : Nat) : Prop where
 at1 : k ≤ 1 → ∃ ρ x, HAt w H ρ x ∧ (∀ k, ρ k ≠ 0 → w0.heap.size ≤ k) ∧ x.n = n ∧ x.L = led21 ∧ x.sl = k ∧ x.ws 0 = [] ∧ x.ws 1 = [⟨2, 4, ⟨#[120]⟩⟩] ∧ x.ws 2 = [] ∧ x.ws 3 = [] ∧ x.ds 1 = [] ∧ x.st 1 = some (p, c, ⟨n, [], [], 0, -1, false⟩)
 at2 : 2 ≤ k → ∃ ρ x, HAt w H ρ x ∧ (∀ k, ρ k ≠ 0 → w0.heap.size ≤ k) ∧ x.n = n ∧ x.L = led21 ∧ x.sl = k ∧ x.ws 0 = [] ∧ x.ws 1 = [] ∧ x.ws 2 = [] ∧ x.ws 3 = [] ∧ x.ds 1 = [⟨1, 0, ⟨#[]⟩⟩] ∧ x.st 1 = some (p, c, ⟨n, [], [⟨4, 1, ⟨#[120]⟩⟩], 0, -1, false⟩)
 ex : w0.grownBy w none
section
variable {w0 w : World} {H : HC} {n : NS} {p : SP} {c : SC}
theorem Fx21.slot {k : Nat} (h : Fx21 w0 w H n p c k) (hR : Roles H.S) (ho : n.off = false) (hb : ∀ i j, (n.L i j).bs = []) (hk : k < 4) (hc : c.sz = 5) :
   Calls Tryz.prog 21 #[.pointer (some ⟨H.hb, 0, none⟩)] w fun e w' => (∃ b, e = .returned (.bool b)) ∧ Fx21 w0 w' H n p c (k + 1) := by
 rcases (by omega : k = 0 ∨ k = 1 ∨ k = 2 ∨ k = 3) with rfl | rfl | rfl | rfl
 · obtain ⟨ρ, x, hA, e0, e1, e2, e3, e4, e5, e6, e7, e8, e9⟩ := h.at1 (by omega)
   refine (slot_none21 hA hR (by rw [e1]; exact ho) 0 (by omega) (by rw [e3]; decide) (by rw [e3]; rfl) e4).mono ?_
   rintro e w' ⟨rfl, h2, fr⟩
   obtain ⟨g1, g2⟩ := Fr.grown h.ex e0 fr h.ex.size
   refine ⟨⟨_, rfl⟩, ⟨fun _ => ⟨ρ, _, h2, g2, e1, e2, by show x.sl + 1 = _; rw [e3]; rfl, e4, e5, e6, e7, e8, e9⟩, fun h => (by omega), g1⟩⟩
 · obtain ⟨ρ, x, hA, e0, e1, e2, e3, e4, e5, e6, e7, e8, e9⟩ := h.at1 (by omega)
   refine (slot_write21 hA hR (by rw [e1]; exact ho) (by rw [e1]; exact hb) 1 (by omega) (by rw [e3]; decide) (by rw [e3]; rfl) 4 ⟨#[120]⟩ [] e5 e9 (by unfold lacE; rw [hc]; decide) (by decide) rfl (by show 0 < 4; decide) (by rw [e8]; decide) (by kernel_rfl)).mono ?_
   rintro e w' ⟨rfl, ρ', v, vd, h2, fr⟩
   obtain ⟨g1, g2⟩ := Fr.grown h.ex e0 fr h.ex.size
   refine ⟨⟨_, rfl⟩, ⟨fun h => (by omega), fun _ => ⟨ρ', _, h2, g2, e1, e2, by show x.sl + 1 = _; rw [e3]; rfl, ?_, ?_, ?_, ?_, ?_, ?_⟩, g1⟩⟩
   · show updH x.ws 1 [] 0 = []
     rw [updH_ne _ _ (by decide)]; exact e4
   · show updH x.ws 1 [] 1 = []
     rw [updH_same]
   · show updH x.ws 1 [] 2 = []
     rw [updH_ne _ _ (by decide)]; exact e6
   · show updH x.ws 1 [] 3 = []
     rw [updH_ne _ _ (by decide)]; exact e7
   · show updH x.ds 1 (x.ds 1 ++ [⟨x.sl, putE [] ⟨4, 1, ⟨#[120]⟩⟩, ⟨#[]⟩⟩]) 1 = _
     rw [updH_same, e8, e3]
     kernel_rfl
   · show updH x.st 1 (some (p, c, ⟨x.n, [], putR [] ⟨4, 1, ⟨#[120]⟩⟩, 0, -1, false⟩)) 1 = _
     rw [updH_same, e1]
     kernel_rfl
 · obtain ⟨ρ, x, hA, e0, e1, e2, e3, e4, e5, e6, e7, e8, e9⟩ := h.at2 (by omega)
   refine (slot_none21 hA hR (by rw [e1]; exact ho) 2 (by omega) (by rw [e3]; decide) (by rw [e3]; rfl) e6).mono ?_
   rintro e w' ⟨rfl, h2, fr⟩
   obtain ⟨g1, g2⟩ := Fr.grown h.ex e0 fr h.ex.size
   exact ⟨⟨_, rfl⟩, ⟨fun h => (by omega), fun _ => ⟨ρ, _, h2, g2, e1, e2, by show x.sl + 1 = _; rw [e3]; rfl, e4, e5, e6, e7, e8, e9⟩, g1⟩⟩
 · obtain ⟨ρ, x, hA, e0, e1, e2, e3, e4, e5, e6, e7, e8, e9⟩ := h.at2 (by omega)
   refine (slot_none21 hA hR (by rw [e1]; exact ho) 3 (by omega) (by rw [e3]; decide) (by rw [e3]; rfl) e7).mono ?_
   rintro e w' ⟨rfl, h2, fr⟩
   obtain ⟨g1, g2⟩ := Fr.grown h.ex e0 fr h.ex.size
   exact ⟨⟨_, rfl⟩, ⟨fun h => (by omega), fun _ => ⟨ρ, _, h2, g2, e1, e2, by show x.sl + 1 = _; rw [e3]; rfl, e4, e5, e6, e7, e8, e9⟩, g1⟩⟩
end
end Go.Proofs.YtfgifgglcafadaaGreatDoor
