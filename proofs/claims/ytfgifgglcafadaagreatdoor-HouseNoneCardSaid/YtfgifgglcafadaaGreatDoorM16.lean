/-
  Texts put together: AD AE AF.
-/
import Derived.Test.YtfgifgglcafadaaGreatDoorM15
import Derived.Test.YtfgifgglcafadaaGreatDoorM08
namespace Go.Proofs.YtfgifgglcafadaaGreatDoor
set_option linter.unusedVariables false
set_option linter.unusedSimpArgs false
set_option linter.unusedVariables false
set_option linter.unusedSimpArgs false
set_option maxRecDepth 100000
open Go.RowKit
section
variable {ops : Array Oper} {rest : List Oper} {o : Oper} {a : Act} {w : World} {Q : Exit → Act → World → Prop}
theorem hled_load (hwt : Region.wanted o (yielded ops a.tmps) = true) (u : Operand) (ho : o.op = .load 56 u) {H : HC} {x : HX} {g : Nat} (hx : a.eval u = .pointer (some ⟨g, 3, none⟩)) (hg : Blk w g 95 (hsC H x))
   (h : wpList Tryz.prog ops Q rest (a.put o.dst (.agg (ledC x.L x.VL))) w) : wpList Tryz.prog ops Q (o :: rest) a w :=
 wpList_load_part hwt _ u ho g 3 22 hx _ _ _ _ _ hg (hsC_led H x) rfl Tryz.underlying56 rfl Tryz.sizeLed h
theorem hten_load (hwt : Region.wanted o (yielded ops a.tmps) = true) (u : Operand) (ho : o.op = .load 53 u) {H : HC} {x : HX} {g t : Nat} (ht : t < 4) (hx : a.eval u = .pointer (some ⟨g, 5 + t * 5, none⟩)) (hg : Blk w g 95 (hsC H x))
   (h : wpList Tryz.prog ops Q rest (a.put o.dst (.agg (tenC (x.L.t t) (x.VL t)))) w) : wpList Tryz.prog ops Q (o :: rest) a w :=
 wpList_load_part hwt _ u ho g (5 + t * 5) 5 hx _ _ _ _ _ hg (hsC_ten H x ht) rfl Tryz.underlying53 rfl Tryz.sizeTen h
theorem hled_store (u v : Operand) (ho : o.op = .store 56 u v) {H : HC} {x : HX} {g : Nat} (hx : a.eval u = .pointer (some ⟨g, 3, none⟩)) {L : Led} {V : Nat → Value} (hy : a.eval v = .agg (ledC L V)) (hg : Blk w g 95 (hsC H x)) (hV : ∀ j, j < 4 → SliceV (V j)) (hwt : Region.wanted o (yielded ops a.tmps) = true)
   (h : ∀ w', Blk w' g 95 (hsC H { x with L := L, VL := V }) → w.grownBy w' (some g) → w'.heap.size = w.heap.size → wpList Tryz.prog ops Q rest (a.put o.dst undef) w') : wpList Tryz.prog ops Q (o :: rest) a w :=
 wpList_store_part hwt _ u v ho g 3 22 _ hx hy _ _ _ hg rfl Tryz.sizeLed (by rw [hsC_size]; omega) (led_one L hV) (hsC_setL H x L V) h
end
theorem ownsCap21 {w : World} {B : Nat} {e : TypeId} {sz n k : Nat} {ao : Option Addr} {cap : Nat} {xs : List Value} (h : w.ownsRow B e sz (.slice ao n cap) k xs) : n ≤ cap := by
 rcases h.2 with ⟨h1, _⟩ | ⟨g, c, cur, h1, _, _, h2, _⟩
 · simp only [Value.slice.injEq] at h1
   omega
 · simp only [Value.slice.injEq] at h1
   omega
section
variable {w : World} {H : HC} {ρ : Nat → Nat} {x : HX}
theorem Tryz.hmf21 : ∀ (fn : Fn) (first cap : Array Value) (w : World), (Instr.makeFunc fn first cap).run Tryz.prog w = .ok (.func fn first cap) w := fun _ _ _ _ => rfl
set_option maxHeartbeats 3200000 in
theorem hfree21 (h : HAt w H ρ x) (hR : Roles H.S) (hm : ∀ j, j < 4 → (x.L.t j).bs.length ≤ 1048576) (hwf : ∀ j, j < 4 → WfL (x.L.t j).bs) (n : Nat) (h0 : 0 < n) (hn : n ≤ (freeM (takenL x.L) x.n.mr (H.S.all - 2)).length) :
   Calls Tryz.prog 101 #[.pointer (some ⟨H.hb, 0, none⟩), .int .i64 (n : Int)] w fun e w' => ∃ v, e = .returned (.tuple #[v, .bool true]) ∧ Ints w' v ((freeM (takenL x.L) x.n.mr (H.S.all - 2)).take n) ∧ (∀ k, v.ownBlock = some k → w.heap.size ≤ k ∧ k < w'.heap.size) ∧ w.grownBy w' none := by
 have hF := freeM_len (takenL x.L) x.n.mr (H.S.all - 2)
 have hB := hR.bds
 have FR := Lib.hid (fun (wx : World) (hE : w.grownBy wx none) => free21_any (h.nd.ext hE hR) hR x.L x.VL (h.li.ext hE) hm hwf)
 have BK := Lib.hid (fun (wx : World) (hE : w.grownBy wx none) => blocks7_is (h.nd.ext hE hR).fix)
 obtain ⟨F, hFe⟩ : ∃ F, freeM (takenL x.L) x.n.mr (H.S.all - 2) = F := ⟨_, rfl⟩
 rw [hFe] at FR hF hn ⊢
 obtain ⟨fl, hfl⟩ : ∃ z, F.length = z := ⟨_, rfl⟩
 rw [hfl] at hF hn
 have HFL := Lib.hid hfl
 have hfb : fl ≤ 64 ∧ n ≤ fl := by omega
 have hS : SeeB w [H.hb] w.drew := SeeB.of_ext (Ext.drew w) (by simpa using h.bk.lt)
 have hlt := h.bk.lt
 have SE := Lib.hid (fun (y : World) (hE : w.grownBy y none) => (SeeB.of_ext hE (by simpa using hlt) : SeeB w [H.hb] y))
 have HC := Lib.hid (show ∀ y, SeeB w [H.hb] y → Blk y H.hb 95 (hsC H x) ∧ y.cell? ⟨H.hb, 2, none⟩ = some (.pointer (some ⟨H.S.nb, 0, none⟩)) from fun y hy => ⟨(hy _ (by simp)).trans h.bk, hy.cell (by simp) h.c2⟩)
 have hmf := Tryz.hmf21
 clear h hR hm hwf hF hB hFe hfl hn hlt
 go_enter Tryz.func101, Tryz.ntmps101
 go_upto_region 1 with fail
 go_cut [6] (fun s6 wx => ∃ ao cap, s6 = .slice ao fl cap ∧ Ints wx (.slice ao fl cap) F ∧ fl ≤ cap ∧ (∀ k, (Value.slice ao fl cap).ownBlock = some k → w.heap.size ≤ k ∧ k < wx.heap.size) ∧ w.grownBy wx none)
 case first =>
   refine region_tree (.read 0 (.read 1 (.read 2 (.read 3 (.read 4 (.read 5 (.read 6 (.read 7 (.read 9 (.read 10 (.read 11 (.read 12 (.two 8 13 (.one 13 (.one 14 (.read 15 .done))) (.one 8 (.one 14 (.read 15 .done)))))))))))))))) (SeeB w [H.hb]) (by kernel_rfl) (by kernel_rfl) (fun _ _ _ d _ h => by cases d <;> exact h) hS ?_
   repeat (refine tree_read (a' := ?_) rfl (by kernel_rfl) (by kernel_rfl) hS (fun y hy K hK => ?_) ?_; rotate_left; · obtain ⟨b0, c2⟩ := HC.out y hy; go_wp2_with (refine hled_load rfl _ rfl rfl b0 ?_); exact hK)
   refine tree_two ?_ ?_
   · refine tree_one (by rfl) (fun K hK => ?_)
     go_wp2_with (go_at_call 24; refine (BK.out _ (Ext.drew w)).mono ?_; rintro e w2 ⟨rfl, rfl⟩)
     refine hK _ _ (SeeB w [H.hb]) hS (fun _ h => h) ?_
     clear hK K
     refine tree_one (by rfl) (fun K hK => ?_)
     go_wp2
     refine hK _ _ (SeeB w [H.hb]) hS (fun _ h => h) ?_
     clear hK K
     refine tree_one (by rfl) (fun K hK => ?_)
     go_wp2_with (go_at_call 139; refine (FR.out _ (Ext.drew w)).mono ?_; rintro e w2 ⟨v2, rfl, ho2, hE2⟩)
     have hE2 : w.grownBy w2 none := ext_trans (Ext.drew w) hE2
     have hS2 := SE.out _ hE2
     refine hK _ _ (SeeB w [H.hb]) hS2 (fun _ h => h) ?_
     clear hK K
     repeat (refine tree_read (a' := ?_) rfl (by kernel_rfl) (by kernel_rfl) hS2 (fun y hy K hK => ?_) ?_; rotate_left; · go_wp2; exact hK)
     refine tree_end ?_
     obtain ⟨ao, cap, rfl⟩ := owns_shape13 ho2
     rw [HFL.out] at ho2 ⊢
     go_wp2
     go_meet
     exact ⟨ao, cap, rfl, owns_ints rfl ho2, ownsCap21 ho2, fun k hk => ho2.lt k hk, hE2⟩
   · refine tree_one (by rfl) (fun K hK => ?_)
     go_wp2
     refine hK _ _ (SeeB w [H.hb]) hS (fun _ h => h) ?_
     clear hK K
     refine tree_one (by rfl) (fun K hK => ?_)
     go_wp2_with (go_at_call 24; refine (BK.out _ (Ext.drew w)).mono ?_; rintro e w2 ⟨rfl, rfl⟩)
     refine hK _ _ (SeeB w [H.hb]) hS (fun _ h => h) ?_
     clear hK K
     refine tree_one (by rfl) (fun K hK => ?_)
     go_wp2_with (go_at_call 139; refine (FR.out _ (Ext.drew w)).mono ?_; rintro e w2 ⟨v2, rfl, ho2, hE2⟩)
     have hE2 : w.grownBy w2 none := ext_trans (Ext.drew w) hE2
     have hS2 := SE.out _ hE2
     refine hK _ _ (SeeB w [H.hb]) hS2 (fun _ h => h) ?_
     clear hK K
     repeat (refine tree_read (a' := ?_) rfl (by kernel_rfl) (by kernel_rfl) hS2 (fun y hy K hK => ?_) ?_; rotate_left; · go_wp2; exact hK)
     refine tree_end ?_
     obtain ⟨ao, cap, rfl⟩ := owns_shape13 ho2
     rw [HFL.out] at ho2 ⊢
     go_wp2
     go_meet
     exact ⟨ao, cap, rfl, owns_ints rfl ho2, ownsCap21 ho2, fun k hk => ho2.lt k hk, hE2⟩
 case rest =>
   obtain ⟨ao, cap, rfl, hI, hcap, hown, hE⟩ := hcut
   have HI := Lib.hid (And.intro (ints_take hI hfb.2) (And.intro hown hE))
   have h1 : ¬ (fl : Int) < (n : Int) := by omega
   have h2 : 0 ≤ (n : Int) := by omega
   have h3 : (n : Int) ≤ (cap : Int) := by omega
   clear hI hown hE
   go_wp2
   go_returns
   exact ⟨_, rfl, HI.out.1, fun k hk => HI.out.2.1 k (by cases ao with
     | none => simp [Value.ownBlock] at hk
     | some a => exact hk), HI.out.2.2⟩
set_option maxHeartbeats 800000 in
theorem erase21 (h : HAt w H ρ x) (hR : Roles H.S) (ao : Option Addr) (cap : Nat) (bl : List Int) (hI : Ints w (.slice ao bl.length cap) bl) (hl : bl.length ≤ 64) (hb : ∀ i, i < bl.length → 0 ≤ bl.getD i 0 ∧ bl.getD i 0 < H.S.all ∧ nextN (x.n.L (bl.getD i 0).toNat) H.S.pg = 0) :
   Calls Tryz.prog 104 #[.pointer (some ⟨H.hb, 0, none⟩), .slice ao bl.length cap] w fun e w' => e = .returned (.int .i64 0) ∧ w = w' := by
 obtain ⟨n, hn⟩ : ∃ n, bl.length = n := ⟨_, rfl⟩
 obtain ⟨_, _, bb, off, e1, hc⟩ := hI.form
 rw [hn] at e1 hc hb hl ⊢
 simp only [Value.slice.injEq] at e1
 obtain ⟨rfl, -, rfl⟩ := e1
 have c2 := h.c2
 have HB := Lib.hid (fun (i : Nat) (hi : i < n) => (show Calls Tryz.prog 35 #[.pointer (some ⟨H.S.nb, 0, none⟩), .int .i64 (bl.getD i 0)] w fun e w' => e = .returned (.bool true) ∧ w = w' from by
   obtain ⟨h1, h2, h3⟩ := hb i hi
   have := blank7_is h.nd hR (i := (bl.getD i 0).toNat) (by omega)
   rw [show (((bl.getD i 0).toNat : Nat) : Int) = bl.getD i 0 by omega, h3] at this
   exact this))
 have HC := Lib.hid hc
 clear h hR hI hb hc hn
 go_enter Tryz.func104, Tryz.ntmps104
 go_wp2
 go_loopw [10] (fun i wr => ∃ j : Nat, j ≤ n ∧ i = .int .i64 j ∧ w = wr) (fun i _ => n - (intOf i).toNat)
 case atStart => exact ⟨0, by omega, rfl, rfl⟩
 case round =>
   obtain ⟨j, hj, rfl, rfl⟩ := hrel
   by_cases hlt : j < n
   · obtain ⟨rfl, hcj⟩ := HC.out j hlt
     have B := HB.out j hlt
     obtain ⟨y, hy⟩ : ∃ y, bl.getD j 0 = y := ⟨_, rfl⟩
     rw [hy] at hcj B
     clear hy
     go_wp2_with (go_at_call 35; refine B.mono ?_; rintro e w1 ⟨rfl, rfl⟩)
     go_roundw
     case rel => exact ⟨j + 1, by omega, by go_num, trivial⟩
     case measure => simp [intOf]; omega
   · obtain rfl : j = n := by omega
     go_wp2
     go_ret
     exact ⟨rfl, rfl⟩
end
end Go.Proofs.YtfgifgglcafadaaGreatDoor

namespace Go.Proofs.YtfgifgglcafadaaGreatDoor
set_option linter.unusedVariables false
set_option linter.unusedSimpArgs false
set_option linter.unusedVariables false
set_option linter.unusedSimpArgs false
set_option maxRecDepth 100000
open Go.RowKit
theorem StAt.other21 {w w' : World} {p : SP} {c : SC} {m : SM} {g : Nat} (h : StAt w p c m) (ok : StOk p c) (hg : w.grownBy w' (some g)) (ht : c.S.T g = 0) (h0 : g ≠ 0) (h1 : g ≠ p.sb) (h2 : g ≠ p.tb) (h3 : g ≠ p.bb) (hv : ∀ k, p.bv.ownBlock = some k → k ≠ g) (hV : ∀ j, j < 4 → ∀ k, (p.V j).ownBlock = some k → k ≠ g)
   (hb : ∀ o n, w.cell? ⟨g, o, none⟩ ≠ some (.int .u8 n)) : StAt w' p c m :=
 ⟨h.nd.other18 ok.R hg ht hb hV, h.tb.kept hg (fun e => by injection e with e; exact h2 e.symm), bufStays _ _ _ _ h.bf (hg.block _ (bufLt _ _ _ h.bf) (fun e => by injection e with e; exact h3 e.symm)), h.bk.kept hg (fun e => by injection e with e; exact h1 e.symm),
   h.iv.kept hg (fun k hk e => by injection e with e; exact hv k hk e), h.fl.kept hg (fun e => by injection e with e; exact h0 e.symm)⟩
theorem led_slices {w : World} {L : Led} {V : Nat → Value} (h : LedIs w L V) {j : Nat} (hj : j < 4) : ∃ ao n cap, V j = .slice ao n cap := h.slices j hj
theorem hsC_nobyte {w : World} {H : HC} {x : HX} (hl : ∀ j, j < 4 → SliceV (x.VL j)) (h : Blk w H.hb 95 (hsC H x)) (o : Nat) (n : Int) : w.cell? ⟨H.hb, o, none⟩ ≠ some (.int .u8 n) := by
 intro hc
 rw [h.cell o] at hc
 obtain ⟨a0, n0, c0, e0⟩ := hl 0 (by omega)
 obtain ⟨a1, n1, c1, e1⟩ := hl 1 (by omega)
 obtain ⟨a2, n2, c2, e2⟩ := hl 2 (by omega)
 obtain ⟨a3, n3, c3, e3⟩ := hl 3 (by omega)
 have hm := Array.mem_of_getElem? hc
 simp [hsC, e0, e1, e2, e3, ptB, ptS] at hm
section
variable {w w' : World} {H : HC} {ρ : Nat → Nat} {x : HX}
theorem HAt.nandOwn (h : HAt w H ρ x) (hR : Roles H.S) (hg : w.grownBy w' (some H.hb)) : NandAt w' H.S H.V H.zs x.n :=
 h.nd.other18 hR hg (h.T0 (by rw [h.rh]; omega)) (hsC_nobyte h.li.slices h.bk) (fun j hj k hk e => by have := (h.rv j hj k hk).1; rw [e, h.rh] at this; cases this)
theorem HAt.newSt (h : HAt w H ρ x) (hR : Roles H.S) {t : Nat} (ht : t < 4) {p : SP} {c : SC} {m : SM} {B : Nat} (hst : StAt w p c { m with n := x.n }) (ok : StOk p c) (cS : c.S = H.S) (cz : c.zs = H.zs) (pV : p.V = H.V)
   (hB : B ≤ p.sb ∧ B ≤ p.tb ∧ B ≤ p.bb) (hz : ∀ k, B ≤ k → ρ k = 0) (hbv : ∀ k, p.bv.ownBlock = some k → B ≤ k ∧ k < w.heap.size) (hL : ∀ j, j < 4 → ∀ k, (x.VL j).ownBlock = some k → k < B) (hV : ∀ j, j < 4 → ∀ k, (H.V j).ownBlock = some k → k < B)
   (hO : ∀ s, s < 4 → ∀ p2 c2 m2, x.st s = some (p2, c2, m2) → ∀ k, p2.bv.ownBlock = some k → k < B) (h0 : 0 < B)
   (hb : Blk w' H.hb 95 (hsC H { x with st := updH x.st t (some (p, c, m)) })) (hg : w.grownBy w' (some H.hb)) :
   HAt w' H (fun k => if k = p.sb ∨ k = p.tb ∨ k = p.bb then 7 + t else ρ k) { x with st := updH x.st t (some (p, c, m)) } := by
 have hn := h.nandOwn hR hg
 have hF : KpF (fun k => ρ k = 2) w w' := KpF.of_grown hg (fun k e => by injection e with e; rw [← e]; exact h.rh)
 have hzz := hg.size
 have low : ∀ k, ρ k ≠ 0 ∨ k < B → (if k = p.sb ∨ k = p.tb ∨ k = p.bb then 7 + t else ρ k) = ρ k := fun k hk => if_neg (fun e => by
   have hkB : B ≤ k := by rcases e with e | e | e <;> omega
   rcases hk with hk | hk
   · exact hk (hz k hkB)
   · omega)
 have hbv2 : ∀ k, p.bv.ownBlock = some k → k ≠ p.sb ∧ k ≠ p.tb ∧ k ≠ p.bb := fun k hk => (ok.vb k hk).2
 refine ⟨hn, hb, h.fl.kpf hF (by show ¬ ρ _ = 2; rw [h.r0]; omega), fun j hj => hF.ints (h.li j hj) (fun k hk => by show ¬ ρ _ = 2; rw [(h.rl j hj k hk).1]; omega), fun s hs => ?_, fun s hs p2 c2 m2 e => ?_,
   (low _ (.inl (by rw [h.rh]; omega))).trans h.rh, fun k => ?_, fun s hs k hk => ?_, fun s hs p2 c2 m2 e => ?_, fun j hj k hk => ?_, fun j hj k hk => ?_, ?_, fun k hk => ?_⟩
 · have h1 : ∀ k, fpQ (x.qp s) (x.vw s) (x.vd s) k → ¬ ρ k = 2 := fun k h2 => by rw [h.rq s hs k h2]; omega
   exact (h.qs s hs).kept hF (h1 _ (.inl rfl)) (fun k hk => h1 _ (.inr (.inl hk))) (fun k hk => h1 _ (.inr (.inr hk)))
 · have beside : ∀ (p2 : SP) (c2 : SC) (m2 : SM), StAt w p2 c2 { m2 with n := x.n } → c2.S = H.S → c2.zs = H.zs → p2.V = H.V → ρ p2.sb ≠ 2 → ρ p2.tb ≠ 2 → ρ p2.bb ≠ 2 → (∀ k, p2.bv.ownBlock = some k → ρ k ≠ 2) → StAt w' p2 c2 { m2 with n := x.n } := fun p2 c2 m2 a d e2 e3 r1 r2 r3 r4 =>
     a.beside (n' := x.n) (by rw [d, e2, e3]; exact hn) hF (by show ¬ ρ _ = 2; rw [h.r0]; omega) r1 r2 r3 r4
   by_cases es : s = t
   · subst es
     simp only [updH_same, Option.some.injEq, Prod.mk.injEq] at e
     obtain ⟨rfl, rfl, rfl⟩ := e
     exact ⟨beside _ _ _ hst cS cz pV (by rw [hz _ hB.1]; omega) (by rw [hz _ hB.2.1]; omega) (by rw [hz _ hB.2.2]; omega) (fun k hk => by rw [hz _ (hbv k hk).1]; omega), ok, cS, cz, pV⟩
   · simp only [updH_ne _ _ es] at e
     obtain ⟨a, b, d, e2, e3⟩ := h.ss s hs p2 c2 m2 e
     obtain ⟨⟨r1, r2, r3⟩, r4⟩ := h.rs s hs p2 c2 m2 e
     exact ⟨beside _ _ _ a d e2 e3 (by rw [r1]; omega) (by rw [r2]; omega) (by rw [r3]; omega) (fun k hk => by rw [(r4 k hk).1]; omega), b, d, e2, e3⟩
 · by_cases e : k = p.sb ∨ k = p.tb ∨ k = p.bb
   · rw [if_pos e]
     have hT : H.S.T k = 0 := by
       rw [← cS]
       rcases e with rfl | rfl | rfl
       · exact ok.ts
       · exact ok.tt
       · exact ok.tu
     exact ⟨fun h1 => absurd hT h1, fun h1 => by omega⟩
   · rw [if_neg e]
     exact h.rn k
 · rw [low k (.inl (by rw [h.rq s hs k hk]; omega))]
   exact h.rq s hs k hk
 · by_cases es : s = t
   · subst es
     simp only [updH_same, Option.some.injEq, Prod.mk.injEq] at e
     obtain ⟨rfl, rfl, rfl⟩ := e
     refine ⟨⟨if_pos (.inl rfl), if_pos (.inr (.inl rfl)), if_pos (.inr (.inr rfl))⟩, fun k hk => ?_⟩
     have h1 := hbv2 k hk
     rw [if_neg (by rintro (h2 | h2 | h2); exact h1.1 h2; exact h1.2.1 h2; exact h1.2.2 h2)]
     exact ⟨hz k (hbv k hk).1, Nat.lt_of_lt_of_le (hbv k hk).2 hzz⟩
   · simp only [updH_ne _ _ es] at e
     obtain ⟨⟨r1, r2, r3⟩, r4⟩ := h.rs s hs p2 c2 m2 e
     refine ⟨⟨?_, ?_, ?_⟩, fun k hk => ?_⟩
     · rw [low _ (.inl (by rw [r1]; omega))]; exact r1
     · rw [low _ (.inl (by rw [r2]; omega))]; exact r2
     · rw [low _ (.inl (by rw [r3]; omega))]; exact r3
     · rw [low k (.inr (hO s hs p2 c2 m2 e k hk))]
       exact ⟨(r4 k hk).1, Nat.lt_of_lt_of_le (r4 k hk).2 hzz⟩
 · rw [low k (.inr (hL j hj k hk))]
   exact ⟨(h.rl j hj k hk).1, Nat.lt_of_lt_of_le (h.rl j hj k hk).2 hzz⟩
 · rw [low k (.inr (hV j hj k hk))]
   exact ⟨(h.rv j hj k hk).1, Nat.lt_of_lt_of_le (h.rv j hj k hk).2 hzz⟩
 · rw [low 0 (.inr h0)]
   exact h.r0
 · by_cases e : k = p.sb ∨ k = p.tb ∨ k = p.bb
   · have h1 := hst.bk.lt
     have h2 := hst.tb.lt
     have h3 := bufLt _ _ _ hst.bf
     rcases e with rfl | rfl | rfl <;> omega
   · rw [if_neg e] at hk
     exact Nat.lt_of_lt_of_le (h.rt k hk) hzz
theorem HAt.newQ (h : HAt w H ρ x) (hR : Roles H.S) {t : Nat} (ht : t < 4) {b : Nat} {w1 : World} (hE : w.grownBy w1 none) (hq : QS w1 b (.slice none 0 0) (.slice none 0 0) [] []) (hb0 : w.heap.size ≤ b)
   (hb : Blk w' H.hb 95 (hsC H { x with qp := updH x.qp t b })) (hg : w1.grownBy w' (some H.hb)) :
   HAt w' H (fun k => if k = b then 3 + t else ρ k) { x with qp := updH x.qp t b, vw := updH x.vw t (.slice none 0 0), vd := updH x.vd t (.slice none 0 0), ws := updH x.ws t [], ds := updH x.ds t [] } := by
 have h1 := h.ext hR hE
 have hn := h1.nandOwn hR hg
 have hF : KpF (fun k => ρ k = 2) w1 w' := KpF.of_grown hg (fun k e => by injection e with e; rw [← e]; exact h.rh)
 have hzz : w.heap.size ≤ w'.heap.size := Nat.le_trans hE.size hg.size
 have hbz : ρ b = 0 := Classical.byContradiction fun e => by have := h.rt b e; omega
 have low : ∀ k, k < w.heap.size → (if k = b then 3 + t else ρ k) = ρ k := fun k hk => if_neg (by omega)
 refine ⟨hn, hb, h1.fl.kpf hF (by show ¬ ρ _ = 2; rw [h.r0]; omega), fun j hj => hF.ints (h1.li j hj) (fun k hk => by show ¬ ρ _ = 2; rw [(h.rl j hj k hk).1]; omega), fun s hs => ?_, fun s hs p2 c2 m2 e => ?_,
   (low _ h.bk.lt).trans h.rh, fun k => ?_, fun s hs k hk => ?_, fun s hs p2 c2 m2 e => ?_, fun j hj k hk => ?_, fun j hj k hk => ?_, ?_, fun k hk => ?_⟩
 · by_cases es : s = t
   · subst es
     simp only [updH_same]
     exact hq.kept hF (by show ¬ ρ _ = 2; rw [hbz]; omega) (fun k hk => by simp [Value.ownBlock] at hk) (fun k hk => by simp [Value.ownBlock] at hk)
   · simp only [updH_ne _ _ es]
     have h2 : ∀ k, fpQ (x.qp s) (x.vw s) (x.vd s) k → ¬ ρ k = 2 := fun k h2 => by rw [h.rq s hs k h2]; omega
     exact (h1.qs s hs).kept hF (h2 _ (.inl rfl)) (fun k hk => h2 _ (.inr (.inl hk))) (fun k hk => h2 _ (.inr (.inr hk)))
 · obtain ⟨a, b2, d, e2, e3⟩ := h1.ss s hs p2 c2 m2 e
   obtain ⟨⟨r1, r2, r3⟩, r4⟩ := h.rs s hs p2 c2 m2 e
   exact ⟨a.beside (n' := x.n) (by rw [d, e2, e3]; exact hn) hF (by show ¬ ρ _ = 2; rw [h.r0]; omega) (by show ¬ ρ _ = 2; rw [r1]; omega) (by show ¬ ρ _ = 2; rw [r2]; omega) (by show ¬ ρ _ = 2; rw [r3]; omega) (fun k hk => by show ¬ ρ _ = 2; rw [(r4 k hk).1]; omega), b2, d, e2, e3⟩
 · by_cases e : k = b
   · rw [if_pos e]
     have hT : H.S.T k = 0 := h.nd.fresh (by omega)
     exact ⟨fun h1 => absurd hT h1, fun h1 => by omega⟩
   · rw [if_neg e]
     exact h.rn k
 · by_cases es : s = t
   · subst es
     simp only [updH_same] at hk
     rcases hk with hk | hk | hk
     · exact if_pos hk
     · simp [Value.ownBlock] at hk
     · simp [Value.ownBlock] at hk
   · simp only [updH_ne _ _ es] at hk
     have h2 := h.rq s hs k hk
     rw [low k (h.rt k (by omega))]
     exact h2
 · obtain ⟨⟨r1, r2, r3⟩, r4⟩ := h.rs s hs p2 c2 m2 e
   refine ⟨⟨?_, ?_, ?_⟩, fun k hk => ?_⟩
   · rw [low _ (h.rt _ (by omega))]; exact r1
   · rw [low _ (h.rt _ (by omega))]; exact r2
   · rw [low _ (h.rt _ (by omega))]; exact r3
   · rw [low k (r4 k hk).2]
     exact ⟨(r4 k hk).1, Nat.lt_of_lt_of_le (r4 k hk).2 hzz⟩
 · rw [low k (h.rl j hj k hk).2]
   exact ⟨(h.rl j hj k hk).1, Nat.lt_of_lt_of_le (h.rl j hj k hk).2 hzz⟩
 · rw [low k (h.rv j hj k hk).2]
   exact ⟨(h.rv j hj k hk).1, Nat.lt_of_lt_of_le (h.rv j hj k hk).2 hzz⟩
 · rw [low 0 (by have := h.bk.lt; omega)]
   exact h.r0
 · by_cases e : k = b
   · have := hq.blk.lt
     have := hg.size
     omega
   · rw [if_neg e] at hk
     exact Nat.lt_of_lt_of_le (h.rt k hk) hzz
end
theorem World.drew_lt21 {w : World} {k : Nat} (h : k < w.heap.size) : k < w.drew.heap.size := h
theorem LedIs.kept21 {w w1 w2 : World} {L : Led} {V : Nat → Value} {F : Nat → Prop} (h : LedIs w L V) (hE : w.grownBy w1 none) (hk : KpF F w1 w2) (hF : ∀ j, j < 4 → ∀ k, (V j).ownBlock = some k → ¬ F k) : LedIs w2 L V := fun j hj => hk.ints ((h j hj).kept hE (by simp)) (hF j hj)
def fpA (ρ : Nat → Nat) : Nat → Prop := fun k => ρ k = 1 ∨ ρ k = 2
section
variable {w : World} {H : HC} {ρ : Nat → Nat} {x : HX}
set_option maxHeartbeats 3200000 in
theorem keep21 (h : HAt w H ρ x) (hR : Roles H.S) {cb : Int} (hc : Cnt x.n cb) (hcb : cb < 70000) (hzl : ∀ j, j < 4 → (H.zs j).length ≤ 64) (hsm : Small x.n) (L2 : Led) (V2 : Nat → Value) (hL : LedIs w L2 V2) (hG : GoodL L2) (hlo : ∀ j, j < 4 → ∀ k, (V2 j).ownBlock = some k → ρ k = 0 ∧ k < w.heap.size)
   (he : (saveN H.S H.zs L2 H.S.all H.S.p x.n).2 = 0) (g : Nat) (eg : ∀ args w, (callFunc g args).run Tryz.prog w = .ok (.enter g args) w) (caps : Array Value) (R : World → Prop)
   (hg : ∀ wx, HAt wx H ρ { x with n := (saveN H.S H.zs L2 H.S.all H.S.p x.n).1, L := L2, VL := V2 } → KpF (fpA ρ) w wx → Calls Tryz.prog g caps wx fun e w' => e = .returned (.tuple #[]) ∧ R w') :
   Calls Tryz.prog 105 #[.pointer (some ⟨H.hb, 0, none⟩), .agg (ledC L2 V2), .func (.func g) #[] caps] w fun e w' => e = .returned (.int .i64 0) ∧ R w' := by
 have hE := World.grownBy_alloc w (.cells (ledC L2 V2) 56) none
 have hB := Blk.new w 56 (ledC L2 V2)
 obtain ⟨lb, hlb⟩ : ∃ z, w.heap.size = z := ⟨_, rfl⟩
 obtain ⟨w1, hw1⟩ : ∃ z, w.alloc (.cells (ledC L2 V2) 56) = z := ⟨_, rfl⟩
 rw [hw1] at hE hB
 rw [hlb] at hB
 have h1 := h.ext hR hE
 have c2 := h1.c2
 have SV := Lib.hid (fun (wx : World) (hE : w.grownBy wx none) => adSave_any H.S H.V H.zs x.n L2 V2 cb wx (h.nd.ext hE hR) hR hc hcb hzl hsm (hL.ext hE) hG)
 rw [he] at SV
 have hzb : ρ lb = 0 := Classical.byContradiction fun e => by have := h.rt lb e; omega
 have HL := Lib.hid hL
 have H1 := Lib.hid (And.intro h1 (And.intro hE (And.intro hzb hlo)))
 have HG := Lib.hid hg
 have hV := hL.slices
 have HR := Lib.hid hR
 obtain ⟨n2, hn2⟩ : ∃ z, (saveN H.S H.zs L2 H.S.all H.S.p x.n).1 = z := ⟨_, rfl⟩
 rw [hn2] at SV HG
 have hS : SeeB w1 [H.hb, lb] w1.drew := SeeB.of_ext (Ext.drew w1) (by have := h1.bk.lt; have := hB.lt; simp; omega)
 have HC := Lib.hid (show ∀ y, SeeB w1 [H.hb, lb] y → Blk y lb 56 (ledC L2 V2) ∧ y.cell? ⟨H.hb, 2, none⟩ = some (.pointer (some ⟨H.S.nb, 0, none⟩)) from fun y hy => ⟨(hy _ (by simp)).trans hB, hy.cell (by simp) c2⟩)
 have HBL := Lib.hid hB
 clear h hR hc hcb hzl hsm hL hG hlo he hg h1 c2 hn2 hzb hE
 go_enter Tryz.func105, Tryz.ntmps105
 go_upto_region 1 with fail
 clear hw1 hlb
 refine region_line [(0, true), (1, true), (2, true), (3, true), (4, true), (5, false), (6, true)] (SeeB w1 [H.hb, lb]) (by kernel_rfl) (by kernel_rfl) (fun _ _ _ d _ h => by cases d <;> exact h) hS ?_
 repeat (refine line_read (a' := ?_) rfl (by kernel_rfl) (by kernel_rfl) hS (fun y hy K hK => ?_) ?_; rotate_left; · (obtain ⟨b0, c2⟩ := HC.out y hy; go_wp2_with (refine led_load _ rfl rfl b0 rfl ?_); exact hK))
 refine line_act (by rfl) (fun K hK => ?_)
 go_wp2_with (go_at_call 145; refine (SV.out _ (ext_trans H1.out.2.1 (Ext.drew w1))).mono ?_; rintro e w2 ⟨rfl, hn2, hk2⟩)
 have hS2 : SeeB w1 [H.hb, lb] w2 := fun k hk => by
   simp only [List.mem_cons, List.not_mem_nil, or_false] at hk
   rcases hk with rfl | rfl
   · exact hk2.block _ (World.drew_lt21 H1.out.1.bk.lt) (H1.out.1.T0 (by rw [H1.out.1.rh]; omega))
   · exact hk2.block _ (World.drew_lt21 HBL.out.lt) (H1.out.1.T0 (by rw [H1.out.2.2.1]; omega))
 refine hK _ _ (SeeB w1 [H.hb, lb]) hS2 (fun _ h => h) ?_
 clear hK K
 repeat (refine line_read (a' := ?_) rfl (by kernel_rfl) (by kernel_rfl) hS2 (fun y hy K hK => ?_) ?_; rotate_left; · go_wp2; exact hK)
 refine line_end ?_
 have hk2' : Keeps H.S.T w1 w2 := ⟨hk2.os, hk2.tape, hk2.output, hk2.size, hk2.block⟩
 have h2 := H1.out.1.array hn2 hk2'
 have b2 : Blk w2 lb 56 (ledC L2 V2) := (hS2 lb (by simp)).trans HBL.out
 have hb2 := h2.bk
 have H2 := Lib.hid (And.intro h2 hk2')
 clear hn2 hk2 hS hS2 hk2' h2 SV hB
 go_wp2_with (first
   | (refine led_load _ rfl rfl b2 rfl ?_)
   | (refine hled_store _ _ rfl rfl rfl hb2 hV rfl ?_; intro w3 hb3 hg3 hs3; have h3 := H2.out.1.newL HR.out L2 V2 hb3 hg3 (H2.out.1.nandOwn HR.out hg3) (HL.out.kept21 H1.out.2.1 (H2.out.2.kpf (F := fun k => ρ k = 1) (fun k e => (H1.out.1.rn k).1 e)) (fun j hj k hk => by rw [(H1.out.2.2.2 j hj k hk).1]; omega)) (fun j hj k hk => ⟨(H1.out.2.2.2 j hj k hk).1, by have a1 := (H1.out.2.2.2 j hj k hk).2; have a2 := H1.out.2.1.size; have a3 := H2.out.2.size; omega⟩); have G3 := HG.out w3 h3 (((KpF.of_grown (F := fpA ρ) H1.out.2.1 (fun k e => by cases e)).trans (H2.out.2.kpf (F := fpA ρ) (fun k e => .inl ((H1.out.1.rn k).1 e)))).trans (KpF.of_grown (F := fpA ρ) hg3 (fun k e => by injection e with e; rw [← e]; exact .inr H1.out.1.rh))); clear hb3 hg3 hs3 h3 hb2)
   | (go_at_fn g; refine G3.mono ?_; rintro e w4 ⟨rfl, hR4⟩))
 go_ret
 exact ⟨rfl, hR4⟩
end
end Go.Proofs.YtfgifgglcafadaaGreatDoor

namespace Go.Proofs.YtfgifgglcafadaaGreatDoor
set_option linter.unusedVariables false
set_option linter.unusedSimpArgs false
set_option linter.unusedVariables false
set_option linter.unusedSimpArgs false
set_option maxRecDepth 100000
open Go.RowKit
theorem freeM_in {T : List Int} {mr : Nat → Bool} {k : Nat} {b : Int} (h : b ∈ freeM T mr k) : 2 ≤ b ∧ b < 2 + k := by
 unfold freeM at h
 have h1 := (List.mem_filter.1 h).1
 rw [List.mem_map] at h1
 obtain ⟨i, hi, rfl⟩ := h1
 rw [List.mem_range] at hi
 omega
theorem getD_mem21 {xs : List Int} {i : Nat} (hi : i < xs.length) : xs.getD i 0 ∈ xs := by
 rw [List.getD_eq_getElem?_getD, List.getElem?_eq_getElem hi]
 exact List.getElem_mem hi
theorem ints_lt21 {w : World} {v : Value} {xs : List Int} (h : Ints w v xs) (h1 : 1 ≤ xs.length) : ∀ k, v.ownBlock = some k → k < w.heap.size := by
 intro k hk
 rcases h with ⟨_, h2⟩ | ⟨b, off, cap, rfl, _, h3⟩ | ⟨_, _, _, h2⟩
 · rw [h2] at h1; simp at h1
 · have hb : b < w.heap.size := World.block_lt_of_cell? w _ (h3 0 (by omega))
   have hk2 : some b = some k := hk
   injection hk2 with hk2
   omega
 · rw [h2] at h1; simp at h1
section
variable {w : World} {H : HC} {ρ : Nat → Nat} {x : HX}
def addT (x : HX) (t : Nat) (p : SP) (c : SC) (m : SM) (b : Nat) : HX := { x with st := updH x.st t (some (p, c, m)), qp := updH x.qp t b, vw := updH x.vw t (.slice none 0 0), vd := updH x.vd t (.slice none 0 0), ws := updH x.ws t [], ds := updH x.ds t [] }
set_option maxHeartbeats 3200000 in
theorem create1_21 (h : HAt w H ρ x) (hR : Roles H.S) {t : Nat} (ht : t < 4) {p : SP} {c : SC} {m : SM} {B : Nat} (hst : StAt w p c { m with n := x.n }) (ok : StOk p c) (cS : c.S = H.S) (cz : c.zs = H.zs) (pV : p.V = H.V)
   (hB : B ≤ p.sb ∧ B ≤ p.tb ∧ B ≤ p.bb) (hz : ∀ k, B ≤ k → ρ k = 0) (hbv : ∀ k, p.bv.ownBlock = some k → B ≤ k ∧ k < w.heap.size) (hL : ∀ j, j < 4 → ∀ k, (x.VL j).ownBlock = some k → k < B) (hV : ∀ j, j < 4 → ∀ k, (H.V j).ownBlock = some k → k < B)
   (hO : ∀ s, s < 4 → ∀ p2 c2 m2, x.st s = some (p2, c2, m2) → ∀ k, p2.bv.ownBlock = some k → k < B) (h0 : 0 < B) (sx hx tx : Nat)
   (k1 : w.cell? ⟨sx, 0, none⟩ = some (.pointer (some ⟨p.sb, 0, none⟩))) (k2 : w.cell? ⟨hx, 0, none⟩ = some (.pointer (some ⟨H.hb, 0, none⟩))) (k3 : w.cell? ⟨tx, 0, none⟩ = some (.int .i64 (t : Int))) (n1 : sx ≠ H.hb) (n2 : hx ≠ H.hb) (n3 : tx ≠ H.hb) :
   Calls Tryz.prog 106 #[.pointer (some ⟨sx, 0, none⟩), .pointer (some ⟨hx, 0, none⟩), .pointer (some ⟨tx, 0, none⟩)] w fun e w' => e = .returned (.tuple #[]) ∧ ∃ ρ' b, HAt w' H ρ' (addT x t p c m b) ∧ Fr B ρ ρ' w w' := by
 have ht4 : (t : Int) < 4 := by omega
 have hs1 : sx < w.heap.size := World.block_lt_of_cell? w _ k1
 have hs2 : hx < w.heap.size := World.block_lt_of_cell? w _ k2
 have hs3 : tx < w.heap.size := World.block_lt_of_cell? w _ k3
 have hS : SeeB w [sx, hx, tx, H.hb] w.drew := SeeB.of_ext (Ext.drew w) (by have := h.bk.lt; simp; omega)
 have HC := Lib.hid (show ∀ y, SeeB w [sx, hx, tx] y → y.cell? ⟨sx, 0, none⟩ = some (.pointer (some ⟨p.sb, 0, none⟩)) ∧ y.cell? ⟨hx, 0, none⟩ = some (.pointer (some ⟨H.hb, 0, none⟩)) ∧ y.cell? ⟨tx, 0, none⟩ = some (.int .i64 (t : Int)) from fun y hy => ⟨hy.cell (by simp) k1, hy.cell (by simp) k2, hy.cell (by simp) k3⟩)
 have hc5 := h.cS ht
 have f5 := h.bk.free (25 + t)
 have HB := Lib.hid (show ∀ wx, w.grownBy wx none → Blk wx H.hb 95 (hsC H x) from fun wx hE => h.bk.ext hE)
 have HLB := Lib.hid (show ρ H.hb ≠ 0 ∧ B ≤ p.sb ∧ B ≤ p.tb ∧ B ≤ p.bb ∧ B ≤ w.heap.size from ⟨by rw [h.rh]; omega, hB.1, hB.2.1, hB.2.2, by have := hst.bk.lt; omega⟩)
 have NS := Lib.hid (fun w' hb hg => h.newSt (w' := w') hR ht hst ok cS cz pV hB hz hbv hL hV hO h0 hb hg)
 have HRR := Lib.hid hR
 have hd5 : w.drew.cell? ⟨H.hb, 25 + t, none⟩ = some (ptS (x.st t)) := hc5
 have fd5 : w.drew.frozen? ⟨H.hb, 25 + t, none⟩ = false := f5
 clear h hR hst ok cS cz pV hB hz hbv hL hV hO h0 hc5 f5
 go_enter Tryz.func106, Tryz.ntmps106
 go_wp2
 refine region_line [(0, true), (1, true), (2, true), (3, true), (4, true), (5, true), (6, false)] (SeeB w [sx, hx, tx]) (by kernel_rfl) (by kernel_rfl) (fun _ _ _ d _ h => by cases d <;> exact h) (fun k hk => hS k (by simp at hk ⊢; omega)) ?_
 have hSd : SeeB w [sx, hx, tx] w.drew := fun k hk => hS k (by simp at hk ⊢; omega)
 repeat (refine line_read (a' := ?_) rfl (by kernel_rfl) (by kernel_rfl) hSd (fun y hy K hK => ?_) ?_; rotate_left; · (obtain ⟨k1, k2, k3⟩ := HC.out y hy; go_wp2; exact hK))
 refine line_act (by rfl) (fun K hK => ?_)
 go_wp2
 have hb1 : Blk ((w.setCell ⟨H.hb, 25 + t, none⟩ (.pointer (some ⟨p.sb, 0, none⟩))).drew) H.hb 95 (hsC H { x with st := updH x.st t (some (p, c, m)) }) := by
   rw [← hsC_setSt H x ht]
   exact ((HB.out w (Ext.refl w)).set (25 + t) _).drew
 have hg1 : w.grownBy ((w.setCell ⟨H.hb, 25 + t, none⟩ (.pointer (some ⟨p.sb, 0, none⟩))).drew) (some H.hb) := by
   have h5 := gb_set (gb_refl w (some H.hb)) (25 + t) (.pointer (some ⟨p.sb, 0, none⟩))
   exact ⟨h5.os, h5.tape, h5.output, h5.size, h5.block⟩
 have h1 := NS.out _ hb1 hg1
 obtain ⟨w1, hw1⟩ : ∃ z, (w.setCell ⟨H.hb, 25 + t, none⟩ (.pointer (some ⟨p.sb, 0, none⟩))).drew = z := ⟨_, rfl⟩
 rw [hw1] at hg1 h1
 have hS1 : SeeB w [sx, hx, tx] w1 := fun k hk => hg1.block k (by simp at hk; omega) (fun e => by injection e with e; simp at hk; omega)
 rw [hw1]
 refine hK _ _ (SeeB w [sx, hx, tx]) hS1 (fun _ h => h) ?_
 clear hK K hb1 hw1 HB hd5 fd5 NS
 refine line_end ?_
 have H1 := Lib.hid (And.intro h1 hg1)
 have hS2 : SeeB w [sx, hx, tx] w1.drew := hS1
 have N := new20 w1.drew
 have hbl := h1.bk.lt
 go_wp2
 refine region_line [(0, true), (1, true), (3, true), (4, true), (2, false), (5, true), (6, false)] (SeeB w [sx, hx, tx]) (by kernel_rfl) (by kernel_rfl) (fun _ _ _ d _ h => by cases d <;> exact h) hS2 ?_
 repeat (refine line_read (a' := ?_) rfl (by kernel_rfl) (by kernel_rfl) hS2 (fun y hy K hK => ?_) ?_; rotate_left; · (obtain ⟨k1, k2, k3⟩ := HC.out y hy; go_wp2; exact hK))
 refine line_act (by rfl) (fun K hK => ?_)
 go_wp2_with (go_at_call 46; refine N.mono ?_; rintro e w2 ⟨b, rfl, hq2, hb2, hg2⟩)
 have hg12 : w1.grownBy w2 none := ⟨hg2.os, hg2.tape, hg2.output, hg2.size, hg2.block⟩
 have hS3 : SeeB w [sx, hx, tx] w2 := fun k hk => (hg12.block k (by have := hg1.size; simp at hk; omega) (by simp)).trans (hS1 k hk)
 refine hK _ _ (SeeB w [sx, hx, tx]) hS3 (fun _ h => h) ?_
 clear hK K
 repeat (refine line_read (a' := ?_) rfl (by kernel_rfl) (by kernel_rfl) hS3 (fun y hy K hK => ?_) ?_; rotate_left; · (go_wp2; exact hK))
 refine line_act (by rfl) (fun K hK => ?_)
 have h2 := H1.out.1.ext HRR.out hg12
 have c9 := h2.cQ ht
 have f9 := h2.bk.free (29 + t)
 have H2 := Lib.hid (And.intro h2 (And.intro hq2 (And.intro hb2 hg12)))
 clear h1 h2 hq2 hb2 hg2 hg12
 go_wp2
 have hb3 : Blk (w2.setCell ⟨H.hb, 29 + t, none⟩ (.pointer (some ⟨b, 0, none⟩))) H.hb 95 (hsC H { x with st := updH x.st t (some (p, c, m)), qp := updH x.qp t b }) := by
   rw [← hsC_setQp H { x with st := updH x.st t (some (p, c, m)) } ht]
   exact H2.out.1.bk.set (29 + t) _
 have h3 := H1.out.1.newQ HRR.out ht H2.out.2.2.2 H2.out.2.1 H2.out.2.2.1 hb3 (gb_set (gb_refl w2 (some H.hb)) (29 + t) _)
 have hS4 : SeeB w [sx, hx, tx] (w2.setCell ⟨H.hb, 29 + t, none⟩ (.pointer (some ⟨b, 0, none⟩))) := fun k hk => ((gb_set (gb_refl w2 (some H.hb)) (29 + t) _).block k (by have := H2.out.2.2.2.size; have := hg1.size; simp at hk; omega) (fun e => by injection e with e; simp at hk; omega)).trans (hS3 k hk)
 refine hK _ _ (SeeB w [sx, hx, tx]) hS4 (fun _ h => h) ?_
 refine line_end ?_
 go_wp2
 go_end0
 refine ⟨rfl, _, ⟨b, h3⟩, ?_, fun k hk => ?_⟩
 · have h5 : w1.grownBy (w2.setCell ⟨H.hb, 29 + t, none⟩ (.pointer (some ⟨b, 0, none⟩))) (some H.hb) := gb_trans ⟨H2.out.2.2.2.os, H2.out.2.2.2.tape, H2.out.2.2.2.output, H2.out.2.2.2.size, fun k hk _ => H2.out.2.2.2.block k hk (by simp)⟩ (gb_set (gb_refl w2 (some H.hb)) (29 + t) _)
   exact KpF.of_grown (gb_trans hg1 h5) (fun k e => by injection e with e; rw [← e]; exact HLB.out.1)
 · by_cases e : k = b
   · have h6 := H2.out.2.2.1
     have h7 := hg1.size
     have h8 := HLB.out.2.2.2.2
     have h9 : w1.drew.heap.size = w1.heap.size := rfl
     exact .inr (by omega)
   · simp only [if_neg e] at hk
     by_cases e2 : k = p.sb ∨ k = p.tb ∨ k = p.bb
     · have h8 := HLB.out
       exact .inr (by omega)
     · simp only [if_neg e2] at hk
       exact .inl hk
end
end Go.Proofs.YtfgifgglcafadaaGreatDoor
