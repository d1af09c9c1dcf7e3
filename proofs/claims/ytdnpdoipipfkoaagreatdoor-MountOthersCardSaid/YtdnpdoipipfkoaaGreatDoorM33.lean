/-
  Texts put together: PT.
-/
import Derived.Test.YtdnpdoipipfkoaaGreatDoorM31
namespace Go.Proofs.YtdnpdoipipfkoaaGreatDoor
set_option linter.unusedVariables false
set_option linter.unusedSimpArgs false
set_option linter.unusedVariables false
set_option linter.unusedSimpArgs false
set_option maxRecDepth 100000
open Go.RowKit
section
variable {c : SC}
theorem eraA_clm (hz : c.zs c.who.toNat = []) (hw : 0 ≤ c.who ∧ c.who < 4) (hB : BlOk c) (hN : c.bl.Nodup) : ∀ (l : List Nat) (m : SM), ((m.n.px = -1 ∧ m.n.off = false) ∧ m.n.M c.who.toNat = 0) → m.ro = false → l.Nodup → (∀ b ∈ l, b < c.bl.length ∧ badB c m b = false) →
   (eraA c (l.map fun b : Nat => (b : Int)) m).1 = 0 ∧ (((eraA c (l.map fun b : Nat => (b : Int)) m).2.n.px = -1 ∧ (eraA c (l.map fun b : Nat => (b : Int)) m).2.n.off = false) ∧ (eraA c (l.map fun b : Nat => (b : Int)) m).2.n.M c.who.toNat = 0) ∧ (eraA c (l.map fun b : Nat => (b : Int)) m).2.q = m.q
 | [], m, h, _, _, _ => ⟨rfl, h, rfl⟩
 | b :: l, m, h, hro, hd, hl => by
   obtain ⟨hbl, hb0⟩ := hl b (by simp)
   rw [List.nodup_cons] at hd
   have hph := hB.ph (b := (b : Int)) (by omega)
   have hx : c.ph b = ((c.ph b).toNat : Int) := by omega
   have E := ers_on (c := c) h.1.2 hw (x := (c.ph b).toNat) (by omega) hb0
   have hD := (calm_stb hz).ers m.n c.who (c.ph b).toNat h
   rw [← hx] at E hD
   have hs : hasS c (b : Int) = true := by unfold hasS; simp; omega
   have he : ersE c.S c.zs m.n c.who (c.ph b) = 0 := by
     rcases E.res with ⟨q0, _⟩ | ⟨_, ⟨_, _, q⟩ | ⟨_, q, _⟩⟩
     · exact q0
     · have := hD.2; have := h.2; omega
     · rw [hD.1.2] at q; cases q
   have e1 : eraE c m b = 0 := by
     unfold eraE
     rw [he, if_pos (by decide)]
   have e2 : eraM c m b = { m with n := ersS c.S c.zs m.n c.who (c.ph b) } := by
     unfold eraM
     rw [he, if_pos (by decide)]
   rw [List.map_cons]
   unfold eraA
   rw [hro, if_neg (by decide), if_neg (by rw [hs, Int.toNat_natCast, hb0]; simp), e1, if_neg (by simp), e2]
   have R := eraA_clm hz hw hB hN l { m with n := ersS c.S c.zs m.n c.who (c.ph b) } hD hro hd.2 (fun y hy => by
     obtain ⟨y1, y2⟩ := hl y (by simp [hy])
     refine ⟨y1, ?_⟩
     unfold badB at y2 ⊢
     show (ersS c.S c.zs m.n c.who (c.ph b)).mr _ = false
     rw [E.mr]
     exact y2)
   exact R
theorem spots_nil (gone : List Int) : ∀ k, spotsN [] gone k = []
 | 0 => rfl
 | k + 1 => by
   rw [spotsN, show bestN [] gone k = (noF, false) from rfl, if_neg (by decide)]
   exact spots_nil gone k
def otC (c : SC) (e2 : Int) : SC := { c with ep := e2 }
theorem cnt_other {n : NS} {rs : List R14} {sq : Int} {L : List Fnd} (A : AllF c n L) (W : Wr c n rs sq) {e2 : Int} (hne : c.ep ≠ e2) : ∀ f ∈ L, mineF c.who e2 f = false := fun f hf => by
 rw [Bool.eq_false_iff]
 intro hm
 unfold mineF at hm
 simp only [Bool.and_eq_true, Bool.not_eq_true', beq_iff_eq] at hm
 obtain ⟨h1, _, h3⟩ := hm
 obtain ⟨b, j, ho⟩ := A.mem W hf h1
 exact hne (ho.ep.symm.trans h3)
variable {w0 wx : World} {V : Nat → Value} {v : Value} {p : SP} {m : SM}
theorem oth_mt (L : MtL w0 c) (hz : c.zs c.who.toNat = []) {k : Int} (M : MtS w0 c V v p m k wx) (C : Clm c m) (hk : k < 100000000000 ∧ 0 ≤ k) {e2 : Int} (hne : c.ep ≠ e2) :
   ∃ m2, m2.q = [] ∧ (∀ i : Nat, (i : Int) < c.sz → reaE (otC c e2) m2 i = 0 ∧ reaD (otC c e2) m2 i = ⟨#[]⟩) ∧ Wf (otC c e2) m2 (k + 400) ∧
     Calls Tryz.prog 19 #[.pointer (some ⟨c.S.nb, 0, none⟩), .int .i64 1, .agg #[.bool true, .int .i64 e2, .int .i64 c.sz, .int .i64 c.sp, v]] wx fun e w' => ∃ p2 : SP, e = .returned (.tuple #[.pointer (some ⟨p2.sb, 0, none⟩), .int .i64 0]) ∧ StAt w' p2 (otC c e2) m2 ∧ StOk p2 (otC c e2) ∧ Keeps c.S.T wx w' := by
 have st := L.stt
 obtain ⟨p0, A, _⟩ := clm_opn hz st C
 have AC := M.arc L
 have AS := M.ars (C.G.rdy C.dn)
 have hlen := pagesR_len c.S m.n c.bl
 have hm := may_on A (Nat.le_trans hlen AC.hp) st.bl
 have wf0 : Wf (otC c e2) (newM m.n) k := ⟨AS.wf.cn, AS.wf.sq, AS.wf.ql, AS.wf.qd, AS.wf.fr, AS.wf.bs, AS.wf.bn, AS.wf.dn⟩
 have OP := open19 (c := otC c e2) AS.nd AC.R AC.fl AC.T0 AC.zl AC.hV st.hw v AC.iv AC.b1 st.bl st.hB wf0 (by have := st.sp; show -9223372036854775000 ≤ c.sp ∧ c.sp ≤ 9223372036854775000; omega) (by omega) p0 hm
 have hmine := cnt_other A C.G.W hne
 rw [show (otC c e2).who = 1 from L.w1, show (pagesR (otC c e2).S m.n (otC c e2).bl).1 = (pagesR c.S m.n c.bl).1 from rfl] at OP
 generalize (pagesR c.S m.n c.bl).1 = Lf at *
 have hcnt : cntC (otC c e2) Lf = [] := by
   unfold cntC cntL
   rw [List.filter_eq_nil_iff]
   intro f hf hc
   unfold cntB at hc
   simp only [Bool.and_eq_true] at hc
   have h1 := hmine f hf
   rw [show mineF (otC c e2).who (otC c e2).ep f = mineF c.who e2 f from rfl, h1] at hc
   cases hc.2.2.1
 have hrow : rowC (otC c e2) Lf = [] := by
   unfold rowC
   rw [hcnt, spots_nil]
   rfl
 have hsq0 : 0 ≤ seqC (otC c e2) Lf := (seqN_keeps _ _ _ Lf 0).1
 have hsq1 : seqC (otC c e2) Lf ≤ 0 := seq_le Lf 0 (Int.le_refl 0) (fun f hf hin => by
   unfold inH17 at hin
   simp only [Bool.and_eq_true] at hin
   have h1 := hmine f hf
   rw [show mineF (otC c e2).who (otC c e2).ep f = mineF c.who e2 f from rfl, h1] at hin
   cases hin.2.2)
 obtain ⟨l, l1, l2, l3⟩ := go_list Lf (cntC (otC c e2) Lf) (otC c e2).bl.length
 have hgo : goC (otC c e2) Lf = l.map fun b : Nat => (b : Int) := l1
 have hcl := eraA_clm (c := otC c e2) hz st.hw st.hB st.hN l (newM m.n) C.dst rfl (l2.imp (fun h => by omega)) (fun b hb => by
   obtain ⟨a1, a2⟩ := some_nb A (l3 b hb).2
   exact ⟨a1, (nbB_iff.1 a2).1⟩)
 rw [← hgo] at hcl
 obtain ⟨he0, hD, hq⟩ := hcl
 have hwf := wf_resM (c := otC c e2) st.bl wf0 (L := Lf) ⟨by omega, hsq0⟩
 have hres : resE (otC c e2) Lf (newM m.n) = 0 := he0
 have hM : resM (otC c e2) Lf (newM m.n) = { (eraA (otC c e2) (goC (otC c e2) Lf) (newM m.n)).2 with rs := rowC (otC c e2) Lf, sq := seqC (otC c e2) Lf, fr := begN (otC c e2) (eraA (otC c e2) (goC (otC c e2) Lf) (newM m.n)).2 } := by
   unfold resM
   rw [if_neg (by rw [he0]; simp)]
 have hmq : (resM (otC c e2) Lf (newM m.n)).q = [] := by rw [hM]; exact hq
 have hmr : (resM (otC c e2) Lf (newM m.n)).rs = [] := by rw [hM]; exact hrow
 have hml : LitS (resM (otC c e2) Lf (newM m.n)).n := by rw [hM]; exact ⟨hD.1.1, hD.1.2⟩
 refine ⟨resM (otC c e2) Lf (newM m.n), hmq, fun i hi => ?_, hwf, OP.mono fun e w' hP => ?_⟩
 · obtain ⟨h1, _, h3⟩ := rea_is (c := otC c e2) hml st.hB (by rw [hmr]; exact ⟨(fun r hr => by cases hr), by simp, by simp, (fun r hr => by cases hr), (fun r hr => by cases hr)⟩) (q := (i : Int)) ⟨by omega, hi⟩
   refine ⟨h1, h3 _ ?_⟩
   unfold Val
   rw [hmq, if_neg (fun e => by cases e), hmr]
   exact .inr ⟨(fun r hr => by cases hr), rfl⟩
 · rcases hP with ⟨_, p2, e1, st2, ok2, _, _, _, _, _, kp⟩ | ⟨hne2, _⟩
   · exact ⟨p2, e1, st2, ok2, kp⟩
   · exact absurd hres hne2
end
structure OtS (w0 : World) (c : SC) (V : Nat → Value) (v : Value) (tb : Nat) (p : SP) (j : Nat) (m : SM) (wx : World) : Prop where
 mt : MtS w0 c V v p m (16008000 * (j : Int)) wx
 cl : Clm c m
 tn : Blk wx tb 33 (teC true c.ep c.sz c.sp v)
 tt : tS p c tb = 0
 sq : m.sq + m.q.length ≤ j
section
variable {w0 wx wy : World} {c : SC} {V : Nat → Value} {v : Value} {tb : Nat} {p : SP} {j : Nat} {m : SM}
theorem OtS.ext (h : OtS w0 c V v tb p j m wx) (hg : wx.grownBy wy none) : OtS w0 c V v tb p j m wy := ⟨h.mt.ext hg, h.cl, h.tn.ext hg, h.tt, h.sq⟩
theorem OtS.write (L : MtL w0 c) (hz : c.zs c.who.toNat = []) (h : OtS w0 c V v tb p j m wx) (pl : Int) (dt : ByteArray) (hd : dt.size ≤ 9223372036854775807) (hj : j ≤ 1000) :
   ∃ e m', Calls Tryz.prog 10 #[.pointer (some ⟨p.sb, 0, none⟩), .int .i64 pl, .string dt] wx fun er wy => er = .returned (.int .i64 e) ∧ OtS w0 c V v tb p (j + 1) m' wy := by
 have hsq := h.sq
 obtain ⟨e, m', h1, C1, s1, s2, _⟩ := clm_wai hz L.stt h.cl (x := ⟨pl, 1, dt⟩) (by omega) (.inl rfl)
 exact ⟨e, m', (h.mt.write L (by omega) pl dt hd h1).mono fun er wy ⟨a1, a2, a3⟩ => ⟨a1, a2.mono (by omega), C1, a3.blk18 h.tn h.tt, h.tt, by omega⟩⟩
theorem OtS.flush (L : MtL w0 c) (hz : c.zs c.who.toNat = []) (h : OtS w0 c V v tb p j m wx) (hj : j ≤ 1000) :
   ∃ m', Calls Tryz.prog 12 #[.pointer (some ⟨p.sb, 0, none⟩)] wx fun er wy => er = .returned (.int .i64 0) ∧ OtS w0 c V v tb p (j + 1) m' wy := by
 have hsq := h.sq
 obtain ⟨m', h1, C1, s1, q1, _⟩ := clm_flu hz L.stt h.cl (by omega)
 exact ⟨m', (h.mt.flush L (by omega) h1).mono fun er wy ⟨a1, a2, a3⟩ => ⟨a1, a2.mono (by omega), C1, a3.blk18 h.tn h.tt, h.tt, by omega⟩⟩
end
end Go.Proofs.YtdnpdoipipfkoaaGreatDoor
