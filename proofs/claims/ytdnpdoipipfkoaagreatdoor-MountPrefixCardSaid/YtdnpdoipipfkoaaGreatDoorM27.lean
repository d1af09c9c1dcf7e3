/-
  Texts put together: PG PH PI PK PL.
-/
import Derived.Test.YtdnpdoipipfkoaaGreatDoorM26
namespace Go.Proofs.YtdnpdoipipfkoaaGreatDoor
set_option linter.unusedVariables false
set_option linter.unusedSimpArgs false
set_option linter.unusedVariables false
set_option linter.unusedSimpArgs false
set_option maxRecDepth 100000
open Go.RowKit
theorem Flds.keeps19 {T : Nat → Nat} {w w' : World} (h : Flds w) (hk : Keeps T w w') (h0 : T 0 = 0) : Flds w' := fun j hj => by
 have e := hk.block 0 h.lt h0
 exact ⟨(World.cell?_of_block e).trans (h j hj).1, (World.cell?_of_block e).trans (h j hj).2.1, (World.cell?_of_block e).trans (h j hj).2.2⟩
structure ArC (w0 : World) (V : Nat → Value) (c : SC) (v : Value) : Prop where
 R : Roles c.S
 T0 : c.S.T 0 = 0
 zl : ∀ j, j < 4 → (c.zs j).length ≤ 64
 hV : ∀ j, j < 4 → ∀ k, (V j).ownBlock = some k → k < w0.heap.size
 stt : Stt c
 b1 : 1 ≤ c.bl.length
 hp : c.bl.length * c.S.pg ≤ 60
 iv : Ints w0 v c.bl
 vT : ∀ k, v.ownBlock = some k → c.S.T k = 0
 fl : Flds w0
 w1 : c.who = 1
structure ArS (w0 : World) (V : Nat → Value) (c : SC) (wr : World) (n : NS) (rs : List R14) (sq : Int) (k : Int) : Prop where
 nd : NandAt wr c.S V c.zs n
 kp : Keeps c.S.T w0 wr
 rdy : Rdy c n rs sq
 wf : Wf c (newM n) k
structure OpW (w0 : World) (V : Nat → Value) (c : SC) (sq k : Int) (P : Int → ByteArray → Prop) (p : SP) (m : SM) (w' : World) : Prop where
 st : StAt w' p c m
 ok : StOk p c
 V : p.V = V
 lb : w0.heap.size ≤ p.sb ∧ w0.heap.size ≤ p.tb ∧ w0.heap.size ≤ p.bb
 bv : ∀ k, p.bv.ownBlock = some k → w0.heap.size ≤ k
 kp : Keeps c.S.T w0 w'
 G : SG c m
 dn : Dns c.S m.n
 q0 : m.q = []
 sq : m.sq ≤ sq
 px : m.n.px = -1
 wf : Wf c m k
 pl : ∀ q d, P q d → Plc c m.n m.rs q d
section
variable {w0 wr : World} {V : Nat → Value} {c : SC} {v : Value} {n : NS} {rs : List R14} {sq k : Int}
theorem ArS.back (C : ArC w0 V c v) (h : ArS w0 V c wr n rs sq k) (x : Int) (hx : -9223372036854775808 ≤ x ∧ x ≤ 9223372036854775807) {w' : World} (h1 : NandAt w' c.S V c.zs (backS x n)) (h2 : Keeps c.S.T wr w') : ArS w0 V c w' (backS x n) rs sq k :=
 ⟨h1, h.kp.trans h2, h.rdy.same rfl rfl rfl, wf_newM (m := { newM n with n := backS x n }) (wf_px h.wf hx) rfl⟩
theorem wf_resM {L : List Fnd} (hb : c.bl.length ≤ 64) (h : Wf c (newM n) k) (hq : seqC c L ≤ k ∧ 0 ≤ seqC c L) : Wf c (resM c L (newM n)) (k + 400) := by
 have h1 := wf_eraA (goC c L) (newM n) k h
 have h2 : (goC c L).length ≤ c.bl.length := goN_len _ _ _
 have h3 : Wf c (eraA c (goC c L) (newM n)).2 (k + 400) := h1.mono (by omega)
 unfold resM
 split
 · exact h3
 · exact ⟨h3.cn, ⟨hq.2, by show seqC c L ≤ k + 400; omega⟩, h3.ql, h3.qd, begN_in _, h3.bs, h3.bn, h3.dn⟩
theorem ArS.opn (C : ArC w0 V c v) (h : ArS w0 V c wr n rs sq k) (ho : n.off = false) (hk : k < 1000000000000) (hsq : sq ≤ k) :
   (∃ m, m.n.off = false ∧ SG c m ∧ Dns c.S m.n ∧ m.q = [] ∧ m.sq ≤ sq ∧ Wf c m (k + 400) ∧ (∀ q d, Plc c n rs q d → Plc c m.n m.rs q d) ∧ (n.px = -1 → m.n.px = -1) ∧ m = resM c (pagesR c.S n c.bl).1 (newM n) ∧
     Calls Tryz.prog 19 #[.pointer (some ⟨c.S.nb, 0, none⟩), .int .i64 1, .agg #[.bool true, .int .i64 c.ep, .int .i64 c.sz, .int .i64 c.sp, v]] wr fun e w' => ∃ p : SP, e = .returned (.tuple #[.pointer (some ⟨p.sb, 0, none⟩), .int .i64 0]) ∧ StAt w' p c m ∧ StOk p c ∧ p.V = V ∧ wr.heap.size ≤ p.sb ∧ wr.heap.size ≤ p.tb ∧ wr.heap.size ≤ p.bb ∧ (∀ k, p.bv.ownBlock = some k → wr.heap.size ≤ k) ∧ Keeps c.S.T wr w') ∨
   (n.px ≠ -1 ∧ ∃ n' rs' sq', sq' ≤ sq ∧ (∀ q d, Plc c n rs q d → Plc c n' rs' q d) ∧
     Calls Tryz.prog 19 #[.pointer (some ⟨c.S.nb, 0, none⟩), .int .i64 1, .agg #[.bool true, .int .i64 c.ep, .int .i64 c.sz, .int .i64 c.sp, v]] wr fun e w' => e = .returned (.tuple #[.pointer none, .int .i64 12]) ∧ ArS w0 V c w' n' rs' sq' (k + 400) ∧ Keeps c.S.T wr w') := by
 have st := C.stt
 obtain ⟨p0, O⟩ := opn_on st ho h.rdy.W h.rdy.dn h.rdy.sm h.rdy.mf h.rdy.sq h.rdy.kp
 obtain ⟨_, A⟩ := pages_on h.rdy.W ho st.hB h.rdy.dn
 have hlen := pagesR_len c.S n c.bl
 have hm := may_on A (Nat.le_trans hlen C.hp) st.bl
 have hF := C.fl.keeps19 h.kp C.T0
 have hI := C.iv.keeps18 h.kp C.vT
 have OP := open19 h.nd C.R hF C.T0 C.zl (fun j hj k hk => Nat.lt_of_lt_of_le (C.hV j hj k hk) h.kp.size) st.hw v hI C.b1 st.bl st.hB h.wf (by have := st.sp; omega) (by omega) p0 hm
 rw [C.w1] at OP
 have hd : Dns c.S (resM c (pagesR c.S n c.bl).1 (newM n)).n := opn_D (dns_stb c) h.rdy.dn
 have hlit : n.px = -1 → (resM c (pagesR c.S n c.bl).1 (newM n)).n.px = -1 ∧ (resM c (pagesR c.S n c.bl).1 (newM n)).n.off = false := fun hx => opn_D (lit_stb c) (n := n) ⟨hx, ho⟩
 have hq0 : 0 ≤ seqC c (pagesR c.S n c.bl).1 := (seqN_keeps _ _ _ (pagesR c.S n c.bl).1 0).1
 have hq1 : seqC c (pagesR c.S n c.bl).1 ≤ sq := seq_le _ 0 h.rdy.sq (fun f hf hin => by
   unfold inH17 mineF at hin
   simp only [Bool.and_eq_true, decide_eq_true_eq, Bool.not_eq_true'] at hin
   obtain ⟨b, j, ho⟩ := A.mem h.rdy.W hf hin.2.2.1
   exact (h.rdy.W.top b j f ho).1)
 have hwf := wf_resM st.bl h.wf (L := (pagesR c.S n c.bl).1) ⟨by omega, hq0⟩
 generalize (pagesR c.S n c.bl).1 = L at *
 rcases O.res with ⟨o1, o2, o3, o4, o5⟩ | ⟨o1, m', o2, o3, o4, o5⟩
 · refine .inl ⟨resM c L (newM n), o2.off, o2, hd, o3, o4, hwf, o5, fun hx => (hlit hx).1, rfl, OP.mono fun e w' hM => ?_⟩
   rcases hM with ⟨_, hM⟩ | ⟨hne, _⟩
   · exact hM
   · exact absurd o1 hne
 · have hoff := o3.off
   rw [o2] at hoff
   refine .inr ⟨fun hx => (by have := (hlit hx).2; rw [hoff] at this; cases this), m'.n, m'.rs, m'.sq, o4, o5, OP.mono fun e w' hM => ?_⟩
   rcases hM with ⟨h0, _⟩ | ⟨_, he, hn, hk2⟩
   · rw [o1] at h0; cases h0
   · rw [o1] at he
     rw [← o2] at hn hd
     exact ⟨he, ⟨hn, h.kp.trans hk2, o3.rdy hd, wf_newM hwf o2⟩, hk2⟩
def CuR (w : World) (a : Option Addr) (len : Nat) (Z : Nat → Int) (T : Nat → Nat) : Prop := ∀ i, i < len → (∃ b off, a = some ⟨b, off, none⟩ ∧ w.cell? ⟨b, off + i, none⟩ = some (.int .u8 (Z i)) ∧ T b = 0) ∧ 0 ≤ Z i ∧ Z i ≤ 255
set_option maxHeartbeats 3200000 in
theorem opens19 (C : ArC w0 V c v) (h : ArS w0 V c w0 n rs sq k) (hk : k + 400 * 10 < 1000000000000) (hsq : sq ≤ k) (a : Option Addr) (len cap : Nat) (Z : Nat → Int) (hZ : CuR w0 a len Z c.S.T) (hl : len ≤ 6) :
   Calls Tryz.prog 15 #[.pointer (some ⟨c.S.nb, 0, none⟩), .pointer (some ⟨c.S.pb, 0, none⟩), .agg #[.bool true, .int .i64 c.ep, .int .i64 c.sz, .int .i64 c.sp, v], .slice a len cap] w0 fun e w' => ∃ p m, e = .returned (.tuple #[.pointer (some ⟨p.sb, 0, none⟩), .bool true]) ∧ OpW w0 V c sq (k + 400 * 8) (Plc c n rs) p m w' := by
 obtain ⟨ao, vc, _, _, hvf, _⟩ := C.iv.form
 have HC := Lib.hid C
 have HZ := Lib.hid hZ
 have hE1 := World.grownBy_alloc w0 (.cells #[.bool true, .int .i64 c.ep, .int .i64 c.sz, .int .i64 c.sp, v] 33) none
 have hB1 := Blk.new w0 33 #[.bool true, .int .i64 c.ep, .int .i64 c.sz, .int .i64 c.sp, v]
 obtain ⟨w1, hw1⟩ : ∃ y, w0.alloc (.cells #[.bool true, .int .i64 c.ep, .int .i64 c.sz, .int .i64 c.sp, v] 33) = y := ⟨_, rfl⟩
 rw [hw1] at hE1 hB1
 obtain ⟨zL, hzL⟩ : ∃ z, w0.heap.size = z := ⟨_, rfl⟩
 rw [hzL] at hB1
 have hT1 : c.S.T zL = 0 := by rw [← hzL]; exact h.nd.fresh (Nat.le_refl _)
 have H1 := Lib.hid (show ArS w0 V c w1 n rs sq k ∧ c.S.T zL = 0 ∧ w0.heap.size = zL from ⟨⟨h.nd.ext hE1 C.R, Keeps.ext hE1, h.rdy, h.wf⟩, hT1, hzL⟩)
 have HB := Lib.hid hB1
 subst hvf
 clear h hZ hE1 C hT1 hB1
 go_enter Tryz.func15, Tryz.ntmps15
 go_upto_region 1 with fail
 clear hw1 hzL
 go_wp2
 go_loopw [18] (fun i wr => ∃ (j : Nat) (n' : NS) (rs' : List R14) (sq' : Int), j ≤ len ∧ i = .int .i64 j ∧ ArS w0 V c wr n' rs' sq' (k + 400 * j) ∧ Keeps c.S.T w1 wr ∧ sq' ≤ sq ∧ ∀ q d, Plc c n rs q d → Plc c n' rs' q d) (fun i _ => len - (intOf i).toNat)
 case atStart => exact ⟨0, n, rs, sq, by omega, rfl, by simpa using H1.out.1, Keeps.refl _ _, Int.le_refl _, fun _ _ h => h⟩
 case round =>
   obtain ⟨j, n', rs', sq', hj, rfl, hA, hK, hs', hP⟩ := hrel
   obtain ⟨wo, rfl⟩ : ∃ wo : World, wo = wr := ⟨_, rfl⟩
   have HA := Lib.hid (And.intro hA (And.intro hK (And.intro hs' hP)))
   clear hA hK hs' hP
   by_cases hlt : j < len
   · obtain ⟨⟨ab, off, rfl, hc0, hT0⟩, hz0, hz1⟩ := HZ.out j hlt
     have hc1 : wo.cell? ⟨ab, off + j, none⟩ = some (.int .u8 (Z j)) := HA.out.1.kp.cell hc0 hT0
     obtain ⟨z, hz⟩ : ∃ z, Z j = z := ⟨_, rfl⟩
     rw [hz] at hc1 hz0 hz1
     obtain ⟨x, hx⟩ : ∃ x, z % 16 = x := ⟨_, rfl⟩
     have BK := back7 HA.out.1.nd HC.out.R x
     have hx2 : 0 ≤ x ∧ x ≤ 15 := by omega
     have HX := Lib.hid hx2
     clear hc0 hz hx2
     go_upto_region 5 with (go_at_call 8; rw [hx]; refine BK.mono ?_; rintro e w3 ⟨rfl, hn3, hk3⟩)
     have A3 : ArS w0 V c w3 (backS x n') rs' sq' (k + 400 * j) := HA.out.1.back HC.out x (by have := HX.out; omega) hn3 hk3
     have K3 := HA.out.2.1.trans hk3
     have hB3 : Blk w3 zL 33 (teC true c.ep c.sz c.sp (.slice ao c.bl.length vc)) := (K3.block _ HB.out.lt H1.out.2.1).trans HB.out
     have H3 := Lib.hid (And.intro A3 (And.intro K3 hB3))
     have OPN := A3.opn HC.out rfl (by omega) (by have := HA.out.2.2.1; omega)
     clear hn3 hk3 A3 K3 BK hx hc1
     rcases OPN with ⟨m, m1, m2, m3, m4, m5, m6, m7, _, _, OPC⟩ | ⟨_, n2, rs2, sq2, s1, s2, OPC⟩
     · have HM := Lib.hid (And.intro m1 (And.intro m2 (And.intro m3 (And.intro m4 (And.intro m5 (And.intro m6 m7))))))
       clear m1 m2 m3 m4 m5 m6 m7
       go_wp2_with (first
         | (refine ten_read18 rfl _ rfl rfl hB3 ?_)
         | (go_at_call 19; refine OPC.mono ?_; rintro e w4 ⟨p, rfl, st4, ok4, hV4, b1, b2, b3, b4, k4⟩; have H4 := Lib.hid (And.intro st4 (And.intro ok4 (And.intro hV4 (And.intro b1 (And.intro b2 (And.intro b3 (And.intro b4 k4))))))); have BK4 := back19 st4 ok4 (-1); clear st4 ok4 hV4 b1 b2 b3 b4 k4 hB3)
         | (go_at_call 8; refine BK4.mono ?_; rintro e w5 ⟨rfl, st5, k5⟩))
       refine bodyPost_ret (v := .tuple #[.pointer (some ⟨p.sb, 0, none⟩), .bool true]) (by simp [results, Tryz.results15, go_sem]) rfl ?_
       obtain ⟨m1, m2, m3, m4, m5, m6, m7⟩ := HM.out
       obtain ⟨st4, ok4, hV4, b1, b2, b3, b4, k4⟩ := H4.out
       have hsz := H3.out.1.kp.size
       refine ⟨p, _, rfl, ⟨st5, ok4, hV4, by omega, fun q hq => by have := b4 q hq; omega, (H3.out.1.kp.trans k4).trans k5, SG.same m2 (-1), dns_L m3 rfl, m4, by have := HA.out.2.2.1; show m.sq ≤ sq; omega, rfl, wf_px (m6.mono (by omega)) (by omega), fun q d hp => (m7 q d ((HA.out.2.2.2 q d hp).same rfl)).same rfl⟩⟩
     · obtain ⟨z12, hz12⟩ : ∃ z : Int, z = 12 := ⟨_, rfl⟩
       rw [← hz12] at OPC
       have e0 : (z12 == 0) = false := by rw [hz12]; rfl
       have e1 : (z12 != 12) = false := by rw [hz12]; rfl
       have HS := Lib.hid (And.intro s1 s2)
       clear hz12 s1 s2
       go_wp2_with (first
         | (refine ten_read18 rfl _ rfl rfl hB3 ?_)
         | (go_at_call 19; refine OPC.mono ?_; rintro e w4 ⟨rfl, A4, k4⟩; have H4 := Lib.hid (And.intro A4 k4); clear A4 k4 hB3))
       go_roundw
       case rel => exact ⟨j + 1, n2, rs2, sq2, by omega, by go_num, by have := H4.out.1; rw [show k + 400 * ((j + 1 : Nat) : Int) = k + 400 * (j : Int) + 400 by omega]; exact this, H3.out.2.1.trans H4.out.2, by have := HA.out.2.2.1; have := HS.out.1; omega, fun q d hp => HS.out.2 q d ((HA.out.2.2.2 q d hp).same rfl)⟩
       case measure => simp [intOf]; omega
   · obtain rfl : j = len := by omega
     have BK := back7 HA.out.1.nd HC.out.R (-1)
     go_upto_region 13 with (go_at_call 8; refine BK.mono ?_; rintro e w3 ⟨rfl, hn3, hk3⟩)
     have A3 : ArS w0 V c w3 (backS (-1) n') rs' sq' (k + 400 * j) := HA.out.1.back HC.out (-1) (by omega) hn3 hk3
     have K3 := HA.out.2.1.trans hk3
     have hB3 : Blk w3 zL 33 (teC true c.ep c.sz c.sp (.slice ao c.bl.length vc)) := (K3.block _ HB.out.lt H1.out.2.1).trans HB.out
     have H3 := Lib.hid (And.intro A3 (And.intro K3 hB3))
     have OPN := A3.opn HC.out rfl (by omega) (by have := HA.out.2.2.1; omega)
     clear hn3 hk3 A3 K3 BK
     rcases OPN with ⟨m, m1, m2, m3, m4, m5, m6, m7, m8, _, OPC⟩ | ⟨hx, _⟩
     · have HM := Lib.hid (And.intro m1 (And.intro m2 (And.intro m3 (And.intro m4 (And.intro m5 (And.intro m6 (And.intro m7 (m8 rfl))))))))
       clear m1 m2 m3 m4 m5 m6 m7 m8
       go_wp2_with (first
         | (refine ten_read18 rfl _ rfl rfl hB3 ?_)
         | (go_at_call 19; refine OPC.mono ?_; rintro e w4 ⟨p, rfl, st4, ok4, hV4, b1, b2, b3, b4, k4⟩; have H4 := Lib.hid (And.intro st4 (And.intro ok4 (And.intro hV4 (And.intro b1 (And.intro b2 (And.intro b3 (And.intro b4 k4))))))); clear st4 ok4 hV4 b1 b2 b3 b4 k4 hB3))
       refine bodyPost_ret (v := .tuple #[.pointer (some ⟨p.sb, 0, none⟩), .bool true]) (by simp [results, Tryz.results15, go_sem]) rfl ?_
       obtain ⟨m1, m2, m3, m4, m5, m6, m7, m8⟩ := HM.out
       obtain ⟨st4, ok4, hV4, b1, b2, b3, b4, k4⟩ := H4.out
       have hsz := H3.out.1.kp.size
       refine ⟨p, _, rfl, ⟨st4, ok4, hV4, by omega, fun q hq => by have := b4 q hq; omega, H3.out.1.kp.trans k4, m2, m3, m4, by have := HA.out.2.2.1; omega, m8, m6.mono (by omega), fun q d hp => m7 q d ((HA.out.2.2.2 q d hp).same rfl)⟩⟩
     · exact absurd rfl hx
end
end Go.Proofs.YtdnpdoipipfkoaaGreatDoor

namespace Go.Proofs.YtdnpdoipipfkoaaGreatDoor
set_option linter.unusedVariables false
set_option linter.unusedSimpArgs false
set_option linter.unusedVariables false
set_option linter.unusedSimpArgs false
set_option maxRecDepth 100000
open Go.RowKit
structure MtL (w0 : World) (c : SC) : Prop where
 stt : Stt c
 b1 : 1 ≤ c.bl.length
 hp : c.bl.length * c.S.pg ≤ 60
 w1 : c.who = 1
 lo : ∀ k, c.S.T k ≠ 0 → w0.heap.size ≤ k
structure MtS (w0 : World) (c : SC) (V : Nat → Value) (v : Value) (p : SP) (m : SM) (k : Int) (wx : World) : Prop where
 st : StAt wx p c m
 ok : StOk p c
 wf : Wf c m k
 out : w0.grownBy wx none
 lb : w0.heap.size ≤ p.sb ∧ w0.heap.size ≤ p.tb ∧ w0.heap.size ≤ p.bb
 eV : p.V = V
 hV : ∀ j, j < 4 → ∀ k, (V j).ownBlock = some k → k < wx.heap.size
 iv : Ints wx v c.bl
 vP : ∀ k, v.ownBlock = some k → tS p c k = 0
section
variable {w0 wx wy : World} {c : SC} {V : Nat → Value} {v : Value} {p p' : SP} {m m' : SM} {k k' : Int}
theorem MtL.spb (L : MtL w0 c) : (-9223372036854775000 : Int) ≤ c.sp ∧ c.sp ≤ 9223372036854775000 := by have := L.stt.sp; omega
theorem MtS.call (L : MtL w0 c) (h : MtS w0 c V v p m k wx) (hs : StAt wy p c m') (hk : Keeps (tS p c) wx wy) (hw : Wf c m' k') : MtS w0 c V v p m' k' wy :=
 ⟨hs, h.ok, hw, keeps_new18 h.out hk L.lo h.lb, h.lb, h.eV, fun j hj q hq => Nat.lt_of_lt_of_le (h.hV j hj q hq) hk.size, h.iv.keeps18 hk h.vP, h.vP⟩
theorem MtS.ext (h : MtS w0 c V v p m k wx) (hg : wx.grownBy wy none) : MtS w0 c V v p m k wy :=
 ⟨h.st.ext h.ok hg, h.ok, h.wf, ext_trans h.out hg, h.lb, h.eV, fun j hj q hq => Nat.lt_of_lt_of_le (h.hV j hj q hq) hg.size, h.iv.kept hg (by simp), h.vP⟩
theorem MtS.mono (h : MtS w0 c V v p m k wx) (hk : k ≤ k') : MtS w0 c V v p m k' wx := ⟨h.st, h.ok, h.wf.mono hk, h.out, h.lb, h.eV, h.hV, h.iv, h.vP⟩
theorem tS_T {p : SP} {c : SC} {k : Nat} (h : tS p c k = 0) : c.S.T k = 0 := (tS_zero h).1
theorem MtS.arc (L : MtL w0 c) (h : MtS w0 c V v p m k wx) : ArC wx V c v :=
 ⟨h.ok.R, h.ok.t0, h.ok.zl, h.hV, L.stt, L.b1, L.hp, h.iv, fun q hq => tS_T (h.vP q hq), h.st.fl, L.w1⟩
theorem MtS.ars (h : MtS w0 c V v p m k wx) (R : Rdy c m.n m.rs m.sq) : ArS wx V c wx m.n m.rs m.sq k :=
 ⟨by have := h.st.nd; rw [h.eV] at this; exact this, Keeps.refl _ _, R, wf_newM h.wf rfl⟩
theorem tS_new {g : Nat} (h : c.S.T g = 0) (hg : g < wx.heap.size) (hb : wx.heap.size ≤ p'.sb ∧ wx.heap.size ≤ p'.tb ∧ wx.heap.size ≤ p'.bb) : tS p' c g = 0 := by
 unfold tS
 rw [if_neg (by omega)]
 exact h
theorem MtS.opened (L : MtL w0 c) (h : MtS w0 c V v p m k wx) {sq : Int} {P : Int → ByteArray → Prop} (O : OpW wx V c sq k' P p' m' wy) : MtS w0 c V v p' m' k' wy := by
 have hs := h.out.size
 refine ⟨O.st, O.ok, O.wf, Keeps.grown h.out O.kp L.lo, ⟨Nat.le_trans hs O.lb.1, Nat.le_trans hs O.lb.2.1, Nat.le_trans hs O.lb.2.2⟩, O.V, fun j hj q hq => Nat.lt_of_lt_of_le (h.hV j hj q hq) O.kp.size, h.iv.keeps18 O.kp (fun q hq => tS_T (h.vP q hq)), fun q hq => tS_new (tS_T (h.vP q hq)) (ints_lt h.iv L.b1 q hq) O.lb⟩
theorem MtS.back (L : MtL w0 c) (h : MtS w0 c V v p m k wx) (x : Int) (hx : -9223372036854775808 ≤ x ∧ x ≤ 9223372036854775807) (hs : StAt wy p c { m with n := backS x m.n }) (hk : Keeps c.S.T wx wy) : MtS w0 c V v p { m with n := backS x m.n } k wy :=
 h.call L hs hk.less (wf_px h.wf hx)
theorem MtS.write (L : MtL w0 c) (h : MtS w0 c V v p m k wx) (hk : k < 1000000000000) (pl : Int) (dt : ByteArray) (hd : dt.size ≤ 9223372036854775807) {e : Int} (hm : waiR c 100 m ⟨pl, 1, dt⟩ = some (e, m')) :
   Calls Tryz.prog 10 #[.pointer (some ⟨p.sb, 0, none⟩), .int .i64 pl, .string dt] wx fun x w' => x = .returned (.int .i64 e) ∧ MtS w0 c V v p m' (k + 4002000) w' ∧ Keeps (tS p c) wx w' :=
 (write18 h.st h.ok h.wf L.spb (by omega) pl dt hd hm).mono fun x w' ⟨h1, h2, h3⟩ => ⟨h1, h.call L h2 h3 (wf_wai (by have := L.stt.pg; omega) h.wf hm), h3⟩
theorem MtS.trim (L : MtL w0 c) (h : MtS w0 c V v p m k wx) (hk : k < 1000000000000) (pl : Int) {e : Int} (hm : waiR c 100 m ⟨pl, 2, ⟨#[]⟩⟩ = some (e, m')) :
   Calls Tryz.prog 11 #[.pointer (some ⟨p.sb, 0, none⟩), .int .i64 pl] wx fun x w' => x = .returned (.int .i64 e) ∧ MtS w0 c V v p m' (k + 4002000) w' ∧ Keeps (tS p c) wx w' :=
 (trim18 h.st h.ok h.wf L.spb (by omega) pl hm).mono fun x w' ⟨h1, h2, h3⟩ => ⟨h1, h.call L h2 h3 (wf_wai (by have := L.stt.pg; omega) h.wf hm), h3⟩
theorem MtS.flush (L : MtL w0 c) (h : MtS w0 c V v p m k wx) (hk : k < 1000000000000) {e : Int} (hm : fluR c 100 m = some (e, m')) :
   Calls Tryz.prog 12 #[.pointer (some ⟨p.sb, 0, none⟩)] wx fun x w' => x = .returned (.int .i64 e) ∧ MtS w0 c V v p m' (k + 16008000) w' ∧ Keeps (tS p c) wx w' := by
 have hw : Wf c m' (k + 16008000) := by
   unfold fluR at hm
   split at hm
   · simp only [Option.some.injEq, Prod.mk.injEq] at hm
     rw [← hm.2]
     exact h.wf.mono (by omega)
   · have := wf_flu (by have := L.stt.pg; omega) m.q.length m k e m' h.wf hm
     have hq := h.wf.ql
     exact this.mono (by omega)
 exact (flush18 h.st h.ok h.wf L.spb (by omega) hm).mono fun x w' ⟨h1, h2, h3⟩ => ⟨h1, h.call L h2 h3 hw, h3⟩
theorem MtS.coll (L : MtL w0 c) (h : MtS w0 c V v p m k wx) (hk : k < 1000000000000) (b : Int) {e : Int} (hm : colR c m b 100 = some (e, m')) :
   Calls Tryz.prog 14 #[.pointer (some ⟨p.sb, 0, none⟩), .int .i64 b] wx fun x w' => x = .returned (.int .i64 e) ∧ MtS w0 c V v p m' (k + 4002000) w' ∧ Keeps (tS p c) wx w' :=
 (collectP18 h.st h.ok h.wf L.spb (by omega) b hm).mono fun x w' ⟨h1, h2, h3⟩ => ⟨h1, h.call L h2 h3 ((wf_col (by have := L.stt.pg; omega) h.wf hm).mono (by omega)), h3⟩
end
theorem toO_pages (a b pg d : Int) : (toO a b pg d).toNat * (pgO pg).toNat ≤ 60 := by
 have h1 := pgO_in pg
 have h2 := szO_in a
 have h3 := prO_in b
 have h4 := umN_in d 3 (by decide)
 unfold toO
 rcases (by omega : pgO pg = 2 ∨ pgO pg = 3 ∨ pgO pg = 4 ∨ pgO pg = 5 ∨ pgO pg = 6) with h | h | h | h | h
 · rw [h, show Int.toNat 2 = 2 from rfl]; omega
 · rw [h, show Int.toNat 3 = 3 from rfl]; omega
 · rw [h, show Int.toNat 4 = 4 from rfl]; omega
 · rw [h, show Int.toNat 5 = 5 from rfl]; omega
 · rw [h, show Int.toNat 6 = 6 from rfl]; omega
theorem mt_open {n0 n1 n2 n3 : Int} {zs : List Int} {p : SP} {S : NShape} {v : Value} {w w' : World} (O : OpenS w (szO n0) (prO n1) (pgO n2) (toO n0 n1 n2 n3).toNat zs p S v w') :
   MtL w (cO S zs (szO n0) (prO n1) (toO n0 n1 n2 n3).toNat) ∧ MtS w (cO S zs (szO n0) (prO n1) (toO n0 n1 n2 n3).toNat) p.V v p m0F 0 w' := by
 have hl : (cO S zs (szO n0) (prO n1) (toO n0 n1 n2 n3).toNat).bl.length = (toO n0 n1 n2 n3).toNat := blO_len _
 have h2 := toO_in n0 n1 n2 n3
 refine ⟨⟨stt_O O.pgs O.all, by rw [hl]; omega, ?_, rfl, O.lo⟩, ⟨O.st, O.ok, wf_O, O.ext, O.lb, rfl, O.hV, O.vi, fun k hk => ?_⟩⟩
 · rw [hl]
   have h3 := toO_pages n0 n1 n2 n3
   have h4 := O.pgs
   have h5 : (pgO n2).toNat = S.pg := by omega
   rw [h5] at h3
   exact h3
 · obtain ⟨_, _, a, b, d, e⟩ := O.vl k hk
   unfold tS
   rw [if_neg (by rintro (h | h | h); exact b h; exact d h; exact e h)]
   exact a
theorem open_nil19 (who ep sz sp : Int) (v : Value) (w : World) (hv : ∃ ao n cap, v = .slice ao n cap) : Calls Tryz.prog 19 #[.pointer none, .int .i64 who, .agg #[.bool true, .int .i64 ep, .int .i64 sz, .int .i64 sp, v]] w fun e w' => e = .returned (.tuple #[.pointer none, .int .i64 1]) ∧ w.grownBy w' none := by
 obtain ⟨ao, n, cap, rfl⟩ := hv
 have NEW : ∀ wx : World, Calls Tryz.prog 27 #[.pointer none, .int .i64 who, .agg #[.bool true, .int .i64 ep, .int .i64 sz, .int .i64 sp, .slice ao n cap]] wx fun e w' => e = .returned (.tuple #[.pointer none, .int .i64 1]) ∧ wx.grownBy w' none := fun wx => by
   have HE := Lib.hid (World.grownBy_alloc wx (.cells #[.bool true, .int .i64 ep, .int .i64 sz, .int .i64 sp, .slice ao n cap] 33) none)
   go_enter Tryz.func27, Tryz.ntmps27
   go_wp2
   refine bodyPost_ret (v := .tuple #[.pointer none, .int .i64 1]) (by simp [results, Tryz.results27, go_sem]) rfl ?_
   exact ⟨rfl, HE.out⟩
 have hE := World.grownBy_alloc w (.cells #[.bool true, .int .i64 ep, .int .i64 sz, .int .i64 sp, .slice ao n cap] 33) none
 have hB := Blk.new w 33 #[.bool true, .int .i64 ep, .int .i64 sz, .int .i64 sp, .slice ao n cap]
 obtain ⟨w1, hw1⟩ : ∃ y, w.alloc (.cells #[.bool true, .int .i64 ep, .int .i64 sz, .int .i64 sp, .slice ao n cap] 33) = y := ⟨_, rfl⟩
 obtain ⟨zL, hzL⟩ : ∃ z, w.heap.size = z := ⟨_, rfl⟩
 rw [hw1] at hE hB
 rw [hzL] at hB
 have HE := Lib.hid hE
 clear hE
 go_enter Tryz.func19, Tryz.ntmps19
 go_upto_region 1 with fail
 clear hw1 hzL
 go_wp2_with (first
   | (refine ten_read18 rfl _ rfl rfl hB ?_)
   | (go_at_call 27; refine (NEW _).mono ?_; rintro e w2 ⟨rfl, hE2⟩))
 refine bodyPost_ret (v := .tuple #[.pointer none, .int .i64 1]) (by simp [results, Tryz.results19, go_sem]) rfl ?_
 exact ⟨rfl, ext_trans HE.out hE2⟩
end Go.Proofs.YtdnpdoipipfkoaaGreatDoor

namespace Go.Proofs.YtdnpdoipipfkoaaGreatDoor
set_option linter.unusedVariables false
set_option linter.unusedSimpArgs false
set_option linter.unusedVariables false
set_option linter.unusedSimpArgs false
set_option maxRecDepth 100000
open Go.RowKit
theorem clm_O {S : NShape} {sz sp : Int} {tot : Nat} (hsp : 0 ≤ sp ∧ sp < tot) : Clm (cO S [] sz sp tot) m0F := ⟨sg_O hsp, dns_O, rfl, rfl⟩
theorem zs_O {S : NShape} {sz sp : Int} {tot : Nat} : (cO S [] sz sp tot).zs (cO S [] sz sp tot).who.toNat = [] := by
 show zsO [] 1 = []
 unfold zsO
 split <;> rfl
theorem clm_one {c : SC} (hz : c.zs c.who.toNat = []) (st : Stt c) {m : SM} (h : Clm c m) (hsq : m.sq + m.q.length ≤ 1000) {x : Chg} (hx : (0 ≤ x.pl ∧ x.pl < c.sz) ∧ x.dt.size ≤ 16) (hk : x.kd = 1) {P : Int → ByteArray} {B : List Chg} (hP : StK c m P B) :
   ∃ m1 m2, waiR c 100 m x = some (0, m1) ∧ fluR c 100 m1 = some (0, m2) ∧ Clm c m2 ∧ m2.q = [] ∧ m2.sq ≤ 1001 ∧ ∀ q, 0 ≤ q → q < c.sz → Plc c m2.n m2.rs q (aftN P (B ++ [x]) q) := by
 obtain ⟨e, m1, h1, C1, s1, _, D⟩ := clm_wai hz st h (by omega) (.inl hk)
 rcases D with ⟨_, _, e0, K1⟩ | ⟨D, _⟩
 · subst e0
   obtain ⟨m2, h2, C2, s2, q2, K2⟩ := clm_flu hz st C1 (by omega)
   refine ⟨m1, m2, h1, h2, C2, q2, by omega, fun q h0 h4 => ?_⟩
   obtain ⟨k, ⟨_, h5⟩, h6⟩ := (K2 _ _ (K1 _ _ hP)).done q2
   have := h5 q h0 h4
   rw [List.take_nil] at this
   exact this
 · rcases D with ⟨_, h2⟩ | ⟨_, _, h2⟩
   · exact absurd hx.1 h2
   · omega
set_option maxHeartbeats 3200000 in
theorem fixed19 (w : World) (hF : Flds w) : Calls Tryz.prog 6 #[] w fun e w' => e = .returned (.bool true) ∧ w.grownBy w' none := by
 have OP1 := open18 3 1 2 0 (.slice none 0 0) [] w hF (.inl ⟨rfl, rfl⟩) (fun k hk => by simp [Value.ownBlock] at hk) (by decide)
 clear hF
 go_enter Tryz.func6, Tryz.ntmps6
 go_upto_region 4 with (first
   | (go_at_call 7; refine OP1.mono ?_; rintro e w1 hop; obtain ⟨_, p, S, v, rfl, hO⟩ := hop.resolve_left (fun h => h.1 newE_none); have HO := Lib.hid hO; obtain ⟨vo, vn, vc, rfl⟩ := hO.vf; have hBn := Blk.new w1 33 (teC false 0 0 0 (.slice none 0 0)); clear hop hO)
   | (refine ten_store18 _ _ rfl rfl rfl hBn rfl rfl ?_; intro w2 hb2 hg2 hs2))
 have hE12 := g17_new (World.grownBy_alloc w1 (.cells (teC false 0 0 0 (.slice none 0 0)) 33) none) hg2 (Nat.le_refl _)
 obtain ⟨L, M0⟩ := mt_open HO.out
 have M2 := M0.ext hE12
 obtain ⟨c, hc⟩ : ∃ z, cO S [] (szO 3) (prO 1) (toO 3 1 2 0).toNat = z := ⟨_, rfl⟩
 have hz : c.zs c.who.toNat = [] := by rw [← hc]; exact zs_O
 have hC0 : Clm c m0F := by rw [← hc]; exact clm_O (open_room 3 1 2 0)
 have hK0 : StK c m0F (fun _ => ⟨#[]⟩) [] := by rw [← hc]; exact stK_O
 have hS : S = c.S := by rw [← hc]; rfl
 have hsz : szO 3 = c.sz := by rw [← hc]; rfl
 have hsp : prO 1 = c.sp := by rw [← hc]; rfl
 have hep : c.ep = 1 := by rw [← hc]; rfl
 have hsz4 : c.sz = 4 := by rw [← hsz]; exact szF
 rw [hc] at L M2
 clear hc M0
 have ht2 : tS p c w1.heap.size = 0 := by
   have h1 := HO.out.st.fresh (k := w1.heap.size) (Nat.le_refl _)
   unfold tS at h1 ⊢
   rw [← hS]
   exact h1
 obtain ⟨m1, m2, hw1, hf1, C2, q2, s2, pl2⟩ := clm_one hz L.stt hC0 (by decide) (x := ⟨2, 1, hiB⟩) ⟨⟨by decide, by show (2 : Int) < c.sz; omega⟩, by decide⟩ rfl hK0
 have WR := M2.write L (by decide) 2 hiB (by decide) hw1
 have HL := Lib.hid L
 have HM := Lib.hid (And.intro C2 (And.intro q2 (And.intro s2 (pl2 2 (by decide) (by omega)))))
 have HF1 := Lib.hid hf1
 have HI := Lib.hid (show hiB = ⟨#[104, 105]⟩ from rfl)
 have HT := Lib.hid (And.intro ht2 (And.intro (show 0 ≤ (2 : Int) ∧ (2 : Int) < c.sz by omega) hep))
 rw [hsz, hsp] at hb2
 rw [HI.out] at WR
 subst hS
 rw [hsz, hsp]
 have HB2 := Lib.hid hb2
 clear hBn hb2 hg2 hs2 hE12 OP1 hC0 hK0 hsz hsp hep hsz4 ht2 C2 q2 s2 pl2 hw1 hf1 L M2 HO hz
 go_upto_region 6 with (first
   | (go_at_call 10; refine WR.mono ?_; rintro e w3 ⟨rfl, hM3, hk3⟩; have FL := hM3.flush HL.out (by omega) HF1.out; have HK3 := Lib.hid hk3; clear hM3 hk3)
   | (go_at_call 12; refine FL.mono ?_; rintro e w4 ⟨rfl, hM4, hk4⟩; have H4 := Lib.hid (And.intro hM4 (HK3.out.trans hk4)); clear hM4 hk4))
 clear WR FL
 have hB4 := H4.out.2.blk18 HB2.out HT.out.1
 have OPN := (H4.out.1.ars (HM.out.1.G.rdy HM.out.1.dn)).opn (H4.out.1.arc HL.out) HM.out.1.G.off (by omega) (by have := HM.out.2.2.1; omega)
 rcases OPN with ⟨m3, m1', G3, D3, Q3, S3, F3, P3, X3, _, OPC⟩ | ⟨hx, _⟩
 · have px3 := X3 HM.out.1.px
   have hpl := P3 2 _ HM.out.2.2.2
   obtain ⟨r1, r2⟩ := rea_plc HL.out.stt ⟨px3, m1'⟩ G3.W.R Q3 HT.out.2.1 hpl
   rw [show aftN (fun _ => ⟨#[]⟩) ([] ++ [(⟨2, 1, hiB⟩ : Chg)]) 2 = hiB from rfl] at r2
   have HR := Lib.hid (And.intro r1 r2)
   have HF3 := Lib.hid F3
   have ON := fun wx => open_nil19 1 1 c.sz c.sp (.slice vo vn vc) wx ⟨_, _, _, rfl⟩
   rw [HT.out.2.2] at OPC
   clear m1' G3 D3 Q3 S3 F3 P3 X3 px3 hpl r1 r2
   go_upto_region 7 with (first
     | (refine ten_read18 rfl _ rfl rfl hB4 ?_)
     | (go_at_call 19; refine OPC.mono ?_; rintro e w5 ⟨p5, rfl, st5, ok5, hV5, b1, b2, b3, b4, k5⟩; have H5 := Lib.hid (And.intro (Keeps.grown H4.out.1.out k5 HL.out.lo) (And.intro st5 ok5)); have hB5 := k5.blk18 hB4 (tS_T HT.out.1); have RD := read18 st5 ok5 HF3.out 2; clear hB4 st5 ok5 hV5 b1 b2 b3 b4 k5))
   rw [HR.out.1, HR.out.2, HI.out] at RD
   clear OPC
   go_upto_region 8 with (go_at_call 21; refine RD.mono ?_; rintro e w6 ⟨rfl, hE6⟩; have hB6 := hB5.ext hE6; have HE6 := Lib.hid (ext_trans H5.out.1 hE6); clear hE6 hB5)
   clear RD
   have ON6 := ON w6
   clear ON
   go_wp2_with (first
     | (refine ten_read18 rfl _ rfl rfl hB6 ?_)
     | (go_at_call 19; refine ON6.mono ?_; rintro e w7 ⟨rfl, hE7⟩; clear hB6))
   go_ret
   exact ⟨rfl, ext_trans HE6.out hE7⟩
 · exact absurd HM.out.1.px hx
end Go.Proofs.YtdnpdoipipfkoaaGreatDoor

namespace Go.Proofs.YtdnpdoipipfkoaaGreatDoor
set_option linter.unusedVariables false
set_option linter.unusedSimpArgs false
set_option linter.unusedVariables false
set_option linter.unusedSimpArgs false
set_option maxRecDepth 100000
open Go.RowKit
structure RowC (cur : Array Value) (B : List Chg) : Prop where
 at' : ∀ i y, B[i]? = some y → cur[i * 2]? = some (Value.int .i64 y.pl) ∧ cur[i * 2 + 1]? = some (Value.string y.dt)
 nb : ∀ (o : Nat) (x : Int), cur[o]? ≠ some (Value.int .u8 x)
def chZ : Array Value := #[.int .i64 0, .string ⟨#[]⟩]
theorem chZ_nb (k o : Nat) (x : Int) : (Builtin.zeroCells chZ k)[o]? ≠ some (.int .u8 x) := by
 intro h
 unfold Builtin.zeroCells at h
 rw [Array.getElem?_map] at h
 by_cases ho : o < k * chZ.size
 · rw [Array.getElem?_range, if_pos ho] at h
   simp only [Option.map_some, Option.some.injEq] at h
   rcases Nat.mod_two_eq_zero_or_one o with e | e
   · rw [show chZ.size = 2 from rfl, e] at h; cases h
   · rw [show chZ.size = 2 from rfl, e] at h; cases h
 · rw [Array.getElem?_range, if_neg ho] at h; cases h
theorem RowC.room {cur : Array Value} {B : List Chg} (h : RowC cur B) (y : Chg) (hs : B.length * 2 + 2 ≤ cur.size) : RowC ((cur.setIfInBounds (B.length * 2) (.int .i64 y.pl)).setIfInBounds (B.length * 2 + 1) (.string y.dt)) (B ++ [y]) := by
 refine ⟨fun i z hi => ?_, fun o x ho => ?_⟩
 · rcases Nat.lt_trichotomy i B.length with hl | hl | hl
   · rw [List.getElem?_append_left hl] at hi
     rw [Array.getElem?_setIfInBounds_ne (by omega), Array.getElem?_setIfInBounds_ne (by omega), Array.getElem?_setIfInBounds_ne (by omega), Array.getElem?_setIfInBounds_ne (by omega)]
     exact h.at' i z hi
   · subst hl
     rw [List.getElem?_append_right (Nat.le_refl _), Nat.sub_self] at hi
     simp only [List.getElem?_cons_zero, Option.some.injEq] at hi
     subst hi
     rw [Array.getElem?_setIfInBounds_ne (by omega), Array.getElem?_setIfInBounds_self_of_lt (by omega), Array.getElem?_setIfInBounds_self_of_lt (by simp; omega)]
     exact ⟨rfl, rfl⟩
   · rw [List.getElem?_eq_none (by simp; omega)] at hi; cases hi
 · by_cases e1 : o = B.length * 2 + 1
   · subst e1
     rw [Array.getElem?_setIfInBounds_self_of_lt (by simp; omega)] at ho; cases ho
   · rw [Array.getElem?_setIfInBounds_ne (by omega)] at ho
     by_cases e2 : o = B.length * 2
     · subst e2
       rw [Array.getElem?_setIfInBounds_self_of_lt (by omega)] at ho; cases ho
     · rw [Array.getElem?_setIfInBounds_ne (by omega)] at ho
       exact h.nb o x ho
def chN (y : Chg) : List Value := [.int .i64 y.pl, .string y.dt]
theorem RowC.grow {cur : Array Value} {B : List Chg} (h : RowC cur B) (y : Chg) (hs : B.length * 2 ≤ cur.size) (k : Nat) : RowC ((cur.toList.take (B.length * 2)).toArray ++ (chN y).toArray ++ Builtin.zeroCells chZ k) (B ++ [y]) := by
 have hl0 : ((cur.toList.take (B.length * 2)).toArray).size = B.length * 2 := by simp; omega
 have hl1 : ((cur.toList.take (B.length * 2)).toArray ++ (chN y).toArray).size = B.length * 2 + 2 := by rw [Array.size_append, hl0]; rfl
 have a0 : ∀ o, o < B.length * 2 → ((cur.toList.take (B.length * 2)).toArray ++ (chN y).toArray ++ Builtin.zeroCells chZ k)[o]? = cur[o]? := fun o ho => by
   rw [Array.getElem?_append_left (by omega), Array.getElem?_append_left (by omega)]
   simp [ho]
 have a1 : ∀ j, j < 2 → ((cur.toList.take (B.length * 2)).toArray ++ (chN y).toArray ++ Builtin.zeroCells chZ k)[B.length * 2 + j]? = (chN y)[j]? := fun j hj => by
   rw [Array.getElem?_append_left (by omega), Array.getElem?_append_right (by omega), hl0, Nat.add_sub_cancel_left]
   simp
 refine ⟨fun i z hi => ?_, fun o x ho => ?_⟩
 · rcases Nat.lt_trichotomy i B.length with hl | hl | hl
   · rw [List.getElem?_append_left hl] at hi
     rw [a0 _ (by omega), a0 _ (by omega)]
     exact h.at' i z hi
   · subst hl
     rw [List.getElem?_append_right (Nat.le_refl _), Nat.sub_self] at hi
     simp only [List.getElem?_cons_zero, Option.some.injEq] at hi
     subst hi
     exact ⟨a1 0 (by omega), a1 1 (by omega)⟩
   · rw [List.getElem?_eq_none (by simp; omega)] at hi; cases hi
 · by_cases e : o < B.length * 2
   · rw [a0 o e] at ho; exact h.nb o x ho
   · by_cases e1 : o < B.length * 2 + 2
     · obtain ⟨j, rfl⟩ : ∃ j, o = B.length * 2 + j := ⟨o - B.length * 2, by omega⟩
       rw [a1 j (by omega)] at ho
       rcases (by omega : j = 0 ∨ j = 1) with rfl | rfl
       · cases ho
       · cases ho
     · rw [Array.getElem?_append_right (by omega)] at ho
       exact chZ_nb _ _ _ ho
def BehV (w : World) (F : Nat → Prop) (v : Value) (B : List Chg) : Prop :=
 (B = [] ∧ v = .slice none 0 0) ∨ ∃ g cap cur, v = .slice (some ⟨g, 0, none⟩) B.length cap ∧ B.length ≤ cap ∧ cur.size = cap * 2 ∧ F g ∧ w.heap[g]? = some (.cells cur 44 (0, 0)) ∧ RowC cur B
theorem behV_nil {w : World} {F : Nat → Prop} : BehV w F (.slice none 0 0) [] := .inl ⟨rfl, rfl⟩
theorem BehV.form {w : World} {F : Nat → Prop} {v : Value} {B : List Chg} (h : BehV w F v B) : ∃ a cap, v = .slice a B.length cap := by
 rcases h with ⟨rfl, rfl⟩ | ⟨g, cap, _, rfl, _⟩
 · exact ⟨_, _, rfl⟩
 · exact ⟨_, _, rfl⟩
theorem BehV.block {w w' : World} {F : Nat → Prop} {v : Value} {B : List Chg} (h : BehV w F v B) (hb : ∀ g, F g → g < w.heap.size → w'.heap[g]? = w.heap[g]?) : BehV w' F v B := by
 rcases h with h | ⟨g, cap, cur, h1, h2, h3, h4, h5, h6⟩
 · exact .inl h
 · exact .inr ⟨g, cap, cur, h1, h2, h3, h4, (hb g h4 (Array.getElem?_eq_some_iff.1 h5).1).trans h5, h6⟩
theorem BehV.ext {w w' : World} {F : Nat → Prop} {v : Value} {B : List Chg} (h : BehV w F v B) (hE : w.grownBy w' none) : BehV w' F v B := h.block fun g _ hl => hE.block g hl (by simp)
theorem BehV.keeps {T : Nat → Nat} {w w' : World} {F : Nat → Prop} {v : Value} {B : List Chg} (h : BehV w F v B) (hk : Keeps T w w') (hF : ∀ g, F g → T g = 0) : BehV w' F v B := h.block fun g h1 hl => hk.block g hl (hF g h1)
def bX (B : List Chg) (i : Nat) : Int × ByteArray := match B[i]? with | some y => (y.pl, y.dt) | none => (0, ⟨#[]⟩)
theorem BehV.chr {w : World} {F : Nat → Prop} {a : Option Addr} {n cap : Nat} {B : List Chg} (h : BehV w F (.slice a n cap) B) {k : Nat} (hk : k ≤ B.length) : ChR w a k (bX B) := fun i hi => by
 rcases h with ⟨rfl, _⟩ | ⟨g, cap, cur, h1, h2, h3, h4, h5, h6⟩
 · simp at hk; omega
 · injection h1 with e1 _ _
   refine ⟨g, 0, e1, ?_⟩
   have hb : B[i]? = some (B[i]'(by omega)) := List.getElem?_eq_getElem (by omega)
   obtain ⟨c0, c1⟩ := h6.at' i _ hb
   have hx : bX B i = ((B[i]'(by omega)).pl, (B[i]'(by omega)).dt) := by unfold bX; rw [hb]
   rw [hx, Nat.zero_add]
   intro j u hj
   rw [cell_of_row w g _ cur _ (0, 0) h5]
   match j, hj with
   | 0, hj => simp [ch2C] at hj; subst hj; exact c0
   | 1, hj => simp [ch2C] at hj; subst hj; exact c1
   | j + 2, hj => simp [ch2C] at hj
theorem Tryz.infoCh2 : (Tryz.prog.info? 44).map (fun i => (i.zero, i.size, i.bytes)) = some (some (.agg #[.int .i64 0, .string ⟨#[]⟩]), 2, 24) := by kernel_rfl
def AppW (w w' : World) (F : Nat → Prop) : Prop := w.grownBy w' none ∨ ∃ g, F g ∧ w.grownBy w' (some g) ∧ ∀ o x, w.cell? ⟨g, o, none⟩ ≠ some (.int .u8 x)
theorem run_app19 (w : World) (F : Nat → Prop) {v : Value} {B : List Chg} (h : BehV w F v B) (hB : B.length ≤ 1000) (ad : Addr) (cap : Nat) (y : Chg) (hc : ∀ j u, (chN y)[j]? = some u → w.cell? (ad.add j) = some u) (hF : F w.heap.size) (ty : TypeId) :
   ∃ v' w', (Builtin.append_ #[37, 37] ty #[v, .slice (some ad) 1 cap]).run Tryz.prog w = .ok v' w' ∧ BehV w' F v' (B ++ [y]) ∧ AppW w w' F := by
 obtain ⟨i0, hi, hz0, hz1, hz2⟩ := info_parts Tryz.infoCh2
 have hzc : (Value.agg #[.int .i64 0, .string ⟨#[]⟩]).cells = chZ := rfl
 have hn : (chN y).length = 1 * i0.size := by rw [hz1]; rfl
 rcases h with ⟨rfl, rfl⟩ | ⟨g, cp, cur, rfl, h2, h3, h4, h5, h6⟩
 · have R := run_append_nil (P := Tryz.prog) w 37 ty 44 i0 _ Tryz.underlying37 hi hz0 ad 1 cap (chN y) hn hc (by omega) (by omega) (by rw [hz2]; decide)
   have hge := grownCap_ge w 1 0 44
   rw [hzc] at R
   refine ⟨_, _, R, .inr ⟨w.heap.size, _, _, rfl, hge, ?_, hF, heap_alloc_new w.drew _, ?_⟩, .inl (ext_trans (Ext.drew w) (World.grownBy_alloc w.drew _ none))⟩
   · rw [Array.size_append, size_zeroCells]
     show 2 + _ * 2 = _
     omega
   · have := RowC.grow (cur := #[]) (B := []) ⟨fun i y h => by simp at h, fun o x h => by simp at h⟩ y (by simp) (grownCap w 1 0 44 - 1)
     simpa using this
 · by_cases hr : B.length + 1 ≤ cp
   · have R := run_append_room_cells (P := Tryz.prog) w 37 ty 44 i0 Tryz.underlying37 hi g 0 B.length cp ad 1 cap (chN y) hn hc (by simp [chN, Value.oneCell']) hr (fun j hj => by
       rw [cell_of_row w g _ cur _ (0, 0) h5, hz1]
       have : (chN y).length = 2 := rfl
       rw [Array.getElem?_eq_getElem (by omega)]
       rfl) (fun j hj => frozen_of_row w g _ cur _ h5)
     rw [Nat.zero_add, hz1] at R
     have e1 := heap_setCell_same w g (B.length * 2) cur _ (.int .i64 y.pl) h5
     have e2 := heap_setCell_same _ g (B.length * 2 + 1) _ _ (.string y.dt) e1
     refine ⟨_, _, R, .inr ⟨g, cp, _, by simp, by simpa using hr, ?_, h4, e2, h6.room y (by omega)⟩, .inr ⟨g, h4, gb_set (gb_set (gb_refl w _) _ _) _ _, fun o x ho => ?_⟩⟩
     · simpa using h3
     · rw [cell_of_row w g _ cur _ (0, 0) h5] at ho
       exact h6.nb o x ho
   · have hfit : Builtin.nextslicecap (B.length + 1) cp * i0.bytes ≤ 281474976710656 := growslice_fits (by omega) (by rw [hz2]; omega)
     have R := run_append_grow (P := Tryz.prog) w 37 ty 44 i0 _ Tryz.underlying37 hi hz0 ⟨g, 0, none⟩ B.length cp (cur.toList.take (B.length * 2)) (by rw [hz1]; simp; omega) (fun j u hj => by
       rw [addr_add, Nat.zero_add, cell_of_row w g _ cur _ (0, 0) h5]
       rw [List.getElem?_take] at hj
       split at hj
       · rw [Array.getElem?_toList] at hj; exact hj
       · cases hj) ad 1 cap (chN y) hn hc (by omega) (by omega) hfit
     have hge := grownCap_ge w (B.length + 1) cp 44
     rw [hzc] at R
     refine ⟨_, _, R, .inr ⟨w.heap.size, grownCap w (B.length + 1) cp 44, _, by rw [List.length_append, List.length_singleton], by simpa using hge, ?_, hF, heap_alloc_new w.drew _, h6.grow y (by omega) _⟩, .inl (ext_trans (Ext.drew w) (World.grownBy_alloc w.drew _ none))⟩
     rw [Array.size_append, Array.size_append, size_zeroCells]
     have : ((cur.toList.take (B.length * 2)).toArray).size = B.length * 2 := by simp; omega
     rw [this]
     show B.length * 2 + 2 + _ * 2 = _
     omega
theorem wpList_app19 (w : World) (F : Nat → Prop) {ops : Array Oper} {rest : List Oper} {o : Oper} {a : Act} {Q : Exit → Act → World → Prop}
   (hg : o.guard = none) (s x : Operand) (hop : o.op = Op.call { callee := Callee.builtin Builtin.append, args := #[s, x], argTypes := #[37, 37] })
   {v : Value} (hs : a.eval s = v) {B : List Chg} (h : BehV w F v B) (hB : B.length ≤ 1000) (ad : Addr) (cap : Nat) (y : Chg) (hx : a.eval x = .slice (some ad) 1 cap) (hc : ∀ j u, (chN y)[j]? = some u → w.cell? (ad.add j) = some u) (hF : F w.heap.size)
   (hK : ∀ v' w', BehV w' F v' (B ++ [y]) → AppW w w' F → wpList Tryz.prog ops Q rest (a.put o.dst v') w') :
   wpList Tryz.prog ops Q (o :: rest) a w := by
 refine wpList_plain hg fun K hK' => ?_
 obtain ⟨v', w', hrun, r1, r2⟩ := run_app19 w F h hB ad cap y hc hF o.type
 unfold Oper.wp
 simp [execOp, hop, resolve, invoke, builtin, hs, hx, hrun, Result.andThen]
 exact hK' _ _ (hK v' w' r1 r2)
theorem ch2_new (w : World) (y : Chg) (T : TypeId) : ∀ j u, (chN y)[j]? = some u → (w.alloc (.cells #[.int .i64 y.pl, .string y.dt] T)).cell? ((⟨w.heap.size, 0, none⟩ : Addr).add j) = some u := by
 intro j u hj
 have hb := Blk.new w T #[.int .i64 y.pl, .string y.dt]
 have h1 := hb.cell j
 rw [addr_add, Nat.zero_add]
 exact h1.trans (by simpa [chN] using hj)
theorem aftF_aftN {n : Nat} {F : Nat → ByteArray} {B : List Chg} : ∀ k, k ≤ B.length → ∀ i, i < n → aftF n F (bX B) k i = aftN (fun q => F q.toNat) (B.take k) i
 | 0, _, i, _ => by simp [aftF, aftN]
 | k + 1, hk, i, hi => by
   have ih := aftF_aftN (F := F) (B := B) k (by omega) i hi
   have hb : B[k]? = some (B[k]'(by omega)) := List.getElem?_eq_getElem (by omega)
   have hx : bX B k = ((B[k]'(by omega)).pl, (B[k]'(by omega)).dt) := by unfold bX; rw [hb]
   rw [List.take_add_one, hb]
   show _ = aftN _ (B.take k ++ [B[k]]) _
   rw [aft_snoc, aftF, hx]
   simp only
   by_cases h : 0 ≤ (B[k]'(by omega)).pl ∧ (B[k]'(by omega)).pl < n
   · rw [if_pos h]
     unfold updF
     by_cases e : (i : Int) = (B[k]'(by omega)).pl
     · rw [if_pos e, if_pos (by omega)]
     · rw [if_neg e, if_neg (by omega)]
       exact ih
   · rw [if_neg h, if_neg (by omega)]
     exact ih
end Go.Proofs.YtdnpdoipipfkoaaGreatDoor

namespace Go.Proofs.YtdnpdoipipfkoaaGreatDoor
set_option linter.unusedVariables false
set_option linter.unusedSimpArgs false
set_option linter.unusedVariables false
set_option linter.unusedSimpArgs false
set_option maxRecDepth 100000
open Go.RowKit
structure FrB (w0 : World) (p : SP) (c : SC) (V : Nat → Value) (v : Value) (tb g q : Nat) : Prop where
 t : tS p c q = 0
 z : q ≠ 0
 lo : w0.heap.size ≤ q
 tb : q ≠ tb
 g : q ≠ g
 V : ∀ j, j < 4 → ∀ k, (V j).ownBlock = some k → k ≠ q
 b : ∀ k, p.bv.ownBlock = some k → k ≠ q
 v : ∀ k, v.ownBlock = some k → k ≠ q
structure InS (w0 : World) (c : SC) (V : Nat → Value) (v : Value) (tb sz : Nat) (p : SP) (g : Nat) (F : Nat → ByteArray) (bv : Value) (B B2 : List Chg) (at' ix : Nat) (m : SM) (wx : World) : Prop where
 mt : MtS w0 c V v p m (16008000 * (at' : Int) + 4000 * (ix : Int)) wx
 dn : Dns c.S m.n
 tn : Blk wx tb 33 (teC true c.ep c.sz c.sp v)
 tt : tS p c tb = 0
 ss : StB wx g sz F
 gt : tS p c g = 0
 bh : BehV wx (FrB w0 p c V v tb g) bv B
 lb : B.length ≤ at'
 sq : m.sq + m.q.length ≤ at'
 ok : (SG c m ∧ StK c m (fun q => F q.toNat) B2) ∨ (CG c m ∧ CtK c m (fun q => F q.toNat) B2)
section
variable {w0 wx wy : World} {c : SC} {V : Nat → Value} {v : Value} {tb sz : Nat} {p : SP} {g : Nat} {F : Nat → ByteArray} {bv : Value} {B B2 : List Chg} {at' ix : Nat} {m m' : SM}
theorem InS.ext (h : InS w0 c V v tb sz p g F bv B B2 at' ix m wx) (hg : wx.grownBy wy none) : InS w0 c V v tb sz p g F bv B B2 at' ix m wy :=
 ⟨h.mt.ext hg, h.dn, h.tn.ext hg, h.tt, h.ss.ext hg, h.gt, h.bh.ext hg, h.lb, h.sq, h.ok⟩
theorem InS.mono (h : InS w0 c V v tb sz p g F bv B B2 at' ix m wx) {at2 ix2 : Nat} (h1 : at' ≤ at2) (h2 : ix ≤ ix2) : InS w0 c V v tb sz p g F bv B B2 at2 ix2 m wx :=
 ⟨h.mt.mono (by omega), h.dn, h.tn, h.tt, h.ss, h.gt, h.bh, Nat.le_trans h.lb h1, by have := h.sq; omega, h.ok⟩
theorem InS.fr (L : MtL w0 c) (h : InS w0 c V v tb sz p g F bv B B2 at' ix m wx) (q : Nat) (hq : wx.heap.size ≤ q) : FrB w0 p c V v tb g q :=
 ⟨h.mt.st.fresh hq, by have := h.mt.st.fl.lt; omega, by have := h.mt.out.size; omega, by have := h.tn.lt; omega, by have := h.ss.lt; omega, fun j hj k hk => by have := h.mt.hV j hj k hk; omega,
   fun k hk => by have := ints_lt h.mt.st.iv L.b1 k hk; omega, fun k hk => by have := ints_lt h.mt.iv L.b1 k hk; omega⟩
theorem InS.call (h : InS w0 c V v tb sz p g F bv B B2 at' ix m wx) {B3 : List Chg} (hm : MtS w0 c V v p m' (16008000 * (at' : Int) + 4000 * (ix : Int)) wy) (hk : Keeps (tS p c) wx wy) (hd : Dns c.S m'.n) (hs : m'.sq + m'.q.length ≤ at') (ho : (SG c m' ∧ StK c m' (fun q => F q.toNat) B3) ∨ (CG c m' ∧ CtK c m' (fun q => F q.toNat) B3)) : InS w0 c V v tb sz p g F bv B B3 at' ix m' wy :=
 ⟨hm, hd, hk.blk18 h.tn h.tt, h.tt, h.ss.keeps hk h.gt, h.gt, h.bh.keeps hk (fun q hq => hq.t), h.lb, hs, ho⟩
theorem CtK.more {c : SC} {m : SM} {P : Int → ByteArray} {B : List Chg} (h : CtK c m P B) (x : Chg) : CtK c m P (B ++ [x]) := by
 obtain ⟨k, h1, h2⟩ := h
 refine ⟨k, by simp; omega, fun q h0 h3 => ?_⟩
 rw [List.take_append_of_le_length h1]
 exact h2 q h0 h3
theorem InS.wai (L : MtL w0 c) (h : InS w0 c V v tb sz p g F bv B B at' ix m wx) (hG : SG c m) (hS : StK c m (fun q => F q.toNat) B) {x : Chg} (hk : x.kd = 1 ∨ (x.kd = 2 ∧ x.dt = ⟨#[]⟩)) (hb : at' < 1000 ∧ ix ≤ 1000) :
   ∃ e m', waiR c 100 m x = some (e, m') ∧ ∃ a B3, ((a = true ∧ (e = 0 ∨ e = 12) ∧ B3 = B ++ [x]) ∨ (a = false ∧ (e = 5 ∨ e = 3 ∨ e = 13) ∧ B3 = B)) ∧
     ∀ wy, MtS w0 c V v p m' (16008000 * (at' : Int) + 4000 * (ix : Int) + 4002000) wy → Keeps (tS p c) wx wy → InS w0 c V v tb sz p g F bv B B3 (at' + 1) ix m' wy := by
 have hsq := h.sq
 obtain ⟨e, m', h1, s1, s2, D⟩ := wai_on L.stt hG (by omega) hk
 have hd := (dns_stb c).wai h.dn h1
 have H := fun wy (hm : MtS w0 c V v p m' (16008000 * (at' : Int) + 4000 * (ix : Int) + 4002000) wy) (hk : Keeps (tS p c) wx wy) B3 ho => (h.mono (Nat.le_succ at') (Nat.le_refl ix)).call (B3 := B3) (hm.mono (by omega)) hk hd (by omega) ho
 refine ⟨e, m', h1, ?_⟩
 rcases D with ⟨e0, G, _, _, _, p1⟩ | ⟨e0, G, _, p1⟩ | ⟨e0, G, p1⟩
 · exact ⟨true, B ++ [x], .inl ⟨rfl, .inl e0, rfl⟩, fun wy hm hk => H wy hm hk _ (.inl ⟨G, p1 _ _ hS⟩)⟩
 · exact ⟨false, B, .inr ⟨rfl, e0, rfl⟩, fun wy hm hk => H wy hm hk _ (.inl ⟨G, p1 _ _ hS⟩)⟩
 · exact ⟨true, B ++ [x], .inl ⟨rfl, .inr e0, rfl⟩, fun wy hm hk => H wy hm hk _ (.inr ⟨G, (p1 _ _ hS).more x⟩)⟩
theorem InS.write (L : MtL w0 c) (h : InS w0 c V v tb sz p g F bv B B at' ix m wx) (hG : SG c m) (hS : StK c m (fun q => F q.toNat) B) (pl : Int) (dt : ByteArray) (hd : dt.size ≤ 9223372036854775807) (hb : at' < 1000 ∧ ix ≤ 1000) :
   ∃ e m' a B3, ((a = true ∧ (e = 0 ∨ e = 12) ∧ B3 = B ++ [⟨pl, 1, dt⟩]) ∨ (a = false ∧ (e = 5 ∨ e = 3 ∨ e = 13) ∧ B3 = B)) ∧
     Calls Tryz.prog 10 #[.pointer (some ⟨p.sb, 0, none⟩), .int .i64 pl, .string dt] wx fun er wy => er = .returned (.int .i64 e) ∧ InS w0 c V v tb sz p g F bv B B3 (at' + 1) ix m' wy ∧ Keeps (tS p c) wx wy := by
 obtain ⟨e, m', h1, a, B3, h2, h3⟩ := h.wai L hG hS (x := ⟨pl, 1, dt⟩) (.inl rfl) hb
 exact ⟨e, m', a, B3, h2, (h.mt.write L (by omega) pl dt hd h1).mono fun er wy ⟨a1, a2, a3⟩ => ⟨a1, h3 wy a2 a3, a3⟩⟩
theorem InS.trim (L : MtL w0 c) (h : InS w0 c V v tb sz p g F bv B B at' ix m wx) (hG : SG c m) (hS : StK c m (fun q => F q.toNat) B) (pl : Int) (hb : at' < 1000 ∧ ix ≤ 1000) :
   ∃ e m' a B3, ((a = true ∧ (e = 0 ∨ e = 12) ∧ B3 = B ++ [⟨pl, 2, ⟨#[]⟩⟩]) ∨ (a = false ∧ (e = 5 ∨ e = 3 ∨ e = 13) ∧ B3 = B)) ∧
     Calls Tryz.prog 11 #[.pointer (some ⟨p.sb, 0, none⟩), .int .i64 pl] wx fun er wy => er = .returned (.int .i64 e) ∧ InS w0 c V v tb sz p g F bv B B3 (at' + 1) ix m' wy ∧ Keeps (tS p c) wx wy := by
 obtain ⟨e, m', h1, a, B3, h2, h3⟩ := h.wai L hG hS (x := ⟨pl, 2, ⟨#[]⟩⟩) (.inr ⟨rfl, rfl⟩) hb
 exact ⟨e, m', a, B3, h2, (h.mt.trim L (by omega) pl h1).mono fun er wy ⟨a1, a2, a3⟩ => ⟨a1, h3 wy a2 a3, a3⟩⟩
theorem InS.flush (L : MtL w0 c) (h : InS w0 c V v tb sz p g F bv B B at' ix m wx) (hG : SG c m) (hS : StK c m (fun q => F q.toNat) B) (hb : at' < 1000 ∧ ix ≤ 1000) :
   ∃ e m', ((e = 0 ∧ SG c m' ∧ StK c m' (aftN (fun q => F q.toNat) B) []) ∨ e = 13 ∨ e = 12) ∧
     Calls Tryz.prog 12 #[.pointer (some ⟨p.sb, 0, none⟩)] wx fun er wy => er = .returned (.int .i64 e) ∧ InS w0 c V v tb sz p g F bv B B (at' + 1) ix m' wy := by
 have hsq := h.sq
 obtain ⟨e, m', h1, s1, s2, D⟩ := flu_on L.stt hG (by omega)
 have hd := (dns_stb c).flu h.dn h1
 refine ⟨e, m', ?_, (h.mt.flush L (by omega) h1).mono fun er wy ⟨a1, a2, a3⟩ => ⟨a1, (h.mono (Nat.le_succ at') (Nat.le_refl ix)).call (a2.mono (by omega)) a3 hd (by omega) ?_⟩⟩
 · rcases D with ⟨e0, G, _, hq, p1⟩ | ⟨e0, _⟩ | ⟨e0, _⟩
   · exact .inl ⟨e0, G, (p1 _ _ hS).done hq⟩
   · exact .inr (.inl e0)
   · exact .inr (.inr e0)
 · rcases D with ⟨e0, G, _, hq, p1⟩ | ⟨e0, G, _, p1⟩ | ⟨e0, G, p1⟩
   · exact .inl ⟨G, p1 _ _ hS⟩
   · exact .inl ⟨G, p1 _ _ hS⟩
   · exact .inr ⟨G, p1 _ _ hS⟩
theorem InS.coll (L : MtL w0 c) (h : InS w0 c V v tb sz p g F bv B B at' ix m wx) (hG : SG c m) (hS : StK c m (fun q => F q.toNat) B) (b : Int) (hb : at' < 1000 ∧ ix ≤ 1000) :
   ∃ e m', Calls Tryz.prog 14 #[.pointer (some ⟨p.sb, 0, none⟩), .int .i64 b] wx fun er wy => er = .returned (.int .i64 e) ∧ InS w0 c V v tb sz p g F bv B B (at' + 1) ix m' wy := by
 have hsq := h.sq
 obtain ⟨e, m', h1, s1, s2, D⟩ := col_on L.stt hG b
 have hd := (dns_stb c).col h.dn h1
 refine ⟨e, m', (h.mt.coll L (by omega) b h1).mono fun er wy ⟨a1, a2, a3⟩ => ⟨a1, (h.mono (Nat.le_succ at') (Nat.le_refl ix)).call (a2.mono (by omega)) a3 hd (by rw [s1, s2]; omega) ?_⟩⟩
 rcases D with ⟨G, p1⟩ | ⟨_, G, p1⟩
 · exact .inl ⟨G, p1 _ _ hS⟩
 · exact .inr ⟨G, p1 _ _ hS⟩
theorem InS.app (h : InS w0 c V v tb sz p g F bv B B2 at' ix m wx) {bv' : Value} {B' : List Chg} (hl : B'.length ≤ at') (hB : BehV wy (FrB w0 p c V v tb g) bv' B') (hA : AppW wx wy (FrB w0 p c V v tb g)) : InS w0 c V v tb sz p g F bv' B' B2 at' ix m wy := by
 rcases hA with hA | ⟨q, hq, hg, hn⟩
 · have h2 := h.ext hA
   exact ⟨h2.mt, h2.dn, h2.tn, h2.tt, h2.ss, h2.gt, hB, hl, h2.sq, h2.ok⟩
 · have e := h.mt.eV
   have hne : ∀ {k : Nat}, k ≠ q → some k ≠ some q := fun h e => h (by injection e)
   obtain ⟨t1, t2, t3, t4⟩ := tS_zero hq.t
   refine ⟨⟨h.mt.st.other h.mt.ok hg t1 hq.z t2 t3 t4 hq.b (by rw [e]; exact hq.V) hn, h.mt.ok, h.mt.wf, g17_new h.mt.out hg hq.lo, h.mt.lb, e, fun j hj k hk => Nat.lt_of_lt_of_le (h.mt.hV j hj k hk) hg.size, h.mt.iv.kept hg (fun k hk => hne (hq.v k hk)), h.mt.vP⟩,
     h.dn, h.tn.kept hg (hne (fun e => hq.tb e.symm)), h.tt, h.ss.block (hg.block g h.ss.lt (hne (fun e => hq.g e.symm))), h.gt, hB, hl, h.sq, h.ok⟩
theorem InS.dur (h : InS w0 c V v tb sz p g F bv B B2 at' ix m wx) (hz : c.sz = sz) {g' : Nat} {F' : Nat → ByteArray} (hs : StB wy g' sz F') (hg : wx.grownBy wy none) (hn : wx.heap.size ≤ g') (hF : ∀ i, i < sz → F' i = aftN (fun q => F q.toNat) B i) (hG : SG c m) (hS : StK c m (aftN (fun q => F q.toNat) B) []) : InS w0 c V v tb sz p g' F' (.slice none 0 0) [] [] at' ix m wy := by
 have h2 := h.ext hg
 refine ⟨h2.mt, h2.dn, h2.tn, h2.tt, hs, h.mt.st.fresh hn, behV_nil, Nat.zero_le _, h2.sq, .inl ⟨hG, ?_⟩⟩
 obtain ⟨k, ⟨h1, h3⟩, h4⟩ := hS
 refine ⟨k, ⟨h1, fun q h0 h5 => ?_⟩, h4⟩
 have h6 := h3 q h0 h5
 have hq : (q.toNat : Int) = q := by omega
 rw [List.take_nil] at h6 ⊢
 show Plc c m.n m.rs q (F' q.toNat)
 rw [hF q.toNat (by omega), hq]
 exact h6
theorem InS.back (L : MtL w0 c) (h : InS w0 c V v tb sz p g F bv B B at' ix m wx) (hG : SG c m) (hS : StK c m (fun q => F q.toNat) B) (x : Int) (hx : -9223372036854775808 ≤ x ∧ x ≤ 9223372036854775807) (hs : StAt wy p c { m with n := backS x m.n }) (hk : Keeps c.S.T wx wy) :
   InS w0 c V v tb sz p g F bv B B at' ix { m with n := backS x m.n } wy := by
 obtain ⟨k, ⟨h1, h2⟩, h3⟩ := hS
 exact h.call (h.mt.back L x hx hs hk) hk.less (dns_L h.dn rfl) h.sq (.inl ⟨hG.same x, k, ⟨h1, fun q h0 h4 => (h2 q h0 h4).same rfl⟩, h3⟩)
theorem InS.rdy (h : InS w0 c V v tb sz p g F bv B B2 at' ix m wx) : Rdy c m.n m.rs m.sq ∧ ∃ k, PlcK c m (fun q => F q.toNat) B2 k := by
 rcases h.ok with ⟨G, k, S, _⟩ | ⟨G, k, S⟩
 · exact ⟨G.rdy h.dn, k, S⟩
 · exact ⟨G.rdy h.dn, k, S⟩
theorem InS.open' (L : MtL w0 c) (h : InS w0 c V v tb sz p g F bv B B2 at' ix m wx) (hb : at' ≤ 1000 ∧ ix ≤ 1000) {p' : SP} {k : Nat} (hz : c.sz = sz) (hK : PlcK c m (fun q => F q.toNat) B2 k) (O : OpW wx V c m.sq (16008000 * (at' : Int) + 4000 * (ix : Int) + 400 * 8) (Plc c m.n m.rs) p' m' wy) :
   (∀ i : Nat, i < sz → reaE c m' i = 0 ∧ reaD c m' i = aftN (fun q => F q.toNat) (B2.take k) i) ∧
   ∀ w2 g', wy.grownBy w2 none → wy.heap.size ≤ g' → StB w2 g' sz (fun i => reaD c m' i) → InS w0 c V v tb sz p' g' (fun i => reaD c m' i) (.slice none 0 0) [] [] at' (ix + 1) m' w2 := by
 have hr : ∀ i : Nat, i < sz → reaE c m' i = 0 ∧ reaD c m' i = aftN (fun q => F q.toNat) (B2.take k) i := fun i hi =>
   rea_plc L.stt ⟨O.px, O.G.off⟩ O.G.W.R O.q0 (by omega) (O.pl _ _ (hK.2 i (by omega) (by omega)))
 refine ⟨hr, fun w2 g' hg hn hs => ?_⟩
 have hM := (h.mt.opened L O).ext hg
 have hlt := h.tn.lt
 refine ⟨hM.mono (by omega), O.dn, (O.kp.blk18 h.tn (tS_T h.tt)).ext hg, tS_new (tS_T h.tt) hlt O.lb, hs, O.st.fresh hn, behV_nil, Nat.zero_le _, ?_, .inl ⟨O.G, 0, ⟨Nat.le_refl _, fun q h0 h1 => ?_⟩, by rw [O.q0]; rfl⟩⟩
 · have := O.sq
   have := h.sq
   rw [O.q0]
   simp only [List.length_nil]
   omega
 · have hq : (q.toNat : Int) = q := by omega
   show Plc c m'.n m'.rs q (reaD c m' (q.toNat : Int))
   rw [(hr q.toNat (by omega)).2, hq]
   exact O.pl _ _ (hK.2 q h0 h1)
end
theorem cuR_of {w wx : World} {a : Option Addr} {len cap : Nat} {ys : List Int} {T : Nat → Nat} (h : IsRow .u8 w a len cap ys) (hs : ∀ x, a = some x → x.spot = none ∧ x.block < w.heap.size) (hE : w.grownBy wx none) (hT : ∀ k, T k ≠ 0 → w.heap.size ≤ k) : CuR wx a len (fun i => ys.getD i 0) T := fun i hi => by
 rcases h with ⟨rfl, rfl, rfl, rfl⟩ | ⟨x, rfl, h1, h2, h3, h4, h5⟩
 · omega
 · obtain ⟨hsp, hb⟩ := hs x rfl
   obtain ⟨b, off, sp⟩ := x
   simp only at hsp hb
   subst hsp
   have hc := h4 i (by omega)
   rw [addr_add] at hc
   have hw := h5 _ (List.getElem_mem (show i < ys.length by omega))
   have hwb : 0 ≤ ys[i] ∧ ys[i] ≤ 255 := by simpa [Lit.wf, IntKind.min, IntKind.max, IntKind.bits, IntKind.signed] using hw
   have hg : ys.getD i 0 = ys[i]'(by omega) := by rw [List.getD_eq_getElem?_getD, List.getElem?_eq_getElem (by omega)]; rfl
   refine ⟨⟨b, off, rfl, hE.cell hc (by simp), ?_⟩, ?_⟩
   · apply Classical.byContradiction
     intro h0
     have := hT b h0
     omega
   · simp only [hg]
     exact hwb
end Go.Proofs.YtdnpdoipipfkoaaGreatDoor
