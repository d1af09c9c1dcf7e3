/-
  Texts put together: PO PP PQ.
-/
import Derived.Test.YtdnpdoipipfkoaaGreatDoorM27
import Derived.Test.YtdnpdoipipfkoaaGreatDoorM30
namespace Go.Proofs.YtdnpdoipipfkoaaGreatDoor
set_option linter.unusedVariables false
set_option linter.unusedSimpArgs false
set_option linter.unusedVariables false
set_option linter.unusedSimpArgs false
set_option maxRecDepth 100000
open Go.RowKit
theorem NandAt.other19 {w w' : World} {S : NShape} {V : Nat → Value} {zs : Nat → List Int} {s : NS} {r : Nat} (h : NandAt w S V zs s) (hR : Roles S) (hg : w.grownBy w' (some r)) (ht : S.T r = 0)
   (hb : ∀ o n, w.cell? ⟨r, o, none⟩ = some (.int .u8 n) → w'.cell? ⟨r, o, none⟩ = some (.int .u8 n)) (hV : ∀ j, j < 4 → ∀ k, (V j).ownBlock = some k → k ≠ r) : NandAt w' S V zs s := by
 have e : ∀ k, S.T k ≠ 0 → w'.heap[k]? = w.heap[k]? := fun k hk => hg.block k (h.hi k hk) (fun e => by injection e with e; rw [e] at hk; exact hk ht)
 have e3 := e S.bm (by rw [hR.tm]; decide)
 have e4 := e S.be (by rw [hR.te]; decide)
 refine ⟨h.fix.stays (e _ (by rw [hR.tn]; decide)) (e _ (by rw [hR.tl]; decide)), fun i hi => ?_, fun i hi => (World.cell?_of_block e3).trans (h.mks i hi), fun o => (World.frozen?_of_block e3).trans (h.mkf o),
   fun i hi => (World.cell?_of_block e4).trans (h.ers i hi), fun o => (World.frozen?_of_block e4).trans (h.erf o), h.pow.stays (e _ (by rw [hR.tp]; decide)), ?_, h.tv, fun k hk => Nat.lt_of_lt_of_le (h.hi k hk) hg.size⟩
 · have hr := h.row i hi
   have er := e (S.row i) (by rw [hR.tr i hi]; omega)
   refine ⟨fun j hj => (World.cell?_of_block er).trans (hr.st j hj), fun j hj => ?_, fun j hj => (World.cell?_of_block er).trans (hr.dt j hj), fun o => (World.frozen?_of_block er).trans (hr.free o)⟩
   obtain ⟨v, h1, h2, h3⟩ := hr.bs j hj
   refine ⟨v, (World.cell?_of_block er).trans h1, ?_, h3⟩
   rcases h2 with h2 | ⟨b, off, cap, rfl, h5, h6⟩
   · exact .inl h2
   · refine .inr ⟨b, off, cap, rfl, h5, fun i hi => ?_⟩
     have hc := h6 i hi
     by_cases hbr : b = r
     · subst hbr
       exact hb _ _ hc
     · exact (World.cell?_of_block (hg.block b (World.block_lt_of_cell? w _ hc) (fun e => by injection e with e; exact hbr e))).trans hc
 · exact h.drs.other hg (fun e => by injection e with e; have := hR.td; rw [e, ht] at this; cases this) (fun j hj k hk e => by injection e with e; exact hV j hj k hk e)
theorem StAt.other19 {w w' : World} {p : SP} {c : SC} {m : SM} {g : Nat} (h : StAt w p c m) (ok : StOk p c) (hg : w.grownBy w' (some g)) (ht : c.S.T g = 0) (h0 : g ≠ 0) (h1 : g ≠ p.sb) (h2 : g ≠ p.tb) (h3 : g ≠ p.bb) (hv : ∀ k, p.bv.ownBlock = some k → k ≠ g) (hV : ∀ j, j < 4 → ∀ k, (p.V j).ownBlock = some k → k ≠ g)
   (hb : ∀ o n, w.cell? ⟨g, o, none⟩ = some (.int .u8 n) → w'.cell? ⟨g, o, none⟩ = some (.int .u8 n)) : StAt w' p c m :=
 ⟨h.nd.other19 ok.R hg ht hb hV, h.tb.kept hg (fun e => by injection e with e; exact h2 e.symm), bufStays _ _ _ _ h.bf (hg.block _ (bufLt _ _ _ h.bf) (fun e => by injection e with e; exact h3 e.symm)), h.bk.kept hg (fun e => by injection e with e; exact h1 e.symm),
   h.iv.kept hg (fun k hk e => by injection e with e; exact hv k hk e), h.fl.kept hg (fun e => by injection e with e; exact h0 e.symm)⟩
theorem aft_last (P : Int → ByteArray) (q : Int) : ∀ B : List Chg, aftN P B q = if (lastN B q).2 = true then (lastN B q).1.dt else P q := by
 have key : ∀ (n : Nat) (B : List Chg), B.length = n → aftN P B q = if (lastN B q).2 = true then (lastN B q).1.dt else P q := by
   intro n
   induction n with
   | zero => intro B hB; rw [List.length_eq_zero_iff.1 hB]; rfl
   | succ n ih =>
     intro B hB
     obtain ⟨l, x, rfl⟩ : ∃ l x, B = l ++ [x] := by
       rcases List.eq_nil_or_concat B with h | ⟨l, x, h⟩
       · rw [h] at hB; cases hB
       · exact ⟨l, x, by rw [h, List.concat_eq_append]⟩
     rw [aft_snoc, lastN_snoc]
     simp only
     by_cases e : q = x.pl
     · rw [if_pos e]
       simp only [if_pos e.symm, if_true]
     · rw [if_neg e]
       simp only [if_neg (fun h : x.pl = q => e h.symm)]
       exact ih l (by simp at hB; exact hB)
 exact fun B => key _ B rfl
theorem StK.val {c : SC} {m : SM} {P : Int → ByteArray} {B : List Chg} (h : StK c m P B) {q : Int} (h0 : 0 ≤ q) (h1 : q < c.sz) : Val c m q (aftN P B q) := by
 obtain ⟨k, ⟨_, h2⟩, h3⟩ := h
 have e : aftN P B q = aftN (aftN P (B.take k)) m.q q := by
   rw [h3]
   unfold aftN
   rw [← List.foldl_append, List.take_append_drop]
 rw [e, aft_last]
 unfold Val
 split
 · rfl
 · exact h2 q h0 h1
structure AgS (w0 : World) (c : SC) (V : Nat → Value) (v : Value) (tb sz : Nat) (p : SP) (g : Nat) (F F2 : Nat → ByteArray) (j : Nat) (m : SM) (wx : World) : Prop where
 mt : MtS w0 c V v p m (16008000 * (j : Int)) wx
 cl : Clm c m
 tn : Blk wx tb 33 (teC true c.ep c.sz c.sp v)
 tt : tS p c tb = 0
 ws : Blk wx g 9 (stsC sz F)
 gf : FrB w0 p c V v tb (g + 1) g
 sq : m.sq + m.q.length ≤ j
 vl : ∃ P B, StK c m P B ∧ ∀ i : Nat, i < sz → F2 i = aftN P B i
section
variable {w0 wx wy : World} {c : SC} {V : Nat → Value} {v : Value} {tb sz : Nat} {p : SP} {g : Nat} {F F2 : Nat → ByteArray} {j : Nat} {m m' : SM}
theorem AgS.ext (h : AgS w0 c V v tb sz p g F F2 j m wx) (hg : wx.grownBy wy none) : AgS w0 c V v tb sz p g F F2 j m wy := ⟨h.mt.ext hg, h.cl, h.tn.ext hg, h.tt, h.ws.ext hg, h.gf, h.sq, h.vl⟩
theorem AgS.mono (h : AgS w0 c V v tb sz p g F F2 j m wx) {j2 : Nat} (h1 : j ≤ j2) : AgS w0 c V v tb sz p g F F2 j2 m wx := ⟨h.mt.mono (by omega), h.cl, h.tn, h.tt, h.ws, h.gf, by have := h.sq; omega, h.vl⟩
theorem AgS.fr (L : MtL w0 c) (h : AgS w0 c V v tb sz p g F F2 j m wx) (q : Nat) (hq : wx.heap.size ≤ q) : FrB w0 p c V v tb g q :=
 ⟨h.mt.st.fresh hq, by have := h.mt.st.fl.lt; omega, by have := h.mt.out.size; omega, by have := h.tn.lt; omega, by have := h.ws.lt; omega, fun j hj k hk => by have := h.mt.hV j hj k hk; omega,
   fun k hk => by have := ints_lt h.mt.st.iv L.b1 k hk; omega, fun k hk => by have := ints_lt h.mt.iv L.b1 k hk; omega⟩
theorem MtS.turn {k : Int} (h : MtS w0 c V v p m k wx) {q a b : Nat} (hq : FrB w0 p c V v a b q) (hg : wx.grownBy wy (some q)) (hb : ∀ o n, wx.cell? ⟨q, o, none⟩ = some (.int .u8 n) → wy.cell? ⟨q, o, none⟩ = some (.int .u8 n)) : MtS w0 c V v p m k wy := by
 have e := h.eV
 obtain ⟨t1, t2, t3, t4⟩ := tS_zero hq.t
 exact ⟨h.st.other19 h.ok hg t1 hq.z t2 t3 t4 hq.b (by rw [e]; exact hq.V) hb, h.ok, h.wf, g17_new h.out hg hq.lo, h.lb, e, fun j hj k hk => Nat.lt_of_lt_of_le (h.hV j hj k hk) hg.size, h.iv.kept hg (fun k hk e => by injection e with e; exact hq.v k hk e), h.vP⟩
theorem AgS.turn (h : AgS w0 c V v tb sz p g F F2 j m wx) {q : Nat} (hq : FrB w0 p c V v tb g q) (hg : wx.grownBy wy (some q)) (hb : ∀ o n, wx.cell? ⟨q, o, none⟩ = some (.int .u8 n) → wy.cell? ⟨q, o, none⟩ = some (.int .u8 n)) : AgS w0 c V v tb sz p g F F2 j m wy :=
 ⟨h.mt.turn hq hg hb, h.cl, h.tn.kept hg (fun e => by injection e with e; exact hq.tb e.symm), h.tt, h.ws.kept hg (fun e => by injection e with e; exact hq.g e.symm), h.gf, h.sq, h.vl⟩
theorem AgS.put (h : AgS w0 c V v tb sz p g F F2 j m wx) (i : Nat) (d : ByteArray) : AgS w0 c V v tb sz p g (updF F i d) F2 j m (wx.setCell ⟨g, i, none⟩ (.string d)) := by
 have hg : wx.grownBy (wx.setCell ⟨g, i, none⟩ (.string d)) (some g) := gb_set (gb_refl wx _) _ _
 exact ⟨h.mt.turn h.gf hg (fun o n hc => absurd hc (sts_noint h.ws o .u8 n)), h.cl, h.tn.kept hg (fun e => by injection e with e; exact h.gf.tb e.symm), h.tt, by rw [← stsC_set]; exact h.ws.set i (.string d), h.gf, h.sq, h.vl⟩
theorem AgS.call (L : MtL w0 c) (h : AgS w0 c V v tb sz p g F F2 j m wx) {F3 : Nat → ByteArray} (hm : MtS w0 c V v p m' (16008000 * (j : Int)) wy) (hk : Keeps (tS p c) wx wy) (hc : Clm c m') (hs : m'.sq + m'.q.length ≤ j) (hv : ∃ P B, StK c m' P B ∧ ∀ i : Nat, i < sz → F3 i = aftN P B i) : AgS w0 c V v tb sz p g F F3 j m' wy :=
 ⟨hm, hc, hk.blk18 h.tn h.tt, h.tt, hk.blk18 h.ws h.gf.t, h.gf, hs, hv⟩
theorem AgS.wai (L : MtL w0 c) (hz : c.zs c.who.toNat = []) (h : AgS w0 c V v tb sz p g F F2 j m wx) {x : Chg} (hk : x.kd = 1 ∨ (x.kd = 2 ∧ x.dt = ⟨#[]⟩)) (hj : j ≤ 10000) :
   ∃ e m', waiR c 100 m x = some (e, m') ∧
     ((0 ≤ x.pl ∧ x.pl < c.sz ∧ x.dt.size ≤ 16 ∧ e = 0 ∧ ∀ wy, MtS w0 c V v p m' (16008000 * (j : Int) + 4002000) wy → Keeps (tS p c) wx wy → AgS w0 c V v tb sz p g F (updF F2 x.pl.toNat x.dt) (j + 1) m' wy) ∨
      (((e = 5 ∧ ¬ (0 ≤ x.pl ∧ x.pl < c.sz)) ∨ (e = 3 ∧ (0 ≤ x.pl ∧ x.pl < c.sz) ∧ 16 < x.dt.size)) ∧ ∀ wy, MtS w0 c V v p m' (16008000 * (j : Int) + 4002000) wy → Keeps (tS p c) wx wy → AgS w0 c V v tb sz p g F F2 (j + 1) m' wy)) := by
 have hsq := h.sq
 obtain ⟨P, B, hS, hP⟩ := h.vl
 obtain ⟨e, m', h1, C1, s1, s2, D⟩ := clm_wai hz L.stt h.cl (by omega) hk
 refine ⟨e, m', h1, ?_⟩
 rcases D with ⟨⟨a0, a1⟩, a2, e0, p1⟩ | ⟨e0, p1⟩
 · refine .inl ⟨a0, a1, a2, e0, fun wy hm hkk => (h.mono (Nat.le_succ j)).call L (hm.mono (by omega)) hkk C1 (by omega) ⟨P, B ++ [x], p1 _ _ hS, fun i hi => ?_⟩⟩
   rw [aft_snoc]
   unfold updF
   simp only
   by_cases e : i = x.pl.toNat
   · rw [if_pos e, if_pos (by omega)]
   · rw [if_neg e, if_neg (by omega)]
     exact hP i hi
 · exact .inr ⟨e0, fun wy hm hkk => (h.mono (Nat.le_succ j)).call L (hm.mono (by omega)) hkk C1 (by omega) ⟨P, B, p1 _ _ hS, hP⟩⟩
theorem AgS.write (L : MtL w0 c) (hz : c.zs c.who.toNat = []) (h : AgS w0 c V v tb sz p g F F2 j m wx) (pl : Int) (dt : ByteArray) (hd : dt.size ≤ 9223372036854775807) (hj : j ≤ 10000) :
   ∃ e m' F3, ((0 ≤ pl ∧ pl < c.sz ∧ dt.size ≤ 16 ∧ e = 0 ∧ F3 = updF F2 pl.toNat dt) ∨ (((e = 5 ∧ ¬ (0 ≤ pl ∧ pl < c.sz)) ∨ (e = 3 ∧ (0 ≤ pl ∧ pl < c.sz) ∧ 16 < dt.size)) ∧ F3 = F2)) ∧
     Calls Tryz.prog 10 #[.pointer (some ⟨p.sb, 0, none⟩), .int .i64 pl, .string dt] wx fun er wy => er = .returned (.int .i64 e) ∧ AgS w0 c V v tb sz p g F F3 (j + 1) m' wy ∧ Keeps (tS p c) wx wy := by
 obtain ⟨e, m', h1, D⟩ := h.wai L hz (x := ⟨pl, 1, dt⟩) (.inl rfl) hj
 have W := h.mt.write L (by omega) pl dt hd h1
 rcases D with ⟨a0, a1, a2, a3, H⟩ | ⟨a0, H⟩
 · exact ⟨e, m', _, .inl ⟨a0, a1, a2, a3, rfl⟩, W.mono fun er wy ⟨b1, b2, b3⟩ => ⟨b1, H wy b2 b3, b3⟩⟩
 · exact ⟨e, m', _, .inr ⟨a0, rfl⟩, W.mono fun er wy ⟨b1, b2, b3⟩ => ⟨b1, H wy b2 b3, b3⟩⟩
theorem AgS.trim (L : MtL w0 c) (hz : c.zs c.who.toNat = []) (h : AgS w0 c V v tb sz p g F F2 j m wx) (pl : Int) (hj : j ≤ 10000) :
   ∃ e m' F3, ((0 ≤ pl ∧ pl < c.sz ∧ e = 0 ∧ F3 = updF F2 pl.toNat ⟨#[]⟩) ∨ (e = 5 ∧ ¬ (0 ≤ pl ∧ pl < c.sz) ∧ F3 = F2)) ∧
     Calls Tryz.prog 11 #[.pointer (some ⟨p.sb, 0, none⟩), .int .i64 pl] wx fun er wy => er = .returned (.int .i64 e) ∧ AgS w0 c V v tb sz p g F F3 (j + 1) m' wy ∧ Keeps (tS p c) wx wy := by
 obtain ⟨e, m', h1, D⟩ := h.wai L hz (x := ⟨pl, 2, ⟨#[]⟩⟩) (.inr ⟨rfl, rfl⟩) hj
 have W := h.mt.trim L (by omega) pl h1
 rcases D with ⟨a0, a1, a2, a3, H⟩ | ⟨a0, H⟩
 · exact ⟨e, m', _, .inl ⟨a0, a1, a3, rfl⟩, W.mono fun er wy ⟨b1, b2, b3⟩ => ⟨b1, H wy b2 b3, b3⟩⟩
 · rcases a0 with ⟨a0, a1⟩ | ⟨_, _, a1⟩
   · exact ⟨e, m', _, .inr ⟨a0, a1, rfl⟩, W.mono fun er wy ⟨b1, b2, b3⟩ => ⟨b1, H wy b2 b3, b3⟩⟩
   · exact absurd (show 16 < (⟨#[]⟩ : ByteArray).size from a1) (by decide)
theorem AgS.flush (L : MtL w0 c) (hz : c.zs c.who.toNat = []) (h : AgS w0 c V v tb sz p g F F2 j m wx) (hj : j ≤ 10000) :
   ∃ m', m'.q = [] ∧ (∀ i : Nat, i < sz → (i : Int) < c.sz → Plc c m'.n m'.rs i (F2 i)) ∧
     Calls Tryz.prog 12 #[.pointer (some ⟨p.sb, 0, none⟩)] wx fun er wy => er = .returned (.int .i64 0) ∧ AgS w0 c V v tb sz p g F F2 (j + 1) m' wy := by
 have hsq := h.sq
 obtain ⟨P, B, hS, hP⟩ := h.vl
 obtain ⟨m', h1, C1, s1, q1, p1⟩ := clm_flu hz L.stt h.cl (by omega)
 refine ⟨m', q1, fun i hi h2 => ?_, (h.mt.flush L (by omega) h1).mono fun er wy ⟨a1, a2, a3⟩ => ⟨a1, (h.mono (Nat.le_succ j)).call L (a2.mono (by omega)) a3 C1 (by omega) ⟨P, B, p1 _ _ hS, hP⟩⟩⟩
 obtain ⟨k, ⟨_, h3⟩, _⟩ := (p1 _ _ hS).done q1
 have h4 := h3 i (by omega) h2
 rw [List.take_nil] at h4
 rw [hP i hi]
 exact h4
theorem AgS.rea (L : MtL w0 c) (h : AgS w0 c V v tb sz p g F F2 j m wx) (hz : c.sz = sz) {i : Nat} (hi : i < sz) : reaE c m i = 0 ∧ reaD c m i = F2 i := by
 obtain ⟨P, B, hS, hP⟩ := h.vl
 obtain ⟨h1, _, h3⟩ := rea_is h.cl.lit L.stt.hB h.cl.G.W.R (q := (i : Int)) (by omega)
 exact ⟨h1, by rw [hP i hi]; exact h3 _ (hS.val (by omega) (by omega))⟩
end
end Go.Proofs.YtdnpdoipipfkoaaGreatDoor

namespace Go.Proofs.YtdnpdoipipfkoaaGreatDoor
set_option linter.unusedVariables false
set_option linter.unusedSimpArgs false
set_option linter.unusedVariables false
set_option linter.unusedSimpArgs false
set_option maxRecDepth 100000
open Go.RowKit
theorem updF_two (F : Nat → ByteArray) (i : Nat) (a b : ByteArray) : updF (updF F i a) i b = updF F i b := by
 funext j
 unfold updF
 by_cases e : j = i
 · rw [if_pos e, if_pos e]
 · rw [if_neg e, if_neg e, if_neg e]
section
variable {w0 wx : World} {c : SC} {V : Nat → Value} {v : Value} {tb sz : Nat} {p : SP} {g : Nat} {F : Nat → ByteArray} {j : Nat} {m : SM}
def DoP (w0 : World) (c : SC) (V : Nat → Value) (v : Value) (tb sz : Nat) (p : SP) (g : Nat) (F : Nat → ByteArray) (j : Nat) (xb : Nat) (kd pl : Int) (ez : Int) (d : ByteArray) (wy : World) : Prop :=
 ∃ m2, Blk wy xb 40 (act18C ⟨kd, pl, d⟩) ∧ ((ez = 0 ∧ (0 ≤ pl ∧ pl < sz) ∧ AgS w0 c V v tb sz p g F (updF F pl.toNat d) j m2 wy) ∨ ((ez = 5 ∨ ez = 3) ∧ AgS w0 c V v tb sz p g F F j m2 wy))
set_option maxHeartbeats 6400000 in
theorem do19 (L : MtL w0 c) (hz : c.zs c.who.toNat = []) (hsz : c.sz = sz) (h : AgS w0 c V v tb sz p g F F j m wx) (hj : j ≤ 9000) (hs64 : sz ≤ 64) (kd pl : Int) (dt : ByteArray) (hkd : 0 ≤ kd ∧ kd ≤ 255) (hdt : dt.size ≤ 9223372036854775807) (cap : Nat) :
   Calls Tryz.prog 18 #[.pointer (some ⟨p.sb, 0, none⟩), .agg #[.int .u8 kd, .int .i64 pl, .string dt], .slice (some ⟨g, 0, none⟩) sz cap] wx fun e w' => e = .returned (.bool true) ∧ ∃ F' m', AgS w0 c V v tb sz p g F' F' (j + 2) m' w' := by
 have hB := Blk.new wx 40 (act18C ⟨kd, pl, dt⟩)
 have h1 := h.ext (World.grownBy_alloc wx (.cells (act18C ⟨kd, pl, dt⟩) 40) none)
 have hfr := h.fr L wx.heap.size (Nat.le_refl _)
 obtain ⟨xb, hxb⟩ : ∃ z, wx.heap.size = z := ⟨_, rfl⟩
 rw [hxb] at hB hfr
 obtain ⟨w1, hw1⟩ : ∃ y, wx.alloc (.cells (act18C ⟨kd, pl, dt⟩) 40) = y := ⟨_, rfl⟩
 have hw1' : wx.alloc (.cells #[.int .u8 kd, .int .i64 pl, .string dt] 40) = w1 := hw1
 rw [hw1] at hB h1
 have XC := Lib.hid (fun (wx : World) (d : ByteArray) (h : Blk wx xb 40 (act18C ⟨kd, pl, d⟩)) => And.intro (show wx.cell? ⟨xb, 0, none⟩ = some (.int .u8 kd) from h.cell 0) (And.intro (show wx.cell? ⟨xb, 1, none⟩ = some (.int .i64 pl) from h.cell 1) (show wx.cell? ⟨xb, 2, none⟩ = some (.string d) from h.cell 2)))
 have HI := Lib.hid (And.intro hB (And.intro h1 hfr))
 have HC := Lib.hid (And.intro L (And.intro hz hsz))
 have HK := Lib.hid (And.intro hkd hj)
 have HS := Lib.hid hs64
 obtain ⟨c0, c1, c2⟩ := XC.out w1 dt hB
 obtain ⟨e1, m2, F2, hD, WR⟩ := h1.write L hz pl dt hdt (by omega)
 have HD := Lib.hid hD
 clear h h1 hfr hB L hz hsz hkd hj hs64 hD hdt hw1
 go_enter Tryz.func18, Tryz.ntmps18
 go_upto_region 2 with (go_at_call 10; refine WR.mono ?_; rintro e w2 ⟨rfl, hI2, hk2⟩; have I2 := Lib.hid hI2; have B2 := Lib.hid (hk2.blk18 HI.out.1 HI.out.2.2.t); clear hI2 hk2)
 clear WR c0 c1 c2 hw1' hxb
 obtain ⟨x0, x1, x2⟩ := XC.out w2 dt B2.out
 have hkd := HK.out.1
 have hmod : kd.tmod 2 = 0 ∨ kd.tmod 2 = 1 := by
   rw [Int.tmod_eq_emod_of_nonneg hkd.1]
   omega
 clear hkd
 rcases hmod with hm0 | hm0
 · have b0 : (kd.tmod 2 == 1) = false := by rw [hm0]; rfl
   clear hm0
   have HB4 : DoP w0 c V v tb sz p g F (j + 2) xb kd pl e1 dt w2 := by
     refine ⟨m2, B2.out, ?_⟩
     have hs := HC.out.2.2
     rcases HD.out with ⟨a0, a1, a2, a3, a4⟩ | ⟨a0, a4⟩
     · exact .inl ⟨a3, ⟨a0, by omega⟩, by have := I2.out; rw [a4] at this; exact this.mono (by omega)⟩
     · refine .inr ⟨?_, by have := I2.out; rw [a4] at this; exact this.mono (by omega)⟩
       rcases a0 with ⟨a, _⟩ | ⟨a, _⟩
       · exact .inl a
       · exact .inr a
   go_upto_region 5 with fail
   clear x0 x1 x2 I2 B2 HD
   obtain ⟨m4, hB4, hD4⟩ := HB4
   have HB4 := True.intro
   have B4 := Lib.hid hB4
   obtain ⟨y0, y1, y2⟩ := XC.out _ _ hB4
   clear hB4 HB4
   rcases hD4 with ⟨he, ⟨hp0, hp1⟩, hI⟩ | ⟨he, hI⟩
   · have e0 : (e1 == 0) = true := by rw [he]; rfl
     obtain ⟨q, rfl⟩ : ∃ q : Nat, pl = q := ⟨pl.toNat, by omega⟩
     have hq : q < sz := by omega
     have hI2 := hI.put q dt
     rw [Int.toNat_natCast] at hI2
     have I4 := Lib.hid hI2
     have cg := (hI.ws.cell q).trans (stsC_at hq)
     have fg := hI.ws.free q
     have hs64 := HS.out
     clear he hI hI2
     go_wp2
     go_ret
     exact ⟨rfl, _, _, I4.out⟩
   · have e0 : (e1 == 0) = false := by rcases he with he | he <;> (rw [he]; rfl)
     have I4 := Lib.hid hI
     clear hI
     rcases he with he | he
     · have e5 : (e1 == 5) = true := by rw [he]; rfl
       clear he
       go_wp2
       go_ret
       exact ⟨rfl, _, _, I4.out⟩
     · have e5 : (e1 == 5) = false := by rw [he]; rfl
       have e3 : (e1 == 3) = true := by rw [he]; rfl
       clear he
       go_wp2
       go_ret
       exact ⟨rfl, _, _, I4.out⟩
 · have b0 : (kd.tmod 2 == 1) = true := by rw [hm0]; rfl
   clear hm0
   obtain ⟨e3, m3, F3, hD3, TR⟩ := I2.out.trim HC.out.1 HC.out.2.1 pl (by have := HK.out.2; omega)
   have HD3 := Lib.hid hD3
   clear hD3
   go_upto_region 4 with (go_at_call 11; refine TR.mono ?_; rintro e w3 ⟨rfl, hI3, hk3⟩; have I3 := Lib.hid hI3; have B3 := Lib.hid (hk3.blk18 B2.out HI.out.2.2.t); clear hI3 hk3)
   clear TR x0 x1 x2
   have cc : w3.cell? ⟨xb, 2, none⟩ = some (Value.string dt) := (XC.out w3 dt B3.out).2.2
   have fc := B3.out.free 2
   have HB4 : DoP w0 c V v tb sz p g F (j + 2) xb kd pl e3 ⟨#[]⟩ (w3.setCell ⟨xb, 2, none⟩ (.string ⟨#[]⟩)) := by
     have hg : w3.grownBy (w3.setCell ⟨xb, 2, none⟩ (.string ⟨#[]⟩)) (some xb) := gb_set (gb_refl w3 _) _ _
     have hBs : Blk (w3.setCell ⟨xb, 2, none⟩ (.string ⟨#[]⟩)) xb 40 (act18C ⟨kd, pl, ⟨#[]⟩⟩) := B3.out.set 2 (.string ⟨#[]⟩)
     have hT := I3.out.turn HI.out.2.2 hg (fun o n hc => by
       rw [B3.out.cell o] at hc
       rw [hBs.cell o]
       match o, hc with
       | 0, hc => exact hc
       | 1, hc => exact hc
       | 2, hc => cases hc
       | o + 3, hc => simp [act18C] at hc)
     refine ⟨m3, hBs, ?_⟩
     have hs := HC.out.2.2
     rcases HD3.out with ⟨a0, a1, a3, a4⟩ | ⟨a0, a1, a4⟩
     · refine .inl ⟨a3, ⟨a0, by omega⟩, ?_⟩
       have hF : F3 = updF F pl.toNat ⟨#[]⟩ := by
         rw [a4]
         rcases HD.out with ⟨_, _, _, _, b4⟩ | ⟨_, b4⟩
         · rw [b4, updF_two]
         · rw [b4]
       rw [hF] at hT
       exact hT
     · have hF : F3 = F := by
         rw [a4]
         rcases HD.out with ⟨b0, b1, _⟩ | ⟨_, b4⟩
         · exact absurd ⟨b0, b1⟩ a1
         · exact b4
       rw [hF] at hT
       exact .inr ⟨.inl a0, hT⟩
   go_upto_region 5 with fail
   clear cc fc I3 B3 I2 B2 HD HD3
   obtain ⟨m4, hB4, hD4⟩ := HB4
   have HB4 := True.intro
   obtain ⟨w4, hw4⟩ : ∃ z, w3.setCell ⟨xb, 2, none⟩ (.string ⟨#[]⟩) = z := ⟨_, rfl⟩
   rw [hw4] at hB4 hD4 ⊢
   clear hw4
   have B4 := Lib.hid hB4
   obtain ⟨y0, y1, y2⟩ := XC.out _ _ hB4
   clear hB4 HB4
   rcases hD4 with ⟨he, ⟨hp0, hp1⟩, hI⟩ | ⟨he, hI⟩
   · have e0 : (e3 == 0) = true := by rw [he]; rfl
     obtain ⟨q, rfl⟩ : ∃ q : Nat, pl = q := ⟨pl.toNat, by omega⟩
     have hq : q < sz := by omega
     have hI2 := hI.put q ⟨#[]⟩
     rw [Int.toNat_natCast] at hI2
     have I4 := Lib.hid hI2
     have cg := (hI.ws.cell q).trans (stsC_at hq)
     have fg := hI.ws.free q
     have hs64 := HS.out
     clear he hI hI2
     go_wp2
     go_ret
     exact ⟨rfl, _, _, I4.out⟩
   · have e0 : (e3 == 0) = false := by rcases he with he | he <;> (rw [he]; rfl)
     have I4 := Lib.hid hI
     clear hI
     rcases he with he | he
     · have e5 : (e3 == 5) = true := by rw [he]; rfl
       clear he
       go_wp2
       go_ret
       exact ⟨rfl, _, _, I4.out⟩
     · have e5 : (e3 == 5) = false := by rw [he]; rfl
       have e3 : (e3 == 3) = true := by rw [he]; rfl
       clear he
       go_wp2
       go_ret
       exact ⟨rfl, _, _, I4.out⟩
end
end Go.Proofs.YtdnpdoipipfkoaaGreatDoor

namespace Go.Proofs.YtdnpdoipipfkoaaGreatDoor
set_option linter.unusedVariables false
set_option linter.unusedSimpArgs false
set_option linter.unusedVariables false
set_option linter.unusedSimpArgs false
set_option maxRecDepth 100000
open Go.RowKit
section
variable {w0 wx : World} {c : SC} {V : Nat → Value} {v : Value} {tb sz : Nat} {p : SP} {g : Nat} {F : Nat → ByteArray} {j : Nat} {m : SM}
theorem clm_mt (L : MtL w0 c) (hz : c.zs c.who.toNat = []) {k : Int} (M : MtS w0 c V v p m k wx) (C : Clm c m) (hk : k < 100000000000) (hsq : m.sq ≤ k) :
   ∃ m2, Clm c m2 ∧ m2.q = [] ∧ m2.sq ≤ m.sq ∧ (∀ q d, Plc c m.n m.rs q d → Plc c m2.n m2.rs q d) ∧ m2 = resM c (pagesR c.S m.n c.bl).1 (newM m.n) ∧
     Calls Tryz.prog 19 #[.pointer (some ⟨c.S.nb, 0, none⟩), .int .i64 1, .agg #[.bool true, .int .i64 c.ep, .int .i64 c.sz, .int .i64 c.sp, v]] wx fun e w' => ∃ p2 : SP, e = .returned (.tuple #[.pointer (some ⟨p2.sb, 0, none⟩), .int .i64 0]) ∧ MtS w0 c V v p2 m2 (k + 400) w' ∧ Keeps c.S.T wx w' ∧ (wx.heap.size ≤ p2.sb ∧ wx.heap.size ≤ p2.tb ∧ wx.heap.size ≤ p2.bb) ∧ ∀ q, p2.bv.ownBlock = some q → wx.heap.size ≤ q := by
 obtain ⟨_, _, _, C2, _⟩ := clm_opn hz L.stt C
 rcases (M.ars (C.G.rdy C.dn)).opn (M.arc L) C.G.off (by omega) hsq with ⟨m2, m1', G2, D2, Q2, S2, F2, P2, X2, E2, OPC⟩ | ⟨hx, _⟩
 · refine ⟨m2, by rw [E2]; exact C2, Q2, S2, P2, E2, OPC.mono fun e w' ⟨p2, e1, st, ok, hV, b1, b2, b3, b4, kp⟩ => ⟨p2, e1, ?_, kp, ⟨b1, b2, b3⟩, b4⟩⟩
   exact M.opened L (O := (⟨st, ok, hV, ⟨b1, b2, b3⟩, b4, kp, G2, D2, Q2, S2, X2 C.px, F2, fun q d h => P2 q d h⟩ : OpW wx V c m.sq (k + 400) (Plc c m.n m.rs) p2 m2 w'))
 · exact absurd C.px hx
theorem AgS.two (L : MtL w0 c) (hz : c.zs c.who.toNat = []) (hs : c.sz = sz) (h : AgS w0 c V v tb sz p g F F j m wx) (hj : j ≤ 1000) (hpl : ∀ i : Nat, i < sz → (i : Int) < c.sz → Plc c m.n m.rs i (F i)) :
   ∃ m1 m2, (∀ i : Nat, i < sz → reaE c m1 i = 0 ∧ reaD c m1 i = F i) ∧ (∀ i : Nat, i < sz → reaE c m2 i = 0 ∧ reaD c m2 i = F i) ∧
     Calls Tryz.prog 19 #[.pointer (some ⟨c.S.nb, 0, none⟩), .int .i64 1, .agg #[.bool true, .int .i64 c.ep, .int .i64 c.sz, .int .i64 c.sp, v]] wx fun e w6 => ∃ p1 : SP, e = .returned (.tuple #[.pointer (some ⟨p1.sb, 0, none⟩), .int .i64 0]) ∧ Blk w6 tb 33 (teC true c.ep c.sz c.sp v) ∧
       Calls Tryz.prog 19 #[.pointer (some ⟨c.S.nb, 0, none⟩), .int .i64 1, .agg #[.bool true, .int .i64 c.ep, .int .i64 c.sz, .int .i64 c.sp, v]] w6 fun e w7 => ∃ p2 : SP, e = .returned (.tuple #[.pointer (some ⟨p2.sb, 0, none⟩), .int .i64 0]) ∧ StAt w7 p1 c m1 ∧ StOk p1 c ∧ Wf c m1 100000000000 ∧ AgS w0 c V v tb sz p2 g F F (j + 1) m2 w7 := by
 have hq := h.sq
 obtain ⟨m1, C1, Q1, S1, P1, E1, O1⟩ := clm_mt L hz h.mt h.cl (by omega) (by omega)
 have hag := clm_again hz L.stt h.cl
 rw [← E1] at hag
 have hr : ∀ mm : SM, Clm c mm → mm.q = [] → (∀ i : Nat, i < sz → Plc c mm.n mm.rs i (F i)) → ∀ i : Nat, i < sz → reaE c mm i = 0 ∧ reaD c mm i = F i := fun mm C Q P i hi =>
   rea_plc L.stt C.lit C.G.W.R Q (by omega) (P i hi)
 have p1' : ∀ i : Nat, i < sz → Plc c m1.n m1.rs i (F i) := fun i hi => P1 _ _ (hpl i hi (by omega))
 obtain ⟨_, _, _, C2', Q2', S2', P2'⟩ := clm_opn hz L.stt C1
 have hn2 : (resM c (pagesR c.S m1.n c.bl).1 (newM m1.n)).n = m1.n := resM_none hag
 have p2' : ∀ i : Nat, i < sz → Plc c (resM c (pagesR c.S m1.n c.bl).1 (newM m1.n)).n (resM c (pagesR c.S m1.n c.bl).1 (newM m1.n)).rs i (F i) := fun i hi => P2' _ _ (p1' i hi)
 refine ⟨m1, _, hr m1 C1 Q1 p1', hr _ C2' Q2' p2', O1.mono fun e w6 ⟨pa, e1, M1, K1, lb1, bb1⟩ => ⟨pa, e1, K1.blk18 h.tn (tS_T h.tt), ?_⟩⟩
 obtain ⟨m2, C2, Q2, S2, P2, E2, O2⟩ := clm_mt L hz M1 C1 (by omega) (by omega)
 rw [← E2] at hn2 p2' ⊢
 refine O2.mono fun e w7 ⟨pb, e2, M2, K2, lb2, bb2⟩ => ⟨pb, e2, ?_, M1.ok, M1.wf.mono (by omega), ?_⟩
 · have := M1.st.nand M1.ok (n := m2.n) (by rw [M1.eV, ← M2.eV]; exact M2.st.nd) K2
   rw [hn2] at this
   exact this
 · have t1 := K2.blk18 (K1.blk18 h.tn (tS_T h.tt)) (tS_T h.tt)
   have s1 := K2.blk18 (K1.blk18 h.ws (tS_T h.gf.t)) (tS_T h.gf.t)
   have hsz6 := K1.size
   have ht := h.tn.lt
   have hg := h.ws.lt
   exact ⟨M2.mono (by omega), C2, t1, tS_new (tS_T h.tt) (by omega) lb2, s1, ⟨tS_new (tS_T h.gf.t) (by omega) lb2, h.gf.z, h.gf.lo, h.gf.tb, h.gf.g, h.gf.V, fun k hk => by have := bb2 k hk; omega, h.gf.v⟩, by rw [Q2]; simp only [List.length_nil]; omega,
     fun q => F q.toNat, [], ⟨0, ⟨Nat.le_refl _, fun q h0 h1 => by
       have hqq : (q.toNat : Int) = q := by omega
       have := p2' q.toNat (by omega)
       rw [hqq] at this
       exact this⟩, by rw [Q2]; rfl⟩, fun i hi => by show F i = F ((i : Int)).toNat; rw [Int.toNat_natCast]⟩
end
section
variable {ops : Array Oper} {rest : List Oper} {o : Oper} {a : Act} {w : World} {Q : Exit → Act → World → Prop}
theorem act_read19 (hwt : Region.wanted o (yielded ops a.tmps) = true) (x : Operand) (ho : o.op = .load 40 x) {g : Nat} (hx : a.eval x = .pointer (some ⟨g, 0, none⟩)) {y : Act18} (hg : Blk w g 40 (act18C y))
   (h : wpList Tryz.prog ops Q rest (a.put o.dst (.agg #[.int .u8 y.kd, .int .i64 y.pl, .string y.dt])) w) : wpList Tryz.prog ops Q (o :: rest) a w :=
 wpList_load_part hwt _ x ho g 0 3 hx _ _ _ _ _ hg (show (act18C y).extract 0 (0 + 3) = act18C y from rfl) rfl Tryz.underlying40 rfl Tryz.sizeAct18 h
end
end Go.Proofs.YtdnpdoipipfkoaaGreatDoor
