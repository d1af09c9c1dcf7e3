/-
  Texts put together: BW BX JQ JR MA MC ME PE BZ PF.
-/
import Derived.Test.YtdnpdoipipfkoaaGreatDoorM23
import Derived.Test.YtdnpdoipipfkoaaGreatDoorM10
import Derived.Test.YtdnpdoipipfkoaaGreatDoorM25
import Derived.Test.YtdnpdoipipfkoaaGreatDoorM16
import Derived.Test.YtdnpdoipipfkoaaGreatDoorM17
import Derived.Test.YtdnpdoipipfkoaaGreatDoorM01
import Derived.Below
namespace Go.Proofs.YtdnpdoipipfkoaaGreatDoor
set_option linter.unusedVariables false
set_option linter.unusedSimpArgs false
set_option linter.unusedVariables false
set_option linter.unusedSimpArgs false
set_option maxRecDepth 100000
open Go.RowKit
theorem ints_lt {w : World} {v : Value} {xs : List Int} (h : Ints w v xs) (h1 : 1 ≤ xs.length) : ∀ k, v.ownBlock = some k → k < w.heap.size := by
 intro k hk
 rcases h with ⟨_, h2⟩ | ⟨b, off, cap, rfl, _, h3⟩ | ⟨_, _, _, h2⟩
 · rw [h2] at h1; simp at h1
 · have hb : b < w.heap.size := World.block_lt_of_cell? w _ (h3 0 (by omega))
   have hk2 : some b = some k := hk
   injection hk2 with hk2
   omega
 · rw [h2] at h1; simp at h1
theorem spots_at19 : ∀ (l : List (Int × Int × Int)) (j i : Nat), i < 3 → j < l.length → (spotsL17 l)[j * 3 + i]? = (spotC17 (l.getD j (0, 0, 0))).toList[i]?
 | [], j, i, _, h => by simp at h
 | c :: r, 0, i, hi, _ => by
   show ((spotC17 c).toList ++ spotsL17 r)[0 * 3 + i]? = _
   rw [Nat.zero_mul, Nat.zero_add, List.getElem?_append_left (by show i < 3; exact hi)]
   rfl
 | c :: r, j + 1, i, hi, h => by
   show ((spotC17 c).toList ++ spotsL17 r)[(j + 1) * 3 + i]? = _
   have hl : (spotC17 c).toList.length = 3 := rfl
   rw [List.getElem?_append_right (by omega), hl, show (j + 1) * 3 + i - 3 = j * 3 + i by omega, spots_at19 r j i hi (by simpa using h)]
   simp
theorem spr_owns {w : World} {B : Nat} {T : TypeId} {sv : Value} {l : List (Int × Int × Int)} (h : w.ownsRow B T 3 sv l.length (spotsL17 l)) :
   ∃ so sc, sv = .slice so l.length sc ∧ SpR w so l.length l ∧ ∀ b off, so = some ⟨b, off, none⟩ → B ≤ b ∧ b < w.heap.size := by
 rcases h.2 with ⟨rfl, h0⟩ | ⟨g, cap, cur, rfl, h2, h3, _, _, _, h7⟩
 · rw [h0]
   exact ⟨none, 0, rfl, ⟨h0, fun i hi => by omega⟩, fun b off e => by cases e⟩
 · refine ⟨some ⟨g, 0, none⟩, cap, rfl, ⟨rfl, fun i hi => ⟨g, 0, rfl, fun j u hj => ?_⟩⟩, fun b off e => ?_⟩
   · have hl : (spotC17 (l.getD i (0, 0, 0))).toList.length = 3 := rfl
     have hj3 : j < 3 := by rw [← hl]; exact (List.getElem?_eq_some_iff.1 hj).1
     have h1 := spots_at19 l i j hj3 hi
     rw [hj, ← h7, List.getElem?_take, if_pos (by omega), Array.getElem?_toList] at h1
     rw [cell_of_row w g _ cur T (0, 0) h3, Nat.zero_add]
     exact h1
   · simp only [Option.some.injEq, Addr.mk.injEq] at e
     obtain ⟨rfl, _⟩ := e
     exact ⟨h2, (Array.getElem?_eq_some_iff.1 h3).1⟩
theorem keeps_new {p : SP} {c : SC} {w w1 w' : World} (hE : w.grownBy w1 none) (hk : Keeps (tS p c) w1 w') (h1 : w.heap.size ≤ p.sb) (h2 : w.heap.size ≤ p.tb) (h3 : w.heap.size ≤ p.bb) : Keeps c.S.T w w' :=
 ⟨hk.os.trans hE.os, hk.tape.trans hE.tape, hk.output.trans hE.output, Nat.le_trans hE.size hk.size, fun k h4 h0 => (hk.block k (Nat.lt_of_lt_of_le h4 hE.size) (by unfold tS; rw [if_neg (by omega)]; exact h0)).trans (hE.block k h4 (by simp))⟩
theorem row_form {w : World} {B sz n : Nat} {T : TypeId} {v : Value} {xs : List Value} (h : w.ownsRow B T sz v n xs) : ∃ ao cap, v = .slice ao n cap := owns_shape13 h
def MntP (V : Nat → Value) (c : SC) (L : List Fnd) (n : NS) (w : World) (e : Ending) (w' : World) : Prop :=
 (resE c L (newM n) = 0 ∧ ∃ p : SP, e = .returned (.tuple #[.pointer (some ⟨p.sb, 0, none⟩), .int .i64 0]) ∧ StAt w' p c (resM c L (newM n)) ∧ StOk p c ∧ p.V = V ∧ w.heap.size ≤ p.sb ∧ w.heap.size ≤ p.tb ∧ w.heap.size ≤ p.bb ∧ (∀ k, p.bv.ownBlock = some k → w.heap.size ≤ k) ∧ Keeps c.S.T w w') ∨
 (resE c L (newM n) ≠ 0 ∧ e = .returned (.tuple #[.pointer none, .int .i64 (resE c L (newM n))]) ∧ NandAt w' c.S V c.zs (resM c L (newM n)).n ∧ Keeps c.S.T w w')
section
variable {w : World} {V : Nat → Value} {c : SC} {n : NS}
set_option maxHeartbeats 3200000 in
theorem open19 (h : NandAt w c.S V c.zs n) (hR : Roles c.S) (hF : Flds w) (h0 : c.S.T 0 = 0) (hz : ∀ j, j < 4 → (c.zs j).length ≤ 64) (hV : ∀ j, j < 4 → ∀ k, (V j).ownBlock = some k → k < w.heap.size)
   (hw : 0 ≤ c.who ∧ c.who < 4) (v : Value) (hv : Ints w v c.bl) (hb1 : 1 ≤ c.bl.length) (hb : c.bl.length ≤ 64) (hbr : ∀ i, i < c.bl.length → 2 ≤ c.bl.getD i 0 ∧ c.bl.getD i 0 < c.S.all)
   {k : Int} (wf : Wf c (newM n) k) (hs : -9223372036854775000 ≤ c.sp ∧ c.sp ≤ 9223372036854775000) (hk : k < 1152921504600000000) (hp : (pagesR c.S n c.bl).2 = 0) (hm : mayL (pagesR c.S n c.bl).1 c.bl.length = true) :
   Calls Tryz.prog 19 #[.pointer (some ⟨c.S.nb, 0, none⟩), .int .i64 c.who, .agg #[.bool true, .int .i64 c.ep, .int .i64 c.sz, .int .i64 c.sp, v]] w (MntP V c (pagesR c.S n c.bl).1 n w) := by
 obtain ⟨ao, cap, g, off, hvf, _⟩ := hv.form
 have hE1 := World.grownBy_alloc w (.cells #[.bool true, .int .i64 c.ep, .int .i64 c.sz, .int .i64 c.sp, v] 33) none
 have hB1 := Blk.new w 33 #[.bool true, .int .i64 c.ep, .int .i64 c.sz, .int .i64 c.sp, v]
 have hvlt := ints_lt hv hb1
 obtain ⟨L, hL⟩ : ∃ z, (pagesR c.S n c.bl).1 = z := ⟨_, rfl⟩
 obtain ⟨er, her⟩ : ∃ z, (pagesR c.S n c.bl).2 = z := ⟨_, rfl⟩
 rw [hL] at hm ⊢
 rw [her] at hp
 have hp1 : (er != 0) = false := by simp [hp]
 have H := Lib.hid (show NandAt w c.S V c.zs n ∧ Roles c.S ∧ Flds w ∧ Ints w v c.bl from ⟨h, hR, hF, hv⟩)
 have NEW := fun wx (hE : w.grownBy wx none) => new18 (h.ext hE hR) hR (hF.ext hE) h0 hz (fun j hj k hk => Nat.lt_of_lt_of_le (hV j hj k hk) hE.size) c.who c.ep c.sz c.sp hw v c.bl (hv.kept hE (by simp)) hb1 hb hbr
 have PAG := fun wx (hE : w.grownBy wx none) => pages16_any (h.ext hE hR) hR (hF.ext hE) wf.bs (fun i j => Nat.le_trans (wf.bn i j) (by decide)) v c.bl (hv.kept hE (by simp)) (fun k hk => Nat.lt_of_lt_of_le (hvlt k hk) hE.size) (by omega)
 rw [hL, her] at PAG
 obtain ⟨l, l1, l2, l3⟩ := go_list L (cntC c L) c.bl.length
 have HEAL := fun (fo : Option Addr) (fc : Nat) (wx : World) (B : Nat) (hO : wx.ownsRow B 108 10 (.slice fo L.length fc) L.length (fndsL L)) => heal_c (.slice fo L.length fc) L c.bl.length c.who c.ep c.sz wx ⟨RowF.owns hO, fun k hk => (hO.lt k hk).2, hm⟩
 rw [Int.toNat_natCast] at HEAL
 have HLE := Lib.hid (show 1 ≤ c.bl.length ∧ (-9223372036854775000 ≤ c.sp ∧ c.sp ≤ 9223372036854775000) ∧ k < 1152921504600000000 ∧ (∀ j, j < 4 → ∀ k, (V j).ownBlock = some k → k < w.heap.size) ∧ Wf c (newM n) k from ⟨hb1, hs, hk, hV, wf⟩)
 have HL := Lib.hid (show goC c L = l.map (fun b : Nat => (b : Int)) ∧ l.Pairwise (· < ·) ∧ ∀ b ∈ l, b < c.bl.length from ⟨l1, l2, fun b hb => (l3 b hb).1⟩)
 obtain ⟨wr1, hw1⟩ : ∃ y, w.alloc (.cells #[.bool true, .int .i64 c.ep, .int .i64 c.sz, .int .i64 c.sp, v] 33) = y := ⟨_, rfl⟩
 rw [hw1] at hE1 hB1
 obtain ⟨zL, hzL⟩ : ∃ z, w.heap.size = z := ⟨_, rfl⟩
 rw [hzL] at hB1
 have HE1 := Lib.hid hE1
 have NW := NEW wr1 hE1
 unfold New18 at NW
 subst hvf
 clear h hR hF h0 hz hV hw hv hb1 hb hbr wf hs hk hp hm hL her hvlt NEW hE1 l1 l2 l3
 have ROK := fun (wx : World) (p : SP) (hst : StAt wx p c (newM n)) (hok : StOk p c) (hpV : p.V = V) (hVx : ∀ j, j < 4 → ∀ k, (V j).ownBlock = some k → k < wx.heap.size) (so go : Option Addr) (sc gc : Nat) (hsp : SpR wx so (spotsN (cntC c L) (goC c L) 64).length (spotsN (cntC c L) (goC c L) 64)) (hso : ∀ b off, so = some ⟨b, off, none⟩ → tS p c b = 0 ∧ b < wx.heap.size) (hgo : Ints wx (.slice go (goC c L).length gc) (goC c L)) (he : (eraA c (l.map fun b : Nat => (b : Int)) (newM n)).1 = 0) =>
   restore18_ok hst hok HLE.out.2.2.2.2 HLE.out.2.1 HLE.out.2.2.1 HLE.out.1 (by rw [hpV]; exact hVx) (ints_lt hst.iv HLE.out.1) so go (spotsN (cntC c L) (goC c L) 64).length sc (goC c L).length gc (seqC c L) l (spotsN (cntC c L) (goC c L) 64) hsp (spotsN_len _ _ _) hso (by rw [← HL.out.1]; exact hgo) HL.out.2.1 HL.out.2.2 he
 have RBAD := fun (wx : World) (p : SP) (hst : StAt wx p c (newM n)) (hok : StOk p c) (so go : Option Addr) (sc gc : Nat) (hgo : Ints wx (.slice go (goC c L).length gc) (goC c L)) (he : (eraA c (l.map fun b : Nat => (b : Int)) (newM n)).1 ≠ 0) =>
   restore18_bad hst hok HLE.out.2.2.2.2 HLE.out.2.1 HLE.out.2.2.1 so go (spotsN (cntC c L) (goC c L) 64).length sc (goC c L).length gc (seqC c L) l (by rw [← HL.out.1]; exact hgo) HL.out.2.1 HL.out.2.2 he
 by_cases he : (eraA c (l.map fun b : Nat => (b : Int)) (newM n)).1 = 0
 · have HER := Lib.hid he
   clear he RBAD
   go_enter Tryz.func19, Tryz.ntmps19
   go_upto_region 1 with fail
   clear hw1 hzL
   go_wp2_with (first
     | (refine ten_read18 rfl _ rfl rfl hB1 ?_)
     | (go_at_call 27; refine NW.mono ?_; rintro e w2 ⟨p, rfl, hst, hok, rfl, hE2, hp1', hp2, hp3, hp4⟩; have HP := Lib.hid (And.intro hok (And.intro hp1' (And.intro hp2 (And.intro hp3 hp4)))); have HS2 := Lib.hid hst; have hB2 := hB1.ext hE2; have c4 := (hB2.cell 4).trans (show _ = some (Value.slice ao c.bl.length cap) from rfl); have HE2 := Lib.hid (ext_trans HE1.out hE2); have HPG := Lib.hid (show wr1.heap.size ≤ w2.heap.size from hE2.size); clear hst hok hE2 hp1' hp2 hp3 hp4 hB1)
     | (go_at_call 37; refine (PAG _ HE2.out).mono ?_; rintro e w3 ⟨v3, rfl, hO3, hE3⟩; obtain ⟨fo, fc, rfl⟩ := row_form hO3; have HO3 := Lib.hid hO3; have hB3 := hB2.ext hE3; replace c4 := (hB3.cell 4).trans (show _ = some (Value.slice ao c.bl.length cap) from rfl); have c1 := (hB3.cell 1).trans (show _ = some (Value.int .i64 c.ep) from rfl); have c2 := (hB3.cell 2).trans (show _ = some (Value.int .i64 c.sz) from rfl); have HS3 := Lib.hid (HS2.out.ext HP.out.1 hE3); have HE3 := Lib.hid hE3; clear hO3 hE3 hB2)
     | (go_at_call 39; refine (HEAL _ _ _ _ HO3.out).mono ?_; rintro e w4 ⟨⟨sv, gv, rfl, hs4, hg4⟩, hE4⟩; obtain ⟨so, sc, rfl, hsp, hso⟩ := spr_owns hs4; obtain ⟨go, gc, rfl⟩ := owns_shape13 hg4; have HS4 := Lib.hid (HS3.out.ext HP.out.1 hE4); have HG4 := Lib.hid hg4.ints; have HSP := Lib.hid (And.intro hsp hso); have HE4 := Lib.hid hE4; have HE04 := Lib.hid (ext_trans (ext_trans HE2.out HE3.out) hE4); clear hs4 hg4 hE4 hsp hso c4 c1 c2 hB3)
     | (go_at_call 38; refine (ROK _ p HS4.out HP.out.1 rfl (fun j hj k hk => by have h1 := HLE.out.2.2.2.1 j hj k hk; have h2 := HE04.out.size; omega) so go sc gc HSP.out.1 (fun b off e => by have h1 := HSP.out.2 b off e; have h2 := HS3.out.bk.lt; have h3 := HS3.out.tb.lt; have h4 := bufLt _ _ _ HS3.out.bf; have h5 := HS3.out.nd.fresh h1.1; refine ⟨?_, h1.2⟩; unfold tS; rw [if_neg (by omega)]; exact h5) HG4.out HER.out).mono ?_; rintro e w5 ⟨rfl, hR5⟩))
   refine bodyPost_ret (v := .tuple #[.pointer (some ⟨p.sb, 0, none⟩), .int .i64 0]) (by simp [results, Tryz.results19, go_sem]) rfl ?_
   obtain ⟨t, t1, t2, t3, t4⟩ := hR5
   have eM : resM c L (newM n) = { (eraA c (l.map fun b : Nat => (b : Int)) (newM n)).2 with rs := rowC c L, sq := seqC c L, fr := begN c (eraA c (l.map fun b : Nat => (b : Int)) (newM n)).2 } := by
     unfold resM
     rw [HL.out.1, if_neg (by simp [HER.out])]
   refine .inl ⟨by unfold resE; rw [HL.out.1]; exact HER.out, p.withTab t, rfl, by rw [eM]; exact t4, t2, rfl, ?_, ?_, ?_, fun k hk => ?_, ?_⟩
   · have h1 := HE1.out.size; have h2 := HP.out.2.1; show w.heap.size ≤ p.sb; omega
   · have h1 := HE04.out.size; show w.heap.size ≤ t; omega
   · have h1 := HE1.out.size; have h2 := HP.out.2.2.2.1; show w.heap.size ≤ p.bb; omega
   · have h1 := HE1.out.size; have h2 := HP.out.2.2.2.2 k hk; omega
   · have h1 := HE1.out.size
     exact keeps_new HE04.out t3 (by have := HP.out.2.1; omega) (by have := HP.out.2.2.1; omega) (by have := HP.out.2.2.2.1; omega)
 · have HER := Lib.hid he
   obtain ⟨eE, heE⟩ : ∃ z, (eraA c (l.map fun b : Nat => (b : Int)) (newM n)).1 = z := ⟨_, rfl⟩
   have hb2 : (eE != 0) = true := by rw [← heE]; simpa using he
   have HEE := Lib.hid heE
   rw [heE] at RBAD
   clear he heE ROK
   go_enter Tryz.func19, Tryz.ntmps19
   go_upto_region 1 with fail
   clear hw1 hzL
   go_wp2_with (first
     | (refine ten_read18 rfl _ rfl rfl hB1 ?_)
     | (go_at_call 27; refine NW.mono ?_; rintro e w2 ⟨p, rfl, hst, hok, rfl, hE2, hp1', hp2, hp3, hp4⟩; have HP := Lib.hid (And.intro hok (And.intro hp1' (And.intro hp2 (And.intro hp3 hp4)))); have HS2 := Lib.hid hst; have hB2 := hB1.ext hE2; have c4 := (hB2.cell 4).trans (show _ = some (Value.slice ao c.bl.length cap) from rfl); have HE2 := Lib.hid (ext_trans HE1.out hE2); have HPG := Lib.hid (show wr1.heap.size ≤ w2.heap.size from hE2.size); clear hst hok hE2 hp1' hp2 hp3 hp4 hB1)
     | (go_at_call 37; refine (PAG _ HE2.out).mono ?_; rintro e w3 ⟨v3, rfl, hO3, hE3⟩; obtain ⟨fo, fc, rfl⟩ := row_form hO3; have HO3 := Lib.hid hO3; have hB3 := hB2.ext hE3; replace c4 := (hB3.cell 4).trans (show _ = some (Value.slice ao c.bl.length cap) from rfl); have c1 := (hB3.cell 1).trans (show _ = some (Value.int .i64 c.ep) from rfl); have c2 := (hB3.cell 2).trans (show _ = some (Value.int .i64 c.sz) from rfl); have HS3 := Lib.hid (HS2.out.ext HP.out.1 hE3); have HE3 := Lib.hid hE3; clear hO3 hE3 hB2)
     | (go_at_call 39; refine (HEAL _ _ _ _ HO3.out).mono ?_; rintro e w4 ⟨⟨sv, gv, rfl, hs4, hg4⟩, hE4⟩; obtain ⟨so, sc, rfl, hsp, hso⟩ := spr_owns hs4; obtain ⟨go, gc, rfl⟩ := owns_shape13 hg4; have HS4 := Lib.hid (HS3.out.ext HP.out.1 hE4); have HG4 := Lib.hid hg4.ints; have HSP := Lib.hid (And.intro hsp hso); have HE4 := Lib.hid hE4; have HE04 := Lib.hid (ext_trans (ext_trans HE2.out HE3.out) hE4); clear hs4 hg4 hE4 hsp hso c4 c1 c2 hB3)
     | (go_at_call 38; refine (RBAD _ p HS4.out HP.out.1 so go sc gc HG4.out (by have h1 := HER.out; rw [HEE.out] at h1; exact h1)).mono ?_; rintro e w5 ⟨rfl, hR5, hK5⟩))
   refine bodyPost_ret (v := .tuple #[.pointer none, .int .i64 eE]) (by simp [results, Tryz.results19, go_sem]) rfl ?_
   have eM : resM c L (newM n) = (eraA c (l.map fun b : Nat => (b : Int)) (newM n)).2 := by
     unfold resM
     rw [HL.out.1, if_pos HER.out]
   have eE2 : resE c L (newM n) = eE := by unfold resE; rw [HL.out.1]; exact HEE.out
   refine .inr ⟨by rw [eE2, ← HEE.out]; exact HER.out, by rw [eE2], by rw [eM]; exact hR5.nd, ?_⟩
   have h1 := HE1.out.size
   exact keeps_new HE04.out hK5 (by have := HP.out.2.1; omega) (by have := HP.out.2.2.1; omega) (by have := HP.out.2.2.2.1; omega)
end
end Go.Proofs.YtdnpdoipipfkoaaGreatDoor

namespace Go.Proofs.YtdnpdoipipfkoaaGreatDoor
set_option linter.unusedVariables false
set_option linter.unusedSimpArgs false
set_option linter.unusedVariables false
set_option linter.unusedSimpArgs false
set_option maxRecDepth 100000
open Go.RowKit
theorem pgsN_len19 (S : NShape) (s : NS) (n : Int) (bk : Nat) : ∀ j, (pgsN S s n bk j).1.length ≤ j
 | 0 => by simp [pgsN]
 | j + 1 => by
   have h := pgsN_len19 S s n bk j
   unfold pgsN
   split
   · split
     · simp; omega
     · simp
   · omega
theorem blksN_len19 (S : NShape) (s : NS) (bl : List Int) : ∀ i, (blksN S s bl i).1.length ≤ i * S.pg
 | 0 => by simp [blksN]
 | i + 1 => by
   have h := blksN_len19 S s bl i
   have h1 := pgsN_len19 S s (bl.getD i 0) i (nextN (s.L (bl.getD i 0).toNat) S.pg)
   have h2 := nextN_le (s.L (bl.getD i 0).toNat) S.pg
   have h3 : (i + 1) * S.pg = i * S.pg + S.pg := by rw [Nat.add_mul]; omega
   unfold blksN
   split
   · split
     · omega
     · split
       · rw [List.length_append]; omega
       · simp
   · omega
theorem pagesR_len (S : NShape) (s : NS) (bl : List Int) : (pagesR S s bl).1.length ≤ bl.length * S.pg := by
 unfold pagesR
 split
 · simp
 · exact blksN_len19 S s bl bl.length
theorem may_on {c : SC} {n : NS} {L : List Fnd} (A : AllF c n L) (hl : L.length ≤ 60) (hb : c.bl.length ≤ 64) : mayL L c.bl.length = true := by
 unfold mayL
 simp only [Bool.and_eq_true, decide_eq_true_eq]
 refine ⟨List.all_eq_true.2 fun f hf => ?_, hl, by omega⟩
 obtain ⟨b, j, _, _, _, _, _, h | h⟩ := A.of f hf
 · unfold okF
   rw [h.1]
   rfl
 · unfold okF
   rw [h.is.ok.1, Bool.or_true]
section
variable {c : SC} {m : SM} {k : Int}
theorem wf_newM {n : NS} (h : Wf c m k) (he : n = m.n) : Wf c (newM n) k := by
 subst he
 exact ⟨h.cn, ⟨Int.le_refl _, by have := h.sq; show (0 : Int) ≤ k; omega⟩, by simp [newM], fun x hx => by simp [newM] at hx, ⟨by show (-1 : Int) ≤ -1; omega, by show (-1 : Int) < _; omega⟩, h.bs, h.bn, h.dn⟩
theorem wf_eraA : ∀ (l : List Int) (m : SM) (k : Int), Wf c m k → Wf c (eraA c l m).2 (k + 6 * l.length)
 | [], m, k, h => by
   unfold eraA
   exact h.mono (by simp)
 | b :: l, m, k, h => by
   have h1 := wf_era h b
   have e : k + 6 + 6 * (l.length : Int) = k + 6 * ((b :: l).length : Int) := by simp; omega
   unfold eraA
   split
   · exact h.mono (by simp; omega)
   · split
     · have := wf_eraA l m k h
       exact this.mono (by simp; omega)
     · split
       · exact h1.mono (by simp; omega)
       · have := wf_eraA l (eraM c m b) (k + 6) h1
         rw [e] at this
         exact this
theorem wf_px {x : Int} (h : Wf c m k) (hx : -9223372036854775808 ≤ x ∧ x ≤ 9223372036854775807) : Wf c { m with n := backS x m.n } k :=
 ⟨⟨h.cn.po, h.cn.N, h.cn.M, h.cn.er, hx⟩, h.sq, h.ql, h.qd, h.fr, h.bs, h.bn, h.dn⟩
theorem wf_col {b : Int} {e : Int} {m' : SM} (hp : c.S.pg ≤ 16) (h : Wf c m k) (hm : colR c m b 100 = some (e, m')) : Wf c m' (k + 20006) := by
 unfold colR at hm
 split at hm
 · simp only [Option.some.injEq, Prod.mk.injEq] at hm; rw [← hm.2]; exact h.mono (by omega)
 · split at hm
   · simp only [Option.some.injEq, Prod.mk.injEq] at hm; rw [← hm.2]; exact h.mono (by omega)
   · split at hm
     · simp only [Option.some.injEq, Prod.mk.injEq] at hm; rw [← hm.2]; exact h.mono (by omega)
     · exact (wf_coll hp h hm).mono (by omega)
theorem begN_in (m : SM) : -1 ≤ begN c m ∧ begN c m < c.bl.length := by
 rcases beg_is (c := c) m with h | ⟨t, h1, h2, _⟩ <;> omega
end
section
variable {w : World} {S : NShape} {V : Nat → Value} {zs : Nat → List Int} {s : NS}
theorem back7 (h : NandAt w S V zs s) (hR : Roles S) (x : Int) : Calls Tryz.prog 8 #[.pointer (some ⟨S.pb, 0, none⟩), .int .i64 x] w fun e w' => e = .returned (.tuple #[]) ∧ NandAt w' S V zs (backS x s) ∧ Keeps S.T w w' :=
 (back_is _ _ _ _ x _ h.pow).mono fun e w' ⟨h1, h2, h3⟩ => ⟨h1, h.power hR h3 h2, .own h3 (by rw [hR.tp]; decide)⟩
theorem gone7 (h : NandAt w S V zs s) : Calls Tryz.prog 9 #[.pointer (some ⟨S.pb, 0, none⟩)] w fun e w' => e = .returned (.bool s.off) ∧ w = w' := gone_is _ _ _ _ _ h.pow
variable {p : SP} {c : SC} {m : SM}
theorem back19 (h : StAt w p c m) (ok : StOk p c) (x : Int) : Calls Tryz.prog 8 #[.pointer (some ⟨c.S.pb, 0, none⟩), .int .i64 x] w fun e w' => e = .returned (.tuple #[]) ∧ StAt w' p c { m with n := backS x m.n } ∧ Keeps c.S.T w w' :=
 (back7 h.nd ok.R x).mono fun e w' ⟨h1, h2, h3⟩ => ⟨h1, h.nand ok h2 h3, h3⟩
end
end Go.Proofs.YtdnpdoipipfkoaaGreatDoor

namespace Go.Proofs.YtdnpdoipipfkoaaGreatDoor
set_option linter.unusedVariables false
set_option linter.unusedSimpArgs false
set_option linter.unusedVariables false
set_option linter.unusedSimpArgs false
set_option maxRecDepth 100000
open Go.RowKit
end Go.Proofs.YtdnpdoipipfkoaaGreatDoor

namespace Go.Proofs.YtdnpdoipipfkoaaGreatDoor
set_option linter.unusedVariables false
set_option linter.unusedSimpArgs false
set_option linter.unusedVariables false
set_option linter.unusedSimpArgs false
set_option maxRecDepth 100000
open Go.RowKit
theorem newE_none : newE (zsO []) = 0 := by rw [zsO_none]; decide
theorem keeps_new18 {w0 w w' : World} {p : SP} {c : SC} (hE : w0.grownBy w none) (hk : Keeps (tS p c) w w') (hlo : ∀ k, c.S.T k ≠ 0 → w0.heap.size ≤ k) (hb : w0.heap.size ≤ p.sb ∧ w0.heap.size ≤ p.tb ∧ w0.heap.size ≤ p.bb) : w0.grownBy w' none :=
 Keeps.grown hE hk (fun k hk2 => by
   unfold tS at hk2
   split at hk2
   · omega
   · exact hlo k hk2)
end Go.Proofs.YtdnpdoipipfkoaaGreatDoor

namespace Go.Proofs.YtdnpdoipipfkoaaGreatDoor
set_option linter.unusedVariables false
set_option linter.unusedSimpArgs false
set_option linter.unusedVariables false
set_option linter.unusedSimpArgs false
set_option maxRecDepth 100000
open Go.RowKit
theorem below18 {w w' : World} (h : w.grownBy w' none) : Below w.heap.size w w' := ⟨h.os, h.tape, h.output, h.size, fun k hk => h.block k hk (by simp)⟩
section
variable {w : World} {p : SP} {c : SC} {m : SM}
end
section
variable {w0 wx wy : World} {p : SP} {c : SC} {m m' : SM} {k k' : Int}
theorem Keeps.blk18 {T : Nat → Nat} {w w' : World} {b : Nat} {t : TypeId} {cs : Array Value} (h : Keeps T w w') (hb : Blk w b t cs) (ht : T b = 0) : Blk w' b t cs := (h.block _ hb.lt ht).trans hb
end
structure Act18 where
 kd : Int
 pl : Int
 dt : ByteArray
def act18C (x : Act18) : Array Value := #[.int .u8 x.kd, .int .i64 x.pl, .string x.dt]
def Acts18 (w : World) (a : Option Addr) (len : Nat) (A : Nat → Act18) : Prop :=
 len ≤ 9223372036854775807 ∧ ∀ i, i < len → (∃ b off, a = some ⟨b, off, none⟩ ∧ w.rangeAt b (off + i * 3) (act18C (A i)).toList ∧ b < w.heap.size) ∧ (0 ≤ (A i).kd ∧ (A i).kd ≤ 255) ∧ (-9223372036854775808 ≤ (A i).pl ∧ (A i).pl ≤ 9223372036854775807) ∧ (A i).dt.size ≤ 9223372036854775807
theorem acts18_of {w : World} {a : Option Addr} {len cap : Nat} (h : IsRecs [.inl .u8, .inl .i64, .inr true] w a len cap) (hs : ∀ x, a = some x → x.spot = none ∧ x.block < w.heap.size) : ∃ A, Acts18 w a len A := by
 rcases h with ⟨rfl, rfl, rfl⟩ | ⟨x, rfl, hl, hm, hz⟩
 · exact ⟨fun _ => ⟨0, 0, ⟨#[]⟩⟩, by omega, fun i hi => by omega⟩
 · obtain ⟨hsp, hblk⟩ := hs x rfl
   obtain ⟨b, off, sp⟩ := x
   simp only at hsp hblk
   subst hsp
   unfold maxLen at hm
   have key : ∀ i, ∃ q : Act18, i < len → w.rangeAt b (off + i * 3) (act18C q).toList ∧ (0 ≤ q.kd ∧ q.kd ≤ 255) ∧ (-9223372036854775808 ≤ q.pl ∧ q.pl ≤ 9223372036854775807) ∧ q.dt.size ≤ 9223372036854775807 := by
     intro i
     by_cases hi : i < len
     · obtain ⟨v0, g0, k, rfl, hk⟩ := hz i hi 0 _ rfl
       obtain ⟨v1, g1, pl, rfl, hp⟩ := hz i hi 1 _ rfl
       obtain ⟨v2, g2, dt, rfl, hd⟩ := hz i hi 2 _ rfl
       refine ⟨⟨k, pl, dt⟩, fun _ => ⟨fun j u hj => ?_, ?_, ?_, ?_⟩⟩
       · rw [addr_add] at g0 g1 g2
         match j, hj with
         | 0, hj => simp [act18C] at hj; subst hj; simpa [Nat.add_assoc] using g0
         | 1, hj => simp [act18C] at hj; subst hj; simpa [Nat.add_assoc] using g1
         | 2, hj => simp [act18C] at hj; subst hj; simpa [Nat.add_assoc] using g2
         | j + 3, hj => simp [act18C] at hj
       · simpa [Lit.wf, IntKind.min, IntKind.max, IntKind.bits, IntKind.signed] using hk
       · simpa [Lit.wf, IntKind.min, IntKind.max, IntKind.bits, IntKind.signed] using hp
       · unfold maxLen at hd
         exact hd
     · exact ⟨⟨0, 0, ⟨#[]⟩⟩, fun h => absurd h hi⟩
   refine ⟨fun i => Classical.choose (key i), by omega, fun i hi => ?_⟩
   obtain ⟨h1, h2, h3, h4⟩ := Classical.choose_spec (key i) hi
   exact ⟨⟨b, off, rfl, h1, hblk⟩, h2, h3, h4⟩
theorem Tryz.sizeAct18 : (Tryz.prog.info? 40).map (·.size) = some 3 := by kernel_rfl
theorem Tryz.sizeWard18 : (Tryz.prog.info? 24).map (·.size) = some 5 := by kernel_rfl
section
variable {ops : Array Oper} {rest : List Oper} {o : Oper} {a : Act} {w : World} {Q : Exit → Act → World → Prop}
theorem act18_load (hgd : o.guard = none) (x : Operand) (ho : o.op = .load 40 x) {b off : Nat} (hx : a.eval x = .pointer (some ⟨b, off, none⟩)) {y : Act18} (hr : w.rangeAt b off (act18C y).toList)
   (h : wpList Tryz.prog ops Q rest (a.put o.dst (.agg (act18C y))) w) : wpList Tryz.prog ops Q (o :: rest) a w :=
 wpList_load_mid hgd _ x ho b off hx _ _ hr Tryz.underlying40 rfl (by rw [Tryz.sizeAct18]; rfl) (by simpa using h)
theorem act18_store (x y : Operand) (ho : o.op = .store 40 x y) {g : Nat} (hx : a.eval x = .pointer (some ⟨g, 0, none⟩)) {z : Act18} (hy : a.eval y = .agg (act18C z)) {old : Array Value} (hg : Blk w g 40 old) (hold : old.size = 3) (hwt : Region.wanted o (yielded ops a.tmps) = true)
   (h : ∀ w', Blk w' g 40 (act18C z) → w.grownBy w' (some g) → w'.heap.size = w.heap.size → wpList Tryz.prog ops Q rest (a.put o.dst undef) w') : wpList Tryz.prog ops Q (o :: rest) a w :=
 wpList_store_part hwt _ x y ho g 0 3 _ hx hy _ old _ hg rfl Tryz.sizeAct18 (by omega) (by simp [act18C, Value.oneCell']) (by
   have h1 : (act18C z).toList.length = 3 := rfl
   rw [h1, List.drop_of_length_le (by simp; omega)]
   simp) h
def wardC (n0 n1 n2 n3 : Int) (ao : Option Addr) (n cap : Nat) : Array Value := #[.int .i64 n0, .int .i64 n1, .int .i64 n2, .int .i64 n3, .slice ao n cap]
theorem ward_load18 (hwt : Region.wanted o (yielded ops a.tmps) = true) (x : Operand) (ho : o.op = .load 24 x) {g : Nat} (hx : a.eval x = .pointer (some ⟨g, 0, none⟩)) {n0 n1 n2 n3 : Int} {ao : Option Addr} {n cap : Nat} (hg : Blk w g 24 (wardC n0 n1 n2 n3 ao n cap))
   (h : wpList Tryz.prog ops Q rest (a.put o.dst (.agg #[.int .i64 n0, .int .i64 n1, .int .i64 n2, .int .i64 n3, .slice ao n cap])) w) : wpList Tryz.prog ops Q (o :: rest) a w :=
 wpList_load_part hwt _ x ho g 0 5 hx _ _ _ _ _ hg (show (wardC n0 n1 n2 n3 ao n cap).extract 0 (0 + 5) = wardC n0 n1 n2 n3 ao n cap from rfl) rfl Tryz.underlying24 rfl Tryz.sizeWard18 h
end
end Go.Proofs.YtdnpdoipipfkoaaGreatDoor

namespace Go.Proofs.YtdnpdoipipfkoaaGreatDoor
set_option linter.unusedVariables false
set_option linter.unusedSimpArgs false
set_option linter.unusedVariables false
set_option linter.unusedSimpArgs false
set_option maxRecDepth 100000
open Go.RowKit
section
variable {w0 wx wy : World} {p : SP} {c : SC} {m m' : SM} {tb : Nat} {tv : Value} {n : Nat}
end
theorem open_room (a b pg d : Int) : 0 ≤ prO b ∧ prO b < (toO a b pg d).toNat := by
 have h1 := pgO_in pg
 have h2 := szO_in a
 have h3 := prO_in b
 have h4 := umN_in d 3 (by decide)
 have h5 := toO_in a b pg d
 have h6 : 0 ≤ szO a / pgO pg := Int.ediv_nonneg (by omega) (by omega)
 have : toO a b pg d = szO a / pgO pg + 2 + prO b + umN d 3 := rfl
 omega
end Go.Proofs.YtdnpdoipipfkoaaGreatDoor

namespace Go.Proofs.YtdnpdoipipfkoaaGreatDoor
set_option linter.unusedVariables false
set_option linter.unusedSimpArgs false
set_option linter.unusedVariables false
set_option linter.unusedSimpArgs false
set_option maxRecDepth 100000
open Go.RowKit
def stsC (n : Nat) (F : Nat → ByteArray) : Array Value := ((List.range n).map (fun i => Value.string (F i))).toArray
theorem stsC_size (n : Nat) (F : Nat → ByteArray) : (stsC n F).size = n := by simp [stsC]
theorem stsC_at {n : Nat} {F : Nat → ByteArray} {i : Nat} (hi : i < n) : (stsC n F)[i]? = some (.string (F i)) := by
 simp [stsC, hi]
def updF (F : Nat → ByteArray) (i : Nat) (d : ByteArray) : Nat → ByteArray := fun j => if j = i then d else F j
theorem stsC_set {n : Nat} {F : Nat → ByteArray} {i : Nat} (d : ByteArray) : (stsC n F).setIfInBounds i (.string d) = stsC n (updF F i d) := by
 apply Array.ext_getElem?
 intro j
 by_cases hj : j < n
 · rw [stsC_at hj]
   by_cases e : j = i
   · subst e
     rw [Array.getElem?_setIfInBounds_self_of_lt (by rw [stsC_size]; exact hj)]
     simp [updF]
   · rw [Array.getElem?_setIfInBounds_ne (fun h => e h.symm), stsC_at hj]
     simp [updF, e]
 · rw [Array.getElem?_eq_none (by simp [stsC_size]; omega), Array.getElem?_eq_none (by rw [stsC_size]; omega)]
theorem stsC_made (n : Nat) : madeCells #[.string ⟨#[]⟩] n = stsC n (fun _ => ⟨#[]⟩) := by
 apply Array.ext_getElem?
 intro j
 by_cases hj : j < n
 · rw [made_one _ _ _ hj, stsC_at hj]
 · rw [Array.getElem?_eq_none (by simp [madeCells]; omega), Array.getElem?_eq_none (by rw [stsC_size]; omega)]
theorem sts_noint {w : World} {g n : Nat} {F : Nat → ByteArray} (h : Blk w g 9 (stsC n F)) (o : Nat) (k : IntKind) (x : Int) : w.cell? ⟨g, o, none⟩ ≠ some (.int k x) := by
 intro hc
 rw [h.cell o] at hc
 by_cases ho : o < n
 · rw [stsC_at ho] at hc; cases hc
 · rw [Array.getElem?_eq_none (by rw [stsC_size]; omega)] at hc; cases hc
section
variable {w0 wx wy : World} {p : SP} {c : SC} {m m' : SM} {tb g sz : Nat} {tv : Value} {n : Nat} {F : Nat → ByteArray}
end
theorem row_at18 {w wx : World} {a : Option Addr} {len cap : Nat} {ys : List Int} (h : IsRow .u8 w a len cap ys) (hs : ∀ x, a = some x → x.spot = none ∧ x.block < w.heap.size) (hE : w.grownBy wx none) {i : Nat} (hi : i < len) :
   ∃ b off, a = some ⟨b, off, none⟩ ∧ ∃ y : Nat, wx.cell? ⟨b, off + i, none⟩ = some (.int .u8 (y : Int)) ∧ y ≤ 255 := by
 rcases h with ⟨rfl, rfl, rfl, rfl⟩ | ⟨x, rfl, h1, h2, h3, h4, h5⟩
 · omega
 · obtain ⟨hsp, hb⟩ := hs x rfl
   obtain ⟨b, off, sp⟩ := x
   simp only at hsp hb
   subst hsp
   have hc := h4 i (by omega)
   rw [addr_add] at hc
   have hw := h5 _ (List.getElem_mem (show i < ys.length by omega))
   have hwb : 0 ≤ ys[i] ∧ ys[i] ≤ 255 := by simpa [Lit.wf, IntKind.min, IntKind.max, IntKind.bits, IntKind.signed] using hw
   have hg : ys.getD i 0 = ys[i]'(by omega) := by rw [List.getD_eq_getElem?_getD, List.getElem?_eq_getElem (by omega)]; rfl
   rw [hg] at hc
   refine ⟨b, off, rfl, (ys[i]'(by omega)).toNat, ?_, by omega⟩
   rw [show (((ys[i]'(by omega)).toNat : Nat) : Int) = ys[i]'(by omega) by omega]
   exact hE.cell hc (by simp)
theorem Tryz.infoStr18 : (Tryz.prog.info? 9).map (fun i => (i.zero, i.size, i.bytes)) = some (some (.string ⟨#[]⟩), 1, 16) := by kernel_rfl
end Go.Proofs.YtdnpdoipipfkoaaGreatDoor

namespace Go.Proofs.YtdnpdoipipfkoaaGreatDoor
set_option linter.unusedVariables false
set_option linter.unusedSimpArgs false
set_option linter.unusedVariables false
set_option linter.unusedSimpArgs false
set_option maxRecDepth 100000
open Go.RowKit
def StB (w : World) (g n : Nat) (F : Nat → ByteArray) : Prop := ∃ cur, w.heap[g]? = some (.cells cur 9 (0, 0)) ∧ ∀ i, i < n → cur[i]? = some (.string (F i))
section
variable {w w' : World} {g n : Nat} {F G : Nat → ByteArray}
theorem StB.cell (h : StB w g n F) {i : Nat} (hi : i < n) : w.cell? ⟨g, i, none⟩ = some (.string (F i)) := by
 obtain ⟨cur, h1, h2⟩ := h
 rw [cell_of_row w g i cur _ (0, 0) h1]
 exact h2 i hi
theorem StB.free (h : StB w g n F) (i : Nat) : w.frozen? ⟨g, i, none⟩ = false := by
 obtain ⟨cur, h1, _⟩ := h
 exact frozen_of_row w g i cur _ h1
theorem StB.lt (h : StB w g n F) : g < w.heap.size := by
 obtain ⟨cur, h1, _⟩ := h
 exact (Array.getElem?_eq_some_iff.1 h1).1
theorem StB.block (h : StB w g n F) (hb : w'.heap[g]? = w.heap[g]?) : StB w' g n F := by
 obtain ⟨cur, h1, h2⟩ := h
 exact ⟨cur, hb.trans h1, h2⟩
theorem StB.ext (h : StB w g n F) (hg : w.grownBy w' none) : StB w' g n F := h.block (hg.block g h.lt (by simp))
theorem StB.keeps {T : Nat → Nat} (h : StB w g n F) (hk : Keeps T w w') (ht : T g = 0) : StB w' g n F := h.block (hk.block g h.lt ht)
theorem StB.set (h : StB w g n F) (i : Nat) (d : ByteArray) : StB (w.setCell ⟨g, i, none⟩ (.string d)) g n (updF F i d) := by
 obtain ⟨cur, h1, h2⟩ := h
 refine ⟨_, heap_setCell_same w g i cur _ _ h1, fun j hj => ?_⟩
 unfold updF
 by_cases e : j = i
 · subst e
   have hlt : j < cur.size := (Array.getElem?_eq_some_iff.1 (h2 j hj)).1
   rw [if_pos rfl, Array.getElem?_setIfInBounds_self_of_lt hlt]
 · rw [if_neg e, Array.getElem?_setIfInBounds_ne (by omega)]
   exact h2 j hj
theorem StB.of_blk (h : Blk w g 9 (stsC n F)) : StB w g n F := ⟨_, h, fun i hi => stsC_at hi⟩
theorem StB.of_owns {B : Nat} {v : Value} (h : w.ownsRow B 9 1 v n ((List.range n).map fun i => Value.string (F i))) (hn : 1 ≤ n) : ∃ g cap, v = .slice (some ⟨g, 0, none⟩) n cap ∧ StB w g n F ∧ B ≤ g := by
 rcases h.2 with ⟨_, h0⟩ | ⟨g, cap, cur, rfl, h2, h3, _, _, _, h7⟩
 · omega
 · refine ⟨g, cap, rfl, ⟨cur, h3, fun i hi => ?_⟩, h2⟩
   have h8 : (cur.toList.take (n * 1))[i]? = ((List.range n).map fun i => Value.string (F i))[i]? := by rw [h7]
   rw [List.getElem?_take, if_pos (by omega), Array.getElem?_toList, List.getElem?_map, List.getElem?_range hi] at h8
   exact h8
end
section
variable {w : World} {p : SP} {c : SC} {m : SM}
theorem str_new (w : World) (d : ByteArray) : ∀ j u, [Value.string d][j]? = some u → (w.alloc (.cells #[.string d] 9)).cell? ((⟨w.heap.size, 0, none⟩ : Addr).add j) = some u := bytes_new w (.string d) 9
set_option maxHeartbeats 800000 in
theorem told19 (h : StAt w p c m) (ok : StOk p c) {k : Int} (wf : Wf c m k) (n : Nat) (h1 : 1 ≤ n) (h2 : n ≤ 64) (hr : ∀ i : Nat, i < n → reaE c m i = 0) :
   Calls Tryz.prog 16 #[.pointer (some ⟨p.sb, 0, none⟩), .int .i64 n] w fun e w' => ∃ g cap, e = .returned (.tuple #[.slice (some ⟨g, 0, none⟩) n cap, .bool true]) ∧ w.heap.size ≤ g ∧ StB w' g n (fun i => reaD c m i) ∧ w.grownBy w' none := by
 have RD := Lib.hid (fun (wx : World) (hE : w.grownBy wx none) (q : Int) => read18 (h.ext ok hE) ok wf q)
 have HR := Lib.hid hr
 obtain ⟨i0, hi, hz0, hz1, hz2⟩ := info_parts Tryz.infoStr18
 clear h wf hr
 go_enter Tryz.func16, Tryz.ntmps16
 go_wp2
 go_loopw [6, 11] (fun s i wr => ∃ (j : Nat) (v : Value), j ≤ n ∧ s = v ∧ i = .int .i64 j ∧ wr.ownsRow w.heap.size 9 1 v j ((List.range j).map fun i : Nat => Value.string (reaD c m i)) ∧ w.grownBy wr none) (fun _ i _ => n - (intOf i).toNat)
 case atStart => exact ⟨0, _, by omega, rfl, rfl, ⟨by simp, .inl ⟨rfl, rfl⟩⟩, Ext.refl w⟩
 case round =>
   obtain ⟨j, v, hj, rfl, rfl, ho, hE⟩ := hrel
   by_cases hlt : j < n
   · have R := RD.out wr hE j
     rw [HR.out j hlt] at R
     obtain ⟨d, hd⟩ : ∃ d, reaD c m j = d := ⟨_, rfl⟩
     rw [hd] at R
     obtain ⟨er, her⟩ : ∃ z : Int, z = 0 := ⟨_, rfl⟩
     rw [← her] at R
     have he : (er != 0) = false := by simp [her]
     obtain ⟨ao, cp, rfl⟩ := owns_shape13 ho
     have HO := Lib.hid ho
     have HE := Lib.hid hE
     have HD := Lib.hid hd
     clear ho hE hd her
     go_upto_region 8 with (go_at_call 21; refine R.mono ?_; rintro e w2 ⟨rfl, hE2⟩)
     have hE3 := World.grownBy_alloc w2 (.cells #[.string d] 9) none
     have HO3 := Lib.hid ((HO.out.kept hE2 (Classical.em _)).kept hE3 (Classical.em _))
     have HE3 := Lib.hid (ext_trans (ext_trans HE.out hE2) hE3)
     clear hE2 hE3 R
     go_wp2_with (at_builtin; refine wpList_append_own (w2.alloc (.cells #[.string d] 9)) rfl _ _ 36 rfl w.heap.size 9 i0 (.string ⟨#[]⟩) 1 16 Tryz.underlying36 hi hz0 hz1 hz2 rfl (by decide) _ j _ rfl HO3.out ⟨w2.heap.size, 0, none⟩ 1 1 [.string d] rfl rfl (str_new w2 d) (by simp [Value.oneCell']) (by unfold maxLen; omega) (by omega) HE3.out.size ?_; intro v4 w4 h4 hg4 _; obtain ⟨ao4, cp4, rfl⟩ := owns_shape13 h4; have H4 := Lib.hid (And.intro h4 hg4); clear h4 hg4)
     go_roundw
     case rel =>
       refine ⟨j + 1, _, by omega, rfl, by go_num, ?_, ?_⟩
       · rw [List.range_succ, List.map_append]
         have := H4.out.1
         rw [← HD.out] at this
         exact this
       · have hl := HO3.out.lt
         have hg := H4.out.2
         exact ⟨hg.os.trans HE3.out.os, hg.tape.trans HE3.out.tape, hg.output.trans HE3.out.output, Nat.le_trans HE3.out.size hg.size, fun q hq _ => (hg.block q (Nat.lt_of_lt_of_le hq HE3.out.size) (fun e => by have := (hl q e.symm).1; omega)).trans (HE3.out.block q hq (by simp))⟩
     case measure => simp [intOf]; omega
   · obtain rfl : j = n := by omega
     obtain ⟨g, cp, rfl, hb, hB⟩ := StB.of_owns ho h1
     have HB := Lib.hid (And.intro hb (And.intro hB hE))
     clear ho hE hb hB
     go_wp2
     refine bodyPost_ret (v := .tuple #[.slice (some ⟨g, 0, none⟩) j cp, .bool true]) (by simp [results, Tryz.results16, go_sem]) rfl ?_
     exact ⟨g, cp, rfl, HB.out.2.1, HB.out.1, HB.out.2.2⟩
end
set_option maxHeartbeats 800000 in
theorem same19 (w : World) (g1 g2 n c1 c2 : Nat) (F G : Nat → ByteArray) (h1 : StB w g1 n F) (h2 : StB w g2 n G) (hn : n ≤ 64) :
   Calls Tryz.prog 17 #[.slice (some ⟨g1, 0, none⟩) n c1, .slice (some ⟨g2, 0, none⟩) n c2] w fun e w' => (∃ b, e = .returned (.bool b) ∧ ((∀ i, i < n → F i = G i) → b = true)) ∧ w.grownBy w' none := by
 have H1 := Lib.hid h1
 have H2 := Lib.hid h2
 clear h1 h2
 go_enter Tryz.func17, Tryz.ntmps17
 go_wp2
 go_loopw [13] (fun i wr => ∃ j : Nat, j ≤ n ∧ i = .int .i64 j ∧ w.grownBy wr none) (fun i _ => n - (intOf i).toNat)
 case atStart => exact ⟨0, by omega, rfl, Ext.refl w⟩
 case round =>
   obtain ⟨j, hj, rfl, hE⟩ := hrel
   by_cases hlt : j < n
   · have hd := ext_trans hE (Ext.drew wr)
     have hS : wr.drew.cell? ⟨g1, j, none⟩ = some (.string (F j)) ∧ wr.drew.cell? ⟨g2, j, none⟩ = some (.string (G j)) := ⟨(H1.out.ext hd).cell hlt, (H2.out.ext hd).cell hlt⟩
     have HD := Lib.hid hd
     obtain ⟨x, hx⟩ : ∃ x, F j = x := ⟨_, rfl⟩
     obtain ⟨y, hy⟩ : ∃ y, G j = y := ⟨_, rfl⟩
     rw [hx, hy] at hS
     have HX := Lib.hid (And.intro hx hy)
     clear hE hd hx hy
     go_upto_region 6 with fail
     refine region_line [(0, true), (1, true), (2, true), (3, true), (4, true), (5, true), (6, true), (7, true), (8, true)] (fun z => z.cell? ⟨g1, j, none⟩ = some (.string x) ∧ z.cell? ⟨g2, j, none⟩ = some (.string y)) (by kernel_rfl) (by kernel_rfl) (fun _ _ _ d _ h => by cases d <;> exact h) hS ?_
     iterate 8 (refine line_read (a' := ?_) rfl (by kernel_rfl) (by kernel_rfl) hS (fun z hz K hK => ?_) ?_; rotate_left; · obtain ⟨d0, d1⟩ := hz; go_wp2; exact hK)
     by_cases e : x = y
     · subst e
       refine line_read (a' := ?_) rfl (by kernel_rfl) (by kernel_rfl) hS (fun z hz K hK => ?_) ?_
       rotate_left
       · clear hz
         go_wp2
         exact hK
       refine line_end ?_
       clear hS
       go_wp2
       go_roundw
       case rel => exact ⟨j + 1, by omega, by go_num, HD.out⟩
       case measure => simp [intOf]; omega
     · have hb : (x.toList == y.toList) = false := by
         rw [beq_eq_false_iff_ne]
         intro h
         apply e
         have h2 := ByteArray.toList_eq x
         have h3 := ByteArray.toList_eq y
         have h4 : x.data.toList = y.data.toList := by rw [← h2, ← h3, h]
         have h5 : x.data = y.data := Array.toList_inj.1 h4
         cases x; cases y; simp only at h5; rw [h5]
       have HN := Lib.hid e
       clear e
       refine line_read (a' := ?_) rfl (by kernel_rfl) (by kernel_rfl) hS (fun z hz K hK => ?_) ?_
       rotate_left
       · clear hz
         go_wp2
         exact hK
       refine line_end ?_
       clear hS
       go_wp2
       go_ret
       exact ⟨⟨false, rfl, fun h => absurd (by rw [← HX.out.1, ← HX.out.2]; exact h j hlt) HN.out⟩, HD.out⟩
   · have HE := Lib.hid hE
     clear hE
     go_wp2
     go_ret
     exact ⟨⟨true, rfl, fun _ => rfl⟩, HE.out⟩
end Go.Proofs.YtdnpdoipipfkoaaGreatDoor

namespace Go.Proofs.YtdnpdoipipfkoaaGreatDoor
set_option linter.unusedVariables false
set_option linter.unusedSimpArgs false
set_option linter.unusedVariables false
set_option linter.unusedSimpArgs false
set_option maxRecDepth 100000
open Go.RowKit
theorem sg_O {S : NShape} {fz : List Int} {sz sp : Int} {tot : Nat} (hsp : 0 ≤ sp ∧ sp < tot) : SG (cO S fz sz sp tot) m0F := by
 have I := inv_O (S := S) (fz := fz) (sz := sz) hsp
 have hnb : ∀ b, nbB (cO S fz sz sp tot) b0F b = false := fun b => by
   rw [Bool.eq_false_iff]
   intro e
   exact (nbB_iff.1 e).2 (nextN_blank _)
 have hN : NBn (cO S fz sz sp tot) b0F = 0 := by
   unfold NBn
   rw [List.length_eq_zero_iff, List.filter_eq_nil_iff]
   intro b _
   rw [hnb b]
   decide
 have hl : (cO S fz sz sp tot).bl.length = tot := blO_len _
 refine ⟨rfl, ⟨I.R, fun b j _ _ _ => .inl rfl, fun b j f h => absurd h.st (by show ¬ (0 : Int) = 1; decide), fun b j f _ _ _ h _ _ => absurd h.st (by show ¬ (0 : Int) = 1; decide)⟩, I.sm, I.mf, I.sq, I.live, I.dead, .inl ?_, I.ql, I.qok⟩
 · rw [show m0F.n = b0F from rfl, hN, hl]
   show ((0 : Nat) : Int) ≤ tot - sp - 1
   omega
theorem dns_O {S : NShape} : Dns S b0F := fun i j hj => by
 rw [show nextN (b0F.L i) S.pg = 0 from nextN_blank _] at hj
 omega
theorem stK_O {S : NShape} {fz : List Int} {sz sp : Int} {tot : Nat} : StK (cO S fz sz sp tot) m0F (fun _ => ⟨#[]⟩) [] :=
 ⟨0, ⟨Nat.le_refl _, fun q _ _ => .inr ⟨fun r hr => (by cases hr), rfl⟩⟩, rfl⟩
structure Clm (c : SC) (m : SM) : Prop where
 G : SG c m
 dn : Dns c.S m.n
 px : m.n.px = -1
 M0 : m.n.M c.who.toNat = 0
section
variable {c : SC} (hz : c.zs c.who.toNat = [])
include hz
theorem m_any (s : NS) (who : Int) : (drawS c.zs s who).M c.who.toNat = s.M c.who.toNat := by
 unfold drawS
 split
 · show nextM c.zs s.N s.M who.toNat c.who.toNat = _
   unfold nextM hitB upd
   by_cases e : c.who.toNat = who.toNat
   · rw [if_pos e, ← e, hz]
     simp
   · rw [if_neg e]
 · rfl
theorem m_opers (s : NS) (who : Int) {sp dn : NS → NS} (hsp : ∀ s, (sp s).M = s.M) (hdn : ∀ s, (dn s).M = s.M) : (operS c.zs s who sp dn).M c.who.toNat = s.M c.who.toNat := by
 have h1 : (spendS s).M = s.M := rfl
 have h2 := m_any hz (spendS s) who
 unfold operS
 split
 · rw [h1]
 · split
   · rw [hsp, h1]
   · split
     · rw [hsp, h2, h1]
     · rw [hdn, h2, h1]
theorem calm_stb : Stb c (fun n => (n.px = -1 ∧ n.off = false) ∧ n.M c.who.toNat = 0) := by
 have L := lit_stb c
 refine ⟨fun n who i j bs dt h => ⟨L.prg n who i j bs dt h.1, ?_⟩, fun n who i h => ⟨L.ers n who i h.1, ?_⟩, fun n i h => ⟨L.mrk n i h.1, ?_⟩⟩
 · refine Eq.trans ?_ h.2
   unfold progS
   split
   · exact m_opers hz n who (fun _ => rfl) (fun _ => rfl)
   · rfl
 · refine Eq.trans ?_ h.2
   unfold ersS
   split
   · exact m_opers hz n who (fun _ => rfl) (fun _ => rfl)
   · rfl
 · refine Eq.trans ?_ h.2
   rw [m_mark]
end
section
variable {c : SC} {m : SM}
theorem Clm.lit (h : Clm c m) : LitS m.n := ⟨h.px, h.G.off⟩
theorem Clm.inv (h : Clm c m) : SInv c m := ⟨h.lit, h.G.W.R, h.G.sm, h.G.mf, h.G.sq, h.G.live, h.G.dead, h.G.ql, h.G.qok⟩
theorem Clm.dst (h : Clm c m) : (m.n.px = -1 ∧ m.n.off = false) ∧ m.n.M c.who.toNat = 0 := ⟨⟨h.px, h.G.off⟩, h.M0⟩
theorem clm_ro (st : Stt c) (h : SG c m) (hM : m.n.M c.who.toNat = 0) : m.ro = false := by
 cases hr : m.ro with
 | false => rfl
 | true =>
   have h1 := h.dead hr
   have h2 := st.sp.1
   omega
theorem clm_wai (hz : c.zs c.who.toNat = []) (st : Stt c) (h : Clm c m) (hsq : m.sq ≤ 2147483647) {x : Chg} (hk : x.kd = 1 ∨ (x.kd = 2 ∧ x.dt = ⟨#[]⟩)) :
   ∃ e m', waiR c 100 m x = some (e, m') ∧ Clm c m' ∧ m'.sq + m'.q.length ≤ m.sq + m.q.length + 1 ∧ m.sq ≤ m'.sq ∧
     (((0 ≤ x.pl ∧ x.pl < c.sz) ∧ x.dt.size ≤ 16 ∧ e = 0 ∧ ∀ P B, StK c m P B → StK c m' P (B ++ [x])) ∨ (((e = 5 ∧ ¬ (0 ≤ x.pl ∧ x.pl < c.sz)) ∨ (e = 3 ∧ (0 ≤ x.pl ∧ x.pl < c.sz) ∧ 16 < x.dt.size)) ∧ ∀ P B, StK c m P B → StK c m' P B)) := by
 obtain ⟨e, m', h1, s1, s2, D⟩ := wai_on st h.G hsq hk
 obtain ⟨e2, m2, h2, Wp⟩ := wai_is st h.inv hsq hk
 rw [h1] at h2
 simp only [Option.some.injEq, Prod.mk.injEq] at h2
 obtain ⟨rfl, rfl⟩ := h2
 have hd := (dns_stb c).wai h.dn h1
 have hl := (calm_stb hz).wai h.dst h1
 refine ⟨e, m', h1, ?_⟩
 rcases D with ⟨e0, G, _, _, _, p⟩ | ⟨e0, G, r, p⟩ | ⟨_, C, _⟩
 · refine ⟨⟨G, hd, hl.1.1, hl.2⟩, s1, s2, .inl ?_⟩
   rcases Wp.res with ⟨_, b, _⟩ | ⟨_, _, b, _⟩ | ⟨a, b, _⟩
   · omega
   · omega
   · exact ⟨a, b, e0, p⟩
 · refine ⟨⟨G, hd, hl.1.1, hl.2⟩, s1, s2, .inr ⟨?_, p⟩⟩
   have hro := clm_ro st G hl.2
   rcases Wp.res with ⟨a, b, _⟩ | ⟨a, a2, b, _⟩ | ⟨a, b, ⟨b2, _⟩ | ⟨b2, b3, _⟩⟩
   · exact .inl ⟨b, a⟩
   · exact .inr ⟨b, a, a2⟩
   · omega
   · rw [hro] at b3; cases b3
 · have := C.off
   rw [hl.1.2] at this
   cases this
theorem clm_flu (hz : c.zs c.who.toNat = []) (st : Stt c) (h : Clm c m) (hsq : m.sq + m.q.length ≤ 2147483647) :
   ∃ m', fluR c 100 m = some (0, m') ∧ Clm c m' ∧ m'.sq + m'.q.length = m.sq + m.q.length ∧ m'.q = [] ∧ ∀ P B, StK c m P B → StK c m' P B := by
 obtain ⟨e, m', h1, s1, s2, D⟩ := flu_on st h.G hsq
 have hd := (dns_stb c).flu h.dn h1
 have hl := (calm_stb hz).flu h.dst h1
 rcases D with ⟨e0, G, _, q, p⟩ | ⟨_, G, r, _⟩ | ⟨_, C, _⟩
 · subst e0
   exact ⟨m', h1, ⟨G, hd, hl.1.1, hl.2⟩, s1, q, p⟩
 · rw [clm_ro st G hl.2] at r
   cases r
 · have := C.off
   rw [hl.1.2] at this
   cases this
theorem clm_opn (hz : c.zs c.who.toNat = []) (st : Stt c) (h : Clm c m) :
   (pagesR c.S m.n c.bl).2 = 0 ∧ AllF c m.n (pagesR c.S m.n c.bl).1 ∧ resE c (pagesR c.S m.n c.bl).1 (newM m.n) = 0 ∧ Clm c (resM c (pagesR c.S m.n c.bl).1 (newM m.n)) ∧ (resM c (pagesR c.S m.n c.bl).1 (newM m.n)).q = [] ∧ (resM c (pagesR c.S m.n c.bl).1 (newM m.n)).sq ≤ m.sq ∧
     ∀ q d, Plc c m.n m.rs q d → Plc c (resM c (pagesR c.S m.n c.bl).1 (newM m.n)).n (resM c (pagesR c.S m.n c.bl).1 (newM m.n)).rs q d := by
 have R := h.G.rdy h.dn
 obtain ⟨p0, O⟩ := opn_on st h.G.off R.W R.dn R.sm R.mf R.sq R.kp
 obtain ⟨_, A⟩ := pages_on R.W h.G.off st.hB R.dn
 have hd : Dns c.S (resM c (pagesR c.S m.n c.bl).1 (newM m.n)).n := opn_D (dns_stb c) h.dn
 have hl : ((resM c (pagesR c.S m.n c.bl).1 (newM m.n)).n.px = -1 ∧ (resM c (pagesR c.S m.n c.bl).1 (newM m.n)).n.off = false) ∧ (resM c (pagesR c.S m.n c.bl).1 (newM m.n)).n.M c.who.toNat = 0 := opn_D (calm_stb hz) h.dst
 rcases O.res with ⟨o1, o2, o3, o4, o5⟩ | ⟨_, m', o2, o3, _⟩
 · exact ⟨p0, A, o1, ⟨o2, hd, hl.1.1, hl.2⟩, o3, o4, o5⟩
 · have h1 := o3.off
   rw [o2, hl.1.2] at h1
   cases h1
theorem rea_plc (st : Stt c) (hl : LitS m.n) (R : RsOk c m.n m.rs) (hq0 : m.q = []) {q : Int} (hq : 0 ≤ q ∧ q < c.sz) {d : ByteArray} (hp : Plc c m.n m.rs q d) : reaE c m q = 0 ∧ reaD c m q = d := by
 obtain ⟨h1, _, h3⟩ := rea_is hl st.hB R hq
 refine ⟨h1, h3 d ?_⟩
 unfold Val
 rw [hq0, if_neg (fun e => by cases e)]
 exact hp
end
end Go.Proofs.YtdnpdoipipfkoaaGreatDoor

namespace Go.Proofs.YtdnpdoipipfkoaaGreatDoor
set_option linter.unusedVariables false
set_option linter.unusedSimpArgs false
set_option linter.unusedVariables false
set_option linter.unusedSimpArgs false
set_option maxRecDepth 100000
open Go.RowKit
def ch2C (x : Int × ByteArray) : Array Value := #[.int .i64 x.1, .string x.2]
theorem Tryz.sizeCh2 : (Tryz.prog.info? 44).map (·.size) = some 2 := by kernel_rfl
section
variable {ops : Array Oper} {rest : List Oper} {o : Oper} {a : Act} {w : World} {Q : Exit → Act → World → Prop}
theorem ch2_load (hgd : o.guard = none) (x : Operand) (ho : o.op = .load 44 x) {b off : Nat} (hx : a.eval x = .pointer (some ⟨b, off, none⟩)) {y : Int × ByteArray} (hr : w.rangeAt b off (ch2C y).toList)
   (h : wpList Tryz.prog ops Q rest (a.put o.dst (.agg (ch2C y))) w) : wpList Tryz.prog ops Q (o :: rest) a w :=
 wpList_load_mid hgd _ x ho b off hx _ _ hr Tryz.underlying44 rfl (by rw [Tryz.sizeCh2]; rfl) (by simpa using h)
theorem ch2_store (x y : Operand) (ho : o.op = .store 44 x y) {g : Nat} (hx : a.eval x = .pointer (some ⟨g, 0, none⟩)) {z : Int × ByteArray} (hy : a.eval y = .agg (ch2C z)) {old : Array Value} (hg : Blk w g 44 old) (hold : old.size = 2) (hwt : Region.wanted o (yielded ops a.tmps) = true)
   (h : ∀ w', Blk w' g 44 (ch2C z) → w.grownBy w' (some g) → w'.heap.size = w.heap.size → wpList Tryz.prog ops Q rest (a.put o.dst undef) w') : wpList Tryz.prog ops Q (o :: rest) a w :=
 wpList_store_part hwt _ x y ho g 0 2 _ hx hy _ old _ hg rfl Tryz.sizeCh2 (by omega) (by simp [ch2C, Value.oneCell']) (by
   have h1 : (ch2C z).toList.length = 2 := rfl
   rw [h1, List.drop_of_length_le (by simp; omega)]
   simp) h
end
def ChR (w : World) (a : Option Addr) (k : Nat) (X : Nat → Int × ByteArray) : Prop := ∀ i, i < k → ∃ b off, a = some ⟨b, off, none⟩ ∧ w.rangeAt b (off + i * 2) (ch2C (X i)).toList
theorem ChR.ext {w w' : World} {a : Option Addr} {k : Nat} {X : Nat → Int × ByteArray} (h : ChR w a k X) (hg : w.grownBy w' none) : ChR w' a k X := fun i hi => by
 obtain ⟨b, off, h1, h2⟩ := h i hi
 exact ⟨b, off, h1, fun j u hj => hg.cell (h2 j u hj) (by simp)⟩
def aftF (n : Nat) (F : Nat → ByteArray) (X : Nat → Int × ByteArray) : Nat → (Nat → ByteArray)
 | 0 => F
 | i + 1 => if 0 ≤ (X i).1 ∧ (X i).1 < n then updF (aftF n F X i) (X i).1.toNat (X i).2 else aftF n F X i
set_option maxHeartbeats 1600000 in
theorem after19 (w : World) (gp n cp : Nat) (F : Nat → ByteArray) (hp : StB w gp n F) (h1 : 1 ≤ n) (h2 : n ≤ 64) (a : Option Addr) (k ck : Nat) (X : Nat → Int × ByteArray) (hX : ChR w a k X) (hk : k ≤ 1000) :
   Calls Tryz.prog 13 #[.slice (some ⟨gp, 0, none⟩) n cp, .slice a k ck] w fun e w' => ∃ g cap, e = .returned (.slice (some ⟨g, 0, none⟩) n cap) ∧ w.heap.size ≤ g ∧ StB w' g n (aftF n F X k) ∧ w.grownBy w' none := by
 obtain ⟨i0, hi, hz0, hz1, hz2⟩ := info_parts Tryz.infoStr18
 have HP := Lib.hid hp
 have HX := Lib.hid hX
 clear hp hX
 go_enter Tryz.func13, Tryz.ntmps13
 go_upto_region 2 with (at_builtin; refine wpList_append_grows (w.alloc (.cells #[] 9)) rfl _ _ 36 rfl 9 i0 (.string ⟨#[]⟩) 1 16 Tryz.underlying36 hi hz0 hz1 hz2 rfl (by decide) _ 0 0 [] rfl (fun h => ⟨rfl, rfl⟩) rfl (fun _ _ j u hj => by simp at hj) ⟨gp, 0, none⟩ n cp ((List.range n).map fun i => Value.string (F i)) rfl (by simp) (fun j u hj => by
     have hjn : j < n := by have := (List.getElem?_eq_some_iff.1 hj).1; simpa using this
     rw [List.getElem?_map, List.getElem?_range hjn] at hj
     rw [addr_add, Nat.zero_add, ← hj]
     exact (HP.out.ext (World.grownBy_alloc w _ none)).cell hjn) (by intro u hu; simp at hu; obtain ⟨_, _, rfl⟩ := hu; rfl) (by omega) (by unfold maxLen; omega) (by omega) ?_; intro v3 w3 ho3 hg3)
 rw [Nat.zero_add, List.nil_append] at ho3
 obtain ⟨g, cap, rfl, hb, hB⟩ := StB.of_owns ho3 h1
 have HB := Lib.hid (show StB w3 g n (aftF n F X 0) ∧ w.heap.size ≤ g ∧ w.grownBy w3 none from ⟨hb, by simp at hB; omega, ext_trans (World.grownBy_alloc w _ none) hg3⟩)
 clear ho3 hg3 hb hB
 go_wp2
 go_loopw [13] (fun i wr => ∃ j : Nat, j ≤ k ∧ i = .int .i64 j ∧ StB wr g n (aftF n F X j) ∧ w.grownBy wr none) (fun i _ => k - (intOf i).toNat)
 case atStart => exact ⟨0, by omega, rfl, HB.out.1, HB.out.2.2⟩
 case round =>
   obtain ⟨j, hj, rfl, hS, hE⟩ := hrel
   by_cases hlt : j < k
   · obtain ⟨ab, off, rfl, hr⟩ := (HX.out.ext hE) j hlt
     obtain ⟨⟨pl, dt⟩, hx⟩ : ∃ x, X j = x := ⟨_, rfl⟩
     rw [hx] at hr
     have hBa := Blk.new wr 44 #[.int .i64 0, .string ⟨#[]⟩]
     have HS := Lib.hid (And.intro hS (And.intro hE hx))
     clear hS hE hx
     go_upto_region 5 with (first
       | (refine ch2_load rfl _ rfl rfl hr ?_)
       | (refine ch2_store _ _ rfl rfl rfl hBa rfl rfl ?_; intro w4 hb4 hg4 hs4; have c0 := (hb4.cell 0).trans (show (ch2C (pl, dt))[0]? = some (.int .i64 pl) from rfl); have c1 := (hb4.cell 1).trans (show (ch2C (pl, dt))[1]? = some (.string dt) from rfl); have hE4 : wr.grownBy w4 none := g17_new (World.grownBy_alloc wr _ none) hg4 (Nat.le_refl _); have H4 := Lib.hid (And.intro (HS.out.1.ext hE4) (ext_trans HS.out.2.1 hE4)); clear hBa hg4 hs4 hE4))
     clear hr hb4
     by_cases hp0 : 0 ≤ pl
     · obtain ⟨q, rfl⟩ : ∃ q : Nat, pl = q := ⟨pl.toNat, by omega⟩
       by_cases hq : q < n
       · have cg := H4.out.1.cell hq
         have fg := H4.out.1.free q
         have HQ := Lib.hid (show StB (w4.setCell ⟨g, q, none⟩ (.string dt)) g n (aftF n F X (j + 1)) from by
           have e : aftF n F X (j + 1) = updF (aftF n F X j) q dt := by
             rw [aftF, HS.out.2.2, if_pos (by omega)]
             rfl
           rw [e]
           exact H4.out.1.set q dt)
         go_wp2
         go_roundw
         case rel =>
           refine ⟨j + 1, by omega, by go_num, HQ.out, ?_⟩
           exact g17_new H4.out.2 (gb_set (gb_refl w4 _) _ _) HB.out.2.1
         case measure => simp [intOf]; omega
       · have HQ := Lib.hid (show aftF n F X (j + 1) = aftF n F X j by rw [aftF, HS.out.2.2, if_neg (by omega)])
         go_wp2
         go_roundw
         case rel => exact ⟨j + 1, by omega, by go_num, by rw [HQ.out]; exact H4.out.1, H4.out.2⟩
         case measure => simp [intOf]; omega
     · have HQ := Lib.hid (show aftF n F X (j + 1) = aftF n F X j by rw [aftF, HS.out.2.2, if_neg (by omega)])
       go_wp2
       go_roundw
       case rel => exact ⟨j + 1, by omega, by go_num, by rw [HQ.out]; exact H4.out.1, H4.out.2⟩
       case measure => simp [intOf]; omega
   · obtain rfl : j = k := by omega
     have HS := Lib.hid (And.intro hS hE)
     clear hS hE
     go_wp2
     go_ret
     exact ⟨g, cap, rfl, HB.out.2.1, HS.out.1, HS.out.2⟩
end Go.Proofs.YtdnpdoipipfkoaaGreatDoor
