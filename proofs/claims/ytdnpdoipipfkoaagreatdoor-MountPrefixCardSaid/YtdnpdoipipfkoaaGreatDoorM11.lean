/-
  Texts put together: YD ZA ZB TD TE ZC ZD ZE ZF.
-/
import Derived.Test.YtdnpdoipipfkoaaGreatDoorM10
import Derived.Test.YtdnpdoipipfkoaaGreatDoorM07
import Derived.Test.YtdnpdoipipfkoaaGreatDoorM09
namespace Go.Proofs.YtdnpdoipipfkoaaGreatDoor
set_option linter.unusedVariables false
set_option linter.unusedSimpArgs false
set_option linter.unusedVariables false
set_option linter.unusedSimpArgs false
set_option maxRecDepth 100000
open Go.RowKit
structure PgOk (s : NS) : Prop where
 bs : ∀ i j, Byts (s.L i j).bs
 bn : ∀ i j, (s.L i j).bs.length ≤ 32
 dn : ∀ i j, (s.L i j).dt.size ≤ 160
theorem PgOk.of {s s' : NS} (h : PgOk s) (he : s'.L = s.L) : PgOk s' := ⟨fun i j => by rw [he]; exact h.bs i j, fun i j => by rw [he]; exact h.bn i j, fun i j => by rw [he]; exact h.dn i j⟩
theorem PgOk.turn {s : NS} (h : PgOk s) (i j : Nat) (x : Pg) (h1 : Byts x.bs) (h2 : x.bs.length ≤ 32) (h3 : x.dt.size ≤ 160) : PgOk (turnPg i j x s) := by
 refine ⟨fun a b => ?_, fun a b => ?_, fun a b => ?_⟩
 all_goals
   show _
   simp only [turnPg]
   split
   · simp only
     split
     · assumption
     · first | exact h.bs _ _ | exact h.bn _ _ | exact h.dn _ _
   · first | exact h.bs _ _ | exact h.bn _ _ | exact h.dn _ _
theorem PgOk.fill {s : NS} (h : PgOk s) (i k : Nat) (x : Int) : PgOk (fillTo i k x s) := by
 refine ⟨fun a b => ?_, fun a b => ?_, fun a b => ?_⟩
 all_goals
   simp only [fillTo]
   split
   · simp only
     split
     · first | (intro y hy; simp [Pg.none] at hy; done) | (simp [Pg.none]; done) | (show (0 : Nat) ≤ 160; omega)
     · first | exact h.bs _ _ | exact h.bn _ _ | exact h.dn _ _
   · first | exact h.bs _ _ | exact h.bn _ _ | exact h.dn _ _
theorem pg_oper {zs : Nat → List Int} {s : NS} {who : Int} {sp dn : NS → NS} (h : PgOk s) (hsp : ∀ s, PgOk s → PgOk (sp s)) (hdn : ∀ s, PgOk s → PgOk (dn s)) : PgOk (operS zs s who sp dn) := by
 have h1 : PgOk (spendS s) := h.of rfl
 have h2 : PgOk (drawS zs (spendS s) who) := h1.of (draw_L _ _ _)
 unfold operS
 split
 · exact h1
 · split
   · exact hsp _ h1
   · split
     · exact hsp _ h2
     · exact hdn _ h2
theorem pg_prog {S : NShape} {zs : Nat → List Int} {s : NS} (h : PgOk s) (who i j : Int) (bs : List Int) (dt : ByteArray) (hb : Byts bs) : PgOk (progS S zs s who i j bs dt) := by
 unfold progS
 split
 · rename_i hc
   exact pg_oper h (fun s hs => hs.turn _ _ _ (hs.bs _ _) (hs.bn _ _) (hs.dn _ _)) (fun s hs => hs.turn _ _ _ hb (by have := hc.2.1; simp only; omega) (by have := hc.2.1; simp only; omega))
 · exact h
theorem pg_prg {c : SC} {s : NS} (h : PgOk s) (b pg pl sq kd te ep : Int) (cp : Bool) (dt : ByteArray) : PgOk (prgS c s b pg pl sq kd te ep cp dt) := by
 unfold prgS
 split
 · rename_i hk
   exact pg_prog h _ _ _ _ _ (by
     unfold tagBL
     rw [if_pos hk]
     exact frL_byts (tagL_byts _ _ _ _ _ _))
 · exact h
theorem pg_ers {S : NShape} {zs : Nat → List Int} {s : NS} (h : PgOk s) (who i : Int) : PgOk (ersS S zs s who i) := by
 unfold ersS
 split
 · exact pg_oper h (fun s hs => hs.fill _ _ _) (fun s hs => (hs.fill _ _ _).of rfl)
 · exact h
theorem pg_mark {S : NShape} {s : NS} (h : PgOk s) (i : Int) : PgOk (markS S s i) := by
 unfold markS
 split
 · split
   · exact h.of rfl
   · exact h.of rfl
 · exact h
theorem pg_copy {c : SC} {tg : Int} : ∀ (L : List Fnd) (i : Nat) (s : NS), PgOk s → PgOk (copyR c tg L i s).2
 | [], i, s, h => h
 | f :: l, i, s, h => by
   have h1 := pg_prg (c := c) h tg i f.pl f.sq f.kd f.te f.ep true f.dt
   unfold copyR
   split
   · exact pg_copy l (i + 1) _ h1
   · exact h1
theorem Wf.pg {c : SC} {m : SM} {k : Int} (h : Wf c m k) : PgOk m.n := ⟨h.bs, h.bn, h.dn⟩
theorem Wf.mk' {c : SC} {m : SM} {k : Int} (hc : Cnt m.n k) (hp : PgOk m.n) (h1 : 0 ≤ m.sq ∧ m.sq ≤ k) (h2 : m.q.length ≤ 4) (h3 : ∀ x ∈ m.q, x.dt.size ≤ 16) (h4 : -1 ≤ m.fr ∧ m.fr < c.bl.length) : Wf c m k := ⟨hc, h1, h2, h3, h4, hp.bs, hp.bn, hp.dn⟩
theorem Wf.nand {c : SC} {m : SM} {k k' : Int} (h : Wf c m k) {s : NS} (hc : Cnt s k') (hp : PgOk s) (hk : k ≤ k') : Wf c { m with n := s } k' :=
 Wf.mk' hc hp ⟨h.sq.1, Int.le_trans h.sq.2 hk⟩ h.ql h.qd h.fr
theorem Wf.mono {c : SC} {m : SM} {k k' : Int} (h : Wf c m k) (hk : k ≤ k') : Wf c m k' := Wf.mk' (h.cn.mono18 hk) h.pg ⟨h.sq.1, Int.le_trans h.sq.2 hk⟩ h.ql h.qd h.fr
theorem wf_give {c : SC} {m : SM} {k : Int} (h : Wf c m k) (b spoken : Int) : Wf c (giveM c m b spoken) (k + 3) := by
 unfold giveM
 split
 · exact h.nand (cnt_mark h.cn _) (pg_mark h.pg _) (by omega)
 · exact Wf.mk' (h.cn.mono18 (by omega)) h.pg ⟨h.sq.1, by have := h.sq.2; simp only; omega⟩ h.ql h.qd h.fr
theorem wf_era {c : SC} {m : SM} {k : Int} (h : Wf c m k) (b : Int) : Wf c (eraM c m b) (k + 6) := by
 have h1 : Wf c { m with n := ersS c.S c.zs m.n c.who (c.ph b) } (k + 3) := h.nand (cnt_ers h.cn _ _) (pg_ers h.pg _ _) (by omega)
 unfold eraM
 split
 · exact h1.mono (by omega)
 · exact (wf_give h1 b 0).mono (by omega)
theorem free_in {c : SC} {m : SM} {x : Int} (h : x ∈ freeL c m) : ∃ b : Nat, x = b ∧ b < c.bl.length ∧ freeB c m b = true := by
 unfold freeL at h
 obtain ⟨b, hb, rfl⟩ := List.mem_map.1 h
 have h1 := List.mem_filter.1 hb
 exact ⟨b, rfl, List.mem_range.1 h1.1, h1.2⟩
theorem wf_move {c : SC} {row : List Fnd} {spoken : Int} (hl : row.length ≤ 64) : ∀ (j : Nat) (m : SM) (k : Int) (e : Int) (m' : SM), Wf c m k → moveF c row spoken j m = some (e, m') → Wf c m' (k + 200 * j)
 | 0, m, k, e, m', h, hm => by simp [moveF] at hm
 | j + 1, m, k, e, m', h, hm => by
   unfold moveF at hm
   cases hf : freeL c m with
   | nil =>
     rw [hf] at hm
     simp only [Option.some.injEq, Prod.mk.injEq] at hm
     rw [← hm.2]; exact h.mono (by omega)
   | cons tg l =>
     rw [hf] at hm
     simp only at hm
     obtain ⟨b, hb, hbl, _⟩ := free_in (c := c) (m := m) (x := tg) (by rw [hf]; simp)
     have hc1 := (cnt_copy (c := c) (tg := tg) row 0 m.n k h.cn).mono18 (m := k + 192) (by omega)
     have h1 : Wf c { m with n := (copyR c tg row 0 m.n).2 } (k + 192) := h.nand hc1 (pg_copy _ _ _ h.pg) (by omega)
     have h2 := wf_give h1 tg spoken
     split at hm
     · simp only [Option.some.injEq, Prod.mk.injEq] at hm
       rw [← hm.2]
       have h3 : Wf c { m with n := (copyR c tg row 0 m.n).2, fr := tg, rs := (setlR c tg row 0 m.rs).2 } (k + 192) := Wf.mk' h1.cn h1.pg h1.sq h1.ql h1.qd ⟨by simp only; omega, by simp only; omega⟩
       exact h3.mono (by omega)
     · split at hm
       · simp only [Option.some.injEq, Prod.mk.injEq] at hm
         rw [← hm.2]; exact h1.mono (by omega)
       · split at hm
         · simp only [Option.some.injEq, Prod.mk.injEq] at hm
           rw [← hm.2]; exact h2.mono (by omega)
         · exact (wf_move hl j _ _ e m' h2 hm).mono (by omega)
theorem wf_moveR {c : SC} {m : SM} {b spoken : Int} {j : Nat} {k : Int} {e : Int} {m' : SM} (hp : c.S.pg ≤ 16) (h : Wf c m k) (hm : moveR c m b spoken j = some (e, m')) : Wf c m' (k + 200 * j) := by
 unfold moveR at hm
 split at hm
 · simp only [Option.some.injEq, Prod.mk.injEq] at hm
   rw [← hm.2]; exact h.mono (by omega)
 · exact wf_move (by have := needR_len (c := c) (m := m) (b := b) c.S.pg; omega) j m k e m' h hm
theorem wf_coll {c : SC} {m : SM} {b : Int} {j : Nat} {k : Int} {e : Int} {m' : SM} (hp : c.S.pg ≤ 16) (h : Wf c m k) (hm : collR c m b j = some (e, m')) : Wf c m' (k + 200 * j + 6) := by
 unfold collR at hm
 split at hm
 · cases hm
 · rename_i e1 m1 h1
   have hw := wf_moveR hp h h1
   split at hm
   · simp only [Option.some.injEq, Prod.mk.injEq] at hm
     rw [← hm.2]; exact hw.mono (by omega)
   · simp only [Option.some.injEq, Prod.mk.injEq] at hm
     rw [← hm.2]; exact wf_era hw b
theorem wf_room {c : SC} {m : SM} {j : Nat} {k : Int} {e : Int} {m' : SM} (hp : c.S.pg ≤ 16) (h : Wf c m k) (hm : roomR c m j = some (e, m')) : Wf c m' (k + 200 * j + 6) := by
 unfold roomR at hm
 split at hm
 · simp only [Option.some.injEq, Prod.mk.injEq] at hm
   rw [← hm.2]; exact h.mono (by omega)
 · split at hm
   · rename_i hf
     simp only [Option.some.injEq, Prod.mk.injEq] at hm
     rw [← hm.2]
     refine Wf.mono (k := k) (Wf.mk' h.cn h.pg h.sq h.ql h.qd ?_) (by omega)
     cases hl : freeL c m with
     | nil =>
       rw [hl] at hf
       have : (0 : Int) ≤ sprN c m := by unfold sprN; split <;> omega
       simp at hf
       omega
     | cons x l =>
       obtain ⟨b, hb, hbl, _⟩ := free_in (c := c) (m := m) (x := x) (by rw [hl]; simp)
       simp only [List.headD_cons]
       omega
   · split at hm
     · simp only [Option.some.injEq, Prod.mk.injEq] at hm
       rw [← hm.2]; exact h.mono (by omega)
     · exact wf_coll hp h hm
theorem wf_put {c : SC} {m : SM} {k : Int} (h : Wf c m k) (x : Chg) : Wf c (putM c m x) (k + 4) := by
 unfold putM
 split
 · exact Wf.mk' ((cnt_prg h.cn _ _ _ _ _ _ _ _ _).mono18 (by omega)) (pg_prg h.pg _ _ _ _ _ _ _ _ _) ⟨by have := h.sq; simp only; omega, by have := h.sq; simp only; omega⟩ h.ql h.qd h.fr
 · exact (h.nand (cnt_prg h.cn _ _ _ _ _ _ _ _ _) (pg_prg h.pg _ _ _ _ _ _ _ _ _) (by omega)).mono (by omega)
theorem wf_leav {c : SC} {m : SM} {j : Nat} {k : Int} {e : Int} {m' : SM} (hp : c.S.pg ≤ 16) (h : Wf c m k) (hm : leavR c m j = some (e, m')) : Wf c m' (k + 200 * j + 3) := by
 unfold leavR at hm
 split at hm
 · split at hm
   · cases hm
   · rename_i e1 m1 h1
     have hw := wf_moveR hp h h1
     split at hm
     · simp only [Option.some.injEq, Prod.mk.injEq] at hm
       rw [← hm.2]; exact hw.mono (by omega)
     · simp only [Option.some.injEq, Prod.mk.injEq] at hm
       rw [← hm.2]; exact hw.nand (cnt_mark hw.cn _) (pg_mark hw.pg _) (by omega)
 · simp only [Option.some.injEq, Prod.mk.injEq] at hm
   rw [← hm.2]
   exact Wf.mono (k := k) (Wf.mk' h.cn h.pg h.sq h.ql h.qd h.fr) (by omega)
theorem wf_chg {c : SC} {x : Chg} {k : Nat} (hp : c.S.pg ≤ 16) : ∀ (j : Nat) (m : SM) (n : Int) (e : Int) (m' : SM), Wf c m n → chgR c x k j m = some (e, m') → Wf c m' (n + (400 * k + 20) * j)
 | 0, m, n, e, m', h, hm => by simp [chgR] at hm
 | j + 1, m, n, e, m', h, hm => by
   unfold chgR at hm
   have hmul : (400 * (k : Int) + 20) * ((j + 1 : Nat) : Int) = (400 * (k : Int) + 20) * (j : Int) + (400 * (k : Int) + 20) := by rw [Int.natCast_add, Int.mul_add]; simp
   have hpos : 0 ≤ (400 * (k : Int) + 20) * (j : Int) := Int.mul_nonneg (by omega) (by omega)
   split at hm
   · cases hm
   · rename_i e1 m1 h1
     have hw := wf_room hp h h1
     have hw2 := wf_put hw x
     split at hm
     · simp only [Option.some.injEq, Prod.mk.injEq] at hm
       rw [← hm.2]; exact hw.mono (by omega)
     · split at hm
       · simp only [Option.some.injEq, Prod.mk.injEq] at hm
         rw [← hm.2]; exact hw2.mono (by omega)
       · split at hm
         · cases hm
         · rename_i e2 m2 h2
           have hw3 := wf_leav hp hw2 h2
           split at hm
           · simp only [Option.some.injEq, Prod.mk.injEq] at hm
             rw [← hm.2]; exact hw3.mono (by omega)
           · exact (wf_chg hp j m2 _ e m' hw3 hm).mono (by omega)
theorem wf_fir {c : SC} {k : Nat} {m : SM} {n : Int} {e : Int} {m' : SM} (hp : c.S.pg ≤ 16) (h : Wf c m n) (hm : firR c k m = some (e, m')) : Wf c m' (n + (400 * k + 20) * k) := by
 have hpos : 0 ≤ (400 * (k : Int) + 20) * (k : Int) := Int.mul_nonneg (by omega) (by omega)
 unfold firR at hm
 split at hm
 · simp only [Option.some.injEq, Prod.mk.injEq] at hm
   rw [← hm.2]; exact h.mono (by omega)
 · split at hm
   · cases hm
   · rename_i e1 m1 h1
     have hw := wf_chg hp k m n e1 m1 h h1
     split at hm
     · simp only [Option.some.injEq, Prod.mk.injEq] at hm
       rw [← hm.2]; exact hw
     · simp only [Option.some.injEq, Prod.mk.injEq] at hm
       rw [← hm.2]
       exact Wf.mk' hw.cn hw.pg hw.sq (by have := hw.ql; simp only [List.length_drop]; omega) (fun y hy => hw.qd y (List.mem_of_mem_drop hy)) hw.fr
end Go.Proofs.YtdnpdoipipfkoaaGreatDoor

namespace Go.Proofs.YtdnpdoipipfkoaaGreatDoor
set_option linter.unusedVariables false
set_option linter.unusedSimpArgs false
set_option linter.unusedVariables false
set_option linter.unusedSimpArgs false
set_option maxRecDepth 100000
open Go.RowKit
structure LitS (s : NS) : Prop where
 px : s.px = -1
 off : s.off = false
def opS (zs : Nat → List Int) (s : NS) (who : Int) : NS := drawS zs (spendS s) who
theorem opS_lit {zs : Nat → List Int} {s : NS} (h : LitS s) (who : Int) : LitS (opS zs s who) := by
 have h1 : (spendS s).px = -1 := by simp only [spendS, h.px, h.off]; rfl
 have h2 : (spendS s).off = false := by simp only [spendS, h.px, h.off]; rfl
 unfold opS drawS
 split
 · exact ⟨h1, h2⟩
 · exact ⟨h1, h2⟩
theorem opS_L (zs : Nat → List Int) (s : NS) (who : Int) : (opS zs s who).L = s.L := draw_L _ _ _
theorem opS_mr (zs : Nat → List Int) (s : NS) (who : Int) : (opS zs s who).mr = s.mr := by
 show (drawS zs (spendS s) who).mr = s.mr
 unfold drawS
 split <;> rfl
theorem opS_po {zs : Nat → List Int} {s : NS} (h : LitS s) (who : Int) : (opS zs s who).po = s.po + 1 := by
 have h1 : (spendS s).po = s.po + 1 := by simp only [spendS, h.off]; rfl
 show (drawS zs (spendS s) who).po = _
 unfold drawS
 split <;> exact h1
theorem opS_M {zs : Nat → List Int} {s : NS} {who : Int} (hw : 0 ≤ who ∧ who < 4) : (opS zs s who).M who.toNat = if drawB zs s who then s.M who.toNat + 1 else s.M who.toNat := by
 show (drawS zs (spendS s) who).M who.toNat = _
 unfold drawS drawB
 rw [if_pos hw, if_pos hw]
 show nextM zs s.N s.M who.toNat who.toNat = _
 simp only [nextM, upd, if_true]
theorem operE_lit {zs : Nat → List Int} {s : NS} (h : LitS s) (who : Int) : operE zs s who = if drawB zs s who then 10 else 0 := by
 unfold operE
 rw [h.px, h.off, if_pos (by decide)]
theorem operS_lit {zs : Nat → List Int} {s : NS} (h : LitS s) (who : Int) (sp dn : NS → NS) : operS zs s who sp dn = if drawB zs s who then sp (opS zs s who) else dn (opS zs s who) := by
 unfold operS
 rw [h.px, h.off, if_neg (by decide), if_neg (by decide)]
 rfl
structure PrgP (c : SC) (s : NS) (x pg : Nat) (p : Pg) (e : Int) (s' : NS) : Prop where
 lit : LitS s'
 mr : s'.mr = s.mr
 po : s'.po = s.po + 1
 other : ∀ i, i ≠ x → s'.L i = s.L i
 below : ∀ j, j ≠ pg → s'.L x j = s.L x j
 res : (e = 0 ∧ s'.L x pg = p ∧ s'.M c.who.toNat = s.M c.who.toNat) ∨ (e = 10 ∧ s'.L x pg = { s.L x pg with st := 2 } ∧ s'.M c.who.toNat = s.M c.who.toNat + 1)
theorem prg_lit {c : SC} {s : NS} (h : LitS s) (hw : 0 ≤ c.who ∧ c.who < 4) {b : Int} {x pg : Nat} (hx : c.ph b = x) (hxa : x < c.S.all) (hpg : pg < c.S.pg) (hm : s.mr x = false) (hn : nextN (s.L x) c.S.pg = pg) {te ep pl sq kd : Int} (hok : okB te ep pl sq kd = true) (cp : Bool) (dt : ByteArray) (hd : dt.size ≤ 160) :
   PrgP c s x pg ⟨1, tagBL te ep pl sq kd cp, dt⟩ (prgE c s b pg pl sq kd te ep cp dt) (prgS c s b pg pl sq kd te ep cp dt) := by
 have hl : lackE c.S (x : Int) (pg : Int) = 0 := by unfold lackE hasB; rw [if_pos (by simp; omega), if_pos (by omega)]
 have hlen : (tagBL te ep pl sq kd cp).length = 19 := by unfold tagBL; rw [if_pos hok, frL_len, tagL_len]
 unfold prgE prgS
 rw [if_pos hok, if_pos hok, hx]
 have he : progE c.S c.zs s c.who x pg (tagBL te ep pl sq kd cp).length dt.size = operE c.zs s c.who := by
   unfold progE
   rw [if_pos hl, hlen, if_neg (by omega), Int.toNat_natCast, hm, if_neg (by decide), hn, if_pos rfl]
 have hs : progS c.S c.zs s c.who x pg (tagBL te ep pl sq kd cp) dt = operS c.zs s c.who (tornPg x pg) (turnPg x pg ⟨1, tagBL te ep pl sq kd cp, dt⟩) := by
   unfold progS
   rw [Int.toNat_natCast, Int.toNat_natCast, if_pos ⟨hl, by rw [hlen]; omega, hm, by rw [hn]⟩]
 rw [he, hs, operE_lit h, operS_lit h]
 have hM := opS_M (zs := c.zs) (s := s) hw
 have hL := opS_L c.zs s c.who
 have hl2 := opS_lit (zs := c.zs) h c.who
 cases hd2 : drawB c.zs s c.who
 · rw [hd2] at hM
   simp only [Bool.false_eq_true, if_false] at hM ⊢
   refine ⟨⟨hl2.px, hl2.off⟩, opS_mr _ _ _, opS_po h _, fun i hi => ?_, fun j hj => ?_, .inl ⟨rfl, ?_, hM⟩⟩
   · simp only [turnPg, hL]; rw [if_neg hi]
   · simp only [turnPg, hL]; rw [if_pos trivial, if_neg hj]
   · simp only [turnPg]; rw [if_pos trivial, if_pos rfl]
 · rw [hd2] at hM
   simp only [if_true] at hM ⊢
   refine ⟨⟨hl2.px, hl2.off⟩, opS_mr _ _ _, opS_po h _, fun i hi => ?_, fun j hj => ?_, .inr ⟨rfl, ?_, hM⟩⟩
   · simp only [tornPg, turnPg, hL]; rw [if_neg hi]
   · simp only [tornPg, turnPg, hL]; rw [if_pos trivial, if_neg hj]
   · simp only [tornPg, turnPg, hL]; rw [if_pos trivial, if_pos rfl]
structure ErsP (c : SC) (s : NS) (x : Nat) (e : Int) (s' : NS) : Prop where
 lit : LitS s'
 mr : s'.mr = s.mr
 po : s'.po = s.po + 1
 other : ∀ i, i ≠ x → s'.L i = s.L i
 res : (e = 0 ∧ (∀ j, j < c.S.pg → s'.L x j = Pg.none 0) ∧ s'.M c.who.toNat = s.M c.who.toNat) ∨ (e = 10 ∧ (∀ j, j < c.S.pg → s'.L x j = Pg.none 2) ∧ s'.M c.who.toNat = s.M c.who.toNat + 1)
theorem ers_lit {c : SC} {s : NS} (h : LitS s) (hw : 0 ≤ c.who ∧ c.who < 4) {x : Nat} (hxa : x < c.S.all) (hm : s.mr x = false) : ErsP c s x (ersE c.S c.zs s c.who x) (ersS c.S c.zs s c.who x) := by
 have hb : hasB c.S (x : Int) = true := by unfold hasB; simp; omega
 have he : ersE c.S c.zs s c.who x = operE c.zs s c.who := by unfold ersE; rw [hb, if_pos rfl, Int.toNat_natCast, hm, if_neg (by decide)]
 have hs : ersS c.S c.zs s c.who x = operS c.zs s c.who (fillPg x c.S.pg 2) (eraseS x c.S.pg) := by unfold ersS; rw [hb, Int.toNat_natCast, hm, if_pos (by decide)]
 rw [he, hs, operE_lit h, operS_lit h]
 have hM := opS_M (zs := c.zs) (s := s) hw
 have hL := opS_L c.zs s c.who
 have hl2 := opS_lit (zs := c.zs) h c.who
 cases hd2 : drawB c.zs s c.who
 · rw [hd2] at hM
   simp only [Bool.false_eq_true, if_false] at hM ⊢
   refine ⟨⟨hl2.px, hl2.off⟩, opS_mr _ _ _, opS_po h _, fun i hi => ?_, .inl ⟨rfl, fun j hj => ?_, hM⟩⟩
   · show (fillTo x c.S.pg 0 (opS c.zs s c.who)).L i = _
     simp only [fillTo, hL]; rw [if_neg hi]
   · show (fillTo x c.S.pg 0 (opS c.zs s c.who)).L x j = _
     simp only [fillTo]; rw [if_pos trivial, if_pos hj]
 · rw [hd2] at hM
   simp only [if_true] at hM ⊢
   refine ⟨⟨hl2.px, hl2.off⟩, opS_mr _ _ _, opS_po h _, fun i hi => ?_, .inr ⟨rfl, fun j hj => ?_, hM⟩⟩
   · show (fillTo x c.S.pg 2 (opS c.zs s c.who)).L i = _
     simp only [fillTo, hL]; rw [if_neg hi]
   · show (fillTo x c.S.pg 2 (opS c.zs s c.who)).L x j = _
     simp only [fillTo]; rw [if_pos trivial, if_pos hj]
theorem mark_lit {S : NShape} {s : NS} (h : LitS s) {x : Nat} (hxa : x < S.all) (h2 : 2 ≤ x) : markE S s x = 0 ∧ LitS (markS S s x) ∧ (markS S s x).L = s.L ∧ (markS S s x).M = s.M ∧ (markS S s x).N = s.N ∧ (markS S s x).po = s.po + 1 ∧ (markS S s x).mr = fun i => if i = x then true else s.mr i := by
 have hb : hasB S (x : Int) = true := by unfold hasB; simp; omega
 have hE : spE s.px s.off = 0 := by rw [h.px, h.off]; decide
 have hE1 : markE S s x = 0 := by unfold markE; rw [hb, if_pos rfl, if_neg (by omega), if_pos hE]
 have hS1 : markS S s x = { spendS s with mr := fun i => if i = x then true else s.mr i } := by
   unfold markS
   rw [hb, if_pos (by simp; omega), if_pos hE]
   simp only [Int.toNat_natCast]
 rw [hS1]
 refine ⟨hE1, ⟨?_, ?_⟩, rfl, rfl, rfl, ?_, rfl⟩
 · simp only [spendS, h.px, h.off]; rfl
 · simp only [spendS, h.px, h.off]; rfl
 · simp only [spendS, h.off]; rfl
end Go.Proofs.YtdnpdoipipfkoaaGreatDoor

namespace Go.Proofs.YtdnpdoipipfkoaaGreatDoor
set_option linter.unusedVariables false
set_option linter.unusedSimpArgs false
set_option linter.unusedVariables false
set_option linter.unusedSimpArgs false
set_option maxRecDepth 100000
open Go.RowKit
theorem nextN_above {f : Nat → Pg} : ∀ {n j : Nat}, nextN f n ≤ j → j < n → (f j).st = 0
 | 0, j, _, h => absurd h (by omega)
 | n + 1, j, h, hj => by
   unfold nextN at h
   split at h
   · rename_i h0
     by_cases e : j = n
     · rw [e]; exact h0
     · exact nextN_above h (by omega)
   · omega
theorem nextN_eq {f : Nat → Pg} {k : Nat} : ∀ {n : Nat}, k < n → (f k).st ≠ 0 → (∀ j, k < j → j < n → (f j).st = 0) → nextN f n = k + 1
 | 0, h, _, _ => absurd h (by omega)
 | n + 1, h, h1, h2 => by
   unfold nextN
   by_cases e : k = n
   · subst e; rw [if_neg h1]
   · rw [if_pos (h2 n (by omega) (by omega))]
     exact nextN_eq (by omega) h1 (fun j a b => h2 j a (by omega))
theorem nextN_over {f : Nat → Pg} : ∀ {n j : Nat}, j < n → (f j).st ≠ 0 → j < nextN f n
 | 0, j, h, _ => absurd h (by omega)
 | n + 1, j, h, h1 => by
   unfold nextN
   split
   · rename_i h0
     have : j ≠ n := fun e => by subst e; exact h1 h0
     exact nextN_over (by omega) h1
   · exact h
theorem PrgP.next {c : SC} {s s' : NS} {x pg : Nat} {p : Pg} {e : Int} (h : PrgP c s x pg p e s') (hp : p.st ≠ 0) (hn : nextN (s.L x) c.S.pg = pg) (hpg : pg < c.S.pg) : nextN (s'.L x) c.S.pg = pg + 1 := by
 refine nextN_eq hpg ?_ (fun j a b => ?_)
 · rcases h.res with ⟨_, h1, _⟩ | ⟨_, h1, _⟩
   · rw [h1]; exact hp
   · rw [h1]; exact fun e => by cases e
 · rw [h.below j (by omega)]
   exact nextN_above (n := c.S.pg) (by omega) b
def cpyPg (f : Fnd) : Pg := ⟨1, tagBL f.te f.ep f.pl f.sq f.kd true, f.dt⟩
def FndOk (f : Fnd) : Prop := okB f.te f.ep f.pl f.sq f.kd = true ∧ f.dt.size ≤ 160
structure CpyP (c : SC) (s : NS) (x i : Nat) (row : List Fnd) (e : Int) (s' : NS) : Prop where
 lit : LitS s'
 mr : s'.mr = s.mr
 po : s.po ≤ s'.po ∧ s'.po ≤ s.po + row.length
 other : ∀ b, b ≠ x → s'.L b = s.L b
 below : ∀ j, j < i → s'.L x j = s.L x j
 res : (e = 0 ∧ (∀ k (hk : k < row.length), s'.L x (i + k) = cpyPg row[k]) ∧ s'.M c.who.toNat = s.M c.who.toNat ∧ nextN (s'.L x) c.S.pg = i + row.length) ∨ (e = 10 ∧ s'.M c.who.toNat = s.M c.who.toNat + 1 ∧ i < nextN (s'.L x) c.S.pg)
theorem copy_lit {c : SC} (hw : 0 ≤ c.who ∧ c.who < 4) {b : Int} {x : Nat} (hx : c.ph b = x) (hxa : x < c.S.all) : ∀ (row : List Fnd) (i : Nat) (s : NS), LitS s → s.mr x = false → i + row.length ≤ c.S.pg → nextN (s.L x) c.S.pg = i → (∀ f ∈ row, FndOk f) → CpyP c s x i row (copyR c b row i s).1 (copyR c b row i s).2
 | [], i, s, h, hm, hi, hn, ha => ⟨h, rfl, by simp [copyR], fun _ _ => rfl, fun _ _ => rfl, .inl ⟨rfl, fun k hk => absurd hk (by simp), rfl, by simpa [copyR] using hn⟩⟩
 | f :: l, i, s, h, hm, hi, hn, ha => by
   obtain ⟨hok, hd⟩ := ha f (by simp)
   have hi' : i + 1 + l.length ≤ c.S.pg := by simp only [List.length_cons] at hi; omega
   have P := prg_lit (b := b) h hw hx hxa (by omega) hm hn hok true f.dt hd
   simp only [copyR]
   generalize prgE c s b (i : Int) f.pl f.sq f.kd f.te f.ep true f.dt = e1 at *
   generalize prgS c s b (i : Int) f.pl f.sq f.kd f.te f.ep true f.dt = s1 at *
   have hnx := P.next (by show (1 : Int) ≠ 0; decide) hn (by omega)
   rcases P.res with ⟨h0, h1, h2⟩ | ⟨h0, h1, h2⟩
   · rw [if_pos h0]
     have Q := copy_lit hw hx hxa l (i + 1) s1 P.lit (by rw [P.mr]; exact hm) hi' hnx (fun g hg => ha g (by simp [hg]))
     refine ⟨Q.lit, Q.mr.trans P.mr, ?_, fun a hb => (Q.other a hb).trans (P.other a hb), fun j hj => (Q.below j (by omega)).trans (P.below j (by omega)), ?_⟩
     · have := Q.po; have := P.po; simp only [List.length_cons]; omega
     · rcases Q.res with ⟨a0, a1, a2, a3⟩ | ⟨a0, a2, a3⟩
       · refine .inl ⟨a0, fun k hk => ?_, a2.trans h2, by rw [a3]; simp only [List.length_cons]; omega⟩
         cases k with
         | zero => exact (Q.below i (by omega)).trans h1
         | succ k =>
           rw [show i + (k + 1) = i + 1 + k by omega]
           exact a1 k (by simp only [List.length_cons] at hk; omega)
       · exact .inr ⟨a0, by rw [a2, h2], by omega⟩
   · rw [if_neg (by rw [h0]; decide)]
     refine ⟨P.lit, P.mr, ?_, P.other, fun j hj => P.below j (by omega),   .inr ⟨h0, h2, by show i < nextN (s1.L x) c.S.pg; omega⟩⟩
     have := P.po; simp only [List.length_cons]; omega
end Go.Proofs.YtdnpdoipipfkoaaGreatDoor

namespace Go.Proofs.YtdnpdoipipfkoaaGreatDoor
set_option linter.unusedVariables false
set_option linter.unusedSimpArgs false
set_option linter.unusedVariables false
set_option linter.unusedSimpArgs false
set_option maxRecDepth 100000
open Go.RowKit
end Go.Proofs.YtdnpdoipipfkoaaGreatDoor

namespace Go.Proofs.YtdnpdoipipfkoaaGreatDoor
set_option linter.unusedVariables false
set_option linter.unusedSimpArgs false
set_option linter.unusedVariables false
set_option linter.unusedSimpArgs false
set_option maxRecDepth 100000
open Go.RowKit
theorem num_leB {x : Int} {n : Nat} {r : List Int} (hn : n = 1 ∨ n = 4) (h0 : 0 ≤ x) (h1 : x < 256 ^ n) :
   numV n (leB x n ++ r) 0 = x ∧ numX n (leB x n ++ r) 0 = r ∧ numE n (leB x n ++ r) 0 = 0 := by
 have hs : sizeB (n : Int) = true := by rcases hn with rfl | rfl <;> decide
 have hl : ((n : Nat) : Int) ≤ ((leB x n ++ r).length : Int) := by rw [List.length_append, leB_len]; omega
 obtain ⟨e1, e2, e3⟩ := num_ok hs hl
 refine ⟨?_, ?_, e3⟩
 · rw [e1, Int.toNat_natCast, List.take_left' (leB_len x n), leV_leB n h0 h1]
 · rw [e2, Int.toNat_natCast, List.drop_left' (leB_len x n)]
theorem rd_back {a b c d k : Int} {p : Bool} (h : okB a b c d k = true) :
   nv (tagL a b c d k p) 0 = a ∧ nv (tagL a b c d k p) 1 = b ∧ nv (tagL a b c d k p) 2 = c ∧ nv (tagL a b c d k p) 3 = d ∧ nv (tagL a b c d k p) 4 = k ∧ cpB (tagL a b c d k p) = p ∧ dnE (tagL a b c d k p) = 0 := by
 have hA := okB_all h
 have b0 := hA 0 (by decide)
 have b1 := hA 1 (by decide)
 have b2 := hA 2 (by decide)
 have b3 := hA 3 (by decide)
 have b4 := hA 4 (by decide)
 simp [ffr, fto, nth] at b0 b1 b2 b3 b4
 have e : tagL a b c d k p = leB a 1 ++ (leB b 4 ++ (leB c 1 ++ (leB d 4 ++ (leB k 1 ++ (leB (bitI p) 1 ++ []))))) := by
   simp [tagL, pre, fsz, nth]
 have hp : 0 ≤ bitI p ∧ bitI p ≤ 1 := by cases p <;> decide
 obtain ⟨v0, x0, y0⟩ := num_leB (x := a) (n := 1) (r := leB b 4 ++ (leB c 1 ++ (leB d 4 ++ (leB k 1 ++ (leB (bitI p) 1 ++ []))))) (.inl rfl) (by omega) (by show a < 256; omega)
 obtain ⟨v1, x1, y1⟩ := num_leB (x := b) (n := 4) (r := leB c 1 ++ (leB d 4 ++ (leB k 1 ++ (leB (bitI p) 1 ++ [])))) (.inr rfl) (by omega) (by show b < 4294967296; omega)
 obtain ⟨v2, x2, y2⟩ := num_leB (x := c) (n := 1) (r := leB d 4 ++ (leB k 1 ++ (leB (bitI p) 1 ++ []))) (.inl rfl) (by omega) (by show c < 256; omega)
 obtain ⟨v3, x3, y3⟩ := num_leB (x := d) (n := 4) (r := leB k 1 ++ (leB (bitI p) 1 ++ [])) (.inr rfl) (by omega) (by show d < 4294967296; omega)
 obtain ⟨v4, x4, y4⟩ := num_leB (x := k) (n := 1) (r := leB (bitI p) 1 ++ []) (.inl rfl) (by omega) (by show k < 256; omega)
 obtain ⟨v5, x5, y5⟩ := num_leB (x := bitI p) (n := 1) (r := []) (.inl rfl) (by omega) (by show bitI p < 256; omega)
 rw [e]
 have s0 : fsz 0 = ((1 : Nat) : Int) := rfl
 have s1 : fsz 1 = ((4 : Nat) : Int) := rfl
 have s2 : fsz 2 = ((1 : Nat) : Int) := rfl
 have s3 : fsz 3 = ((4 : Nat) : Int) := rfl
 have s4 : fsz 4 = ((1 : Nat) : Int) := rfl
 have r1 : rdp (leB a 1 ++ (leB b 4 ++ (leB c 1 ++ (leB d 4 ++ (leB k 1 ++ (leB (bitI p) 1 ++ [])))))) 1 = (leB b 4 ++ (leB c 1 ++ (leB d 4 ++ (leB k 1 ++ (leB (bitI p) 1 ++ [])))), 0) := by
   simp only [rdp, s0, x0, y0]
 have r2 : rdp (leB a 1 ++ (leB b 4 ++ (leB c 1 ++ (leB d 4 ++ (leB k 1 ++ (leB (bitI p) 1 ++ [])))))) 2 = (leB c 1 ++ (leB d 4 ++ (leB k 1 ++ (leB (bitI p) 1 ++ []))), 0) := by
   rw [rdp, r1]; simp only [s1, x1, y1]
 have r3 : rdp (leB a 1 ++ (leB b 4 ++ (leB c 1 ++ (leB d 4 ++ (leB k 1 ++ (leB (bitI p) 1 ++ [])))))) 3 = (leB d 4 ++ (leB k 1 ++ (leB (bitI p) 1 ++ [])), 0) := by
   rw [rdp, r2]; simp only [s2, x2, y2]
 have r4 : rdp (leB a 1 ++ (leB b 4 ++ (leB c 1 ++ (leB d 4 ++ (leB k 1 ++ (leB (bitI p) 1 ++ [])))))) 4 = (leB k 1 ++ (leB (bitI p) 1 ++ []), 0) := by
   rw [rdp, r3]; simp only [s3, x3, y3]
 have r5 : rdp (leB a 1 ++ (leB b 4 ++ (leB c 1 ++ (leB d 4 ++ (leB k 1 ++ (leB (bitI p) 1 ++ [])))))) 5 = (leB (bitI p) 1 ++ [], 0) := by
   rw [rdp, r4]; simp only [s4, x4, y4]
 refine ⟨?_, ?_, ?_, ?_, ?_, ?_, ?_⟩
 · simp only [nv, rdp, s0, v0]
 · rw [nv, r1]; simp only [s1, v1]
 · rw [nv, r2]; simp only [s2, v2]
 · rw [nv, r3]; simp only [s3, v3]
 · rw [nv, r4]; simp only [s4, v4]
 · rw [cpB, r5]
   have : numV 1 (leB (bitI p) 1 ++ []) 0 = bitI p := v5
   simp only [flagB, this]
   cases p <;> decide
 · rw [dnE, lstX, lstE, r5]
   have h1 : numV 1 (leB (bitI p) 1 ++ []) 0 = bitI p := v5
   have h2 : numX 1 (leB (bitI p) 1 ++ []) 0 = [] := x5
   have h3 : numE 1 (leB (bitI p) 1 ++ []) 0 = 0 := y5
   simp only [flagE, h1, h2, h3]
   rw [if_neg (by omega)]
   rfl
theorem ps_back {a b c d k : Int} {p : Bool} (h : okB a b c d k = true) :
   psE (frL 84 (tagL a b c d k p)) = 0 ∧ psN (frL 84 (tagL a b c d k p)) 0 = a ∧ psN (frL 84 (tagL a b c d k p)) 1 = b ∧ psN (frL 84 (tagL a b c d k p)) 2 = c ∧ psN (frL 84 (tagL a b c d k p)) 3 = d ∧ psN (frL 84 (tagL a b c d k p)) 4 = k ∧ psP (frL 84 (tagL a b c d k p)) = p := by
 have hl := tagL_len a b c d k p
 have hob := open_back (k := 84) (body := tagL a b c d k p) (rest := []) (by decide) (by decide) (by omega)
 rw [List.append_nil] at hob
 have w1 : whE (frL 84 (tagL a b c d k p)) 84 = 0 := by unfold whE; rw [if_pos hob.2.1, if_pos ⟨by rw [hob.2.2.2.2, frL_len]; rfl, hob.2.2.1⟩]
 have w2 : whB (frL 84 (tagL a b c d k p)) 84 = tagL a b c d k p := by unfold whB; rw [if_pos w1]; exact hob.2.2.2.1
 obtain ⟨e0, e1, e2, e3, e4, e5, e6⟩ := rd_back (p := p) h
 have hE : psE (frL 84 (tagL a b c d k p)) = 0 := by
   unfold psE
   rw [if_pos w1, w2]
   simp [bodyOk, e0, e1, e2, e3, e4, e6, h]
 simp only [psN, psP, hE, w2, if_true]
 exact ⟨trivial, e0, e1, e2, e3, e4, e5⟩
end Go.Proofs.YtdnpdoipipfkoaaGreatDoor

namespace Go.Proofs.YtdnpdoipipfkoaaGreatDoor
set_option linter.unusedVariables false
set_option linter.unusedSimpArgs false
set_option linter.unusedVariables false
set_option linter.unusedSimpArgs false
set_option maxRecDepth 100000
open Go.RowKit
structure PgIs (c : SC) (s : NS) (b pg : Int) (f : Fnd) : Prop where
 bk : f.bk = b
 at' : f.pg = pg
 torn : f.torn = false
 ok : FndOk f
 is : s.L (c.ph b).toNat pg.toNat = ⟨1, tagBL f.te f.ep f.pl f.sq f.kd f.cp, f.dt⟩
def BlOk (c : SC) : Prop := ∀ i, i < c.bl.length → 2 ≤ c.bl.getD i 0 ∧ c.bl.getD i 0 < c.S.all
theorem BlOk.ph {c : SC} (h : BlOk c) {b : Int} (hb : 0 ≤ b ∧ b < c.bl.length) : 2 ≤ c.ph b ∧ c.ph b < c.S.all := h b.toNat (by omega)
theorem fd_is {c : SC} {s : NS} {b pg : Int} {f : Fnd} (h : LitS s) (hB : BlOk c) (hb : 0 ≤ b ∧ b < c.bl.length) (hp : 0 ≤ pg ∧ pg < c.S.pg) (hf : PgIs c s b pg f) : fdE c s b pg = 0 ∧ fdF c s b pg = f := by
 have hph := hB.ph hb
 have hl : lackE c.S (c.ph b) pg = 0 := by unfold lackE hasB; rw [if_pos (by simp; omega), if_pos (by omega)]
 have hr : readE c.S s (c.ph b) pg = 0 := by
   unfold readE
   rw [hl, if_pos rfl, h.off, if_neg (by decide), hf.is, if_neg (by show ¬ (1 : Int) = 0; decide), if_neg (by show ¬ (1 : Int) = 2; decide)]
 have hE : oneE c s b pg = 0 := by unfold oneE findE; rw [if_pos hb, hr]; rfl
 have hT : tagBL f.te f.ep f.pl f.sq f.kd f.cp = frL 84 (tagL f.te f.ep f.pl f.sq f.kd f.cp) := by unfold tagBL; rw [if_pos hf.ok.1]
 obtain ⟨p0, p1, p2, p3, p4, p5, p6⟩ := ps_back (p := f.cp) hf.ok.1
 have hF : oneF c s b pg = f := by
   unfold oneF findF
   rw [if_pos hb, hr, if_neg (by decide), if_pos rfl, hf.is]
   show fndOf b pg (tagBL f.te f.ep f.pl f.sq f.kd f.cp) f.dt = f
   rw [hT]
   unfold fndOf
   rw [if_pos p0, p1, p2, p3, p4, p5, p6, ← hf.bk, ← hf.at', ← hf.torn]
 have hn : ¬ (oneE c s b pg = 0 ∧ (oneF c s b pg).torn = true) := by
   rw [hF, hf.torn]
   exact fun e => by cases e.2
 exact ⟨by unfold fdE; rw [if_neg hn, hE], by unfold fdF; rw [if_neg hn, hF]⟩
structure RsOk (c : SC) (s : NS) (rs : List R14) : Prop where
 ok : ∀ r ∈ rs, 0 ≤ r.pl ∧ r.pl < c.sz ∧ 0 ≤ r.bk ∧ r.bk < c.bl.length ∧ 0 ≤ r.pg ∧ r.pg < c.S.pg
 pls : (rs.map (·.pl)).Nodup
 pgs : (rs.map fun r => (r.bk, r.pg)).Nodup
 mr : ∀ r ∈ rs, s.mr (c.ph r.bk).toNat = false
 pg : ∀ r ∈ rs, ∃ f, PgIs c s r.bk r.pg f ∧ f.pl = r.pl
theorem placeN_ex {rs : List R14} {b p : Int} (h : 0 ≤ placeN rs b p) : ∃ r ∈ rs, r.bk = b ∧ r.pg = p ∧ placeN rs b p = r.pl := by
 unfold placeN at h ⊢
 cases hf : rs.find? (fun s => s.bk == b && s.pg == p) with
 | none => rw [hf] at h; exact absurd h (by decide)
 | some s =>
   have h1 := List.mem_of_find?_eq_some hf
   have h2 := List.find?_some hf
   simp at h2
   exact ⟨s, h1, h2.1, h2.2, rfl⟩
structure NeedP (c : SC) (s : NS) (rs : List R14) (b : Int) (k : Nat) (L : List Fnd) : Prop where
 is : ∀ f ∈ L, ∃ r ∈ rs, r.bk = b ∧ r.pg < k ∧ r.pl = f.pl ∧ r.pg = f.pg ∧ PgIs c s r.bk r.pg f
 all : ∀ r ∈ rs, r.bk = b → r.pg < k → ∃ f ∈ L, f.pg = r.pg
 nd : (L.map (·.pg)).Nodup
theorem need_is {c : SC} {m : SM} (h : LitS m.n) (hB : BlOk c) (R : RsOk c m.n m.rs) (b : Int) : ∀ k : Nat, k ≤ c.S.pg → (needR c m b k).2 = 0 ∧ NeedP c m.n m.rs b k (needR c m b k).1
 | 0, _ => ⟨rfl, ⟨fun f hf => by simp [needR] at hf, fun r hr _ hk => by have := (R.ok r hr).2.2.2.2.1; omega, List.nodup_nil⟩⟩
 | k + 1, hk => by
   obtain ⟨h0, N⟩ := need_is h hB R b k (by omega)
   rw [needR, if_neg (by rw [h0]; decide)]
   by_cases hp : placeN m.rs b k < 0
   · rw [if_pos hp]
     refine ⟨h0, ⟨fun f hf => ?_, fun r hr hb hl => ?_, N.nd⟩⟩
     · obtain ⟨r, h1, h2, h3, h4⟩ := N.is f hf
       exact ⟨r, h1, h2, by omega, h4⟩
     · refine N.all r hr hb ?_
       have : r.pg ≠ k := fun e => by
         have h1 := placeN_some R.pgs hr
         rw [hb, e] at h1
         have := (R.ok r hr).1
         omega
       omega
   · rw [if_neg hp]
     obtain ⟨r, hr, hb, hpg, hpl⟩ := placeN_ex (rs := m.rs) (b := b) (p := k) (by omega)
     obtain ⟨f, hf, hfl⟩ := R.pg r hr
     have hk' := R.ok r hr
     have F := fd_is h hB ⟨hk'.2.2.1, hk'.2.2.2.1⟩ ⟨hk'.2.2.2.2.1, hk'.2.2.2.2.2⟩ hf
     have Fb := F
     rw [hb, hpg] at Fb
     rw [Fb.1, if_pos rfl, Fb.2]
     refine ⟨rfl, ⟨fun g hg => ?_, fun r' hr' hb' hl => ?_, ?_⟩⟩
     · rcases List.mem_append.1 hg with hg | hg
       · obtain ⟨r2, h1, h2, h3, h4⟩ := N.is g hg
         exact ⟨r2, h1, h2, by omega, h4⟩
       · obtain rfl := List.mem_singleton.1 hg
         exact ⟨r, hr, hb, by omega, hfl.symm, hf.at'.symm, hf⟩
     · by_cases e : r'.pg < k
       · obtain ⟨g, hg, hgp⟩ := N.all r' hr' hb' e
         exact ⟨g, List.mem_append.2 (.inl hg), hgp⟩
       · exact ⟨f, List.mem_append.2 (.inr (List.mem_singleton.2 rfl)), by rw [hf.at']; omega⟩
     · rw [List.map_append, List.nodup_append]
       refine ⟨N.nd, by simp, fun x hx y hy => ?_⟩
       obtain ⟨g, hg, rfl⟩ := List.mem_map.1 hx
       simp at hy
       subst hy
       obtain ⟨r2, h1, h2, h3, h4, h5, _⟩ := N.is g hg
       have := hf.at'
       omega
end Go.Proofs.YtdnpdoipipfkoaaGreatDoor

namespace Go.Proofs.YtdnpdoipipfkoaaGreatDoor
set_option linter.unusedVariables false
set_option linter.unusedSimpArgs false
set_option linter.unusedVariables false
set_option linter.unusedSimpArgs false
set_option maxRecDepth 100000
open Go.RowKit
structure RsB (c : SC) (rs : List R14) : Prop where
 ok : ∀ r ∈ rs, 0 ≤ r.pl ∧ r.pl < c.sz ∧ 0 ≤ r.bk ∧ r.bk < c.bl.length ∧ 0 ≤ r.pg ∧ r.pg < c.S.pg
 pls : (rs.map (·.pl)).Nodup
 pgs : (rs.map fun r => (r.bk, r.pg)).Nodup
theorem RsOk.b {c : SC} {s : NS} {rs : List R14} (h : RsOk c s rs) : RsB c rs := ⟨h.ok, h.pls, h.pgs⟩
theorem set_is {c : SC} (hsz : c.sz ≤ 64) {rs : List R14} (R : RsB c rs) {pl tg : Int} {i : Nat} (hpl : 0 ≤ pl ∧ pl < c.sz) (htg : 0 ≤ tg ∧ tg < c.bl.length) (hi : i < c.S.pg) (hf : ∀ r ∈ rs, ¬ (r.bk = tg ∧ r.pg = i)) :
   setE c.bl.length c.S.pg rs pl tg i = 0 ∧ setR c.bl.length c.S.pg rs pl tg i = clearN rs pl ++ [⟨pl, tg, i⟩] ∧ RsB c (clearN rs pl ++ [⟨pl, tg, i⟩]) := by
 have hE : setE c.bl.length c.S.pg rs pl tg i = 0 := by
   unfold setE
   rw [placeN_none hf, if_neg (by omega), if_neg (by omega)]
 refine ⟨hE, by unfold setR; rw [if_pos hE], fun r hr => ?_, ?_, ?_⟩
 · rcases List.mem_append.1 hr with hr | hr
   · exact R.ok r (mem_clear.1 hr).1
   · obtain rfl := List.mem_singleton.1 hr
     simp only
     omega
 · rw [List.map_append, List.nodup_append]
   refine ⟨nodup_clear R.pls _, by simp, fun x hx y hy => ?_⟩
   obtain ⟨s, hs, rfl⟩ := List.mem_map.1 hx
   simp at hy
   subst hy
   exact (mem_clear.1 hs).2
 · rw [List.map_append, List.nodup_append]
   refine ⟨nodup_clear R.pgs _, by simp, fun x hx y hy => ?_⟩
   obtain ⟨s, hs, rfl⟩ := List.mem_map.1 hx
   simp at hy
   subst hy
   intro e
   injection e with e1 e2
   exact hf s (mem_clear.1 hs).1 ⟨e1, e2⟩
theorem setl_is {c : SC} (hsz : c.sz ≤ 64) {tg b : Int} (htg : 0 ≤ tg ∧ tg < c.bl.length) (hb : b ≠ tg) : ∀ (L : List Fnd) (i : Nat) (rs : List R14), RsB c rs → i + L.length ≤ c.S.pg → (∀ r ∈ rs, r.bk = tg → r.pg < i) → (∀ f ∈ L, f.bk = b ∧ ∃ r ∈ rs, r.bk = b ∧ r.pg = f.pg ∧ r.pl = f.pl) → (L.map (·.pl)).Nodup →
   (setlR c tg L i rs).1 = 0 ∧ RsB c (setlR c tg L i rs).2 ∧ ∀ r, r ∈ (setlR c tg L i rs).2 ↔ (r ∈ rs ∧ ∀ f ∈ L, r.pl ≠ f.pl) ∨ ∃ k f, L[k]? = some f ∧ r = ⟨f.pl, tg, ((i + k : Nat) : Int)⟩
 | [], i, rs, R, _, _, _, _ => ⟨rfl, R, fun r => by simp [setlR]⟩
 | f :: l, i, rs, R, hi, ht, hL, hn => by
   obtain ⟨hfb, r, hr, hrb, hrp, hrl⟩ := hL f (by simp)
   have hi' : i + 1 + l.length ≤ c.S.pg := by simp only [List.length_cons] at hi; omega
   have hP : placeN rs f.bk f.pg = f.pl := by
     have := placeN_some R.pgs hr
     rw [hrb, hrp, hrl] at this
     rw [hfb]; exact this
   have hk := R.ok r hr
   obtain ⟨e0, e1, e2⟩ := set_is hsz R (pl := f.pl) (by rw [← hrl]; exact ⟨hk.1, hk.2.1⟩) htg (i := i) (by omega) (fun s hs h => by have := ht s hs h.1; omega)
   rw [List.map_cons, List.nodup_cons] at hn
   have hne : ∀ g ∈ l, f.pl ≠ g.pl := fun g hg e => hn.1 (List.mem_map.2 ⟨g, hg, e.symm⟩)
   obtain ⟨q0, q1, q2⟩ := setl_is hsz htg hb l (i + 1) (clearN rs f.pl ++ [⟨f.pl, tg, i⟩]) e2 hi' (fun s hs h => by
       rcases List.mem_append.1 hs with hs | hs
       · have := ht s (mem_clear.1 hs).1 h; omega
       · obtain rfl := List.mem_singleton.1 hs; simp only; omega)
     (fun g hg => by
       obtain ⟨a, s, h1, h2, h3, h4⟩ := hL g (by simp [hg])
       exact ⟨a, s, List.mem_append.2 (.inl (mem_clear.2 ⟨h1, by rw [h4]; exact (hne g hg).symm⟩)), h2, h3, h4⟩) hn.2
   rw [setlR, hP, if_pos e0, e1]
   refine ⟨q0, q1, fun s => (q2 s).trans ?_⟩
   constructor
   · rintro (⟨h1, h2⟩ | ⟨k, g, h1, h2⟩)
     · rcases List.mem_append.1 h1 with h1 | h1
       · obtain ⟨h3, h4⟩ := mem_clear.1 h1
         refine .inl ⟨h3, fun g hg => ?_⟩
         rcases List.mem_cons.1 hg with rfl | hg
         · exact h4
         · exact h2 g hg
       · exact .inr ⟨0, f, rfl, List.mem_singleton.1 h1⟩
     · exact .inr ⟨k + 1, g, h1, by rw [h2, show i + 1 + k = i + (k + 1) by omega]⟩
   · rintro (⟨h1, h2⟩ | ⟨k, g, h1, h2⟩)
     · exact .inl ⟨List.mem_append.2 (.inl (mem_clear.2 ⟨h1, h2 f (by simp)⟩)), fun g hg => h2 g (by simp [hg])⟩
     · cases k with
       | zero =>
         injection h1 with h1
         subst h1
         exact .inl ⟨List.mem_append.2 (.inr (List.mem_singleton.2 h2)), fun g hg => by rw [h2]; exact hne g hg⟩
       | succ k => exact .inr ⟨k, g, h1, by rw [h2, show i + 1 + k = i + (k + 1) by omega]⟩
end Go.Proofs.YtdnpdoipipfkoaaGreatDoor

namespace Go.Proofs.YtdnpdoipipfkoaaGreatDoor
set_option linter.unusedVariables false
set_option linter.unusedSimpArgs false
set_option linter.unusedVariables false
set_option linter.unusedSimpArgs false
set_option maxRecDepth 100000
open Go.RowKit
def Hold (c : SC) (s : NS) (rs : List R14) (q k : Int) (d : ByteArray) : Prop := ∃ r ∈ rs, r.pl = q ∧ ∃ f, PgIs c s r.bk r.pg f ∧ f.pl = q ∧ f.kd = k ∧ f.dt = d
theorem PgIs.keep {c : SC} {s s' : NS} {b pg : Int} {f : Fnd} (h : PgIs c s b pg f) (he : s'.L (c.ph b).toNat = s.L (c.ph b).toNat) : PgIs c s' b pg f := ⟨h.bk, h.at', h.torn, h.ok, by rw [he]; exact h.is⟩
theorem RsOk.keep {c : SC} {s s' : NS} {rs : List R14} (R : RsOk c s rs) (hL : ∀ r ∈ rs, s'.L (c.ph r.bk).toNat = s.L (c.ph r.bk).toNat) (hm : ∀ r ∈ rs, s'.mr (c.ph r.bk).toNat = s.mr (c.ph r.bk).toNat) : RsOk c s' rs :=
 ⟨R.ok, R.pls, R.pgs, fun r hr => (hm r hr).trans (R.mr r hr), fun r hr => by
   obtain ⟨f, h1, h2⟩ := R.pg r hr
   exact ⟨f, h1.keep (hL r hr), h2⟩⟩
theorem Hold.keep {c : SC} {s s' : NS} {rs : List R14} {q k : Int} {d : ByteArray} (h : Hold c s rs q k d) (hL : ∀ r ∈ rs, s'.L (c.ph r.bk).toNat = s.L (c.ph r.bk).toNat) : Hold c s' rs q k d := by
 obtain ⟨r, hr, h1, f, h2, h3⟩ := h
 exact ⟨r, hr, h1, f, h2.keep (hL r hr), h3⟩
theorem ph_inj {c : SC} (hN : c.bl.Nodup) {a b : Int} (ha : 0 ≤ a ∧ a < c.bl.length) (hb : 0 ≤ b ∧ b < c.bl.length) (h : c.ph a = c.ph b) : a = b := by
 have h1 : a.toNat < c.bl.length := by omega
 have h2 : b.toNat < c.bl.length := by omega
 unfold SC.ph at h
 rw [List.getD_eq_getElem?_getD, List.getD_eq_getElem?_getD, List.getElem?_eq_getElem h1, List.getElem?_eq_getElem h2, Option.getD_some, Option.getD_some] at h
 have := (List.getElem_inj hN).1 h
 omega
theorem blank_no {c : SC} {s : NS} {rs : List R14} (R : RsOk c s rs) {tg : Int} (h : nextN (s.L (c.ph tg).toNat) c.S.pg = 0) : ∀ r ∈ rs, r.bk ≠ tg := fun r hr e => by
 obtain ⟨f, hf, _⟩ := R.pg r hr
 have hk := R.ok r hr
 have h1 := hf.is
 rw [e] at h1
 have h2 := nextN_above (f := s.L (c.ph tg).toNat) (n := c.S.pg) (j := r.pg.toNat) (by omega) (by omega)
 rw [h1] at h2
 cases h2
theorem other_L {c : SC} {s s' : NS} {rs : List R14} (R : RsOk c s rs) (hB : BlOk c) (hN : c.bl.Nodup) {tg : Int} (ht : 0 ≤ tg ∧ tg < c.bl.length) (hO : ∀ b, b ≠ (c.ph tg).toNat → s'.L b = s.L b) : ∀ r ∈ rs, r.bk ≠ tg → s'.L (c.ph r.bk).toNat = s.L (c.ph r.bk).toNat := fun r hr hne => by
 have hk := R.ok r hr
 refine hO _ (fun e => hne (ph_inj hN ⟨hk.2.2.1, hk.2.2.2.1⟩ ht ?_))
 have := hB.ph (b := r.bk) ⟨hk.2.2.1, hk.2.2.2.1⟩
 have := hB.ph ht
 omega
theorem need_pls {c : SC} {s : NS} {rs : List R14} (R : RsOk c s rs) {b : Int} {k : Nat} {L : List Fnd} (N : NeedP c s rs b k L) : (L.map (·.pl)).Nodup := by
 have h : ∀ M : List Fnd, (∀ f ∈ M, ∃ r ∈ rs, r.pl = f.pl ∧ r.pg = f.pg) → (M.map (·.pg)).Nodup → (M.map (·.pl)).Nodup := by
   intro M
   induction M with
   | nil => intro _ _; exact List.nodup_nil
   | cons f l ih =>
     intro h1 h2
     rw [List.map_cons, List.nodup_cons] at h2 ⊢
     refine ⟨fun hm => ?_, ih (fun g hg => h1 g (by simp [hg])) h2.2⟩
     obtain ⟨g, hg, e⟩ := List.mem_map.1 hm
     obtain ⟨r, hr, a1, a2⟩ := h1 f (by simp)
     obtain ⟨r2, hr2, b1, b2⟩ := h1 g (by simp [hg])
     obtain rfl := nodup_inj R.pls hr hr2 (by show r.pl = r2.pl; rw [a1, b1]; exact e.symm)
     exact h2.1 (List.mem_map.2 ⟨g, hg, by show g.pg = f.pg; rw [← b2, a2]⟩)
 exact h L (fun f hf => by obtain ⟨r, h1, _, _, h4, h5, _⟩ := N.is f hf; exact ⟨r, h1, h4, h5⟩) N.nd
structure CpdP (c : SC) (s : NS) (rs : List R14) (b : Int) (s' : NS) (rs' : List R14) : Prop where
 ok : RsOk c s' rs'
 no : ∀ r ∈ rs', r.bk ≠ b
 hold : ∀ q k d, Hold c s rs q k d → Hold c s' rs' q k d
 back : ∀ r ∈ rs', ∃ r0 ∈ rs, r0.pl = r.pl
theorem copied {c : SC} (hsz : c.sz ≤ 64) (hB : BlOk c) (hN : c.bl.Nodup) {s s' : NS} (hs : LitS s) {rs : List R14} (R : RsOk c s rs) {b tg : Int} {row : List Fnd} (N : NeedP c s rs b c.S.pg row) (ht : 0 ≤ tg ∧ tg < c.bl.length) (hb : b ≠ tg) (h0 : nextN (s.L (c.ph tg).toNat) c.S.pg = 0) (hm : s.mr (c.ph tg).toNat = false) (hl : row.length ≤ c.S.pg) {e : Int}
   (Q : CpyP c s (c.ph tg).toNat 0 row e s') (he : e = 0) : (setlR c tg row 0 rs).1 = 0 ∧ CpdP c s rs b s' (setlR c tg row 0 rs).2 := by
 have hno := blank_no R h0
 have hO := other_L R hB hN ht Q.other
 obtain ⟨q0, q1, q2⟩ := setl_is hsz ht hb row 0 rs R.b (by omega) (fun r hr h => absurd h (hno r hr)) (fun f hf => by
   obtain ⟨r, h1, h2, _, h4, h5, h6⟩ := N.is f hf
   exact ⟨h6.bk.trans h2, r, h1, h2, h5, h4⟩) (need_pls R N)
 have hpg : ∀ k f, row[k]? = some f → s'.L (c.ph tg).toNat k = cpyPg f := by
   intro k f hk
   obtain ⟨hlt, rfl⟩ := List.getElem?_eq_some_iff.1 hk
   rcases Q.res with ⟨_, h1, _⟩ | ⟨h1, _⟩
   · have := h1 k hlt
     rwa [Nat.zero_add] at this
   · rw [h1] at he; cases he
 have hcp : ∀ (k : Nat) f, row[k]? = some f → PgIs c s' tg ((0 + k : Nat) : Int) { f with bk := tg, pg := ((0 + k : Nat) : Int), torn := false, cp := true } := by
   intro k f hk
   obtain ⟨r, _, _, _, _, _, h6⟩ := N.is f (List.mem_of_getElem? hk)
   refine ⟨rfl, rfl, rfl, h6.ok, ?_⟩
   rw [Int.toNat_natCast, Nat.zero_add, hpg k f hk]
   rfl
 refine ⟨q0, ⟨q1.ok, q1.pls, q1.pgs, fun r hr => ?_, fun r hr => ?_⟩, fun r hr => ?_, fun q k d hd => ?_, fun r hr => ?_⟩
 · rw [Q.mr]
   rcases (q2 r).1 hr with ⟨h1, _⟩ | ⟨k, f, _, rfl⟩
   · exact R.mr r h1
   · exact hm
 · rcases (q2 r).1 hr with ⟨h1, _⟩ | ⟨k, f, hk, rfl⟩
   · obtain ⟨f, hf, hfl⟩ := R.pg r h1
     exact ⟨f, hf.keep (hO r h1 (hno r h1)), hfl⟩
   · exact ⟨_, hcp k f hk, rfl⟩
 · rcases (q2 r).1 hr with ⟨h1, h2⟩ | ⟨k, f, hk, rfl⟩
   · intro hrb
     have hk := R.ok r h1
     obtain ⟨f, hf, hfp⟩ := N.all r h1 hrb (by omega)
     obtain ⟨r2, a1, a2, _, a4, a5, _⟩ := N.is f hf
     obtain rfl := nodup_inj R.pgs h1 a1 (by show (r.bk, r.pg) = (r2.bk, r2.pg); rw [hrb, a2, a5, hfp])
     exact h2 f hf a4
   · exact fun e => hb e.symm
 · obtain ⟨r, hr, h1, f, h2, h3, h4, h5⟩ := hd
   by_cases hrb : r.bk = b
   · have hk := R.ok r hr
     obtain ⟨g, hg, hgp⟩ := N.all r hr hrb (by omega)
     obtain ⟨r2, a1, a2, _, a4, a5, a6⟩ := N.is g hg
     obtain rfl := nodup_inj R.pgs hr a1 (by show (r.bk, r.pg) = (r2.bk, r2.pg); rw [hrb, a2, a5, hgp])
     have hfg : f = g := by
       have F1 := fd_is hs hB ⟨hk.2.2.1, hk.2.2.2.1⟩ ⟨hk.2.2.2.2.1, hk.2.2.2.2.2⟩ h2
       have F2 := fd_is hs hB ⟨hk.2.2.1, hk.2.2.2.1⟩ ⟨hk.2.2.2.2.1, hk.2.2.2.2.2⟩ a6
       exact F1.2.symm.trans F2.2
     subst hfg
     obtain ⟨j, hj⟩ := List.getElem?_of_mem hg
     exact ⟨⟨f.pl, tg, ((0 + j : Nat) : Int)⟩, (q2 _).2 (.inr ⟨j, f, hj, rfl⟩), h3, _, hcp j f hj, h3, h4, h5⟩
   · refine ⟨r, (q2 r).2 (.inl ⟨hr, fun g hg e => ?_⟩), h1, f, h2.keep (hO r hr (hno r hr)), h3, h4, h5⟩
     obtain ⟨r2, a1, a2, _, a4, _⟩ := N.is g hg
     obtain rfl := nodup_inj R.pls hr a1 (by show r.pl = r2.pl; rw [a4]; exact e)
     exact hrb a2
 · rcases (q2 r).1 hr with ⟨h1, _⟩ | ⟨k, f, hk, rfl⟩
   · exact ⟨r, h1, rfl⟩
   · obtain ⟨r2, a1, _, _, a4, _⟩ := N.is f (List.mem_of_getElem? hk)
     exact ⟨r2, a1, a4⟩
end Go.Proofs.YtdnpdoipipfkoaaGreatDoor

namespace Go.Proofs.YtdnpdoipipfkoaaGreatDoor
set_option linter.unusedVariables false
set_option linter.unusedSimpArgs false
set_option linter.unusedVariables false
set_option linter.unusedSimpArgs false
set_option maxRecDepth 100000
open Go.RowKit
theorem filter_one {t : Nat} {p q : Nat → Bool} (hp : p t = true) (hq : q t = false) : ∀ {n : Nat}, t < n → (∀ x, x < n → x ≠ t → q x = p x) → ((List.range n).filter q).length + 1 = ((List.range n).filter p).length
 | 0, ht, _ => absurd ht (by omega)
 | n + 1, ht, h => by
   rw [List.range_succ, List.filter_append, List.filter_append, List.length_append, List.length_append]
   by_cases e : t = n
   · subst e
     have h1 : (List.range t).filter q = (List.range t).filter p := List.filter_congr fun x hx => h x (by have := List.mem_range.1 hx; omega) (by have := List.mem_range.1 hx; omega)
     rw [h1, List.filter_cons, List.filter_cons, hp, hq]
     simp
   · have h1 := filter_one hp hq (n := n) (by omega) (fun x hx => h x (by omega))
     have h2 : q n = p n := h n (by omega) (fun a => e a.symm)
     have h3 : ([n].filter q).length = ([n].filter p).length := by rw [List.filter_cons, List.filter_cons, h2]; split <;> rfl
     omega
theorem filter_same {p q : Nat → Bool} {n : Nat} (h : ∀ x, x < n → q x = p x) : ((List.range n).filter q).length = ((List.range n).filter p).length := by
 rw [List.filter_congr fun x hx => h x (List.mem_range.1 hx)]
theorem freeL_len (c : SC) (m : SM) : (freeL c m).length = ((List.range c.bl.length).filter (freeB c m)).length := by unfold freeL; rw [List.length_map]
theorem freeL_iff {c : SC} {m : SM} {b : Nat} : (b : Int) ∈ freeL c m ↔ b < c.bl.length ∧ freeB c m b = true := by
 unfold freeL
 rw [List.mem_map]
 constructor
 · rintro ⟨a, ha, e⟩
   obtain rfl : a = b := by omega
   have := List.mem_filter.1 ha
   exact ⟨List.mem_range.1 this.1, this.2⟩
 · rintro ⟨h1, h2⟩
   exact ⟨b, List.mem_filter.2 ⟨List.mem_range.2 h1, h2⟩, rfl⟩
theorem freeB_iff {c : SC} {m : SM} {b : Nat} : freeB c m b = true ↔ (b : Int) ≠ m.fr ∧ nextB c m b = 0 ∧ badB c m b = false := by
 unfold freeB
 simp
structure OneB (c : SC) (t : Nat) (m m' : SM) : Prop where
 L : ∀ x, x ≠ (c.ph t).toNat → m'.n.L x = m.n.L x
 mr : ∀ x, x ≠ (c.ph t).toNat → m'.n.mr x = m.n.mr x
theorem ph_ne {c : SC} (hB : BlOk c) (hN : c.bl.Nodup) {t b : Nat} (ht : t < c.bl.length) (hb : b < c.bl.length) (h : b ≠ t) : (c.ph b).toNat ≠ (c.ph t).toNat := fun e => h (by
 have h1 := hB.ph (b := b) (by omega)
 have h2 := hB.ph (b := t) (by omega)
 have := ph_inj hN (a := (b : Int)) (b := (t : Int)) (by omega) (by omega) (by omega)
 omega)
theorem OneB.bad {c : SC} {t : Nat} {m m' : SM} (h : OneB c t m m') (hB : BlOk c) (hN : c.bl.Nodup) (ht : t < c.bl.length) {b : Nat} (hb : b < c.bl.length) (hne : b ≠ t) : badB c m' b = badB c m b := h.mr _ (ph_ne hB hN ht hb hne)
theorem OneB.next {c : SC} {t : Nat} {m m' : SM} (h : OneB c t m m') (hB : BlOk c) (hN : c.bl.Nodup) (ht : t < c.bl.length) {b : Nat} (hb : b < c.bl.length) (hne : b ≠ t) : nextB c m' b = nextB c m b := by
 unfold nextB
 rw [h.L _ (ph_ne hB hN ht hb hne)]
theorem bad_one {c : SC} {t : Nat} {m m' : SM} (h : OneB c t m m') (hB : BlOk c) (hN : c.bl.Nodup) (ht : t < c.bl.length) (h0 : badB c m t = false) (h1 : badB c m' t = true) : badN c m' = badN c m + 1 :=
 (filter_one h1 h0 ht (fun x hx hne => (h.bad hB hN ht hx hne).symm)).symm
theorem bad_same {c : SC} {t : Nat} {m m' : SM} (h : OneB c t m m') (hB : BlOk c) (hN : c.bl.Nodup) (ht : t < c.bl.length) (h0 : badB c m' t = badB c m t) : badN c m' = badN c m :=
 filter_same (fun x hx => by
   by_cases e : x = t
   · rw [e]; exact h0
   · exact h.bad hB hN ht hx e)
theorem free_one {c : SC} {t : Nat} {m m' : SM} (h : OneB c t m m') (hB : BlOk c) (hN : c.bl.Nodup) (hf : m'.fr = m.fr) (ht : t < c.bl.length) (h0 : freeB c m t = true) (h1 : freeB c m' t = false) : (freeL c m').length + 1 = (freeL c m).length := by
 rw [freeL_len, freeL_len]
 refine filter_one h0 h1 ht (fun x hx hne => ?_)
 unfold freeB
 rw [hf, h.next hB hN ht hx hne, h.bad hB hN ht hx hne]
theorem spr_one {c : SC} {m m' : SM} (h : badN c m' = badN c m + 1) (hs : 0 < sprN c m) : sprN c m' = sprN c m - 1 := by
 unfold sprN at hs ⊢
 rw [h]
 split at hs <;> split <;> omega
theorem spr_same {c : SC} {m m' : SM} (h : badN c m' = badN c m) : sprN c m' = sprN c m := by unfold sprN; rw [h]
theorem spr_nn (c : SC) (m : SM) : 0 ≤ sprN c m := by unfold sprN; split <;> omega
theorem spr_low {c : SC} {m : SM} {k : Int} (hk : 0 ≤ k) (h : ¬ sprN c m > k) : c.sp ≤ badN c m + k := by
 unfold sprN at h
 split at h <;> omega
theorem NeedP.keep {c : SC} {s s' : NS} {rs : List R14} {b : Int} {k : Nat} {L : List Fnd} (N : NeedP c s rs b k L) (hL : ∀ r ∈ rs, s'.L (c.ph r.bk).toNat = s.L (c.ph r.bk).toNat) : NeedP c s' rs b k L :=
 ⟨fun f hf => by
   obtain ⟨r, h1, h2, h3, h4, h5, h6⟩ := N.is f hf
   exact ⟨r, h1, h2, h3, h4, h5, h6.keep (hL r h1)⟩, N.all, N.nd⟩
end Go.Proofs.YtdnpdoipipfkoaaGreatDoor
