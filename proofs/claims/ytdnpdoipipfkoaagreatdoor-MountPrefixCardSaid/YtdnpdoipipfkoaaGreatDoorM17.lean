/-
  Texts put together: ZP BA BB BC BD BE BF.
-/
import Derived.Test.YtdnpdoipipfkoaaGreatDoorM15
import Derived.Test.YtdnpdoipipfkoaaGreatDoorM16
namespace Go.Proofs.YtdnpdoipipfkoaaGreatDoor
set_option linter.unusedVariables false
set_option linter.unusedSimpArgs false
set_option linter.unusedVariables false
set_option linter.unusedSimpArgs false
set_option maxRecDepth 100000
open Go.RowKit
def cO (S : NShape) (fz : List Int) (sz sp : Int) (tot : Nat) : SC := ⟨S, zsO fz, 1, 1, sz, sp, blO tot⟩
theorem blO_nodup (n : Nat) : (blO n).Nodup := by
 induction n with
 | zero => exact List.nodup_nil
 | succ n ih =>
   rw [blO_succ, List.nodup_append]
   refine ⟨ih, by simp, fun x hx y hy => ?_⟩
   simp only [blO, List.mem_map, List.mem_range, List.mem_singleton] at hx hy
   obtain ⟨i, hi, rfl⟩ := hx
   omega
theorem stt_O {S : NShape} {fz : List Int} {a b pg d : Int} (hp : (S.pg : Int) = pgO pg) (ha : S.all = 2 + (toO a b pg d).toNat) : Stt (cO S fz (szO a) (prO b) (toO a b pg d).toNat) := by
 have h1 := pgO_in pg
 have h2 := szO_in a
 have h3 := prO_in b
 have h4 := umN_in d 3 (by decide)
 have h5 := toO_in a b pg d
 have hbl : (cO S fz (szO a) (prO b) (toO a b pg d).toNat).bl.length = (toO a b pg d).toNat := blO_len _
 refine ⟨⟨by show (0 : Int) ≤ 1; decide, by show (1 : Int) < 4; decide⟩, ⟨h2.1, by show szO a ≤ 64; omega⟩, ⟨h3.1, by show prO b ≤ 8; omega⟩, fun i hi => ?_, blO_nodup _, by rw [hbl]; omega, ?_, ⟨by show 2 ≤ S.pg; omega, by show S.pg ≤ 16; omega⟩, ⟨by show (0 : Int) ≤ 1; decide, by show (1 : Int) ≤ 2147483647; decide⟩⟩
 · rw [hbl] at hi
   show 2 ≤ (blO _).getD i 0 ∧ (blO _).getD i 0 < (S.all : Int)
   rw [blO_at _ _ hi, ha]
   omega
 · rw [hbl]
   show szO a / (S.pg : Int) + 2 + prO b ≤ _
   rw [hp]
   have : toO a b pg d = szO a / pgO pg + 2 + prO b + umN d 3 := rfl
   omega
theorem inv_O {S : NShape} {fz : List Int} {sz sp : Int} {tot : Nat} (hsp : 0 ≤ sp ∧ sp < tot) : SInv (cO S fz sz sp tot) m0F := by
 have hb : badN (cO S fz sz sp tot) m0F = 0 := by
   unfold badN
   rw [List.length_eq_zero_iff, List.filter_eq_nil_iff]
   intro b _
   show ¬ (false = true)
   decide
 have hs : sprN (cO S fz sz sp tot) m0F = sp := by
   unfold sprN
   rw [hb]
   show (if sp < ((0 : Nat) : Int) then ((0 : Nat) : Int) else sp) - ((0 : Nat) : Int) = sp
   split <;> omega
 have hl : (blO tot).length = tot := blO_len _
 have hf : (freeL (cO S fz sz sp tot) m0F).length = tot := by
   rw [freeL_len]
   show ((List.range (blO tot).length).filter _).length = _
   rw [hl]
   rw [List.filter_eq_self.2 (fun b _ => (freeB_iff (c := cO S fz sz sp tot) (m := m0F) (b := b)).2 ⟨by show (b : Int) ≠ -1; omega, nextN_blank _, rfl⟩)]
   simp
 refine ⟨⟨rfl, rfl⟩, ⟨fun r hr => (by cases hr), List.nodup_nil, List.nodup_nil, fun r hr => (by cases hr), fun r hr => (by cases hr)⟩, by rw [hb, hs]; show ((0 : Nat) : Int) + sp = sp; omega, by rw [hb]; exact Int.le_refl _, Int.le_refl _, fun _ => ⟨.inl rfl, by rw [hs, hf]; exact hsp.2⟩, (fun e => by cases e), by decide, (fun x hx => by cases hx)⟩
theorem wf_O {S : NShape} {fz : List Int} {sz sp : Int} {tot : Nat} : Wf (cO S fz sz sp tot) m0F 0 := by
 refine Wf.mk' calmF.cnt ⟨fun i j => ?_, fun i j => ?_, fun i j => ?_⟩ ⟨Int.le_refl _, Int.le_refl _⟩ (by decide) (fun x hx => by cases hx) (by
   show (-1 : Int) ≤ -1 ∧ (-1 : Int) < ((blO tot).length : Int)
   rw [blO_len]
   omega)
 · intro x hx; cases hx
 · exact Nat.zero_le _
 · exact Nat.zero_le _
section
variable {c : SC} (hz : c.zs c.who.toNat = [])
include hz
omit hz in
theorem m_mark (S : NShape) (s : NS) (n : Int) : (markS S s n).M = s.M := by
 unfold markS
 split
 · split <;> rfl
 · rfl
omit hz in
end
end Go.Proofs.YtdnpdoipipfkoaaGreatDoor

namespace Go.Proofs.YtdnpdoipipfkoaaGreatDoor
set_option linter.unusedVariables false
set_option linter.unusedSimpArgs false
set_option linter.unusedVariables false
set_option linter.unusedSimpArgs false
set_option maxRecDepth 100000
open Go.RowKit
theorem on_cases {s : NS} (h : s.off = false) : (spE s.px s.off = 0 ∧ (spendS s).off = false) ∨ (spE s.px s.off = 11 ∧ (spendS s).off = true) := by
 have e1 : (spendS s).off = spG s.px s.off := rfl
 rw [e1, h]
 unfold spE spG
 by_cases hx : s.px = 0
 · rw [hx]
   exact .inr ⟨rfl, rfl⟩
 · refine .inl ⟨?_, ?_⟩
   · rw [if_neg (by decide), if_neg hx]
   · simpa using hx
theorem opS_off (zs : Nat → List Int) (s : NS) (who : Int) : (opS zs s who).off = (spendS s).off := by
 show (drawS zs (spendS s) who).off = (spendS s).off
 unfold drawS
 split <;> rfl
theorem oper_on {zs : Nat → List Int} {s : NS} {who : Int} {sp dn : NS → NS} (h : s.off = false) :
   ((spendS s).off = false ∧ operE zs s who = (if drawB zs s who then 10 else 0) ∧ operS zs s who sp dn = if drawB zs s who then sp (opS zs s who) else dn (opS zs s who)) ∨ ((spendS s).off = true ∧ operE zs s who = 12 ∧ operS zs s who sp dn = sp (spendS s)) := by
 rcases on_cases h with ⟨e1, e2⟩ | ⟨e1, e2⟩
 · refine .inl ⟨e2, ?_, ?_⟩
   · unfold operE; rw [e1, if_pos rfl]
   · unfold operS; rw [e1, if_neg (by decide), if_neg (by decide)]; rfl
 · refine .inr ⟨e2, ?_, ?_⟩
   · unfold operE; rw [e1, if_neg (by decide)]
   · unfold operS; rw [e1, if_neg (by decide), if_pos rfl]
structure PrgG (c : SC) (s : NS) (x pg : Nat) (p : Pg) (e : Int) (s' : NS) : Prop where
 mr : s'.mr = s.mr
 other : ∀ i, i ≠ x → s'.L i = s.L i
 below : ∀ j, j ≠ pg → s'.L x j = s.L x j
 res : (e = 0 ∧ s'.off = false ∧ s'.L x pg = p ∧ s'.M c.who.toNat = s.M c.who.toNat) ∨ (s'.L x pg = { s.L x pg with st := 2 } ∧ ((e = 10 ∧ s'.off = false ∧ s'.M c.who.toNat = s.M c.who.toNat + 1) ∨ (e = 12 ∧ s'.off = true ∧ s'.M c.who.toNat = s.M c.who.toNat)))
theorem prg_on {c : SC} {s : NS} (h : s.off = false) (hw : 0 ≤ c.who ∧ c.who < 4) {b : Int} {x pg : Nat} (hx : c.ph b = x) (hxa : x < c.S.all) (hpg : pg < c.S.pg) (hm : s.mr x = false) (hn : nextN (s.L x) c.S.pg = pg) {te ep pl sq kd : Int} (hok : okB te ep pl sq kd = true) (cp : Bool) (dt : ByteArray) (hd : dt.size ≤ 160) :
   PrgG c s x pg ⟨1, tagBL te ep pl sq kd cp, dt⟩ (prgE c s b pg pl sq kd te ep cp dt) (prgS c s b pg pl sq kd te ep cp dt) := by
 have hl : lackE c.S (x : Int) (pg : Int) = 0 := by unfold lackE hasB; rw [if_pos (by simp; omega), if_pos (by omega)]
 have hlen : (tagBL te ep pl sq kd cp).length = 19 := by unfold tagBL; rw [if_pos hok, frL_len, tagL_len]
 unfold prgE prgS
 rw [if_pos hok, if_pos hok, hx]
 have he : progE c.S c.zs s c.who x pg (tagBL te ep pl sq kd cp).length dt.size = operE c.zs s c.who := by
   unfold progE
   rw [if_pos hl, hlen, if_neg (by omega), Int.toNat_natCast, hm, if_neg (by decide), hn, if_pos rfl]
 have hs : progS c.S c.zs s c.who x pg (tagBL te ep pl sq kd cp) dt = operS c.zs s c.who (tornPg x pg) (turnPg x pg ⟨1, tagBL te ep pl sq kd cp, dt⟩) := by
   unfold progS
   rw [Int.toNat_natCast, Int.toNat_natCast, if_pos ⟨hl, by rw [hlen]; omega, hm, by rw [hn]⟩]
 rw [he, hs]
 rcases oper_on (zs := c.zs) (who := c.who) (sp := tornPg x pg) (dn := turnPg x pg ⟨1, tagBL te ep pl sq kd cp, dt⟩) h with ⟨e2, hE, hS⟩ | ⟨e2, hE, hS⟩
 · rw [hE, hS]
   have hM := opS_M (zs := c.zs) (s := s) hw
   have hL := opS_L c.zs s c.who
   have hmr := opS_mr c.zs s c.who
   have hof := (opS_off c.zs s c.who).trans e2
   cases hd2 : drawB c.zs s c.who
   · rw [hd2] at hM
     simp only [Bool.false_eq_true, if_false] at hM ⊢
     refine ⟨hmr, fun i hi => ?_, fun j hj => ?_, .inl ⟨rfl, hof, ?_, hM⟩⟩
     · simp only [turnPg, hL]; rw [if_neg hi]
     · simp only [turnPg, hL]; rw [if_pos trivial, if_neg hj]
     · simp only [turnPg]; rw [if_pos trivial, if_pos rfl]
   · rw [hd2] at hM
     simp only [if_true] at hM ⊢
     refine ⟨hmr, fun i hi => ?_, fun j hj => ?_, .inr ⟨?_, .inl ⟨rfl, hof, hM⟩⟩⟩
     · simp only [tornPg, turnPg, hL]; rw [if_neg hi]
     · simp only [tornPg, turnPg, hL]; rw [if_pos trivial, if_neg hj]
     · simp only [tornPg, turnPg, hL]; rw [if_pos trivial, if_pos rfl]
 · rw [hE, hS]
   refine ⟨rfl, fun i hi => ?_, fun j hj => ?_, .inr ⟨?_, .inr ⟨rfl, e2, rfl⟩⟩⟩
   · simp only [tornPg, turnPg, spendS]; rw [if_neg hi]
   · simp only [tornPg, turnPg, spendS]; rw [if_pos trivial, if_neg hj]
   · simp only [tornPg, turnPg, spendS]; rw [if_pos trivial, if_pos rfl]
structure ErsG (c : SC) (s : NS) (x : Nat) (e : Int) (s' : NS) : Prop where
 mr : s'.mr = s.mr
 other : ∀ i, i ≠ x → s'.L i = s.L i
 res : (e = 0 ∧ s'.off = false ∧ (∀ j, j < c.S.pg → s'.L x j = Pg.none 0) ∧ s'.M c.who.toNat = s.M c.who.toNat) ∨ ((∀ j, j < c.S.pg → s'.L x j = Pg.none 2) ∧ ((e = 10 ∧ s'.off = false ∧ s'.M c.who.toNat = s.M c.who.toNat + 1) ∨ (e = 12 ∧ s'.off = true ∧ s'.M c.who.toNat = s.M c.who.toNat)))
theorem ers_on {c : SC} {s : NS} (h : s.off = false) (hw : 0 ≤ c.who ∧ c.who < 4) {x : Nat} (hxa : x < c.S.all) (hm : s.mr x = false) : ErsG c s x (ersE c.S c.zs s c.who x) (ersS c.S c.zs s c.who x) := by
 have hb : hasB c.S (x : Int) = true := by unfold hasB; simp; omega
 have he : ersE c.S c.zs s c.who x = operE c.zs s c.who := by unfold ersE; rw [hb, if_pos rfl, Int.toNat_natCast, hm, if_neg (by decide)]
 have hs : ersS c.S c.zs s c.who x = operS c.zs s c.who (fillPg x c.S.pg 2) (eraseS x c.S.pg) := by unfold ersS; rw [hb, Int.toNat_natCast, hm, if_pos (by decide)]
 rw [he, hs]
 rcases oper_on (zs := c.zs) (who := c.who) (sp := fillPg x c.S.pg 2) (dn := eraseS x c.S.pg) h with ⟨e2, hE, hS⟩ | ⟨e2, hE, hS⟩
 · rw [hE, hS]
   have hM := opS_M (zs := c.zs) (s := s) hw
   have hL := opS_L c.zs s c.who
   have hmr := opS_mr c.zs s c.who
   have hof := (opS_off c.zs s c.who).trans e2
   cases hd2 : drawB c.zs s c.who
   · rw [hd2] at hM
     simp only [Bool.false_eq_true, if_false] at hM ⊢
     refine ⟨hmr, fun i hi => ?_, .inl ⟨rfl, hof, fun j hj => ?_, hM⟩⟩
     · show (fillTo x c.S.pg 0 (opS c.zs s c.who)).L i = _
       simp only [fillTo, hL]; rw [if_neg hi]
     · show (fillTo x c.S.pg 0 (opS c.zs s c.who)).L x j = _
       simp only [fillTo]; rw [if_pos trivial, if_pos hj]
   · rw [hd2] at hM
     simp only [if_true] at hM ⊢
     refine ⟨hmr, fun i hi => ?_, .inr ⟨fun j hj => ?_, .inl ⟨rfl, hof, hM⟩⟩⟩
     · show (fillTo x c.S.pg 2 (opS c.zs s c.who)).L i = _
       simp only [fillTo, hL]; rw [if_neg hi]
     · show (fillTo x c.S.pg 2 (opS c.zs s c.who)).L x j = _
       simp only [fillTo]; rw [if_pos trivial, if_pos hj]
 · rw [hE, hS]
   refine ⟨rfl, fun i hi => ?_, .inr ⟨fun j hj => ?_, .inr ⟨rfl, e2, rfl⟩⟩⟩
   · show (fillTo x c.S.pg 2 (spendS s)).L i = _
     simp only [fillTo]; rw [if_neg hi]; rfl
   · show (fillTo x c.S.pg 2 (spendS s)).L x j = _
     simp only [fillTo]; rw [if_pos trivial, if_pos hj]
theorem mark_on {S : NShape} {s : NS} (h : s.off = false) {x : Nat} (hxa : x < S.all) (h2 : 2 ≤ x) : (markS S s x).L = s.L ∧ (markS S s x).M = s.M ∧ ((markE S s x = 0 ∧ (markS S s x).off = false ∧ (markS S s x).mr = fun i => if i = x then true else s.mr i) ∨ (markE S s x = 12 ∧ (markS S s x).off = true ∧ (markS S s x).mr = s.mr)) := by
 have hb : hasB S (x : Int) = true := by unfold hasB; simp; omega
 have hE : markE S s x = if spE s.px s.off = 0 then 0 else 12 := by unfold markE; rw [hb, if_pos rfl, if_neg (by omega)]
 have hS : markS S s x = if spE s.px s.off = 0 then { spendS s with mr := fun i => if i = x then true else s.mr i } else spendS s := by
   unfold markS
   rw [hb, if_pos (by simp; omega)]
   simp only [Int.toNat_natCast]
 rw [hE, hS]
 rcases on_cases h with ⟨e1, e2⟩ | ⟨e1, e2⟩
 · rw [e1, if_pos rfl, if_pos rfl]
   exact ⟨rfl, rfl, .inl ⟨rfl, e2, rfl⟩⟩
 · rw [e1, if_neg (by decide), if_neg (by decide)]
   exact ⟨rfl, rfl, .inr ⟨rfl, e2, rfl⟩⟩
end Go.Proofs.YtdnpdoipipfkoaaGreatDoor

namespace Go.Proofs.YtdnpdoipipfkoaaGreatDoor
set_option linter.unusedVariables false
set_option linter.unusedSimpArgs false
set_option linter.unusedVariables false
set_option linter.unusedSimpArgs false
set_option maxRecDepth 100000
open Go.RowKit
theorem tag_inj {te ep pl sq kd te' ep' pl' sq' kd' : Int} {cp cp' : Bool} (h1 : okB te ep pl sq kd = true) (h2 : okB te' ep' pl' sq' kd' = true) (h : tagBL te ep pl sq kd cp = tagBL te' ep' pl' sq' kd' cp') : te = te' ∧ ep = ep' ∧ pl = pl' ∧ sq = sq' ∧ kd = kd' ∧ cp = cp' := by
 obtain ⟨_, p1, p2, p3, p4, p5, p6⟩ := ps_back (p := cp) h1
 obtain ⟨_, q1, q2, q3, q4, q5, q6⟩ := ps_back (p := cp') h2
 unfold tagBL at h
 rw [if_pos h1, if_pos h2] at h
 rw [h] at p1 p2 p3 p4 p5 p6
 exact ⟨p1.symm.trans q1, p2.symm.trans q2, p3.symm.trans q3, p4.symm.trans q4, p5.symm.trans q5, p6.symm.trans q6⟩
theorem pgis_eq {c : SC} {s : NS} {b pg : Int} {f g : Fnd} (hf : PgIs c s b pg f) (hg : PgIs c s b pg g) : f = g := by
 have h := hf.is.symm.trans hg.is
 simp only [Pg.mk.injEq, true_and] at h
 obtain ⟨h1, h2, h3, h4, h5, h6⟩ := tag_inj hf.ok.1 hg.ok.1 h.1
 obtain ⟨a1, a2, a3, a4, a5, a6, a7, a8, a9, a10⟩ := f
 obtain ⟨b1, b2, b3, b4, b5, b6, b7, b8, b9, b10⟩ := g
 have e1 := hf.bk.trans hg.bk.symm
 have e2 := hf.at'.trans hg.at'.symm
 have e3 := hf.torn.trans hg.torn.symm
 simp only at h1 h2 h3 h4 h5 h6 e1 e2 e3 h
 rw [e1, e2, e3, h1, h2, h3, h4, h5, h6, h.2]
structure Own (c : SC) (n : NS) (b j : Nat) (f : Fnd) : Prop where
 bl : b < c.bl.length
 mr : n.mr (c.ph b).toNat = false
 pg : j < c.S.pg
 is : PgIs c n b j f
 te : f.te = c.who
 ep : f.ep = c.ep
 pl : 0 ≤ f.pl ∧ f.pl < c.sz
structure Wr (c : SC) (n : NS) (rs : List R14) (sq : Int) : Prop where
 R : RsOk c n rs
 pg : ∀ b j : Nat, b < c.bl.length → n.mr (c.ph b).toNat = false → j < c.S.pg → (n.L (c.ph b).toNat j).st = 0 ∨ (n.L (c.ph b).toNat j).st = 2 ∨ ∃ f, Own c n b j f
 top : ∀ b j f, Own c n b j f → f.sq < sq ∧ ∃ r ∈ rs, r.pl = f.pl ∧ ∃ g, PgIs c n r.bk r.pg g ∧ f.sq ≤ g.sq
 tw : ∀ b j f b' j' f', Own c n b j f → Own c n b' j' f' → f.sq = f'.sq → f.pl = f'.pl ∧ f.kd = f'.kd ∧ f.dt = f'.dt
section
variable {c : SC} {n n' : NS} {rs rs' : List R14} {sq : Int}
theorem Wr.row (W : Wr c n rs sq) {r : R14} (hr : r ∈ rs) : ∃ f, Own c n r.bk.toNat r.pg.toNat f ∧ PgIs c n r.bk r.pg f ∧ f.pl = r.pl := by
 obtain ⟨f, hf, hp⟩ := W.R.pg r hr
 have hk := W.R.ok r hr
 have hm := W.R.mr r hr
 have e1 : ((r.bk.toNat : Nat) : Int) = r.bk := by omega
 have e2 : ((r.pg.toNat : Nat) : Int) = r.pg := by omega
 rcases W.pg r.bk.toNat r.pg.toNat (by omega) (by rw [e1]; exact hm) (by omega) with h | h | ⟨g, hg⟩
 · rw [e1, hf.is] at h; cases h
 · rw [e1, hf.is] at h; cases h
 · have hgi := hg.is
   rw [e1, e2] at hgi
   obtain rfl := pgis_eq hf hgi
   exact ⟨f, hg, hf, hp⟩
theorem Wr.less (W : Wr c n rs sq) (hL : ∀ b j : Nat, b < c.bl.length → n'.mr (c.ph b).toNat = false → j < c.S.pg → n.mr (c.ph b).toNat = false ∧ (n'.L (c.ph b).toNat j = n.L (c.ph b).toNat j ∨ (n'.L (c.ph b).toNat j).st = 0 ∨ (n'.L (c.ph b).toNat j).st = 2))
   (hr : ∀ r ∈ rs, n'.mr (c.ph r.bk).toNat = n.mr (c.ph r.bk).toNat ∧ n'.L (c.ph r.bk).toNat r.pg.toNat = n.L (c.ph r.bk).toNat r.pg.toNat) : Wr c n' rs sq := by
 have back : ∀ b j f, Own c n' b j f → Own c n b j f := fun b j f h => by
   obtain ⟨h1, h2⟩ := hL b j h.bl h.mr h.pg
   refine ⟨h.bl, h1, h.pg, ⟨h.is.bk, h.is.at', h.is.torn, h.is.ok, ?_⟩, h.te, h.ep, h.pl⟩
   have hi := h.is.is
   rw [Int.toNat_natCast] at hi ⊢
   rcases h2 with h2 | h2 | h2
   · rw [← h2]; exact hi
   · rw [hi] at h2; cases h2
   · rw [hi] at h2; cases h2
 have keep : ∀ r ∈ rs, ∀ g, PgIs c n r.bk r.pg g → PgIs c n' r.bk r.pg g := fun r h g hg => ⟨hg.bk, hg.at', hg.torn, hg.ok, by rw [(hr r h).2]; exact hg.is⟩
 refine ⟨⟨W.R.ok, W.R.pls, W.R.pgs, fun r h => (hr r h).1.trans (W.R.mr r h), fun r h => ?_⟩, fun b j hb hm hj => ?_, fun b j f h => ?_, fun b j f b' j' f' h h' => W.tw b j f b' j' f' (back _ _ _ h) (back _ _ _ h')⟩
 · obtain ⟨f, h1, h2⟩ := W.R.pg r h
   exact ⟨f, keep r h f h1, h2⟩
 · obtain ⟨h1, h2⟩ := hL b j hb hm hj
   rcases h2 with h2 | h2 | h2
   · rcases W.pg b j hb h1 hj with h3 | h3 | ⟨f, h3⟩
     · exact .inl (by rw [h2]; exact h3)
     · exact .inr (.inl (by rw [h2]; exact h3))
     · refine .inr (.inr ⟨f, hb, hm, hj, ⟨h3.is.bk, h3.is.at', h3.is.torn, h3.is.ok, ?_⟩, h3.te, h3.ep, h3.pl⟩)
       have hi := h3.is.is
       rw [Int.toNat_natCast] at hi ⊢
       rw [h2]; exact hi
   · exact .inl h2
   · exact .inr (.inl h2)
 · obtain ⟨h1, r, h2, h3, g, h4, h5⟩ := W.top b j f (back _ _ _ h)
   exact ⟨h1, r, h2, h3, g, keep r h2 g h4, h5⟩
theorem Wr.rows (W : Wr c n rs sq) (R' : RsOk c n rs') (h : ∀ r ∈ rs, ∀ g, PgIs c n r.bk r.pg g → ∃ r' ∈ rs', r'.pl = r.pl ∧ ∃ g', PgIs c n r'.bk r'.pg g' ∧ g.sq ≤ g'.sq) : Wr c n rs' sq :=
 ⟨R', W.pg, fun b j f hf => by
   obtain ⟨h1, r, h2, h3, g, h4, h5⟩ := W.top b j f hf
   obtain ⟨r', a1, a2, g', a3, a4⟩ := h r h2 g h4
   exact ⟨h1, r', a1, a2.trans h3, g', a3, Int.le_trans h5 a4⟩, W.tw⟩
end
end Go.Proofs.YtdnpdoipipfkoaaGreatDoor

namespace Go.Proofs.YtdnpdoipipfkoaaGreatDoor
set_option linter.unusedVariables false
set_option linter.unusedSimpArgs false
set_option linter.unusedVariables false
set_option linter.unusedSimpArgs false
set_option maxRecDepth 100000
open Go.RowKit
structure CpyG (c : SC) (s : NS) (x i : Nat) (row : List Fnd) (e : Int) (s' : NS) : Prop where
 mr : s'.mr = s.mr
 other : ∀ b, b ≠ x → s'.L b = s.L b
 below : ∀ j, j < i → s'.L x j = s.L x j
 pgs : ∀ j, i ≤ j → j < c.S.pg → (s'.L x j).st = 0 ∨ (s'.L x j).st = 2 ∨ ∃ f ∈ row, s'.L x j = cpyPg f
 res : (e = 0 ∧ s'.off = false ∧ (∀ k (hk : k < row.length), s'.L x (i + k) = cpyPg row[k]) ∧ s'.M c.who.toNat = s.M c.who.toNat ∧ nextN (s'.L x) c.S.pg = i + row.length) ∨ (i < nextN (s'.L x) c.S.pg ∧ ((e = 10 ∧ s'.off = false ∧ s'.M c.who.toNat = s.M c.who.toNat + 1) ∨ (e = 12 ∧ s'.off = true ∧ s'.M c.who.toNat = s.M c.who.toNat)))
theorem PrgG.next {c : SC} {s s' : NS} {x pg : Nat} {p : Pg} {e : Int} (h : PrgG c s x pg p e s') (hp : p.st ≠ 0) (hn : nextN (s.L x) c.S.pg = pg) (hpg : pg < c.S.pg) : nextN (s'.L x) c.S.pg = pg + 1 := by
 refine nextN_eq hpg ?_ (fun j a b => ?_)
 · rcases h.res with ⟨_, _, h1, _⟩ | ⟨h1, _⟩
   · rw [h1]; exact hp
   · rw [h1]; exact fun e => by cases e
 · rw [h.below j (by omega)]
   exact nextN_above (n := c.S.pg) (by omega) b
theorem copy_on {c : SC} (hw : 0 ≤ c.who ∧ c.who < 4) {b : Int} {x : Nat} (hx : c.ph b = x) (hxa : x < c.S.all) : ∀ (row : List Fnd) (i : Nat) (s : NS), s.off = false → s.mr x = false → i + row.length ≤ c.S.pg → nextN (s.L x) c.S.pg = i → (∀ f ∈ row, FndOk f) → CpyG c s x i row (copyR c b row i s).1 (copyR c b row i s).2
 | [], i, s, h, hm, hi, hn, ha => ⟨rfl, fun _ _ => rfl, fun _ _ => rfl, fun j hj hp => .inl (nextN_above (n := c.S.pg) (f := s.L x) (by omega) hp), .inl ⟨rfl, h, fun k hk => absurd hk (by simp), rfl, by simpa [copyR] using hn⟩⟩
 | f :: l, i, s, h, hm, hi, hn, ha => by
   obtain ⟨hok, hd⟩ := ha f (by simp)
   have hi' : i + 1 + l.length ≤ c.S.pg := by simp only [List.length_cons] at hi; omega
   have P := prg_on (b := b) h hw hx hxa (by omega) hm hn hok true f.dt hd
   simp only [copyR]
   generalize prgE c s b (i : Int) f.pl f.sq f.kd f.te f.ep true f.dt = e1 at *
   generalize prgS c s b (i : Int) f.pl f.sq f.kd f.te f.ep true f.dt = s1 at *
   have hnx := P.next (by show (1 : Int) ≠ 0; decide) hn (by omega)
   have habove : ∀ j, i < j → j < c.S.pg → (s1.L x j).st = 0 := fun j hj hp => nextN_above (n := c.S.pg) (f := s1.L x) (by omega) hp
   rcases P.res with ⟨h0, ho, h1, h2⟩ | ⟨h1, h0⟩
   · rw [if_pos h0]
     have Q := copy_on hw hx hxa l (i + 1) s1 ho (by rw [P.mr]; exact hm) hi' hnx (fun g hg => ha g (by simp [hg]))
     refine ⟨Q.mr.trans P.mr, fun a hb => (Q.other a hb).trans (P.other a hb), fun j hj => (Q.below j (by omega)).trans (P.below j (by omega)), fun j hj hp => ?_, ?_⟩
     · by_cases e : j = i
       · subst e
         exact .inr (.inr ⟨f, by simp, (Q.below j (by omega)).trans h1⟩)
       · rcases Q.pgs j (by omega) hp with a | a | ⟨g, hg, a⟩
         · exact .inl a
         · exact .inr (.inl a)
         · exact .inr (.inr ⟨g, by simp [hg], a⟩)
     · rcases Q.res with ⟨a0, ao, a1, a2, a3⟩ | ⟨a3, a0⟩
       · refine .inl ⟨a0, ao, fun k hk => ?_, a2.trans h2, by rw [a3]; simp only [List.length_cons]; omega⟩
         cases k with
         | zero => exact (Q.below i (by omega)).trans h1
         | succ k =>
           rw [show i + (k + 1) = i + 1 + k by omega]
           exact a1 k (by simp only [List.length_cons] at hk; omega)
       · exact .inr ⟨by omega, by rw [h2] at a0; exact a0⟩
   · have hne : e1 ≠ 0 := by rcases h0 with ⟨a, _⟩ | ⟨a, _⟩ <;> rw [a] <;> decide
     rw [if_neg hne]
     refine ⟨P.mr, P.other, fun j hj => P.below j (by omega), fun j hj hp => ?_, .inr ⟨by show i < nextN (s1.L x) c.S.pg; omega, h0⟩⟩
     by_cases e : j = i
     · subst e
       exact .inr (.inl (by rw [h1]))
     · exact .inl (habove j (by omega) hp)
section
variable {c : SC} {n n' : NS} {rs : List R14} {sq : Int}
theorem Wr.via (W : Wr c n rs sq) (hback : ∀ b j g, Own c n' b j g → ∃ b0 j0 g0, Own c n b0 j0 g0 ∧ g0.sq = g.sq ∧ g0.pl = g.pl ∧ g0.kd = g.kd ∧ g0.dt = g.dt)
   (hpg : ∀ b j : Nat, b < c.bl.length → n'.mr (c.ph b).toNat = false → j < c.S.pg → (n'.L (c.ph b).toNat j).st = 0 ∨ (n'.L (c.ph b).toNat j).st = 2 ∨ ∃ f, Own c n' b j f)
   (hr : ∀ r ∈ rs, n'.mr (c.ph r.bk).toNat = n.mr (c.ph r.bk).toNat ∧ n'.L (c.ph r.bk).toNat r.pg.toNat = n.L (c.ph r.bk).toNat r.pg.toNat) : Wr c n' rs sq := by
 have keep : ∀ r ∈ rs, ∀ g, PgIs c n r.bk r.pg g → PgIs c n' r.bk r.pg g := fun r h g hg => ⟨hg.bk, hg.at', hg.torn, hg.ok, by rw [(hr r h).2]; exact hg.is⟩
 refine ⟨⟨W.R.ok, W.R.pls, W.R.pgs, fun r h => (hr r h).1.trans (W.R.mr r h), fun r h => ?_⟩, hpg, fun b j f h => ?_, fun b j f b' j' f' h h' e => ?_⟩
 · obtain ⟨f, h1, h2⟩ := W.R.pg r h
   exact ⟨f, keep r h f h1, h2⟩
 · obtain ⟨b0, j0, g0, h0, e1, e2, _⟩ := hback b j f h
   obtain ⟨h1, r, h2, h3, g, h4, h5⟩ := W.top b0 j0 g0 h0
   exact ⟨by omega, r, h2, by omega, g, keep r h2 g h4, by omega⟩
 · obtain ⟨b0, j0, g0, h0, e1, e2, e3, e4⟩ := hback b j f h
   obtain ⟨b1, j1, g1, h1, k1, k2, k3, k4⟩ := hback b' j' f' h'
   obtain ⟨a1, a2, a3⟩ := W.tw _ _ _ _ _ _ h0 h1 (by omega)
   exact ⟨by omega, by omega, by rw [← e4, ← k4]; exact a3⟩
theorem Wr.copy (W : Wr c n rs sq) (hB : BlOk c) (hN : c.bl.Nodup) {b : Int} {k : Nat} {row : List Fnd} (N : NeedP c n rs b k row) {t : Nat} (ht : t < c.bl.length) (h0 : nextN (n.L (c.ph t).toNat) c.S.pg = 0) {e : Int} (Q : CpyG c n (c.ph t).toNat 0 row e n') : Wr c n' rs sq := by
 have hno := blank_no W.R (tg := (t : Int)) h0
 have hO := other_L W.R hB hN (tg := (t : Int)) (by omega) Q.other
 have hf : ∀ f ∈ row, ∃ b0 j0, Own c n b0 j0 f := fun f hf => by
   obtain ⟨r, h1, h2, h3, h4, h5, h6⟩ := N.is f hf
   obtain ⟨g, a1, a2, a3⟩ := W.row h1
   obtain rfl := pgis_eq h6 a2
   exact ⟨_, _, a1⟩
 refine W.via (fun b1 j g hg => ?_) (fun b1 j hb hm hj => ?_) (fun r hr => ⟨by rw [Q.mr], by rw [hO r hr (hno r hr)]⟩)
 · by_cases e1 : b1 = t
   · subst e1
     rcases Q.pgs j (by omega) hg.pg with a | a | ⟨f, a1, a2⟩
     · have := hg.is.is
       rw [Int.toNat_natCast] at this
       rw [this] at a; cases a
     · have := hg.is.is
       rw [Int.toNat_natCast] at this
       rw [this] at a; cases a
     · obtain ⟨b0, j0, h1⟩ := hf f a1
       have h2 := hg.is.is
       rw [Int.toNat_natCast, a2] at h2
       unfold cpyPg at h2
       simp only [Pg.mk.injEq, true_and] at h2
       obtain ⟨_, _, c3, c4, c5, _⟩ := tag_inj h1.is.ok.1 hg.is.ok.1 h2.1
       exact ⟨b0, j0, f, h1, c4, c3, c5, h2.2⟩
   · have e2 := Q.other _ (ph_ne hB hN ht hg.bl e1)
     exact ⟨b1, j, g, ⟨hg.bl, by rw [← Q.mr]; exact hg.mr, hg.pg, hg.is.keep e2.symm, hg.te, hg.ep, hg.pl⟩, rfl, rfl, rfl, rfl⟩
 · by_cases e1 : b1 = t
   · subst e1
     rcases Q.pgs j (by omega) hj with a | a | ⟨f, a1, a2⟩
     · exact .inl a
     · exact .inr (.inl a)
     · obtain ⟨b0, j0, h1⟩ := hf f a1
       exact .inr (.inr ⟨{ f with bk := (b1 : Int), pg := (j : Int), torn := false, cp := true }, hb, hm, hj, ⟨rfl, rfl, rfl, h1.is.ok, by rw [Int.toNat_natCast]; exact a2⟩, h1.te, h1.ep, h1.pl⟩)
   · have e2 := Q.other _ (ph_ne hB hN ht hb e1)
     rcases W.pg b1 j hb (by rw [← Q.mr]; exact hm) hj with a | a | ⟨f, a⟩
     · exact .inl (by rw [e2]; exact a)
     · exact .inr (.inl (by rw [e2]; exact a))
     · exact .inr (.inr ⟨f, hb, hm, hj, a.is.keep e2, a.te, a.ep, a.pl⟩)
theorem Wr.lose (W : Wr c n rs sq) (hB : BlOk c) (hN : c.bl.Nodup) {t : Nat} (ht : t < c.bl.length) (hno : ∀ r ∈ rs, r.bk ≠ t) (hO : ∀ x, x ≠ (c.ph t).toNat → n'.L x = n.L x) (hM : ∀ x, x ≠ (c.ph t).toNat → n'.mr x = n.mr x)
   (hx : n'.mr (c.ph t).toNat = false → n.mr (c.ph t).toNat = false ∧ ∀ j, j < c.S.pg → n'.L (c.ph t).toNat j = n.L (c.ph t).toNat j ∨ (n'.L (c.ph t).toNat j).st = 0 ∨ (n'.L (c.ph t).toNat j).st = 2) : Wr c n' rs sq := by
 refine W.less (fun b j hb hm hj => ?_) (fun r hr => ?_)
 · by_cases e : b = t
   · subst e
     obtain ⟨h1, h2⟩ := hx hm
     exact ⟨h1, h2 j hj⟩
   · have hne := ph_ne hB hN ht hb e
     exact ⟨by rw [← hM _ hne]; exact hm, .inl (by rw [hO _ hne])⟩
 · have hk := W.R.ok r hr
   have hne := ph_ne hB hN ht (b := r.bk.toNat) (by omega) (fun e => hno r hr (by omega))
   rw [show ((r.bk.toNat : Nat) : Int) = r.bk by omega] at hne
   exact ⟨hM _ hne, by rw [hO _ hne]⟩
end
end Go.Proofs.YtdnpdoipipfkoaaGreatDoor

namespace Go.Proofs.YtdnpdoipipfkoaaGreatDoor
set_option linter.unusedVariables false
set_option linter.unusedSimpArgs false
set_option linter.unusedVariables false
set_option linter.unusedSimpArgs false
set_option maxRecDepth 100000
open Go.RowKit
def nbB (c : SC) (n : NS) (b : Nat) : Bool := !n.mr (c.ph b).toNat && !decide (nextN (n.L (c.ph b).toNat) c.S.pg = 0)
def NBn (c : SC) (n : NS) : Nat := ((List.range c.bl.length).filter (nbB c n)).length
theorem nbB_iff {c : SC} {n : NS} {b : Nat} : nbB c n b = true ↔ n.mr (c.ph b).toNat = false ∧ nextN (n.L (c.ph b).toNat) c.S.pg ≠ 0 := by
 unfold nbB
 simp
def Kp (c : SC) (n : NS) (rs : List R14) (N : Int) : Prop := (NBn c n : Int) ≤ N ∨ ((NBn c n : Int) ≤ N + 1 ∧ ∃ t : Nat, t < c.bl.length ∧ nbB c n t = true ∧ ∀ r ∈ rs, r.bk ≠ t)
structure OneN (c : SC) (t : Nat) (n n' : NS) : Prop where
 L : ∀ x, x ≠ (c.ph t).toNat → n'.L x = n.L x
 mr : ∀ x, x ≠ (c.ph t).toNat → n'.mr x = n.mr x
section
variable {c : SC} {t : Nat} {n n' : NS}
theorem OneN.nb (h : OneN c t n n') (hB : BlOk c) (hN : c.bl.Nodup) (ht : t < c.bl.length) {b : Nat} (hb : b < c.bl.length) (hne : b ≠ t) : nbB c n' b = nbB c n b := by
 have e := ph_ne hB hN ht hb hne
 unfold nbB
 rw [h.L _ e, h.mr _ e]
theorem OneN.same (h : OneN c t n n') (hB : BlOk c) (hN : c.bl.Nodup) (ht : t < c.bl.length) (e : nbB c n' t = nbB c n t) : NBn c n' = NBn c n :=
 filter_same (fun x hx => by
   by_cases a : x = t
   · rw [a]; exact e
   · exact h.nb hB hN ht hx a)
theorem OneN.more (h : OneN c t n n') (hB : BlOk c) (hN : c.bl.Nodup) (ht : t < c.bl.length) : NBn c n' ≤ NBn c n + 1 := by
 have := filter_less (t := t) (p := nbB c n') (q := nbB c n) (n := c.bl.length) (fun x hx hne hp => by rw [← h.nb hB hN ht hx hne]; exact hp)
 rw [if_pos ht] at this
 exact this
theorem OneN.drop (h : OneN c t n n') (hB : BlOk c) (hN : c.bl.Nodup) (ht : t < c.bl.length) (e0 : nbB c n t = true) (e : nbB c n' t = false) : NBn c n' + 1 = NBn c n :=
 filter_one e0 e ht (fun x hx hne => h.nb hB hN ht hx hne)
end
structure MvG (c : SC) (b : Nat) (row : List Fnd) (spoken : Int) (m : SM) (e : Int) (m' : SM) : Prop where
 W : Wr c m'.n m'.rs m.sq
 hold : ∀ q k d, Hold c m.n m.rs q k d → Hold c m'.n m'.rs q k d
 back : ∀ r ∈ m'.rs, ∃ r0 ∈ m.rs, r0.pl = r.pl
 q : m'.q = m.q
 sq : m'.sq = m.sq
 stay : ∀ x, x < c.bl.length → (x : Int) ∉ freeL c m → m'.n.L (c.ph x).toNat = m.n.L (c.ph x).toNat ∧ m'.n.mr (c.ph x).toNat = m.n.mr (c.ph x).toNat
 low : spoken ≤ sprN c m → spoken ≤ sprN c m'
 nb : NBn c m'.n ≤ NBn c m.n + 1
 res : ∃ d : Nat, badN c m' = badN c m + d ∧ sprN c m' + d = sprN c m ∧
   ((e = 0 ∧ m'.n.off = false ∧ m'.ro = m.ro ∧ (∀ r ∈ m'.rs, r.bk ≠ b) ∧ (∃ t : Nat, m'.fr = t ∧ t < c.bl.length ∧ (t : Int) ∈ freeL c m ∧ badB c m' t = false ∧ nextB c m' t = row.length) ∧ m'.n.M c.who.toNat = m.n.M c.who.toNat + d ∧ (freeL c m).length ≤ (freeL c m').length + 1 + d)
     ∨ (Kp c m'.n m'.rs (NBn c m.n) ∧ m'.fr = m.fr ∧ m'.rs = m.rs ∧ ((e = 13 ∧ m'.n.off = false ∧ m'.ro = true ∧ m'.n.M c.who.toNat = m.n.M c.who.toNat + d + 1 ∧ c.sp ≤ badN c m' + spoken) ∨ (e = 12 ∧ m'.n.off = true ∧ m'.ro = m.ro ∧ m.n.M c.who.toNat + d ≤ m'.n.M c.who.toNat))))
theorem setl_sq {c : SC} (hsz : c.sz ≤ 64) (hB : BlOk c) (hN : c.bl.Nodup) {s s' : NS} {rs : List R14} {sq : Int} (W : Wr c s rs sq) (hs' : s'.off = false) {b tg : Int} {row : List Fnd} (N : NeedP c s rs b c.S.pg row) (ht : 0 ≤ tg ∧ tg < c.bl.length) (hb : b ≠ tg) (h0 : nextN (s.L (c.ph tg).toNat) c.S.pg = 0) (hm : s.mr (c.ph tg).toNat = false) (hl : row.length ≤ c.S.pg) {e : Int}
   (Q : CpyG c s (c.ph tg).toNat 0 row e s') (he : e = 0) (W' : Wr c s' rs sq) : (setlR c tg row 0 rs).1 = 0 ∧ Wr c s' (setlR c tg row 0 rs).2 sq ∧ (∀ r ∈ (setlR c tg row 0 rs).2, r.bk ≠ b) ∧ (∀ q k d, Hold c s rs q k d → Hold c s' (setlR c tg row 0 rs).2 q k d) ∧ ∀ r ∈ (setlR c tg row 0 rs).2, ∃ r0 ∈ rs, r0.pl = r.pl := by
 have R := W.R
 have hno := blank_no R h0
 have hO := other_L R hB hN ht Q.other
 obtain ⟨q0, q1, q2⟩ := setl_is hsz ht hb row 0 rs R.b (by omega) (fun r hr h => absurd h (hno r hr)) (fun f hf => by
   obtain ⟨r, h1, h2, _, h4, h5, h6⟩ := N.is f hf
   exact ⟨h6.bk.trans h2, r, h1, h2, h5, h4⟩) (need_pls R N)
 have hpg : ∀ k f, row[k]? = some f → s'.L (c.ph tg).toNat k = cpyPg f := by
   intro k f hk
   obtain ⟨hlt, rfl⟩ := List.getElem?_eq_some_iff.1 hk
   rcases Q.res with ⟨_, _, h1, _⟩ | ⟨_, ⟨h1, _⟩ | ⟨h1, _⟩⟩
   · have := h1 k hlt
     rwa [Nat.zero_add] at this
   · rw [h1] at he; cases he
   · rw [h1] at he; cases he
 have hcp : ∀ (k : Nat) f, row[k]? = some f → PgIs c s' tg ((0 + k : Nat) : Int) { f with bk := tg, pg := ((0 + k : Nat) : Int), torn := false, cp := true } := by
   intro k f hk
   obtain ⟨r, _, _, _, _, _, h6⟩ := N.is f (List.mem_of_getElem? hk)
   refine ⟨rfl, rfl, rfl, h6.ok, ?_⟩
   rw [Int.toNat_natCast, Nat.zero_add, hpg k f hk]
   rfl
 -- a row's page, or its copy
 have hto : ∀ r ∈ rs, ∀ f, PgIs c s r.bk r.pg f → ∃ r' ∈ (setlR c tg row 0 rs).2, r'.pl = r.pl ∧ ∃ f', PgIs c s' r'.bk r'.pg f' ∧ f'.pl = f.pl ∧ f'.sq = f.sq ∧ f'.kd = f.kd ∧ f'.dt = f.dt := by
   intro r hr f h2
   by_cases hrb : r.bk = b
   · have hk := R.ok r hr
     obtain ⟨g, hg, hgp⟩ := N.all r hr hrb (by omega)
     obtain ⟨r2, a1, a2, _, a4, a5, a6⟩ := N.is g hg
     obtain rfl := nodup_inj R.pgs hr a1 (by show (r.bk, r.pg) = (r2.bk, r2.pg); rw [hrb, a2, a5, hgp])
     obtain rfl := pgis_eq h2 a6
     obtain ⟨j, hj⟩ := List.getElem?_of_mem hg
     exact ⟨⟨f.pl, tg, ((0 + j : Nat) : Int)⟩, (q2 _).2 (.inr ⟨j, f, hj, rfl⟩), a4.symm, _, hcp j f hj, rfl, rfl, rfl, rfl⟩
   · refine ⟨r, (q2 r).2 (.inl ⟨hr, fun g hg e => ?_⟩), rfl, f, h2.keep (hO r hr (hno r hr)), rfl, rfl, rfl, rfl⟩
     obtain ⟨r2, a1, a2, _, a4, _⟩ := N.is g hg
     obtain rfl := nodup_inj R.pls hr a1 (by show r.pl = r2.pl; rw [a4]; exact e)
     exact hrb a2
 have hR' : RsOk c s' (setlR c tg row 0 rs).2 := by
   refine ⟨q1.ok, q1.pls, q1.pgs, fun r hr => ?_, fun r hr => ?_⟩
   · rw [Q.mr]
     rcases (q2 r).1 hr with ⟨h1, _⟩ | ⟨k, f, _, rfl⟩
     · exact R.mr r h1
     · exact hm
   · rcases (q2 r).1 hr with ⟨h1, _⟩ | ⟨k, f, hk, rfl⟩
     · obtain ⟨f, hf, hfl⟩ := R.pg r h1
       exact ⟨f, hf.keep (hO r h1 (hno r h1)), hfl⟩
     · exact ⟨_, hcp k f hk, rfl⟩
 refine ⟨q0, W'.rows hR' (fun r hr g hg => ?_), fun r hr => ?_, fun q k d hd => ?_, fun r hr => ?_⟩
 · obtain ⟨f, hf, _⟩ := R.pg r hr
   have hf' := hf.keep (hO r hr (hno r hr))
   obtain rfl := pgis_eq hg hf'
   obtain ⟨r', a1, a2, f', a3, _, a5, _⟩ := hto r hr _ hf
   exact ⟨r', a1, a2, f', a3, by omega⟩
 · rcases (q2 r).1 hr with ⟨h1, h2⟩ | ⟨k, f, hk, rfl⟩
   · intro hrb
     have hk := R.ok r h1
     obtain ⟨f, hf, hfp⟩ := N.all r h1 hrb (by omega)
     obtain ⟨r2, a1, a2, _, a4, a5, _⟩ := N.is f hf
     obtain rfl := nodup_inj R.pgs h1 a1 (by show (r.bk, r.pg) = (r2.bk, r2.pg); rw [hrb, a2, a5, hfp])
     exact h2 f hf a4
   · exact fun e => hb e.symm
 · obtain ⟨r, hr, h1, f, h2, h3, h4, h5⟩ := hd
   obtain ⟨r', a1, a2, f', a3, a4, a5, a6, a7⟩ := hto r hr f h2
   exact ⟨r', a1, a2.trans h1, f', a3, a4.trans h3, a6.trans h4, a7.trans h5⟩
 · rcases (q2 r).1 hr with ⟨h1, _⟩ | ⟨k, f, hk, rfl⟩
   · exact ⟨r, h1, rfl⟩
   · obtain ⟨r2, a1, _, _, a4, _⟩ := N.is f (List.mem_of_getElem? hk)
     exact ⟨r2, a1, a4⟩
end Go.Proofs.YtdnpdoipipfkoaaGreatDoor

namespace Go.Proofs.YtdnpdoipipfkoaaGreatDoor
set_option linter.unusedVariables false
set_option linter.unusedSimpArgs false
set_option linter.unusedVariables false
set_option linter.unusedSimpArgs false
set_option maxRecDepth 100000
open Go.RowKit
theorem freeL_nb {c : SC} {m : SM} {t : Nat} (h : (t : Int) ∈ freeL c m) : t < c.bl.length ∧ nbB c m.n t = false := by
 obtain ⟨h1, h2⟩ := freeL_iff.1 h
 obtain ⟨_, h3, _⟩ := freeB_iff.1 h2
 refine ⟨h1, ?_⟩
 rw [Bool.eq_false_iff]
 intro e
 exact (nbB_iff.1 e).2 h3
theorem move_on {c : SC} (hw : 0 ≤ c.who ∧ c.who < 4) (hsz : c.sz ≤ 64) (hB : BlOk c) (hN : c.bl.Nodup) {b : Nat} {row : List Fnd} (hl : row.length ≤ c.S.pg) {spoken : Int} (hs : 0 ≤ spoken) : ∀ (j : Nat) (m : SM), m.n.off = false → Wr c m.n m.rs m.sq → NeedP c m.n m.rs b c.S.pg row → (b : Int) ∉ freeL c m → sprN c m < (freeL c m).length → (freeL c m).length ≤ j →
   ∃ e m', moveF c row spoken j m = some (e, m') ∧ MvG c b row spoken m e m'
 | 0, m, _, _, _, _, h1, h2 => by have := spr_nn c m; omega
 | j + 1, m, h, W, N, hb, h1, h2 => by
   have hs0 := spr_nn c m
   have R := W.R
   cases hf : freeL c m with
   | nil => rw [hf] at h1; simp at h1; omega
   | cons tg rest =>
     have hmem : tg ∈ freeL c m := by rw [hf]; simp
     obtain ⟨t, rfl, ht, hfb⟩ := free_in hmem
     obtain ⟨f1, f2, f3⟩ := freeB_iff.1 hfb
     have hnbt := (freeL_nb hmem).2
     have hti : (0 : Int) ≤ t ∧ (t : Int) < c.bl.length := by omega
     have hbt : (b : Int) ≠ t := fun e => hb (by rw [e]; exact hmem)
     have hph := hB.ph hti
     have hx : c.ph t = ((c.ph t).toNat : Int) := by omega
     have Q := copy_on hw hx (by omega) row 0 m.n h f3 (by omega) f2 (fun f hf => by obtain ⟨_, _, _, _, _, _, h6⟩ := N.is f hf; exact h6.ok)
     have hno := blank_no R f2
     have hstay : ∀ x, x < c.bl.length → (x : Int) ∉ freeL c m → x ≠ t := fun x _ hx e => hx (by rw [e]; exact hmem)
     unfold moveF
     rw [hf]
     simp only
     generalize copyR c (t : Int) row 0 m.n = pr at *
     obtain ⟨e1, n1⟩ := pr
     simp only at Q ⊢
     have hO := other_L R hB hN hti Q.other
     have O1 : OneB c t m { m with n := n1 } := ⟨Q.other, fun x _ => by rw [show ({ m with n := n1 } : SM).n = n1 from rfl, Q.mr]⟩
     have N1 : OneN c t m.n n1 := ⟨Q.other, fun x _ => by rw [Q.mr]⟩
     have hbad1 : badN c { m with n := n1 } = badN c m := bad_same O1 hB hN ht (by unfold badB; rw [show ({ m with n := n1 } : SM).n = n1 from rfl, Q.mr])
     have hspr1 : sprN c { m with n := n1 } = sprN c m := spr_same hbad1
     have W1 : Wr c n1 m.rs m.sq := W.copy hB hN N ht f2 Q
     have hnb1 := N1.more hB hN ht
     rcases Q.res with ⟨q0, qo, q1, q2, q3⟩ | ⟨q3, q0⟩
     · rw [if_pos q0]
       obtain ⟨z, C1, C2, C3, C4⟩ := setl_sq hsz hB hN W qo N hti hbt f2 f3 hl Q q0 W1
       refine ⟨_, _, rfl, ⟨C1, C3, C4, rfl, rfl, fun x hxl hxn => ⟨O1.L _ (ph_ne hB hN ht hxl (hstay x hxl hxn)), O1.mr _ (ph_ne hB hN ht hxl (hstay x hxl hxn))⟩, fun hq => Int.le_trans hq (Int.le_of_eq hspr1.symm), hnb1, 0, hbad1, by rw [← hspr1]; exact Int.add_zero _, .inl ⟨z, qo, rfl, C2, ⟨t, rfl, ht, hmem, ?_, ?_⟩, ?_, ?_⟩⟩⟩
       · show n1.mr _ = false
         rw [Q.mr]; exact f3
       · show nextN (n1.L _) _ = _
         rw [q3]; omega
       · simp only; rw [q2]; simp
       · rw [freeL_len, freeL_len]
         have := filter_less (t := t) (p := freeB c m) (q := freeB c { m with n := n1, fr := (t : Int), rs := (setlR c (t : Int) row 0 m.rs).2 }) (n := c.bl.length) (fun x hxl hne hp => by
           obtain ⟨a1, a2, a3⟩ := freeB_iff.1 hp
           exact freeB_iff.2 ⟨by simp only; omega, (O1.next hB hN ht hxl hne).trans a2, (O1.bad hB hN ht hxl hne).trans a3⟩)
         rw [if_pos ht] at this
         omega
     · have hne0 : e1 ≠ 0 := by rcases q0 with ⟨a, _⟩ | ⟨a, _⟩ <;> rw [a] <;> decide
       rw [if_neg hne0]
       have hnbt1 : nbB c n1 t = true := nbB_iff.2 ⟨by rw [Q.mr]; exact f3, by omega⟩
       have hK1 : Kp c n1 m.rs (NBn c m.n) := .inr ⟨by omega, t, ht, hnbt1, hno⟩
       have hhold1 : ∀ q k d, Hold c m.n m.rs q k d → Hold c n1 m.rs q k d := fun q k d hd => hd.keep (fun r hr => hO r hr (hno r hr))
       have hst1 : ∀ x, x < c.bl.length → (x : Int) ∉ freeL c m → n1.L (c.ph x).toNat = m.n.L (c.ph x).toNat ∧ n1.mr (c.ph x).toNat = m.n.mr (c.ph x).toNat := fun x hxl hxn => ⟨O1.L _ (ph_ne hB hN ht hxl (hstay x hxl hxn)), O1.mr _ (ph_ne hB hN ht hxl (hstay x hxl hxn))⟩
       rcases q0 with ⟨q0, qo, q2⟩ | ⟨q0, qo, q2⟩
       · rw [if_neg (by rw [q0]; decide)]
         unfold giveE giveM
         by_cases hsp : sprN c { m with n := n1 } > spoken
         · rw [if_pos hsp, if_pos hsp]
           obtain ⟨k2, k3, k4⟩ := mark_on (S := c.S) qo (x := (c.ph t).toNat) (by omega) (by omega)
           rw [← hx] at k2 k3 k4
           simp only
           rcases k4 with ⟨k0, ko, k6⟩ | ⟨k0, ko, k6⟩
           · rw [if_neg (by rw [k0]; decide)]
             generalize markS c.S n1 (c.ph t) = n2 at *
             have O2 : OneB c t m { m with n := n2 } := ⟨fun x hx => by show n2.L x = _; rw [k2]; exact Q.other x hx, fun x hx => by show n2.mr x = _; rw [k6]; simp only; rw [if_neg hx, Q.mr]⟩
             have N2 : OneN c t m.n n2 := ⟨fun x hx => by rw [k2]; exact Q.other x hx, fun x hx => by rw [k6]; simp only; rw [if_neg hx, Q.mr]⟩
             have hb2 : badB c { m with n := n2 } t = true := by show n2.mr _ = true; rw [k6]; simp
             have hbad2 := bad_one O2 hB hN ht f3 hb2
             have hfr2 : freeB c { m with n := n2 } t = false := by
               rw [Bool.eq_false_iff]
               intro a
               have := (freeB_iff.1 a).2.2
               rw [hb2] at this; cases this
             have hfl := free_one O2 hB hN rfl ht hfb hfr2
             have hspr2 := spr_one hbad2 (by omega)
             have hO2 : ∀ r ∈ m.rs, n2.L (c.ph r.bk).toNat = m.n.L (c.ph r.bk).toNat := fun r hr => by rw [k2]; exact hO r hr (hno r hr)
             have W2 : Wr c n2 m.rs m.sq := W.lose hB hN ht hno N2.L N2.mr (fun e => by
               have hb2' : n2.mr (c.ph t).toNat = true := hb2
               rw [hb2'] at e; cases e)
             have hnb2 : NBn c n2 = NBn c m.n := N2.same hB hN ht (by
               rw [hnbt, Bool.eq_false_iff]
               intro e
               have hb2' : n2.mr (c.ph t).toNat = true := hb2
               rw [(nbB_iff.1 e).1] at hb2'; cases hb2')
             have hsub : ∀ x : Nat, (x : Int) ∈ freeL c { m with n := n2 } → (x : Int) ∈ freeL c m := fun x hx2 => by
               obtain ⟨a1, a2⟩ := freeL_iff.1 hx2
               obtain ⟨a3, a4, a5⟩ := freeB_iff.1 a2
               have hne : x ≠ t := fun e => by subst e; rw [hfr2] at a2; cases a2
               exact freeL_iff.2 ⟨a1, freeB_iff.2 ⟨a3, (O2.next hB hN ht a1 hne).symm.trans a4, (O2.bad hB hN ht a1 hne).symm.trans a5⟩⟩
             obtain ⟨e, m', hm', V⟩ := move_on hw hsz hB hN hl hs j { m with n := n2 } ko W2 (N.keep hO2) (fun a => hb (hsub b a)) (by omega) (by omega)
             have hVnb := V.nb
             simp only at hVnb
             rw [hnb2] at hVnb
             refine ⟨e, m', hm', ⟨V.W, fun q k d hd => V.hold q k d (hd.keep hO2), V.back, V.q, V.sq, fun x hxl hxn => ?_, fun _ => V.low (by omega), hVnb, ?_⟩⟩
             · obtain ⟨a1, a2⟩ := V.stay x hxl (fun a => hxn (hsub x a))
               exact ⟨a1.trans (O2.L _ (ph_ne hB hN ht hxl (hstay x hxl hxn))), a2.trans (O2.mr _ (ph_ne hB hN ht hxl (hstay x hxl hxn)))⟩
             · obtain ⟨d, d1, ds, d4⟩ := V.res
               refine ⟨d + 1, by omega, by omega, ?_⟩
               rcases d4 with ⟨g0, go, g1, g2, ⟨t2, g3, g4, g5, g6, g7⟩, g8, g9⟩ | ⟨gk, g2, g3, g4⟩
               · refine .inl ⟨g0, go, g1, g2, ⟨t2, g3, g4, hsub t2 g5, g6, g7⟩, ?_, by omega⟩
                 simp only at g8
                 rw [k3] at g8
                 omega
               · simp only at gk
                 rw [hnb2] at gk
                 refine .inr ⟨gk, g2, g3, ?_⟩
                 rcases g4 with ⟨a0, a1, a2, a3, a4⟩ | ⟨a0, a1, a2, a3⟩
                 · simp only at a3
                   rw [k3] at a3
                   exact .inl ⟨a0, a1, a2, by omega, a4⟩
                 · simp only at a3
                   rw [k3] at a3
                   exact .inr ⟨a0, a1, a2, by omega⟩
           · rw [if_pos (by rw [k0]; decide)]
             generalize markS c.S n1 (c.ph t) = n2 at *
             have e2 : nbB c n2 = nbB c n1 := by funext x; unfold nbB; rw [k2, k6]
             have hbad2 : badN c { m with n := n2 } = badN c m := by
               rw [← hbad1]
               unfold badN badB
               rw [show ({ m with n := n2 } : SM).n = n2 from rfl, show ({ m with n := n1 } : SM).n = n1 from rfl, k6]
             have W2 : Wr c n2 m.rs m.sq := W1.less (fun b j hb hm hj => ⟨by rw [← k6]; exact hm, .inl (by rw [k2])⟩) (fun r _ => ⟨by rw [k6], by rw [k2]⟩)
             have hnb2 : NBn c n2 = NBn c n1 := by unfold NBn; rw [e2]
             refine ⟨_, _, rfl, ⟨W2, fun q k d hd => (hhold1 q k d hd).keep (fun r _ => by rw [k2]), fun r hr => ⟨r, hr, rfl⟩, rfl, rfl, fun x hxl hxn => ⟨by show n2.L _ = _; rw [k2]; exact (hst1 x hxl hxn).1, by show n2.mr _ = _; rw [k6]; exact (hst1 x hxl hxn).2⟩, fun hq => Int.le_trans hq (Int.le_of_eq (spr_same hbad2).symm), by show NBn c n2 ≤ _; omega, 0, hbad2, by rw [← spr_same hbad2]; exact Int.add_zero _, .inr ⟨?_, rfl, rfl, .inr ⟨k0, ko, rfl, ?_⟩⟩⟩⟩
             · exact .inr ⟨by show (NBn c n2 : Int) ≤ _; omega, t, ht, by rw [show ({ m with n := n2 } : SM).n = n2 from rfl, e2]; exact hnbt1, hno⟩
             · show _ ≤ n2.M c.who.toNat
               rw [k3, q2]; simp; omega
         · rw [if_neg hsp, if_neg hsp, if_pos (by decide)]
           refine ⟨_, _, rfl, ⟨W1, hhold1, fun r hr => ⟨r, hr, rfl⟩, rfl, rfl, hst1, fun hq => Int.le_trans hq (Int.le_of_eq hspr1.symm), hnb1, 0, hbad1, by rw [← hspr1]; exact Int.add_zero _, .inr ⟨hK1, rfl, rfl, .inl ⟨rfl, qo, rfl, ?_, ?_⟩⟩⟩⟩
           · simp only; rw [q2]; simp
           · have := spr_low hs hsp
             exact this
       · rw [if_pos (by rw [q0]; decide)]
         refine ⟨_, _, rfl, ⟨W1, hhold1, fun r hr => ⟨r, hr, rfl⟩, rfl, rfl, hst1, fun hq => Int.le_trans hq (Int.le_of_eq hspr1.symm), hnb1, 0, hbad1, by rw [← hspr1]; exact Int.add_zero _, .inr ⟨hK1, rfl, rfl, .inr ⟨q0, qo, rfl, ?_⟩⟩⟩⟩
         simp only; rw [q2]; simp
end Go.Proofs.YtdnpdoipipfkoaaGreatDoor

namespace Go.Proofs.YtdnpdoipipfkoaaGreatDoor
set_option linter.unusedVariables false
set_option linter.unusedSimpArgs false
set_option linter.unusedVariables false
set_option linter.unusedSimpArgs false
set_option maxRecDepth 100000
open Go.RowKit
structure ClG (c : SC) (row : List Fnd) (m : SM) (e : Int) (m' : SM) : Prop where
 W : Wr c m'.n m'.rs m.sq
 hold : ∀ q k d, Hold c m.n m.rs q k d → Hold c m'.n m'.rs q k d
 back : ∀ r ∈ m'.rs, ∃ r0 ∈ m.rs, r0.pl = r.pl
 q : m'.q = m.q
 sq : m'.sq = m.sq
 res : ∃ d : Nat, badN c m' = badN c m + d ∧ sprN c m' + d = sprN c m ∧
   ((e = 0 ∧ m'.n.off = false ∧ m'.ro = m.ro ∧ m'.n.M c.who.toNat = m.n.M c.who.toNat + d ∧ NBn c m'.n ≤ NBn c m.n ∧ (freeL c m).length ≤ (freeL c m').length + d ∧ ∃ t : Nat, m'.fr = t ∧ t < c.bl.length ∧ badB c m' t = false ∧ nextB c m' t = row.length)
     ∨ (Kp c m'.n m'.rs (NBn c m.n) ∧ ((e = 13 ∧ m'.n.off = false ∧ m'.ro = true ∧ m'.n.M c.who.toNat = m.n.M c.who.toNat + d + 1 ∧ c.sp ≤ badN c m') ∨ (e = 12 ∧ m'.n.off = true ∧ m'.ro = m.ro ∧ m.n.M c.who.toNat + d ≤ m'.n.M c.who.toNat))))
theorem torn_next {f : Nat → Pg} {n : Nat} (hn : 0 < n) (h : ∀ j, j < n → f j = Pg.none 2) : nextN f n ≠ 0 := by
 have := nextN_over (f := f) (n := n) (j := n - 1) (by omega) (by rw [h _ (by omega)]; exact fun e => by cases e)
 omega
theorem need_on {c : SC} {m : SM} (h : m.n.off = false) (hB : BlOk c) (R : RsOk c m.n m.rs) (b : Int) : ∀ k : Nat, k ≤ c.S.pg → (needR c m b k).2 = 0 ∧ NeedP c m.n m.rs b k (needR c m b k).1 := fun k hk => by
 have key : needR c m b k = needR c { m with n := { m.n with px := -1 } } b k := by
   have hfd : ∀ b pg, fdF c m.n b pg = fdF c { m.n with px := -1 } b pg ∧ fdE c m.n b pg = fdE c { m.n with px := -1 } b pg := fun b pg => ⟨rfl, rfl⟩
   induction k with
   | zero => rfl
   | succ k ih =>
     rw [needR, needR, ih (by omega)]
     rw [(hfd b k).1, (hfd b k).2]
 rw [key]
 have hL : LitS ({ m with n := { m.n with px := -1 } } : SM).n := ⟨rfl, h⟩
 have R' : RsOk c ({ m with n := { m.n with px := -1 } } : SM).n m.rs := ⟨R.ok, R.pls, R.pgs, R.mr, fun r hr => by
   obtain ⟨f, h1, h2⟩ := R.pg r hr
   exact ⟨f, ⟨h1.bk, h1.at', h1.torn, h1.ok, h1.is⟩, h2⟩⟩
 obtain ⟨h1, h2⟩ := need_is (m := { m with n := { m.n with px := -1 } }) hL hB R' b k hk
 refine ⟨h1, ⟨fun f hf => ?_, h2.all, h2.nd⟩⟩
 obtain ⟨r, a1, a2, a3, a4, a5, a6⟩ := h2.is f hf
 exact ⟨r, a1, a2, a3, a4, a5, ⟨a6.bk, a6.at', a6.torn, a6.ok, a6.is⟩⟩
theorem coll_on {c : SC} (hw : 0 ≤ c.who ∧ c.who < 4) (hsz : c.sz ≤ 64) (hpg : 0 < c.S.pg) (hB : BlOk c) (hN : c.bl.Nodup) {b k : Nat} {m : SM} (h : m.n.off = false) (W : Wr c m.n m.rs m.sq) (hbl : b < c.bl.length) (hb0 : badB c m b = false) (hb1 : nextB c m b ≠ 0) (hJ : sprN c m < (freeL c m).length) (hk : (freeL c m).length ≤ k) :
   ∃ e m', collR c m b k = some (e, m') ∧ ClG c (needR c m b c.S.pg).1 m e m' := by
 obtain ⟨n0, N⟩ := need_on h hB W.R b c.S.pg (Nat.le_refl _)
 have hlen := needR_len (c := c) (m := m) (b := b) c.S.pg
 have hbf : (b : Int) ∉ freeL c m := fun a => hb1 (freeB_iff.1 (freeL_iff.1 a).2).2.1
 unfold collR moveR
 rw [if_neg (by rw [n0]; decide)]
 generalize (needR c m b c.S.pg).1 = row at *
 obtain ⟨e1, m1, hm1, V⟩ := move_on hw hsz hB hN hlen (Int.le_refl 0) k m h W N hbf hJ hk
 rw [hm1]
 simp only
 have hVn := V.nb
 obtain ⟨d, d1, ds, d4⟩ := V.res
 rcases d4 with ⟨g0, go, g1, g2, ⟨t, g3, g4, g5, g6, g7⟩, g8, g9⟩ | ⟨gk, g2, g3, g4⟩
 · rw [if_neg (by rw [g0]; decide)]
   obtain ⟨v1, v2⟩ := V.stay b hbl hbf
   have hph := hB.ph (b := (b : Int)) (by omega)
   have hx : c.ph b = ((c.ph b).toNat : Int) := by omega
   have hm1b : m1.n.mr (c.ph b).toNat = false := v2.trans hb0
   have E := ers_on (c := c) go hw (x := (c.ph b).toNat) (by omega) hm1b
   rw [← hx] at E
   have hbt : b ≠ t := fun e => hbf (by rw [e]; exact g5)
   have hO := other_L V.W.R hB hN (tg := (b : Int)) (by omega) E.other
   have hnb1 : nbB c m1.n b = true := nbB_iff.2 ⟨hm1b, by rw [v1]; exact hb1⟩
   unfold eraE eraM
   generalize ersE c.S c.zs m1.n c.who (c.ph b) = e2 at *
   generalize ersS c.S c.zs m1.n c.who (c.ph b) = n2 at *
   have O2 : OneB c b m1 { m1 with n := n2 } := ⟨E.other, fun x _ => by show n2.mr x = _; rw [E.mr]⟩
   have N2 : OneN c b m1.n n2 := ⟨E.other, fun x _ => by rw [E.mr]⟩
   have hbad2 : badN c { m1 with n := n2 } = badN c m1 := bad_same O2 hB hN hbl (by show n2.mr _ = _; rw [E.mr]; rfl)
   have hspr2 : sprN c { m1 with n := n2 } = sprN c m1 := spr_same hbad2
   have hh2 : ∀ q k d, Hold c m.n m.rs q k d → Hold c n2 m1.rs q k d := fun q k d hd => (V.hold q k d hd).keep (fun r hr => hO r hr (g2 r hr))
   have hsq1 := V.W
   have W2 : Wr c n2 m1.rs m.sq := V.W.lose hB hN hbl g2 E.other (fun x _ => by rw [E.mr]) (fun _ => ⟨hm1b, fun j hj => by
     rcases E.res with ⟨_, _, a, _⟩ | ⟨a, _⟩
     · exact .inr (.inl (by rw [a j hj]; rfl))
     · exact .inr (.inr (by rw [a j hj]; rfl))⟩)
   have hfb : freeB c m1 b = false := by
     rw [Bool.eq_false_iff]
     intro a
     refine hb1 ?_
     have := (freeB_iff.1 a).2.1
     unfold nextB at this ⊢
     rw [← v1]; exact this
   have ht2 : badB c { m1 with n := n2 } t = false := (O2.bad hB hN hbl g4 (fun e => hbt e.symm)).trans g6
   have htn2 : nextB c { m1 with n := n2 } t = row.length := (O2.next hB hN hbl g4 (fun e => hbt e.symm)).trans g7
   rcases E.res with ⟨q0, qo, q1, q2⟩ | ⟨q1, q0⟩
   · rw [if_pos (by rw [q0]; decide), if_pos (by rw [q0]; decide)]
     have hz : nextN (n2.L (c.ph b).toNat) c.S.pg = 0 := nextN_zero18 (fun j hj => by rw [q1 j hj]; rfl)
     have hfb2 : freeB c { m1 with n := n2 } b = true := freeB_iff.2 ⟨by simp only; rw [g3]; omega, hz, by show n2.mr _ = false; rw [E.mr]; exact hm1b⟩
     have hfl : (freeL c m1).length + 1 = (freeL c { m1 with n := n2 }).length := by
       rw [freeL_len, freeL_len]
       refine filter_one hfb2 hfb hbl (fun x hx hne => ?_)
       unfold freeB
       rw [O2.next hB hN hbl hx hne, O2.bad hB hN hbl hx hne]
     have hnb2 := N2.drop hB hN hbl hnb1 (by rw [Bool.eq_false_iff]; intro e; exact (nbB_iff.1 e).2 hz)
     refine ⟨_, _, rfl, ⟨W2, hh2, V.back, V.q, V.sq, d, by omega, by omega, .inl ⟨q0, qo, g1, by simp only; omega, by simp only; omega, by omega, t, g3, g4, ht2, htn2⟩⟩⟩
   · have hnz : nextN (n2.L (c.ph b).toNat) c.S.pg ≠ 0 := torn_next hpg q1
     have hnb2 : nbB c n2 b = true := nbB_iff.2 ⟨by rw [E.mr]; exact hm1b, hnz⟩
     have hNB2 : NBn c n2 = NBn c m1.n := N2.same hB hN hbl (by rw [hnb2, hnb1])
     have hK2 : Kp c n2 m1.rs (NBn c m.n) := .inr ⟨by omega, b, hbl, hnb2, g2⟩
     rcases q0 with ⟨q0, qo, q2⟩ | ⟨q0, qo, q2⟩
     · rw [if_neg (by rw [q0]; decide), if_neg (by rw [q0]; decide)]
       unfold giveE giveM
       by_cases hsp : sprN c { m1 with n := n2 } > 0
       · rw [if_pos hsp, if_pos hsp]
         obtain ⟨k2, k3, k4⟩ := mark_on (S := c.S) qo (x := (c.ph b).toNat) (by omega) (by omega)
         rw [← hx] at k2 k3 k4
         simp only
         rcases k4 with ⟨k0, ko, k6⟩ | ⟨k0, ko, k6⟩
         · generalize markS c.S n2 (c.ph b) = n3 at *
           have O3 : OneB c b m1 { m1 with n := n3 } := ⟨fun x hx => by show n3.L x = _; rw [k2]; exact E.other x hx, fun x hx => by show n3.mr x = _; rw [k6]; simp only; rw [if_neg hx, E.mr]⟩
           have N3 : OneN c b m1.n n3 := ⟨O3.L, O3.mr⟩
           have hb3 : n3.mr (c.ph b).toNat = true := by rw [k6]; simp
           have hbad3 := bad_one O3 hB hN hbl hm1b (show badB c { m1 with n := n3 } b = true from hb3)
           have hspr3 := spr_one hbad3 (by omega)
           have hfl : (freeL c m1).length ≤ (freeL c { m1 with n := n3 }).length := by
             rw [freeL_len, freeL_len]
             have := filter_less (t := c.bl.length) (p := freeB c m1) (q := freeB c { m1 with n := n3 }) (n := c.bl.length) (fun x hx _ hp => by
               have hne : x ≠ b := fun e => by rw [e, hfb] at hp; cases hp
               unfold freeB
               rw [O3.next hB hN hbl hx hne, O3.bad hB hN hbl hx hne]
               exact hp)
             rw [if_neg (by omega)] at this
             exact this
           have hO3 : ∀ r ∈ m1.rs, n3.L (c.ph r.bk).toNat = m1.n.L (c.ph r.bk).toNat := fun r hr => by rw [k2]; exact hO r hr (g2 r hr)
           have hnb3 := N3.drop hB hN hbl hnb1 (by rw [Bool.eq_false_iff]; intro e; rw [(nbB_iff.1 e).1] at hb3; cases hb3)
           have W3 : Wr c n3 m1.rs m.sq := V.W.lose hB hN hbl g2 N3.L N3.mr (fun e => by rw [hb3] at e; cases e)
           exact ⟨_, _, rfl, ⟨W3, fun q k d hd => (V.hold q k d hd).keep hO3, V.back, V.q, V.sq, d + 1, by omega, by omega, .inl ⟨k0, ko, g1, by simp only; rw [k3]; omega, by simp only; omega, by omega, t, g3, g4, (O3.bad hB hN hbl g4 (fun e => hbt e.symm)).trans g6, (O3.next hB hN hbl g4 (fun e => hbt e.symm)).trans g7⟩⟩⟩
         · generalize markS c.S n2 (c.ph b) = n3 at *
           have e3 : nbB c n3 = nbB c n2 := by funext x; unfold nbB; rw [k2, k6]
           have hbad3 : badN c { m1 with n := n3 } = badN c { m1 with n := n2 } := by
             unfold badN badB
             rw [show ({ m1 with n := n3 } : SM).n = n3 from rfl, show ({ m1 with n := n2 } : SM).n = n2 from rfl, k6]
           have hs3 := spr_same hbad3
           have W3 : Wr c n3 m1.rs m.sq := W2.less (fun b j hb hm hj => ⟨by rw [← k6]; exact hm, .inl (by rw [k2])⟩) (fun r _ => ⟨by rw [k6], by rw [k2]⟩)
           refine ⟨_, _, rfl, ⟨W3, fun q k d hd => (hh2 q k d hd).keep (fun r _ => by rw [k2]), V.back, V.q, V.sq, d, by omega, by omega, .inr ⟨.inr ⟨?_, b, hbl, by rw [show ({ m1 with n := n3 } : SM).n = n3 from rfl, e3]; exact hnb2, g2⟩, .inr ⟨k0, ko, g1, ?_⟩⟩⟩⟩
           · have : NBn c n3 = NBn c n2 := by unfold NBn; rw [e3]
             show (NBn c n3 : Int) ≤ _
             omega
           · show _ ≤ n3.M c.who.toNat
             rw [k3]; omega
       · rw [if_neg hsp, if_neg hsp]
         have := spr_low (Int.le_refl 0) hsp
         rw [Int.add_zero] at this
         exact ⟨_, _, rfl, ⟨W2, hh2, V.back, V.q, V.sq, d, by exact hbad2.trans d1, by refine Eq.trans ?_ ds; exact congrArg (fun x : Int => x + (d : Int)) hspr2, .inr ⟨hK2, .inl ⟨rfl, qo, rfl, by simp only; omega, this⟩⟩⟩⟩
     · rw [if_pos (by rw [q0]; decide), if_pos (by rw [q0]; decide)]
       exact ⟨_, _, rfl, ⟨W2, hh2, V.back, V.q, V.sq, d, by omega, by omega, .inr ⟨hK2, .inr ⟨q0, qo, g1, by simp only; omega⟩⟩⟩⟩
 · have hne : e1 ≠ 0 := by rcases g4 with ⟨a, _⟩ | ⟨a, _⟩ <;> rw [a] <;> decide
   rw [if_pos hne]
   refine ⟨_, _, rfl, ⟨V.W, V.hold, V.back, V.q, V.sq, d, d1, ds, .inr ⟨gk, ?_⟩⟩⟩
   rcases g4 with ⟨a0, a1, a2, a3, a4⟩ | a
   · exact .inl ⟨a0, a1, a2, a3, by omega⟩
   · exact .inr a
end Go.Proofs.YtdnpdoipipfkoaaGreatDoor
