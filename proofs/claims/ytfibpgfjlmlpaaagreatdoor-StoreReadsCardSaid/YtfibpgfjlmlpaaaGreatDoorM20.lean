/-
  Texts put together: ZO ZP MA MC TL.
-/
import Derived.Test.YtfibpgfjlmlpaaaGreatDoorM19
import Derived.Test.YtfibpgfjlmlpaaaGreatDoorM18
import Derived.Test.YtfibpgfjlmlpaaaGreatDoorM02
import Derived.Below
import Derived.Test.YtfibpgfjlmlpaaaGreatDoorTie
import Derived.ProofKit
import Derived.LaidMore
import Derived.OpenShut
import Derived.Stop.Joined
/-
  Layer 18, pure: what Write, Trim, Flush and Collect come to.
-/
namespace Go.Proofs.YtfibpgfjlmlpaaaGreatDoor
set_option linter.unusedVariables false
set_option linter.unusedSimpArgs false
set_option linter.unusedVariables false
set_option linter.unusedSimpArgs false
set_option maxRecDepth 100000
open Go.RowKit

theorem put_ok18 {c : SC} (st : Stt c) {q : List Chg} {x : Chg} (h : ChgOk c x) (hl : q.length ≤ 3) : putE q x = 0 ∧ putR q x = q ++ [x] := by
  have e : putE q x = 0 := by unfold putE; rw [if_pos (h.chk st), if_neg (by omega)]
  exact ⟨e, by unfold putR; rw [if_pos e]⟩
/-- A change more waits. -/
theorem SInv.more {c : SC} {m : SM} (I : SInv c m) {x : Chg} (h : ChgOk c x) (hl : m.q.length ≤ 3) : SInv c { m with q := m.q ++ [x] } :=
  ⟨I.lit, I.R, I.sm, I.mf, I.sq, fun e => ⟨(I.live e).fr, (I.live e).J⟩, I.dead, by simp; omega, fun y hy => by
    rcases List.mem_append.1 hy with hy | hy
    · exact I.qok y hy
    · simp at hy; rw [hy]; exact h⟩
theorem val_more {c : SC} {m : SM} {x : Chg} {q : Int} {d : ByteArray} (h : if q = x.pl then d = x.dt else Val c m q d) : Val c { m with q := m.q ++ [x] } q d := by
  unfold Val at h ⊢
  simp only
  rw [lastN_snoc]
  by_cases e : x.pl = q
  · rw [if_pos e, if_pos rfl]
    rw [if_pos e.symm] at h
    exact h
  · rw [if_neg e]
    rw [if_neg (fun a => e a.symm)] at h
    exact h

/-- What Write and Trim come to. -/
structure WaP (c : SC) (m : SM) (x : Chg) (e : Int) (m' : SM) : Prop where
  inv : SInv c m'
  po : m.n.po ≤ m'.n.po
  fa : ∃ f : Nat, m'.n.M c.who.toNat = m.n.M c.who.toNat + f ∧ f ≤ 10 ∧ m'.n.po ≤ m.n.po + (2 * (c.S.pg : Int) + 3) * f + c.S.pg + 1
  sq : m'.sq + m'.q.length ≤ m.sq + m.q.length + 1
  ro : m.ro = true → m'.ro = true
  res : (¬ (0 ≤ x.pl ∧ x.pl < c.sz) ∧ e = 5 ∧ m' = m) ∨ ((0 ≤ x.pl ∧ x.pl < c.sz) ∧ 16 < x.dt.size ∧ e = 3 ∧ m' = m) ∨
    ((0 ≤ x.pl ∧ x.pl < c.sz) ∧ x.dt.size ≤ 16 ∧ ((e = 0 ∧ m.ro = false ∧ m'.ro = false ∧ ∀ q d, (if q = x.pl then d = x.dt else Val c m q d) → Val c m' q d) ∨ (e = 13 ∧ m'.ro = true ∧ ∀ q d, Val c m q d → Val c m' q d)))
theorem fa_none {c : SC} (m : SM) : ∃ f : Nat, m.n.M c.who.toNat = m.n.M c.who.toNat + f ∧ f ≤ 10 ∧ m.n.po ≤ m.n.po + (2 * (c.S.pg : Int) + 3) * f + c.S.pg + 1 := ⟨0, by simp, by omega, by simp; omega⟩
theorem wai_is {c : SC} (st : Stt c) {m : SM} (I : SInv c m) (hsq : m.sq ≤ 2147483647) {x : Chg} (hk : x.kd = 1 ∨ (x.kd = 2 ∧ x.dt = ⟨#[]⟩)) : ∃ e m', waiR c 100 m x = some (e, m') ∧ WaP c m x e m' := by
  unfold waiR
  by_cases hx : 0 ≤ x.pl ∧ x.pl < c.sz
  · rw [lac_in hx, if_neg (by decide)]
    by_cases hd : 16 < x.dt.size
    · rw [if_pos hd]
      exact ⟨_, _, rfl, ⟨I, Int.le_refl _, fa_none m, by omega, id, .inr (.inl ⟨hx, hd, rfl, rfl⟩)⟩⟩
    · rw [if_neg hd]
      have hok : ChgOk c x := ⟨hx, hk, by omega⟩
      by_cases hro : m.ro = true
      · rw [if_pos hro]
        exact ⟨_, _, rfl, ⟨I, Int.le_refl _, fa_none m, by omega, id, .inr (.inr ⟨hx, by omega, .inr ⟨rfl, hro, fun _ _ h => h⟩⟩)⟩⟩
      · rw [if_neg hro]
        have hrf : m.ro = false := by cases h : m.ro; rfl; exact absurd h hro
        by_cases h4 : m.q.length = 4
        · rw [if_pos h4]
          obtain ⟨e1, m1, h1, C, hv, h0, hn, hs, hp⟩ := fir_is st I hrf hsq
          rw [h1]
          simp only
          obtain ⟨f, hf⟩ := C.fa
          by_cases he : e1 = 0
          · rw [if_neg (by rw [he]; decide)]
            obtain ⟨a1, a2⟩ := h0 he
            have hl : m1.q.length ≤ 3 := by rw [a2, List.length_drop]; omega
            obtain ⟨p1, p2⟩ := put_ok18 st hok hl
            rw [p1, p2]
            refine ⟨_, _, rfl, ⟨C.inv.more hok hl, C.po, ⟨f, hf, hp f hf⟩, by simp only [List.length_append, List.length_singleton]; omega, fun e => absurd e hro, .inr (.inr ⟨hx, by omega, .inl ⟨rfl, hrf, a1, fun q d h => val_more ?_⟩⟩)⟩⟩
            by_cases e : q = x.pl
            · rw [if_pos e] at h ⊢; exact h
            · rw [if_neg e] at h ⊢; exact hv q d h
          · rw [if_pos he]
            have h13 : e1 = 13 := C.er.resolve_left he
            exact ⟨_, _, rfl, ⟨C.inv, C.po, ⟨f, hf, hp f hf⟩, by omega, fun e => absurd e hro, .inr (.inr ⟨hx, by omega, .inr ⟨h13, C.no h13, hv⟩⟩)⟩⟩
        · rw [if_neg h4]
          have hl : m.q.length ≤ 3 := by have := I.ql; omega
          obtain ⟨p1, p2⟩ := put_ok18 st hok hl
          rw [p1, p2]
          exact ⟨_, _, rfl, ⟨I.more hok hl, Int.le_refl _, fa_none m, by simp only [List.length_append, List.length_singleton]; omega, id, .inr (.inr ⟨hx, by omega, .inl ⟨rfl, hrf, hrf, fun q d h => val_more h⟩⟩)⟩⟩
  · rw [lac_out hx, if_pos (by decide)]
    exact ⟨_, _, rfl, ⟨I, Int.le_refl _, fa_none m, by omega, id, .inl ⟨hx, rfl, rfl⟩⟩⟩

/-- What Flush comes to. -/
structure FlP (c : SC) (m : SM) (e : Int) (m' : SM) : Prop where
  inv : SInv c m'
  po : m.n.po ≤ m'.n.po
  fa : ∃ f : Nat, m'.n.M c.who.toNat = m.n.M c.who.toNat + f
  sq : m'.sq + m'.q.length = m.sq + m.q.length
  ro : m.ro = true → m'.ro = true
  vals : ∀ q d, Val c m q d → Val c m' q d
  res : (e = 0 ∧ m.ro = false ∧ m'.ro = false ∧ m'.q = []) ∨ (e = 13 ∧ m'.ro = true)
theorem fluF_is {c : SC} (st : Stt c) : ∀ (j : Nat) (m : SM), SInv c m → m.ro = false → m.sq + m.q.length ≤ 2147483647 → m.q.length = j →
    ∃ e m', fluF c 100 j m = some (e, m') ∧ FlP c m e m'
  | 0, m, I, hro, hsq, hl => ⟨_, _, rfl, ⟨I, Int.le_refl _, ⟨0, by simp⟩, rfl, id, fun _ _ h => h, .inl ⟨rfl, hro, hro, List.length_eq_zero_iff.1 hl⟩⟩⟩
  | j + 1, m, I, hro, hsq, hl => by
    obtain ⟨e1, m1, h1, C, hv, h0, hn, hs, hp⟩ := fir_is st I hro (by omega)
    unfold fluF
    rw [h1]
    simp only
    obtain ⟨f, hf⟩ := C.fa
    by_cases he : e1 = 0
    · rw [if_neg (by rw [he]; decide)]
      obtain ⟨a1, a2⟩ := h0 he
      obtain ⟨e2, m2, h2, F⟩ := fluF_is st j m1 C.inv a1 (by omega) (by rw [a2, List.length_drop]; omega)
      obtain ⟨g, hg⟩ := F.fa
      refine ⟨e2, m2, h2, ⟨F.inv, Int.le_trans C.po F.po, ⟨f + g, by omega⟩, F.sq.trans hs, fun e => F.ro (C.ro e), fun q d h => F.vals q d (hv q d h), ?_⟩⟩
      rcases F.res with ⟨b0, _, b2, b3⟩ | b
      · exact .inl ⟨b0, hro, b2, b3⟩
      · exact .inr b
    · rw [if_pos he]
      have h13 : e1 = 13 := C.er.resolve_left he
      exact ⟨_, _, rfl, ⟨C.inv, C.po, ⟨f, hf⟩, hs, C.ro, hv, .inr ⟨h13, C.no h13⟩⟩⟩
theorem flu_is {c : SC} (st : Stt c) {m : SM} (I : SInv c m) (hsq : m.sq + m.q.length ≤ 2147483647) : ∃ e m', fluR c 100 m = some (e, m') ∧ FlP c m e m' := by
  unfold fluR
  by_cases hro : m.ro = true
  · rw [if_pos hro]
    exact ⟨_, _, rfl, ⟨I, Int.le_refl _, ⟨0, by simp⟩, rfl, id, fun _ _ h => h, .inr ⟨rfl, hro⟩⟩⟩
  · rw [if_neg hro]
    exact fluF_is st _ m I (by cases h : m.ro; rfl; exact absurd h hro) hsq rfl

/-- What Collect comes to. -/
structure CoP (c : SC) (m : SM) (e : Int) (m' : SM) : Prop where
  inv : SInv c m'
  fa : ∃ f : Nat, m'.n.M c.who.toNat = m.n.M c.who.toNat + f
  sq : m'.sq + m'.q.length = m.sq + m.q.length
  ro : m.ro = true → m'.ro = true
  vals : ∀ q d, Val c m q d → Val c m' q d
  res : e = 0 ∨ (e = 13 ∧ m'.ro = true) ∨ e = 5 ∨ e = 1
theorem col_is {c : SC} (st : Stt c) {m : SM} (I : SInv c m) (b : Int) : ∃ e m', colR c m b 100 = some (e, m') ∧ CoP c m e m' := by
  unfold colR
  have same : ∀ e : Int, (e = 0 ∨ (e = 13 ∧ m.ro = true) ∨ e = 5 ∨ e = 1) → CoP c m e m := fun e he => ⟨I, ⟨0, by simp⟩, rfl, id, fun _ _ h => h, he⟩
  by_cases hro : m.ro = true
  · rw [if_pos hro]
    exact ⟨_, _, rfl, same _ (.inr (.inl ⟨rfl, hro⟩))⟩
  rw [if_neg hro]
  have hrf : m.ro = false := by cases h : m.ro; rfl; exact absurd h hro
  by_cases hh : hasS c b = false
  · rw [if_pos hh]
    exact ⟨_, _, rfl, same _ (.inr (.inr (.inl rfl)))⟩
  rw [if_neg hh]
  by_cases hm : mayS c m b.toNat = false
  · rw [if_pos hm]
    exact ⟨_, _, rfl, same _ (.inr (.inr (.inr rfl)))⟩
  rw [if_neg hm]
  unfold hasS at hh
  simp only [decide_eq_false_iff_not, Classical.not_not] at hh
  have hmay : mayS c m b.toNat = true := by cases h : mayS c m b.toNat; exact absurd h hm; rfl
  unfold mayS at hmay
  simp only [Bool.and_eq_true, Bool.not_eq_true', decide_eq_false_iff_not, decide_eq_true_eq] at hmay
  obtain ⟨v1, v2, v3⟩ := hmay
  have L := I.live hrf
  have hlen : (freeL c m).length ≤ c.bl.length := by
    rw [freeL_len]
    exact Nat.le_trans (List.length_filter_le _ _) (by simp)
  have hbl := st.bl
  obtain ⟨e, m', h', V⟩ := coll_is st.hw st.sz.2 st.hB st.hN (k := 100) I.lit I.R (show b.toNat < c.bl.length by omega) v2 v1 L.J (by omega)
  rw [show ((b.toNat : Nat) : Int) = b by omega] at h' V
  refine ⟨e, m', h', ?_⟩
  obtain ⟨d, d1, d2, d3, d4, d5⟩ := V.res
  have hsm := I.sm
  have hmf := I.mf
  have hJ := L.J
  rcases d5 with ⟨g0, g1, g2, g3, t, g4, g5, g6, g7⟩ | ⟨g0, g1, g2, g3⟩
  · exact ⟨⟨V.lit, V.R, by omega, by omega, by rw [V.sq]; exact I.sq, fun _ => ⟨.inr ⟨t, g4, g5, g6⟩, by omega⟩, (fun e => by rw [g1, hrf] at e; cases e), by rw [V.q]; exact I.ql, by rw [V.q]; exact I.qok⟩, ⟨d, g2⟩, by rw [V.sq, V.q], fun e => absurd e hro, fun q d h => h.move V.q V.hold V.back, .inl g0⟩
  · exact ⟨⟨V.lit, V.R, by omega, by omega, by rw [V.sq]; exact I.sq, (fun e => by rw [g1] at e; cases e), fun _ => by omega, by rw [V.q]; exact I.ql, by rw [V.q]; exact I.qok⟩, ⟨d + 1, by omega⟩, by rw [V.sq, V.q], fun e => absurd e hro, fun q d h => h.move V.q V.hold V.back, .inr (.inl ⟨g0, g1⟩)⟩

end Go.Proofs.YtfibpgfjlmlpaaaGreatDoor

/-
  Layer 18, pure: a store as Open gives it; who has no faults, has none.
-/
namespace Go.Proofs.YtfibpgfjlmlpaaaGreatDoor
set_option linter.unusedVariables false
set_option linter.unusedSimpArgs false
set_option linter.unusedVariables false
set_option linter.unusedSimpArgs false
set_option maxRecDepth 100000
open Go.RowKit

def cO (S : NShape) (fz : List Int) (sz sp : Int) (tot : Nat) : SC := ⟨S, zsO fz, 1, 1, sz, sp, blO tot⟩
theorem blO_nodup (n : Nat) : (blO n).Nodup := by
  induction n with
  | zero => exact List.nodup_nil
  | succ n ih =>
    rw [blO_succ, List.nodup_append]
    refine ⟨ih, by simp, fun x hx y hy => ?_⟩
    simp only [blO, List.mem_map, List.mem_range, List.mem_singleton] at hx hy
    obtain ⟨i, hi, rfl⟩ := hx
    omega
theorem stt_O {S : NShape} {fz : List Int} {a b pg d : Int} (hp : (S.pg : Int) = pgO pg) (ha : S.all = 2 + (toO a b pg d).toNat) : Stt (cO S fz (szO a) (prO b) (toO a b pg d).toNat) := by
  have h1 := pgO_in pg
  have h2 := szO_in a
  have h3 := prO_in b
  have h4 := umN_in d 3 (by decide)
  have h5 := toO_in a b pg d
  have hbl : (cO S fz (szO a) (prO b) (toO a b pg d).toNat).bl.length = (toO a b pg d).toNat := blO_len _
  refine ⟨⟨by show (0 : Int) ≤ 1; decide, by show (1 : Int) < 4; decide⟩, ⟨h2.1, by show szO a ≤ 64; omega⟩, ⟨h3.1, by show prO b ≤ 8; omega⟩, fun i hi => ?_, blO_nodup _, by rw [hbl]; omega, ?_, ⟨by show 2 ≤ S.pg; omega, by show S.pg ≤ 16; omega⟩, ⟨by show (0 : Int) ≤ 1; decide, by show (1 : Int) ≤ 2147483647; decide⟩⟩
  · rw [hbl] at hi
    show 2 ≤ (blO _).getD i 0 ∧ (blO _).getD i 0 < (S.all : Int)
    rw [blO_at _ _ hi, ha]
    omega
  · rw [hbl]
    show szO a / (S.pg : Int) + 2 + prO b ≤ _
    rw [hp]
    have : toO a b pg d = szO a / pgO pg + 2 + prO b + umN d 3 := rfl
    omega
theorem inv_O {S : NShape} {fz : List Int} {sz sp : Int} {tot : Nat} (hsp : 0 ≤ sp ∧ sp < tot) : SInv (cO S fz sz sp tot) m0F := by
  have hb : badN (cO S fz sz sp tot) m0F = 0 := by
    unfold badN
    rw [List.length_eq_zero_iff, List.filter_eq_nil_iff]
    intro b _
    show ¬ (false = true)
    decide
  have hs : sprN (cO S fz sz sp tot) m0F = sp := by
    unfold sprN
    rw [hb]
    show (if sp < ((0 : Nat) : Int) then ((0 : Nat) : Int) else sp) - ((0 : Nat) : Int) = sp
    split <;> omega
  have hl : (blO tot).length = tot := blO_len _
  have hf : (freeL (cO S fz sz sp tot) m0F).length = tot := by
    rw [freeL_len]
    show ((List.range (blO tot).length).filter _).length = _
    rw [hl]
    rw [List.filter_eq_self.2 (fun b _ => (freeB_iff (c := cO S fz sz sp tot) (m := m0F) (b := b)).2 ⟨by show (b : Int) ≠ -1; omega, nextN_blank _, rfl⟩)]
    simp
  refine ⟨⟨rfl, rfl⟩, ⟨fun r hr => (by cases hr), List.nodup_nil, List.nodup_nil, fun r hr => (by cases hr), fun r hr => (by cases hr)⟩, by rw [hb, hs]; show ((0 : Nat) : Int) + sp = sp; omega, by rw [hb]; exact Int.le_refl _, Int.le_refl _, fun _ => ⟨.inl rfl, by rw [hs, hf]; exact hsp.2⟩, (fun e => by cases e), by decide, (fun x hx => by cases hx)⟩
theorem wf_O {S : NShape} {fz : List Int} {sz sp : Int} {tot : Nat} : Wf (cO S fz sz sp tot) m0F 0 := by
  refine Wf.mk' calmF.cnt ⟨fun i j => ?_, fun i j => ?_, fun i j => ?_⟩ ⟨Int.le_refl _, Int.le_refl _⟩ (by decide) (fun x hx => by cases hx) (by
    show (-1 : Int) ≤ -1 ∧ (-1 : Int) < ((blO tot).length : Int)
    rw [blO_len]
    omega)
  · intro x hx; cases hx
  · exact Nat.zero_le _
  · exact Nat.zero_le _
theorem val_O {S : NShape} {fz : List Int} {sz sp : Int} {tot : Nat} (q : Int) : Val (cO S fz sz sp tot) m0F q ⟨#[]⟩ := by
  unfold Val
  rw [if_neg (show ¬ (lastN m0F.q q).2 = true from (fun e => by cases e))]
  exact .inr ⟨fun r hr => (by cases hr), rfl⟩

/-! who has no faults -/
section
variable {c : SC} (hz : c.zs c.who.toNat = [])
include hz
theorem m_draw (s : NS) : (drawS c.zs s c.who).M c.who.toNat = s.M c.who.toNat := by
  unfold drawS
  split
  · show nextM c.zs s.N s.M c.who.toNat c.who.toNat = _
    unfold nextM hitB upd
    rw [hz]
    simp
  · rfl
theorem m_oper (s : NS) {sp dn : NS → NS} (hsp : ∀ s, (sp s).M = s.M) (hdn : ∀ s, (dn s).M = s.M) : (operS c.zs s c.who sp dn).M c.who.toNat = s.M c.who.toNat := by
  have h1 : (spendS s).M = s.M := rfl
  have h2 := m_draw hz (spendS s)
  unfold operS
  split
  · rw [h1]
  · split
    · rw [hsp, h1]
    · split
      · rw [hsp, h2, h1]
      · rw [hdn, h2, h1]
theorem m_prg (s : NS) (b pg pl sq kd te ep : Int) (cp : Bool) (dt : ByteArray) : (prgS c s b pg pl sq kd te ep cp dt).M c.who.toNat = s.M c.who.toNat := by
  unfold prgS progS
  split
  · split
    · exact m_oper hz s (fun _ => rfl) (fun _ => rfl)
    · rfl
  · rfl
theorem m_ers (s : NS) (n : Int) : (ersS c.S c.zs s c.who n).M c.who.toNat = s.M c.who.toNat := by
  unfold ersS
  split
  · exact m_oper hz s (fun _ => rfl) (fun _ => rfl)
  · rfl
omit hz in
theorem m_mark (S : NShape) (s : NS) (n : Int) : (markS S s n).M = s.M := by
  unfold markS
  split
  · split <;> rfl
  · rfl
theorem m_copy (tg : Int) : ∀ (L : List Fnd) (i : Nat) (s : NS), (copyR c tg L i s).2.M c.who.toNat = s.M c.who.toNat
  | [], i, s => rfl
  | f :: l, i, s => by
    have h1 := m_prg hz s tg i f.pl f.sq f.kd f.te f.ep true f.dt
    unfold copyR
    split
    · exact (m_copy tg l (i + 1) _).trans h1
    · exact h1
omit hz in
theorem m_give (m : SM) (b sp : Int) : (giveM c m b sp).n.M = m.n.M := by
  unfold giveM
  split
  · exact m_mark _ _ _
  · rfl
theorem m_era (m : SM) (b : Int) : (eraM c m b).n.M c.who.toNat = m.n.M c.who.toNat := by
  unfold eraM
  split
  · exact m_ers hz _ _
  · rw [m_give]; exact m_ers hz _ _
theorem m_move {row : List Fnd} {spoken : Int} : ∀ (j : Nat) (m : SM) (e : Int) (m' : SM), moveF c row spoken j m = some (e, m') → m'.n.M c.who.toNat = m.n.M c.who.toNat
  | 0, m, e, m', hm => by simp [moveF] at hm
  | j + 1, m, e, m', hm => by
    unfold moveF at hm
    cases hf : freeL c m with
    | nil =>
      rw [hf] at hm
      simp only [Option.some.injEq, Prod.mk.injEq] at hm
      rw [← hm.2]
    | cons tg l =>
      rw [hf] at hm
      simp only at hm
      have h1 := m_copy hz tg row 0 m.n
      split at hm
      · simp only [Option.some.injEq, Prod.mk.injEq] at hm
        rw [← hm.2]; exact h1
      · split at hm
        · simp only [Option.some.injEq, Prod.mk.injEq] at hm
          rw [← hm.2]; exact h1
        · split at hm
          · simp only [Option.some.injEq, Prod.mk.injEq] at hm
            rw [← hm.2, m_give]; exact h1
          · have := m_move j _ e m' hm
            rw [this, m_give]; exact h1
theorem m_moveR {m : SM} {b spoken : Int} {j : Nat} {e : Int} {m' : SM} (hm : moveR c m b spoken j = some (e, m')) : m'.n.M c.who.toNat = m.n.M c.who.toNat := by
  unfold moveR at hm
  split at hm
  · simp only [Option.some.injEq, Prod.mk.injEq] at hm
    rw [← hm.2]
  · exact m_move hz j m e m' hm
theorem m_coll {m : SM} {b : Int} {j : Nat} {e : Int} {m' : SM} (hm : collR c m b j = some (e, m')) : m'.n.M c.who.toNat = m.n.M c.who.toNat := by
  unfold collR at hm
  split at hm
  · cases hm
  · rename_i e1 m1 h1
    have h2 := m_moveR hz h1
    split at hm
    · simp only [Option.some.injEq, Prod.mk.injEq] at hm
      rw [← hm.2]; exact h2
    · simp only [Option.some.injEq, Prod.mk.injEq] at hm
      rw [← hm.2, m_era hz]; exact h2
theorem m_room {m : SM} {j : Nat} {e : Int} {m' : SM} (hm : roomR c m j = some (e, m')) : m'.n.M c.who.toNat = m.n.M c.who.toNat := by
  unfold roomR at hm
  split at hm
  · simp only [Option.some.injEq, Prod.mk.injEq] at hm
    rw [← hm.2]
  · split at hm
    · simp only [Option.some.injEq, Prod.mk.injEq] at hm
      rw [← hm.2]
    · split at hm
      · simp only [Option.some.injEq, Prod.mk.injEq] at hm
        rw [← hm.2]
      · exact m_coll hz hm
theorem m_put (m : SM) (x : Chg) : (putM c m x).n.M c.who.toNat = m.n.M c.who.toNat := by
  unfold putM
  split
  · exact m_prg hz _ _ _ _ _ _ _ _ _ _
  · exact m_prg hz _ _ _ _ _ _ _ _ _ _
theorem m_leav {m : SM} {j : Nat} {e : Int} {m' : SM} (hm : leavR c m j = some (e, m')) : m'.n.M c.who.toNat = m.n.M c.who.toNat := by
  unfold leavR at hm
  split at hm
  · split at hm
    · cases hm
    · rename_i e1 m1 h1
      have h2 := m_moveR hz h1
      split at hm
      · simp only [Option.some.injEq, Prod.mk.injEq] at hm
        rw [← hm.2]; exact h2
      · simp only [Option.some.injEq, Prod.mk.injEq] at hm
        rw [← hm.2]
        show (markS c.S m1.n (c.ph m.fr)).M c.who.toNat = _
        rw [m_mark]; exact h2
  · simp only [Option.some.injEq, Prod.mk.injEq] at hm
    rw [← hm.2]
theorem m_chg {x : Chg} {k : Nat} : ∀ (j : Nat) (m : SM) (e : Int) (m' : SM), chgR c x k j m = some (e, m') → m'.n.M c.who.toNat = m.n.M c.who.toNat
  | 0, m, e, m', hm => by simp [chgR] at hm
  | j + 1, m, e, m', hm => by
    unfold chgR at hm
    split at hm
    · cases hm
    · rename_i e1 m1 h1
      have h2 := m_room hz h1
      have h3 := m_put hz m1 x
      split at hm
      · simp only [Option.some.injEq, Prod.mk.injEq] at hm
        rw [← hm.2]; exact h2
      · split at hm
        · simp only [Option.some.injEq, Prod.mk.injEq] at hm
          rw [← hm.2]; exact h3.trans h2
        · split at hm
          · cases hm
          · rename_i e2 m2 h4
            have h5 := m_leav hz h4
            split at hm
            · simp only [Option.some.injEq, Prod.mk.injEq] at hm
              rw [← hm.2]; exact h5.trans (h3.trans h2)
            · exact (m_chg j m2 e m' hm).trans (h5.trans (h3.trans h2))
theorem m_fir {k : Nat} {m : SM} {e : Int} {m' : SM} (hm : firR c k m = some (e, m')) : m'.n.M c.who.toNat = m.n.M c.who.toNat := by
  unfold firR at hm
  split at hm
  · simp only [Option.some.injEq, Prod.mk.injEq] at hm
    rw [← hm.2]
  · split at hm
    · cases hm
    · rename_i e1 m1 h1
      have h2 := m_chg hz k m e1 m1 h1
      split at hm
      · simp only [Option.some.injEq, Prod.mk.injEq] at hm
        rw [← hm.2]; exact h2
      · simp only [Option.some.injEq, Prod.mk.injEq] at hm
        rw [← hm.2]; exact h2
theorem m_wai {k : Nat} {m : SM} {x : Chg} {e : Int} {m' : SM} (hm : waiR c k m x = some (e, m')) : m'.n.M c.who.toNat = m.n.M c.who.toNat := by
  unfold waiR at hm
  split at hm
  · simp only [Option.some.injEq, Prod.mk.injEq] at hm
    rw [← hm.2]
  · split at hm
    · simp only [Option.some.injEq, Prod.mk.injEq] at hm
      rw [← hm.2]
    · split at hm
      · simp only [Option.some.injEq, Prod.mk.injEq] at hm
        rw [← hm.2]
      · split at hm
        · split at hm
          · cases hm
          · rename_i e1 m1 h1
            have h2 := m_fir hz h1
            split at hm
            · simp only [Option.some.injEq, Prod.mk.injEq] at hm
              rw [← hm.2]; exact h2
            · simp only [Option.some.injEq, Prod.mk.injEq] at hm
              rw [← hm.2]; exact h2
        · simp only [Option.some.injEq, Prod.mk.injEq] at hm
          rw [← hm.2]
theorem m_flu {k : Nat} : ∀ (j : Nat) (m : SM) (e : Int) (m' : SM), fluF c k j m = some (e, m') → m'.n.M c.who.toNat = m.n.M c.who.toNat
  | 0, m, e, m', hm => by
    simp only [fluF, Option.some.injEq, Prod.mk.injEq] at hm
    rw [← hm.2]
  | j + 1, m, e, m', hm => by
    unfold fluF at hm
    split at hm
    · cases hm
    · rename_i e1 m1 h1
      have h2 := m_fir hz h1
      split at hm
      · simp only [Option.some.injEq, Prod.mk.injEq] at hm
        rw [← hm.2]; exact h2
      · exact (m_flu j m1 e m' hm).trans h2
end
/-- Without faults nothing fails: a store is never to be read only. -/
theorem calm_ro {c : SC} (st : Stt c) {m : SM} (I : SInv c m) (h : m.n.M c.who.toNat = 0) : m.ro = false := by
  cases hr : m.ro
  · rfl
  · have := I.dead hr
    have := st.sp
    omega

end Go.Proofs.YtfibpgfjlmlpaaaGreatDoor

/-
  Layer 18's laws: what they call beside the store; what stands between their acts; the acts that came in.
-/
namespace Go.Proofs.YtfibpgfjlmlpaaaGreatDoor
set_option linter.unusedVariables false
set_option linter.unusedSimpArgs false
set_option linter.unusedVariables false
set_option linter.unusedSimpArgs false
set_option maxRecDepth 100000
open Go.RowKit

theorem below18 {w w' : World} (h : w.grownBy w' none) : Below w.heap.size w w' := ⟨h.os, h.tape, h.output, h.size, fun k hk => h.block k hk (by simp)⟩

section
variable {w : World} {p : SP} {c : SC} {m : SM}
theorem ops18 (h : StAt w p c m) : Calls Tryz.prog 22 #[.pointer (some ⟨c.S.pb, 0, none⟩)] w fun e w' => e = .returned (.int .i64 m.n.po) ∧ w = w' := ops_is _ _ _ _ _ h.nd.pow
theorem faults18 (h : StAt w p c m) : Calls Tryz.prog 20 #[.pointer (some ⟨c.S.db, 0, none⟩), .int .i64 1] w fun e w' => e = .returned (.int .i64 (m.n.M 1)) ∧ w = w' := faults_is c.S.db 1 _ _ _ _ _ h.nd.drs (by decide)
theorem geo18 (h : StAt w p c m) (ok : StOk p c) : Calls Tryz.prog 24 #[.pointer (some ⟨c.S.nb, 0, none⟩)] w fun e w' => e = .returned (.agg #[.int .i64 c.S.c, .int .i64 c.S.d, .int .i64 c.S.b, .int .i64 (c.S.pg : Int)]) ∧ w.grownBy w' none := by
  have h1 := geometry18_is h.nd.fix
  rw [← ok.R.pgs] at h1
  exact h1
end

/-- The bound of one change. -/
theorem ruleBound_any (p f : Int) (w : World) (hp : 2 ≤ p ∧ p ≤ 16) (hf : 0 ≤ f ∧ f ≤ 1048576) :
    Calls Tryz.prog 23 #[.int .i64 p, .int .i64 f] w fun e w' => e = .returned (.int .i64 ((f + 1) * (2 * p + 3))) ∧ w = w' := by
  have P := rulePages_any p w
  rw [show inB p 2 16 = true by unfold inB; simp; omega] at P
  have F := ruleWithin_any f 0 1048576 w
  rw [show inB f 0 1048576 = true by unfold inB; simp; omega] at F
  have hm : (f + 1) * (2 * p + 3) ≤ 1048577 * 35 := Int.mul_le_mul (by omega) (by omega) (by omega) (by omega)
  have hm0 : 0 ≤ (f + 1) * (2 * p + 3) := Int.mul_nonneg (by omega) (by omega)
  have e1 : wrap64 (f + 1) = f + 1 := wrap_in _ (by omega)
  have e2 : wrap64 (2 * p) = 2 * p := wrap_in _ (by omega)
  have e3 : wrap64 (2 * p + 3) = 2 * p + 3 := wrap_in _ (by omega)
  have e4 : wrap64 ((f + 1) * (2 * p + 3)) = (f + 1) * (2 * p + 3) := wrap_in _ (by omega)
  obtain ⟨r, hr⟩ : ∃ r, (f + 1) * (2 * p + 3) = r := ⟨_, rfl⟩
  rw [hr] at e4 ⊢
  have HR := Lib.hid (And.intro hr (And.intro e1 (And.intro e2 (And.intro e3 e4))))
  clear hm hm0 e1 e2 e3 e4 hr hp hf
  go_enter Tryz.func23, Tryz.ntmps23
  go_wp2_with (first
    | (go_at_call 55; refine P.mono ?_; rintro e w1 ⟨rfl, rfl⟩)
    | (go_at_call 56; refine F.mono ?_; rintro e w1 ⟨rfl, rfl⟩))
  go_ret
  obtain ⟨h0, h1, h2, h3, h4⟩ := HR.out
  exact ⟨show Ending.returned (.int .i64 (wrap64 (wrap64 (f + 1) * wrap64 (wrap64 (2 * p) + 3)))) = _ by rw [h1, h2, h3, h0, h4], rfl⟩

/-- What stands of a law's store: where it stands, since before it was made. -/
structure LwC (w0 : World) (p : SP) (c : SC) : Prop where
  ok : StOk p c
  stt : Stt c
  lo : ∀ k, c.S.T k ≠ 0 → w0.heap.size ≤ k
  lb : w0.heap.size ≤ p.sb ∧ w0.heap.size ≤ p.tb ∧ w0.heap.size ≤ p.bb
  w1 : c.who = 1
theorem LwC.old {w0 : World} {p : SP} {c : SC} (C : LwC w0 p c) {k : Nat} (hk : k < w0.heap.size) : tS p c k = 0 := by
  obtain ⟨h1, h2, h3⟩ := C.lb
  unfold tS
  rw [if_neg (by omega)]
  apply Classical.byContradiction
  intro h
  have := C.lo k h
  omega
theorem LwC.spb {w0 : World} {p : SP} {c : SC} (C : LwC w0 p c) : (-9223372036854775000 : Int) ≤ c.sp ∧ c.sp ≤ 9223372036854775000 := by have := C.stt.sp; omega
/-- What stands between a law's acts. -/
structure Lw (w0 : World) (p : SP) (c : SC) (m : SM) (k : Int) (wx : World) : Prop where
  st : StAt wx p c m
  inv : SInv c m
  wf : Wf c m k
  out : w0.grownBy wx none
section
variable {w0 wx wy : World} {p : SP} {c : SC} {m m' : SM} {k k' : Int}
theorem Lw.call (C : LwC w0 p c) (h : Lw w0 p c m k wx) (hs : StAt wy p c m') (hk : Keeps (tS p c) wx wy) (hi : SInv c m') (hw : Wf c m' k') : Lw w0 p c m' k' wy :=
  ⟨hs, hi, hw, keeps_new18 h.out hk C.lo C.lb⟩
theorem Lw.ext (C : LwC w0 p c) (h : Lw w0 p c m k wx) (hg : wx.grownBy wy none) : Lw w0 p c m k wy := ⟨h.st.ext C.ok hg, h.inv, h.wf, ext_trans h.out hg⟩
theorem Keeps.blk18 {T : Nat → Nat} {w w' : World} {b : Nat} {t : TypeId} {cs : Array Value} (h : Keeps T w w') (hb : Blk w b t cs) (ht : T b = 0) : Blk w' b t cs := (h.block _ hb.lt ht).trans hb
theorem Lw.m1 (C : LwC w0 p c) (h : Lw w0 p c m k wx) : m.n.M c.who.toNat = m.n.M 1 := by rw [C.w1]; rfl
/-- A block without a role, in which no integer lies, is turned. -/
theorem Ints.none18 {w w' : World} {v : Value} {xs : List Int} {g : Nat} (h : Ints w v xs) (hg : w.grownBy w' (some g)) (hb : ∀ o k n, w.cell? ⟨g, o, none⟩ ≠ some (.int k n)) : Ints w' v xs := by
  rcases h with h | ⟨b, off, cap, rfl, h2, h3⟩ | h
  · exact .inl h
  · refine .inr (.inl ⟨b, off, cap, rfl, h2, fun i hi => ?_⟩)
    have hc := h3 i hi
    exact hg.cell hc (fun e => by injection e with e; subst e; exact hb _ _ _ hc)
  · exact .inr (.inr h)
theorem NandAt.none18 {w w' : World} {S : NShape} {V : Nat → Value} {zs : Nat → List Int} {s : NS} {r : Nat} (h : NandAt w S V zs s) (hR : Roles S) (hg : w.grownBy w' (some r)) (ht : S.T r = 0)
    (hb : ∀ o k n, w.cell? ⟨r, o, none⟩ ≠ some (.int k n)) : NandAt w' S V zs s := by
  have e : ∀ k, S.T k ≠ 0 → w'.heap[k]? = w.heap[k]? := fun k hk => hg.block k (h.hi k hk) (fun e => by injection e with e; rw [e] at hk; exact hk ht)
  have e3 := e S.bm (by rw [hR.tm]; decide)
  have e4 := e S.be (by rw [hR.te]; decide)
  have e6 := e S.db (by rw [hR.td]; decide)
  refine ⟨h.fix.stays (e _ (by rw [hR.tn]; decide)) (e _ (by rw [hR.tl]; decide)), fun i hi => ?_, fun i hi => (World.cell?_of_block e3).trans (h.mks i hi), fun o => (World.frozen?_of_block e3).trans (h.mkf o),
    fun i hi => (World.cell?_of_block e4).trans (h.ers i hi), fun o => (World.frozen?_of_block e4).trans (h.erf o), h.pow.stays (e _ (by rw [hR.tp]; decide)), ?_, h.tv, fun k hk => Nat.lt_of_lt_of_le (h.hi k hk) hg.size⟩
  · have hr := h.row i hi
    have er := e (S.row i) (by rw [hR.tr i hi]; omega)
    refine ⟨fun j hj => (World.cell?_of_block er).trans (hr.st j hj), fun j hj => ?_, fun j hj => (World.cell?_of_block er).trans (hr.dt j hj), fun o => (World.frozen?_of_block er).trans (hr.free o)⟩
    obtain ⟨v, h1, h2, h3⟩ := hr.bs j hj
    refine ⟨v, (World.cell?_of_block er).trans h1, ?_, h3⟩
    rcases h2 with h2 | ⟨b, off, cap, rfl, h5, h6⟩
    · exact .inl h2
    · refine .inr ⟨b, off, cap, rfl, h5, fun i hi => ?_⟩
      have hc := h6 i hi
      have hbr : b ≠ r := fun e => by subst e; exact hb _ _ _ hc
      exact (World.cell?_of_block (hg.block b (World.block_lt_of_cell? w _ hc) (fun e => by injection e with e; exact hbr e))).trans hc
  · have d := h.drs
    have hne : S.db ≠ r := fun e => by have := hR.td; rw [e, ht] at this; cases this
    exact ⟨fun j hj => (World.cell?_of_block e6).trans (d.row j hj), fun j hj => (World.cell?_of_block e6).trans (d.ops j hj), fun j hj => (World.cell?_of_block e6).trans (d.bad j hj), fun o => (World.frozen?_of_block e6).trans (d.free o), fun j hj => (d.ints j hj).none18 hg hb, d.apart⟩
theorem StAt.none18 {w w' : World} {p : SP} {c : SC} {m : SM} {g : Nat} (h : StAt w p c m) (ok : StOk p c) (hg : w.grownBy w' (some g)) (ht : tS p c g = 0) (h0 : g ≠ 0) (hb : ∀ o k n, w.cell? ⟨g, o, none⟩ ≠ some (.int k n)) : StAt w' p c m := by
  obtain ⟨t1, t2, t3, t4⟩ := tS_zero ht
  exact ⟨h.nd.none18 ok.R hg t1 hb, h.tb.kept hg (fun e => by injection e with e; exact t3 e.symm), bufStays _ _ _ _ h.bf (hg.block _ (bufLt _ _ _ h.bf) (fun e => by injection e with e; exact t4 e.symm)), h.bk.kept hg (fun e => by injection e with e; exact t2 e.symm),
    h.iv.none18 hg hb, h.fl.kept hg (fun e => by injection e with e; exact h0 e.symm)⟩
/-- A block of the law's own is turned, in which no integer lies. -/
theorem Lw.past (C : LwC w0 p c) (h : Lw w0 p c m k wx) {g : Nat} (hg : wx.grownBy wy (some g)) (ht : tS p c g = 0) (h0 : g ≠ 0) (hn : w0.heap.size ≤ g) (hb : ∀ o k n, wx.cell? ⟨g, o, none⟩ ≠ some (.int k n)) : Lw w0 p c m k wy :=
  ⟨h.st.none18 C.ok hg ht h0 hb, h.inv, h.wf, g17_new h.out hg hn⟩
end

/-- An act. -/
structure Act18 where
  kd : Int
  pl : Int
  dt : ByteArray
def act18C (x : Act18) : Array Value := #[.int .u8 x.kd, .int .i64 x.pl, .string x.dt]
/-- The acts that came in. -/
def Acts18 (w : World) (a : Option Addr) (len : Nat) (A : Nat → Act18) : Prop :=
  len ≤ 9223372036854775807 ∧ ∀ i, i < len → (∃ b off, a = some ⟨b, off, none⟩ ∧ w.rangeAt b (off + i * 3) (act18C (A i)).toList ∧ b < w.heap.size) ∧ (0 ≤ (A i).kd ∧ (A i).kd ≤ 255) ∧ (-9223372036854775808 ≤ (A i).pl ∧ (A i).pl ≤ 9223372036854775807) ∧ (A i).dt.size ≤ 9223372036854775807
theorem acts18_of {w : World} {a : Option Addr} {len cap : Nat} (h : IsRecs [.inl .u8, .inl .i64, .inr true] w a len cap) (hs : ∀ x, a = some x → x.spot = none ∧ x.block < w.heap.size) : ∃ A, Acts18 w a len A := by
  rcases h with ⟨rfl, rfl, rfl⟩ | ⟨x, rfl, hl, hm, hz⟩
  · exact ⟨fun _ => ⟨0, 0, ⟨#[]⟩⟩, by omega, fun i hi => by omega⟩
  · obtain ⟨hsp, hblk⟩ := hs x rfl
    obtain ⟨b, off, sp⟩ := x
    simp only at hsp hblk
    subst hsp
    unfold maxLen at hm
    have key : ∀ i, ∃ q : Act18, i < len → w.rangeAt b (off + i * 3) (act18C q).toList ∧ (0 ≤ q.kd ∧ q.kd ≤ 255) ∧ (-9223372036854775808 ≤ q.pl ∧ q.pl ≤ 9223372036854775807) ∧ q.dt.size ≤ 9223372036854775807 := by
      intro i
      by_cases hi : i < len
      · obtain ⟨v0, g0, k, rfl, hk⟩ := hz i hi 0 _ rfl
        obtain ⟨v1, g1, pl, rfl, hp⟩ := hz i hi 1 _ rfl
        obtain ⟨v2, g2, dt, rfl, hd⟩ := hz i hi 2 _ rfl
        refine ⟨⟨k, pl, dt⟩, fun _ => ⟨fun j u hj => ?_, ?_, ?_, ?_⟩⟩
        · rw [addr_add] at g0 g1 g2
          match j, hj with
          | 0, hj => simp [act18C] at hj; subst hj; simpa [Nat.add_assoc] using g0
          | 1, hj => simp [act18C] at hj; subst hj; simpa [Nat.add_assoc] using g1
          | 2, hj => simp [act18C] at hj; subst hj; simpa [Nat.add_assoc] using g2
          | j + 3, hj => simp [act18C] at hj
        · simpa [Lit.wf, IntKind.min, IntKind.max, IntKind.bits, IntKind.signed] using hk
        · simpa [Lit.wf, IntKind.min, IntKind.max, IntKind.bits, IntKind.signed] using hp
        · unfold maxLen at hd
          exact hd
      · exact ⟨⟨0, 0, ⟨#[]⟩⟩, fun h => absurd h hi⟩
    refine ⟨fun i => Classical.choose (key i), by omega, fun i hi => ?_⟩
    obtain ⟨h1, h2, h3, h4⟩ := Classical.choose_spec (key i) hi
    exact ⟨⟨b, off, rfl, h1, hblk⟩, h2, h3, h4⟩

theorem Tryz.sizeAct18 : (Tryz.prog.info? 38).map (·.size) = some 3 := by kernel_rfl
theorem Tryz.sizeWard18 : (Tryz.prog.info? 24).map (·.size) = some 5 := by kernel_rfl
section
variable {ops : Array Oper} {rest : List Oper} {o : Oper} {a : Act} {w : World} {Q : Exit → Act → World → Prop}
theorem act18_load (hgd : o.guard = none) (x : Operand) (ho : o.op = .load 38 x) {b off : Nat} (hx : a.eval x = .pointer (some ⟨b, off, none⟩)) {y : Act18} (hr : w.rangeAt b off (act18C y).toList)
    (h : wpList Tryz.prog ops Q rest (a.put o.dst (.agg (act18C y))) w) : wpList Tryz.prog ops Q (o :: rest) a w :=
  wpList_load_mid hgd _ x ho b off hx _ _ hr Tryz.underlying38 rfl (by rw [Tryz.sizeAct18]; rfl) (by simpa using h)
theorem act18_store (x y : Operand) (ho : o.op = .store 38 x y) {g : Nat} (hx : a.eval x = .pointer (some ⟨g, 0, none⟩)) {z : Act18} (hy : a.eval y = .agg (act18C z)) {old : Array Value} (hg : Blk w g 38 old) (hold : old.size = 3) (hwt : Region.wanted o (yielded ops a.tmps) = true)
    (h : ∀ w', Blk w' g 38 (act18C z) → w.grownBy w' (some g) → w'.heap.size = w.heap.size → wpList Tryz.prog ops Q rest (a.put o.dst undef) w') : wpList Tryz.prog ops Q (o :: rest) a w :=
  wpList_store_part hwt _ x y ho g 0 3 _ hx hy _ old _ hg rfl Tryz.sizeAct18 (by omega) (by simp [act18C, Value.oneCell']) (by
    have h1 : (act18C z).toList.length = 3 := rfl
    rw [h1, List.drop_of_length_le (by simp; omega)]
    simp) h
def wardC (n0 n1 n2 n3 : Int) (ao : Option Addr) (n cap : Nat) : Array Value := #[.int .i64 n0, .int .i64 n1, .int .i64 n2, .int .i64 n3, .slice ao n cap]
theorem ward_load18 (hwt : Region.wanted o (yielded ops a.tmps) = true) (x : Operand) (ho : o.op = .load 24 x) {g : Nat} (hx : a.eval x = .pointer (some ⟨g, 0, none⟩)) {n0 n1 n2 n3 : Int} {ao : Option Addr} {n cap : Nat} (hg : Blk w g 24 (wardC n0 n1 n2 n3 ao n cap))
    (h : wpList Tryz.prog ops Q rest (a.put o.dst (.agg #[.int .i64 n0, .int .i64 n1, .int .i64 n2, .int .i64 n3, .slice ao n cap])) w) : wpList Tryz.prog ops Q (o :: rest) a w :=
  wpList_load_part hwt _ x ho g 0 5 hx _ _ _ _ _ hg (show (wardC n0 n1 n2 n3 ao n cap).extract 0 (0 + 5) = wardC n0 n1 n2 n3 ao n cap from rfl) rfl Tryz.underlying24 rfl Tryz.sizeWard18 h
end
theorem IsRow.extB {w w' : World} {b off : Nat} {xs : List Value} (h : w.rangeAt b off xs) (hg : w.grownBy w' none) : w'.rangeAt b off xs := fun j u hj => hg.cell (h j u hj) (by simp)
theorem WardP.ext {w w' : World} {a b c d : Int} {ao : Option Addr} {n cap : Nat} {zs : List Int} (h : WardP w a b c d ao n cap zs) (hg : w.grownBy w' none) : WardP w' a b c d ao n cap zs :=
  ⟨h.is.kept hg (by simp), fun k hk => Nat.lt_of_lt_of_le (h.lt k hk) hg.size, h.len, h.mx, h.wf, h.w0, h.w1, h.w2, h.w3⟩

end Go.Proofs.YtfibpgfjlmlpaaaGreatDoor

/-
  Layer 18's law: StoreRoom.
-/
namespace Go.Proofs.YtfibpgfjlmlpaaaGreatDoor
set_option linter.unusedVariables false
set_option linter.unusedSimpArgs false
set_option linter.unusedVariables false
set_option linter.unusedSimpArgs false
set_option maxRecDepth 100000
open Go.RowKit

theorem zsO_nil (j : Nat) : zsO [] j = [] := by unfold zsO; split <;> rfl
/-- A store of a law that has no faults. -/
structure LwZ (w0 : World) (p : SP) (c : SC) (tb : Nat) (tv : Value) (m : SM) (n : Nat) (wx : World) : Prop where
  lw : Lw w0 p c m (4002000 * n) wx
  z : m.n.M 1 = 0
  sq : m.sq + m.q.length ≤ n
  bt : Blk wx tb 33 #[.bool true, .int .i64 1, .int .i64 c.sz, .int .i64 c.sp, tv]
structure LwT (w0 : World) (p : SP) (c : SC) (tb : Nat) : Prop extends LwC w0 p c where
  z : c.zs c.who.toNat = []
  t : tS p c tb = 0
section
variable {w0 wx wy : World} {p : SP} {c : SC} {m m' : SM} {tb : Nat} {tv : Value} {n : Nat}
theorem LwZ.ext (C : LwT w0 p c tb) (h : LwZ w0 p c tb tv m n wx) (hg : wx.grownBy wy none) : LwZ w0 p c tb tv m n wy := ⟨h.lw.ext C.toLwC hg, h.z, h.sq, h.bt.ext hg⟩
theorem LwZ.ro (C : LwT w0 p c tb) (h : LwZ w0 p c tb tv m n wx) : m.ro = false := calm_ro C.stt h.lw.inv (by rw [h.lw.m1 C.toLwC]; exact h.z)
/-- A write or a trim of a place that there is, of few bytes, is taken. -/
theorem LwZ.wai (C : LwT w0 p c tb) (h : LwZ w0 p c tb tv m n wx) (hn : n < 1000) {x : Chg} (hx : 0 ≤ x.pl ∧ x.pl < c.sz) (hk : x.kd = 1 ∨ (x.kd = 2 ∧ x.dt = ⟨#[]⟩)) (hd : x.dt.size ≤ 16) :
    ∃ m', waiR c 100 m x = some (0, m') ∧ (∀ wy, StAt wy p c m' → Keeps (tS p c) wx wy → LwZ w0 p c tb tv m' (n + 1) wy) ∧ ∀ q d, (if q = x.pl then d = x.dt else Val c m q d) → Val c m' q d := by
  have hs := h.sq
  have hi := h.lw.inv.sq
  obtain ⟨e, m', hm, W⟩ := wai_is C.stt h.lw.inv (by omega) hk
  have hM := m_wai C.z hm
  have hw := wf_wai C.stt.pg.2 h.lw.wf hm
  have hz' : m'.n.M c.who.toNat = 0 := by rw [hM, h.lw.m1 C.toLwC]; exact h.z
  have hro := calm_ro C.stt W.inv hz'
  rcases W.res with ⟨r1, _⟩ | ⟨_, r2, _⟩ | ⟨_, _, ⟨r0, _, _, r3⟩ | ⟨_, r2, _⟩⟩
  · exact absurd hx r1
  · omega
  · subst r0
    refine ⟨m', hm, fun wy hs hk => ⟨h.lw.call C.toLwC hs hk W.inv (hw.mono (by omega)), ?_, by have := W.sq; omega, hk.blk18 h.bt C.t⟩, r3⟩
    have : m'.n.M c.who.toNat = m'.n.M 1 := by rw [C.w1]; rfl
    rw [← this]; exact hz'
  · rw [hro] at r2; cases r2
theorem LwZ.flu (C : LwT w0 p c tb) (h : LwZ w0 p c tb tv m n wx) (hn : n < 1000) :
    ∃ m', fluR c 100 m = some (0, m') ∧ (∀ wy, StAt wy p c m' → Keeps (tS p c) wx wy → LwZ w0 p c tb tv m' (n + 4) wy) ∧ ∀ q d, Val c m q d → Val c m' q d := by
  have hs := h.sq
  have hi := h.lw.inv.sq
  obtain ⟨e, m', hm, W⟩ := flu_is C.stt h.lw.inv (by omega)
  have hr := h.ro C
  have hm2 := hm
  unfold fluR at hm2
  rw [if_neg (by rw [hr]; decide)] at hm2
  have hM := m_flu C.z _ _ _ _ hm2
  have hw := wf_flu C.stt.pg.2 _ _ _ _ _ h.lw.wf hm2
  have hl := h.lw.inv.ql
  have hz' : m'.n.M c.who.toNat = 0 := by rw [hM, h.lw.m1 C.toLwC]; exact h.z
  have hro := calm_ro C.stt W.inv hz'
  rcases W.res with ⟨r0, _, _, _⟩ | ⟨_, r2⟩
  · subst r0
    refine ⟨m', hm, fun wy hs hk => ⟨h.lw.call C.toLwC hs hk W.inv (hw.mono (by omega)), ?_, by have := W.sq; omega, hk.blk18 h.bt C.t⟩, W.vals⟩
    have : m'.n.M c.who.toNat = m'.n.M 1 := by rw [C.w1]; rfl
    rw [← this]; exact hz'
  · rw [hro] at r2; cases r2
theorem LwZ.write (C : LwT w0 p c tb) (h : LwZ w0 p c tb tv m n wx) (hn : n < 1000) (pl : Int) (dt : ByteArray) (hx : 0 ≤ pl ∧ pl < c.sz) (hd : dt.size ≤ 16) :
    ∃ m', Calls Tryz.prog 15 #[.pointer (some ⟨p.sb, 0, none⟩), .int .i64 pl, .string dt] wx (fun e wy => e = .returned (.int .i64 0) ∧ LwZ w0 p c tb tv m' (n + 1) wy ∧ Keeps (tS p c) wx wy) ∧ ∀ q d, (if q = pl then d = dt else Val c m q d) → Val c m' q d := by
  obtain ⟨m', hm, h1, h2⟩ := h.wai C hn (x := ⟨pl, 1, dt⟩) hx (.inl rfl) hd
  exact ⟨m', (write18 h.lw.st C.ok h.lw.wf C.spb (by omega) pl dt (by omega) hm).mono fun e wy ⟨a, b, d⟩ => ⟨a, h1 wy b d, d⟩, h2⟩
theorem LwZ.trim (C : LwT w0 p c tb) (h : LwZ w0 p c tb tv m n wx) (hn : n < 1000) (pl : Int) (hx : 0 ≤ pl ∧ pl < c.sz) :
    ∃ m', Calls Tryz.prog 14 #[.pointer (some ⟨p.sb, 0, none⟩), .int .i64 pl] wx (fun e wy => e = .returned (.int .i64 0) ∧ LwZ w0 p c tb tv m' (n + 1) wy ∧ Keeps (tS p c) wx wy) ∧ ∀ q d, (if q = pl then d = ⟨#[]⟩ else Val c m q d) → Val c m' q d := by
  obtain ⟨m', hm, h1, h2⟩ := h.wai C hn (x := ⟨pl, 2, ⟨#[]⟩⟩) hx (.inr ⟨rfl, rfl⟩) (by show (0 : Nat) ≤ 16; omega)
  exact ⟨m', (trim18 h.lw.st C.ok h.lw.wf C.spb (by omega) pl hm).mono fun e wy ⟨a, b, d⟩ => ⟨a, h1 wy b d, d⟩, h2⟩
theorem LwZ.flush (C : LwT w0 p c tb) (h : LwZ w0 p c tb tv m n wx) (hn : n < 1000) :
    ∃ m', Calls Tryz.prog 17 #[.pointer (some ⟨p.sb, 0, none⟩)] wx (fun e wy => e = .returned (.int .i64 0) ∧ LwZ w0 p c tb tv m' (n + 4) wy ∧ Keeps (tS p c) wx wy) ∧ ∀ q d, Val c m q d → Val c m' q d := by
  obtain ⟨m', hm, h1, h2⟩ := h.flu C hn
  exact ⟨m', (flush18 h.lw.st C.ok h.lw.wf C.spb (by omega) hm).mono fun e wy ⟨a, b, d⟩ => ⟨a, h1 wy b d, d⟩, h2⟩
/-- More than the spares are free. -/
theorem LwZ.free (C : LwT w0 p c tb) (h : LwZ w0 p c tb tv m n wx) : c.sp < (freeL c m).length := by
  have L := h.lw.inv.live (h.ro C)
  have h1 := L.J
  have h2 := h.lw.inv.sm
  have h3 := h.lw.inv.mf
  rw [h.lw.m1 C.toLwC, h.z] at h3
  omega
end
theorem open_room (a b pg d : Int) : 0 ≤ prO b ∧ prO b < (toO a b pg d).toNat := by
  have h1 := pgO_in pg
  have h2 := szO_in a
  have h3 := prO_in b
  have h4 := umN_in d 3 (by decide)
  have h5 := toO_in a b pg d
  have h6 : 0 ≤ szO a / pgO pg := Int.ediv_nonneg (by omega) (by omega)
  have : toO a b pg d = szO a / pgO pg + 2 + prO b + umN d 3 := rfl
  omega
theorem len_of_owns18 {w : World} {B : Nat} {e : TypeId} {sz : Nat} {v : Value} {n : Nat} {xs : List Value} (h : w.ownsRow B e sz v n xs) : ∃ ao cap, v = .slice ao n cap := owns_slice17 h

set_option maxHeartbeats 6400000 in
theorem storeRoom18_any (n0 n1 n2 n3 : Int) (ao : Option Addr) (n cap : Nat) (sd mn : Int) (w : World) (hF : Flds w) (hsd : 0 ≤ sd ∧ sd ≤ 4294967295) (hmn : 0 ≤ mn ∧ mn ≤ 65535) :
    Calls Tryz.prog 5 #[.agg #[.int .i64 n0, .int .i64 n1, .int .i64 n2, .int .i64 n3, .slice ao n cap], .int .u32 sd, .int .u16 mn] w fun e w' => e = .returned (.bool true) ∧ w.grownBy w' none := by
  have B0 := Blk.new w 24 (wardC n0 n1 n2 n3 ao n cap)
  have E0 := World.grownBy_alloc w (.cells (wardC n0 n1 n2 n3 ao n cap) 24) none
  obtain ⟨w1, hw1⟩ : ∃ v, w.alloc (.cells (wardC n0 n1 n2 n3 ao n cap) 24) = v := ⟨_, rfl⟩
  obtain ⟨wb, hwb⟩ : ∃ v, w.heap.size = v := ⟨_, rfl⟩
  have HWB := Lib.hid hwb
  rw [hw1] at B0 E0
  rw [hwb] at B0
  have FX := fixed18_any w1 (hF.ext E0)
  have HF := Lib.hid hF
  have H0 := Lib.hid (And.intro B0 E0)
  have hw1' : w.alloc (.cells #[.int .i64 n0, .int .i64 n1, .int .i64 n2, .int .i64 n3, .slice ao n cap] 24) = w1 := hw1
  clear hF B0 E0 hw1
  go_enter Tryz.func5, Tryz.ntmps5
  go_upto_region 3 with (go_at_call 10; refine FX.mono ?_; rintro e w2 ⟨rfl, hE2⟩; have H2 := Lib.hid (And.intro (H0.out.1.ext hE2) (ext_trans H0.out.2 hE2)); clear hE2)
  clear FX hw1'
  have c4 : w2.cell? ⟨wb, 4, none⟩ = some (.slice ao n cap) := H2.out.1.cell 4
  have f4 := H2.out.1.free 4
  have B3 : Blk (w2.setCell ⟨wb, 4, none⟩ (.slice none 0 0)) wb 24 (wardC n0 n1 n2 n3 none 0 0) := H2.out.1.set 4 (.slice none 0 0)
  have E3 : w.grownBy (w2.setCell ⟨wb, 4, none⟩ (.slice none 0 0)) none := g17_new H2.out.2 (gb_set (gb_refl w2 _) _ _) (by rw [HWB.out]; exact Nat.le_refl _)
  go_upto_region 4 with fail
  clear c4 f4
  obtain ⟨w3, hw3⟩ : ∃ v, w2.setCell ⟨wb, 4, none⟩ (.slice none 0 0) = v := ⟨_, rfl⟩
  rw [hw3] at B3 E3 ⊢
  clear hw3 H2
  have HE3 := Lib.hid E3
  have OP3 := open18 n0 n1 n2 n3 (.slice none 0 0) [] w3 (HF.out.ext E3) (.inl ⟨rfl, rfl⟩) (fun k hk => by simp [Value.ownBlock] at hk) (by decide)
  clear E3
  go_upto_region 5 with (first
    | (refine ward_load18 rfl _ rfl rfl B3 ?_)
    | (go_at_call 12; refine OP3.mono ?_; rintro e w4 hop; obtain ⟨_, p, S, v, rfl, hO⟩ := hop.resolve_left (fun h => h.1 newE_none); have HO := Lib.hid hO; obtain ⟨vo, vn, vc, rfl⟩ := hO.vf; have hBn := Blk.new w4 33 (teC false 0 0 0 (.slice none 0 0)); clear hop hO)
    | (refine ten_store18 _ _ rfl rfl rfl hBn rfl rfl ?_; intro w5 hb5 hg5 hs5))
  have C := Lib.hid (show LwT w3 p (cO S [] (szO n0) (prO n1) (toO n0 n1 n2 n3).toNat) w4.heap.size from ⟨⟨HO.out.ok, stt_O HO.out.pgs HO.out.all, HO.out.lo, HO.out.lb, rfl⟩, (show zsO [] 1 = [] from zsO_nil 1), HO.out.st.fresh (Nat.le_refl _)⟩)
  have E45 : w4.grownBy w5 none := g17_new (World.grownBy_alloc w4 _ none) hg5 (Nat.le_refl _)
  have Z0 := Lib.hid (show LwZ w3 p (cO S [] (szO n0) (prO n1) (toO n0 n1 n2 n3).toNat) w4.heap.size (.slice vo vn vc) m0F 0 w5 from ⟨⟨HO.out.st.ext HO.out.ok E45, inv_O (open_room n0 n1 n2 n3), wf_O.mono (by omega), ext_trans HO.out.ext E45⟩, rfl, by decide, hb5⟩)
  obtain ⟨c, hc⟩ : ∃ z, cO S [] (szO n0) (prO n1) (toO n0 n1 n2 n3).toNat = z := ⟨_, rfl⟩
  rw [hc] at C Z0
  obtain ⟨tb, htb⟩ : ∃ z, w4.heap.size = z := ⟨_, rfl⟩
  rw [htb] at C Z0 ⊢
  clear hb5 hg5 hs5 hBn B3 OP3 HO E45 hc htb H0 HF
  have HZ := Lib.hid (show 1 ≤ c.sz ∧ c.sz ≤ 64 from C.out.stt.sz)
  clear hwb
  obtain ⟨lim, hlim⟩ : ∃ z : Nat, mn % 600 = z := ⟨(mn % 600).toNat, by omega⟩
  have hl6 : lim < 600 := by omega
  go_wp2
  rw [hlim]
  clear hlim hmn hsd
  go_loopw [12, 32] (fun xv i wr => ∃ (k : Nat) (x : Int) (m : SM), k ≤ lim ∧ xv = .int .u32 x ∧ i = .int .u16 k ∧ LwZ w3 p c tb (.slice vo vn vc) m k wr) (fun _ i _ => lim - (intOf i).toNat)
  case atStart => exact ⟨0, _, _, Nat.zero_le _, rfl, rfl, Z0.out⟩
  case round =>
    obtain ⟨k, x, m, hk, rfl, rfl, hZ⟩ := hrel
    obtain ⟨wo, rfl⟩ : ∃ wo : World, wo = wr := ⟨_, rfl⟩
    have Z := Lib.hid hZ
    have c2 := (hZ.bt.cell 2).trans (show (#[.bool true, .int .i64 1, .int .i64 c.sz, .int .i64 c.sp, .slice vo vn vc] : Array Value)[2]? = some (.int .i64 c.sz) from rfl)
    have c3 := (hZ.bt.cell 3).trans (show (#[.bool true, .int .i64 1, .int .i64 c.sz, .int .i64 c.sp, .slice vo vn vc] : Array Value)[3]? = some (.int .i64 c.sp) from rfl)
    obtain ⟨sz, hsz⟩ : ∃ z, c.sz = z := ⟨_, rfl⟩
    have HSZ := Lib.hid hsz
    rw [hsz] at c2
    have hs1 : sz ≠ 0 := by have := HZ.out; omega
    clear hZ hsz
    by_cases hlt : k < lim
    · have eX : (x * 1664525 % 4294967296 + 1013904223) % 4294967296 = (x * 1664525 + 1013904223) % 4294967296 := Int.emod_add_emod _ _ _
      go_upto_region 11 with fail
      obtain ⟨X, hX⟩ : ∃ z, (x * 1664525 + 1013904223) % 4294967296 = z := ⟨_, rfl⟩
      have hX0 : 0 ≤ X ∧ X ≤ 4294967295 := by omega
      rw [eX, hX]
      clear eX hX
      have hP : 0 ≤ X / 65536 % sz ∧ X / 65536 % sz < sz := ⟨Int.emod_nonneg _ hs1, Int.emod_lt_of_pos _ (by have := HZ.out; have := HSZ.out; omega)⟩
      obtain ⟨st, hst⟩ : ∃ z, strOfNums [X / 16777216] = z := ⟨_, rfl⟩
      have KC : (convert 54 9 (.slice (some ⟨wo.heap.size, 0, none⟩) 1 1)).run Tryz.prog (wo.alloc (.cells #[.int .u8 (X / 16777216)] 5)) = .ok (.string st) (wo.alloc (.cells #[.int .u8 (X / 16777216)] 5)) := convert7 (.inr ⟨_, 0, 1, rfl, Nat.le_refl _, fun i hi => by
        obtain rfl : i = 0 := by simpa using hi
        exact World.cell?_alloc_at _ _ _ _ rfl⟩) hst
      have hsts : st.size ≤ 16 := by rw [← hst, strOfNums_size]; simp
      obtain ⟨mw, WR, _⟩ := (Z.out.ext C.out (World.grownBy_alloc wo (.cells #[.int .u8 (X / 16777216)] 5) none)).write C.out (by omega) (X / 65536 % sz) st (by rw [HSZ.out]; exact hP) hsts
      obtain ⟨mt, TR, _⟩ := Z.out.trim C.out (by omega) (X / 65536 % sz) (by rw [HSZ.out]; exact hP)
      have hP0 := hP.1
      have hP1 := hP.2
      clear hP hst hsts
      obtain ⟨z0, hz0⟩ : ∃ z : Int, (0 : Int) = z := ⟨_, rfl⟩
      rw [hz0] at WR TR
      have HZ0 := Lib.hid hz0
      have hz1 : (z0 != 0) = false := by rw [← hz0]; rfl
      clear hz0
      go_upto_if 46 with fail
      go_cut [14] (fun r wx => ∃ m', r = .int .i64 z0 ∧ LwZ w3 p c tb (.slice vo vn vc) m' (k + 1) wx)
      case first =>
        go_wp2_with (first
          | (go_at_call 15; refine WR.mono ?_; rintro e w6 ⟨rfl, hZ6, _⟩)
          | (go_at_call 14; refine TR.mono ?_; rintro e w6 ⟨rfl, hZ6, _⟩))
        all_goals go_meet
        all_goals exact ⟨_, rfl, hZ6⟩
      case rest =>
        obtain ⟨m', rfl, hZ6⟩ := hcut
        have Z6 := Lib.hid hZ6
        have FR := free18 (hZ6.lw.ext C.out.toLwC (Ext.drew wc)).st C.out.ok
        have hfr := hZ6.free C.out
        have hfl : (freeL c m').length ≤ 64 := by
          have h1 := C.out.stt.bl
          rw [freeL_len]
          exact Nat.le_trans (List.length_filter_le _ _) (by simp; omega)
        have HSP := Lib.hid C.out.stt.sp
        have d3 := (hZ6.bt.cell 3).trans (show (#[.bool true, .int .i64 1, .int .i64 c.sz, .int .i64 c.sp, .slice vo vn vc] : Array Value)[3]? = some (.int .i64 c.sp) from rfl)
        obtain ⟨sp, hsp⟩ : ∃ z, c.sp = z := ⟨_, rfl⟩
        rw [hsp] at d3 HSP hfr
        have hsp0 : 0 ≤ sp := HSP.out.1
        have hsp1 : sp ≤ 8 := HSP.out.2
        obtain ⟨fl, hfle⟩ : ∃ z, (freeL c m').length = z := ⟨_, rfl⟩
        have FR2 : Calls Tryz.prog 25 #[.pointer (some ⟨p.sb, 0, none⟩)] wc.drew fun e w' => (∃ ao cap, e = .returned (.slice ao fl cap)) ∧ wc.drew.grownBy w' none := FR.mono fun e w' ⟨⟨v, h1, h2⟩, h3⟩ => by
          obtain ⟨ao, cap, rfl⟩ := owns_slice17 h2
          exact ⟨⟨ao, cap, by rw [h1, hfle]⟩, h3⟩
        rw [hfle] at hfr hfl
        have hno : ¬ ((fl : Int) < 1 + sp) := by omega
        clear hZ6 FR hsp hfle hfr WR TR KC hX0 hP0 hP1 hs1 c2 c3
        go_wp2
        have hS : wc.drew.cell? ⟨tb, 3, none⟩ = some (.int .i64 sp) := d3
        refine region_line [(0, true), (1, true), (2, true), (3, true), (6, true), (7, true), (8, true), (4, false), (5, true), (9, true), (10, true)] (fun y => y.cell? ⟨tb, 3, none⟩ = some (.int .i64 sp)) (by kernel_rfl) (by kernel_rfl) (fun _ _ _ d _ h => by cases d <;> exact h) hS ?_
        iterate 7 (refine line_read (a' := ?_) rfl (by kernel_rfl) (by kernel_rfl) hS (fun y hy Kx hKx => ?_) ?_; rotate_left; · go_wp2; exact hKx)
        refine line_act (by rfl) (fun Kx hKx => ?_)
        go_wp2_with (go_at_call 25; refine FR2.mono ?_; rintro e w8 ⟨⟨fo, fc, rfl⟩, hg8⟩)
        have hS8 : w8.cell? ⟨tb, 3, none⟩ = some (.int .i64 sp) := hg8.cell hS (by simp)
        refine hKx _ _ (fun y => y.cell? ⟨tb, 3, none⟩ = some (.int .i64 sp)) hS8 (fun _ h => h) ?_
        clear hKx Kx
        have Z8 := Lib.hid (Z6.out.ext C.out (ext_trans (Ext.drew wc) hg8))
        clear hg8 FR2 d3 hS Z6
        iterate 3 (refine line_read (a' := ?_) rfl (by kernel_rfl) (by kernel_rfl) hS8 (fun y hy Kx hKx => ?_) ?_; rotate_left; · go_wp2; exact hKx)
        refine line_end ?_
        go_wp2
        go_roundw
        case rel => exact ⟨k + 1, X, m', by omega, rfl, by go_num, Z8.out⟩
        case measure => simp [intOf]; omega
    · obtain ⟨mf, FL, _⟩ := Z.out.flush C.out (by omega)
      obtain ⟨z0, hz0⟩ : ∃ z : Int, (0 : Int) = z := ⟨_, rfl⟩
      rw [hz0] at FL
      have hz1 : (z0 == 0) = true := by rw [← hz0]; rfl
      clear hz0 c2 c3 hs1
      go_wp2_with (first
        | (go_at_call 17; refine FL.mono ?_; rintro e w6 ⟨rfl, hZ6, _⟩; have RO := readOnly18 hZ6.lw.st; rw [hZ6.ro C.out] at RO; have Z6 := Lib.hid hZ6; clear hZ6)
        | (go_at_call 13; refine RO.mono ?_; rintro e w7 ⟨rfl, rfl⟩))
      go_ret
      exact ⟨rfl, ext_trans HE3.out Z6.out.lw.out⟩

end Go.Proofs.YtfibpgfjlmlpaaaGreatDoor

/-
  Where start-up lays package tag's table of fields: what the rows' condition gives the walks.
-/
namespace Go.Proofs.YtfibpgfjlmlpaaaGreatDoor
set_option linter.unusedVariables false
set_option linter.unusedSimpArgs false
set_option linter.unusedVariables false
set_option linter.unusedSimpArgs false
set_option maxRecDepth 100000
open Go.ChangeShapes Go.WideShapes Go.ChangeAt Go.WideMaps Go.WideElems Go.RowKit

def laidTag : List (String × DataW Unit) := [("almshouse/tag.fields", Rows.laid_almshouse_tag_fields)]
theorem gFields : Tryz.prog.globalNamed "almshouse/tag.fields" = some 0 := by kernel_rfl
theorem tFields : (Tryz.prog.globals[0]?).map (·.type) = some 211 := by kernel_rfl

/-- The door's own heap meets the condition: three closed facts. -/
theorem door_met (os : Os) (args : Array Value) : laidMetH Tryz.prog laidTag ((World.doorLaid Tryz.prog 19 os).forCall (fun _ _ => 0) ⟨#[], args, []⟩).memory :=
  laidMetH_of_parts3 (fuel := 8) (laidMet_of_run' 8 (by kernel_rfl) (by kernel_rfl)) (by kernel_rfl) (by kernel_rfl)

theorem one_of {H : Type} {enc : TypeId × Value → H} {W : World} {base : Nat} {sp : Nat → Bool} {held : Bool} {fuel : Nat} {cs : List Value} {x : DataW H × List MemPlace} {a b c : Int}
    (h : DataW.trod enc Tryz.prog W base sp held fuel 210 cs = some x) (hx : x.1 = .agg [.lit (.int .i64 a), .lit (.int .i64 b), .lit (.int .i64 c)]) :
    cs.take 1 = [.int .i64 a] ∧ (cs.drop 1).take 1 = [.int .i64 b] ∧ (cs.drop 2).take 1 = [.int .i64 c] := by
  obtain ⟨ys, n, _, rfl, hlen, hn, hel⟩ := DataW.trod_struct Tryz.underlying210 h
  have c3 : Tryz.prog.cellsOf 3 = 1 := by kernel_rfl
  have h0 : DataW.trod enc Tryz.prog W base sp held n 3 ((cs.drop 0).take (Tryz.prog.cellsOf 3)) = ys[0]? := hel 0 _ rfl
  have h1 : DataW.trod enc Tryz.prog W base sp held n 3 ((cs.drop 1).take (Tryz.prog.cellsOf 3)) = ys[1]? := hel 1 _ rfl
  have h2 : DataW.trod enc Tryz.prog W base sp held n 3 ((cs.drop 2).take (Tryz.prog.cellsOf 3)) = ys[2]? := hel 2 _ rfl
  rw [c3] at h0 h1 h2
  match ys, hn, hx, h0, h1, h2 with
  | [y0, y1, y2], _, hx, h0, h1, h2 =>
    obtain ⟨k0, e0, f0, _⟩ := DataW.trod_int Tryz.underlying3 (show DataW.trod _ Tryz.prog W base sp held n 3 _ = some y0 from h0)
    obtain ⟨k1, e1, f1, _⟩ := DataW.trod_int Tryz.underlying3 (show DataW.trod _ Tryz.prog W base sp held n 3 _ = some y1 from h1)
    obtain ⟨k2, e2, f2, _⟩ := DataW.trod_int Tryz.underlying3 (show DataW.trod _ Tryz.prog W base sp held n 3 _ = some y2 from h2)
    simp only [List.map_cons, List.map_nil, DataW.agg.injEq, List.cons.injEq, f0, f1, f2, DataW.lit.injEq, Lit.int.injEq, true_and, and_true] at hx
    obtain ⟨rfl, rfl, rfl⟩ := hx
    exact ⟨by simpa using e0, e1, e2⟩

theorem cell_at {l : List Value} {i : Nat} {u : Value} (h : (l.drop i).take 1 = [u]) : l[i]? = some u := by
  have : ((l.drop i).take 1)[0]? = some u := by rw [h]; rfl
  simpa using this

/-- WHAT THE CONDITION GIVES THE WALKS. -/
theorem flds_of {W : World} (h : laidMetH Tryz.prog laidTag W) : Flds W := by
  rw [MakeChecks.laidMetH_plain _ _ _ (by kernel_rfl)] at h
  obtain ⟨ps, ⟨g0, t0, cs0, f0, p0, q0, hg0, ht0, hv0, hd0, _, _⟩, _, _⟩ := h
  obtain rfl := Option.some.inj (gFields.symm.trans hg0)
  obtain rfl := Option.some.inj (tFields.symm.trans ht0)
  have c40 : Tryz.prog.cellsOf 210 = 3 := by kernel_rfl
  obtain ⟨xs, m1, rfl, hx1, hlen, hn, hel⟩ := DataW.trod_array Tryz.underlying211 hd0
  simp only [c40] at hel
  have hcell : ∀ i u, cs0.toList[i]? = some u → W.cell? ⟨0, i, none⟩ = some u := fun i u hu => by
    rw [World.var?_cell hg0 hv0 i]
    simpa using hu
  simp only [Prod.mk.injEq, Rows.laid_almshouse_tag_fields, DataW.agg.injEq] at hx1
  match xs, hn, hx1, hel with
  | [x0, x1, x2, x3, x4], _, hx1, hel =>
    simp only [List.map_cons, List.map_nil, List.cons.injEq, and_true] at hx1
    obtain ⟨⟨e0, e1, e2, e3, e4⟩, _⟩ := hx1
    have get : ∀ (i : Nat) (a b c : Int), (((cs0.toList.drop (i * 3)).take 3).take 1 = [.int .i64 a] ∧ (((cs0.toList.drop (i * 3)).take 3).drop 1).take 1 = [.int .i64 b] ∧ (((cs0.toList.drop (i * 3)).take 3).drop 2).take 1 = [.int .i64 c]) →
        W.cell? ⟨0, i * 3, none⟩ = some (.int .i64 a) ∧ W.cell? ⟨0, i * 3 + 1, none⟩ = some (.int .i64 b) ∧ W.cell? ⟨0, i * 3 + 2, none⟩ = some (.int .i64 c) := fun i a b c ⟨h0, h1, h2⟩ => by
      refine ⟨hcell _ _ (cell_at ?_), hcell _ _ (cell_at ?_), hcell _ _ (cell_at ?_)⟩
      · simpa [List.take_take] using h0
      · rw [← List.drop_drop]; simpa [List.drop_take, List.take_take] using h1
      · rw [← List.drop_drop]; simpa [List.drop_take, List.take_take] using h2
    intro j hj
    have : j = 0 ∨ j = 1 ∨ j = 2 ∨ j = 3 ∨ j = 4 := by omega
    rcases this with rfl | rfl | rfl | rfl | rfl
    · exact get 0 1 0 3 (one_of (show DataW.trod _ Tryz.prog W 0 _ _ m1 210 _ = some x0 from hel 0 (by decide)) e0.symm)
    · exact get 1 4 0 2147483647 (one_of (show DataW.trod _ Tryz.prog W 0 _ _ m1 210 _ = some x1 from hel 1 (by decide)) e1.symm)
    · exact get 2 1 0 63 (one_of (show DataW.trod _ Tryz.prog W 0 _ _ m1 210 _ = some x2 from hel 2 (by decide)) e2.symm)
    · exact get 3 4 0 2147483647 (one_of (show DataW.trod _ Tryz.prog W 0 _ _ m1 210 _ = some x3 from hel 3 (by decide)) e3.symm)
    · exact get 4 1 1 2 (one_of (show DataW.trod _ Tryz.prog W 0 _ _ m1 210 _ = some x4 from hel 4 (by decide)) e4.symm)

end Go.Proofs.YtfibpgfjlmlpaaaGreatDoor
