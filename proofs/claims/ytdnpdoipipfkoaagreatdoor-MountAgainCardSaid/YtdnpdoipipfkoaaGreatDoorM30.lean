/-
  Texts put together: PN.
-/
import Derived.Test.YtdnpdoipipfkoaaGreatDoorM26
namespace Go.Proofs.YtdnpdoipipfkoaaGreatDoor
set_option linter.unusedVariables false
set_option linter.unusedSimpArgs false
set_option linter.unusedVariables false
set_option linter.unusedSimpArgs false
set_option maxRecDepth 100000
open Go.RowKit
theorem eraA_oth {c : SC} (hw : 0 ≤ c.who ∧ c.who < 4) (hpg : 0 < c.S.pg) (hB : BlOk c) (hN : c.bl.Nodup) {rs : List R14} {sq : Int} : ∀ (l : List Nat) (m : SM), m.n.off = false → Wr c m.n rs sq → l.Nodup → (∀ b ∈ l, b < c.bl.length ∧ badB c m b = false ∧ ∀ r ∈ rs, r.bk ≠ b) →
   ∀ x, x < c.bl.length → x ∉ l → (eraA c (l.map fun b : Nat => (b : Int)) m).2.n.L (c.ph x).toNat = m.n.L (c.ph x).toNat ∧ (eraA c (l.map fun b : Nat => (b : Int)) m).2.n.mr (c.ph x).toNat = m.n.mr (c.ph x).toNat
 | [], m, _, _, _, _ => fun x _ _ => ⟨rfl, rfl⟩
 | b :: l, m, h, W, hd, hl => fun x hx hnx => by
   obtain ⟨hbl, hb0, hrb⟩ := hl b (by simp)
   rw [List.nodup_cons] at hd
   have P := era_on hw hpg hB hN h W hbl hb0 hrb
   have hs : hasS c (b : Int) = true := by unfold hasS; simp; omega
   have hxb : x ≠ b := fun e => hnx (by simp [e])
   have e := ph_ne hB hN hbl hx hxb
   have E : (eraM c m b).n.L (c.ph x).toNat = m.n.L (c.ph x).toNat ∧ (eraM c m b).n.mr (c.ph x).toNat = m.n.mr (c.ph x).toNat := ⟨P.one.L _ e, P.one.mr _ e⟩
   rw [List.map_cons]
   unfold eraA
   split
   · exact ⟨rfl, rfl⟩
   · rw [if_neg (by rw [hs, Int.toNat_natCast, hb0]; simp)]
     split
     · exact E
     · rename_i hne
       obtain ⟨d, _, _, d3⟩ := P.res
       have ho : (eraM c m b).n.off = false := by
         rcases d3 with ⟨_, go, _⟩ | ⟨_, ⟨_, go, _⟩ | ⟨g0, _⟩⟩
         · exact go
         · exact go
         · exact absurd ⟨by rw [g0]; decide, by rw [g0]; decide⟩ hne
       have R := eraA_oth hw hpg hB hN l (eraM c m b) ho P.W hd.2 (fun y hy => by
         obtain ⟨y1, y2, y3⟩ := hl y (by simp [hy])
         refine ⟨y1, ?_, y3⟩
         have hyb : y ≠ b := fun e => hd.1 (by rw [← e]; exact hy)
         have := P.one.mr _ (ph_ne hB hN hbl y1 hyb)
         unfold badB at y2 ⊢
         rw [this]
         exact y2) x hx (fun hm => hnx (by simp [hm]))
       exact ⟨R.1.trans E.1, R.2.trans E.2⟩
theorem go_sub {L A : List Fnd} {k n : Nat} (hk : k ≤ n) {b : Int} (h : b ∈ goN L A k) : b ∈ goN L A n := by
 obtain ⟨l, hl⟩ := go_grow L A k (n - k)
 rw [show k + (n - k) = n by omega] at hl
 rw [hl]
 exact List.mem_append.2 (.inl h)
section
variable {c : SC} {n1 n2 : NS} {rs rs2 : List R14} {sq sq2 : Int} {L1 L2 : List Fnd}
theorem go_again (A1 : AllF c n1 L1) (W1 : Wr c n1 rs sq) (A2 : AllF c n2 L2) (W2 : Wr c n2 rs2 sq2) (hback : ∀ b j f, Own c n2 b j f → Own c n1 b j f ∧ (b : Int) ∉ goC c L1) (hfwd : ∀ b j f, Own c n1 b j f → (b : Int) ∉ goC c L1 → Own c n2 b j f)
   (hsome : ∀ k : Nat, k < c.bl.length → someB L2 k = true → someB L1 k = true ∧ (k : Int) ∉ goC c L1) : goC c L2 = [] := by
 have key : ∀ k : Nat, k ≤ c.bl.length → goN L2 (cntC c L2) k = [] := by
   intro k
   induction k with
   | zero => intro _; rfl
   | succ k ih =>
     intro hk
     show goStep L2 (cntC c L2) (goN L2 (cntC c L2) k) k = []
     rw [ih (by omega)]
     unfold goStep
     split
     · exfalso
       rename_i hc
       simp only [Bool.and_eq_true] at hc
       obtain ⟨hs, hm⟩ := hc
       obtain ⟨s1, s2⟩ := hsome k (by omega) hs
       have hno : mayG (cntC c L1) (cntC c L1) (goN L1 (cntC c L1) k) k = false := by
         rw [Bool.eq_false_iff]
         intro hg
         apply s2
         unfold goC
         refine go_sub (k := k + 1) hk ?_
         show (k : Int) ∈ goStep L1 (cntC c L1) (goN L1 (cntC c L1) k) k
         unfold goStep
         rw [s1, hg, Bool.true_and, if_pos rfl]
         simp
       unfold mayG at hno
       rw [List.all_eq_false] at hno
       obtain ⟨f, hf, hp⟩ := hno
       unfold mayP at hp
       simp only [Bool.or_eq_true, bne_iff_ne, not_or, Decidable.not_not] at hp
       obtain ⟨hfb, hoth⟩ := hp
       obtain ⟨b, j, ho⟩ := cnt_own A1 W1 hf
       have hb : (b : Int) = k := by have := ho.is.bk; omega
       have hnb : (b : Int) ∉ goC c L1 := by rw [hb]; exact s2
       have ho2 := hfwd b j f ho hnb
       unfold mayG at hm
       have hm2 := List.all_eq_true.1 hm f (ho2.cnt A2)
       unfold mayP at hm2
       rw [Bool.or_eq_true] at hm2
       rcases hm2 with h | h
       · rw [bne_iff_ne] at h
         exact h hfb
       · unfold othB at h
         obtain ⟨g, hg, hgp⟩ := List.any_eq_true.1 h
         unfold othP at hgp
         simp only [Bool.and_eq_true, bne_iff_ne, Bool.not_eq_true', beq_iff_eq, decide_eq_true_eq] at hgp
         obtain ⟨g1, _, g2, g3⟩ := hgp
         obtain ⟨b2, j2, hg2⟩ := cnt_own A2 W2 hg
         obtain ⟨hg3, hg4⟩ := hback b2 j2 g hg2
         apply hoth
         unfold othB
         refine List.any_eq_true.2 ⟨g, hg3.cnt A1, ?_⟩
         unfold othP
         simp only [Bool.and_eq_true, bne_iff_ne, Bool.not_eq_true', beq_iff_eq, decide_eq_true_eq]
         refine ⟨g1, ?_, g2, g3⟩
         rw [Bool.eq_false_iff]
         intro hcon
         apply hg4
         have e := hg3.is.bk
         rw [← e]
         exact go_sub (by omega) (List.contains_iff_mem.1 hcon)
     · rfl
 exact key _ (Nat.le_refl _)
end
theorem clm_again {c : SC} (hz : c.zs c.who.toNat = []) (st : Stt c) {m : SM} (h : Clm c m) :
   goC c (pagesR c.S (resM c (pagesR c.S m.n c.bl).1 (newM m.n)).n c.bl).1 = [] := by
 obtain ⟨_, A1, e1, C1, _⟩ := clm_opn hz st h
 obtain ⟨_, A2, _⟩ := clm_opn hz st C1
 generalize (pagesR c.S (resM c (pagesR c.S m.n c.bl).1 (newM m.n)).n c.bl).1 = L2 at *
 generalize (pagesR c.S m.n c.bl).1 = L1 at *
 have W1 := h.G.W
 have W2 := C1.G.W
 have G := row_on A1 W1 st.sz.2
 have W' := G.wr A1 W1
 obtain ⟨l, l1, l2, l3⟩ := go_is A1 G
 have hpg := st.pg
 have hnd : l.Nodup := l2.imp (fun h => by omega)
 have P := eraA_on st.hw (by omega) st.hB st.hN (rs := rowC c L1) (sq := seqC c L1) l (newM m.n) h.G.off rfl W' hnd l3
 have O := eraA_oth st.hw (by omega) st.hB st.hN (rs := rowC c L1) (sq := seqC c L1) l (newM m.n) h.G.off W' hnd (fun b hb => ⟨(l3 b hb).1, (nbB_iff.1 (l3 b hb).2.1).1, (l3 b hb).2.2⟩)
 have hnE : (resM c L1 (newM m.n)).n = (eraA c (l.map fun b : Nat => (b : Int)) (newM m.n)).2.n := by
   unfold resM
   rw [l1]
   split <;> rfl
 unfold resE at e1
 rw [l1] at e1
 have hM := C1.M0
 have hM0 := h.M0
 rw [hnE] at W2 A2 hM
 have hgone : ∀ b ∈ l, nbB c (eraA c (l.map fun b : Nat => (b : Int)) (newM m.n)).2.n b = false := by
   obtain ⟨d, _, _, d3⟩ := P.res
   rcases d3 with ⟨_, _, _, _, g⟩ | ⟨_, ⟨_, _, _, g, _⟩ | ⟨g0, _⟩⟩
   · exact g
   · have : (newM m.n).n.M c.who.toNat = m.n.M c.who.toNat := rfl
     omega
   · rw [e1] at g0; cases g0
 generalize (eraA c (l.map fun b : Nat => (b : Int)) (newM m.n)).2.n = n2 at *
 have hin : ∀ b : Nat, (b : Int) ∈ goC c L1 ↔ b ∈ l := fun b => by
   rw [l1, List.mem_map]
   exact ⟨fun ⟨x, hx, e⟩ => by rw [show b = x by omega]; exact hx, fun hb => ⟨b, hb, rfl⟩⟩
 have hst : ∀ b j f, Own c n2 b j f → b ∉ l := fun b j f ho hb => by
   have h1 := hgone b hb
   rw [Bool.eq_false_iff] at h1
   apply h1
   have h2 := nextN_over (f := n2.L (c.ph b).toNat) ho.pg (by rw [ho.st]; decide)
   exact nbB_iff.2 ⟨ho.mr, by omega⟩
 refine go_again A1 W1 A2 W2 (fun b j f ho => ?_) (fun b j f ho hb => ?_) (fun k hk hs => ?_)
 · have hb := hst b j f ho
   obtain ⟨o1, o2⟩ := O b ho.bl hb
   have o1' : n2.L (c.ph b).toNat = m.n.L (c.ph b).toNat := o1
   have o2' : n2.mr (c.ph b).toNat = m.n.mr (c.ph b).toNat := o2
   refine ⟨⟨ho.bl, by rw [← o2']; exact ho.mr, ho.pg, ⟨ho.is.bk, ho.is.at', ho.is.torn, ho.is.ok, by rw [← o1']; exact ho.is.is⟩, ho.te, ho.ep, ho.pl⟩, fun h => hb ((hin b).1 h)⟩
 · obtain ⟨o1, o2⟩ := O b ho.bl (fun h => hb ((hin b).2 h))
   have o1' : n2.L (c.ph b).toNat = m.n.L (c.ph b).toNat := o1
   have o2' : n2.mr (c.ph b).toNat = m.n.mr (c.ph b).toNat := o2
   exact ⟨ho.bl, by rw [o2']; exact ho.mr, ho.pg, ⟨ho.is.bk, ho.is.at', ho.is.torn, ho.is.ok, by rw [o1']; exact ho.is.is⟩, ho.te, ho.ep, ho.pl⟩
 · obtain ⟨_, a2⟩ := some_nb A2 hs
   have hb : k ∉ l := fun h => by rw [hgone k h] at a2; cases a2
   obtain ⟨o1, o2⟩ := O k hk hb
   have o1' : n2.L (c.ph k).toNat = m.n.L (c.ph k).toNat := o1
   have o2' : n2.mr (c.ph k).toNat = m.n.mr (c.ph k).toNat := o2
   obtain ⟨y1, y2⟩ := nbB_iff.1 a2
   rw [o1'] at y2
   rw [o2'] at y1
   obtain ⟨f, hf, hfb, _⟩ := A1.all k 0 hk y1 (by omega)
   refine ⟨?_, fun h => hb ((hin k).1 h)⟩
   unfold someB
   exact List.any_eq_true.2 ⟨f, hf, by rw [hfb]; simp⟩
theorem resM_none {c : SC} {L : List Fnd} {m : SM} (h : goC c L = []) : (resM c L m).n = m.n := by
 unfold resM
 rw [h]
 rfl
end Go.Proofs.YtdnpdoipipfkoaaGreatDoor
