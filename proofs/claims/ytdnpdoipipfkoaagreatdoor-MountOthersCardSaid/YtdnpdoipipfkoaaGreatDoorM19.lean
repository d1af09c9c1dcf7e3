/-
  Texts put together: BL HC HD HE HF HG HH HI BM BN BO.
-/
import Derived.Test.YtdnpdoipipfkoaaGreatDoorM18
import Derived.Test.YtdnpdoipipfkoaaGreatDoorM07
namespace Go.Proofs.YtdnpdoipipfkoaaGreatDoor
set_option linter.unusedVariables false
set_option linter.unusedSimpArgs false
set_option linter.unusedVariables false
set_option linter.unusedSimpArgs false
set_option maxRecDepth 100000
open Go.RowKit
def FdG (c : SC) (n : NS) (b j : Nat) (f : Fnd) : Prop := f.bk = b ∧ f.pg = j ∧ ((f.torn = true ∧ (n.L (c.ph b).toNat j).st = 2) ∨ Own c n b j f)
section
variable {c : SC} {n : NS} {rs : List R14} {sq : Int}
theorem find_on (W : Wr c n rs sq) (ho : n.off = false) (hB : BlOk c) {b j : Nat} (hb : b < c.bl.length) (hm : n.mr (c.ph b).toNat = false) (hj : j < c.S.pg) (hs : (n.L (c.ph b).toNat j).st ≠ 0) : findE c.S n (c.ph b) j = 0 ∧ FdG c n b j (findF c.S n (c.ph b) j b) := by
 have hph := hB.ph (b := (b : Int)) (by omega)
 have hl : lackE c.S (c.ph b) j = 0 := by unfold lackE hasB; rw [if_pos (by simp; omega), if_pos (by omega)]
 by_cases h2 : (n.L (c.ph b).toNat j).st = 2
 · have hr : readE c.S n (c.ph b) j = 11 := by
     unfold readE
     rw [hl, if_pos rfl, ho, if_neg (by decide), Int.toNat_natCast, if_neg (by rw [h2]; decide), if_pos h2]
   refine ⟨by unfold findE; rw [if_pos hr], ?_⟩
   unfold findF
   rw [if_pos hr]
   exact ⟨rfl, rfl, .inl ⟨rfl, h2⟩⟩
 · rcases W.pg b j hb hm hj with h | h | ⟨f, hf⟩
   · exact absurd h hs
   · exact absurd h h2
   · have hi := hf.is.is
     have hr : readE c.S n (c.ph b) j = 0 := by
       unfold readE
       rw [hl, if_pos rfl, ho, if_neg (by decide), hi, if_neg (by show ¬ (1 : Int) = 0; decide), if_neg (by show ¬ (1 : Int) = 2; decide)]
     have hT : tagBL f.te f.ep f.pl f.sq f.kd f.cp = frL 84 (tagL f.te f.ep f.pl f.sq f.kd f.cp) := by unfold tagBL; rw [if_pos hf.is.ok.1]
     obtain ⟨p0, p1, p2, p3, p4, p5, p6⟩ := ps_back (p := f.cp) hf.is.ok.1
     have hF : findF c.S n (c.ph b) j b = f := by
       unfold findF
       rw [if_neg (by rw [hr]; decide), if_pos hr, hi]
       show fndOf b j (tagBL f.te f.ep f.pl f.sq f.kd f.cp) f.dt = f
       rw [hT]
       unfold fndOf
       rw [if_pos p0, p1, p2, p3, p4, p5, p6, ← hf.is.bk, ← hf.is.at', ← hf.is.torn]
     refine ⟨by unfold findE; rw [if_neg (by rw [hr]; decide)]; exact hr, ?_⟩
     rw [hF]
     exact ⟨hf.is.bk, hf.is.at', .inr hf⟩
theorem pgs_on (W : Wr c n rs sq) (ho : n.off = false) (hB : BlOk c) {b : Nat} (hb : b < c.bl.length) (hm : n.mr (c.ph b).toNat = false) (hd : ∀ j, j < nextN (n.L (c.ph b).toNat) c.S.pg → (n.L (c.ph b).toNat j).st ≠ 0) :
   ∀ k, k ≤ nextN (n.L (c.ph b).toNat) c.S.pg → (pgsN c.S n (c.ph b) b k).2 = 0 ∧ (∀ f ∈ (pgsN c.S n (c.ph b) b k).1, ∃ j, j < k ∧ FdG c n b j f) ∧ ∀ j, j < k → ∃ f ∈ (pgsN c.S n (c.ph b) b k).1, FdG c n b j f
 | 0, _ => ⟨rfl, fun f hf => by simp [pgsN] at hf, fun j hj => by omega⟩
 | k + 1, hk => by
   obtain ⟨h0, h1, h2⟩ := pgs_on W ho hB hb hm hd k (by omega)
   have hle := nextN_le (n.L (c.ph b).toNat) c.S.pg
   obtain ⟨a1, a2⟩ := find_on W ho hB hb hm (j := k) (by omega) (hd k (by omega))
   have e : pgsN c.S n (c.ph b) b (k + 1) = ((pgsN c.S n (c.ph b) b k).1 ++ [findF c.S n (c.ph b) k b], 0) := by
     rw [pgsN, if_pos h0, if_pos a1]
   rw [e]
   refine ⟨rfl, fun f hf => ?_, fun j hj => ?_⟩
   · rcases List.mem_append.1 hf with h | h
     · obtain ⟨j, x1, x2⟩ := h1 f h
       exact ⟨j, by omega, x2⟩
     · rw [List.mem_singleton.1 h]
       exact ⟨k, by omega, a2⟩
   · by_cases h : j = k
     · subst h
       exact ⟨_, List.mem_append.2 (.inr (List.mem_singleton.2 rfl)), a2⟩
     · obtain ⟨f, x1, x2⟩ := h2 j (by omega)
       exact ⟨f, List.mem_append.2 (.inl x1), x2⟩
theorem blks_on (W : Wr c n rs sq) (ho : n.off = false) (hB : BlOk c) (hd : Dns c.S n) :
   ∀ k, k ≤ c.bl.length → (blksN c.S n c.bl k).2 = 0 ∧ (∀ f ∈ (blksN c.S n c.bl k).1, ∃ b j, b < k ∧ b < c.bl.length ∧ n.mr (c.ph b).toNat = false ∧ j < nextN (n.L (c.ph b).toNat) c.S.pg ∧ FdG c n b j f) ∧
     ∀ b j : Nat, b < k → n.mr (c.ph b).toNat = false → j < nextN (n.L (c.ph b).toNat) c.S.pg → ∃ f ∈ (blksN c.S n c.bl k).1, FdG c n b j f
 | 0, _ => ⟨rfl, fun f hf => by simp [blksN] at hf, fun b j hb => by omega⟩
 | k + 1, hk => by
   obtain ⟨h0, h1, h2⟩ := blks_on W ho hB hd k (by omega)
   have ek : c.bl.getD k 0 = c.ph (k : Nat) := by unfold SC.ph; rw [Int.toNat_natCast]
   cases hm : n.mr (c.ph (k : Nat)).toNat
   · obtain ⟨a0, a1, a2⟩ := pgs_on W ho hB (b := k) (by omega) hm (fun j hj => hd _ j hj) _ (Nat.le_refl _)
     have e : blksN c.S n c.bl (k + 1) = ((blksN c.S n c.bl k).1 ++ (pgsN c.S n (c.ph (k : Nat)) k (nextN (n.L (c.ph (k : Nat)).toNat) c.S.pg)).1, 0) := by
       rw [blksN, if_pos h0, ek, hm, if_neg (by decide), if_pos a0]
     rw [e]
     refine ⟨rfl, fun f hf => ?_, fun b j hb hmb hj => ?_⟩
     · rcases List.mem_append.1 hf with h | h
       · obtain ⟨b, j, x1, x2⟩ := h1 f h
         exact ⟨b, j, by omega, x2⟩
       · obtain ⟨j, x1, x2⟩ := a1 f h
         exact ⟨k, j, by omega, by omega, hm, x1, x2⟩
     · by_cases h : b = k
       · subst h
         obtain ⟨f, x1, x2⟩ := a2 j hj
         exact ⟨f, List.mem_append.2 (.inr x1), x2⟩
       · obtain ⟨f, x1, x2⟩ := h2 b j (by omega) hmb hj
         exact ⟨f, List.mem_append.2 (.inl x1), x2⟩
   · have e : blksN c.S n c.bl (k + 1) = blksN c.S n c.bl k := by
       rw [blksN, if_pos h0, ek, hm, if_pos rfl]
     rw [e]
     refine ⟨h0, fun f hf => ?_, fun b j hb hmb hj => ?_⟩
     · obtain ⟨b, j, x1, x2⟩ := h1 f hf
       exact ⟨b, j, by omega, x2⟩
     · have : b ≠ k := fun h => by subst h; rw [hm] at hmb; cases hmb
       exact h2 b j (by omega) hmb hj
structure AllF (c : SC) (n : NS) (L : List Fnd) : Prop where
 of : ∀ f ∈ L, ∃ b j, b < c.bl.length ∧ n.mr (c.ph b).toNat = false ∧ j < nextN (n.L (c.ph b).toNat) c.S.pg ∧ FdG c n b j f
 all : ∀ b j : Nat, b < c.bl.length → n.mr (c.ph b).toNat = false → j < nextN (n.L (c.ph b).toNat) c.S.pg → ∃ f ∈ L, FdG c n b j f
theorem pages_on (W : Wr c n rs sq) (ho : n.off = false) (hB : BlOk c) (hd : Dns c.S n) : (pagesR c.S n c.bl).2 = 0 ∧ AllF c n (pagesR c.S n c.bl).1 := by
 have h : c.bl.any (offB c.S.all) = false := by
   rw [List.any_eq_false]
   intro x hx
   obtain ⟨i, hi, rfl⟩ := List.getElem_of_mem hx
   have := hB i hi
   rw [List.getD_eq_getElem?_getD, List.getElem?_eq_getElem hi, Option.getD_some] at this
   unfold offB
   simp only [decide_eq_true_eq]
   omega
 unfold pagesR
 rw [h, if_neg (by decide)]
 obtain ⟨h0, h1, h2⟩ := blks_on W ho hB hd c.bl.length (Nat.le_refl _)
 exact ⟨h0, fun f hf => by
   obtain ⟨b, j, _, x⟩ := h1 f hf
   exact ⟨b, j, x⟩, fun b j hb => h2 b j hb⟩
theorem AllF.mem {L : List Fnd} (A : AllF c n L) (W : Wr c n rs sq) {f : Fnd} (hf : f ∈ L) (ht : f.torn = false) : ∃ b j, Own c n b j f := by
 obtain ⟨b, j, _, _, _, _, _, h⟩ := A.of f hf
 rcases h with ⟨h, _⟩ | h
 · rw [ht] at h; cases h
 · exact ⟨b, j, h⟩
end
end Go.Proofs.YtdnpdoipipfkoaaGreatDoor

namespace Go.Proofs.YtdnpdoipipfkoaaGreatDoor
set_option linter.unusedVariables false
set_option linter.unusedSimpArgs false
set_option linter.unusedVariables false
set_option linter.unusedSimpArgs false
set_option maxRecDepth 100000
open Go.RowKit
def inH17 (B tn ep : Int) (f : Fnd) : Bool := decide (0 ≤ f.bk) && (decide (f.bk < B) && mineF tn ep f)
def seqStep (B tn ep : Int) (n : Int) (f : Fnd) : Int := if inH17 B tn ep f && decide (n < f.sq + 1) then f.sq + 1 else n
def seqN (B tn ep : Int) (L : List Fnd) : Int := L.foldl (seqStep B tn ep) 0
def OkL (L : List Fnd) : Prop := ∀ f ∈ L, f.torn = false → okB f.te f.ep f.pl f.sq f.kd = true
theorem okB_sq {a b c d k : Int} (h : okB a b c d k = true) : (0 ≤ c ∧ c ≤ 63) ∧ 0 ≤ d ∧ d ≤ 2147483647 := by
 unfold okB at h
 rw [List.all_eq_true] at h
 have h2 := h 2 (by decide)
 have h3 := h 3 (by decide)
 simp [ffr, fto, nth] at h2 h3
 omega
theorem mine_torn {tn ep : Int} {f : Fnd} (h : mineF tn ep f = true) : f.torn = false := by
 unfold mineF at h
 cases ht : f.torn
 · rfl
 · rw [ht] at h; simp at h
theorem getD_mem17 {L : List Fnd} {k : Nat} {f : Fnd} (hk : k < L.length) (hf : L.getD k noF = f) : f ∈ L := by
 rw [List.getD_eq_getElem?_getD, List.getElem?_eq_getElem hk] at hf
 have h2 : L[k] = f := hf
 rw [← h2]
 exact List.getElem_mem hk
end Go.Proofs.YtdnpdoipipfkoaaGreatDoor

namespace Go.Proofs.YtdnpdoipipfkoaaGreatDoor
set_option linter.unusedVariables false
set_option linter.unusedSimpArgs false
set_option linter.unusedVariables false
set_option linter.unusedSimpArgs false
set_option maxRecDepth 100000
open Go.RowKit
def someB (L : List Fnd) (b : Int) : Bool := L.any fun f => f.bk == b
def othP (out : List Int) (b : Int) (f g : Fnd) : Bool := (g.bk != b) && (!out.contains g.bk && ((g.pl == f.pl) && decide (f.sq ≤ g.sq)))
def othB (A : List Fnd) (out : List Int) (b : Int) (f : Fnd) : Bool := A.any (othP out b f)
def mayP (A : List Fnd) (out : List Int) (b : Int) (f : Fnd) : Bool := (f.bk != b) || othB A out b f
def mayG (A' A : List Fnd) (out : List Int) (b : Int) : Bool := A'.all (mayP A out b)
def goStep (L A : List Fnd) (out : List Int) (b : Int) : List Int := if someB L b && mayG A A out b then out ++ [b] else out
def goN (L A : List Fnd) : Nat → List Int
 | 0 => []
 | k + 1 => goStep L A (goN L A k) k
theorem goN_len (L A : List Fnd) : ∀ k, (goN L A k).length ≤ k
 | 0 => by simp [goN]
 | k + 1 => by
   have := goN_len L A k
   unfold goN goStep
   split
   · simp; omega
   · omega
abbrev OwnI17 (B : Nat) (w : World) (v : Value) (xs : List Int) : Prop := w.ownsRow B 3 1 v xs.length (xs.map (Value.int .i64))
theorem owns_le17 {w : World} {B B' : Nat} {e : TypeId} {sz : Nat} {v : Value} {n : Nat} {xs : List Value} (h : w.ownsRow B e sz v n xs) (hb : B' ≤ B) : w.ownsRow B' e sz v n xs := by
 refine ⟨h.1, ?_⟩
 rcases h.2 with h2 | ⟨g, cap, cur, h1, h2, h3⟩
 · exact .inl h2
 · exact .inr ⟨g, cap, cur, h1, Nat.le_trans hb h2, h3⟩
theorem OwnI17.ints {w : World} {B : Nat} {v : Value} {xs : List Int} (h : OwnI17 B w v xs) : Ints w v xs := by
 rcases h.2 with ⟨rfl, h0⟩ | ⟨g, cap, cur, rfl, _, _, hc, _⟩
 · exact .inl ⟨rfl, List.eq_nil_of_length_eq_zero h0⟩
 · refine .inr (.inl ⟨g, 0, cap, rfl, hc, fun i hi => ?_⟩)
   have h1 := h.cells (g := g) rfl i (.int .i64 (xs.getD i 0)) (by rw [List.getElem?_map, List.getElem?_eq_getElem hi, List.getD_eq_getElem?_getD, List.getElem?_eq_getElem hi]; rfl)
   rw [addr_add] at h1
   exact h1
section
variable {ops : Array Oper} {rest : List Oper} {o : Oper} {a : Act} {w : World} {Q : Exit → Act → World → Prop}
theorem append_int17 (hgd : o.guard = none) (s x : Operand) (ho : o.op = .call { callee := .builtin .append, args := #[s, x], argTypes := #[22, 22] }) (base : Nat) (v : Value) (xs : List Int) (n : Nat) (hn : xs.length = n) (hs : a.eval s = v) (hown : w.ownsRow base 3 1 v n (xs.map (Value.int .i64)))
   (ad : Addr) (cap : Nat) (y : Int) (hx : a.eval x = .slice (some ad) 1 cap) (hc : w.cell? ad = some (.int .i64 y)) (h63 : n ≤ 1000000) (hbase : base ≤ w.heap.size)
   (h : ∀ v' w', w'.ownsRow base 3 1 v' (n + 1) ((xs ++ [y]).map (Value.int .i64)) → w.grownBy w' v.ownBlock → wpList Tryz.prog ops Q rest (a.put o.dst v') w') : wpList Tryz.prog ops Q (o :: rest) a w := by
 obtain ⟨i0, hi, hz0, hz1, hz2⟩ := info_parts Tryz.infoInt
 refine wpList_append_own w hgd s x 22 ho base 3 i0 (.int .i64 0) 1 8 Tryz.underlying22 hi hz0 hz1 hz2 rfl (by decide) v n _ hs hown ad 1 cap [.int .i64 y] hx rfl (fun j u hj => ?_) (by simp [Value.oneCell']) (by unfold maxLen; omega) (by omega) hbase ?_
 · match j, hj with
   | 0, hj => simp at hj; subst hj; simpa [Addr.add] using hc
   | j + 1, hj => simp at hj
 · intro v' w' h1 h2 _
   exact h v' w' (by rw [List.map_append]; exact h1) h2
end
end Go.Proofs.YtdnpdoipipfkoaaGreatDoor

namespace Go.Proofs.YtdnpdoipipfkoaaGreatDoor
set_option linter.unusedVariables false
set_option linter.unusedSimpArgs false
set_option linter.unusedVariables false
set_option linter.unusedSimpArgs false
set_option maxRecDepth 100000
open Go.RowKit
def newF (f g : Fnd) : Bool := newerB f.sq g.sq f.cp g.cp
def lowF (f g : Fnd) : Bool := decide (f.bk < g.bk) || ((f.bk == g.bk) && decide (f.pg < g.pg))
def sameF (s : Bool) (f g : Fnd) : Bool := s && (!newF f g && !newF g f)
def bestStep (gone : List Int) (p : Int) (st : Fnd × Bool) (f : Fnd) : Fnd × Bool :=
 if gone.contains f.bk || f.pl != p then st else if !st.2 || (newF f st.1 || (sameF st.2 f st.1 && lowF f st.1)) then (f, true) else st
def bestN (A : List Fnd) (gone : List Int) (p : Int) : Fnd × Bool := A.foldl (bestStep gone p) (noF, false)
theorem bestN_snoc (A : List Fnd) (gone : List Int) (p : Int) (f : Fnd) : bestN (A ++ [f]) gone p = bestStep gone p (bestN A gone p) f := by unfold bestN; rw [List.foldl_append]; rfl
end Go.Proofs.YtdnpdoipipfkoaaGreatDoor

namespace Go.Proofs.YtdnpdoipipfkoaaGreatDoor
set_option linter.unusedVariables false
set_option linter.unusedSimpArgs false
set_option linter.unusedVariables false
set_option linter.unusedSimpArgs false
set_option maxRecDepth 100000
open Go.RowKit
def okF (f : Fnd) : Bool := f.torn || okB f.te f.ep f.pl f.sq f.kd
def mayL (L : List Fnd) (B : Int) : Bool := L.all okF && (decide (L.length ≤ 60) && decide (B ≤ 64))
end Go.Proofs.YtdnpdoipipfkoaaGreatDoor

namespace Go.Proofs.YtdnpdoipipfkoaaGreatDoor
set_option linter.unusedVariables false
set_option linter.unusedSimpArgs false
set_option linter.unusedVariables false
set_option linter.unusedSimpArgs false
set_option maxRecDepth 100000
open Go.RowKit
def voidB (tn ep sz b : Int) (f : Fnd) : Bool := (f.bk == b) && (mineF tn ep f && decide (sz ≤ f.pl))
def voidN (L : List Fnd) (tn ep sz : Int) : Nat → List Int
 | 0 => []
 | k + 1 => if L.any (voidB tn ep sz k) then voidN L tn ep sz k ++ [(k : Int)] else voidN L tn ep sz k
def spotC17 (x : Int × Int × Int) : Array Value := #[.int .i64 x.1, .int .i64 x.2.1, .int .i64 x.2.2]
def spotsL17 (xs : List (Int × Int × Int)) : List Value := xs.flatMap fun x => (spotC17 x).toList
def spotsN (A : List Fnd) (gone : List Int) : Nat → List (Int × Int × Int)
 | 0 => []
 | k + 1 => if (bestN A gone k).2 then spotsN A gone k ++ [((k : Int), (bestN A gone k).1.bk, (bestN A gone k).1.pg)] else spotsN A gone k
structure Ask17 (w : World) (lv : Value) (L : List Fnd) (B : Int) : Prop where
 row : RowF w lv L
 lb : ∀ k, lv.ownBlock = some k → k < w.heap.size
 may : mayL L B = true
theorem Ask17.ext {w w' : World} {lv : Value} {L : List Fnd} {B : Int} (h : Ask17 w lv L B) (hE : w.grownBy w' none) : Ask17 w' lv L B :=
 ⟨h.row.ext hE, fun k hk => by have := h.lb k hk; have := hE.size; omega, h.may⟩
theorem mayL_parts {L : List Fnd} {B : Int} (h : mayL L B = true) : OkL L ∧ L.length ≤ 60 ∧ B ≤ 64 := by
 unfold mayL at h
 simp only [Bool.and_eq_true, decide_eq_true_eq] at h
 refine ⟨fun f hf ht => ?_, h.2.1, h.2.2⟩
 have h1 := List.all_eq_true.1 h.1 f hf
 unfold okF at h1
 rw [ht] at h1
 simpa using h1
def HealC : Prop := ∀ (lv : Value) (L : List Fnd) (B tn ep sz : Int) (w : World), Ask17 w lv L B →
 Calls Tryz.prog 39 #[lv, .int .i64 B, .int .i64 tn, .int .i64 ep, .int .i64 sz] w fun e w' => (∃ sv gv, e = .returned (.agg #[sv, gv, .int .i64 (seqN B tn ep L)]) ∧
   w'.ownsRow w.heap.size 144 3 sv (spotsN (cntL B tn ep sz L) (goN L (cntL B tn ep sz L) B.toNat) 64).length (spotsL17 (spotsN (cntL B tn ep sz L) (goN L (cntL B tn ep sz L) B.toNat) 64)) ∧
   OwnI17 w.heap.size w' gv (goN L (cntL B tn ep sz L) B.toNat)) ∧ w.grownBy w' none
end Go.Proofs.YtdnpdoipipfkoaaGreatDoor

namespace Go.Proofs.YtdnpdoipipfkoaaGreatDoor
set_option linter.unusedVariables false
set_option linter.unusedSimpArgs false
set_option linter.unusedVariables false
set_option linter.unusedSimpArgs false
set_option maxRecDepth 100000
open Go.RowKit
theorem spotsN_len (A : List Fnd) (gone : List Int) : ∀ k, (spotsN A gone k).length ≤ k
 | 0 => by simp [spotsN]
 | k + 1 => by
   have := spotsN_len A gone k
   unfold spotsN
   split
   · simp; omega
   · omega
theorem Tryz.sizeSpt : (Tryz.prog.info? 144).map (·.size) = some 3 := by kernel_rfl
theorem Tryz.sizeHld : (Tryz.prog.info? 99).map (·.size) = some 3 := by kernel_rfl
def hldC (so : Option Addr) (sn sc : Nat) (go : Option Addr) (gn gc : Nat) (q : Int) : Array Value := #[.slice so sn sc, .slice go gn gc, .int .i64 q]
section
variable {ops : Array Oper} {rest : List Oper} {o : Oper} {a : Act} {w : World} {Q : Exit → Act → World → Prop}
theorem spt_load0 (hwt : Region.wanted o (yielded ops a.tmps) = true) (x : Operand) (ho : o.op = .load 144 x) {b off : Nat} (hx : a.eval x = .pointer (some ⟨b, off, none⟩)) {s : Int × Int × Int} (hr : w.rangeAt b off (spotC17 s).toList)
   (h : wpList Tryz.prog ops Q rest (a.put o.dst (.agg (spotC17 s))) w) : wpList Tryz.prog ops Q (o :: rest) a w :=
 wpList_want hwt fun K hK => wp_load_mid _ x ho b off hx _ _ hr Tryz.underlying144 rfl (by rw [Tryz.sizeSpt]; rfl) (hK _ _ (by simpa using h))
theorem hld_store (x y : Operand) (ho : o.op = .store 99 x y) {g : Nat} (hx : a.eval x = .pointer (some ⟨g, 0, none⟩)) {so go : Option Addr} {sn sc gn gc : Nat} {q : Int} (hy : a.eval y = .agg (hldC so sn sc go gn gc q)) {old : Array Value} (hg : Blk w g 99 old) (hold : old.size = 3) (hwt : Region.wanted o (yielded ops a.tmps) = true)
   (h : ∀ w', Blk w' g 99 (hldC so sn sc go gn gc q) → w.grownBy w' (some g) → w'.heap.size = w.heap.size → wpList Tryz.prog ops Q rest (a.put o.dst undef) w') : wpList Tryz.prog ops Q (o :: rest) a w :=
 wpList_store_part hwt _ x y ho g 0 3 _ hx hy _ old _ hg rfl Tryz.sizeHld (by omega) (by simp [hldC, Value.oneCell']) (by
   have h1 : (hldC so sn sc go gn gc q).toList.length = 3 := rfl
   rw [h1, List.drop_of_length_le (by simp; omega)]
   simp) h
end
end Go.Proofs.YtdnpdoipipfkoaaGreatDoor

namespace Go.Proofs.YtdnpdoipipfkoaaGreatDoor
set_option linter.unusedVariables false
set_option linter.unusedSimpArgs false
set_option linter.unusedVariables false
set_option linter.unusedSimpArgs false
set_option maxRecDepth 100000
open Go.RowKit
theorem goN_keeps (L A : List Fnd) : ∀ k : Nat, ∀ f ∈ A, ∃ g ∈ A, g.pl = f.pl ∧ f.sq ≤ g.sq ∧ (goN L A k).contains g.bk = false
 | 0, f, hf => ⟨f, hf, rfl, Int.le_refl _, by simp [goN]⟩
 | k + 1, f, hf => by
   obtain ⟨g, hg, h1, h2, h3⟩ := goN_keeps L A k f hf
   show ∃ g ∈ A, g.pl = f.pl ∧ f.sq ≤ g.sq ∧ (goStep L A (goN L A k) k).contains g.bk = false
   unfold goStep
   split
   · rename_i hc
     simp only [Bool.and_eq_true] at hc
     by_cases hb : g.bk = (k : Int)
     · have hm := List.all_eq_true.1 hc.2 g hg
       unfold mayP at hm
       rw [hb] at hm
       simp only [bne_self_eq_false, Bool.false_or] at hm
       obtain ⟨g2, hg2, hp⟩ := List.any_eq_true.1 hm
       unfold othP at hp
       simp only [Bool.and_eq_true, bne_iff_ne, Bool.not_eq_true', beq_iff_eq, decide_eq_true_eq] at hp
       refine ⟨g2, hg2, hp.2.2.1.trans h1, Int.le_trans h2 hp.2.2.2, ?_⟩
       rw [Bool.eq_false_iff]
       intro h4
       rw [List.contains_iff_mem, List.mem_append, List.mem_singleton] at h4
       rcases h4 with h4 | h4
       · have := hp.2.1
         rw [Bool.eq_false_iff] at this
         exact this (List.contains_iff_mem.2 h4)
       · exact hp.1 h4
     · refine ⟨g, hg, h1, h2, ?_⟩
       rw [Bool.eq_false_iff]
       intro h4
       rw [List.contains_iff_mem, List.mem_append, List.mem_singleton] at h4
       rcases h4 with h4 | h4
       · rw [Bool.eq_false_iff] at h3
         exact h3 (List.contains_iff_mem.2 h4)
       · exact hb h4
   · exact ⟨g, hg, h1, h2, h3⟩
def candF (gone : List Int) (p : Int) (f : Fnd) : Prop := gone.contains f.bk = false ∧ f.pl = p
theorem bestN_keeps (gone : List Int) (p : Int) (A : List Fnd) : ∀ n, n ≤ A.length →
   ((bestN (A.take n) gone p).2 = true → (bestN (A.take n) gone p).1 ∈ A ∧ candF gone p (bestN (A.take n) gone p).1) ∧
   ∀ f ∈ A.take n, candF gone p f → (bestN (A.take n) gone p).2 = true ∧ f.sq ≤ (bestN (A.take n) gone p).1.sq
 | 0, _ => ⟨fun h => by simp [bestN] at h, fun f hf => by simp at hf⟩
 | n + 1, hn => by
   obtain ⟨ih1, ih2⟩ := bestN_keeps gone p A n (by omega)
   obtain ⟨f, hf⟩ : ∃ f, A.getD n noF = f := ⟨_, rfl⟩
   have hmem := getD_mem17 (by omega) hf
   rw [take17 (by omega) hf, bestN_snoc]
   obtain ⟨⟨b, s⟩, hb⟩ : ∃ z, bestN (A.take n) gone p = z := ⟨_, rfl⟩
   rw [hb] at ih1 ih2 ⊢
   simp only at ih1 ih2
   unfold bestStep
   simp only
   split
   · rename_i hc
     refine ⟨ih1, fun g hg hcand => ?_⟩
     rcases List.mem_append.1 hg with h1 | h1
     · exact ih2 g h1 hcand
     · obtain rfl := List.mem_singleton.1 h1
       unfold candF at hcand
       rw [hcand.1, hcand.2] at hc
       simp at hc
   · rename_i hc
     have hcf : candF gone p f := by
       simp only [Bool.or_eq_true, not_or, Bool.not_eq_true, bne_iff_ne, ne_eq, Decidable.not_not] at hc
       exact ⟨hc.1, by simpa using hc.2⟩
     split
     · rename_i ht
       refine ⟨fun _ => ⟨hmem, hcf⟩, fun g hg hcand => ⟨rfl, ?_⟩⟩
       rcases List.mem_append.1 hg with h1 | h1
       · obtain ⟨h2, h3⟩ := ih2 g h1 hcand
         subst h2
         refine Int.le_trans h3 ?_
         by_cases hlt : f.sq < b.sq
         · exfalso
           unfold sameF newF newerB at ht
           rw [if_neg (by omega), if_neg (by omega)] at ht
           have e1 : decide (b.sq < f.sq) = false := decide_eq_false (by omega)
           have e2 : decide (f.sq < b.sq) = true := decide_eq_true hlt
           rw [e1, e2] at ht
           simp at ht
         · show b.sq ≤ f.sq
           omega
       · obtain rfl := List.mem_singleton.1 h1
         exact Int.le_refl _
     · rename_i ht
       refine ⟨ih1, fun g hg hcand => ?_⟩
       rcases List.mem_append.1 hg with h1 | h1
       · exact ih2 g h1 hcand
       · obtain rfl := List.mem_singleton.1 h1
         cases s
         · simp at ht
         · refine ⟨rfl, ?_⟩
           by_cases hlt : b.sq < g.sq
           · exfalso
             unfold newF newerB at ht
             rw [if_neg (by omega)] at ht
             rw [decide_eq_true hlt] at ht
             simp at ht
           · show g.sq ≤ b.sq
             omega
theorem seqN_keeps (B tn ep : Int) : ∀ (L : List Fnd) (x : Int), x ≤ L.foldl (seqStep B tn ep) x ∧ ∀ f ∈ L, inH17 B tn ep f = true → f.sq < L.foldl (seqStep B tn ep) x
 | [], x => ⟨Int.le_refl _, fun f hf => by cases hf⟩
 | g :: L, x => by
   obtain ⟨h1, h2⟩ := seqN_keeps B tn ep L (seqStep B tn ep x g)
   have h3 : x ≤ seqStep B tn ep x g := by
     unfold seqStep
     split
     · rename_i hc
       simp only [Bool.and_eq_true, decide_eq_true_eq] at hc
       omega
     · exact Int.le_refl _
   refine ⟨Int.le_trans h3 h1, fun f hf hin => ?_⟩
   rcases List.mem_cons.1 hf with rfl | hf2
   · have h4 : f.sq < seqStep B tn ep x f := by
       unfold seqStep
       rw [hin]
       split
       · rename_i hc
         show f.sq < f.sq + 1
         omega
       · rename_i hc
         simp only [Bool.true_and, decide_eq_true_eq] at hc
         omega
     exact Int.lt_of_lt_of_le h4 h1
   · exact h2 f hf2 hin
theorem keeps17 (L : List Fnd) (B tn ep sz : Int) (f : Fnd) (hf : f ∈ cntL B tn ep sz L) :
   (bestN (cntL B tn ep sz L) (goN L (cntL B tn ep sz L) B.toNat) f.pl).2 = true ∧
   (bestN (cntL B tn ep sz L) (goN L (cntL B tn ep sz L) B.toNat) f.pl).1 ∈ cntL B tn ep sz L ∧
   (goN L (cntL B tn ep sz L) B.toNat).contains (bestN (cntL B tn ep sz L) (goN L (cntL B tn ep sz L) B.toNat) f.pl).1.bk = false ∧
   (bestN (cntL B tn ep sz L) (goN L (cntL B tn ep sz L) B.toNat) f.pl).1.pl = f.pl ∧
   f.sq ≤ (bestN (cntL B tn ep sz L) (goN L (cntL B tn ep sz L) B.toNat) f.pl).1.sq ∧ f.sq < seqN B tn ep L := by
 obtain ⟨A, hA⟩ : ∃ A, cntL B tn ep sz L = A := ⟨_, rfl⟩
 have hf0 := hf
 rw [hA] at hf ⊢
 obtain ⟨g, hg, h1, h2, h3⟩ := goN_keeps L A B.toNat f hf
 have hk := bestN_keeps (goN L A B.toNat) f.pl A A.length (Nat.le_refl _)
 rw [List.take_length] at hk
 obtain ⟨h4, h5⟩ := hk.2 g hg ⟨h3, h1⟩
 obtain ⟨h6, h7⟩ := hk.1 h4
 refine ⟨h4, h6, h7.1, h7.2, Int.le_trans h2 h5, ?_⟩
 have hin : f ∈ L ∧ inH17 B tn ep f = true := by
   unfold cntL at hf0
   obtain ⟨q1, q2⟩ := List.mem_filter.1 hf0
   unfold cntB at q2
   unfold inH17
   simp only [Bool.and_eq_true] at q2 ⊢
   exact ⟨q1, q2.1, q2.2.1, q2.2.2.1⟩
 exact (seqN_keeps B tn ep L 0).2 f hin.1 hin.2
end Go.Proofs.YtdnpdoipipfkoaaGreatDoor

namespace Go.Proofs.YtdnpdoipipfkoaaGreatDoor
set_option linter.unusedVariables false
set_option linter.unusedSimpArgs false
set_option linter.unusedVariables false
set_option linter.unusedSimpArgs false
set_option maxRecDepth 100000
open Go.RowKit
def rstR (c : SC) (l : List (Int × Int × Int)) (rs : List R14) : List R14 := l.foldl (fun rs s => setR c.bl.length c.S.pg rs s.1 s.2.1 s.2.2) rs
def cntC (c : SC) (L : List Fnd) : List Fnd := cntL c.bl.length c.who c.ep c.sz L
def goC (c : SC) (L : List Fnd) : List Int := goN L (cntC c L) c.bl.length
def rowC (c : SC) (L : List Fnd) : List R14 := rstR c (spotsN (cntC c L) (goC c L) 64) []
def seqC (c : SC) (L : List Fnd) : Int := seqN c.bl.length c.who c.ep L
section
variable {c : SC} {n : NS} {rs : List R14} {sq : Int} {L : List Fnd}
theorem Own.st {b j : Nat} {f : Fnd} (h : Own c n b j f) : (n.L (c.ph b).toNat j).st = 1 := by
 have := h.is.is
 rw [Int.toNat_natCast] at this
 rw [this]
theorem Own.mem (A : AllF c n L) {b j : Nat} {f : Fnd} (h : Own c n b j f) : f ∈ L := by
 obtain ⟨g, hg, _, _, h3⟩ := A.all b j h.bl h.mr (nextN_over h.pg (by rw [h.st]; decide))
 rcases h3 with ⟨_, h3⟩ | h3
 · rw [h.st] at h3; cases h3
 · rw [pgis_eq h.is h3.is]; exact hg
theorem Own.cnt (A : AllF c n L) {b j : Nat} {f : Fnd} (h : Own c n b j f) : f ∈ cntC c L := by
 have hb := h.bl
 have h1 := h.is.bk
 have h2 := h.pl
 unfold cntC cntL
 refine List.mem_filter.2 ⟨h.mem A, ?_⟩
 unfold cntB mineF
 simp only [Bool.and_eq_true, decide_eq_true_eq, Bool.not_eq_true', beq_iff_eq]
 exact ⟨by omega, by omega, ⟨h.is.torn, h.te, h.ep⟩, h2.2⟩
theorem cnt_own (A : AllF c n L) (W : Wr c n rs sq) {f : Fnd} (h : f ∈ cntC c L) : ∃ b j, Own c n b j f := by
 unfold cntC cntL at h
 obtain ⟨h1, h2⟩ := List.mem_filter.1 h
 unfold cntB mineF at h2
 simp only [Bool.and_eq_true, decide_eq_true_eq, Bool.not_eq_true', beq_iff_eq] at h2
 exact A.mem W h1 h2.2.2.1.1
theorem best_own (A : AllF c n L) (W : Wr c n rs sq) {p : Int} (h : (bestN (cntC c L) (goC c L) p).2 = true) : ∃ b j, Own c n b j (bestN (cntC c L) (goC c L) p).1 ∧ (bestN (cntC c L) (goC c L) p).1.pl = p ∧ (goC c L).contains (bestN (cntC c L) (goC c L) p).1.bk = false := by
 have hk := (bestN_keeps (goC c L) p (cntC c L) (cntC c L).length (Nat.le_refl _)).1
 rw [List.take_length] at hk
 obtain ⟨h1, h2, h3⟩ := hk h
 obtain ⟨b, j, h4⟩ := cnt_own A W h1
 exact ⟨b, j, h4, h3, h2⟩
theorem best_new (A : AllF c n L) {b j : Nat} {f : Fnd} (h : Own c n b j f) : (bestN (cntC c L) (goC c L) f.pl).2 = true ∧ f.sq ≤ (bestN (cntC c L) (goC c L) f.pl).1.sq ∧ f.sq < seqC c L := by
 have h1 := keeps17 L c.bl.length c.who c.ep c.sz f (h.cnt A)
 rw [Int.toNat_natCast] at h1
 exact ⟨h1.1, h1.2.2.2.2⟩
theorem rst_is (A : AllF c n L) (W : Wr c n rs sq) (hsz : c.sz ≤ 64) : ∀ k : Nat, RsB c (rstR c (spotsN (cntC c L) (goC c L) k) []) ∧
   ∀ r, r ∈ rstR c (spotsN (cntC c L) (goC c L) k) [] ↔ ∃ i : Nat, i < k ∧ (bestN (cntC c L) (goC c L) i).2 = true ∧ r = ⟨i, (bestN (cntC c L) (goC c L) i).1.bk, (bestN (cntC c L) (goC c L) i).1.pg⟩
 | 0 => ⟨⟨fun r hr => by simp [rstR, spotsN] at hr, by simp [rstR, spotsN], by simp [rstR, spotsN]⟩, fun r => by simp [rstR, spotsN]⟩
 | k + 1 => by
   obtain ⟨ih1, ih2⟩ := rst_is A W hsz k
   cases hb : (bestN (cntC c L) (goC c L) k).2
   · have e : spotsN (cntC c L) (goC c L) (k + 1) = spotsN (cntC c L) (goC c L) k := by rw [spotsN, hb, if_neg (by decide)]
     rw [e]
     refine ⟨ih1, fun r => (ih2 r).trans ⟨fun ⟨i, h1, h2⟩ => ⟨i, by omega, h2⟩, fun ⟨i, h1, h2, h3⟩ => ⟨i, ?_, h2, h3⟩⟩⟩
     have : i ≠ k := fun x => by subst x; rw [hb] at h2; cases h2
     omega
   · have e : spotsN (cntC c L) (goC c L) (k + 1) = spotsN (cntC c L) (goC c L) k ++ [((k : Int), (bestN (cntC c L) (goC c L) k).1.bk, (bestN (cntC c L) (goC c L) k).1.pg)] := by rw [spotsN, hb, if_pos rfl]
     have e2 : rstR c (spotsN (cntC c L) (goC c L) (k + 1)) [] = setR c.bl.length c.S.pg (rstR c (spotsN (cntC c L) (goC c L) k) []) k (bestN (cntC c L) (goC c L) k).1.bk (bestN (cntC c L) (goC c L) k).1.pg := by
       rw [e]
       unfold rstR
       rw [List.foldl_append]
       rfl
     obtain ⟨b, j, ho, hp, _⟩ := best_own A W hb
     have eb := ho.is.bk
     have ej := ho.is.at'
     have hbl := ho.bl
     have hpl := ho.pl
     rw [hp] at hpl
     rw [e2, eb, ej]
     obtain ⟨_, s2, s3⟩ := set_is hsz ih1 hpl (tg := (b : Int)) (i := j) (by omega) ho.pg (fun r hr ⟨h1, h2⟩ => by
       obtain ⟨i, x1, x2, x3⟩ := (ih2 r).1 hr
       obtain ⟨b', j', ho', hp', _⟩ := best_own A W x2
       rw [x3] at h1 h2
       simp only at h1 h2
       have y1 := ho'.is.bk
       have y2 := ho'.is.at'
       have z1 : b' = b := by omega
       have z2 : j' = j := by omega
       subst z1 z2
       have := pgis_eq ho.is ho'.is
       rw [← this, hp] at hp'
       omega)
     rw [s2]
     refine ⟨s3, fun r => ?_⟩
     rw [List.mem_append, List.mem_singleton, mem_clear, ih2 r]
     constructor
     · rintro (⟨⟨i, h1, h2⟩, _⟩ | rfl)
       · exact ⟨i, by omega, h2⟩
       · exact ⟨k, by omega, hb, by rw [eb, ej]⟩
     · rintro ⟨i, h1, h2, h3⟩
       by_cases hi : i = k
       · subst hi
         right
         rw [h3, eb, ej]
       · left
         refine ⟨⟨i, by omega, h2, h3⟩, ?_⟩
         rw [h3]
         show (i : Int) ≠ k
         omega
structure RowG (c : SC) (n : NS) (L : List Fnd) (rs' : List R14) : Prop where
 b : RsB c rs'
 is : ∀ r ∈ rs', ∃ b j f, Own c n b j f ∧ r = ⟨f.pl, b, j⟩ ∧ (goC c L).contains (b : Int) = false
 all : ∀ b j f, Own c n b j f → ∃ r ∈ rs', r.pl = f.pl ∧ ∃ b' j' g, Own c n b' j' g ∧ r = ⟨f.pl, b', j'⟩ ∧ g.pl = f.pl ∧ f.sq ≤ g.sq
theorem row_on (A : AllF c n L) (W : Wr c n rs sq) (hsz : c.sz ≤ 64) : RowG c n L (rowC c L) := by
 obtain ⟨h1, h2⟩ := rst_is A W hsz 64
 refine ⟨h1, fun r hr => ?_, fun b j f hf => ?_⟩
 · obtain ⟨i, _, x2, x3⟩ := (h2 r).1 hr
   obtain ⟨b, j, ho, hp, hg⟩ := best_own A W x2
   have eb := ho.is.bk
   have ej := ho.is.at'
   refine ⟨b, j, _, ho, by rw [x3, hp, eb, ej], by rw [← eb]; exact hg⟩
 · obtain ⟨a1, a2, _⟩ := best_new A hf
   have hpl := hf.pl
   have en : ((f.pl.toNat : Nat) : Int) = f.pl := by omega
   rw [← en] at a1 a2
   obtain ⟨b', j', ho, hp, _⟩ := best_own A W a1
   have eb := ho.is.bk
   have ej := ho.is.at'
   refine ⟨_, (h2 _).2 ⟨f.pl.toNat, by omega, a1, rfl⟩, en, b', j', _, ho, by rw [eb, ej, en], hp.trans en, a2⟩
theorem RowG.ok {rs' : List R14} (G : RowG c n L rs') (W : Wr c n rs sq) : RsOk c n rs' := by
 refine ⟨G.b.ok, G.b.pls, G.b.pgs, fun r hr => ?_, fun r hr => ?_⟩
 · obtain ⟨b, j, f, ho, rfl, _⟩ := G.is r hr
   exact ho.mr
 · obtain ⟨b, j, f, ho, rfl, _⟩ := G.is r hr
   exact ⟨f, ho.is, rfl⟩
theorem RowG.wr {rs' : List R14} (G : RowG c n L rs') (A : AllF c n L) (W : Wr c n rs sq) : Wr c n rs' (seqC c L) :=
 ⟨G.ok W, W.pg, fun b j f hf => by
   obtain ⟨r, h1, h2, b', j', g, h3, h4, _, h6⟩ := G.all b j f hf
   exact ⟨(best_new A hf).2.2, r, h1, h2, g, by rw [h4]; exact h3.is, h6⟩, W.tw⟩
theorem RowG.plc {rs' : List R14} (G : RowG c n L rs') (W : Wr c n rs sq) {q : Int} {d : ByteArray} (h : Plc c n rs q d) : Plc c n rs' q d := by
 rcases h with ⟨k, d0, ⟨r, h1, h2, f, h3, h4, h5, h6⟩, h7⟩ | ⟨h1, h2⟩
 · obtain ⟨f', ho, hf', _⟩ := W.row h1
   obtain rfl := pgis_eq hf' h3
   obtain ⟨r', x1, x2, b', j', g, x3, x4, x5, x6⟩ := G.all _ _ _ ho
   obtain ⟨_, r2, y1, y2, g2, y3, y4⟩ := W.top _ _ _ x3
   have er : r2 = r := by
     refine nodup_inj W.R.pls y1 h1 ?_
     rw [y2, x5, h4, h2]
   rw [er] at y3
   rw [pgis_eq y3 hf'] at y4
   obtain ⟨z1, z2, z3⟩ := W.tw _ _ _ _ _ _ ho x3 (by omega)
   exact .inl ⟨k, d0, ⟨r', x1, by rw [x2, h4], g, by rw [x4]; exact x3.is, by rw [x5, h4], by rw [← z2, h5], by rw [← z3, h6]⟩, h7⟩
 · refine .inr ⟨fun r hr e => ?_, h2⟩
   obtain ⟨b, j, f, ho, rfl, _⟩ := G.is r hr
   obtain ⟨_, r2, y1, y2, _⟩ := W.top _ _ _ ho
   exact h1 r2 y1 (y2.trans e)
end
end Go.Proofs.YtdnpdoipipfkoaaGreatDoor

namespace Go.Proofs.YtdnpdoipipfkoaaGreatDoor
set_option linter.unusedVariables false
set_option linter.unusedSimpArgs false
set_option linter.unusedVariables false
set_option linter.unusedSimpArgs false
set_option maxRecDepth 100000
open Go.RowKit
def eraA (c : SC) : List Int → SM → Int × SM
 | [], m => (0, m)
 | b :: l, m => if m.ro then (0, m) else if hasS c b = false ∨ badB c m b.toNat = true then eraA c l m
     else if eraE c m b ≠ 0 ∧ eraE c m b ≠ 13 then (eraE c m b, eraM c m b) else eraA c l (eraM c m b)
structure ErP (c : SC) (b : Nat) (rs : List R14) (sq : Int) (m : SM) (e : Int) (m' : SM) : Prop where
 W : Wr c m'.n rs sq
 hold : ∀ r ∈ rs, m'.n.L (c.ph r.bk).toNat = m.n.L (c.ph r.bk).toNat
 rs : m'.rs = m.rs
 q : m'.q = m.q
 sq : m'.sq = m.sq
 fr : m'.fr = m.fr
 one : OneN c b m.n m'.n
 res : ∃ d : Nat, badN c m' = badN c m + d ∧ sprN c m' + d = sprN c m ∧
   ((e = 0 ∧ m'.n.off = false ∧ m'.ro = m.ro ∧ m'.n.M c.who.toNat = m.n.M c.who.toNat + d ∧ nbB c m'.n b = false)
     ∨ (nbB c m'.n b = true ∧ ((e = 13 ∧ m'.n.off = false ∧ m'.ro = true ∧ m'.n.M c.who.toNat = m.n.M c.who.toNat + d + 1 ∧ c.sp ≤ badN c m') ∨ (e = 12 ∧ m'.n.off = true ∧ m'.ro = m.ro ∧ m.n.M c.who.toNat + d ≤ m'.n.M c.who.toNat))))
theorem era_on {c : SC} (hw : 0 ≤ c.who ∧ c.who < 4) (hpg : 0 < c.S.pg) (hB : BlOk c) (hN : c.bl.Nodup) {b : Nat} {m : SM} {rs : List R14} {sq : Int} (h : m.n.off = false) (W : Wr c m.n rs sq) (hbl : b < c.bl.length) (hb0 : badB c m b = false) (hr : ∀ r ∈ rs, r.bk ≠ b) :
   ErP c b rs sq m (eraE c m b) (eraM c m b) := by
 have hph := hB.ph (b := (b : Int)) (by omega)
 have hx : c.ph b = ((c.ph b).toNat : Int) := by omega
 have E := ers_on (c := c) h hw (x := (c.ph b).toNat) (by omega) hb0
 rw [← hx] at E
 have hO := other_L W.R hB hN (tg := (b : Int)) (by omega) E.other
 unfold eraE eraM
 generalize ersE c.S c.zs m.n c.who (c.ph b) = e2 at *
 generalize ersS c.S c.zs m.n c.who (c.ph b) = n2 at *
 have O2 : OneB c b m { m with n := n2 } := ⟨E.other, fun x _ => by show n2.mr x = _; rw [E.mr]⟩
 have N2 : OneN c b m.n n2 := ⟨E.other, fun x _ => by rw [E.mr]⟩
 have hbad2 : badN c { m with n := n2 } = badN c m := bad_same O2 hB hN hbl (by show n2.mr _ = _; rw [E.mr]; rfl)
 have hspr2 : sprN c { m with n := n2 } = sprN c m := spr_same hbad2
 have W2 : Wr c n2 rs sq := W.lose hB hN hbl hr E.other (fun x _ => by rw [E.mr]) (fun _ => ⟨hb0, fun j hj => by
   rcases E.res with ⟨_, _, a, _⟩ | ⟨a, _⟩
   · exact .inr (.inl (by rw [a j hj]; rfl))
   · exact .inr (.inr (by rw [a j hj]; rfl))⟩)
 have hh2 : ∀ r ∈ rs, n2.L (c.ph r.bk).toNat = m.n.L (c.ph r.bk).toNat := fun r h1 => hO r h1 (hr r h1)
 rcases E.res with ⟨q0, qo, q1, q2⟩ | ⟨q1, q0⟩
 · rw [if_pos (by rw [q0]; decide), if_pos (by rw [q0]; decide)]
   have hz : nextN (n2.L (c.ph b).toNat) c.S.pg = 0 := nextN_zero18 (fun j hj => by rw [q1 j hj]; rfl)
   exact ⟨W2, hh2, rfl, rfl, rfl, rfl, N2, 0, hbad2, by rw [hspr2]; omega, .inl ⟨q0, qo, rfl, by simp only; omega, by rw [Bool.eq_false_iff]; intro e; exact (nbB_iff.1 e).2 hz⟩⟩
 · have hnz : nextN (n2.L (c.ph b).toNat) c.S.pg ≠ 0 := torn_next hpg q1
   have hnb2 : nbB c n2 b = true := nbB_iff.2 ⟨by rw [E.mr]; exact hb0, hnz⟩
   rcases q0 with ⟨q0, qo, q2⟩ | ⟨q0, qo, q2⟩
   · rw [if_neg (by rw [q0]; decide), if_neg (by rw [q0]; decide)]
     unfold giveE giveM
     by_cases hsp : sprN c { m with n := n2 } > 0
     · rw [if_pos hsp, if_pos hsp]
       obtain ⟨k2, k3, k4⟩ := mark_on (S := c.S) qo (x := (c.ph b).toNat) (by omega) (by omega)
       rw [← hx] at k2 k3 k4
       simp only
       rcases k4 with ⟨k0, ko, k6⟩ | ⟨k0, ko, k6⟩
       · generalize markS c.S n2 (c.ph b) = n3 at *
         have O3 : OneB c b m { m with n := n3 } := ⟨fun x hx => by show n3.L x = _; rw [k2]; exact E.other x hx, fun x hx => by show n3.mr x = _; rw [k6]; simp only; rw [if_neg hx, E.mr]⟩
         have N3 : OneN c b m.n n3 := ⟨O3.L, O3.mr⟩
         have hb3 : n3.mr (c.ph b).toNat = true := by rw [k6]; simp
         have hbad3 := bad_one O3 hB hN hbl hb0 (show badB c { m with n := n3 } b = true from hb3)
         have hspr3 := spr_one hbad3 (by omega)
         have W3 : Wr c n3 rs sq := W.lose hB hN hbl hr N3.L N3.mr (fun e => by rw [hb3] at e; cases e)
         exact ⟨W3, fun r h1 => by show n3.L _ = _; rw [k2]; exact hh2 r h1, rfl, rfl, rfl, rfl, N3, 1, hbad3, by rw [hspr3]; omega, .inl ⟨k0, ko, rfl, by simp only; rw [k3]; omega, by rw [Bool.eq_false_iff]; intro e; have := (nbB_iff.1 e).1; rw [hb3] at this; cases this⟩⟩
       · generalize markS c.S n2 (c.ph b) = n3 at *
         have e3 : nbB c n3 b = nbB c n2 b := by unfold nbB; rw [k2, k6]
         have hbad3 : badN c { m with n := n3 } = badN c { m with n := n2 } := by
           unfold badN badB
           rw [show ({ m with n := n3 } : SM).n = n3 from rfl, show ({ m with n := n2 } : SM).n = n2 from rfl, k6]
         have hs3 := spr_same hbad3
         have W3 : Wr c n3 rs sq := W2.less (fun b j hb hm hj => ⟨by rw [← k6]; exact hm, .inl (by rw [k2])⟩) (fun r _ => ⟨by rw [k6], by rw [k2]⟩)
         exact ⟨W3, fun r h1 => by show n3.L _ = _; rw [k2]; exact hh2 r h1, rfl, rfl, rfl, rfl, ⟨fun x hx => by show n3.L x = _; rw [k2]; exact E.other x hx, fun x hx => by show n3.mr x = _; rw [k6, E.mr]⟩, 0, hbad3.trans hbad2, by rw [hs3, hspr2]; omega, .inr ⟨by show nbB c n3 b = true; rw [e3]; exact hnb2, .inr ⟨k0, ko, rfl, by show _ ≤ n3.M c.who.toNat; rw [k3]; omega⟩⟩⟩
     · rw [if_neg hsp, if_neg hsp]
       have hlo := spr_low (Int.le_refl 0) hsp
       rw [Int.add_zero] at hlo
       exact ⟨W2, hh2, rfl, rfl, rfl, rfl, N2, 0, hbad2, (Int.add_zero _).trans hspr2, .inr ⟨hnb2, .inl ⟨rfl, qo, rfl, by simp only; omega, hlo⟩⟩⟩
   · rw [if_pos (by rw [q0]; decide), if_pos (by rw [q0]; decide)]
     exact ⟨W2, hh2, rfl, rfl, rfl, rfl, N2, 0, hbad2, (Int.add_zero _).trans hspr2, .inr ⟨hnb2, .inr ⟨q0, qo, rfl, by simp only; omega⟩⟩⟩
structure ErA (c : SC) (l : List Nat) (rs : List R14) (sq : Int) (m : SM) (e : Int) (m' : SM) : Prop where
 W : Wr c m'.n rs sq
 hold : ∀ r ∈ rs, m'.n.L (c.ph r.bk).toNat = m.n.L (c.ph r.bk).toNat
 rs : m'.rs = m.rs
 q : m'.q = m.q
 sq : m'.sq = m.sq
 fr : m'.fr = m.fr
 nb : ∀ x, x < c.bl.length → nbB c m'.n x = true → nbB c m.n x = true
 res : ∃ d : Nat, badN c m' = badN c m + d ∧ sprN c m' + d = sprN c m ∧
   ((e = 0 ∧ m'.n.off = false ∧ m'.ro = false ∧ m'.n.M c.who.toNat = m.n.M c.who.toNat + d ∧ ∀ b ∈ l, nbB c m'.n b = false)
     ∨ ((∃ t ∈ l, nbB c m'.n t = true) ∧ ((e = 0 ∧ m'.n.off = false ∧ m'.ro = true ∧ m'.n.M c.who.toNat = m.n.M c.who.toNat + d + 1 ∧ c.sp ≤ badN c m') ∨ (e = 12 ∧ m'.n.off = true ∧ m'.ro = false ∧ m.n.M c.who.toNat + d ≤ m'.n.M c.who.toNat))))
theorem eraA_on {c : SC} (hw : 0 ≤ c.who ∧ c.who < 4) (hpg : 0 < c.S.pg) (hB : BlOk c) (hN : c.bl.Nodup) {rs : List R14} {sq : Int} : ∀ (l : List Nat) (m : SM), m.n.off = false → m.ro = false → Wr c m.n rs sq → l.Nodup → (∀ b ∈ l, b < c.bl.length ∧ nbB c m.n b = true ∧ ∀ r ∈ rs, r.bk ≠ b) →
   ErA c l rs sq m (eraA c (l.map fun b : Nat => (b : Int)) m).1 (eraA c (l.map fun b : Nat => (b : Int)) m).2
 | [], m, h, hro, W, _, _ => ⟨W, fun _ _ => rfl, rfl, rfl, rfl, rfl, fun _ _ h => h, 0, rfl, Int.add_zero _, .inl ⟨rfl, h, hro, (Int.add_zero _).symm, fun b hb => by cases hb⟩⟩
 | b :: l, m, h, hro, W, hd, hl => by
   obtain ⟨hbl, hnb, hrb⟩ := hl b (by simp)
   rw [List.nodup_cons] at hd
   have hb0 : badB c m b = false := (nbB_iff.1 hnb).1
   have P := era_on hw hpg hB hN h W hbl hb0 hrb
   have hs : hasS c (b : Int) = true := by unfold hasS; simp; omega
   rw [List.map_cons]
   unfold eraA
   rw [hro, if_neg (by decide), if_neg (by rw [hs, Int.toNat_natCast, hb0]; simp)]
   generalize eraE c m b = e1 at *
   generalize eraM c m b = m1 at *
   have hnbm : ∀ x, x < c.bl.length → nbB c m1.n x = true → nbB c m.n x = true := fun x hx h1 => by
     by_cases e : x = b
     · rw [e]; exact hnb
     · rw [← P.one.nb hB hN hbl hx e]; exact h1
   obtain ⟨d, d1, d2, d3⟩ := P.res
   rcases d3 with ⟨g0, go, g1, g2, g3⟩ | ⟨g3, ⟨g0, go, g1, g2, g4⟩ | ⟨g0, go, g1, g2⟩⟩
   · rw [if_neg (by rw [g0]; simp)]
     have R := eraA_on hw hpg hB hN l m1 go (g1.trans hro) P.W hd.2 (fun x hx => by
       obtain ⟨y1, y2, y3⟩ := hl x (by simp [hx])
       refine ⟨y1, ?_, y3⟩
       rw [P.one.nb hB hN hbl y1 (fun e => hd.1 (by rw [← e]; exact hx))]
       exact y2)
     generalize (eraA c (l.map fun b : Nat => (b : Int)) m1).1 = e2 at *
     generalize (eraA c (l.map fun b : Nat => (b : Int)) m1).2 = m2 at *
     obtain ⟨f, f1, f2, f3⟩ := R.res
     refine ⟨R.W, fun r hr => (R.hold r hr).trans (P.hold r hr), R.rs.trans P.rs, R.q.trans P.q, R.sq.trans P.sq, R.fr.trans P.fr, fun x hx h1 => hnbm x hx (R.nb x hx h1), d + f, by omega, by omega, ?_⟩
     rcases f3 with ⟨a0, a1, a2, a3, a4⟩ | ⟨⟨t, ht, a4⟩, a⟩
     · refine .inl ⟨a0, a1, a2, by omega, fun x hx => ?_⟩
       rcases List.mem_cons.1 hx with rfl | hx
       · rw [Bool.eq_false_iff]
         intro e
         rw [R.nb x hbl e] at g3
         cases g3
       · exact a4 x hx
     · refine .inr ⟨⟨t, by simp [ht], a4⟩, ?_⟩
       rcases a with ⟨a0, a1, a2, a3, a5⟩ | ⟨a0, a1, a2, a3⟩
       · exact .inl ⟨a0, a1, a2, by omega, by omega⟩
       · exact .inr ⟨a0, a1, a2, by omega⟩
   · rw [if_neg (by rw [g0]; simp)]
     have e2 : eraA c (l.map fun b : Nat => (b : Int)) m1 = (0, m1) := by
       cases l with
       | nil => rfl
       | cons y l => rw [List.map_cons, eraA, g1, if_pos rfl]
     rw [e2]
     exact ⟨P.W, P.hold, P.rs, P.q, P.sq, P.fr, hnbm, d, d1, d2, .inr ⟨⟨b, by simp, g3⟩, .inl ⟨rfl, go, g1, g2, g4⟩⟩⟩
   · rw [if_pos (by rw [g0]; decide)]
     exact ⟨P.W, P.hold, P.rs, P.q, P.sq, P.fr, hnbm, d, d1, d2, .inr ⟨⟨b, by simp, g3⟩, .inr ⟨g0, go, g1.trans hro, g2⟩⟩⟩
theorem filter_fewer {t : Nat} {p q : Nat → Bool} {n : Nat} (ht : t < n) (hp : p t = false) (hq : q t = true) (h : ∀ x, x < n → p x = true → q x = true) : ((List.range n).filter p).length + 1 ≤ ((List.range n).filter q).length := by
 have h1 := filter_one (t := t) (p := fun x => p x || x == t) (q := p) (by simp) hp ht (fun x _ hne => by simp [hne])
 have h2 := filter_less (t := n) (p := fun x => p x || x == t) (q := q) (n := n) (fun x hx _ hx2 => by
   simp only [Bool.or_eq_true, beq_iff_eq] at hx2
   rcases hx2 with hx2 | rfl
   · exact h x hx hx2
   · exact hq)
 rw [if_neg (by omega)] at h2
 omega
theorem ErA.kp {c : SC} {l : List Nat} {rs rs0 : List R14} {sq : Int} {m m' : SM} {e : Int} {N : Int} (P : ErA c l rs sq m e m') (K : Kp c m.n rs0 N) (hl : ∀ b ∈ l, b < c.bl.length ∧ nbB c m.n b = true ∧ ∀ r ∈ rs, r.bk ≠ b) (hgo : (∃ t : Nat, t < c.bl.length ∧ nbB c m.n t = true ∧ ∀ r ∈ rs0, r.bk ≠ t) → l ≠ []) :
   Kp c m'.n rs N ∧ (e = 0 → m'.ro = false → (NBn c m'.n : Int) ≤ N) := by
 have hle : NBn c m'.n ≤ NBn c m.n := by
   have := filter_less (t := c.bl.length) (p := nbB c m'.n) (q := nbB c m.n) (n := c.bl.length) (fun x hx _ h1 => P.nb x hx h1)
   rw [if_neg (by omega)] at this
   exact this
 obtain ⟨d, _, _, d3⟩ := P.res
 rcases d3 with ⟨_, _, _, _, g4⟩ | ⟨⟨t, ht, g⟩, g2⟩
 · have hN : (NBn c m'.n : Int) ≤ N := by
     rcases K with K | ⟨K, t, k1, k2, k3⟩
     · omega
     · cases l with
       | nil => exact absurd rfl (hgo ⟨t, k1, k2, k3⟩)
       | cons b l =>
         obtain ⟨y1, y2, _⟩ := hl b (by simp)
         have := filter_fewer y1 (g4 b (by simp)) y2 (fun x hx h1 => P.nb x hx h1)
         have e1 : NBn c m'.n + 1 ≤ NBn c m.n := this
         omega
   exact ⟨.inl hN, fun _ _ => hN⟩
 · have hN : (NBn c m'.n : Int) ≤ N + 1 := by
     rcases K with K | ⟨K, _⟩ <;> omega
   refine ⟨.inr ⟨hN, t, (hl t ht).1, g, (hl t ht).2.2⟩, fun h1 h2 => ?_⟩
   rcases g2 with ⟨_, _, a, _⟩ | ⟨a, _⟩
   · rw [a] at h2; cases h2
   · rw [a] at h1; cases h1
end Go.Proofs.YtdnpdoipipfkoaaGreatDoor

namespace Go.Proofs.YtdnpdoipipfkoaaGreatDoor
set_option linter.unusedVariables false
set_option linter.unusedSimpArgs false
set_option linter.unusedVariables false
set_option linter.unusedSimpArgs false
set_option maxRecDepth 100000
open Go.RowKit
def begB (c : SC) (m : SM) (b : Nat) : Bool := decide (0 < nextB c m b) && (decide (nextB c m b < c.S.pg) && !badB c m b)
def begN (c : SC) (m : SM) : Int := match (List.range c.bl.length).find? (begB c m) with | some b => (b : Int) | none => -1
def resE (c : SC) (L : List Fnd) (m : SM) : Int := (eraA c (goC c L) m).1
def resM (c : SC) (L : List Fnd) (m : SM) : SM := if (eraA c (goC c L) m).1 ≠ 0 then (eraA c (goC c L) m).2 else { (eraA c (goC c L) m).2 with rs := rowC c L, sq := seqC c L, fr := begN c (eraA c (goC c L) m).2 }
def newM (n : NS) : SM := ⟨n, [], [], 0, -1, false⟩
theorem go_list (L A : List Fnd) : ∀ k : Nat, ∃ l : List Nat, goN L A k = l.map (fun b : Nat => (b : Int)) ∧ l.Pairwise (· < ·) ∧ ∀ b ∈ l, b < k ∧ someB L b = true
 | 0 => ⟨[], rfl, List.Pairwise.nil, fun b hb => by cases hb⟩
 | k + 1 => by
   obtain ⟨l, h1, h2, h3⟩ := go_list L A k
   show ∃ l : List Nat, goStep L A (goN L A k) k = _ ∧ _
   unfold goStep
   split
   · rename_i hc
     simp only [Bool.and_eq_true] at hc
     refine ⟨l ++ [k], by rw [h1, List.map_append]; rfl, ?_, fun b hb => ?_⟩
     · rw [List.pairwise_append]
       refine ⟨h2, by simp, fun x hx y hy => ?_⟩
       rw [List.mem_singleton.1 hy]
       exact (h3 x hx).1
     · rcases List.mem_append.1 hb with hb | hb
       · have := h3 b hb
         exact ⟨by omega, this.2⟩
       · rw [List.mem_singleton.1 hb]
         exact ⟨by omega, hc.1⟩
   · exact ⟨l, h1, h2, fun b hb => ⟨by have := h3 b hb; omega, (h3 b hb).2⟩⟩
theorem go_grow (L A : List Fnd) (k : Nat) : ∀ d : Nat, ∃ l, goN L A (k + d) = goN L A k ++ l
 | 0 => ⟨[], by simp⟩
 | d + 1 => by
   obtain ⟨l, h⟩ := go_grow L A k d
   show ∃ l, goStep L A (goN L A (k + d)) ((k + d : Nat) : Int) = _
   unfold goStep
   split
   · exact ⟨l ++ [((k + d : Nat) : Int)], by rw [h, List.append_assoc]⟩
   · exact ⟨l, h⟩
theorem seq_le {B tn ep sq : Int} : ∀ (L : List Fnd) (x : Int), x ≤ sq → (∀ f ∈ L, inH17 B tn ep f = true → f.sq < sq) → L.foldl (seqStep B tn ep) x ≤ sq
 | [], _, h, _ => h
 | f :: L, x, h, hl => by
   refine seq_le L _ ?_ (fun g hg => hl g (by simp [hg]))
   unfold seqStep
   split
   · rename_i hc
     simp only [Bool.and_eq_true] at hc
     have := hl f (by simp) hc.1
     omega
   · exact h
theorem filter_three {p q r : Nat → Bool} : ∀ {n : Nat}, (∀ x, x < n → (p x = true ∧ q x = false ∧ r x = false) ∨ (p x = false ∧ q x = true ∧ r x = false) ∨ (p x = false ∧ q x = false ∧ r x = true)) →
   ((List.range n).filter p).length + ((List.range n).filter q).length + ((List.range n).filter r).length = n
 | 0, _ => by simp
 | n + 1, h => by
   have ih := filter_three (p := p) (q := q) (r := r) (n := n) (fun x hx => h x (by omega))
   rw [List.range_succ, List.filter_append, List.filter_append, List.filter_append, List.length_append, List.length_append, List.length_append]
   rcases h n (by omega) with ⟨a, b, d⟩ | ⟨a, b, d⟩ | ⟨a, b, d⟩
   · simp [a, b, d]; omega
   · simp [a, b, d]; omega
   · simp [a, b, d]; omega
section
variable {c : SC} {n : NS} {rs : List R14} {sq : Int} {L : List Fnd}
theorem some_nb (A : AllF c n L) {b : Nat} (h : someB L b = true) : b < c.bl.length ∧ nbB c n b = true := by
 unfold someB at h
 obtain ⟨f, hf, hb⟩ := List.any_eq_true.1 h
 have hb := eq_of_beq hb
 obtain ⟨b', j, h1, h2, h3, h4, _⟩ := A.of f hf
 obtain rfl : b' = b := by omega
 exact ⟨h1, nbB_iff.2 ⟨h2, by omega⟩⟩
theorem go_some (A : AllF c n L) (W : Wr c n rs sq) {t : Nat} (ht : t < c.bl.length) (hn : nbB c n t = true) (hr : ∀ r ∈ rs, r.bk ≠ t) : goC c L ≠ [] := by
 intro h0
 obtain ⟨hm, hx⟩ := nbB_iff.1 hn
 have h1 : goN L (cntC c L) (t + 1) = [] := by
   obtain ⟨l, hl⟩ := go_grow L (cntC c L) (t + 1) (c.bl.length - (t + 1))
   rw [show t + 1 + (c.bl.length - (t + 1)) = c.bl.length by omega] at hl
   unfold goC at h0
   rw [hl, List.append_eq_nil_iff] at h0
   exact h0.1
 have h2 : goN L (cntC c L) t = [] := by
   obtain ⟨l, hl⟩ := go_grow L (cntC c L) t 1
   rw [hl, List.append_eq_nil_iff] at h1
   exact h1.1
 have h3 : goStep L (cntC c L) (goN L (cntC c L) t) t = [] := h1
 rw [h2] at h3
 unfold goStep at h3
 have hs : someB L t = true := by
   obtain ⟨f, hf, hb, _⟩ := A.all t 0 ht hm (by omega)
   unfold someB
   exact List.any_eq_true.2 ⟨f, hf, by rw [hb]; simp⟩
 have hg : mayG (cntC c L) (cntC c L) [] t = true := by
   unfold mayG
   refine List.all_eq_true.2 fun f hf => ?_
   unfold mayP
   by_cases e : f.bk = t
   · obtain ⟨b, j, ho⟩ := cnt_own A W hf
     obtain ⟨_, r, y1, y2, g, y3, y4⟩ := W.top _ _ _ ho
     obtain ⟨g', z1, z2, z3⟩ := W.row y1
     obtain rfl := pgis_eq z2 y3
     have hk := W.R.ok r y1
     have hne := hr r y1
     have hgb := y3.bk
     rw [Bool.or_eq_true]
     right
     unfold othB
     refine List.any_eq_true.2 ⟨g', z1.cnt A, ?_⟩
     unfold othP
     simp only [Bool.and_eq_true, bne_iff_ne, Bool.not_eq_true', beq_iff_eq, decide_eq_true_eq]
     exact ⟨by rw [hgb]; exact hne, by simp, z3.trans y2, y4⟩
   · rw [Bool.or_eq_true]
     left
     simpa using e
 rw [hs, hg, Bool.true_and, if_pos rfl] at h3
 simp at h3
theorem go_is (A : AllF c n L) (G : RowG c n L (rowC c L)) : ∃ l : List Nat, goC c L = l.map (fun b : Nat => (b : Int)) ∧ l.Pairwise (· < ·) ∧ ∀ b ∈ l, b < c.bl.length ∧ nbB c n b = true ∧ ∀ r ∈ rowC c L, r.bk ≠ b := by
 obtain ⟨l, h1, h2, h3⟩ := go_list L (cntC c L) c.bl.length
 refine ⟨l, h1, h2, fun b hb => ?_⟩
 obtain ⟨a1, a2⟩ := some_nb A (h3 b hb).2
 refine ⟨a1, a2, fun r hr e => ?_⟩
 obtain ⟨b', j, f, _, rfl, hg⟩ := G.is r hr
 have e2 : (b' : Int) = b := e
 rw [e2] at hg
 rw [Bool.eq_false_iff] at hg
 exact hg (List.contains_iff_mem.2 (by unfold goC; rw [h1]; exact List.mem_map.2 ⟨b, hb, rfl⟩))
theorem beg_is (m : SM) : begN c m = -1 ∨ ∃ t : Nat, begN c m = t ∧ t < c.bl.length ∧ badB c m t = false ∧ nextB c m t ≠ 0 := by
 unfold begN
 cases h : (List.range c.bl.length).find? (begB c m) with
 | none => exact .inl rfl
 | some b =>
   have h1 := List.mem_range.1 (List.mem_of_find?_eq_some h)
   have h2 := List.find?_some h
   unfold begB at h2
   simp only [Bool.and_eq_true, decide_eq_true_eq, Bool.not_eq_true'] at h2
   exact .inr ⟨b, rfl, h1, h2.2.2, by omega⟩
theorem beg_live {m : SM} (hfr : m.fr = begN c m) (sm : (badN c m : Int) + sprN c m = c.sp) (hN : (NBn c m.n : Int) ≤ c.bl.length - c.sp - 1) : Live c m := by
 have hb := beg_is (c := c) m
 refine ⟨?_, ?_⟩
 · rcases hb with h | ⟨t, h1, h2, h3, _⟩
   · exact .inl (hfr.trans h)
   · exact .inr ⟨t, hfr.trans h1, h2, h3⟩
 · have h3 := filter_three (p := badB c m) (q := nbB c m.n) (r := freeB c m) (n := c.bl.length) (fun x hx => by
     unfold freeB
     cases hx1 : badB c m x
     · have hx2 : m.n.mr (c.ph x).toNat = false := hx1
       by_cases hz : nextB c m x = 0
       · right; right
         refine ⟨rfl, ?_, ?_⟩
         · rw [Bool.eq_false_iff]; intro e; exact (nbB_iff.1 e).2 hz
         · have hne : (x : Int) ≠ m.fr := fun e => by
             rcases hb with h | ⟨t, h1, _, _, h4⟩
             · omega
             · have : t = x := by omega
               rw [this] at h4
               exact h4 hz
           simp [hne, hz]
       · right; left
         refine ⟨rfl, nbB_iff.2 ⟨hx2, hz⟩, by simp [hz]⟩
     · left
       refine ⟨rfl, ?_, by simp⟩
       rw [Bool.eq_false_iff]
       intro e
       have := (nbB_iff.1 e).1
       have hx2 : m.n.mr (c.ph x).toNat = true := hx1
       rw [hx2] at this
       cases this)
   rw [freeL_len]
   have e1 : ((List.range c.bl.length).filter (badB c m)).length = badN c m := rfl
   have e2 : ((List.range c.bl.length).filter (nbB c m.n)).length = NBn c m.n := rfl
   omega
end
structure OpG (c : SC) (n : NS) (rs : List R14) (sq : Int) (e : Int) (m : SM) : Prop where
 res : (e = 0 ∧ SG c m ∧ m.q = [] ∧ m.sq ≤ sq ∧ ∀ q d, Plc c n rs q d → Plc c m.n m.rs q d) ∨ (e = 12 ∧ ∃ m' : SM, m'.n = m.n ∧ CG c m' ∧ m'.sq ≤ sq ∧ ∀ q d, Plc c n rs q d → Plc c m'.n m'.rs q d)
theorem opn_on {c : SC} (st : Stt c) {n : NS} {rs : List R14} {sq : Int} (ho : n.off = false) (W : Wr c n rs sq) (hd : Dns c.S n) (sm : (badN c (newM n) : Int) + sprN c (newM n) = c.sp) (mf : (badN c (newM n) : Int) ≤ n.M c.who.toNat) (hs : 0 ≤ sq) (K : Kp c n rs (c.bl.length - c.sp - 1)) :
   (pagesR c.S n c.bl).2 = 0 ∧ OpG c n rs sq (resE c (pagesR c.S n c.bl).1 (newM n)) (resM c (pagesR c.S n c.bl).1 (newM n)) := by
 obtain ⟨h0, A⟩ := pages_on W ho st.hB hd
 refine ⟨h0, ?_⟩
 generalize (pagesR c.S n c.bl).1 = L at *
 have G := row_on A W st.sz.2
 have W' := G.wr A W
 obtain ⟨l, l1, l2, l3⟩ := go_is A G
 have hpg := st.pg
 have P := eraA_on st.hw (by omega) st.hB st.hN (rs := rowC c L) (sq := seqC c L) l (newM n) ho rfl W' (l2.imp (fun h => by omega)) l3
 obtain ⟨K1, K2⟩ := P.kp K l3 (fun ⟨t, t1, t2, t3⟩ e => go_some A W t1 t2 t3 (by rw [l1, e]; rfl))
 have hq0 : 0 ≤ seqC c L := (seqN_keeps _ _ _ L 0).1
 have hq1 : seqC c L ≤ sq := seq_le L 0 hs (fun f hf hin => by
   unfold inH17 mineF at hin
   simp only [Bool.and_eq_true, decide_eq_true_eq, Bool.not_eq_true'] at hin
   obtain ⟨b, j, ho⟩ := A.mem W hf hin.2.2.1
   exact (W.top b j f ho).1)
 have hP : ∀ q d, Plc c n rs q d → Plc c (eraA c (l.map fun b : Nat => (b : Int)) (newM n)).2.n (rowC c L) q d := fun q d h => by
   have h1 := G.plc W h
   refine h1.move (fun q k d h => h.keep P.hold) (fun r hr => ⟨r, hr, rfl⟩)
 unfold resE resM
 rw [l1]
 generalize (eraA c (l.map fun b : Nat => (b : Int)) (newM n)).1 = e at *
 generalize (eraA c (l.map fun b : Nat => (b : Int)) (newM n)).2 = m at *
 obtain ⟨d, d1, d2, d3⟩ := P.res
 have eM : (newM n).n.M = n.M := rfl
 rw [eM] at d3
 have hsp := spr_nn c m
 have hro : (e = 0 ∧ m.n.off = false ∧ ((m.ro = false ∧ m.n.M c.who.toNat = n.M c.who.toNat + d) ∨ (m.ro = true ∧ m.n.M c.who.toNat = n.M c.who.toNat + d + 1 ∧ c.sp ≤ badN c m))) ∨ (e = 12 ∧ m.n.off = true ∧ n.M c.who.toNat + d ≤ m.n.M c.who.toNat) := by
   rcases d3 with ⟨a0, a1, a2, a3, _⟩ | ⟨_, ⟨a0, a1, a2, a3, a4⟩ | ⟨a0, a1, _, a3⟩⟩
   · exact .inl ⟨a0, a1, .inl ⟨a2, a3⟩⟩
   · exact .inl ⟨a0, a1, .inr ⟨a2, a3, a4⟩⟩
   · exact .inr ⟨a0, a1, a3⟩
 rcases hro with ⟨e0, eo, er⟩ | ⟨e0, eo, er⟩
 · rw [if_neg (by rw [e0]; decide)]
   have sm' : (badN c { m with rs := rowC c L, sq := seqC c L, fr := begN c m } : Int) + sprN c { m with rs := rowC c L, sq := seqC c L, fr := begN c m } = c.sp := by
     show (badN c m : Int) + sprN c m = c.sp
     omega
   refine ⟨.inl ⟨e0, ⟨eo, P.W, sm', ?_, hq0, fun hr => ?_, fun hr => ?_, K1, by simp only; rw [P.q]; exact Nat.zero_le _, fun x hx => ?_⟩, P.q, hq1, hP⟩⟩
   · show (badN c m : Int) ≤ m.n.M c.who.toNat
     rcases er with ⟨_, er⟩ | ⟨_, er, _⟩ <;> omega
   · exact beg_live rfl sm' (K2 e0 hr)
   · show c.sp < m.n.M c.who.toNat
     rcases er with ⟨a, _⟩ | ⟨_, er, er2⟩
     · rw [show m.ro = true from hr] at a; cases a
     · omega
   · have hq : m.q = [] := P.q
     have hx' : x ∈ m.q := hx
     rw [hq] at hx'
     cases hx'
 · rw [if_pos (by rw [e0]; decide)]
   refine ⟨.inr ⟨e0, { m with rs := rowC c L, sq := seqC c L }, rfl, ⟨eo, P.W, ?_, ?_, hq0, K1⟩, hq1, hP⟩⟩
   · show (badN c m : Int) + sprN c m = c.sp
     omega
   · show (badN c m : Int) ≤ m.n.M c.who.toNat
     omega
end Go.Proofs.YtdnpdoipipfkoaaGreatDoor
