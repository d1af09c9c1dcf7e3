/-
  Texts put together: HB CB QB QC QG QH.
-/
import Derived.Test.YtdadgcfpcneaiaaGreatDoorM02
import Derived.Test.YtdadgcfpcneaiaaGreatDoorM11
import Derived.Test.YtdadgcfpcneaiaaGreatDoorM01
import Derived.Lib.Hide
import Derived.Test.YtdadgcfpcneaiaaGreatDoorM03
import Derived.Outline
import Derived.Deep.DeepCutAuto
import Derived.Deep.Cut
import Derived.Deep.LoopGhost
/-
  Layer 17: the document's counting, Seq.
-/
namespace Go.Proofs.YtdadgcfpcneaiaaGreatDoor
set_option linter.unusedVariables false
set_option linter.unusedSimpArgs false
set_option linter.unusedVariables false
set_option linter.unusedSimpArgs false
set_option maxRecDepth 100000
open Go.RowKit

/-- A page counts. -/
def cntB (B tn ep sz : Int) (f : Fnd) : Bool := decide (0 ≤ f.bk) && (decide (f.bk < B) && (mineF tn ep f && decide (f.pl < sz)))
def cntL (B tn ep sz : Int) (L : List Fnd) : List Fnd := L.filter (cntB B tn ep sz)
theorem cntL_snoc (B tn ep sz : Int) (L : List Fnd) (f : Fnd) : cntL B tn ep sz (L ++ [f]) = if cntB B tn ep sz f then cntL B tn ep sz L ++ [f] else cntL B tn ep sz L := by
  unfold cntL
  rw [List.filter_append, List.filter_cons]
  split <;> simp
theorem take17 {L : List Fnd} {k : Nat} {f : Fnd} (hk : k < L.length) (hf : L.getD k noF = f) : L.take (k + 1) = L.take k ++ [f] := by
  rw [List.take_add_one, List.getElem?_eq_getElem hk]
  rw [List.getD_eq_getElem?_getD, List.getElem?_eq_getElem hk] at hf
  have h2 : L[k] = f := hf
  rw [h2]
  rfl

section
variable {ops : Array Oper} {rest : List Oper} {o : Oper} {a : Act} {w : World} {Q : Exit → Act → World → Prop}
/-- A page more. -/
theorem append_fnd (hgd : o.guard = none) (s x : Operand) (ho : o.op = .call { callee := .builtin .append, args := #[s, x], argTypes := #[118, 118] }) (base : Nat) (v : Value) (row : List Fnd) (n : Nat) (hn : row.length = n) (hs : a.eval s = v) (hown : w.ownsRow base 92 10 v n (fndsL row))
    (ad : Addr) (cap : Nat) (f : Fnd) (hx : a.eval x = .slice (some ad) 1 cap) (hc : ∀ j u, (fndC f).toList[j]? = some u → w.cell? (ad.add j) = some u) (h63 : n ≤ 1000000) (hbase : base ≤ w.heap.size)
    (h : ∀ v' w', w'.ownsRow base 92 10 v' (n + 1) (fndsL (row ++ [f])) → w.grownBy w' v.ownBlock → wpList Tryz.prog ops Q rest (a.put o.dst v') w') : wpList Tryz.prog ops Q (o :: rest) a w := by
  obtain ⟨i0, hi, hz0, hz1, hz2⟩ := info_parts Tryz.infoFnd
  refine wpList_append_own w hgd s x 118 ho base 92 i0 _ 10 88 Tryz.underlying118 hi hz0 hz1 hz2 rfl (by decide) v n _ hs hown ad 1 cap (fndC f).toList hx rfl hc (by simp [fndC, Value.oneCell']) (by unfold maxLen; omega) (by omega) hbase ?_
  intro v' w' h1 h2 _
  exact h v' w' (by rw [fndsL_snoc]; exact h1) h2
end
theorem fnd_new (w : World) (f : Fnd) (T : TypeId) : ∀ j u, (fndC f).toList[j]? = some u → (w.alloc (.cells #[.int .i64 f.bk, .int .i64 f.pg, .bool f.torn, .int .i64 f.te, .int .i64 f.ep, .int .i64 f.pl, .int .i64 f.sq, .int .i64 f.kd, .bool f.cp, .string f.dt] T)).cell? ((⟨w.heap.size, 0, none⟩ : Addr).add j) = some u := by
  intro j u hj
  have hb := Blk.new w T (fndC f)
  have h1 := hb.cell j
  rw [addr_add, Nat.zero_add]
  exact h1.trans (by simpa using hj)
theorem owns_slice17 {w : World} {B : Nat} {e : TypeId} {sz : Nat} {v : Value} {n : Nat} {xs : List Value} (h : w.ownsRow B e sz v n xs) : ∃ ao cap, v = .slice ao n cap := by
  rcases h.2 with ⟨rfl, rfl⟩ | ⟨g, cap, _, rfl, _⟩
  · exact ⟨none, 0, rfl⟩
  · exact ⟨_, cap, rfl⟩
theorem own_ext17 {w0 w w' : World} {B : Nat} {e : TypeId} {sz : Nat} {v : Value} {n : Nat} {xs : List Value} (h : w.ownsRow B e sz v n xs) (hE : w0.grownBy w none) (hg : w.grownBy w' v.ownBlock) (hB : w0.heap.size ≤ B) : w0.grownBy w' none :=
  ⟨hg.os.trans hE.os, hg.tape.trans hE.tape, hg.output.trans hE.output, Nat.le_trans hE.size hg.size, fun k hk _ => (hg.block k (Nat.lt_of_lt_of_le hk hE.size) (fun e => by have := (h.lt k e.symm).1; omega)).trans (hE.block k hk (by simp))⟩

theorem own_alloc17 {w w3 w4 : World} {o : Obj} {r : Option Nat} (hE : w.grownBy w3 none) (hg : (w3.alloc o).grownBy w4 r) : w.grownBy w4 r := by
  have h1 := World.grownBy_alloc w3 o none
  exact ⟨hg.os.trans hE.os, hg.tape.trans hE.tape, hg.output.trans hE.output, Nat.le_trans hE.size (Nat.le_trans h1.size hg.size), fun k hk hne => (hg.block k (Nat.lt_of_lt_of_le hk (Nat.le_trans hE.size h1.size)) hne).trans ((h1.block k (Nat.lt_of_lt_of_le hk hE.size) (by simp)).trans (hE.block k hk (by simp)))⟩
/-- What stands while pages are counted. -/
structure CntS (w0 wr : World) (lv : Value) (L : List Fnd) (B tn ep sz : Int) (k : Nat) (v : Value) : Prop where
  l : RowF wr lv L
  own : wr.ownsRow w0.heap.size 92 10 v (cntL B tn ep sz (L.take k)).length (fndsL (cntL B tn ep sz (L.take k)))
  ext : w0.grownBy wr none

end Go.Proofs.YtdadgcfpcneaiaaGreatDoor

/-
  Package scan: One, Mine; what Pages tells.
-/
namespace Go.Proofs.YtdadgcfpcneaiaaGreatDoor
set_option linter.unusedVariables false
set_option linter.unusedSimpArgs false
set_option linter.unusedVariables false
set_option linter.unusedSimpArgs false
set_option maxRecDepth 100000
open Go.RowKit

section
variable {w : World} {S : NShape} {V : Nat → Value} {zs : Nat → List Int} {s : NS}

set_option maxHeartbeats 800000 in
theorem one16_any (h : NandAt w S V zs s) (hR : Roles S) (hF : Flds w) (hB : ∀ i j, Byts (s.L i j).bs) (hbs : ∀ i j, (s.L i j).bs.length ≤ 140737488351232) (v : Value) (bl : List Int) (hv : Ints w v bl) (hl : bl.length ≤ 9223372036854775807) (i m : Int) :
    Calls Tryz.prog 76 #[.pointer (some ⟨S.nb, 0, none⟩), v, .int .i64 i, .int .i64 m] w (if 0 ≤ i ∧ i < bl.length then FoundP w (findF S s (bl.getD i.toNat 0) m i) (findE S s (bl.getD i.toNat 0) m) else FoundP w noF 5) := by
  have hBn := Blk.new w 92 (fndC noF)
  have hEn := World.grownBy_alloc w (.cells (fndC noF) 92) none
  by_cases hi : 0 ≤ i ∧ i < bl.length
  · rw [if_pos hi]
    obtain ⟨h0, h1⟩ := hi
    obtain ⟨k, rfl⟩ : ∃ k : Nat, i = k := ⟨i.toNat, by omega⟩
    rw [Int.toNat_natCast]
    have FN := fun wx (hE : w.grownBy wx none) => find16_any (h.ext hE hR) hR (hF.ext hE) hB hbs v bl (hv.kept hE (by simp)) hl k (by omega) m
    generalize findF S s (bl.getD k 0) m k = f at *
    generalize findE S s (bl.getD k 0) m = er at *
    obtain ⟨ao, cap, b, off, rfl, _⟩ := hv.form
    obtain ⟨nl, hnl⟩ : ∃ z, bl.length = z := ⟨_, rfl⟩
    rw [hnl] at h1 hl FN ⊢
    have h0' : ¬ (k : Int) < 0 := by omega
    have h1' : ¬ (nl : Int) ≤ k := by omega
    have HB := Lib.hid (And.intro hBn hEn)
    clear h hF hB hbs hnl hBn hEn h0 h1
    go_enter Tryz.func76, Tryz.ntmps76
    go_wp2_with (first
      | (go_at_call 89; refine (FN _ HB.out.2).mono ?_; rintro e w3 ⟨rfl, hg3⟩; have hr3 := HB.out.1.ext hg3)
      | (refine fnd_store (f := f) _ _ rfl rfl rfl hr3 rfl rfl ?_; intro w4 hb4 hg4 hs4; have HG4 := Lib.hid (g17_new (ext_trans HB.out.2 hg3) hg4 (Nat.le_refl _)); have c0 := hb4.cell 0; have c1 := hb4.cell 1; have c2 := hb4.cell 2; have c3 := hb4.cell 3; have c4 := hb4.cell 4; have c5 := hb4.cell 5; have c6 := hb4.cell 6; have c7 := hb4.cell 7; have c8 := hb4.cell 8; have c9 := hb4.cell 9; simp [fndC] at c0 c1 c2 c3 c4 c5 c6 c7 c8 c9; clear hb4 hg4))
    refine bodyPost_ret (v := .tuple #[.agg (fndC f), .int .i64 er]) (by simp [results, Tryz.results76, go_sem, fndC, c0, c1, c2, c3, c4, c5, c6, c7, c8, c9]) rfl ⟨rfl, HG4.out⟩
  · rw [if_neg hi]
    obtain ⟨ao, cap, b, off, rfl, _⟩ := hv.form
    obtain ⟨nl, hnl⟩ : ∃ z, bl.length = z := ⟨_, rfl⟩
    rw [hnl] at hi hl ⊢
    have HB := Lib.hid (And.intro hBn hEn)
    clear h hF hB hbs hnl hBn hEn hv
    have hr3 := HB.out.1
    by_cases h0 : i < 0
    · clear hi
      go_enter Tryz.func76, Tryz.ntmps76
      go_wp2_with (refine fnd_store (f := noF) _ _ rfl rfl rfl hr3 rfl rfl ?_; intro w4 hb4 hg4 hs4; have HG4 := Lib.hid (g17_new HB.out.2 hg4 (Nat.le_refl _)); have c0 := hb4.cell 0; have c1 := hb4.cell 1; have c2 := hb4.cell 2; have c3 := hb4.cell 3; have c4 := hb4.cell 4; have c5 := hb4.cell 5; have c6 := hb4.cell 6; have c7 := hb4.cell 7; have c8 := hb4.cell 8; have c9 := hb4.cell 9; simp [fndC, noF] at c0 c1 c2 c3 c4 c5 c6 c7 c8 c9; clear hb4 hg4)
      refine bodyPost_ret (v := .tuple #[.agg (fndC noF), .int .i64 5]) (by simp [results, Tryz.results76, go_sem, fndC, noF, c0, c1, c2, c3, c4, c5, c6, c7, c8, c9]) rfl ⟨rfl, HG4.out⟩
    · have h1 : (nl : Int) ≤ i := by omega
      clear hi
      go_enter Tryz.func76, Tryz.ntmps76
      go_wp2_with (refine fnd_store (f := noF) _ _ rfl rfl rfl hr3 rfl rfl ?_; intro w4 hb4 hg4 hs4; have HG4 := Lib.hid (g17_new HB.out.2 hg4 (Nat.le_refl _)); have c0 := hb4.cell 0; have c1 := hb4.cell 1; have c2 := hb4.cell 2; have c3 := hb4.cell 3; have c4 := hb4.cell 4; have c5 := hb4.cell 5; have c6 := hb4.cell 6; have c7 := hb4.cell 7; have c8 := hb4.cell 8; have c9 := hb4.cell 9; simp [fndC, noF] at c0 c1 c2 c3 c4 c5 c6 c7 c8 c9; clear hb4 hg4)
      refine bodyPost_ret (v := .tuple #[.agg (fndC noF), .int .i64 5]) (by simp [results, Tryz.results76, go_sem, fndC, noF, c0, c1, c2, c3, c4, c5, c6, c7, c8, c9]) rfl ⟨rfl, HG4.out⟩
end

theorem mine16_any (f : Fnd) (tn ep : Int) (w : World) : Calls Tryz.prog 115 #[.agg (fndC f), .int .i64 tn, .int .i64 ep] w fun e w' => e = .returned (.bool (mineF tn ep f)) ∧ w.grownBy w' none := by
  have HE := Lib.hid (World.grownBy_alloc w (.cells (fndC f) 92) none)
  have hc := FCells.of (Blk.new w 92 (fndC f))
  have c2 := hc.torn
  have c3 := hc.te
  have c4 := hc.ep
  clear hc
  obtain ⟨m, hm⟩ : ∃ m, mineF tn ep f = m := ⟨_, rfl⟩
  rw [hm]
  unfold mineF at hm
  have HM := Lib.hid hm
  clear hm
  cases ht : f.torn
  · rw [ht] at c2
    by_cases h1 : f.te = tn
    · have b1 : (f.te == tn) = true := by simpa using h1
      have b2 : (f.ep == ep) = (f.ep == ep) := rfl
      obtain ⟨z, hz⟩ : ∃ z, (f.ep == ep) = z := ⟨_, rfl⟩
      have HZ := Lib.hid hz
      have HB := Lib.hid (And.intro ht b1)
      clear b2 h1 ht
      cases z
      · clear HZ
        go_enter Tryz.func115, Tryz.ntmps115
        go_wp2
        go_ret
        refine ⟨?_, HE.out⟩
        rw [← HM.out, HB.out.1, HB.out.2, hz]
        rfl
      · clear HZ
        go_enter Tryz.func115, Tryz.ntmps115
        go_wp2
        go_ret
        refine ⟨?_, HE.out⟩
        rw [← HM.out, HB.out.1, HB.out.2, hz]
        rfl
    · have b1 : (f.te == tn) = false := by simpa using h1
      have HB := Lib.hid (And.intro ht b1)
      clear h1 ht
      go_enter Tryz.func115, Tryz.ntmps115
      go_wp2
      go_ret
      refine ⟨?_, HE.out⟩
      rw [← HM.out, HB.out.1, HB.out.2]
      rfl
  · rw [ht] at c2
    have HB := Lib.hid ht
    clear ht
    go_enter Tryz.func115, Tryz.ntmps115
    go_wp2
    go_ret
    refine ⟨?_, HE.out⟩
    rw [← HM.out, HB.out]
    rfl

/-! ### what Pages tells -/
/-- The first pages of a block. -/
def pgsN (S : NShape) (s : NS) (n : Int) (bk : Nat) : Nat → List Fnd × Int
  | 0 => ([], 0)
  | j + 1 => if (pgsN S s n bk j).2 = 0 then (if findE S s n j = 0 then ((pgsN S s n bk j).1 ++ [findF S s n j bk], 0) else ([], findE S s n j)) else pgsN S s n bk j
/-- The first blocks. -/
def blksN (S : NShape) (s : NS) (bl : List Int) : Nat → List Fnd × Int
  | 0 => ([], 0)
  | i + 1 => if (blksN S s bl i).2 = 0 then (if s.mr (bl.getD i 0).toNat then blksN S s bl i else
      (if (pgsN S s (bl.getD i 0) i (nextN (s.L (bl.getD i 0).toNat) S.pg)).2 = 0 then ((blksN S s bl i).1 ++ (pgsN S s (bl.getD i 0) i (nextN (s.L (bl.getD i 0).toNat) S.pg)).1, 0) else ([], (pgsN S s (bl.getD i 0) i (nextN (s.L (bl.getD i 0).toNat) S.pg)).2))) else blksN S s bl i
theorem pgsN_stay {S : NShape} {s : NS} {n : Int} {bk : Nat} {j : Nat} (h : (pgsN S s n bk j).2 ≠ 0) : ∀ k, j ≤ k → pgsN S s n bk k = pgsN S s n bk j := fun k hk => by
  induction k with
  | zero => have : j = 0 := by omega
            subst this; rfl
  | succ k ih =>
    by_cases e : j = k + 1
    · subst e; rfl
    · rw [pgsN, ih (by omega), if_neg h]
theorem blksN_stay {S : NShape} {s : NS} {bl : List Int} {j : Nat} (h : (blksN S s bl j).2 ≠ 0) : ∀ k, j ≤ k → blksN S s bl k = blksN S s bl j := fun k hk => by
  induction k with
  | zero => have : j = 0 := by omega
            subst this; rfl
  | succ k ih =>
    by_cases e : j = k + 1
    · subst e; rfl
    · rw [blksN, ih (by omega), if_neg h]
theorem pgsN_len {S : NShape} {s : NS} {n : Int} {bk : Nat} : ∀ j, (pgsN S s n bk j).1.length ≤ j
  | 0 => by simp [pgsN]
  | j + 1 => by
    have := pgsN_len (S := S) (s := s) (n := n) (bk := bk) j
    rw [pgsN]
    split
    · split
      · simp; omega
      · simp
    · omega
theorem blksN_len {S : NShape} {s : NS} {bl : List Int} (hp : S.pg ≤ 16) : ∀ i, (blksN S s bl i).1.length ≤ i * 16
  | 0 => by simp [blksN]
  | i + 1 => by
    have h1 := blksN_len (s := s) (bl := bl) hp i
    have h2 := pgsN_len (S := S) (s := s) (n := bl.getD i 0) (bk := i) (nextN (s.L (bl.getD i 0).toNat) S.pg)
    have h3 := nextN_le (s.L (bl.getD i 0).toNat) S.pg
    rw [blksN]
    split
    · split
      · omega
      · split
        · simp only [List.length_append]; omega
        · simp
    · omega

/-- A block that is none. -/
def offB (al : Nat) (b : Int) : Bool := decide (b < 0 ∨ (al : Int) ≤ b)
theorem pagesDo_any (b : Int) (al : Nat) (xb : Nat) (w : World) (hx : w.cell? ⟨xb, 0, none⟩ = some (.int .i64 (al : Int))) :
    Calls Tryz.prog 87 #[.int .i64 b, .pointer (some ⟨xb, 0, none⟩)] w fun e w' => e = .returned (.bool (offB al b)) ∧ w = w' := by
  by_cases h : b < 0
  · have e : decide (b < 0) = true := by simpa using h
    go_enter Tryz.func87, Tryz.ntmps87
    go_wp2
    go_ret
    exact ⟨ret_bool (by simp [offB, h]), rfl⟩
  · have e : decide (b < 0) = false := by simpa using h
    go_enter Tryz.func87, Tryz.ntmps87
    go_wp2
    go_ret
    exact ⟨ret_bool (by simp [offB]; omega), rfl⟩

set_option maxHeartbeats 800000 in
theorem indexOff_any (v : Value) (xs : List Int) (al : Nat) (xb : Nat) (w : World) (hb : Ints w v xs) (hm : xs.length ≤ 9223372036854775807) (hx : w.cell? ⟨xb, 0, none⟩ = some (.int .i64 (al : Int))) :
    Calls Tryz.prog 102 #[v, .func (.func 87) #[] #[.pointer (some ⟨xb, 0, none⟩)]] w fun e w' => ∃ r : Int, e = .returned (.int .i64 r) ∧ w = w' ∧ ((0 ≤ r ∧ xs.any (offB al) = true) ∨ (r < 0 ∧ xs.any (offB al) = false)) := by
  obtain ⟨ao, cap, b, off, rfl, hc⟩ := hb.form
  have HC := Lib.hid hc
  clear hc hb
  go_enter Tryz.func102, Tryz.ntmps102
  go_wp2
  go_loopw [8] (fun i wr => ∃ k : Nat, k ≤ xs.length ∧ i = .int .i64 k ∧ (∀ j, j < k → offB al (xs.getD j 0) = false) ∧ w = wr) (fun i _ => xs.length - (intOf i).toNat)
  case atStart => exact ⟨0, by omega, rfl, fun j hj => by omega, rfl⟩
  case round =>
    obtain ⟨k, hk, rfl, hnot, rfl⟩ := hrel
    have NOT := Lib.hid hnot
    clear hnot
    by_cases hlt : k < xs.length
    · obtain ⟨rfl, hcell⟩ := HC.out k hlt
      obtain ⟨x, hx'⟩ : ∃ x, xs.getD k 0 = x := ⟨_, rfl⟩
      rw [hx'] at hcell
      have HX := Lib.hid hx'
      have D := pagesDo_any x al xb w hx
      obtain ⟨p, hp⟩ : ∃ p, offB al x = p := ⟨_, rfl⟩
      rw [hp] at D
      have HP := Lib.hid hp
      clear hx' hp
      cases p
      · go_wp2_with (go_at_call 87; refine D.mono ?_; rintro e w' ⟨rfl, rfl⟩)
        go_roundw
        case rel =>
          refine ⟨k + 1, by omega, by go_num, fun j hj => ?_, trivial⟩
          by_cases e : j = k
          · subst e; rw [HX.out]; exact HP.out
          · exact NOT.out j (by omega)
        case measure => simp [intOf]; omega
      · go_wp2_with (go_at_call 87; refine D.mono ?_; rintro e w' ⟨rfl, rfl⟩)
        go_ret
        refine ⟨_, rfl, rfl, .inl ⟨by omega, ?_⟩⟩
        have h1 := HX.out
        rw [List.getD_eq_getElem?_getD, List.getElem?_eq_getElem hlt] at h1
        simp only [Option.getD_some] at h1
        exact List.any_eq_true.2 ⟨x, by rw [← h1]; exact List.getElem_mem hlt, HP.out⟩
    · obtain rfl : k = xs.length := by omega
      go_wp2
      go_ret
      refine ⟨_, rfl, rfl, .inr ⟨by omega, ?_⟩⟩
      rw [List.any_eq_false]
      intro y hmem
      obtain ⟨j, hj, hjn⟩ := List.mem_iff_getElem.1 hmem
      have h1 := NOT.out j hj
      rw [List.getD_eq_getElem?_getD, List.getElem?_eq_getElem hj] at h1
      simp only [Option.getD_some] at h1
      rw [← hjn, h1]
      simp

theorem containsOff_any (v : Value) (xs : List Int) (al : Nat) (xb : Nat) (w : World) (hb : Ints w v xs) (hm : xs.length ≤ 9223372036854775807) (hx : w.cell? ⟨xb, 0, none⟩ = some (.int .i64 (al : Int))) :
    Calls Tryz.prog 67 #[v, .func (.func 87) #[] #[.pointer (some ⟨xb, 0, none⟩)]] w fun e w' => e = .returned (.bool (xs.any (offB al))) ∧ w = w' := by
  have I := indexOff_any v xs al xb w hb hm hx
  obtain ⟨ao, cap, b, off, rfl, hc⟩ := hb.form
  clear hc hb
  go_enter Tryz.func67, Tryz.ntmps67
  go_wp2_with (go_at_call 102; refine I.mono ?_; rintro e w' ⟨r, rfl, rfl, hr⟩; have HR := Lib.hid hr; clear hr)
  go_ret
  rcases HR.out with ⟨h1, h2⟩ | ⟨h1, h2⟩
  · exact ⟨ret_bool (by rw [h2]; simp; omega), rfl⟩
  · exact ⟨ret_bool (by rw [h2]; simp; omega), rfl⟩

end Go.Proofs.YtdadgcfpcneaiaaGreatDoor

/-
  Layer 13: changes; what a buffer answers (its contracts); the document's Check.
-/
namespace Go.Proofs.YtdadgcfpcneaiaaGreatDoor
set_option linter.unusedVariables false
set_option linter.unusedSimpArgs false
set_option linter.unusedVariables false
set_option linter.unusedSimpArgs false
set_option maxRecDepth 100000
open Go.RowKit

/-! ### a change -/
structure Chg where
  pl : Int
  kd : Int
  dt : ByteArray
def noChg : Chg := ⟨0, 0, ⟨#[]⟩⟩
def chgC (c : Chg) : Array Value := #[.int .i64 c.pl, .int .i64 c.kd, .string c.dt]
def chgsL (row : List Chg) : List Value := row.flatMap fun c => (chgC c).toList
theorem chgsL_len (row : List Chg) : (chgsL row).length = row.length * 3 := by
  unfold chgsL
  induction row with
  | nil => rfl
  | cons c r ih => rw [List.flatMap_cons, List.length_append, ih, List.length_cons]; simp [chgC]; omega

/-- What is wrong with a change. -/
def chkE (pl kd : Int) (dt : ByteArray) : Int :=
  if (kd ≠ 1 ∧ kd ≠ 2) ∨ pl < 0 ∨ 63 < pl ∨ (kd = 2 ∧ dt.size ≠ 0) then 1 else if 16 < dt.size then 3 else 0

theorem ret_int13 {a b : Int} (h : a = b) : Ending.returned (.int .i64 a) = .returned (.int .i64 b) := by rw [h]
theorem str_none {s : ByteArray} : s.toList.isEmpty = decide (s.size = 0) := by
  rw [ByteArray.toList_eq]
  by_cases h : s.size = 0
  · have : s.data.toList = [] := List.eq_nil_of_length_eq_zero (by simpa using h)
    simp [h, this]
  · rw [decide_eq_false h, Bool.eq_false_iff]
    intro e
    rw [List.isEmpty_iff] at e
    exact h (by have := congrArg List.length e; simpa using this)
end Go.Proofs.YtdadgcfpcneaiaaGreatDoor

/-
  Layer 13: what a buffer answers (contracts, whatever the code); the law's fixed, BufferNone.
-/
namespace Go.Proofs.YtdadgcfpcneaiaaGreatDoor
set_option linter.unusedVariables false
set_option linter.unusedSimpArgs false
set_option linter.unusedVariables false
set_option linter.unusedSimpArgs false
set_option maxRecDepth 100000
open Go.RowKit

def chgV (c : Chg) : Value := .agg #[.int .i64 c.pl, .int .i64 c.kd, .string c.dt]
def putE (row : List Chg) (c : Chg) : Int := if chkE c.pl c.kd c.dt = 0 then (if row.length = 4 then 8 else 0) else chkE c.pl c.kd c.dt
def putR (row : List Chg) (c : Chg) : List Chg := if putE row c = 0 then row ++ [c] else row
def firstC (row : List Chg) : Chg := row.headD noChg
/-- The last one of a place. -/
def lastN (row : List Chg) (p : Int) : Chg × Bool := row.foldl (fun acc x => if x.pl = p then (x, true) else acc) (noChg, false)
def small13 (row : List Chg) : Prop := row.length ≤ 4

abbrev Ext13 (w w' : World) : Prop := w.grownBy w' none
theorem ext13_trans {w w1 w2 : World} (h : Ext13 w w1) (h2 : Ext13 w1 w2) : Ext13 w w2 :=
  ⟨h2.os.trans h.os, h2.tape.trans h.tape, h2.output.trans h.output, Nat.le_trans h.size h2.size, fun k hk hne => (h2.block k (Nat.lt_of_lt_of_le hk h.size) hne).trans (h.block k hk hne)⟩

theorem Tryz.sizeChg : (Tryz.prog.info? 84).map (·.size) = some 3 := by kernel_rfl
section
variable {ops : Array Oper} {rest : List Oper} {o : Oper} {a : Act} {w : World} {Q : Exit → Act → World → Prop}
/-- A change is read whole, out of cells that are known. -/
theorem chg_load (hgd : o.guard = none) (x : Operand) (ho : o.op = .load 84 x) {b off : Nat} (hx : a.eval x = .pointer (some ⟨b, off, none⟩)) {c : Chg} (hr : w.rangeAt b off (chgC c).toList)
    (h : wpList Tryz.prog ops Q rest (a.put o.dst (.agg (chgC c))) w) : wpList Tryz.prog ops Q (o :: rest) a w :=
  wpList_load_mid hgd _ x ho b off hx _ _ hr Tryz.underlying84 rfl (by rw [Tryz.sizeChg]; rfl) (by simpa using h)
theorem chg_load_want (hwt : Region.wanted o (yielded ops a.tmps) = true) (x : Operand) (ho : o.op = .load 84 x) {b off : Nat} (hx : a.eval x = .pointer (some ⟨b, off, none⟩)) {c : Chg} (hr : w.rangeAt b off (chgC c).toList)
    (h : wpList Tryz.prog ops Q rest (a.put o.dst (.agg (chgC c))) w) : wpList Tryz.prog ops Q (o :: rest) a w :=
  wpList_want hwt fun K hK => wp_load_mid _ x ho b off hx _ _ hr Tryz.underlying84 rfl (by rw [Tryz.sizeChg]; rfl) (hK _ _ (by simpa using h))
/-- The same, its cells written out. -/
theorem chg_load_lit (hwt : Region.wanted o (yielded ops a.tmps) = true) (x : Operand) (ho : o.op = .load 84 x) {b off : Nat} (hx : a.eval x = .pointer (some ⟨b, off, none⟩)) {c : Chg} (hr : w.rangeAt b off (chgC c).toList)
    (h : wpList Tryz.prog ops Q rest (a.put o.dst (.agg #[.int .i64 c.pl, .int .i64 c.kd, .string c.dt])) w) : wpList Tryz.prog ops Q (o :: rest) a w := chg_load_want hwt x ho hx hr h
/-- A change is laid into a block of its own. -/
theorem chg_store (x y : Operand) (ho : o.op = .store 84 x y) {g : Nat} (hx : a.eval x = .pointer (some ⟨g, 0, none⟩)) {c : Chg} (hy : a.eval y = .agg (chgC c)) {old : Array Value} (hg : Blk w g 84 old) (hold : old.size = 3) (hwt : Region.wanted o (yielded ops a.tmps) = true)
    (h : ∀ w', Blk w' g 84 (chgC c) → w.grownBy w' (some g) → w'.heap.size = w.heap.size → wpList Tryz.prog ops Q rest (a.put o.dst undef) w') : wpList Tryz.prog ops Q (o :: rest) a w :=
  wpList_store_part hwt _ x y ho g 0 3 _ hx hy _ old _ hg rfl Tryz.sizeChg (by omega) (by simp [chgC, Value.oneCell']) (by
    have h1 : (chgC c).toList.length = 3 := rfl
    rw [h1, List.drop_of_length_le (by simp; omega)]
    simp) h
end
theorem grown_trans13 {w w1 w2 : World} (h : w.grownBy w1 none) (h2 : w1.grownBy w2 (some w.heap.size)) : w.grownBy w2 none :=
  ⟨h2.os.trans h.os, h2.tape.trans h.tape, h2.output.trans h.output, Nat.le_trans h.size h2.size, fun k hk hne => (h2.block k (Nat.lt_of_lt_of_le hk h.size) (fun e => by injection e with e; omega)).trans (h.block k hk hne)⟩
theorem grown_past13 {w w1 w2 : World} {b : Nat} (h : w.grownBy w1 none) (h2 : w1.grownBy w2 (some b)) (hb : w.heap.size ≤ b) : w.grownBy w2 none :=
  ⟨h2.os.trans h.os, h2.tape.trans h.tape, h2.output.trans h.output, Nat.le_trans h.size h2.size, fun k hk hne => (h2.block k (Nat.lt_of_lt_of_le hk h.size) (fun e => by injection e with e; omega)).trans (h.block k hk hne)⟩
theorem owns_shape13 {w : World} {B : Nat} {e : TypeId} {sz : Nat} {v : Value} {n : Nat} {xs : List Value} (h : w.ownsRow B e sz v n xs) : ∃ ao cap, v = .slice ao n cap := by
  rcases h.2 with ⟨rfl, rfl⟩ | ⟨g, cap, _, rfl, _⟩
  · exact ⟨none, 0, rfl⟩
  · exact ⟨_, cap, rfl⟩
theorem chgV_is (c : Chg) : chgV c = .agg (chgC c) := rfl
theorem Blk.range {w : World} {g : Nat} {t : TypeId} {cs : Array Value} (h : Blk w g t cs) (off n : Nat) (hn : (cs.extract off (off + n)).size = n) : w.rangeAt g off (cs.extract off (off + n)).toList := by
  have := World.rangeAt_of_block h off n
  simpa using this

/-! the law's fixed -/
def fA : Chg := ⟨3, 1, ⟨#[120]⟩⟩
def fB : Chg := ⟨3, 2, ⟨#[]⟩⟩

end Go.Proofs.YtdadgcfpcneaiaaGreatDoor

/-
  Layer 13: the program's buffer in memory; its calls keep the contracts.
-/
namespace Go.Proofs.YtdadgcfpcneaiaaGreatDoor
set_option linter.unusedVariables false
set_option linter.unusedSimpArgs false
set_option linter.unusedVariables false
set_option linter.unusedSimpArgs false
set_option maxRecDepth 100000
open Go.RowKit

theorem lastN_snoc (row : List Chg) (c : Chg) (p : Int) : lastN (row ++ [c]) p = if c.pl = p then (c, true) else lastN row p := by simp [lastN]

/-- A ring of four changes, where its first one stands, how many there are. -/
def bufC (rs : List Chg) (f c : Int) : Array Value := (chgsL rs ++ [Value.int .i64 f, Value.int .i64 c]).toArray
theorem four_of {rs : List Chg} (h : rs.length = 4) : ∃ x0 x1 x2 x3, rs = [x0, x1, x2, x3] := by
  match rs, h with
  | [x0, x1, x2, x3], _ => exact ⟨x0, x1, x2, x3, rfl⟩
theorem bufC_first {rs : List Chg} (h : rs.length = 4) (f c : Int) : (bufC rs f c)[12]? = some (.int .i64 f) := by
  obtain ⟨_, _, _, _, rfl⟩ := four_of h; rfl
theorem bufC_count {rs : List Chg} (h : rs.length = 4) (f c : Int) : (bufC rs f c)[13]? = some (.int .i64 c) := by
  obtain ⟨_, _, _, _, rfl⟩ := four_of h; rfl
theorem bufC_size {rs : List Chg} (h : rs.length = 4) (f c : Int) : (bufC rs f c).size = 14 := by
  obtain ⟨_, _, _, _, rfl⟩ := four_of h; rfl
theorem bufC_at {rs : List Chg} (h : rs.length = 4) (f c : Int) {k : Nat} (hk : k < 4) : (bufC rs f c).extract (k * 3) (k * 3 + 3) = chgC (rs.getD k noChg) := by
  obtain ⟨_, _, _, _, rfl⟩ := four_of h
  obtain rfl | rfl | rfl | rfl : k = 0 ∨ k = 1 ∨ k = 2 ∨ k = 3 := by omega
  all_goals rfl
theorem bufC_set {rs : List Chg} (h : rs.length = 4) (f c : Int) {k : Nat} (hk : k < 4) (x : Chg) : ((bufC rs f c).toList.take (k * 3) ++ (chgC x).toList ++ (bufC rs f c).toList.drop (k * 3 + (chgC x).toList.length)).toArray = bufC (rs.set k x) f c := by
  obtain ⟨_, _, _, _, rfl⟩ := four_of h
  obtain rfl | rfl | rfl | rfl : k = 0 ∨ k = 1 ∨ k = 2 ∨ k = 3 := by omega
  all_goals rfl
theorem bufC_setFirst {rs : List Chg} (h : rs.length = 4) (f c g : Int) : (bufC rs f c).setIfInBounds 12 (.int .i64 g) = bufC rs g c := by
  obtain ⟨_, _, _, _, rfl⟩ := four_of h; rfl
theorem bufC_setCount {rs : List Chg} (h : rs.length = 4) (f c g : Int) : (bufC rs f c).setIfInBounds 13 (.int .i64 g) = bufC rs f g := by
  obtain ⟨_, _, _, _, rfl⟩ := four_of h; rfl

/-- The changes, in order. -/
def ringL (rs : List Chg) (f c : Nat) : List Chg := (List.range c).map fun i => rs.getD ((f + i) % 4) noChg
theorem ringL_len (rs : List Chg) (f c : Nat) : (ringL rs f c).length = c := by simp [ringL]
theorem ringL_get (rs : List Chg) (f c : Nat) {i : Nat} (hi : i < c) : (ringL rs f c).getD i noChg = rs.getD ((f + i) % 4) noChg := by
  rw [List.getD_eq_getElem?_getD, ringL, List.getElem?_map, List.getElem?_range hi]
  rfl
theorem ringL_put {rs : List Chg} (h : rs.length = 4) (f c : Nat) (hc : c < 4) (x : Chg) : ringL (rs.set ((f + c) % 4) x) f (c + 1) = ringL rs f c ++ [x] := by
  unfold ringL
  rw [List.range_succ, List.map_append]
  congr 1
  · refine List.map_congr_left fun i hi => ?_
    have := List.mem_range.1 hi
    rw [List.getD_eq_getElem?_getD, List.getElem?_set_ne (by omega), ← List.getD_eq_getElem?_getD]
  · simp [List.getD_eq_getElem?_getD, h]
    rw [List.getElem?_set_self (by omega)]
    rfl
theorem ringL_drop {rs : List Chg} (f c : Nat) (x : Chg) (hc : 0 < c) (hc4 : c ≤ 4) : ringL (rs.set (f % 4) x) ((f + 1) % 4) (c - 1) = (ringL rs f c).drop 1 := by
  refine List.ext_getElem? fun j => ?_
  rw [List.getElem?_drop]
  unfold ringL
  rw [List.getElem?_map, List.getElem?_map]
  by_cases hj : j < c - 1
  · rw [List.getElem?_range hj, List.getElem?_range (by omega)]
    show some ((rs.set (f % 4) x).getD (((f + 1) % 4 + j) % 4) noChg) = some (rs.getD ((f + (1 + j)) % 4) noChg)
    rw [show ((f + 1) % 4 + j) % 4 = (f + (1 + j)) % 4 by omega, List.getD_eq_getElem?_getD, List.getElem?_set_ne (by omega), ← List.getD_eq_getElem?_getD]
  · rw [List.getElem?_eq_none (by simp; omega), List.getElem?_eq_none (by simp; omega)]
    rfl
theorem ringL_first (rs : List Chg) {f : Nat} (hf : f < 4) {c : Nat} (hc : 0 < c) : firstC (ringL rs f c) = rs.getD f noChg := by
  unfold firstC
  rw [List.headD_eq_head?_getD, List.head?_eq_getElem?, ← List.getD_eq_getElem?_getD, ringL_get rs f c hc, Nat.add_zero, Nat.mod_eq_of_lt hf]
theorem ringL_snoc (rs : List Chg) (f c : Nat) : ringL rs f (c + 1) = ringL rs f c ++ [rs.getD ((f + c) % 4) noChg] := by
  unfold ringL
  rw [List.range_succ, List.map_append]
  rfl

structure BufS (w : World) (b : Nat) (rs : List Chg) (f c : Nat) : Prop where
  four : rs.length = 4
  fl : f < 4
  cl : c ≤ 4
  blk : Blk w b 133 (bufC rs f c)
/-- A buffer at b, and its changes. -/
def BufA (w : World) (b : Nat) (row : List Chg) : Prop := ∃ rs f c, BufS w b rs f c ∧ row = ringL rs f c
section
variable {w w' : World} {b : Nat} {rs : List Chg} {f c : Nat}
theorem BufS.first (h : BufS w b rs f c) : w.cell? ⟨b, 12, none⟩ = some (.int .i64 f) := (h.blk.cell 12).trans (bufC_first h.four _ _)
theorem BufS.count (h : BufS w b rs f c) : w.cell? ⟨b, 13, none⟩ = some (.int .i64 c) := (h.blk.cell 13).trans (bufC_count h.four _ _)
theorem BufS.ext (h : BufS w b rs f c) (hg : w.grownBy w' none) : BufS w' b rs f c := ⟨h.four, h.fl, h.cl, h.blk.ext hg⟩
theorem BufS.range (h : BufS w b rs f c) {k : Nat} (hk : k < 4) {x : Chg} (hx : rs.getD k noChg = x) : w.rangeAt b (k * 3) (chgC x).toList := by
  have := h.blk.range (k * 3) 3 (by rw [bufC_at h.four _ _ hk]; rfl)
  rw [bufC_at h.four _ _ hk, hx] at this
  exact this

theorem bufStays (w w' : World) (b : Nat) (row : List Chg) (h : BufA w b row) (hq : w'.heap[b]? = w.heap[b]?) : BufA w' b row := by
  obtain ⟨rs, f, c, hs, hr⟩ := h
  exact ⟨rs, f, c, ⟨hs.four, hs.fl, hs.cl, hq.trans hs.blk⟩, hr⟩
theorem bufLt (w : World) (b : Nat) (row : List Chg) (h : BufA w b row) : b < w.heap.size := by
  obtain ⟨_, _, _, hs, _⟩ := h
  exact hs.blk.lt

theorem at_is (h : BufS w b rs f c) {i : Nat} (hi : i ≤ 4) : Calls Tryz.prog 74 #[.pointer (some ⟨b, 0, none⟩), .int .i64 i] w fun e w' => e = .returned (.int .i64 ((f + i) % 4 : Nat)) ∧ w = w' := by
  have c1 := h.first
  have hf := h.fl
  clear h
  go_enter Tryz.func74, Tryz.ntmps74
  go_wp2
  go_ret
  refine ⟨ret_int13 ?_, rfl⟩
  omega
theorem len_is (h : BufS w b rs f c) : Calls Tryz.prog 42 #[.pointer (some ⟨b, 0, none⟩)] w fun e w' => e = .returned (.int .i64 c) ∧ w = w' := by
  have c1 := h.count
  clear h
  go_enter Tryz.func42, Tryz.ntmps42
  go_wp2
  go_ret
  exact ⟨rfl, rfl⟩
theorem full_is (h : BufS w b rs f c) : Calls Tryz.prog 72 #[.pointer (some ⟨b, 0, none⟩)] w fun e w' => e = .returned (.bool (decide (c = 4))) ∧ w = w' := by
  have c1 := h.count
  clear h
  go_enter Tryz.func72, Tryz.ntmps72
  go_wp2
  go_ret
  refine ⟨congrArg (fun q => Ending.returned (.bool q)) ?_, rfl⟩
  by_cases h4 : c = 4
  · subst h4; rfl
  · rw [decide_eq_false h4]
    simp
    omega
end

end Go.Proofs.YtdadgcfpcneaiaaGreatDoor

/-
  Layer 13: the program's buffer: check, First, Drop, New, and of nil.
-/
namespace Go.Proofs.YtdadgcfpcneaiaaGreatDoor
set_option linter.unusedVariables false
set_option linter.unusedSimpArgs false
set_option linter.unusedVariables false
set_option linter.unusedSimpArgs false
set_option maxRecDepth 100000
open Go.RowKit

theorem results_cell_two {P : Program} {fn : Func} {p t : Tmp} {ty : TypeId} {tmps : Array Value} {w : World} {g : Nat} {bt : TypeId} {cs : Array Value} {v : Value} {d : TypeDesc} (h : fn.results = #[.cell p ty, .tmp t])
    (hp : tmps.getD p undef = .pointer (some ⟨g, 0, none⟩)) (hv : tmps.getD t undef = v) (hg : w.heap[g]? = some (.cells cs bt (0, 0)))
    (hu : P.underlying ty = some d) (hd : (match d with | .struct _ | .array _ _ => true | _ => false) = true) (hi : (P.info? ty).map (·.size) = some cs.size) :
    (results fn tmps).run P w = .ok (.tuple #[.agg cs, v]) w := by
  have hp' : tmps[p]?.getD undef = .pointer (some ⟨g, 0, none⟩) := by simpa using hp
  have hv' : tmps[t]?.getD undef = v := by simpa using hv
  simp [results, h, hp', hv', asAddr, run_loadVar_row w g bt ty cs (0, 0) d hg hu hd hi]

def zeroCh : Array Value := #[.int .i64 0, .int .i64 0, .string ⟨#[]⟩]
theorem zeroCh_is : zeroCh = chgC noChg := rfl
theorem g13_new {w w1 w2 : World} {g : Nat} (h : w.grownBy w1 none) (h2 : w1.grownBy w2 (some g)) (hg : w.heap.size ≤ g) : w.grownBy w2 none := grown_past13 h h2 hg
theorem drew13 {w w' : World} (h : w.grownBy w' none) (n : Nat) : w.grownBy (w'.drewN n) none := ⟨h.os, h.tape, h.output, h.size, h.block⟩
theorem grown_of_drew13 {w w' : World} {r : Option Nat} (h : w.drew.grownBy w' r) : w.grownBy w' r := ⟨h.os, h.tape, h.output, h.size, h.block⟩

section
variable {w : World} {b : Nat} {rs : List Chg} {f c : Nat}
/-- A buffer that has none. -/
theorem first_none (h : BufS w b rs f 0) : Calls Tryz.prog 77 #[.pointer (some ⟨b, 0, none⟩)] w fun e w' => e = .returned (.tuple #[chgV noChg, .bool false]) ∧ w.grownBy w' none := by
  have hs1 := h.ext (World.grownBy_alloc w (.cells #[.int .i64 0, .int .i64 0, .string ⟨#[]⟩] 84) none)
  have hb1 := Blk.new w 84 #[.int .i64 0, .int .i64 0, .string ⟨#[]⟩]
  have LEN := len_is hs1
  have hE := World.grownBy_alloc w (.cells #[.int .i64 0, .int .i64 0, .string ⟨#[]⟩] 84) none
  clear hs1
  obtain ⟨z0, hz0⟩ : ∃ z : Int, z = ((0 : Nat) : Int) := ⟨_, rfl⟩
  rw [← hz0] at LEN
  have hz : (z0 == 0) = true := by rw [hz0]; rfl
  have HE := Lib.hid hE
  clear hz0 hE h
  go_enter Tryz.func77, Tryz.ntmps77
  go_wp2_with (first
    | (go_at_call 42; refine LEN.mono ?_; rintro e w2 ⟨rfl, rfl⟩)
    | (refine chg_store (c := noChg) _ _ rfl rfl rfl hb1 rfl rfl ?_; intro w6 hb6 hg6 hs6))
  refine bodyPost_ret (v := .tuple #[.agg (chgC noChg), .bool false]) (results_cell_two (fn := Tryz.f77) rfl rfl rfl hb6 Tryz.underlying84 rfl Tryz.sizeChg) rfl ?_
  exact ⟨rfl, g13_new HE.out hg6 (Nat.le_refl _)⟩
theorem first_some (h : BufS w b rs f c) (hc : 0 < c) {x : Chg} (hx : rs.getD f noChg = x) : Calls Tryz.prog 77 #[.pointer (some ⟨b, 0, none⟩)] w fun e w' => e = .returned (.tuple #[chgV x, .bool true]) ∧ w.grownBy w' none := by
  have hs1 := h.ext (World.grownBy_alloc w (.cells #[.int .i64 0, .int .i64 0, .string ⟨#[]⟩] 84) none)
  have hb1 := Blk.new w 84 #[.int .i64 0, .int .i64 0, .string ⟨#[]⟩]
  have LEN := len_is hs1
  have hE := World.grownBy_alloc w (.cells #[.int .i64 0, .int .i64 0, .string ⟨#[]⟩] 84) none
  obtain ⟨z0, hz0⟩ : ∃ z : Int, z = (c : Int) := ⟨_, rfl⟩
  rw [← hz0] at LEN
  have hz : (z0 == 0) = false := by rw [beq_eq_false_iff_ne]; omega
  have hfl := h.fl
  have HX := Lib.hid hx
  obtain ⟨w1, hw1⟩ : ∃ v, w.alloc (.cells #[.int .i64 0, .int .i64 0, .string ⟨#[]⟩] 84) = v := ⟨_, rfl⟩
  rw [hw1] at hs1 hb1 LEN hE
  have HE := Lib.hid hE
  have hS : BufS w1.drew b rs f c := hs1.ext (Ext.drew w1)
  have hb2 : Blk w1.drew w.heap.size 84 #[.int .i64 0, .int .i64 0, .string ⟨#[]⟩] := hb1.ext (Ext.drew w1)
  clear hz0 hx hb1 hs1 hE
  have hbl := Lib.hid h.blk.lt
  clear h
  go_enter Tryz.func77, Tryz.ntmps77
  go_wp2_with (first
    | (go_at_call 42; refine LEN.mono ?_; rintro e w2 ⟨rfl, rfl⟩))
  clear LEN
  refine region_line [(0, true), (1, true), (2, true), (3, true), (4, true), (5, true), (6, true), (7, true), (8, true), (9, false), (10, true)] (fun x => BufS x b rs f c) (by kernel_rfl) (by kernel_rfl) (fun _ _ _ d _ h => by cases d <;> exact h) hS ?_
  iterate 8 (refine line_read (a' := ?_) rfl (by kernel_rfl) (by kernel_rfl) hS (fun x hx K hK => ?_) ?_; rotate_left; · have c1 := hx.first; clear hx; go_wp2; exact hK)
  refine line_read (a' := ?_) rfl (by kernel_rfl) (by kernel_rfl) hS (fun x hx K hK => ?_) ?_
  rotate_left
  · have hr := hx.range hfl HX.out
    clear hx
    refine chg_load_want rfl _ rfl rfl hr ?_
    go_wp2
    exact hK
  refine line_act (by rfl) (fun K hK => ?_)
  go_wp2_with (first
    | (refine chg_store (c := x) _ _ rfl rfl rfl hb2 rfl rfl ?_; intro w6 hb6 hg6 hs6))
  have hS6 : BufS w6 b rs f c := ⟨hS.four, hS.fl, hS.cl, hS.blk.kept hg6 (fun e => by injection e with e; have := hbl.out; omega)⟩
  refine hK _ _ _ hS6 (fun x hx => hx) ?_
  clear hK K
  refine line_read (a' := ?_) rfl (by kernel_rfl) (by kernel_rfl) hS6 (fun x hx K hK => ?_) ?_
  rotate_left
  · clear hx
    go_wp2
    exact hK
  refine line_end ?_
  go_wp2
  refine bodyPost_ret (v := .tuple #[.agg (chgC x), .bool true]) (results_cell_two (fn := Tryz.f77) rfl rfl rfl hb6 Tryz.underlying84 rfl Tryz.sizeChg) rfl ?_
  exact ⟨rfl, g13_new HE.out (w2 := w6) (grown_of_drew13 hg6) (Nat.le_refl _)⟩
end

end Go.Proofs.YtdadgcfpcneaiaaGreatDoor
