/-
  Package prefix: the closure that counts; what stands while beginnings are gone through.
-/
import Derived.Test.YthailmoeggdfhaaUJ
namespace Go.Proofs.Ythailmoeggdfhaa
set_option linter.unusedVariables false
set_option linter.unusedSimpArgs false
set_option maxRecDepth 100000
open Go.RowKit

/-- Which answer is kept: the last, or the first. -/
def selL (r : Bool) (L : List Nat) : Int := ((if r then L.getLastD 0 else L.headD 0 : Nat) : Int)
/-- Whether a place isn't as it is now. -/
def dif (F : Nat → ByteArray) (ts : List ByteArray) (n : Nat) (p : Int) : Nat := if (0 ≤ p ∧ p < n) ∧ F p.toNat ≠ ts.getD p.toNat ByteArray.empty then 1 else 0
/-- How many of the first j places aren't. -/
def cntF (F : Nat → ByteArray) (ts : List ByteArray) (j : Nat) : Nat := ((List.range j).filter fun i => decide (F i ≠ ts.getD i ByteArray.empty)).length
theorem cntF_succ {F : Nat → ByteArray} {ts : List ByteArray} {n j : Nat} (hj : j < n) : cntF F ts (j + 1) = cntF F ts j + dif F ts n j := by
  unfold cntF dif
  rw [List.range_succ, List.filter_append, List.length_append]
  by_cases e : F j = ts.getD j ByteArray.empty
  · rw [if_neg (by simp only [Int.toNat_natCast]; exact fun h => h.2 e)]
    simp [e]
  · rw [if_pos ⟨⟨by omega, by omega⟩, by simpa using e⟩]
    have h1 : decide (F j ≠ ts.getD j ByteArray.empty) = true := decide_eq_true e
    rw [List.filter_cons, if_pos h1]
    rfl
theorem cntF_le (F : Nat → ByteArray) (ts : List ByteArray) (j : Nat) : cntF F ts j ≤ j := by
  unfold cntF
  exact Nat.le_trans (List.length_filter_le _ _) (by simp)
theorem dif_le (F : Nat → ByteArray) (ts : List ByteArray) (n : Nat) (p : Int) : dif F ts n p ≤ 1 := by unfold dif; split <;> omega
theorem cntF_do (F : Nat → ByteArray) (ts : List ByteArray) (n : Nat) (c : Int × ByteArray) (j : Nat) (hj : j ≤ n) : cntF (doF F c) ts j + dif F ts j c.1 = cntF F ts j + dif (doF F c) ts j c.1 := by
  induction j with
  | zero =>
    have h0 : ∀ G, dif G ts 0 c.1 = 0 := fun G => by unfold dif; rw [if_neg (by rintro ⟨⟨_, _⟩, _⟩; omega)]
    rw [h0, h0]
    rfl
  | succ j ih =>
    have ih := ih (by omega)
    rw [cntF_succ (n := j + 1) (by omega), cntF_succ (n := j + 1) (by omega)]
    by_cases e : c.1 = (j : Int)
    · have h0 : ∀ G, dif G ts j c.1 = 0 := fun G => by unfold dif; rw [if_neg (by rintro ⟨⟨_, _⟩, _⟩; omega)]
      rw [h0, h0] at ih
      rw [e]
      omega
    · have h1 : ∀ G, dif G ts (j + 1) c.1 = dif G ts j c.1 := fun G => by
        unfold dif
        by_cases h : (0 ≤ c.1 ∧ c.1 < (j : Nat)) ∧ G c.1.toNat ≠ ts.getD c.1.toNat ByteArray.empty
        · rw [if_pos h, if_pos ⟨⟨h.1.1, by omega⟩, h.2⟩]
        · rw [if_neg h, if_neg (fun h2 => h ⟨⟨h2.1.1, by omega⟩, h2.2⟩)]
      have h2 : dif (doF F c) ts (j + 1) j = dif F ts (j + 1) j := by
        unfold dif doF
        simp only [Int.toNat_natCast]
        rw [if_neg e]
      rw [h1, h1, h2]
      omega
theorem cntF_zero {F : Nat → ByteArray} {ts : List ByteArray} {n : Nat} (hn : ts.length = n) : cntF F ts n = 0 ↔ (List.range n).map F = ts := by
  unfold cntF
  rw [List.length_eq_zero_iff, List.filter_eq_nil_iff]
  constructor
  · intro h
    refine List.ext_getElem (by simp [hn]) fun i h1 h2 => ?_
    have := h i (by simpa using h1)
    simp [List.getD_eq_getElem?_getD, List.getElem?_eq_getElem h2] at this
    simpa using this
  · intro h i hi
    have hi2 : i < n := by simpa using hi
    have : ts.getD i ByteArray.empty = F i := by
      rw [← h]
      simp [List.getD_eq_getElem?_getD, List.getElem?_range hi2]
    rw [this]
    simp

/-- What stands while beginnings are gone through. -/
structure EnS (W0 : World) (a1 : Option Addr) (c1 n : Nat) (c : Option Addr) (cc gn gp gu t1 t2 : Nat) (r : Bool) (wr : World) (F : Nat → ByteArray) (u : Int) (L : List Nat) : Prop where
  cn : Blk wr gn 22 #[.slice c n cc]
  cp : Blk wr gp 22 #[.slice a1 n c1]
  cu : Blk wr gu 3 #[.int .i64 u]
  b1 : Blk wr t1 3 #[.int .i64 (selL r L)]
  b2 : Blk wr t2 4 #[.bool (decide (L ≠ []))]
  row : TxO (gn + 1) wr a1 n F
  far : ∀ g, a1 = some ⟨g, 0, none⟩ → g < gp
  ord : W0.heap.size ≤ t1 ∧ t1 < t2 ∧ t2 < gn ∧ gn < gp ∧ gp < gu
  ext : W0.grownBy wr none
section
variable {W0 : World} {a1 : Option Addr} {c1 n : Nat} {c : Option Addr} {cc gn gp gu t1 t2 : Nat} {r : Bool} {wr w' : World} {F G : Nat → ByteArray} {u v : Int} {L : List Nat}
theorem EnS.kept (h : EnS W0 a1 c1 n c cc gn gp gu t1 t2 r wr F u L) (hg : wr.grownBy w' none) : EnS W0 a1 c1 n c cc gn gp gu t1 t2 r w' F u L :=
  ⟨h.cn.ext hg, h.cp.ext hg, h.cu.ext hg, h.b1.ext hg, h.b2.ext hg, h.row.kept hg (fun k hk => by cases hk), h.far, h.ord, ext_trans h.ext hg⟩
theorem EnS.count (h : EnS W0 a1 c1 n c cc gn gp gu t1 t2 r wr F u L) (v : Int) : EnS W0 a1 c1 n c cc gn gp gu t1 t2 r (wr.setCell ⟨gu, 0, none⟩ (.int .i64 v)) F v L := by
  have hg : wr.grownBy (wr.setCell ⟨gu, 0, none⟩ (.int .i64 v)) (some gu) := gb_set (gb_refl wr _) _ _
  obtain ⟨o1, o2, o3, o4, o5⟩ := h.ord
  refine ⟨h.cn.kept hg (by simp; omega), h.cp.kept hg (by simp; omega), h.cu.set 0 _, h.b1.kept hg (by simp; omega), h.b2.kept hg (by simp; omega), ?_, h.far, h.ord, new24 h.ext hg (by omega)⟩
  rcases h.row with h1 | ⟨g, h1, h2, h3⟩
  · exact .inl h1
  · exact .inr ⟨g, h1, h2, h3.block (hg.block g h3.lt (by have := h.far g h1; simp; omega))⟩
theorem EnS.done (h : EnS W0 a1 c1 n c cc gn gp gu t1 t2 r wr F u L) (hg : wr.grownBy w' (a1.map (·.block))) (hr : TxO (gn + 1) w' a1 n G) : EnS W0 a1 c1 n c cc gn gp gu t1 t2 r w' G u L := by
  obtain ⟨o1, o2, o3, o4, o5⟩ := h.ord
  rcases h.row with ⟨h1, h2⟩ | ⟨g, h1, h2, h3⟩
  · subst h1
    exact ⟨h.cn.ext hg, h.cp.ext hg, h.cu.ext hg, h.b1.ext hg, h.b2.ext hg, hr, h.far, h.ord, ext_trans h.ext hg⟩
  · subst h1
    have hf := h.far g rfl
    have hg : wr.grownBy w' (some g) := hg
    exact ⟨h.cn.kept hg (by simp; omega), h.cp.kept hg (by simp; omega), h.cu.kept hg (by simp; omega), h.b1.kept hg (by simp; omega), h.b2.kept hg (by simp; omega), hr, h.far, h.ord, new24 h.ext hg (by omega)⟩
theorem EnS.told (h : EnS W0 a1 c1 n c cc gn gp gu t1 t2 r wr F u L) (k : Nat) (hk : r = false → L = []) : EnS W0 a1 c1 n c cc gn gp gu t1 t2 r ((wr.setCell ⟨t1, 0, none⟩ (.int .i64 k)).setCell ⟨t2, 0, none⟩ (.bool true)) F u (L ++ [k]) := by
  obtain ⟨o1, o2, o3, o4, o5⟩ := h.ord
  have g1 : wr.grownBy (wr.setCell ⟨t1, 0, none⟩ (.int .i64 k)) (some t1) := gb_set (gb_refl wr _) _ _
  have g2 : (wr.setCell ⟨t1, 0, none⟩ (.int .i64 k)).grownBy ((wr.setCell ⟨t1, 0, none⟩ (.int .i64 k)).setCell ⟨t2, 0, none⟩ (.bool true)) (some t2) := gb_set (gb_refl _ _) _ _
  have e1 : selL r (L ++ [k]) = (k : Int) := by
    unfold selL
    cases r
    · rw [hk rfl]; rfl
    · simp [List.getLastD_eq_getLast?]
  have hb1 := (h.b1.set 0 (.int .i64 k)).kept g2 (by simp; omega)
  have hb2 := (h.b2.kept g1 (by simp; omega)).set 0 (.bool true)
  refine ⟨(h.cn.kept g1 (by simp; omega)).kept g2 (by simp; omega), (h.cp.kept g1 (by simp; omega)).kept g2 (by simp; omega), (h.cu.kept g1 (by simp; omega)).kept g2 (by simp; omega), ?_, ?_, ?_, h.far, h.ord, new24 (new24 h.ext g1 (by omega)) g2 (by omega)⟩
  · rw [e1]; exact hb1
  · rw [decide_eq_true (by simp)]; exact hb2
  · exact (h.row.kept g1 (fun k hk => by injection hk with hk; omega)).kept g2 (fun k hk => by injection hk with hk; omega)
end

set_option maxHeartbeats 1600000 in
theorem count24 {W0 : World} {a1 : Option Addr} {c1 n : Nat} {c : Option Addr} {cc gn gp gu t1 t2 : Nat} {r : Bool} {F : Nat → ByteArray} {u : Int} {L : List Nat} (w : World) (S : EnS W0 a1 c1 n c cc gn gp gu t1 t2 r w F u L) (ts : List ByteArray) (hT : TxR w c ts) (hl : ts.length = n) (p b : Int) (hb : -1 ≤ b ∧ b ≤ 1) (hu : -10 ≤ u ∧ u ≤ 2000) :
    Calls Try.prog 18 #[.int .i64 p, .int .i64 b, .pointer (some ⟨gp, 0, none⟩), .pointer (some ⟨gn, 0, none⟩), .pointer (some ⟨gu, 0, none⟩)] w fun e w' => e = .returned (.tuple #[]) ∧ EnS W0 a1 c1 n c cc gn gp gu t1 t2 r w' F (u + b * dif F ts n p) L ∧ w.grownBy w' (some gu) := by
  have PL := Lib.hid (fun wx => place24 wx a1 n c1 p)
  have SH := Lib.hid (S.kept (gb_drew (gb_refl w none)))
  have p0 : w.drew.cell? ⟨gp, 0, none⟩ = some (.slice a1 n c1) := SH.out.cp.cell 0
  have n0 : w.drew.cell? ⟨gn, 0, none⟩ = some (.slice c n cc) := SH.out.cn.cell 0
  have u0 : w.drew.cell? ⟨gu, 0, none⟩ = some (.int .i64 u) := SH.out.cu.cell 0
  have uf : w.drew.frozen? ⟨gu, 0, none⟩ = false := SH.out.cu.free 0
  by_cases hp : 0 ≤ p ∧ p < n
  · have P1 := Lib.hid (fun wx => show Calls Try.prog 19 #[.slice a1 n c1, .int .i64 p] wx fun e w' => e = .returned (.bool true) ∧ wx = w' from by
      have := PL.out wx
      rw [decide_eq_true hp.1, decide_eq_true hp.2] at this
      exact this)
    obtain ⟨q, rfl⟩ : ∃ q : Nat, p = q := ⟨p.toNat, by omega⟩
    have hq : q < n := by omega
    rcases SH.out.row with ⟨_, h0⟩ | ⟨g, rfl, hgB, hR⟩
    · omega
    obtain ⟨bt, off, rfl, ct⟩ := hT q (by omega)
    have ct : w.drew.cell? ⟨bt, off + q, none⟩ = some (.string (ts.getD q ByteArray.empty)) := ct
    have cq := hR.cell hq
    obtain ⟨x, hx⟩ : ∃ x, F q = x := ⟨_, rfl⟩
    obtain ⟨y, hy⟩ : ∃ y, ts.getD q ByteArray.empty = y := ⟨_, rfl⟩
    rw [hx] at cq
    rw [hy] at ct
    have hC : w.drew.cell? ⟨gp, 0, none⟩ = some (.slice (some ⟨g, 0, none⟩) n c1) ∧ w.drew.cell? ⟨gn, 0, none⟩ = some (.slice (some ⟨bt, off, none⟩) n cc) ∧ w.drew.cell? ⟨g, q, none⟩ = some (.string x) ∧ w.drew.cell? ⟨bt, off + q, none⟩ = some (.string y) := ⟨p0, n0, cq, ct⟩
    have HD := Lib.hid (show (x = y → dif F ts n q = 0) ∧ (x ≠ y → dif F ts n q = 1) from by
      unfold dif
      constructor
      · intro e
        rw [if_neg (fun h => h.2 (by simp only [Int.toNat_natCast]; rw [hx, hy]; exact e))]
      · intro e
        rw [if_pos ⟨hp, by simp only [Int.toNat_natCast]; rw [hx, hy]; exact e⟩])
    clear hp PL hR hT hl hx hy p0 n0 ct cq S
    go_enter Try.func18, Try.ntmps18
    go_wp2
    refine region_line [(0, true), (1, true), (2, false), (3, true), (4, true), (5, true), (6, true), (7, true), (8, true), (9, true), (10, true), (11, true), (12, true), (13, true)] (fun z => z.cell? ⟨gp, 0, none⟩ = some (.slice (some ⟨g, 0, none⟩) n c1) ∧ z.cell? ⟨gn, 0, none⟩ = some (.slice (some ⟨bt, off, none⟩) n cc) ∧ z.cell? ⟨g, q, none⟩ = some (.string x) ∧ z.cell? ⟨bt, off + q, none⟩ = some (.string y)) (by kernel_rfl) (by kernel_rfl) (fun _ _ _ d _ h => by cases d <;> exact h) hC ?_
    iterate 2 (refine line_read (a' := ?_) rfl (by kernel_rfl) (by kernel_rfl) hC (fun z hz K hK => ?_) ?_; rotate_left; · obtain ⟨d0, d1, d2, d3⟩ := hz; go_wp2; exact hK)
    refine line_act (by rfl) (fun K hK => ?_)
    go_wp2_with (go_at_call 19; refine (P1.out _).mono ?_; rintro e w2 ⟨rfl, rfl⟩)
    refine hK _ _ _ hC (fun _ h => h) ?_
    clear hK K
    by_cases e : x = y
    · have hb2 : (x.toList == y.toList) = true := by rw [e]; exact beq_self_eq_true _
      have HDx := Lib.hid (HD.out.1 e)
      clear e HD
      iterate 11 (refine line_read (a' := ?_) rfl (by kernel_rfl) (by kernel_rfl) hC (fun z hz K hK => ?_) ?_; rotate_left; · obtain ⟨d0, d1, d2, d3⟩ := hz; go_wp2; exact hK)
      refine line_end ?_
      clear hC
      go_wp2
      go_end0
      refine ⟨rfl, ?_, gb_drew (gb_refl w _)⟩
      rw [HDx.out]
      simpa using SH.out
    · have hb2 : (x.toList == y.toList) = false := by
        rw [beq_eq_false_iff_ne]
        intro h
        apply e
        have h2 := ByteArray.toList_eq x
        have h3 := ByteArray.toList_eq y
        have h4 : x.data.toList = y.data.toList := by rw [← h2, ← h3, h]
        have h5 : x.data = y.data := Array.toList_inj.1 h4
        cases x; cases y; simp only at h5; rw [h5]
      have HDx := Lib.hid (HD.out.2 e)
      clear e HD
      iterate 11 (refine line_read (a' := ?_) rfl (by kernel_rfl) (by kernel_rfl) hC (fun z hz K hK => ?_) ?_; rotate_left; · obtain ⟨d0, d1, d2, d3⟩ := hz; go_wp2; exact hK)
      refine line_end ?_
      clear hC
      have hw64 : IntKind.i64.wrap (u + b) = u + b := IntWalk.i64_in (u + b) (by omega)
      go_wp2
      go_end0
      refine ⟨rfl, ?_, gb_drew (gb_set (gb_refl w _) _ _)⟩
      rw [HDx.out]
      rw [show u + b * ((1 : Nat) : Int) = u + b by simp]
      exact SH.out.count (u + b)
  · have P1 := Lib.hid (fun wx => show Calls Try.prog 19 #[.slice a1 n c1, .int .i64 p] wx fun e w' => e = .returned (.bool false) ∧ wx = w' from by
      have := PL.out wx
      rw [show (decide (0 ≤ p) && decide (p < (n : Int))) = false from by
        rw [← Bool.not_eq_true, Bool.and_eq_true, decide_eq_true_eq, decide_eq_true_eq]
        exact hp] at this
      exact this)
    have HD := Lib.hid (show dif F ts n p = 0 from by
      unfold dif
      rw [if_neg (fun h => hp h.1)])
    have hC : w.drew.cell? ⟨gp, 0, none⟩ = some (.slice a1 n c1) := p0
    clear hp PL hT hl p0 n0 S
    go_enter Try.func18, Try.ntmps18
    go_wp2
    refine region_line [(0, true), (1, true), (2, false), (3, true), (4, true), (5, true), (6, true), (7, true), (8, true), (9, true), (10, true), (11, true), (12, true), (13, true)] (fun z => z.cell? ⟨gp, 0, none⟩ = some (.slice a1 n c1)) (by kernel_rfl) (by kernel_rfl) (fun _ _ _ d _ h => by cases d <;> exact h) hC ?_
    iterate 2 (refine line_read (a' := ?_) rfl (by kernel_rfl) (by kernel_rfl) hC (fun z hz K hK => ?_) ?_; rotate_left; · have d0 := hz; go_wp2; exact hK)
    refine line_act (by rfl) (fun K hK => ?_)
    go_wp2_with (go_at_call 19; refine (P1.out _).mono ?_; rintro e w2 ⟨rfl, rfl⟩)
    refine hK _ _ _ hC (fun _ h => h) ?_
    clear hK K
    iterate 11 (refine line_read (a' := ?_) rfl (by kernel_rfl) (by kernel_rfl) hC (fun z hz K hK => ?_) ?_; rotate_left; · clear hz; go_wp2; exact hK)
    refine line_end ?_
    clear hC
    go_wp2
    go_end0
    refine ⟨rfl, ?_, gb_drew (gb_refl w _)⟩
    rw [HD.out]
    simpa using SH.out

end Go.Proofs.Ythailmoeggdfhaa
