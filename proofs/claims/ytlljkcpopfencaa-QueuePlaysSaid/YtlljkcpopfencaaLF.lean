/-
  Layer 20 (queue): Submit, Done; of nil.
-/
import Derived.Test.YtlljkcpopfencaaLE
namespace Go.Proofs.Ytlljkcpopfencaa
set_option linter.unusedVariables false
set_option linter.unusedSimpArgs false
set_option maxRecDepth 100000
open Go.RowKit

section
variable {ops : Array Oper} {rest : List Oper} {o : Oper} {a : Act} {w : World} {Q : Exit → Act → World → Prop}
theorem dne_loadC (hwt : Region.wanted o (yielded ops a.tmps) = true) (x : Operand) (ho : o.op = .load 32 x) {b off : Nat} (hx : a.eval x = .pointer (some ⟨b, off, none⟩)) {c : Chg} (hr : w.rangeAt b off (chgC c).toList)
    (h : wpList Try.prog ops Q rest (a.put o.dst (.agg (chgC c))) w) : wpList Try.prog ops Q (o :: rest) a w :=
  wpList_want hwt fun K hK => wp_load_mid _ x ho b off hx _ _ hr Try.underlying32 rfl (by rw [Try.sizeDne]; rfl) (hK _ _ (by simpa using h))
end
def subE (ws : List Chg) (c : Chg) : Int := if chkQ c.pl c.kd c.dt ≠ 0 then chkQ c.pl c.kd c.dt else if ws.length = 8 then 8 else 0
def subR (ws : List Chg) (c : Chg) : List Chg := if subE ws c = 0 then ws ++ [c] else ws
section
variable {w w1 w5 w7 w' : World} {b n : Nat} {vw vd v7 : Value} {ws ws' ds ds' : List Chg} {c : Chg}
theorem QwP.back (h : w.grownBy w1 none) (h2 : QwP w1 b vw vd ws ds w') : QwP w b vw vd ws ds w' := by
  obtain ⟨v, a1, a2, a3⟩ := h2
  exact ⟨v, a1, (KpF.of_grown h (by simp)).trans a2, fun k hk => by rcases a3 k hk with e | e; exact .inl e; exact .inr (Nat.le_trans h.size e)⟩
theorem QdP.back (h : w.grownBy w1 none) (h2 : QdP w1 b vw vd ws ds w') : QdP w b vw vd ws ds w' := by
  obtain ⟨v, a1, a2, a3⟩ := h2
  exact ⟨v, a1, (KpF.of_grown h (by simp)).trans a2, fun k hk => by rcases a3 k hk with e | e; exact .inl e; exact .inr (Nat.le_trans h.size e)⟩
theorem sub_fin (hs : QS w5 b vw vd ws ds) (hn : ws.length = n ∧ n < 8) (hr : TailRow w7 (b + 1) 29 3 v7 (n + 1) (chgsL ws ++ (chgC c).toList)) (hg : w5.grownBy w7 vw.ownBlock) (ho : ∀ k, v7.ownBlock = some k → vw.ownBlock = some k ∨ w5.heap.size ≤ k) :
    QwP w5 b vw vd (ws ++ [c]) ds (w7.setCell ⟨b, 0, none⟩ v7) := by
  have hb7 := hs.blk.kept hg (fun e => by have := (hs.wa.lt b e.symm).1; omega)
  have hG : w7.grownBy (w7.setCell ⟨b, 0, none⟩ v7) (some b) := gb_set (gb_refl w7 _) _ _
  have hd7 : ∀ k, vd.ownBlock = some k → v7.ownBlock = some k → False := fun k h1 h2 => by
    rcases ho k h2 with e | e
    · exact hs.ne k e h1
    · have := (hs.dn.lt k h1).2; omega
  refine ⟨v7, ⟨hb7.set 0 v7, ?_, ((hs.dn.kept hg ?_).kept hG (.inr fun e => by have := (hs.dn.lt _ e).1; omega)), fun k h1 h2 => hd7 k h2 h1, by rw [List.length_append, hn.1]; simp; omega, hs.d0⟩, (KpF.of_grown hg (fun k hk => .inr (.inl hk))).trans (KpF.of_grown hG (fun k hk => by injection hk with hk; exact .inl hk.symm)), ho⟩
  · rw [tri_snoc, List.length_append, hn.1]
    exact hr.kept hG (fun k hk e => by have := (hr.lt k hk).1; injection e with e; omega)
  · cases hv : vd.ownBlock with
    | none => exact .inl rfl
    | some k => exact .inr fun e => hs.ne k e.symm hv
theorem dne_fin (hs : QS w5 b vw vd ws ds) (hn : ds.length = n) (hr : w7.ownsRow (b + 1) 32 3 v7 (n + 1) (chgsL ds ++ (chgC c).toList)) (hg : w5.grownBy w7 vd.ownBlock) (ho : v7.ownBlock = vd.ownBlock ∨ v7.ownBlock = some w5.heap.size) :
    QdP w5 b vw vd ws (ds ++ [c]) (w7.setCell ⟨b, 1, none⟩ v7) := by
  have hb7 := hs.blk.kept hg (fun e => by have := (hs.dn.lt b e.symm).1; omega)
  have hG : w7.grownBy (w7.setCell ⟨b, 1, none⟩ v7) (some b) := gb_set (gb_refl w7 _) _ _
  have ho2 : ∀ k, v7.ownBlock = some k → vd.ownBlock = some k ∨ w5.heap.size ≤ k := fun k hk => by
    rcases ho with e | e
    · exact .inl (e ▸ hk)
    · rw [e] at hk; injection hk with hk; exact .inr (Nat.le_of_eq hk)
  have hd7 : ∀ k, vw.ownBlock = some k → v7.ownBlock = some k → False := fun k h1 h2 => by
    rcases ho2 k h2 with e | e
    · exact hs.ne k h1 e
    · have := (hs.wa.lt k h1).2; omega
  refine ⟨v7, ⟨hb7.set 1 v7, ((hs.wa.kept hg (fun k hk e => hs.ne k hk e.symm)).kept hG (fun k hk e => by have := (hs.wa.lt k hk).1; injection e with e; omega)), ?_, hd7, hs.wl, fun e => by simp at e⟩, (KpF.of_grown hg (fun k hk => .inr (.inr hk))).trans (KpF.of_grown hG (fun k hk => by injection hk with hk; exact .inl hk.symm)), ho2⟩
  rw [tri_snoc, List.length_append, hn]
  exact hr.kept hG (.inr fun e => by have := (hr.lt _ e).1; omega)

theorem submit_bad (h : QS w b vw vd ws ds) (c : Chg) (hne : chkQ c.pl c.kd c.dt ≠ 0) :
    Calls Try.prog 8 #[.pointer (some ⟨b, 0, none⟩), chgV c] w fun e w' => e = .returned (.int .i64 (chkQ c.pl c.kd c.dt)) ∧ w.grownBy w' none := by
  obtain ⟨r, hr⟩ : ∃ r, chkQ c.pl c.kd c.dt = r := ⟨_, rfl⟩
  have CHK := fun wx => check20_any c.pl c.kd c.dt wx
  rw [hr] at CHK hne
  rw [hr, chgV_is]
  have hne2 : (r != 0) = true := by simpa using hne
  have HE := Lib.hid (World.grownBy_alloc w (.cells (chgC c) 29) none)
  have hb1 := Blk.new w 29 (chgC c)
  clear hne hr h
  go_enter Try.func8, Try.ntmps8
  go_upto_region 1 with fail
  go_wp2_with (first
    | (refine cmd_loadC rfl _ rfl rfl (Blk.range hb1 0 3 rfl) ?_)
    | (go_at_call 9; refine (CHK _).mono ?_; rintro e w2 ⟨rfl, hE2⟩; have HE2 := Lib.hid hE2; clear hE2))
  go_ret
  exact ⟨rfl, ext_trans HE.out HE2.out⟩
theorem submit_full (h : QS w b vw vd ws ds) (c : Chg) (hne : chkQ c.pl c.kd c.dt = 0) (h8 : ws.length = 8) :
    Calls Try.prog 8 #[.pointer (some ⟨b, 0, none⟩), chgV c] w fun e w' => e = .returned (.int .i64 8) ∧ w.grownBy w' none := by
  obtain ⟨r, hr⟩ : ∃ r, chkQ c.pl c.kd c.dt = r := ⟨_, rfl⟩
  have CHK := fun wx => check20_any c.pl c.kd c.dt wx
  rw [hr] at CHK hne
  rw [chgV_is]
  have hne2 : (r != 0) = false := by simpa using hne
  have HE := Lib.hid (World.grownBy_alloc w (.cells (chgC c) 29) none)
  have hb1 := Blk.new w 29 (chgC c)
  have hs1 := h.ext HE.out
  obtain ⟨z, hz⟩ : ∃ z : Int, z = (ws.length : Int) := ⟨_, rfl⟩
  have LEN := fun wx (hx : QS wx b vw vd ws ds) => len20 hx
  rw [← hz] at LEN
  have hz8 : decide (8 ≤ z) = true := by rw [hz, h8]; rfl
  clear hne hr h hz h8
  go_enter Try.func8, Try.ntmps8
  go_upto_region 1 with fail
  go_wp2_with (first
    | (refine cmd_loadC rfl _ rfl rfl (Blk.range hb1 0 3 rfl) ?_)
    | (go_at_call 9; refine (CHK _).mono ?_; rintro e w2 ⟨rfl, hE2⟩; have hs2 := hs1.ext hE2; have HE2 := Lib.hid hE2; clear hE2 hs1)
    | (go_at_call 14; refine (LEN _ hs2).mono ?_; rintro e w3 ⟨rfl, rfl⟩))
  go_ret
  exact ⟨rfl, ext_trans HE.out HE2.out⟩
set_option maxHeartbeats 1600000 in
theorem submit_ok (h : QS w b vw vd ws ds) (c : Chg) (hne : chkQ c.pl c.kd c.dt = 0) (h8 : ws.length < 8) :
    Calls Try.prog 8 #[.pointer (some ⟨b, 0, none⟩), chgV c] w fun e w' => e = .returned (.int .i64 0) ∧ QwP w b vw vd (ws ++ [c]) ds w' := by
  obtain ⟨r, hr⟩ : ∃ r, chkQ c.pl c.kd c.dt = r := ⟨_, rfl⟩
  have CHK := fun wx => check20_any c.pl c.kd c.dt wx
  rw [hr] at CHK hne
  rw [chgV_is]
  have hne2 : (r != 0) = false := by simpa using hne
  have hE := World.grownBy_alloc w (.cells (chgC c) 29) none
  have hb1 := Blk.new w 29 (chgC c)
  have hs1 := h.ext hE
  have hlt := h.lt
  obtain ⟨n, hn⟩ : ∃ n, ws.length = n := ⟨_, rfl⟩
  obtain ⟨z, hz⟩ : ∃ z : Int, z = (ws.length : Int) := ⟨_, rfl⟩
  have LEN := fun wx (hx : QS wx b vw vd ws ds) => len20 hx
  rw [← hz] at LEN
  have hz8 : decide (8 ≤ z) = false := by rw [hz]; exact decide_eq_false (by omega)
  have HN := Lib.hid (show ws.length = n ∧ n < 8 from ⟨hn, by omega⟩)
  obtain ⟨so, sc, hv⟩ := h.wa.form20
  rw [hn] at hv
  obtain ⟨i0, hi, hz0, hz1, hz2⟩ := info_parts Try.infoCmd
  have hn8 : n < 8 := by omega
  have HLB2 := Lib.hid (show b < w.heap.size ∧ b < w.heap.size ∧ ∀ k, fpQ b vw vd k → k < w.heap.size from ⟨h.blk.lt, h.blk.lt, fun k hk => (hlt k hk).2⟩)
  subst hv
  have HE := Lib.hid hE
  clear hne hr h hz h8 hn hlt hE
  obtain ⟨L, hL⟩ : ∃ z, w.heap.size = z := ⟨_, rfl⟩
  obtain ⟨w1, hw1⟩ : ∃ v, w.alloc (.cells (chgC c) 29) = v := ⟨_, rfl⟩
  rw [hw1] at HE hb1 hs1
  rw [hL] at hb1 HLB2
  go_enter Try.func8, Try.ntmps8
  go_upto_region 1 with fail
  clear hL hw1
  go_wp2_with (first
    | (refine cmd_loadC rfl _ rfl rfl (Blk.range hb1 0 3 rfl) ?_)
    | (go_at_call 9; refine (CHK _).mono ?_; rintro e w2 ⟨rfl, hE2⟩; have hs2 := hs1.ext hE2; have hb2 := hb1.ext hE2; have HE2 := Lib.hid (ext_trans HE.out hE2); clear hE2 hs1 hb1)
    | (go_at_call 14; refine (LEN _ hs2).mono ?_; rintro e w3 ⟨rfl, rfl⟩))
  clear CHK LEN
  have hSd : Blk w2.drew L 29 (chgC c) := hb2.ext (Ext.drew w2)
  have hQd : QS w2.drew b (.slice so n sc) vd ws ds := hs2.ext (Ext.drew w2)
  have HEd := Lib.hid (ext_trans HE2.out (Ext.drew w2))
  clear hs2 hb2 
  refine region_tree (.read 0 (.read 1 (.read 2 (.read 3 (.read 5 (.two 4 6 (.one 6 (.one 7 (.read 8 (.read 9 (.one 10 .done))))) (.one 4 (.one 7 (.read 8 (.read 9 (.one 10 .done))))))))))) (fun x => Blk x L 29 (chgC c)) (by kernel_rfl) (by kernel_rfl) (fun _ _ _ d _ h => by cases d <;> exact h) hSd ?_
  obtain ⟨wd, hwd⟩ : ∃ y, w2.drew = y := ⟨_, rfl⟩
  rw [hwd] at hSd hQd HEd ⊢
  have c0 := hQd.c0
  have hE5 := World.grownBy_alloc wd (.cells #[.int .i64 c.pl, .int .i64 c.kd, .string c.dt] 29) none
  have hS5 : Blk (wd.alloc (.cells #[.int .i64 c.pl, .int .i64 c.kd, .string c.dt] 29)) L 29 (chgC c) := hSd.ext hE5
  have hQ5 := hQd.ext hE5
  have c05 := hQ5.c0
  have hT5 := hQ5.wa
  rw [HN.out.1] at hT5
  have HT5 := Lib.hid hT5
  have HQ5 := Lib.hid hQ5
  have HQd := Lib.hid hQd
  have HLB := Lib.hid hQd.blk.lt
  have HE5 := Lib.hid (ext_trans HEd.out hE5)
  clear hE5 hQ5 hT5 hQd
  refine tree_read (a' := ?_) rfl (by kernel_rfl) (by kernel_rfl) hSd (fun x0 hx K hK => ?_) ?_
  rotate_left
  · clear hx
    go_wp2
    exact hK
  refine tree_read (a' := ?_) rfl (by kernel_rfl) (by kernel_rfl) hSd (fun x0 hx K hK => ?_) ?_
  rotate_left
  · clear hx
    go_wp2
    exact hK
  refine tree_read (a' := ?_) rfl (by kernel_rfl) (by kernel_rfl) hSd (fun x0 hx K hK => ?_) ?_
  rotate_left
  · clear hx
    go_wp2
    exact hK
  refine tree_read (a' := ?_) rfl (by kernel_rfl) (by kernel_rfl) hSd (fun x0 hx K hK => ?_) ?_
  rotate_left
  · clear hx
    go_wp2
    exact hK
  refine tree_read (a' := ?_) rfl (by kernel_rfl) (by kernel_rfl) hSd (fun x0 hx K hK => ?_) ?_
  rotate_left
  · refine cmd_load rfl _ rfl rfl (Blk.range hx 0 3 rfl) ?_
    clear hx
    go_wp2
    exact hK
  refine tree_two ?_ ?_
  · refine tree_one (by rfl) (fun K hK => ?_)
    go_wp2
    refine hK _ _ (fun x => Blk x L 29 (chgC c)) hSd (fun x hx => hx) ?_
    clear hK K
    refine tree_one (by rfl) (fun K hK => ?_)
    go_wp2
    refine hK _ _ (fun x => Blk x L 29 (chgC c)) hS5 (fun x hx => hx) ?_
    clear hK K
    refine tree_one (by rfl) (fun K hK => ?_)
    refine append_tail rfl _ _ 26 rfl (b + 1) 29 i0 _ 3 32 Try.underlying26 hi hz0 hz1 hz2 rfl (by decide) rfl HT5.out ⟨wd.heap.size, 0, none⟩ 1 (chgC c).toList rfl rfl (tri_new wd _ c) (by simp [chgC, Value.oneCell']) (by unfold maxLen; omega) (by omega) (by have := HLB.out; simp; omega) ?_
    intro v7 w7 hr7 hg7 hn7
    have HF := Lib.hid (sub_fin HQ5.out HN.out hr7 hg7 hn7)
    have hb7 := HQ5.out.blk.kept hg7 (fun e => by have := (HQ5.out.wa.lt b e.symm).1; omega)
    have hS7 : Blk w7 L 29 (chgC c) := hS5.kept hg7 (fun e => by have h1 := (HQd.out.wa.lt L e.symm); have h2 := HLB2.out.2.2 L (.inr (.inl e.symm)); omega)
    obtain ⟨a7, c7, rfl⟩ := hr7.form20
    refine hK _ _ (fun x => Blk x L 29 (chgC c)) hS7 (fun x hx => hx) ?_
    clear hK K
    have c7 := (hb7.cell 0).trans (show _ = some _ from rfl)
    have f7 := hb7.free 0
    clear hr7 hg7 hn7
    iterate 2 (refine tree_read (a' := ?_) rfl (by kernel_rfl) (by kernel_rfl) hS7 (fun x0 hx K hK => ?_) ?_; rotate_left; · clear hx; go_wp2; exact hK)
    refine tree_one (by rfl) (fun K hK => ?_)
    go_wp2
    refine hK _ _ (fun x => Blk x L 29 (chgC c)) (hS7.far (by have := HLB2.out; simp; omega) _) (fun x hx => hx) ?_
    clear hK K hb7 hS7 c7 f7
    refine tree_end ?_
    go_wp2
    go_ret
    exact ⟨rfl, QwP.back HE5.out HF.out⟩
  · refine tree_one (by rfl) (fun K hK => ?_)
    go_wp2
    refine hK _ _ (fun x => Blk x L 29 (chgC c)) hS5 (fun x hx => hx) ?_
    clear hK K
    refine tree_one (by rfl) (fun K hK => ?_)
    go_wp2
    refine hK _ _ (fun x => Blk x L 29 (chgC c)) hS5 (fun x hx => hx) ?_
    clear hK K
    refine tree_one (by rfl) (fun K hK => ?_)
    refine append_tail rfl _ _ 26 rfl (b + 1) 29 i0 _ 3 32 Try.underlying26 hi hz0 hz1 hz2 rfl (by decide) rfl HT5.out ⟨wd.heap.size, 0, none⟩ 1 (chgC c).toList rfl rfl (tri_new wd _ c) (by simp [chgC, Value.oneCell']) (by unfold maxLen; omega) (by omega) (by have := HLB.out; simp; omega) ?_
    intro v7 w7 hr7 hg7 hn7
    have HF := Lib.hid (sub_fin HQ5.out HN.out hr7 hg7 hn7)
    have hb7 := HQ5.out.blk.kept hg7 (fun e => by have := (HQ5.out.wa.lt b e.symm).1; omega)
    have hS7 : Blk w7 L 29 (chgC c) := hS5.kept hg7 (fun e => by have h1 := (HQd.out.wa.lt L e.symm); have h2 := HLB2.out.2.2 L (.inr (.inl e.symm)); omega)
    obtain ⟨a7, c7, rfl⟩ := hr7.form20
    refine hK _ _ (fun x => Blk x L 29 (chgC c)) hS7 (fun x hx => hx) ?_
    clear hK K
    have c7 := (hb7.cell 0).trans (show _ = some _ from rfl)
    have f7 := hb7.free 0
    clear hr7 hg7 hn7
    iterate 2 (refine tree_read (a' := ?_) rfl (by kernel_rfl) (by kernel_rfl) hS7 (fun x0 hx K hK => ?_) ?_; rotate_left; · clear hx; go_wp2; exact hK)
    refine tree_one (by rfl) (fun K hK => ?_)
    go_wp2
    refine hK _ _ (fun x => Blk x L 29 (chgC c)) (hS7.far (by have := HLB2.out; simp; omega) _) (fun x hx => hx) ?_
    clear hK K hb7 hS7 c7 f7
    refine tree_end ?_
    go_wp2
    go_ret
    exact ⟨rfl, QwP.back HE5.out HF.out⟩

set_option maxHeartbeats 1600000 in
theorem done20 (h : QS w b vw vd ws ds) (c : Chg) (h8 : ds.length ≤ 100000) :
    Calls Try.prog 11 #[.pointer (some ⟨b, 0, none⟩), chgV c] w fun e w' => e = .returned (.tuple #[]) ∧ QdP w b vw vd ws (ds ++ [c]) w' := by
  rw [chgV_is]
  have hE := World.grownBy_alloc w (.cells (chgC c) 32) none
  have hb1 := Blk.new w 32 (chgC c)
  have hs1 := h.ext hE
  have hlt := h.lt
  obtain ⟨n, hn⟩ : ∃ n, ds.length = n := ⟨_, rfl⟩
  have HN := Lib.hid hn
  obtain ⟨so, sc, hv⟩ := owns_shape13 h.dn
  rw [hn] at hv
  obtain ⟨i0, hi, hz0, hz1, hz2⟩ := info_parts Try.infoDne
  have hn8 : n ≤ 100000 := by omega
  have HLB2 := Lib.hid (show b < w.heap.size ∧ b < w.heap.size ∧ ∀ k, fpQ b vw vd k → k < w.heap.size from ⟨h.blk.lt, h.blk.lt, fun k hk => (hlt k hk).2⟩)
  subst hv
  have HE := Lib.hid hE
  clear h h8 hn hlt hE
  obtain ⟨L, hL⟩ : ∃ z, w.heap.size = z := ⟨_, rfl⟩
  obtain ⟨w2, hw1⟩ : ∃ v, w.alloc (.cells (chgC c) 32) = v := ⟨_, rfl⟩
  rw [hw1] at HE hb1 hs1
  rw [hL] at hb1 HLB2
  go_enter Try.func11, Try.ntmps11
  go_upto_region 1 with fail
  clear hL hw1
  go_wp2
  have hSd : Blk w2.drew L 32 (chgC c) := hb1.ext (Ext.drew w2)
  have hQd : QS w2.drew b vw (.slice so n sc) ws ds := hs1.ext (Ext.drew w2)
  have HEd := Lib.hid (ext_trans HE.out (Ext.drew w2))
  clear hs1 hb1
  refine region_tree (.read 0 (.read 1 (.read 2 (.read 3 (.read 5 (.two 4 6 (.one 6 (.one 7 (.read 8 (.read 9 (.one 10 .done))))) (.one 4 (.one 7 (.read 8 (.read 9 (.one 10 .done))))))))))) (fun x => Blk x L 32 (chgC c)) (by kernel_rfl) (by kernel_rfl) (fun _ _ _ d _ h => by cases d <;> exact h) hSd ?_
  obtain ⟨wd, hwd⟩ : ∃ y, w2.drew = y := ⟨_, rfl⟩
  rw [hwd] at hSd hQd HEd ⊢
  have c0 := hQd.c1
  have hE5 := World.grownBy_alloc wd (.cells #[.int .i64 c.pl, .int .i64 c.kd, .string c.dt] 32) none
  have hS5 : Blk (wd.alloc (.cells #[.int .i64 c.pl, .int .i64 c.kd, .string c.dt] 32)) L 32 (chgC c) := hSd.ext hE5
  have hQ5 := hQd.ext hE5
  have c05 := hQ5.c1
  have hT5 := hQ5.dn
  rw [HN.out] at hT5
  have HT5 := Lib.hid hT5
  have HQ5 := Lib.hid hQ5
  have HQd := Lib.hid hQd
  have HLB := Lib.hid hQd.blk.lt
  have HE5 := Lib.hid (ext_trans HEd.out hE5)
  clear hE5 hQ5 hT5 hQd
  refine tree_read (a' := ?_) rfl (by kernel_rfl) (by kernel_rfl) hSd (fun x0 hx K hK => ?_) ?_
  rotate_left
  · clear hx
    go_wp2
    exact hK
  refine tree_read (a' := ?_) rfl (by kernel_rfl) (by kernel_rfl) hSd (fun x0 hx K hK => ?_) ?_
  rotate_left
  · clear hx
    go_wp2
    exact hK
  refine tree_read (a' := ?_) rfl (by kernel_rfl) (by kernel_rfl) hSd (fun x0 hx K hK => ?_) ?_
  rotate_left
  · clear hx
    go_wp2
    exact hK
  refine tree_read (a' := ?_) rfl (by kernel_rfl) (by kernel_rfl) hSd (fun x0 hx K hK => ?_) ?_
  rotate_left
  · clear hx
    go_wp2
    exact hK
  refine tree_read (a' := ?_) rfl (by kernel_rfl) (by kernel_rfl) hSd (fun x0 hx K hK => ?_) ?_
  rotate_left
  · refine dne_load rfl _ rfl rfl (Blk.range hx 0 3 rfl) ?_
    clear hx
    go_wp2
    exact hK
  refine tree_two ?_ ?_
  · refine tree_one (by rfl) (fun K hK => ?_)
    go_wp2
    refine hK _ _ (fun x => Blk x L 32 (chgC c)) hSd (fun x hx => hx) ?_
    clear hK K
    refine tree_one (by rfl) (fun K hK => ?_)
    go_wp2
    refine hK _ _ (fun x => Blk x L 32 (chgC c)) hS5 (fun x hx => hx) ?_
    clear hK K
    refine tree_one (by rfl) (fun K hK => ?_)
    refine wpList_append_own_at (wd.alloc (.cells #[.int .i64 c.pl, .int .i64 c.kd, .string c.dt] 32)) rfl _ _ 27 rfl (b + 1) 32 i0 _ 3 32 Try.underlying27 hi hz0 hz1 hz2 rfl (by decide) _ n _ rfl HT5.out ⟨wd.heap.size, 0, none⟩ 1 1 (chgC c).toList rfl rfl (tri_new wd _ c) (by simp [chgC, Value.oneCell']) (by unfold maxLen; omega) (by omega) (by have := HLB.out; simp; omega) ?_
    intro v7 w7 hr7 hg7 _ hn7
    have HF := Lib.hid (dne_fin HQ5.out HN.out hr7 hg7 hn7)
    have hb7 := HQ5.out.blk.kept hg7 (fun e => by have := (HQ5.out.dn.lt b e.symm).1; omega)
    have hS7 : Blk w7 L 32 (chgC c) := hS5.kept hg7 (fun e => by have h2 := HLB2.out.2.2 L (.inr (.inr e.symm)); omega)
    obtain ⟨a7, c7, rfl⟩ := owns_shape13 hr7
    refine hK _ _ (fun x => Blk x L 32 (chgC c)) hS7 (fun x hx => hx) ?_
    clear hK K
    have c7 := (hb7.cell 1).trans (show _ = some _ from rfl)
    have f7 := hb7.free 1
    clear hr7 hg7 hn7
    iterate 2 (refine tree_read (a' := ?_) rfl (by kernel_rfl) (by kernel_rfl) hS7 (fun x0 hx K hK => ?_) ?_; rotate_left; · clear hx; go_wp2; exact hK)
    refine tree_one (by rfl) (fun K hK => ?_)
    go_wp2
    refine hK _ _ (fun x => Blk x L 32 (chgC c)) (hS7.far (by have := HLB2.out; simp; omega) _) (fun x hx => hx) ?_
    clear hK K hb7 hS7 c7 f7
    refine tree_end ?_
    go_wp2
    go_end0
    exact ⟨rfl, QdP.back HE5.out HF.out⟩
  · refine tree_one (by rfl) (fun K hK => ?_)
    go_wp2
    refine hK _ _ (fun x => Blk x L 32 (chgC c)) hS5 (fun x hx => hx) ?_
    clear hK K
    refine tree_one (by rfl) (fun K hK => ?_)
    go_wp2
    refine hK _ _ (fun x => Blk x L 32 (chgC c)) hS5 (fun x hx => hx) ?_
    clear hK K
    refine tree_one (by rfl) (fun K hK => ?_)
    refine wpList_append_own_at (wd.alloc (.cells #[.int .i64 c.pl, .int .i64 c.kd, .string c.dt] 32)) rfl _ _ 27 rfl (b + 1) 32 i0 _ 3 32 Try.underlying27 hi hz0 hz1 hz2 rfl (by decide) _ n _ rfl HT5.out ⟨wd.heap.size, 0, none⟩ 1 1 (chgC c).toList rfl rfl (tri_new wd _ c) (by simp [chgC, Value.oneCell']) (by unfold maxLen; omega) (by omega) (by have := HLB.out; simp; omega) ?_
    intro v7 w7 hr7 hg7 _ hn7
    have HF := Lib.hid (dne_fin HQ5.out HN.out hr7 hg7 hn7)
    have hb7 := HQ5.out.blk.kept hg7 (fun e => by have := (HQ5.out.dn.lt b e.symm).1; omega)
    have hS7 : Blk w7 L 32 (chgC c) := hS5.kept hg7 (fun e => by have h2 := HLB2.out.2.2 L (.inr (.inr e.symm)); omega)
    obtain ⟨a7, c7, rfl⟩ := owns_shape13 hr7
    refine hK _ _ (fun x => Blk x L 32 (chgC c)) hS7 (fun x hx => hx) ?_
    clear hK K
    have c7 := (hb7.cell 1).trans (show _ = some _ from rfl)
    have f7 := hb7.free 1
    clear hr7 hg7 hn7
    iterate 2 (refine tree_read (a' := ?_) rfl (by kernel_rfl) (by kernel_rfl) hS7 (fun x0 hx K hK => ?_) ?_; rotate_left; · clear hx; go_wp2; exact hK)
    refine tree_one (by rfl) (fun K hK => ?_)
    go_wp2
    refine hK _ _ (fun x => Blk x L 32 (chgC c)) (hS7.far (by have := HLB2.out; simp; omega) _) (fun x hx => hx) ?_
    clear hK K hb7 hS7 c7 f7
    refine tree_end ?_
    go_wp2
    go_end0
    exact ⟨rfl, QdP.back HE5.out HF.out⟩
end
theorem nil_done (w : World) (c : Chg) : Calls Try.prog 11 #[.pointer none, chgV c] w fun e w' => e = .returned (.tuple #[]) ∧ w.grownBy w' none := by
  have HE := Lib.hid (World.grownBy_alloc w (.cells (chgC c) 32) none)
  rw [chgV_is]
  go_enter Try.func11, Try.ntmps11
  go_wp2
  go_end0
  exact ⟨rfl, HE.out⟩
theorem nil_clear (w : World) : Calls Try.prog 12 #[.pointer none] w fun e w' => e = .returned (.tuple #[]) ∧ w = w' := by
  go_enter Try.func12, Try.ntmps12
  go_wp2
  go_end0
  exact ⟨rfl, rfl⟩
theorem nil_len (w : World) : Calls Try.prog 14 #[.pointer none] w fun e w' => e = .returned (.int .i64 0) ∧ w = w' := by
  go_enter Try.func14, Try.ntmps14
  go_wp2
  go_ret
  exact ⟨rfl, rfl⟩
theorem nil_all (w : World) : Calls Try.prog 13 #[.pointer none] w fun e w' => e = .returned (.slice none 0 0) ∧ w = w' := by
  go_enter Try.func13, Try.ntmps13
  go_wp2
  go_ret
  exact ⟨rfl, rfl⟩
theorem nil_submit (w : World) (c : Chg) : Calls Try.prog 8 #[.pointer none, chgV c] w fun e w' => e = .returned (.int .i64 1) ∧ w.grownBy w' none := by
  have HE := Lib.hid (World.grownBy_alloc w (.cells (chgC c) 29) none)
  rw [chgV_is]
  go_enter Try.func8, Try.ntmps8
  go_wp2
  go_ret
  exact ⟨rfl, HE.out⟩
theorem nil_next (w : World) : Calls Try.prog 10 #[.pointer none] w fun e w' => e = .returned (.tuple #[chgV noChg, .bool false]) ∧ w.grownBy w' none := by
  have hb1 := Blk.new w 29 #[.int .i64 0, .int .i64 0, .string ⟨#[]⟩]
  obtain ⟨z0, hz0⟩ : ∃ z : Int, z = 0 := ⟨_, rfl⟩
  have LEN := fun wx => nil_len wx
  rw [← hz0] at LEN
  have hz : (z0 == 0) = true := by rw [hz0]; rfl
  have HE := Lib.hid (World.grownBy_alloc w (.cells #[.int .i64 0, .int .i64 0, .string ⟨#[]⟩] 29) none)
  clear hz0
  go_enter Try.func10, Try.ntmps10
  go_wp2_with (first
    | (go_at_call 14; refine (LEN _).mono ?_; rintro e w2 ⟨rfl, rfl⟩)
    | (refine cmd_store (c := noChg) _ _ rfl rfl rfl hb1 rfl rfl ?_; intro w6 hb6 hg6 hs6))
  refine bodyPost_ret (v := .tuple #[.agg (chgC noChg), .bool false]) (results_ct20 (fn := Try.f10) rfl rfl rfl hb6 Try.underlying29 rfl Try.sizeCmd) rfl ?_
  exact ⟨rfl, grown_past13 HE.out hg6 (Nat.le_refl _)⟩

end Go.Proofs.Ytlljkcpopfencaa
