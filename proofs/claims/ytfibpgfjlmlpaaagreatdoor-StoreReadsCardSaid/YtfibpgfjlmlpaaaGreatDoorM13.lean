/-
  Texts put together: YB JA JB JC.
-/
import Derived.Test.YtfibpgfjlmlpaaaGreatDoorM12
import Derived.Test.YtfibpgfjlmlpaaaGreatDoorM08
/-
  Layer 18 (store): a store in memory; what its calls leave.
-/
namespace Go.Proofs.YtfibpgfjlmlpaaaGreatDoor
set_option linter.unusedVariables false
set_option linter.unusedSimpArgs false
set_option linter.unusedVariables false
set_option linter.unusedSimpArgs false
set_option maxRecDepth 100000
open Go.RowKit

/-- Where a store stands: its struct, its table, its buffer; the draws' rows; its blocks' row. -/
structure SP where
  sb : Nat
  tb : Nat
  bb : Nat
  V : Nat → Value
  bv : Value

def stC (p : SP) (c : SC) (m : SM) : Array Value :=
  #[.pointer (some ⟨c.S.nb, 0, none⟩), .int .i64 c.who, .bool true, .int .i64 c.ep, .int .i64 c.sz, .int .i64 c.sp, p.bv, .pointer (some ⟨p.tb, 0, none⟩), .pointer (some ⟨p.bb, 0, none⟩), .int .i64 m.sq, .int .i64 m.fr, .bool m.ro]

structure StAt (w : World) (p : SP) (c : SC) (m : SM) : Prop where
  nd : NandAt w c.S p.V c.zs m.n
  tb : TabA w p.tb c.bl.length c.S.pg m.rs
  bf : BufA w p.bb m.q
  bk : Blk w p.sb 86 (stC p c m)
  iv : Ints w p.bv c.bl
  fl : Flds w

/-- What stands of a store, for good. -/
structure StOk (p : SP) (c : SC) : Prop where
  R : Roles c.S
  zl : ∀ j, j < 4 → (c.zs j).length ≤ 64
  t0 : c.S.T 0 = 0
  ts : c.S.T p.sb = 0
  tt : c.S.T p.tb = 0
  tu : c.S.T p.bb = 0
  s0 : p.sb ≠ 0
  u0 : p.tb ≠ 0
  v0 : p.bb ≠ 0
  st : p.sb ≠ p.tb
  su : p.sb ≠ p.bb
  tu2 : p.tb ≠ p.bb
  vV : ∀ j, j < 4 → ∀ k, (p.V j).ownBlock = some k → k ≠ p.sb ∧ k ≠ p.tb ∧ k ≠ p.bb
  vb : ∀ k, p.bv.ownBlock = some k → c.S.T k = 0 ∧ k ≠ p.sb ∧ k ≠ p.tb ∧ k ≠ p.bb
  bl : c.bl.length ≤ 64
  blr : ∀ i, i < c.bl.length → 2 ≤ c.bl.getD i 0 ∧ c.bl.getD i 0 < c.S.all

/-- Within bounds. -/
structure Wf (c : SC) (m : SM) (k : Int) : Prop where
  cn : Cnt m.n k
  sq : 0 ≤ m.sq ∧ m.sq ≤ k
  ql : m.q.length ≤ 4
  qd : ∀ x ∈ m.q, x.dt.size ≤ 16
  fr : -1 ≤ m.fr ∧ m.fr < c.bl.length
  bs : ∀ i j, Byts (m.n.L i j).bs
  bn : ∀ i j, (m.n.L i j).bs.length ≤ 32
  dn : ∀ i j, (m.n.L i j).dt.size ≤ 160

/-- Blocks with a role, and the store's own: what may be turned. -/
def tS (p : SP) (c : SC) : Nat → Nat := fun k => if k = p.sb ∨ k = p.tb ∨ k = p.bb then 7 else c.S.T k
theorem tS_zero {p : SP} {c : SC} {k : Nat} (h : tS p c k = 0) : c.S.T k = 0 ∧ k ≠ p.sb ∧ k ≠ p.tb ∧ k ≠ p.bb := by
  unfold tS at h
  split at h
  · cases h
  · rename_i hn
    exact ⟨h, fun e => hn (.inl e), fun e => hn (.inr (.inl e)), fun e => hn (.inr (.inr e))⟩
theorem Keeps.less {p : SP} {c : SC} {w w' : World} (h : Keeps c.S.T w w') : Keeps (tS p c) w w' :=
  ⟨h.os, h.tape, h.output, h.size, fun k hk ht => h.block k hk (tS_zero ht).1⟩
theorem Keeps.own18 {p : SP} {c : SC} {w w' : World} {r : Nat} (h : w.grownBy w' (some r)) (hr : r = p.sb ∨ r = p.tb ∨ r = p.bb) : Keeps (tS p c) w w' :=
  ⟨h.os, h.tape, h.output, h.size, fun k hk ht => h.block k hk (fun e => by
    injection e with e; subst e
    have := tS_zero ht
    rcases hr with e | e | e
    · exact this.2.1 e
    · exact this.2.2.1 e
    · exact this.2.2.2 e)⟩

/-- A block without a role, in which no byte lies, is turned: the array stands. -/
theorem NandAt.other18 {w w' : World} {S : NShape} {V : Nat → Value} {zs : Nat → List Int} {s : NS} {r : Nat} (h : NandAt w S V zs s) (hR : Roles S) (hg : w.grownBy w' (some r)) (ht : S.T r = 0)
    (hb : ∀ o n, w.cell? ⟨r, o, none⟩ ≠ some (.int .u8 n)) (hV : ∀ j, j < 4 → ∀ k, (V j).ownBlock = some k → k ≠ r) : NandAt w' S V zs s := by
  have e : ∀ k, S.T k ≠ 0 → w'.heap[k]? = w.heap[k]? := fun k hk => hg.block k (h.hi k hk) (fun e => by injection e with e; rw [e] at hk; exact hk ht)
  have e3 := e S.bm (by rw [hR.tm]; decide)
  have e4 := e S.be (by rw [hR.te]; decide)
  have e6 := e S.db (by rw [hR.td]; decide)
  refine ⟨h.fix.stays (e _ (by rw [hR.tn]; decide)) (e _ (by rw [hR.tl]; decide)), fun i hi => ?_, fun i hi => (World.cell?_of_block e3).trans (h.mks i hi), fun o => (World.frozen?_of_block e3).trans (h.mkf o),
    fun i hi => (World.cell?_of_block e4).trans (h.ers i hi), fun o => (World.frozen?_of_block e4).trans (h.erf o), h.pow.stays (e _ (by rw [hR.tp]; decide)), ?_, h.tv, fun k hk => Nat.lt_of_lt_of_le (h.hi k hk) hg.size⟩
  · have hr := h.row i hi
    have er := e (S.row i) (by rw [hR.tr i hi]; omega)
    refine ⟨fun j hj => (World.cell?_of_block er).trans (hr.st j hj), fun j hj => ?_, fun j hj => (World.cell?_of_block er).trans (hr.dt j hj), fun o => (World.frozen?_of_block er).trans (hr.free o)⟩
    obtain ⟨v, h1, h2, h3⟩ := hr.bs j hj
    refine ⟨v, (World.cell?_of_block er).trans h1, ?_, h3⟩
    rcases h2 with h2 | ⟨b, off, cap, rfl, h5, h6⟩
    · exact .inl h2
    · refine .inr ⟨b, off, cap, rfl, h5, fun i hi => ?_⟩
      have hc := h6 i hi
      have hbr : b ≠ r := fun e => by subst e; exact hb _ _ hc
      exact (World.cell?_of_block (hg.block b (World.block_lt_of_cell? w _ hc) (fun e => by injection e with e; exact hbr e))).trans hc
  · exact h.drs.other hg (fun e => by injection e with e; have := hR.td; rw [e, ht] at this; cases this) (fun j hj k hk e => by injection e with e; exact hV j hj k hk e)

/-- No bytes lie in a table, in a buffer, in a store. -/
theorem TabA.nobyte {w : World} {t B P : Nat} {rs : List R14} (h : TabA w t B P rs) (o : Nat) (n : Int) : w.cell? ⟨t, o, none⟩ ≠ some (.int .u8 n) := by
  obtain ⟨R, W, S, hT, _⟩ := h
  intro hc
  obtain ⟨cs, hb, hcs⟩ := hT.is
  rw [hb.cell o] at hc
  have hlt : o < 1282 := by
    have := (Array.getElem?_eq_some_iff.1 hc).1
    rw [hcs.size] at this
    exact this
  by_cases h0 : o = 0
  · subst h0; rw [hcs.b] at hc; cases hc
  by_cases h1 : o = 1
  · subst h1; rw [hcs.p] at hc; cases hc
  by_cases h2 : o < 1026
  · have := hcs.row ((o - 2) / 16) ((o - 2) % 16) (by omega) (by omega)
    rw [show 2 + (o - 2) / 16 * 16 + (o - 2) % 16 = o by omega, hc] at this
    cases this
  by_cases h3 : o < 1090
  · have := hcs.wor (o - 1026) (by omega)
    rw [show 1026 + (o - 1026) = o by omega, hc] at this
    cases this
  have hq : (o - 1090) / 3 < 64 := by omega
  rcases (by omega : (o - 1090) % 3 = 0 ∨ (o - 1090) % 3 = 1 ∨ (o - 1090) % 3 = 2) with e | e | e
  · have := hcs.th _ hq
    rw [show 1090 + (o - 1090) / 3 * 3 = o by omega, hc] at this
    cases this
  · have := hcs.bk _ hq
    rw [show 1090 + (o - 1090) / 3 * 3 + 1 = o by omega, hc] at this
    cases this
  · have := hcs.pg _ hq
    rw [show 1090 + (o - 1090) / 3 * 3 + 2 = o by omega, hc] at this
    cases this
theorem BufA.nobyte {w : World} {b : Nat} {row : List Chg} (h : BufA w b row) (o : Nat) (n : Int) : w.cell? ⟨b, o, none⟩ ≠ some (.int .u8 n) := by
  obtain ⟨rs, f, c, hs, _⟩ := h
  intro hc
  rw [hs.blk.cell o] at hc
  obtain ⟨x0, x1, x2, x3, rfl⟩ := four_of hs.four
  have hm := Array.mem_of_getElem? hc
  simp [bufC, chgsL, chgC] at hm
theorem stC_nobyte {w : World} {p : SP} {c : SC} {m : SM} (hv : ∃ ao n cap, p.bv = .slice ao n cap) (h : Blk w p.sb 86 (stC p c m)) (o : Nat) (n : Int) : w.cell? ⟨p.sb, o, none⟩ ≠ some (.int .u8 n) := by
  intro hc
  rw [h.cell o] at hc
  obtain ⟨ao, l, cap, hv⟩ := hv
  have hm := Array.mem_of_getElem? hc
  simp [stC, hv] at hm

section
variable {w w' : World} {p : SP} {c : SC} {m : SM}
theorem StAt.vform (h : StAt w p c m) : ∃ ao n cap, p.bv = .slice ao n cap := by
  obtain ⟨ao, cap, _, _, h1, _⟩ := h.iv.form
  exact ⟨ao, _, cap, h1⟩
theorem StAt.ext (h : StAt w p c m) (ok : StOk p c) (hg : w.grownBy w' none) : StAt w' p c m :=
  ⟨h.nd.ext hg ok.R, h.tb.ext hg, bufStays _ _ _ _ h.bf (hg.block _ (bufLt _ _ _ h.bf) (by simp)), h.bk.ext hg, h.iv.kept hg (by simp), h.fl.ext hg⟩
theorem StAt.nand (h : StAt w p c m) (ok : StOk p c) {n : NS} (hn : NandAt w' c.S p.V c.zs n) (hk : Keeps c.S.T w w') : StAt w' p c { m with n := n } :=
  ⟨hn, by
    obtain ⟨R, W, S, h1, h2⟩ := h.tb
    obtain ⟨cs, a1, a2⟩ := h1.is
    exact ⟨R, W, S, ⟨h1.bl, h1.pl, cs, (hk.block _ h1.lt ok.tt).trans a1, a2⟩, h2⟩, bufStays _ _ _ _ h.bf (hk.block _ (bufLt _ _ _ h.bf) ok.tu), (hk.block _ h.bk.lt ok.ts).trans h.bk, hk.ints0 h.iv (fun _ q hq => (ok.vb q hq).1), fun j hj => by
    have e := hk.block 0 h.fl.lt ok.t0
    exact ⟨(World.cell?_of_block e).trans (h.fl j hj).1, (World.cell?_of_block e).trans (h.fl j hj).2.1, (World.cell?_of_block e).trans (h.fl j hj).2.2⟩⟩
theorem StAt.tab (h : StAt w p c m) (ok : StOk p c) {rs : List R14} (ht : TabA w' p.tb c.bl.length c.S.pg rs) (hg : w.grownBy w' (some p.tb)) : StAt w' p c { m with rs := rs } :=
  ⟨h.nd.other18 ok.R hg ok.tt h.tb.nobyte (fun j hj k hk => (ok.vV j hj k hk).2.1), ht, bufStays _ _ _ _ h.bf (hg.block _ (bufLt _ _ _ h.bf) (fun e => by injection e with e; exact ok.tu2 e.symm)), h.bk.kept hg (fun e => by injection e with e; exact ok.st e),
    h.iv.kept hg (fun k hk e => by injection e with e; exact (ok.vb k hk).2.2.1 e), h.fl.kept hg (fun e => by injection e with e; exact ok.u0 e.symm)⟩
theorem StAt.buf (h : StAt w p c m) (ok : StOk p c) {q : List Chg} (hb : BufA w' p.bb q) (hg : w.grownBy w' (some p.bb)) : StAt w' p c { m with q := q } :=
  ⟨h.nd.other18 ok.R hg ok.tu h.bf.nobyte (fun j hj k hk => (ok.vV j hj k hk).2.2), h.tb.kept hg (fun e => by injection e with e; exact ok.tu2 e), hb, h.bk.kept hg (fun e => by injection e with e; exact ok.su e),
    h.iv.kept hg (fun k hk e => by injection e with e; exact (ok.vb k hk).2.2.2 e), h.fl.kept hg (fun e => by injection e with e; exact ok.v0 e.symm)⟩
theorem StAt.own (h : StAt w p c m) (ok : StOk p c) {m' : SM} (hn : m'.n = m.n) (hr : m'.rs = m.rs) (hq : m'.q = m.q) (hb : Blk w' p.sb 86 (stC p c m')) (hg : w.grownBy w' (some p.sb)) : StAt w' p c m' :=
  ⟨by rw [hn]; exact h.nd.other18 ok.R hg ok.ts (stC_nobyte h.vform h.bk) (fun j hj k hk => (ok.vV j hj k hk).1), by rw [hr]; exact h.tb.kept hg (fun e => by injection e with e; exact ok.st e.symm),
    by rw [hq]; exact bufStays _ _ _ _ h.bf (hg.block _ (bufLt _ _ _ h.bf) (fun e => by injection e with e; exact ok.su e.symm)), hb,
    h.iv.kept hg (fun k hk e => by injection e with e; exact (ok.vb k hk).2.1 e), h.fl.kept hg (fun e => by injection e with e; exact ok.s0 e.symm)⟩
theorem StAt.setSq (h : StAt w p c m) (ok : StOk p c) (x : Int) : StAt (w.setCell ⟨p.sb, 9, none⟩ (.int .i64 x)) p c { m with sq := x } :=
  h.own ok rfl rfl rfl (h.bk.set 9 (.int .i64 x)) (gb_set (gb_refl w _) _ _)
theorem StAt.setFr (h : StAt w p c m) (ok : StOk p c) (x : Int) : StAt (w.setCell ⟨p.sb, 10, none⟩ (.int .i64 x)) p c { m with fr := x } :=
  h.own ok rfl rfl rfl (h.bk.set 10 (.int .i64 x)) (gb_set (gb_refl w _) _ _)
theorem StAt.setRo (h : StAt w p c m) (ok : StOk p c) (x : Bool) : StAt (w.setCell ⟨p.sb, 11, none⟩ (.bool x)) p c { m with ro := x } :=
  h.own ok rfl rfl rfl (h.bk.set 11 (.bool x)) (gb_set (gb_refl w _) _ _)

/-- The cells of a store. -/
theorem StAt.cells (h : StAt w p c m) : w.cell? ⟨p.sb, 0, none⟩ = some (.pointer (some ⟨c.S.nb, 0, none⟩)) ∧ w.cell? ⟨p.sb, 1, none⟩ = some (.int .i64 c.who) ∧ w.cell? ⟨p.sb, 3, none⟩ = some (.int .i64 c.ep) ∧ w.cell? ⟨p.sb, 4, none⟩ = some (.int .i64 c.sz) ∧ w.cell? ⟨p.sb, 5, none⟩ = some (.int .i64 c.sp)
    ∧ w.cell? ⟨p.sb, 6, none⟩ = some p.bv ∧ w.cell? ⟨p.sb, 7, none⟩ = some (.pointer (some ⟨p.tb, 0, none⟩)) ∧ w.cell? ⟨p.sb, 8, none⟩ = some (.pointer (some ⟨p.bb, 0, none⟩)) ∧ w.cell? ⟨p.sb, 9, none⟩ = some (.int .i64 m.sq) ∧ w.cell? ⟨p.sb, 10, none⟩ = some (.int .i64 m.fr) ∧ w.cell? ⟨p.sb, 11, none⟩ = some (.bool m.ro) :=
  ⟨(h.bk.cell 0).trans rfl, (h.bk.cell 1).trans rfl, (h.bk.cell 3).trans rfl, (h.bk.cell 4).trans rfl, (h.bk.cell 5).trans rfl, (h.bk.cell 6).trans rfl, (h.bk.cell 7).trans rfl, (h.bk.cell 8).trans rfl, (h.bk.cell 9).trans rfl, (h.bk.cell 10).trans rfl, (h.bk.cell 11).trans rfl⟩

/-- A call that answers v and leaves the store as m'. -/
def Gs (p : SP) (c : SC) (v : Value) (m' : SM) (w : World) (e : Ending) (w' : World) : Prop := e = .returned v ∧ StAt w' p c m' ∧ Keeps (tS p c) w w'
theorem Gs.after {v : Value} {m' : SM} {w1 : World} (hk : Keeps (tS p c) w w1) {e : Ending} (h : Gs p c v m' w1 e w') : Gs p c v m' w e w' := ⟨h.1, h.2.1, hk.trans h.2.2⟩
end

end Go.Proofs.YtfibpgfjlmlpaaaGreatDoor

/-
  Layer 18 (store): what only reads: pages, has, isBad, isBlank, next, lacks.
-/
namespace Go.Proofs.YtfibpgfjlmlpaaaGreatDoor
set_option linter.unusedVariables false
set_option linter.unusedSimpArgs false
set_option linter.unusedVariables false
set_option linter.unusedSimpArgs false
set_option maxRecDepth 100000
open Go.RowKit

theorem Tryz.sizeGeo18 : (Tryz.prog.info? 49).map (·.size) = some 4 := by kernel_rfl
theorem geo_load18 {ops : Array Oper} {rest : List Oper} {o : Oper} {a : Act} {w : World} {Q : Exit → Act → World → Prop} (hgd : o.guard = none) (x : Operand) (ho : o.op = .load 49 x) {g : Nat} (hx : a.eval x = .pointer (some ⟨g, 0, none⟩)) {c d b p : Int}
    (hr : w.rangeAt g 0 [.int .i64 c, .int .i64 d, .int .i64 b, .int .i64 p]) (h : wpList Tryz.prog ops Q rest (a.put o.dst (.agg #[.int .i64 c, .int .i64 d, .int .i64 b, .int .i64 p])) w) : wpList Tryz.prog ops Q (o :: rest) a w := by
  refine wpList_plain hgd fun K hK => wp_load_mid 49 x ho g 0 hx _ _ hr Tryz.underlying49 rfl (by rw [Tryz.sizeGeo18]; rfl) (hK _ _ h)
theorem geometry18_is {w : World} {S : NShape} (h : FixAt w S) :
    Calls Tryz.prog 24 #[.pointer (some ⟨S.nb, 0, none⟩)] w fun e w' => e = .returned (.agg #[.int .i64 S.c, .int .i64 S.d, .int .i64 S.b, .int .i64 S.p]) ∧ w.grownBy w' none := by
  have hr : (w.alloc (.cells #[.int .i64 0, .int .i64 0, .int .i64 0, .int .i64 0] 49)).rangeAt S.nb 0 [.int .i64 S.c, .int .i64 S.d, .int .i64 S.b, .int .i64 S.p] := fun j v hj => by
    have hg := World.grownBy_alloc w (.cells #[.int .i64 0, .int .i64 0, .int .i64 0, .int .i64 0] 49) none
    match j, hj with
    | 0, hj => simp at hj; subst hj; exact hg.cell h.g0 (by simp)
    | 1, hj => simp at hj; subst hj; exact hg.cell h.g1 (by simp)
    | 2, hj => simp at hj; subst hj; exact hg.cell h.g2 (by simp)
    | 3, hj => simp at hj; subst hj; exact hg.cell h.g3 (by simp)
    | j + 4, hj => simp at hj
  clear h
  generalize S.c = c at *
  generalize S.d = d at *
  generalize S.b = b at *
  generalize S.p = p at *
  go_enter Tryz.func24, Tryz.ntmps24
  go_wp2_with (refine geo_load18 rfl _ rfl rfl hr ?_)
  refine bodyPost_ret (v := .agg #[.int .i64 c, .int .i64 d, .int .i64 b, .int .i64 p]) (by simp [results, Tryz.results24, go_sem]) rfl ⟨rfl, ?_⟩
  exact World.grownBy_alloc w _ none

theorem geo_pages18 (c d b p : Int) (w : World) : (Instr.field 49 (.agg #[.int .i64 c, .int .i64 d, .int .i64 b, .int .i64 p]) 3).run Tryz.prog w = .ok (.int .i64 p) w := by kernel_rfl

/-- These blocks stand. -/
def SeeB (w : World) (bs : List Nat) (x : World) : Prop := ∀ k ∈ bs, x.heap[k]? = w.heap[k]?
theorem SeeB.cell {w x : World} {bs : List Nat} (h : SeeB w bs x) {g : Nat} (hg : g ∈ bs) {o : Nat} {v : Value} (hc : w.cell? ⟨g, o, none⟩ = some v) : x.cell? ⟨g, o, none⟩ = some v := (World.cell?_of_block (h g hg)).trans hc
theorem SeeB.of_ext {w x : World} {bs : List Nat} (hg : w.grownBy x none) (hb : ∀ k ∈ bs, k < w.heap.size) : SeeB w bs x := fun k hk => hg.block k (hb k hk) (by simp)
theorem SeeB.trans {w x y : World} {bs : List Nat} (h : SeeB w bs x) (h2 : SeeB x bs y) : SeeB w bs y := fun k hk => (h2 k hk).trans (h k hk)
theorem drewE {w x : World} (h : w.grownBy x none) : w.grownBy x.drew none := ⟨h.os, h.tape, h.output, h.size, h.block⟩

section
variable {w w' : World} {p : SP} {c : SC} {m : SM}

/-- A block's number in the array. -/
theorem StOk.phys (ok : StOk p c) {b : Nat} (hb : b < c.bl.length) : ∃ x : Nat, c.ph b = x ∧ 2 ≤ x ∧ x < c.S.all ∧ c.bl.getD b 0 = x ∧ (c.ph b).toNat = x := by
  have h := ok.blr b hb
  refine ⟨(c.bl.getD b 0).toNat, ?_, by omega, by omega, by omega, ?_⟩
  · show c.bl.getD (b : Int).toNat 0 = _
    rw [Int.toNat_natCast]; omega
  · show (c.bl.getD (b : Int).toNat 0).toNat = _
    rw [Int.toNat_natCast]
theorem StAt.at (h : StAt w p c m) {b : Nat} (hb : b < c.bl.length) : ∃ g off cap, p.bv = .slice (some ⟨g, off, none⟩) c.bl.length cap ∧ w.cell? ⟨g, off + b, none⟩ = some (.int .i64 (c.bl.getD b 0)) := by
  obtain ⟨ao, cap, g, off, hv, hc⟩ := h.iv.form
  obtain ⟨rfl, h2⟩ := hc b hb
  exact ⟨g, off, cap, hv, h2⟩

theorem pages18 (h : StAt w p c m) (ok : StOk p c) : Calls Tryz.prog 83 #[.pointer (some ⟨p.sb, 0, none⟩)] w fun e w' => e = .returned (.int .i64 (c.S.pg : Int)) ∧ w.grownBy w' none := by
  have G := geometry18_is h.nd.fix
  rw [ok.R.pgs]
  obtain ⟨c0, _⟩ := h.cells
  have hfld := geo_pages18 c.S.c c.S.d c.S.b c.S.p
  clear h
  go_enter Tryz.func83, Tryz.ntmps83
  go_wp2_with (go_at_call 24; refine G.mono ?_; rintro e w' ⟨rfl, hg⟩)
  go_ret
  exact ⟨rfl, hg⟩

theorem has18 (h : StAt w p c m) (b : Int) : Calls Tryz.prog 49 #[.pointer (some ⟨p.sb, 0, none⟩), .int .i64 b] w fun e w' => e = .returned (.bool (hasS c b)) ∧ w = w' := by
  obtain ⟨_, _, _, _, _, c6, _⟩ := h.cells
  obtain ⟨ao, cap, g, off, hv, _⟩ := h.iv.form
  rw [hv] at c6
  unfold hasS
  clear h hv
  generalize c.bl.length = n at *
  by_cases h0 : 0 ≤ b
  · by_cases h1 : b < n
    · rw [decide_eq_true (show 0 ≤ b ∧ b < (n : Int) from ⟨h0, h1⟩)]
      have h0' : b ≥ 0 := h0
      go_enter Tryz.func49, Tryz.ntmps49
      go_wp2
      go_ret
      exact ⟨rfl, rfl⟩
    · rw [decide_eq_false (show ¬ (0 ≤ b ∧ b < (n : Int)) by omega)]
      have h0' : b ≥ 0 := h0
      go_enter Tryz.func49, Tryz.ntmps49
      go_wp2
      go_ret
      exact ⟨rfl, rfl⟩
  · rw [decide_eq_false (show ¬ (0 ≤ b ∧ b < (n : Int)) by omega)]
    have h0' : ¬ b ≥ 0 := h0
    go_enter Tryz.func49, Tryz.ntmps49
    go_wp2
    go_ret
    exact ⟨rfl, rfl⟩


set_option maxHeartbeats 800000 in
theorem isBad18 (h : StAt w p c m) (ok : StOk p c) {b : Nat} (hb : b < c.bl.length) : Calls Tryz.prog 54 #[.pointer (some ⟨p.sb, 0, none⟩), .int .i64 (b : Int)] w fun e w' => e = .returned (.bool (badB c m b)) ∧ w.grownBy w' none := by
  obtain ⟨x, hx, _, hxa, hx2, hx3⟩ := ok.phys hb
  have B := fun (wx : World) (hE : w.grownBy wx none) => bad7_is (h.nd.ext hE ok.R) hxa
  obtain ⟨c0, _, _, _, _, c6, _⟩ := h.cells
  obtain ⟨g, off, cap, hv, hc⟩ := h.at hb
  rw [hv] at c6
  rw [hx2] at hc
  have HC := Lib.hid (show ∀ y, SeeB w [p.sb, g] y → y.cell? ⟨p.sb, 0, none⟩ = some (.pointer (some ⟨c.S.nb, 0, none⟩)) ∧ y.cell? ⟨p.sb, 6, none⟩ = some (.slice (some ⟨g, off, none⟩) c.bl.length cap) ∧ y.cell? ⟨g, off + b, none⟩ = some (.int .i64 (x : Int)) from fun y hy => ⟨hy.cell (by simp) c0, hy.cell (by simp) c6, hy.cell (by simp) hc⟩)
  have hS : SeeB w [p.sb, g] w.drew := fun k _ => rfl
  unfold badB
  rw [hx3]
  generalize m.n.mr x = y at *
  generalize c.bl.length = n at *
  clear h hv hx hx2 hx3 ok c0 c6 hc
  go_enter Tryz.func54, Tryz.ntmps54
  go_wp2
  refine region_line [(0, true), (1, true), (2, true), (3, true), (4, true), (5, true), (6, true), (7, true), (8, true), (9, true), (10, true), (11, true), (12, false), (13, true)] (SeeB w [p.sb, g]) (by kernel_rfl) (by kernel_rfl) (fun _ _ _ d _ h => by cases d <;> exact h) hS ?_
  repeat (refine line_read (a' := ?_) rfl (by kernel_rfl) (by kernel_rfl) hS (fun y hy K hK => ?_) ?_; rotate_left; · obtain ⟨c0, c6, ci⟩ := HC.out y hy; go_wp2; exact hK)
  refine line_act (by rfl) (fun K hK => ?_)
  go_wp2_with (go_at_call 87; refine (B _ (Ext.drew w)).mono ?_; rintro e w1 ⟨rfl, rfl⟩)
  refine hK _ _ (SeeB w [p.sb, g]) hS (fun _ h => h) ?_
  clear hK K
  repeat (refine line_read (a' := ?_) rfl (by kernel_rfl) (by kernel_rfl) hS (fun y hy K hK => ?_) ?_; rotate_left; · go_wp2; exact hK)
  refine line_end ?_
  go_wp2
  go_ret
  exact ⟨rfl, Ext.drew w⟩

set_option maxHeartbeats 800000 in
theorem isBlank18 (h : StAt w p c m) (ok : StOk p c) {b : Nat} (hb : b < c.bl.length) : Calls Tryz.prog 57 #[.pointer (some ⟨p.sb, 0, none⟩), .int .i64 (b : Int)] w fun e w' => e = .returned (.bool (decide (nextB c m b = 0))) ∧ w.grownBy w' none := by
  obtain ⟨x, hx, _, hxa, hx2, hx3⟩ := ok.phys hb
  have B := fun (wx : World) (hE : w.grownBy wx none) => blank7_is (h.nd.ext hE ok.R) ok.R hxa
  obtain ⟨c0, _, _, _, _, c6, _⟩ := h.cells
  obtain ⟨g, off, cap, hv, hc⟩ := h.at hb
  rw [hv] at c6
  rw [hx2] at hc
  have HC := Lib.hid (show ∀ y, SeeB w [p.sb, g] y → y.cell? ⟨p.sb, 0, none⟩ = some (.pointer (some ⟨c.S.nb, 0, none⟩)) ∧ y.cell? ⟨p.sb, 6, none⟩ = some (.slice (some ⟨g, off, none⟩) c.bl.length cap) ∧ y.cell? ⟨g, off + b, none⟩ = some (.int .i64 (x : Int)) from fun y hy => ⟨hy.cell (by simp) c0, hy.cell (by simp) c6, hy.cell (by simp) hc⟩)
  have hS : SeeB w [p.sb, g] w.drew := fun k _ => rfl
  unfold nextB
  rw [hx3]
  generalize decide (nextN (m.n.L x) c.S.pg = 0) = y at *
  generalize c.bl.length = n at *
  clear h hv hx hx2 hx3 ok c0 c6 hc
  go_enter Tryz.func57, Tryz.ntmps57
  go_wp2
  refine region_line [(0, true), (1, true), (2, true), (3, true), (4, true), (5, true), (6, true), (7, true), (8, true), (9, true), (10, true), (11, true), (12, false), (13, true)] (SeeB w [p.sb, g]) (by kernel_rfl) (by kernel_rfl) (fun _ _ _ d _ h => by cases d <;> exact h) hS ?_
  repeat (refine line_read (a' := ?_) rfl (by kernel_rfl) (by kernel_rfl) hS (fun y hy K hK => ?_) ?_; rotate_left; · obtain ⟨c0, c6, ci⟩ := HC.out y hy; go_wp2; exact hK)
  refine line_act (by rfl) (fun K hK => ?_)
  go_wp2_with (go_at_call 88; refine (B _ (Ext.drew w)).mono ?_; rintro e w1 ⟨rfl, rfl⟩)
  refine hK _ _ (SeeB w [p.sb, g]) hS (fun _ h => h) ?_
  clear hK K
  repeat (refine line_read (a' := ?_) rfl (by kernel_rfl) (by kernel_rfl) hS (fun y hy K hK => ?_) ?_; rotate_left; · go_wp2; exact hK)
  refine line_end ?_
  go_wp2
  go_ret
  exact ⟨rfl, Ext.drew w⟩

set_option maxHeartbeats 800000 in
theorem next18 (h : StAt w p c m) (ok : StOk p c) {b : Nat} (hb : b < c.bl.length) : Calls Tryz.prog 129 #[.pointer (some ⟨p.sb, 0, none⟩), .int .i64 (b : Int)] w fun e w' => e = .returned (.int .i64 (nextB c m b : Nat)) ∧ w.grownBy w' none := by
  obtain ⟨x, hx, _, hxa, hx2, hx3⟩ := ok.phys hb
  have B := fun (wx : World) (hE : w.grownBy wx none) => next7_is (h.nd.ext hE ok.R).fix hxa ((h.nd.ext hE ok.R).row x hxa) ok.R
  obtain ⟨c0, _, _, _, _, c6, _⟩ := h.cells
  obtain ⟨g, off, cap, hv, hc⟩ := h.at hb
  rw [hv] at c6
  rw [hx2] at hc
  have HC := Lib.hid (show ∀ y, SeeB w [p.sb, g] y → y.cell? ⟨p.sb, 0, none⟩ = some (.pointer (some ⟨c.S.nb, 0, none⟩)) ∧ y.cell? ⟨p.sb, 6, none⟩ = some (.slice (some ⟨g, off, none⟩) c.bl.length cap) ∧ y.cell? ⟨g, off + b, none⟩ = some (.int .i64 (x : Int)) from fun y hy => ⟨hy.cell (by simp) c0, hy.cell (by simp) c6, hy.cell (by simp) hc⟩)
  have hS : SeeB w [p.sb, g] w.drew := fun k _ => rfl
  unfold nextB
  rw [hx3]
  generalize nextN (m.n.L x) c.S.pg = y at *
  generalize c.bl.length = n at *
  clear h hv hx hx2 hx3 ok c0 c6 hc
  go_enter Tryz.func129, Tryz.ntmps129
  go_wp2
  refine region_line [(0, true), (1, true), (2, true), (3, true), (4, true), (5, true), (6, true), (7, true), (8, true), (9, true), (10, true), (11, true), (12, false), (13, true)] (SeeB w [p.sb, g]) (by kernel_rfl) (by kernel_rfl) (fun _ _ _ d _ h => by cases d <;> exact h) hS ?_
  repeat (refine line_read (a' := ?_) rfl (by kernel_rfl) (by kernel_rfl) hS (fun y hy K hK => ?_) ?_; rotate_left; · obtain ⟨c0, c6, ci⟩ := HC.out y hy; go_wp2; exact hK)
  refine line_act (by rfl) (fun K hK => ?_)
  go_wp2_with (go_at_call 95; refine (B _ (Ext.drew w)).mono ?_; rintro e w1 ⟨rfl, rfl⟩)
  refine hK _ _ (SeeB w [p.sb, g]) hS (fun _ h => h) ?_
  clear hK K
  repeat (refine line_read (a' := ?_) rfl (by kernel_rfl) (by kernel_rfl) hS (fun y hy K hK => ?_) ?_; rotate_left; · go_wp2; exact hK)
  refine line_end ?_
  go_wp2
  go_ret
  exact ⟨rfl, Ext.drew w⟩

theorem lacks18 (h : StAt w p c m) (q : Int) : Calls Tryz.prog 43 #[.pointer (some ⟨p.sb, 0, none⟩), .int .i64 q] w fun e w' => e = .returned (.int .i64 (lacE c q)) ∧ w = w' := by
  obtain ⟨_, _, _, c4, _⟩ := h.cells
  unfold lacE
  clear h
  generalize c.sz = n at *
  by_cases h0 : q < 0
  · rw [if_pos (.inl h0)]
    go_enter Tryz.func43, Tryz.ntmps43
    go_wp2
    go_ret
    exact ⟨rfl, rfl⟩
  · by_cases h1 : n ≤ q
    · rw [if_pos (.inr h1)]
      go_enter Tryz.func43, Tryz.ntmps43
      go_wp2
      go_ret
      exact ⟨rfl, rfl⟩
    · rw [if_neg (by omega)]
      go_enter Tryz.func43, Tryz.ntmps43
      go_wp2
      go_ret
      exact ⟨rfl, rfl⟩

theorem readOnly18 (h : StAt w p c m) : Calls Tryz.prog 13 #[.pointer (some ⟨p.sb, 0, none⟩)] w fun e w' => e = .returned (.bool m.ro) ∧ w = w' := by
  obtain ⟨_, _, _, _, _, _, _, _, _, _, c11⟩ := h.cells
  clear h
  go_enter Tryz.func13, Tryz.ntmps13
  go_wp2
  go_ret
  exact ⟨rfl, rfl⟩
theorem size18 (h : StAt w p c m) : Calls Tryz.prog 35 #[.pointer (some ⟨p.sb, 0, none⟩)] w fun e w' => e = .returned (.int .i64 c.sz) ∧ w = w' := by
  obtain ⟨_, _, _, c4, _⟩ := h.cells
  clear h
  go_enter Tryz.func35, Tryz.ntmps35
  go_wp2
  go_ret
  exact ⟨rfl, rfl⟩
theorem waiting18 (h : StAt w p c m) (hq : m.q.length ≤ 4) : Calls Tryz.prog 18 #[.pointer (some ⟨p.sb, 0, none⟩)] w fun e w' => e = .returned (.int .i64 m.q.length) ∧ w.grownBy w' none := by
  obtain ⟨_, _, _, _, _, _, _, c8, _⟩ := h.cells
  have L := buf_len18 w p.bb m.q h.bf hq
  clear h
  go_enter Tryz.func18, Tryz.ntmps18
  go_wp2_with (go_at_call 47; refine L.mono ?_; rintro e w1 ⟨rfl, hg⟩)
  go_ret
  exact ⟨rfl, hg⟩
end

end Go.Proofs.YtfibpgfjlmlpaaaGreatDoor

/-
  Layer 18 (store): Bad, spares, Free, Give, mayCollect, worths.
-/
namespace Go.Proofs.YtfibpgfjlmlpaaaGreatDoor
set_option linter.unusedVariables false
set_option linter.unusedSimpArgs false
set_option linter.unusedVariables false
set_option linter.unusedSimpArgs false
set_option maxRecDepth 100000
open Go.RowKit

section
variable {ops : Array Oper} {rest : List Oper} {o : Oper} {a : Act} {w : World} {Q : Exit → Act → World → Prop}
theorem append_int18 (hgd : o.guard = none) (s x : Operand) (ho : o.op = .call { callee := .builtin .append, args := #[s, x], argTypes := #[22, 22] }) (base : Nat) (v : Value) (xs : List Int) (n : Nat) (hn : xs.length = n) (hs : a.eval s = v) (hown : w.ownsRow base 3 1 v n (xs.map (Value.int .i64)))
    (ad : Addr) (cap : Nat) (y : Int) (hx : a.eval x = .slice (some ad) 1 cap) (hc : w.cell? ad = some (.int .i64 y)) (h63 : n ≤ 1000000) (hbase : base ≤ w.heap.size)
    (h : ∀ v' w', w'.ownsRow base 3 1 v' (n + 1) ((xs ++ [y]).map (Value.int .i64)) → w.grownBy w' v.ownBlock → wpList Tryz.prog ops Q rest (a.put o.dst v') w') : wpList Tryz.prog ops Q (o :: rest) a w := by
  obtain ⟨i0, hi, hz0, hz1, hz2⟩ := info_parts Tryz.infoInt
  refine wpList_append_own w hgd s x 22 ho base 3 i0 (.int .i64 0) 1 8 Tryz.underlying22 hi hz0 hz1 hz2 rfl (by decide) v n _ hs hown ad 1 cap [.int .i64 y] hx rfl (fun j u hj => ?_) (by simp [Value.oneCell']) (by unfold maxLen; omega) (by omega) hbase ?_
  · match j, hj with
    | 0, hj => simp at hj; subst hj; simpa [Addr.add] using hc
    | j + 1, hj => simp at hj
  · intro v' w' h1 h2 _
    exact h v' w' (by rw [List.map_append]; exact h1) h2
end
/-- A row of integers that a call made. -/
def RowI (w : World) (L : List Int) (e : Ending) (w' : World) : Prop := (∃ v, e = .returned v ∧ w'.ownsRow w.heap.size 3 1 v L.length (L.map (Value.int .i64))) ∧ w.grownBy w' none
theorem own_kept18 {w0 w w' : World} {B : Nat} {e : TypeId} {sz : Nat} {v : Value} {n : Nat} {xs : List Value} (h : w.ownsRow B e sz v n xs) (hE : w0.grownBy w none) (hg : w.grownBy w' v.ownBlock) (hB : w0.heap.size ≤ B) : w0.grownBy w' none := own_ext17 h hE hg hB

theorem owns_some18 {w : World} {B : Nat} {e : TypeId} {sz : Nat} {v : Value} {n : Nat} {xs : List Value} (h : w.ownsRow B e sz v n xs) (hn : 0 < n) : ∃ g cap, v = .slice (some ⟨g, 0, none⟩) n cap := by
  rcases h.2 with ⟨_, h0⟩ | ⟨g, cap, cur, hv, _⟩
  · omega
  · exact ⟨g, cap, hv⟩
def badK (c : SC) (m : SM) (k : Nat) : Nat := ((List.range k).filter (badB c m)).length
theorem badK_succ (c : SC) (m : SM) (k : Nat) : badK c m (k + 1) = if badB c m k then badK c m k + 1 else badK c m k := by
  unfold badK
  rw [List.range_succ, List.filter_append, List.length_append]
  by_cases h : badB c m k <;> simp [h]
theorem badK_le (c : SC) (m : SM) (k : Nat) : badK c m k ≤ k := by
  unfold badK
  have h := List.length_filter_le (badB c m) (List.range k)
  rw [List.length_range] at h
  exact h
def freeK (c : SC) (m : SM) (k : Nat) : List Int := List.map (fun b : Nat => (b : Int)) ((List.range k).filter (freeB c m))
theorem freeK_succ (c : SC) (m : SM) (k : Nat) : freeK c m (k + 1) = if freeB c m k then freeK c m k ++ [(k : Int)] else freeK c m k := by
  unfold freeK
  rw [List.range_succ, List.filter_append, List.map_append]
  by_cases h : freeB c m k <;> simp [h]
theorem freeK_len (c : SC) (m : SM) (k : Nat) : (freeK c m k).length ≤ k := by
  unfold freeK
  rw [List.length_map]
  have h := List.length_filter_le (freeB c m) (List.range k)
  rw [List.length_range] at h
  exact h
def worthK (c : SC) (m : SM) (k : Nat) : List Int := List.map (fun b : Nat => if mayS c m b then (worthN m.rs b : Int) else -1) (List.range k)
theorem worthK_succ (c : SC) (m : SM) (k : Nat) : worthK c m (k + 1) = worthK c m k ++ [if mayS c m k then (worthN m.rs k : Int) else -1] := by
  unfold worthK
  rw [List.range_succ, List.map_append]
  rfl
theorem worthK_len (c : SC) (m : SM) (k : Nat) : (worthK c m k).length = k := by simp [worthK]

section
variable {w w' : World} {p : SP} {c : SC} {m : SM}

set_option maxHeartbeats 800000 in
theorem bad18 (h : StAt w p c m) (ok : StOk p c) : Calls Tryz.prog 21 #[.pointer (some ⟨p.sb, 0, none⟩)] w fun e w' => e = .returned (.int .i64 (badN c m : Nat)) ∧ w.grownBy w' none := by
  have IB := Lib.hid (fun (wx : World) (hE : w.grownBy wx none) (b : Nat) (hb : b < c.bl.length) => isBad18 (h.ext ok hE) ok hb)
  obtain ⟨_, _, _, _, _, c6, _⟩ := h.cells
  obtain ⟨ao, cap, g, off, hv, _⟩ := h.iv.form
  rw [hv] at c6
  have hbl := ok.bl
  show Calls _ _ _ _ fun e w' => e = .returned (.int .i64 (badK c m c.bl.length : Nat)) ∧ w.grownBy w' none
  generalize c.bl.length = n at *
  have BL := badK_le c m
  clear h hv ok
  go_enter Tryz.func21, Tryz.ntmps21
  go_wp2
  clear c6
  go_loopw [3, 13] (fun s i wr => ∃ k : Nat, k ≤ n ∧ i = .int .i64 k ∧ s = .int .i64 (badK c m k : Nat) ∧ w.grownBy wr none) (fun _ i _ => n - (intOf i).toNat)
  case atStart => exact ⟨0, by omega, rfl, rfl, Ext.refl w⟩
  case round =>
    obtain ⟨k, hk, rfl, rfl, hE⟩ := hrel
    have HE := Lib.hid hE
    have hbk := BL k
    by_cases hlt : k < n
    · have B := IB.out _ hE k hlt
      have hs := badK_succ c m k
      generalize badB c m k = y at B hs
      generalize badK c m k = q at *
      have HS := Lib.hid hs
      clear hE hs
      cases y
      all_goals
        go_wp2_with (go_at_call 54; refine B.mono ?_; rintro e w3 ⟨rfl, hg3⟩; have HG3 := Lib.hid (ext_trans HE.out hg3); clear hg3)
        go_roundw
        case rel => exact ⟨k + 1, by omega, by go_num, by rw [HS.out]; first | rfl | (simp; done) | go_num, HG3.out⟩
        case measure => simp [intOf]; omega
    · obtain rfl : k = n := by omega
      clear hE
      go_wp2
      go_ret
      exact ⟨rfl, HE.out⟩

theorem spares18 (h : StAt w p c m) (ok : StOk p c) (hs : -9223372036854775000 ≤ c.sp ∧ c.sp ≤ 9223372036854775000) : Calls Tryz.prog 143 #[.pointer (some ⟨p.sb, 0, none⟩)] w fun e w' => e = .returned (.int .i64 (sprN c m)) ∧ w.grownBy w' none := by
  have B := bad18 h ok
  have C5 := Lib.hid (fun (wx : World) (hE : w.grownBy wx none) => (h.ext ok hE).cells.2.2.2.2.1)
  have hbl := ok.bl
  have hle := badK_le c m c.bl.length
  have hbn : badN c m = badK c m c.bl.length := rfl
  unfold sprN
  generalize badN c m = q at *
  generalize c.sp = s at *
  clear h ok
  by_cases h0 : s < q
  · rw [if_pos h0]
    go_enter Tryz.func143, Tryz.ntmps143
    go_wp2_with (go_at_call 21; refine B.mono ?_; rintro e w1 ⟨rfl, hg⟩; have c5 := C5.out _ hg)
    go_ret
    exact ⟨ret_int13 (by omega), hg⟩
  · rw [if_neg h0]
    go_enter Tryz.func143, Tryz.ntmps143
    go_wp2_with (go_at_call 21; refine B.mono ?_; rintro e w1 ⟨rfl, hg⟩; have c5 := C5.out _ hg)
    go_ret
    exact ⟨ret_int13 (by omega), hg⟩

set_option maxHeartbeats 1600000 in
theorem free18 (h : StAt w p c m) (ok : StOk p c) : Calls Tryz.prog 25 #[.pointer (some ⟨p.sb, 0, none⟩)] w (RowI w (freeL c m)) := by
  have IB := Lib.hid (fun (wx : World) (hE : w.grownBy wx none) (b : Nat) (hb : b < c.bl.length) => isBad18 (h.ext ok hE) ok hb)
  have IK := Lib.hid (fun (wx : World) (hE : w.grownBy wx none) (b : Nat) (hb : b < c.bl.length) => isBlank18 (h.ext ok hE) ok hb)
  have CT := Lib.hid (fun (wx : World) (hE : w.grownBy wx none) => (h.ext ok hE).cells.2.2.2.2.2.2.2.2.2.1)
  obtain ⟨_, _, _, _, _, c6, _⟩ := h.cells
  obtain ⟨ao, cap, g, off, hv, _⟩ := h.iv.form
  rw [hv] at c6
  have hbl := ok.bl
  show Calls _ _ _ _ (RowI w (freeK c m c.bl.length))
  generalize c.bl.length = n at *
  have BL := freeK_len c m
  clear h hv ok
  go_enter Tryz.func25, Tryz.ntmps25
  go_wp2
  clear c6
  go_loopw [3, 13] (fun s i wr => ∃ k : Nat, k ≤ n ∧ i = .int .i64 k ∧ wr.ownsRow w.heap.size 3 1 s (freeK c m k).length ((freeK c m k).map (Value.int .i64)) ∧ w.grownBy wr none) (fun _ i _ => n - (intOf i).toNat)
  case atStart => exact ⟨0, by omega, rfl, ⟨by simp [freeK], .inl ⟨rfl, rfl⟩⟩, Ext.refl w⟩
  case round =>
    obtain ⟨k, hk, rfl, hown, hE⟩ := hrel
    rename_i v13 v3
    obtain ⟨ro, rc, hv3⟩ := owns_slice17 hown
    subst hv3
    have hlen := BL k
    obtain ⟨L, hL⟩ : ∃ L, freeK c m k = L := ⟨_, rfl⟩
    rw [hL] at hown hlen ⊢
    obtain ⟨ln, hln⟩ : ∃ z, L.length = z := ⟨_, rfl⟩
    rw [hln] at hown hlen ⊢
    have HO := Lib.hid (And.intro hown (And.intro hE (And.intro hL hln)))
    obtain ⟨wo, rfl⟩ : ∃ wo : World, wo = wr := ⟨_, rfl⟩
    by_cases hlt : k < n
    · have B1 := IB.out _ hE k hlt
      have B2 := fun wx hx => IK.out wx hx k hlt
      have B3 := fun wx hx => IB.out wx hx k hlt
      have ct := CT.out _ hE
      have hs := freeK_succ c m k
      rw [hL] at hs
      unfold freeB at hs
      obtain ⟨x0, hx0⟩ : ∃ z, decide ((k : Int) ≠ m.fr) = z := ⟨_, rfl⟩
      rw [hx0] at hs
      have hx0' : ((k : Int) != m.fr) = x0 := by rw [← hx0]; by_cases e : (k : Int) = m.fr <;> simp [e]
      generalize m.fr = fr at *
      generalize decide (nextB c m k = 0) = x1 at *
      generalize badB c m k = x2 at *
      obtain ⟨y0, hy0⟩ : ∃ z, (x0 && (x1 && !x2)) = z := ⟨_, rfl⟩
      have HS := Lib.hid (show freeK c m (k + 1) = if (x0 && (x1 && !x2)) then L ++ [(k : Int)] else L from hs)
      clear hs hown hE hx0 hy0 y0
      cases x0
      · clear B1 B2
        go_wp2
        go_roundw
        case rel => exact ⟨k + 1, by omega, by go_num, by rw [HS.out]; simp [HO.out.2.2.2]; exact HO.out.1, HO.out.2.1⟩
        case measure => simp [intOf]; omega
      · cases x1
        · clear B1
          go_wp2_with (go_at_call 57; refine (B2 _ HO.out.2.1).mono ?_; rintro e w3 ⟨rfl, hg3⟩; have HG3 := Lib.hid hg3; clear hg3)
          go_roundw
          case rel => exact ⟨k + 1, by omega, by go_num, by rw [HS.out]; simp [HO.out.2.2.2]; exact HO.out.1.kept HG3.out (Classical.em _), ext_trans HO.out.2.1 HG3.out⟩
          case measure => simp [intOf]; omega
        · have B4 := B3
          clear B1 B3
          cases x2
          · go_upto_region 7 with (first
              | (go_at_call 57; refine (B2 _ HO.out.2.1).mono ?_; rintro e w3 ⟨rfl, hg3⟩; have HG3 := Lib.hid (And.intro hg3 (ext_trans HO.out.2.1 hg3)); clear hg3)
              | (go_at_call 54; refine (B4 _ HG3.out.2).mono ?_; rintro e w4 ⟨rfl, hg4⟩; have HG4 := Lib.hid (And.intro (ext_trans HG3.out.1 hg4) (ext_trans HG3.out.2 hg4)); clear hg4))
            have hown := (HO.out.1.kept HG4.out.1 (Classical.em _)).alloc (.cells #[.int .i64 k] 3)
            go_wp2_with (at_builtin; go_loud (refine append_int18 rfl _ _ rfl w.heap.size (.slice ro ln rc) L ln HO.out.2.2.2 rfl hown ⟨w4.heap.size, 0, none⟩ 1 k rfl (by simp) (by omega) (by have := HG4.out.2.size; simp; omega) ?_; intro v' w7 hrow' hg'; have hE7 := Lib.hid (own_alloc17 HG4.out.1 hg'); obtain ⟨ao7, cap7, hv7⟩ := owns_slice17 hrow'; subst hv7))
            go_roundw
            case rel =>
              refine ⟨k + 1, by omega, by go_num, ?_, own_ext17 HO.out.1 HO.out.2.1 hE7.out (Nat.le_refl _)⟩
              rw [HS.out]
              show World.ownsRow _ _ _ _ _ (L ++ [(k : Int)]).length _
              rw [List.length_append, HO.out.2.2.2]
              exact hrow'
            case measure => simp [intOf]; omega
          · go_wp2_with (first
              | (go_at_call 57; refine (B2 _ HO.out.2.1).mono ?_; rintro e w3 ⟨rfl, hg3⟩; have HG3 := Lib.hid (And.intro hg3 (ext_trans HO.out.2.1 hg3)); clear hg3)
              | (go_at_call 54; refine (B4 _ HG3.out.2).mono ?_; rintro e w4 ⟨rfl, hg4⟩; have HG4 := Lib.hid (And.intro (ext_trans HG3.out.1 hg4) (ext_trans HG3.out.2 hg4)); clear hg4))
            go_roundw
            case rel => exact ⟨k + 1, by omega, by go_num, by rw [HS.out]; simp [HO.out.2.2.2]; exact HO.out.1.kept HG4.out.1 (Classical.em _), HG4.out.2⟩
            case measure => simp [intOf]; omega
    · obtain rfl : k = n := by omega
      clear hown hE
      go_wp2
      go_ret
      have := HO.out.1
      refine ⟨⟨_, rfl, ?_⟩, HO.out.2.1⟩
      rw [HO.out.2.2.1, HO.out.2.2.2]
      exact this

theorem give18 (h : StAt w p c m) (ok : StOk p c) : Calls Tryz.prog 118 #[.pointer (some ⟨p.sb, 0, none⟩)] w fun e w' => e = .returned (.tuple #[.int .i64 ((freeL c m).headD 0), .bool (!(freeL c m).isEmpty)]) ∧ w.grownBy w' none := by
  have F := free18 h ok
  have hlen := freeK_len c m c.bl.length
  have hbl := ok.bl
  have hL : freeL c m = freeK c m c.bl.length := rfl
  rw [← hL] at hlen
  generalize freeL c m = L at *
  clear h ok hL
  match L, F, hlen with
  | [], F, _ =>
    go_enter Tryz.func118, Tryz.ntmps118
    go_wp2_with (go_at_call 25; refine F.mono ?_; rintro e w1 ⟨⟨v, rfl, hown⟩, hg⟩; obtain ⟨ao, cp, rfl⟩ := owns_slice17 hown)
    go_returns
    exact ⟨rfl, hg⟩
  | x :: L, F, hlen =>
    have hn : ((x :: L).length : Int) ≠ 0 := by simp only [List.length_cons]; omega
    have hz : (((x :: L).length : Int) == 0) = false := by simpa using hn
    have hp : 0 < (x :: L).length := by simp
    have HL := Lib.hid (show (List.map (Value.int .i64) (x :: L))[0]? = some (.int .i64 x) from rfl)
    obtain ⟨n, hl⟩ : ∃ n, (x :: L).length = n := ⟨_, rfl⟩
    unfold RowI at F
    rw [hl] at F hz hp
    clear hl hn hlen
    go_enter Tryz.func118, Tryz.ntmps118
    go_wp2_with (go_at_call 25; refine F.mono ?_; rintro e w1 ⟨⟨v, rfl, hown⟩, hg⟩; obtain ⟨gg, cp, rfl⟩ := owns_some18 hown hp; have cx : w1.cell? ⟨gg, 0, none⟩ = some (.int .i64 x) := (show w1.cell? ⟨gg, 0 + 0, none⟩ = _ from by have h5 := hown.cells (g := gg) rfl 0 _ HL.out; rwa [addr_add] at h5))
    go_returns
    exact ⟨rfl, hg⟩

set_option maxHeartbeats 1600000 in
theorem may18 (h : StAt w p c m) (ok : StOk p c) {b : Nat} (hb : b < c.bl.length) : Calls Tryz.prog 50 #[.pointer (some ⟨p.sb, 0, none⟩), .int .i64 (b : Int)] w fun e w' => e = .returned (.bool (mayS c m b)) ∧ w.grownBy w' none := by
  have B1 := fun (wx : World) (hE : w.grownBy wx none) => isBad18 (h.ext ok hE) ok hb
  have B2 := fun (wx : World) (hE : w.grownBy wx none) => isBlank18 (h.ext ok hE) ok hb
  have B3 := fun (wx : World) (hE : w.grownBy wx none) => tabWorth (h.ext ok hE).tb (b : Int)
  have B4 := fun (wx : World) (hE : w.grownBy wx none) => pages18 (h.ext ok hE) ok
  have C7 := Lib.hid (fun (wx : World) (hE : w.grownBy wx none) => (h.ext ok hE).cells.2.2.2.2.2.2.1)
  have HE := Lib.hid (Ext.refl w)
  unfold mayS
  generalize decide (nextB c m b = 0) = x1 at *
  generalize badB c m b = x2 at *
  generalize worthN m.rs b = wv at *
  generalize c.S.pg = pg at *
  clear h ok hb
  cases x1
  · cases x2
    · by_cases hlt : wv < pg
      · rw [decide_eq_true hlt]
        have hlt' : (wv : Int) < pg := by omega
        go_enter Tryz.func50, Tryz.ntmps50
        go_wp2_with (first
          | (go_at_call 57; refine (B2 _ HE.out).mono ?_; rintro e w3 ⟨rfl, hg3⟩; have HG3 := Lib.hid hg3; clear hg3)
          | (go_at_call 54; refine (B1 _ HG3.out).mono ?_; rintro e w4 ⟨rfl, hg4⟩; have HG4 := Lib.hid (ext_trans HG3.out hg4); have c7 := C7.out _ HG4.out; clear hg4)
          | (go_at_call 82; refine (B3 _ HG4.out).mono ?_; rintro e w5 ⟨rfl, rfl⟩)
          | (go_at_call 83; refine (B4 _ HG4.out).mono ?_; rintro e w6 ⟨rfl, hg6⟩; have HG6 := Lib.hid (ext_trans HG4.out hg6); clear hg6))
        go_ret
        exact ⟨rfl, HG6.out⟩
      · rw [decide_eq_false hlt]
        have hlt' : ¬ (wv : Int) < pg := by omega
        go_enter Tryz.func50, Tryz.ntmps50
        go_wp2_with (first
          | (go_at_call 57; refine (B2 _ HE.out).mono ?_; rintro e w3 ⟨rfl, hg3⟩; have HG3 := Lib.hid hg3; clear hg3)
          | (go_at_call 54; refine (B1 _ HG3.out).mono ?_; rintro e w4 ⟨rfl, hg4⟩; have HG4 := Lib.hid (ext_trans HG3.out hg4); have c7 := C7.out _ HG4.out; clear hg4)
          | (go_at_call 82; refine (B3 _ HG4.out).mono ?_; rintro e w5 ⟨rfl, rfl⟩)
          | (go_at_call 83; refine (B4 _ HG4.out).mono ?_; rintro e w6 ⟨rfl, hg6⟩; have HG6 := Lib.hid (ext_trans HG4.out hg6); clear hg6))
        go_ret
        exact ⟨rfl, HG6.out⟩
    · go_enter Tryz.func50, Tryz.ntmps50
      go_wp2_with (first
        | (go_at_call 57; refine (B2 _ HE.out).mono ?_; rintro e w3 ⟨rfl, hg3⟩; have HG3 := Lib.hid hg3; clear hg3)
        | (go_at_call 54; refine (B1 _ HG3.out).mono ?_; rintro e w4 ⟨rfl, hg4⟩; have HG4 := Lib.hid (ext_trans HG3.out hg4); clear hg4))
      go_ret
      exact ⟨rfl, HG4.out⟩
  · go_enter Tryz.func50, Tryz.ntmps50
    go_wp2_with (go_at_call 57; refine (B2 _ HE.out).mono ?_; rintro e w3 ⟨rfl, hg3⟩; have HG3 := Lib.hid hg3; clear hg3)
    go_ret
    exact ⟨rfl, HG3.out⟩

set_option maxHeartbeats 1600000 in
theorem worths18 (h : StAt w p c m) (ok : StOk p c) : Calls Tryz.prog 145 #[.pointer (some ⟨p.sb, 0, none⟩)] w (RowI w (worthL c m)) := by
  have MB := Lib.hid (fun (wx : World) (hE : w.grownBy wx none) (b : Nat) (hb : b < c.bl.length) => may18 (h.ext ok hE) ok hb)
  have WB := Lib.hid (fun (wx : World) (hE : w.grownBy wx none) (b : Nat) => tabWorth (h.ext ok hE).tb (b : Int))
  have C7 := Lib.hid (fun (wx : World) (hE : w.grownBy wx none) => (h.ext ok hE).cells.2.2.2.2.2.2.1)
  obtain ⟨_, _, _, _, _, c6, _⟩ := h.cells
  obtain ⟨ao, cap, g, off, hv, _⟩ := h.iv.form
  rw [hv] at c6
  have hbl := ok.bl
  show Calls _ _ _ _ (RowI w (worthK c m c.bl.length))
  generalize c.bl.length = n at *
  have BL := worthK_len c m
  clear h hv ok
  go_enter Tryz.func145, Tryz.ntmps145
  go_wp2
  clear c6
  go_loopw [3, 11] (fun s i wr => ∃ k : Nat, k ≤ n ∧ i = .int .i64 k ∧ wr.ownsRow w.heap.size 3 1 s (worthK c m k).length ((worthK c m k).map (Value.int .i64)) ∧ w.grownBy wr none) (fun _ i _ => n - (intOf i).toNat)
  case atStart => exact ⟨0, by omega, rfl, ⟨by simp [worthK], .inl ⟨rfl, rfl⟩⟩, Ext.refl w⟩
  case round =>
    obtain ⟨k, hk, rfl, hown, hE⟩ := hrel
    rename_i v13 v3
    obtain ⟨ro, rc, hv3⟩ := owns_slice17 hown
    subst hv3
    have hlen := BL k
    obtain ⟨L, hL⟩ : ∃ L, worthK c m k = L := ⟨_, rfl⟩
    rw [hL] at hown hlen ⊢
    rw [hlen] at hown ⊢
    have HO := Lib.hid (And.intro hown (And.intro hE (And.intro hL hlen)))
    obtain ⟨wo, rfl⟩ : ∃ wo : World, wo = wr := ⟨_, rfl⟩
    by_cases hlt : k < n
    · have B1 := MB.out _ hE k hlt
      have B2 := fun wx hx => WB.out wx hx k
      have hs := worthK_succ c m k
      rw [hL] at hs
      generalize mayS c m k = x1 at *
      generalize worthN m.rs k = wv at *
      have HS := Lib.hid hs
      clear hs hown hE
      cases x1
      · go_upto_region 7 with (go_at_call 50; refine B1.mono ?_; rintro e w4 ⟨rfl, hg4⟩; have HG4 := Lib.hid (And.intro hg4 (ext_trans HO.out.2.1 hg4)); clear hg4)
        have hown := (HO.out.1.kept HG4.out.1 (Classical.em _)).alloc (.cells #[.int .i64 (-1)] 3)
        go_wp2_with (at_builtin; go_loud (refine append_int18 rfl _ _ rfl w.heap.size (.slice ro k rc) L k HO.out.2.2.2 rfl hown ⟨w4.heap.size, 0, none⟩ 1 (-1) rfl (by simp) (by omega) (by have := HG4.out.2.size; simp; omega) ?_; intro v' w7 hrow' hg'; have hE7 := Lib.hid (own_alloc17 HG4.out.1 hg'); obtain ⟨ao7, cap7, hv7⟩ := owns_slice17 hrow'; subst hv7))
        go_roundw
        case rel =>
          refine ⟨k + 1, by omega, by go_num, ?_, own_ext17 HO.out.1 HO.out.2.1 hE7.out (Nat.le_refl _)⟩
          rw [HS.out]
          show World.ownsRow _ _ _ _ _ (L ++ [-1]).length _
          rw [List.length_append, HO.out.2.2.2]
          exact hrow'
        case measure => simp [intOf]; omega
      · go_upto_region 6 with (go_at_call 50; refine B1.mono ?_; rintro e w4 ⟨rfl, hg4⟩; have HG4 := Lib.hid (And.intro hg4 (ext_trans HO.out.2.1 hg4)); have c7 := C7.out _ HG4.out.2; clear hg4)
        have hown := (HO.out.1.kept HG4.out.1 (Classical.em _)).alloc (.cells #[.int .i64 wv] 3)
        have B3 := B2 _ HG4.out.2
        go_wp2_with (first
          | (go_at_call 82; refine B3.mono ?_; rintro e w5 ⟨rfl, rfl⟩)
          | (at_builtin; go_loud (refine append_int18 rfl _ _ rfl w.heap.size (.slice ro k rc) L k HO.out.2.2.2 rfl hown ⟨w4.heap.size, 0, none⟩ 1 (wv : Int) rfl (by simp) (by omega) (by have := HG4.out.2.size; simp; omega) ?_; intro v' w7 hrow' hg'; have hE7 := Lib.hid (own_alloc17 HG4.out.1 hg'); obtain ⟨ao7, cap7, hv7⟩ := owns_slice17 hrow'; subst hv7)))
        go_roundw
        case rel =>
          refine ⟨k + 1, by omega, by go_num, ?_, own_ext17 HO.out.1 HO.out.2.1 hE7.out (Nat.le_refl _)⟩
          rw [HS.out]
          show World.ownsRow _ _ _ _ _ (L ++ [(wv : Int)]).length _
          rw [List.length_append, HO.out.2.2.2]
          exact hrow'
        case measure => simp [intOf]; omega
    · obtain rfl : k = n := by omega
      clear hown hE
      go_wp2
      go_ret
      have := HO.out.1
      refine ⟨⟨_, rfl, ?_⟩, HO.out.2.1⟩
      rw [HO.out.2.2.1, HO.out.2.2.2]
      exact this
end

end Go.Proofs.YtfibpgfjlmlpaaaGreatDoor

/-
  Layer 18 (store): find.
-/
namespace Go.Proofs.YtfibpgfjlmlpaaaGreatDoor
set_option linter.unusedVariables false
set_option linter.unusedSimpArgs false
set_option linter.unusedVariables false
set_option linter.unusedSimpArgs false
set_option maxRecDepth 100000
open Go.RowKit

section
variable {w w' : World} {p : SP} {c : SC} {m : SM}

theorem one18 (h : StAt w p c m) (ok : StOk p c) {k : Int} (wf : Wf c m k) (b pg : Int) : Calls Tryz.prog 78 #[.pointer (some ⟨c.S.nb, 0, none⟩), p.bv, .int .i64 b, .int .i64 pg] w (FoundP w (oneF c m.n b pg) (oneE c m.n b pg)) := by
  have hbl := ok.bl
  refine (one16_any h.nd ok.R h.fl wf.bs (fun i j => by have := wf.bn i j; omega) p.bv c.bl h.iv (by omega) b pg).mono fun e w' hp => ?_
  unfold oneF oneE SC.ph
  split at hp
  · rename_i hi
    rw [if_pos hi, if_pos hi]; exact hp
  · rename_i hi
    rw [if_neg hi, if_neg hi]; exact hp

/-- What One told lies in a block of its own. -/
def OneS (w : World) (f : Fnd) (fb : Nat) (wx : World) : Prop := Blk wx fb 97 (fndC f) ∧ w.grownBy wx none ∧ w.heap.size ≤ fb

set_option maxHeartbeats 3200000 in
theorem find18 (h : StAt w p c m) (ok : StOk p c) {k : Int} (wf : Wf c m k) (b pg : Int) : Calls Tryz.prog 46 #[.pointer (some ⟨p.sb, 0, none⟩), .int .i64 b, .int .i64 pg] w (FoundP w (fdF c m.n b pg) (fdE c m.n b pg)) := by
  have ON := fun (wx : World) (hE : w.grownBy wx none) => one18 (h.ext ok hE) ok wf b pg
  have hsb := h.bk.lt
  obtain ⟨c0, _, _, _, _, c6, _⟩ := h.cells
  obtain ⟨ao, n, cap, hv⟩ := h.vform
  rw [hv] at c6 ON
  unfold fdF fdE
  generalize oneF c m.n b pg = f at *
  generalize oneE c m.n b pg = er at *
  obtain ⟨F, hF⟩ : ∃ z, (if er = 0 ∧ f.torn = true then noF else f) = z := ⟨_, rfl⟩
  obtain ⟨E, hE⟩ : ∃ z, (if er = 0 ∧ f.torn = true then (11 : Int) else er) = z := ⟨_, rfl⟩
  rw [hF, hE]
  have HFE := Lib.hid (And.intro hF hE)
  clear hF hE
  have hE1 := World.grownBy_alloc w (.cells (fndC noF) 97) none
  have HR1 := Lib.hid (And.intro hE1 (Blk.new w 97 (fndC noF)))
  have HC := Lib.hid (show ∀ y, SeeB w [p.sb] y → y.cell? ⟨p.sb, 0, none⟩ = some (.pointer (some ⟨c.S.nb, 0, none⟩)) ∧ y.cell? ⟨p.sb, 6, none⟩ = some (.slice ao n cap) from fun y hy => ⟨hy.cell (by simp) c0, hy.cell (by simp) c6⟩)
  have SE := Lib.hid (show ∀ y, w.grownBy y none → SeeB w [p.sb] y from fun y hy => SeeB.of_ext hy (by simpa using hsb))
  clear h hv ok wf c0 c6 hsb hE1
  have hE1 := HR1.out.1
  obtain ⟨rb, hrb⟩ : ∃ z, w.heap.size = z := ⟨_, rfl⟩
  have HRB := Lib.hid hrb
  go_enter Tryz.func46, Tryz.ntmps46
  go_upto_region 1 with fail
  obtain ⟨w1, hw1⟩ : ∃ y, w.alloc (.cells #[.int .i64 0, .int .i64 0, .bool false, .int .i64 0, .int .i64 0, .int .i64 0, .int .i64 0, .int .i64 0, .bool false, .string ⟨#[]⟩] 97) = y := ⟨_, rfl⟩
  have hE1 : w.grownBy w1 none := by rw [← hw1]; exact HR1.out.1
  have HB1 := Lib.hid (show Blk w1 w.heap.size 97 (fndC noF) by rw [← hw1]; exact HR1.out.2)
  have HE1 := Lib.hid hE1
  rw [hw1]
  clear hw1 HR1
  go_cut [8, 9] (fun s8 s9 wx => ∃ fb, s8 = .pointer (some ⟨fb, 0, none⟩) ∧ s9 = .int .i64 er ∧ OneS w1 f fb wx)
  case first =>
    have hS : SeeB w [p.sb] w1.drew := SE.out _ (drewE hE1)
    refine region_tree (.read 0 (.read 1 (.read 2 (.read 3 (.read 4 (.read 5 (.read 6 (.read 7 (.read 8 (.read 9 (.read 10 (.two 11 15 (.read 12 (.read 13 (.read 14 (.one 15 (.one 16 (.read 17 .done)))))) (.one 11 (.read 12 (.read 13 (.read 14 (.one 16 (.read 17 .done)))))))))))))))))) (SeeB w [p.sb]) (by kernel_rfl) (by kernel_rfl) (fun _ _ _ d _ h => by cases d <;> exact h) hS ?_
    repeat (refine tree_read (a' := ?_) rfl (by kernel_rfl) (by kernel_rfl) hS (fun y hy K hK => ?_) ?_; rotate_left; · obtain ⟨c0, c6⟩ := HC.out y hy; go_wp2; exact hK)
    refine tree_two ?_ ?_
    · refine tree_one (by rfl) (fun K hK => ?_)
      go_wp2_with (go_at_call 78; refine (ON _ (drewE hE1)).mono ?_; rintro e w2 ⟨rfl, hg2⟩)
      have hg12 : w1.grownBy w2 none := ⟨hg2.os, hg2.tape, hg2.output, hg2.size, hg2.block⟩
      have hS2 := SE.out _ (ext_trans hE1 hg12)
      refine hK _ _ (SeeB w [p.sb]) hS2 (fun _ h => h) ?_
      clear hK K
      repeat (refine tree_read (a' := ?_) rfl (by kernel_rfl) (by kernel_rfl) hS2 (fun y hy K hK => ?_) ?_; rotate_left; · go_wp2; exact hK)
      refine tree_one (by rfl) (fun K hK => ?_)
      go_wp2
      have hB3 := Blk.new w2 97 (fndC noF)
      have hg3 := World.grownBy_alloc w2 (.cells (fndC noF) 97) none
      refine hK _ _ (SeeB w [p.sb]) (SE.out _ (ext_trans (ext_trans hE1 hg12) hg3)) (fun _ h => h) ?_
      clear hK K
      refine tree_one (by rfl) (fun K hK => ?_)
      go_wp2_with (refine fnd_store (f := f) _ _ rfl rfl rfl hB3 rfl rfl ?_; intro w4 hb4 hg4 hs4)
      have hE4 : w1.grownBy w4 none := g17_new (ext_trans hg12 hg3) hg4 hg12.size
      have hS4 := SE.out _ (ext_trans hE1 hE4)
      refine hK _ _ (SeeB w [p.sb]) hS4 (fun _ h => h) ?_
      clear hK K
      repeat (refine tree_read (a' := ?_) rfl (by kernel_rfl) (by kernel_rfl) hS4 (fun y hy K hK => ?_) ?_; rotate_left; · go_wp2; exact hK)
      refine tree_end ?_
      go_wp2
      go_meet
      exact ⟨_, rfl, rfl, hb4, hE4, hg12.size⟩
    · refine tree_one (by rfl) (fun K hK => ?_)
      go_wp2
      have hB3 := Blk.new w1.drew 97 (fndC noF)
      have hg3 := World.grownBy_alloc w1.drew (.cells (fndC noF) 97) none
      have hg13 : w1.grownBy (w1.drew.alloc (.cells (fndC noF) 97)) none := ⟨hg3.os, hg3.tape, hg3.output, hg3.size, hg3.block⟩
      refine hK _ _ (SeeB w [p.sb]) (SE.out _ (ext_trans hE1 hg13)) (fun _ h => h) ?_
      clear hK K
      refine tree_one (by rfl) (fun K hK => ?_)
      go_wp2_with (go_at_call 78; refine (ON _ (ext_trans hE1 hg13)).mono ?_; rintro e w2 ⟨rfl, hg2⟩)
      have hB4 := hB3.ext hg2
      have hS2 := SE.out _ (ext_trans (ext_trans hE1 hg13) hg2)
      refine hK _ _ (SeeB w [p.sb]) hS2 (fun _ h => h) ?_
      clear hK K
      repeat (refine tree_read (a' := ?_) rfl (by kernel_rfl) (by kernel_rfl) hS2 (fun y hy K hK => ?_) ?_; rotate_left; · go_wp2; exact hK)
      refine tree_one (by rfl) (fun K hK => ?_)
      go_wp2_with (refine fnd_store (f := f) _ _ rfl rfl rfl hB4 rfl rfl ?_; intro w4 hb4 hg4 hs4)
      have hE4 : w1.grownBy w4 none := g17_new (ext_trans hg13 hg2) hg4 (Nat.le_refl _)
      have hS4 := SE.out _ (ext_trans hE1 hE4)
      refine hK _ _ (SeeB w [p.sb]) hS4 (fun _ h => h) ?_
      clear hK K
      repeat (refine tree_read (a' := ?_) rfl (by kernel_rfl) (by kernel_rfl) hS4 (fun y hy K hK => ?_) ?_; rotate_left; · go_wp2; exact hK)
      refine tree_end ?_
      go_wp2
      go_meet
      exact ⟨_, rfl, rfl, hb4, hE4, Nat.le_refl _⟩
  case rest =>
    obtain ⟨fb, rfl, rfl, hO⟩ := hcut
    have HO := Lib.hid hO
    have ct : wc.cell? ⟨fb, 2, none⟩ = some (.bool f.torn) := hO.1.cell 2
    have hr := hO.1.range17
    have hBr := HB1.out.ext hO.2.1
    rw [hrb] at hBr
    have hEr : w.grownBy wc none := ext_trans HE1.out hO.2.1
    have hrw : w.heap.size ≤ rb := by omega
    have HER := Lib.hid (And.intro hEr hrw)
    obtain ⟨ft, hft⟩ : ∃ z, f.torn = z := ⟨_, rfl⟩
    rw [hft] at ct
    have HFT := Lib.hid hft
    clear hO hEr hrw hft
    by_cases h0 : er = 0
    · have h0' : (er == 0) = true := by simpa using h0
      cases ft
      · have hq := HFE.out
        rw [HFT.out] at hq
        simp only [Bool.false_eq_true, and_false, if_false] at hq
        obtain ⟨rfl, rfl⟩ := hq
        clear h0
        go_wp2_with (first
          | (refine fnd_load rfl _ rfl rfl hr ?_)
          | (refine fnd_store (f := f) _ _ rfl rfl rfl hBr rfl rfl ?_; intro w4 hb4 hg4 hs4; have HG4 := Lib.hid (g17_new HER.out.1 hg4 HER.out.2); have d0 := hb4.cell 0; have d1 := hb4.cell 1; have d2 := hb4.cell 2; have d3 := hb4.cell 3; have d4 := hb4.cell 4; have d5 := hb4.cell 5; have d6 := hb4.cell 6; have d7 := hb4.cell 7; have d8 := hb4.cell 8; have d9 := hb4.cell 9; simp [fndC] at d0 d1 d2 d3 d4 d5 d6 d7 d8 d9; clear hb4 hg4))
        refine bodyPost_ret (v := .tuple #[.agg (fndC f), .int .i64 er]) (by simp [results, Tryz.results46, go_sem, fndC, d0, d1, d2, d3, d4, d5, d6, d7, d8, d9]) rfl ⟨rfl, HG4.out⟩
      · have hq := HFE.out
        rw [HFT.out] at hq
        simp only [h0, and_self, if_true] at hq
        obtain ⟨rfl, rfl⟩ := hq
        clear h0
        go_wp2_with (first
          | (refine fnd_store (f := noF) _ _ rfl rfl rfl hBr rfl rfl ?_; intro w4 hb4 hg4 hs4; have HG4 := Lib.hid (g17_new HER.out.1 hg4 HER.out.2); have d0 := hb4.cell 0; have d1 := hb4.cell 1; have d2 := hb4.cell 2; have d3 := hb4.cell 3; have d4 := hb4.cell 4; have d5 := hb4.cell 5; have d6 := hb4.cell 6; have d7 := hb4.cell 7; have d8 := hb4.cell 8; have d9 := hb4.cell 9; simp [fndC, noF] at d0 d1 d2 d3 d4 d5 d6 d7 d8 d9; clear hb4 hg4))
        refine bodyPost_ret (v := .tuple #[.agg (fndC noF), .int .i64 11]) (by simp [results, Tryz.results46, go_sem, fndC, noF, d0, d1, d2, d3, d4, d5, d6, d7, d8, d9]) rfl ⟨rfl, HG4.out⟩
    · have h0' : (er == 0) = false := by simpa using h0
      have hq := HFE.out
      simp only [h0, false_and, if_false] at hq
      obtain ⟨rfl, rfl⟩ := hq
      clear h0
      go_wp2_with (first
        | (refine fnd_load rfl _ rfl rfl hr ?_)
        | (refine fnd_store (f := f) _ _ rfl rfl rfl hBr rfl rfl ?_; intro w4 hb4 hg4 hs4; have HG4 := Lib.hid (g17_new HER.out.1 hg4 HER.out.2); have d0 := hb4.cell 0; have d1 := hb4.cell 1; have d2 := hb4.cell 2; have d3 := hb4.cell 3; have d4 := hb4.cell 4; have d5 := hb4.cell 5; have d6 := hb4.cell 6; have d7 := hb4.cell 7; have d8 := hb4.cell 8; have d9 := hb4.cell 9; simp [fndC] at d0 d1 d2 d3 d4 d5 d6 d7 d8 d9; clear hb4 hg4))
      refine bodyPost_ret (v := .tuple #[.agg (fndC f), .int .i64 er]) (by simp [results, Tryz.results46, go_sem, fndC, d0, d1, d2, d3, d4, d5, d6, d7, d8, d9]) rfl ⟨rfl, HG4.out⟩
end

end Go.Proofs.YtfibpgfjlmlpaaaGreatDoor
