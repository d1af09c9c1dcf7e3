/-
  Texts put together: MF.
-/
import Derived.Test.YtfibpgfjlmlpaaaGreatDoorM21
import Derived.Test.YtfibpgfjlmlpaaaGreatDoorM22
/-
  Layer 18's law StoreReads: the store and the list of places beside it.
-/
namespace Go.Proofs.YtfibpgfjlmlpaaaGreatDoor
set_option linter.unusedVariables false
set_option linter.unusedSimpArgs false
set_option linter.unusedVariables false
set_option linter.unusedSimpArgs false
set_option maxRecDepth 100000
open Go.RowKit

def mkStr (s : ByteArray) : Value := .string s
theorem mkStr_inj (x y : ByteArray) (h : mkStr x = mkStr y) : x = y := by unfold mkStr at h; injection h
theorem MapX.stay {X : Type} {P : Program} {K : TypeId} {mk : X → Value} {w w' : World} {b n : Nat} {m : Int → Option X} (h : MapX P K mk w b n m) (e : w'.heap[b]? = w.heap[b]?) : MapX P K mk w' b n m := by
  obtain ⟨D, ⟨es, ck, h1, h2⟩, h3⟩ := h
  exact ⟨D, ⟨es, ck, e.trans h1, h2⟩, h3⟩
theorem MapX.noint {X : Type} {P : Program} {K : TypeId} {mk : X → Value} {w : World} {b n : Nat} {m : Int → Option X} (h : MapX P K mk w b n m) (o : Nat) (k : IntKind) (x : Int) : w.cell? ⟨b, o, none⟩ ≠ some (.int k x) := by
  obtain ⟨D, ⟨es, ck, h1, h2⟩, h3⟩ := h
  simp [World.cell?, h1]

structure LwV (w0 : World) (p : SP) (c : SC) (tb mb : Nat) : Prop extends LwU w0 p c tb where
  mt : tS p c mb = 0
  m0 : mb ≠ 0
  ml : w0.heap.size ≤ mb
  mbt : mb ≠ tb
structure LwN (w0 : World) (p : SP) (c : SC) (tb : Nat) (tv : Value) (mb : Nat) (m : SM) (n cnt : Nat) (M : Int → Option ByteArray) (wx : World) : Prop where
  b : LwB w0 p c tb tv m n wx
  mp : MapX Tryz.prog 3 mkStr wx mb cnt M
/-- The list of places tells what is read. -/
def AllV (c : SC) (m : SM) (M : Int → Option ByteArray) : Prop := ∀ q, 0 ≤ q → q < c.sz → Val c m q ((M q).getD ⟨#[]⟩)
section
variable {w0 wx wy : World} {p : SP} {c : SC} {m m' : SM} {tb mb : Nat} {tv : Value} {n cnt : Nat} {M : Int → Option ByteArray}
theorem LwN.ext (C : LwV w0 p c tb mb) (h : LwN w0 p c tb tv mb m n cnt M wx) (hg : wx.grownBy wy none) : LwN w0 p c tb tv mb m n cnt M wy := ⟨h.b.ext C.toLwU hg, h.mp.ext hg⟩
theorem LwN.mono (h : LwN w0 p c tb tv mb m n cnt M wx) {n' cnt' : Nat} (hn : n ≤ n') (hc : cnt ≤ cnt') : LwN w0 p c tb tv mb m n' cnt' M wx := ⟨h.b.mono hn, h.mp.mono hc⟩
theorem LwN.write (C : LwV w0 p c tb mb) (h : LwN w0 p c tb tv mb m n cnt M wx) (hn : n < 1000) (pl : Int) (dt : ByteArray) (hd : dt.size ≤ 9223372036854775807) :
    ∃ e m', Calls Tryz.prog 15 #[.pointer (some ⟨p.sb, 0, none⟩), .int .i64 pl, .string dt] wx (fun er wy => er = .returned (.int .i64 e) ∧ LwN w0 p c tb tv mb m' (n + 1) cnt M wy ∧ Keeps (tS p c) wx wy) ∧ WaP c m ⟨pl, 1, dt⟩ e m' := by
  obtain ⟨e, m', h1, h2⟩ := h.b.write C.toLwU hn pl dt hd
  exact ⟨e, m', h1.mono fun er wy ⟨a, b, d⟩ => ⟨a, ⟨b, h.mp.stay (d.block _ h.mp.lt C.mt)⟩, d⟩, h2⟩
theorem LwN.trim (C : LwV w0 p c tb mb) (h : LwN w0 p c tb tv mb m n cnt M wx) (hn : n < 1000) (pl : Int) :
    ∃ e m', Calls Tryz.prog 14 #[.pointer (some ⟨p.sb, 0, none⟩), .int .i64 pl] wx (fun er wy => er = .returned (.int .i64 e) ∧ LwN w0 p c tb tv mb m' (n + 1) cnt M wy ∧ Keeps (tS p c) wx wy) ∧ WaP c m ⟨pl, 2, ⟨#[]⟩⟩ e m' := by
  obtain ⟨e, m', h1, h2⟩ := h.b.trim C.toLwU hn pl
  exact ⟨e, m', h1.mono fun er wy ⟨a, b, d⟩ => ⟨a, ⟨b, h.mp.stay (d.block _ h.mp.lt C.mt)⟩, d⟩, h2⟩
theorem LwN.flush (C : LwV w0 p c tb mb) (h : LwN w0 p c tb tv mb m n cnt M wx) (hn : n < 1000) :
    ∃ e m', Calls Tryz.prog 17 #[.pointer (some ⟨p.sb, 0, none⟩)] wx (fun er wy => er = .returned (.int .i64 e) ∧ LwN w0 p c tb tv mb m' (n + 1) cnt M wy ∧ Keeps (tS p c) wx wy) ∧ FlP c m e m' := by
  have hs := h.b.sq
  have hi := h.b.lw.inv.sq
  obtain ⟨e, m', hm, W⟩ := flu_is C.stt h.b.lw.inv (by omega)
  have hl := h.b.lw.inv.ql
  have hw : Wf c m' (20000000 * n + 16008000) := by
    have hm2 := hm
    unfold fluR at hm2
    split at hm2
    · simp only [Option.some.injEq, Prod.mk.injEq] at hm2
      rw [← hm2.2]
      exact h.b.lw.wf.mono (by omega)
    · exact (wf_flu C.stt.pg.2 _ _ _ _ _ h.b.lw.wf hm2).mono (by omega)
  exact ⟨e, m', (flush18 h.b.lw.st C.ok h.b.lw.wf C.spb (by omega) hm).mono fun er wy ⟨a, b, d⟩ => ⟨a, ⟨⟨h.b.lw.call C.toLwC b d W.inv (hw.mono (by omega)), by have := W.sq; omega, d.blk18 h.b.bt C.t⟩, h.mp.stay (d.block _ h.mp.lt C.mt)⟩, d⟩, W⟩
theorem LwN.collect (C : LwV w0 p c tb mb) (h : LwN w0 p c tb tv mb m n cnt M wx) (hn : n < 1000) (b : Int) :
    ∃ e m', Calls Tryz.prog 19 #[.pointer (some ⟨p.sb, 0, none⟩), .int .i64 b] wx (fun er wy => er = .returned (.int .i64 e) ∧ LwN w0 p c tb tv mb m' (n + 1) cnt M wy ∧ Keeps (tS p c) wx wy) ∧ CoP c m e m' := by
  have hs := h.b.sq
  have hi := h.b.lw.inv.sq
  obtain ⟨e, m', hm, W⟩ := col_is C.stt h.b.lw.inv b
  have hw : Wf c m' (20000000 * n + 20006) := by
    have hm2 := hm
    unfold colR at hm2
    split at hm2
    · simp only [Option.some.injEq, Prod.mk.injEq] at hm2
      rw [← hm2.2]; exact h.b.lw.wf.mono (by omega)
    · split at hm2
      · simp only [Option.some.injEq, Prod.mk.injEq] at hm2
        rw [← hm2.2]; exact h.b.lw.wf.mono (by omega)
      · split at hm2
        · simp only [Option.some.injEq, Prod.mk.injEq] at hm2
          rw [← hm2.2]; exact h.b.lw.wf.mono (by omega)
        · exact (wf_coll C.stt.pg.2 h.b.lw.wf hm2).mono (by omega)
  exact ⟨e, m', (collectP18 h.b.lw.st C.ok h.b.lw.wf C.spb (by omega) b hm).mono fun er wy ⟨a, b, d⟩ => ⟨a, ⟨⟨h.b.lw.call C.toLwC b d W.inv (hw.mono (by omega)), by have := W.sq; omega, d.blk18 h.b.bt C.t⟩, h.mp.stay (d.block _ h.mp.lt C.mt)⟩, d⟩, W⟩
theorem LwN.read (C : LwV w0 p c tb mb) (h : LwN w0 p c tb tv mb m n cnt M wx) (q : Int) : Calls Tryz.prog 16 #[.pointer (some ⟨p.sb, 0, none⟩), .int .i64 q] wx (ReadP (reaD c m q) (reaE c m q) wx) :=
  read18 h.b.lw.st C.ok h.b.lw.wf q
theorem LwN.rea (C : LwV w0 p c tb mb) (h : LwN w0 p c tb tv mb m n cnt M wx) (hv : AllV c m M) {q : Int} (hq : 0 ≤ q ∧ q < c.sz) : reaE c m q = 0 ∧ reaD c m q = (M q).getD ⟨#[]⟩ := by
  obtain ⟨r1, _, r2⟩ := rea_is h.b.lw.inv.lit C.stt.hB h.b.lw.inv.R hq
  exact ⟨r1, r2 _ (hv q hq.1 hq.2)⟩
/-- The list is turned. -/
theorem LwN.put (C : LwV w0 p c tb mb) (h : LwN w0 p c tb tv mb m n cnt M wx) {cnt' : Nat} {M' : Int → Option ByteArray} (hm : MapX Tryz.prog 3 mkStr wy mb cnt' M') (hg : wx.grownBy wy (some mb)) : LwN w0 p c tb tv mb m n cnt' M' wy :=
  ⟨⟨h.b.lw.past C.toLwC hg C.mt C.m0 C.ml h.mp.noint, h.b.sq, h.b.bt.kept hg (fun e => by injection e with e; exact C.mbt e.symm)⟩, hm⟩
theorem AllV.upd {pl : Int} {d : ByteArray} (h : AllV c m M) (hv : ∀ q d', (if q = pl then d' = d else Val c m q d') → Val c m' q d') : AllV c m' (updX M pl d) := fun q h0 h1 => by
  refine hv q _ ?_
  unfold updX
  by_cases e : q = pl
  · rw [if_pos e, if_pos e]; rfl
  · rw [if_neg e, if_neg e]; exact h q h0 h1
theorem AllV.same (h : AllV c m M) (hv : ∀ q d', Val c m q d' → Val c m' q d') : AllV c m' M := fun q h0 h1 => hv q _ (h q h0 h1)
/-- Beside that, the act. -/
structure LwA (w0 : World) (p : SP) (c : SC) (tb : Nat) (tv : Value) (mb xb : Nat) (x : Act18) (m : SM) (n cnt : Nat) (M : Int → Option ByteArray) (wx : World) : Prop where
  n : LwN w0 p c tb tv mb m n cnt M wx
  a : Blk wx xb 38 (act18C x)
structure LwK (w0 : World) (p : SP) (c : SC) (tb mb xb : Nat) : Prop extends LwV w0 p c tb mb where
  xt : tS p c xb = 0
  xm : xb ≠ mb
section
variable {xb : Nat} {x : Act18}
theorem LwA.ext (C : LwK w0 p c tb mb xb) (h : LwA w0 p c tb tv mb xb x m n cnt M wx) (hg : wx.grownBy wy none) : LwA w0 p c tb tv mb xb x m n cnt M wy := ⟨h.n.ext C.toLwV hg, h.a.ext hg⟩
theorem LwA.mono (h : LwA w0 p c tb tv mb xb x m n cnt M wx) {n' cnt' : Nat} (hn : n ≤ n') (hc : cnt ≤ cnt') : LwA w0 p c tb tv mb xb x m n' cnt' M wx := ⟨h.n.mono hn hc, h.a⟩
theorem LwA.put (C : LwK w0 p c tb mb xb) (h : LwA w0 p c tb tv mb xb x m n cnt M wx) {cnt' : Nat} {M' : Int → Option ByteArray} (hm : MapX Tryz.prog 3 mkStr wy mb cnt' M') (hg : wx.grownBy wy (some mb)) : LwA w0 p c tb tv mb xb x m n cnt' M' wy :=
  ⟨h.n.put C.toLwV hm hg, h.a.kept hg (fun e => by injection e with e; exact C.xm e)⟩
theorem LwA.write (C : LwK w0 p c tb mb xb) (h : LwA w0 p c tb tv mb xb x m n cnt M wx) (hn : n < 1000) (pl : Int) (dt : ByteArray) (hd : dt.size ≤ 9223372036854775807) :
    ∃ e m', Calls Tryz.prog 15 #[.pointer (some ⟨p.sb, 0, none⟩), .int .i64 pl, .string dt] wx (fun er wy => er = .returned (.int .i64 e) ∧ LwA w0 p c tb tv mb xb x m' (n + 1) cnt M wy) ∧ WaP c m ⟨pl, 1, dt⟩ e m' := by
  obtain ⟨e, m', h1, h2⟩ := h.n.write C.toLwV hn pl dt hd
  exact ⟨e, m', h1.mono fun er wy ⟨a, b, d⟩ => ⟨a, b, d.blk18 h.a C.xt⟩, h2⟩
theorem LwA.trim (C : LwK w0 p c tb mb xb) (h : LwA w0 p c tb tv mb xb x m n cnt M wx) (hn : n < 1000) (pl : Int) :
    ∃ e m', Calls Tryz.prog 14 #[.pointer (some ⟨p.sb, 0, none⟩), .int .i64 pl] wx (fun er wy => er = .returned (.int .i64 e) ∧ LwA w0 p c tb tv mb xb x m' (n + 1) cnt M wy) ∧ WaP c m ⟨pl, 2, ⟨#[]⟩⟩ e m' := by
  obtain ⟨e, m', h1, h2⟩ := h.n.trim C.toLwV hn pl
  exact ⟨e, m', h1.mono fun er wy ⟨a, b, d⟩ => ⟨a, b, d.blk18 h.a C.xt⟩, h2⟩
theorem LwA.flush (C : LwK w0 p c tb mb xb) (h : LwA w0 p c tb tv mb xb x m n cnt M wx) (hn : n < 1000) :
    ∃ e m', Calls Tryz.prog 17 #[.pointer (some ⟨p.sb, 0, none⟩)] wx (fun er wy => er = .returned (.int .i64 e) ∧ LwA w0 p c tb tv mb xb x m' (n + 1) cnt M wy) ∧ FlP c m e m' := by
  obtain ⟨e, m', h1, h2⟩ := h.n.flush C.toLwV hn
  exact ⟨e, m', h1.mono fun er wy ⟨a, b, d⟩ => ⟨a, b, d.blk18 h.a C.xt⟩, h2⟩
theorem LwA.collect (C : LwK w0 p c tb mb xb) (h : LwA w0 p c tb tv mb xb x m n cnt M wx) (hn : n < 1000) (b : Int) :
    ∃ e m', Calls Tryz.prog 19 #[.pointer (some ⟨p.sb, 0, none⟩), .int .i64 b] wx (fun er wy => er = .returned (.int .i64 e) ∧ LwA w0 p c tb tv mb xb x m' (n + 1) cnt M wy) ∧ CoP c m e m' := by
  obtain ⟨e, m', h1, h2⟩ := h.n.collect C.toLwV hn b
  exact ⟨e, m', h1.mono fun er wy ⟨a, b, d⟩ => ⟨a, b, d.blk18 h.a C.xt⟩, h2⟩
end
/-- What a write or a trim comes to, beside the list. -/
def SwP (c : SC) (m m' : SM) (M : Int → Option ByteArray) (pl : Int) (inb : Bool) (e : Int) (d : ByteArray) (lg : Bool) : Prop :=
  (inb = false ∧ e = 5 ∧ AllV c m' M) ∨ (inb = true ∧ lg = true ∧ e = 3 ∧ AllV c m' M) ∨ (inb = true ∧ lg = false ∧ ((e = 0 ∧ m.ro = false ∧ AllV c m' (updX M pl d)) ∨ (e = 13 ∧ m'.ro = true ∧ AllV c m' M)))
/-- Of a write or a trim. -/
theorem WaP.out {x : Chg} {e : Int} (W : WaP c m x e m') (hx : ¬ (0 ≤ x.pl ∧ x.pl < c.sz)) : e = 5 ∧ m' = m := by
  rcases W.res with ⟨_, h⟩ | ⟨h, _⟩ | ⟨h, _⟩
  · exact h
  · exact absurd h hx
  · exact absurd h hx
theorem WaP.long {x : Chg} {e : Int} (W : WaP c m x e m') (hx : 0 ≤ x.pl ∧ x.pl < c.sz) (hd : 16 < x.dt.size) : e = 3 ∧ m' = m := by
  rcases W.res with ⟨h, _⟩ | ⟨_, _, h⟩ | ⟨_, h, _⟩
  · exact absurd hx h
  · exact h
  · omega
theorem WaP.in' {x : Chg} {e : Int} (W : WaP c m x e m') (hx : 0 ≤ x.pl ∧ x.pl < c.sz) (hd : x.dt.size ≤ 16) : (e = 0 ∧ m.ro = false ∧ m'.ro = false ∧ ∀ q d, (if q = x.pl then d = x.dt else Val c m q d) → Val c m' q d) ∨ (e = 13 ∧ m'.ro = true ∧ ∀ q d, Val c m q d → Val c m' q d) := by
  rcases W.res with ⟨h, _⟩ | ⟨_, h, _⟩ | ⟨_, _, h⟩
  · exact absurd hx h
  · omega
  · exact h
theorem WaP.sw {m0 : SM} {x : Chg} {e : Int} (W : WaP c m x e m') (hV : AllV c m M) (h0 : m0.ro = true → m.ro = true) {inb : Bool} (hin : inb = decide (0 ≤ x.pl ∧ x.pl < c.sz)) {lg : Bool} (hl : lg = decide (16 < x.dt.size)) : SwP c m0 m' M x.pl inb e x.dt lg := by
  by_cases hx : 0 ≤ x.pl ∧ x.pl < c.sz
  · rw [decide_eq_true hx] at hin
    by_cases hd : 16 < x.dt.size
    · rw [decide_eq_true hd] at hl
      obtain ⟨h1, rfl⟩ := W.long hx hd
      exact .inr (.inl ⟨hin, hl, h1, hV⟩)
    · rw [decide_eq_false hd] at hl
      rcases W.in' hx (by omega) with ⟨h1, h2, h3, h4⟩ | ⟨h1, h2, h3⟩
      · refine .inr (.inr ⟨hin, hl, .inl ⟨h1, ?_, hV.upd h4⟩⟩)
        cases hr : m0.ro
        · rfl
        · rw [h0 hr] at h2; cases h2
      · exact .inr (.inr ⟨hin, hl, .inr ⟨h1, h2, hV.same h3⟩⟩)
  · rw [decide_eq_false hx] at hin
    obtain ⟨h1, rfl⟩ := W.out hx
    exact .inl ⟨hin, h1, hV⟩
end
section
variable {ops : Array Oper} {rest : List Oper} {o : Oper} {a : Act} {w : World} {b n : Nat} {m : Int → Option ByteArray} {Q : Exit → Act → World → Prop}
theorem strZero18 (w : World) : (zeroValue 9).run Tryz.prog w = .ok (mkStr ⟨#[]⟩) w := by kernel_rfl
theorem put_map18 (hg : o.guard = none) (mo x v : Operand) (hop : o.op = Op.mapUpdate 36 mo x v) (h : MapX Tryz.prog 3 mkStr w b n m) (hn : n < 100000) (hm : a.eval mo = .map (some b)) (y : Int) (hx : a.eval x = .int .i64 y) (hy : okI y) (e : ByteArray) (hv : a.eval v = .string e)
    (hk : ∀ w', MapX Tryz.prog 3 mkStr w' b (n + 1) (updX m y e) → w.grownBy w' (some b) → wpList Tryz.prog ops Q rest (a.put o.dst undef) w') : wpList Tryz.prog ops Q (o :: rest) a w :=
  wpList_putX hg mo x v hop mkStr_inj Tryz.underlying36 Tryz.underlying3 h (by unfold maxLen; omega) hm y hx hy e hv hk
theorem look_map18 (hwt : Region.wanted o (yielded ops a.tmps) = true) (mo x : Operand) (hop : o.op = Op.lookup 36 mo x false) (h : MapX Tryz.prog 3 mkStr w b n m) (hm : a.eval mo = .map (some b)) (y : Int) (hx : a.eval x = .int .i64 y) (hy : okI y) (d : ByteArray) (hd : (m y).getD ⟨#[]⟩ = d)
    (hk : wpList Tryz.prog ops Q rest (a.put o.dst (.string d)) w) : wpList Tryz.prog ops Q (o :: rest) a w := by
  refine wpList_want hwt fun K' hK' => ?_
  have hrun := h.look mkStr_inj Tryz.underlying36 Tryz.underlying3 (⟨#[]⟩ : ByteArray) (strZero18 w) hy
  rw [hd] at hrun
  unfold Oper.wp
  simp [execOp, hop, hm, hx, hrun, Result.andThen]
  exact hK' _ _ hk
end

end Go.Proofs.YtfibpgfjlmlpaaaGreatDoor
