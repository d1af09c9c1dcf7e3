/-
  Texts put together: CA HB CB CC TD TE CD.
-/
import Derived.Test.YtnfhibigidkhkaaDoorM02
import Derived.Test.YtnfhibigidkhkaaDoorM06
import Derived.Test.YtnfhibigidkhkaaDoorM08
/-
  Package scan: what is found of a page; find, One, Mine.
-/
namespace Go.Proofs.YtnfhibigidkhkaaDoor
set_option linter.unusedVariables false
set_option linter.unusedSimpArgs false
set_option linter.unusedVariables false
set_option linter.unusedSimpArgs false
set_option maxRecDepth 100000
open Go.RowKit

def tornF (bk pg : Int) : Fnd := ⟨bk, pg, true, 0, 0, 0, 0, 0, false, ⟨#[]⟩⟩
def blankF (bk pg : Int) : Fnd := ⟨bk, pg, false, 0, 0, 0, 0, 0, false, ⟨#[]⟩⟩
/-- What is found of a page that is written. -/
def fndOf (bk pg : Int) (bs : List Int) (dt : ByteArray) : Fnd := if psE bs = 0 then ⟨bk, pg, false, psN bs 0, psN bs 1, psN bs 2, psN bs 3, psN bs 4, psP bs, dt⟩ else tornF bk pg
/-- What is found. -/
def findF (S : NShape) (s : NS) (n m bk : Int) : Fnd := if readE S s n m = 11 then tornF bk m else if readE S s n m = 0 then fndOf bk m (s.L n.toNat m.toNat).bs (s.L n.toNat m.toNat).dt else noF
def findE (S : NShape) (s : NS) (n m : Int) : Int := if readE S s n m = 11 then 0 else readE S s n m
def FoundP (w : World) (f : Fnd) (er : Int) (e : Ending) (w' : World) : Prop := e = .returned (.tuple #[.agg (fndC f), .int .i64 er]) ∧ w.grownBy w' none

def tgC (a b c d k : Int) (p : Bool) : Array Value := #[.int .i64 a, .int .i64 b, .int .i64 c, .int .i64 d, .int .i64 k, .bool p]
section
variable {ops : Array Oper} {rest : List Oper} {o : Oper} {a : Act} {w : World} {Q : Exit → Act → World → Prop}
theorem fnd_read (hwt : Region.wanted o (yielded ops a.tmps) = true) (x : Operand) (ho : o.op = .load 25 x) {g : Nat} (hx : a.eval x = .pointer (some ⟨g, 0, none⟩)) {f : Fnd} (hg : Blk w g 25 (fndC f))
    (h : wpList Tryd.prog ops Q rest (a.put o.dst (.agg (fndC f))) w) : wpList Tryd.prog ops Q (o :: rest) a w :=
  wpList_load_part hwt _ x ho g 0 10 hx _ _ _ _ _ hg (show (fndC f).extract 0 (0 + 10) = fndC f from rfl) rfl Tryd.underlying25 rfl Tryd.sizeFnd h
theorem tg_read (hwt : Region.wanted o (yielded ops a.tmps) = true) (x : Operand) (ho : o.op = .load 23 x) {g : Nat} (hx : a.eval x = .pointer (some ⟨g, 0, none⟩)) {b c d k q : Int} {p : Bool} (hg : Blk w g 23 (tgC b c d k q p))
    (h : wpList Tryd.prog ops Q rest (a.put o.dst (.agg (tgC b c d k q p))) w) : wpList Tryd.prog ops Q (o :: rest) a w :=
  wpList_load_part hwt _ x ho g 0 6 hx _ _ _ _ _ hg (show (tgC b c d k q p).extract 0 (0 + 6) = tgC b c d k q p from rfl) rfl Tryd.underlying23 rfl Tryd.sizeTag17 h
theorem tg_store (x y : Operand) (ho : o.op = .store 23 x y) {g : Nat} (hx : a.eval x = .pointer (some ⟨g, 0, none⟩)) {b c d k q : Int} {p : Bool} (hy : a.eval y = .agg (tgC b c d k q p)) {old : Array Value} (hg : Blk w g 23 old) (hold : old.size = 6) (hwt : Region.wanted o (yielded ops a.tmps) = true)
    (h : ∀ w', Blk w' g 23 (tgC b c d k q p) → w.grownBy w' (some g) → w'.heap.size = w.heap.size → wpList Tryd.prog ops Q rest (a.put o.dst undef) w') : wpList Tryd.prog ops Q (o :: rest) a w :=
  wpList_store_part hwt _ x y ho g 0 6 _ hx hy _ old _ hg rfl Tryd.sizeTag17 (by omega) (by simp [tgC, Value.oneCell']) (by
    have h1 : (tgC b c d k q p).toList.length = 6 := rfl
    rw [h1, List.drop_of_length_le (by simp; omega)]
    simp) h
/-- A tag is put into what is found. -/
theorem fnd_tag (x y : Operand) (ho : o.op = .store 23 x y) {g : Nat} (hx : a.eval x = .pointer (some ⟨g, 3, none⟩)) {b c d k q : Int} {p : Bool} (hy : a.eval y = .agg (tgC b c d k q p)) {f : Fnd} (hg : Blk w g 25 (fndC f)) (hwt : Region.wanted o (yielded ops a.tmps) = true)
    (h : ∀ w', Blk w' g 25 (fndC ⟨f.bk, f.pg, f.torn, b, c, d, k, q, p, f.dt⟩) → w.grownBy w' (some g) → w'.heap.size = w.heap.size → wpList Tryd.prog ops Q rest (a.put o.dst undef) w') : wpList Tryd.prog ops Q (o :: rest) a w :=
  wpList_store_part hwt _ x y ho g 3 6 _ hx hy _ (fndC f) _ hg rfl Tryd.sizeTag17 (by simp [fndC]) (by simp [tgC, Value.oneCell']) rfl h
end
theorem fnd_torn {w : World} {g : Nat} {f : Fnd} (h : Blk w g 25 (fndC f)) : Blk (w.setCell ⟨g, 2, none⟩ (.bool true)) g 25 (fndC ⟨f.bk, f.pg, true, f.te, f.ep, f.pl, f.sq, f.kd, f.cp, f.dt⟩) := h.set 2 _
theorem fnd_data {w : World} {g : Nat} {f : Fnd} (h : Blk w g 25 (fndC f)) (dt : ByteArray) : Blk (w.setCell ⟨g, 9, none⟩ (.string dt)) g 25 (fndC ⟨f.bk, f.pg, f.torn, f.te, f.ep, f.pl, f.sq, f.kd, f.cp, dt⟩) := h.set 9 _

/-- The two blocks that find begins with. -/
structure Two16 (w : World) (f : Fnd) (x : World) : Prop where
  r : Blk x w.heap.size 25 (fndC noF)
  f : Blk x (w.heap.size + 1) 25 (fndC f)
  ext : w.grownBy x none
theorem Two16.later {w x y : World} {f : Fnd} (h : Two16 w f x) (hg : x.grownBy y none) : Two16 w f y := ⟨h.r.ext hg, h.f.ext hg, ext_trans h.ext hg⟩
theorem Two16.turned {w x y : World} {f g : Fnd} (h : Two16 w f x) (hg : x.grownBy y (some (w.heap.size + 1))) (hb : Blk y (w.heap.size + 1) 25 (fndC g)) : Two16 w g y :=
  ⟨h.r.kept hg (fun e => by injection e with e; omega), hb, g17_new h.ext hg (by omega)⟩
theorem Two16.torn {w x : World} {f : Fnd} (h : Two16 w f x) : Two16 w ⟨f.bk, f.pg, true, f.te, f.ep, f.pl, f.sq, f.kd, f.cp, f.dt⟩ (x.setCell ⟨w.heap.size + 1, 2, none⟩ (.bool true)) := h.turned (grown_set _ _ _) (fnd_torn h.f)
theorem Two16.data {w x : World} {f : Fnd} (h : Two16 w f x) (dt : ByteArray) : Two16 w ⟨f.bk, f.pg, f.torn, f.te, f.ep, f.pl, f.sq, f.kd, f.cp, dt⟩ (x.setCell ⟨w.heap.size + 1, 9, none⟩ (.string dt)) := h.turned (grown_set _ _ _) (fnd_data h.f dt)
theorem two16 (w : World) : Two16 w noF ((w.alloc (.cells (fndC noF) 25)).alloc (.cells (fndC noF) 25)) :=
  ⟨(Blk.new w _ _).alloc _, Blk.newAt _ _ (by simp) _ _, grown_alloc (World.grownBy_alloc w _ none) _⟩

section
variable {w : World} {S : NShape} {V : Nat → Value} {zs : Nat → List Int} {s : NS}

set_option maxHeartbeats 1600000 in
theorem find16_any (h : NandAt w S V zs s) (hR : Roles S) (hF : Flds w) (hB : ∀ i j, Byts (s.L i j).bs) (hbs : ∀ i j, (s.L i j).bs.length ≤ 140737488351232) (v : Value) (bl : List Int) (hv : Ints w v bl) (hl : bl.length ≤ 9223372036854775807) (i : Nat) (hi : i < bl.length) (m : Int) :
    Calls Tryd.prog 25 #[.pointer (some ⟨S.nb, 0, none⟩), v, .int .i64 i, .int .i64 m] w (FoundP w (findF S s (bl.getD i 0) m i) (findE S s (bl.getD i 0) m)) := by
  obtain ⟨ao, cap, b, off, rfl, hc⟩ := hv.form
  obtain ⟨rfl, hcell⟩ := hc i hi
  obtain ⟨n, hn⟩ : ∃ z, bl.getD i 0 = z := ⟨_, rfl⟩
  rw [hn] at hcell ⊢
  obtain ⟨nl, hnl⟩ : ∃ z, bl.length = z := ⟨_, rfl⟩
  rw [hnl] at hi hl ⊢
  clear hc hv hn hnl
  have RD := fun wx (hE : w.grownBy wx none) => read7_any (h.ext hE hR) hR n m hbs
  have HTW := Lib.hid (two16 w)
  have HF := Lib.hid hF
  unfold findF findE
  clear hF
  by_cases e11 : readE S s n m = 11
  · rw [if_pos e11, if_pos e11]
    have RD11 := fun wx (hE : w.grownBy wx none) => (RD wx hE).mono (fun e w' (hh : Reads S s n m wx e w') => (show ReadsNot 11 wx e w' from by
      rcases hh with ⟨_, h2⟩ | ⟨h1, _⟩
      · rw [e11] at h2; exact h2
      · rw [e11] at h1; cases h1))
    have HC := Lib.hid hcell
    clear RD h hbs hB e11 hcell
    have hcell := HTW.out.ext.cell HC.out (by simp)
    have hT0 := HTW.out.f
    go_enter Tryd.func25, Tryd.ntmps25
    go_wp2_with (first
      | (refine fnd_store (f := blankF i m) _ _ rfl rfl rfl hT0 rfl rfl ?_; intro w2 hb2 hg2 hs2; have HT2 := Lib.hid (HTW.out.turned hg2 hb2); have hcell2 := HT2.out.ext.cell HC.out (by simp); clear hb2 hg2 hs2)
      | (go_at_call 39; refine (RD11 _ HT2.out.ext).mono ?_; rintro e w3 ⟨rfl, hg3⟩; have HT3 := Lib.hid (HT2.out.later hg3); have hq := HT3.out.f.cell 2; have hqf := HT3.out.f.free 2; have hb3 := HT3.out.torn.f; have hr3 := HT3.out.torn.r)
      | (refine fnd_read rfl _ rfl rfl hb3 ?_)
      | (refine fnd_store (f := tornF i m) _ _ rfl rfl rfl hr3 rfl rfl ?_; intro w4 hb4 hg4 hs4; have HG4 := Lib.hid (g17_new HT3.out.torn.ext hg4 (Nat.le_refl _)); have HB4 := Lib.hid hb4; have c0 := hb4.cell 0; have c1 := hb4.cell 1; have c2 := hb4.cell 2; have c3 := hb4.cell 3; have c4 := hb4.cell 4; have c5 := hb4.cell 5; have c6 := hb4.cell 6; have c7 := hb4.cell 7; have c8 := hb4.cell 8; have c9 := hb4.cell 9; simp [fndC, tornF] at c0 c1 c2 c3 c4 c5 c6 c7 c8 c9; clear hb4 hg4))
    refine bodyPost_ret (v := .tuple #[.agg (fndC (tornF i m)), .int .i64 0]) (by simp [results, Tryd.results25, go_sem, fndC, tornF, c0, c1, c2, c3, c4, c5, c6, c7, c8, c9]) rfl ⟨rfl, HG4.out⟩
  · rw [if_neg e11, if_neg e11]
    by_cases e0 : readE S s n m = 0
    · rw [if_pos e0, e0]
      obtain ⟨bs, hbsv⟩ : ∃ z, (s.L n.toNat m.toNat).bs = z := ⟨_, rfl⟩
      obtain ⟨dt, hdtv⟩ : ∃ z, (s.L n.toNat m.toNat).dt = z := ⟨_, rfl⟩
      have hBy := hB n.toNat m.toNat
      have hLn := hbs n.toNat m.toNat
      rw [hbsv] at hBy hLn ⊢
      rw [hdtv]
      have RD0 := fun wx (hE : w.grownBy wx none) => (RD wx hE).mono (fun e w' (hh : Reads S s n m wx e w') => (show ReadsPg bs dt wx e w' from by
        rcases hh with ⟨h1, _⟩ | ⟨_, h2⟩
        · exact absurd e0 h1
        · rw [hbsv, hdtv] at h2; exact h2))
      have PS := fun (x : World) (ao : Option Addr) (cap : Nat) (hb : Bts x (.slice ao bs.length cap) bs) (hF : Flds x) => tagParse_any _ bs x hb hBy hLn hF
      have hps : psE bs ≠ 0 → psP bs = false ∧ ∀ j, psN bs j = 0 := fun h => ⟨by unfold psP; rw [if_neg h], fun j => by unfold psN; rw [if_neg h]⟩
      unfold fndOf
      have HC := Lib.hid hcell
      clear RD h hbs hB e11 hcell e0 hbsv hdtv hBy hLn
      have hcell := HTW.out.ext.cell HC.out (by simp)
      have hT0 := HTW.out.f
      by_cases hp : psE bs = 0
      · rw [if_pos hp]
        rw [hp] at PS
        obtain ⟨t0, h0⟩ : ∃ z, psN bs 0 = z := ⟨_, rfl⟩
        obtain ⟨t1, h1⟩ : ∃ z, psN bs 1 = z := ⟨_, rfl⟩
        obtain ⟨t2, h2⟩ : ∃ z, psN bs 2 = z := ⟨_, rfl⟩
        obtain ⟨t3, h3⟩ : ∃ z, psN bs 3 = z := ⟨_, rfl⟩
        obtain ⟨t4, h4⟩ : ∃ z, psN bs 4 = z := ⟨_, rfl⟩
        obtain ⟨t5, h5⟩ : ∃ z, psP bs = z := ⟨_, rfl⟩
        rw [h0, h1, h2, h3, h4, h5] at PS ⊢
        clear hps hp h0 h1 h2 h3 h4 h5
        obtain ⟨ln, hln⟩ : ∃ z, bs.length = z := ⟨_, rfl⟩
        unfold ReadsPg at RD0
        unfold ParseR tagV at PS
        rw [hln] at PS RD0
        clear hln
        go_enter Tryd.func25, Tryd.ntmps25
        go_wp2_with (first
          | (refine fnd_store (f := blankF i m) _ _ rfl rfl rfl hT0 rfl rfl ?_; intro w2 hb2 hg2 hs2; have HT2 := Lib.hid (HTW.out.turned hg2 hb2); have hcell2 := HT2.out.ext.cell HC.out (by simp); clear hb2 hg2 hs2)
          | (go_at_call 39; refine (RD0 _ HT2.out.ext).mono ?_; rintro e w3 ⟨a3, cp3, rfl, hbt, hg3, _⟩; have HT3 := Lib.hid (HT2.out.later hg3); have hF3 := HF.out.ext HT3.out.ext)
          | (go_at_call 40; refine (PS w3 a3 cp3 hbt hF3).mono ?_; rintro e w4 ⟨rfl, hg4⟩; have hBt := Blk.new w4 23 (tgC 0 0 0 0 0 false); have HT4 := Lib.hid ((HT3.out.later hg4).later (World.grownBy_alloc w4 (.cells (tgC 0 0 0 0 0 false) 23) none)); have hlt4 : w.heap.size + 1 < w4.heap.size := (HT3.out.later hg4).f.lt; clear hbt hF3)
          | (refine tg_store (b := t0) (c := t1) (d := t2) (k := t3) (q := t4) (p := t5) _ _ rfl rfl rfl hBt rfl rfl ?_; intro w5 hb5 hg5 hs5; have HT5 := Lib.hid (show Two16 w (blankF i m) w5 from ⟨HT4.out.r.kept hg5 (fun e => by injection e with e; omega), HT4.out.f.kept hg5 (fun e => by injection e with e; omega), g17_new HT4.out.ext hg5 (by omega)⟩); have hf5 := HT5.out.f; clear hg5 hs5)
          | (refine tg_read rfl _ rfl rfl hb5 ?_)
          | (refine fnd_tag (b := t0) (c := t1) (d := t2) (k := t3) (q := t4) (p := t5) _ _ rfl rfl rfl hf5 rfl ?_; intro w6 hb6 hg6 hs6; have HT6 := Lib.hid (HT5.out.turned hg6 hb6); have hq := HT6.out.f.cell 9; have hqf := HT6.out.f.free 9; have hb7 := (HT6.out.data dt).f; have hr7 := (HT6.out.data dt).r; clear hb6 hg6 hs6)
          | (refine fnd_read rfl _ rfl rfl hb7 ?_)
          | (refine fnd_store (f := ⟨i, m, false, t0, t1, t2, t3, t4, t5, dt⟩) _ _ rfl rfl rfl hr7 rfl rfl ?_; intro w8 hb8 hg8 hs8; have HG8 := Lib.hid (g17_new (HT6.out.data dt).ext hg8 (Nat.le_refl _)); have c0 := hb8.cell 0; have c1 := hb8.cell 1; have c2 := hb8.cell 2; have c3 := hb8.cell 3; have c4 := hb8.cell 4; have c5 := hb8.cell 5; have c6 := hb8.cell 6; have c7 := hb8.cell 7; have c8 := hb8.cell 8; have c9 := hb8.cell 9; simp [fndC] at c0 c1 c2 c3 c4 c5 c6 c7 c8 c9; clear hb8 hg8))
        refine bodyPost_ret (v := .tuple #[.agg (fndC ⟨i, m, false, t0, t1, t2, t3, t4, t5, dt⟩), .int .i64 0]) (by simp [results, Tryd.results25, go_sem, fndC, c0, c1, c2, c3, c4, c5, c6, c7, c8, c9]) rfl ⟨rfl, HG8.out⟩
      · rw [if_neg hp]
        obtain ⟨er, her⟩ : ∃ z, psE bs = z := ⟨_, rfl⟩
        obtain ⟨g5, gz⟩ := hps hp
        rw [g5, gz, gz, gz, gz, gz, her] at PS
        have hp' : (er != 0) = true := by rw [← her]; simpa using hp
        obtain ⟨ln, hln⟩ : ∃ z, bs.length = z := ⟨_, rfl⟩
        unfold ReadsPg at RD0
        unfold ParseR tagV at PS
        rw [hln] at PS RD0
        clear hln hps hp her g5 gz
        go_enter Tryd.func25, Tryd.ntmps25
        go_wp2_with (first
          | (refine fnd_store (f := blankF i m) _ _ rfl rfl rfl hT0 rfl rfl ?_; intro w2 hb2 hg2 hs2; have HT2 := Lib.hid (HTW.out.turned hg2 hb2); have hcell2 := HT2.out.ext.cell HC.out (by simp); clear hb2 hg2 hs2)
          | (go_at_call 39; refine (RD0 _ HT2.out.ext).mono ?_; rintro e w3 ⟨a3, cp3, rfl, hbt, hg3, _⟩; have HT3 := Lib.hid (HT2.out.later hg3); have hF3 := HF.out.ext HT3.out.ext)
          | (go_at_call 40; refine (PS w3 a3 cp3 hbt hF3).mono ?_; rintro e w4 ⟨rfl, hg4⟩; have hBt := Blk.new w4 23 (tgC 0 0 0 0 0 false); have HT4 := Lib.hid ((HT3.out.later hg4).later (World.grownBy_alloc w4 (.cells (tgC 0 0 0 0 0 false) 23) none)); have hlt4 : w.heap.size + 1 < w4.heap.size := (HT3.out.later hg4).f.lt; clear hbt hF3)
          | (refine tg_store (b := 0) (c := 0) (d := 0) (k := 0) (q := 0) (p := false) _ _ rfl rfl rfl hBt rfl rfl ?_; intro w5 hb5 hg5 hs5; have HT5 := Lib.hid (show Two16 w (blankF i m) w5 from ⟨HT4.out.r.kept hg5 (fun e => by injection e with e; omega), HT4.out.f.kept hg5 (fun e => by injection e with e; omega), g17_new HT4.out.ext hg5 (by omega)⟩); have hq := HT5.out.f.cell 2; have hqf := HT5.out.f.free 2; have hb7 := HT5.out.torn.f; have hr7 := HT5.out.torn.r; clear hg5 hs5)
          | (refine fnd_read rfl _ rfl rfl hb7 ?_)
          | (refine fnd_store (f := tornF i m) _ _ rfl rfl rfl hr7 rfl rfl ?_; intro w8 hb8 hg8 hs8; have HG8 := Lib.hid (g17_new HT5.out.torn.ext hg8 (Nat.le_refl _)); have c0 := hb8.cell 0; have c1 := hb8.cell 1; have c2 := hb8.cell 2; have c3 := hb8.cell 3; have c4 := hb8.cell 4; have c5 := hb8.cell 5; have c6 := hb8.cell 6; have c7 := hb8.cell 7; have c8 := hb8.cell 8; have c9 := hb8.cell 9; simp [fndC, tornF] at c0 c1 c2 c3 c4 c5 c6 c7 c8 c9; clear hb8 hg8))
        refine bodyPost_ret (v := .tuple #[.agg (fndC (tornF i m)), .int .i64 0]) (by simp [results, Tryd.results25, go_sem, fndC, tornF, c0, c1, c2, c3, c4, c5, c6, c7, c8, c9]) rfl ⟨rfl, HG8.out⟩
    · rw [if_neg e0]
      obtain ⟨er, her⟩ : ∃ z, readE S s n m = z := ⟨_, rfl⟩
      have RDn := fun wx (hE : w.grownBy wx none) => (RD wx hE).mono (fun e w' (hh : Reads S s n m wx e w') => (show ReadsNot er wx e w' from by
        rcases hh with ⟨_, h2⟩ | ⟨h1, _⟩
        · rw [her] at h2; exact h2
        · exact absurd h1 e0))
      rw [her] at e11 e0 ⊢
      have q1 : (er == 11) = false := by simpa using e11
      have q2 : (er != 0) = true := by simpa using e0
      have HC := Lib.hid hcell
      clear RD h hbs hB e11 e0 her hcell
      have hcell := HTW.out.ext.cell HC.out (by simp)
      have hT0 := HTW.out.f
      go_enter Tryd.func25, Tryd.ntmps25
      go_wp2_with (first
        | (refine fnd_store (f := blankF i m) _ _ rfl rfl rfl hT0 rfl rfl ?_; intro w2 hb2 hg2 hs2; have HT2 := Lib.hid (HTW.out.turned hg2 hb2); have hcell2 := HT2.out.ext.cell HC.out (by simp); clear hb2 hg2 hs2)
        | (go_at_call 39; refine (RDn _ HT2.out.ext).mono ?_; rintro e w3 ⟨rfl, hg3⟩; have HT3 := Lib.hid (HT2.out.later hg3); have hr3 := HT3.out.r)
        | (refine fnd_store (f := noF) _ _ rfl rfl rfl hr3 rfl rfl ?_; intro w4 hb4 hg4 hs4; have HG4 := Lib.hid (g17_new HT3.out.ext hg4 (Nat.le_refl _)); have c0 := hb4.cell 0; have c1 := hb4.cell 1; have c2 := hb4.cell 2; have c3 := hb4.cell 3; have c4 := hb4.cell 4; have c5 := hb4.cell 5; have c6 := hb4.cell 6; have c7 := hb4.cell 7; have c8 := hb4.cell 8; have c9 := hb4.cell 9; simp [fndC, noF] at c0 c1 c2 c3 c4 c5 c6 c7 c8 c9; clear hb4 hg4))
      refine bodyPost_ret (v := .tuple #[.agg (fndC noF), .int .i64 er]) (by simp [results, Tryd.results25, go_sem, fndC, noF, c0, c1, c2, c3, c4, c5, c6, c7, c8, c9]) rfl ⟨rfl, HG4.out⟩
end

end Go.Proofs.YtnfhibigidkhkaaDoor

/-
  Layer 17: the document's counting, Seq.
-/
namespace Go.Proofs.YtnfhibigidkhkaaDoor
set_option linter.unusedVariables false
set_option linter.unusedSimpArgs false
set_option linter.unusedVariables false
set_option linter.unusedSimpArgs false
set_option maxRecDepth 100000
open Go.RowKit

/-- A page counts. -/
def cntB (B tn ep sz : Int) (f : Fnd) : Bool := decide (0 ≤ f.bk) && (decide (f.bk < B) && (mineF tn ep f && decide (f.pl < sz)))
def cntL (B tn ep sz : Int) (L : List Fnd) : List Fnd := L.filter (cntB B tn ep sz)
theorem cntL_snoc (B tn ep sz : Int) (L : List Fnd) (f : Fnd) : cntL B tn ep sz (L ++ [f]) = if cntB B tn ep sz f then cntL B tn ep sz L ++ [f] else cntL B tn ep sz L := by
  unfold cntL
  rw [List.filter_append, List.filter_cons]
  split <;> simp
theorem take17 {L : List Fnd} {k : Nat} {f : Fnd} (hk : k < L.length) (hf : L.getD k noF = f) : L.take (k + 1) = L.take k ++ [f] := by
  rw [List.take_add_one, List.getElem?_eq_getElem hk]
  rw [List.getD_eq_getElem?_getD, List.getElem?_eq_getElem hk] at hf
  have h2 : L[k] = f := hf
  rw [h2]
  rfl

section
variable {ops : Array Oper} {rest : List Oper} {o : Oper} {a : Act} {w : World} {Q : Exit → Act → World → Prop}
/-- A page more. -/
theorem append_fnd (hgd : o.guard = none) (s x : Operand) (ho : o.op = .call { callee := .builtin .append, args := #[s, x], argTypes := #[40, 40] }) (base : Nat) (v : Value) (row : List Fnd) (n : Nat) (hn : row.length = n) (hs : a.eval s = v) (hown : w.ownsRow base 25 10 v n (fndsL row))
    (ad : Addr) (cap : Nat) (f : Fnd) (hx : a.eval x = .slice (some ad) 1 cap) (hc : ∀ j u, (fndC f).toList[j]? = some u → w.cell? (ad.add j) = some u) (h63 : n ≤ 1000000) (hbase : base ≤ w.heap.size)
    (h : ∀ v' w', w'.ownsRow base 25 10 v' (n + 1) (fndsL (row ++ [f])) → w.grownBy w' v.ownBlock → wpList Tryd.prog ops Q rest (a.put o.dst v') w') : wpList Tryd.prog ops Q (o :: rest) a w := by
  obtain ⟨i0, hi, hz0, hz1, hz2⟩ := info_parts Tryd.infoFnd
  refine wpList_append_own w hgd s x 40 ho base 25 i0 _ 10 88 Tryd.underlying40 hi hz0 hz1 hz2 rfl (by decide) v n _ hs hown ad 1 cap (fndC f).toList hx rfl hc (by simp [fndC, Value.oneCell']) (by unfold maxLen; omega) (by omega) hbase ?_
  intro v' w' h1 h2 _
  exact h v' w' (by rw [fndsL_snoc]; exact h1) h2
end
theorem fnd_new (w : World) (f : Fnd) (T : TypeId) : ∀ j u, (fndC f).toList[j]? = some u → (w.alloc (.cells #[.int .i64 f.bk, .int .i64 f.pg, .bool f.torn, .int .i64 f.te, .int .i64 f.ep, .int .i64 f.pl, .int .i64 f.sq, .int .i64 f.kd, .bool f.cp, .string f.dt] T)).cell? ((⟨w.heap.size, 0, none⟩ : Addr).add j) = some u := by
  intro j u hj
  have hb := Blk.new w T (fndC f)
  have h1 := hb.cell j
  rw [addr_add, Nat.zero_add]
  exact h1.trans (by simpa using hj)
theorem owns_slice17 {w : World} {B : Nat} {e : TypeId} {sz : Nat} {v : Value} {n : Nat} {xs : List Value} (h : w.ownsRow B e sz v n xs) : ∃ ao cap, v = .slice ao n cap := by
  rcases h.2 with ⟨rfl, rfl⟩ | ⟨g, cap, _, rfl, _⟩
  · exact ⟨none, 0, rfl⟩
  · exact ⟨_, cap, rfl⟩
theorem own_ext17 {w0 w w' : World} {B : Nat} {e : TypeId} {sz : Nat} {v : Value} {n : Nat} {xs : List Value} (h : w.ownsRow B e sz v n xs) (hE : w0.grownBy w none) (hg : w.grownBy w' v.ownBlock) (hB : w0.heap.size ≤ B) : w0.grownBy w' none :=
  ⟨hg.os.trans hE.os, hg.tape.trans hE.tape, hg.output.trans hE.output, Nat.le_trans hE.size hg.size, fun k hk _ => (hg.block k (Nat.lt_of_lt_of_le hk hE.size) (fun e => by have := (h.lt k e.symm).1; omega)).trans (hE.block k hk (by simp))⟩

theorem own_alloc17 {w w3 w4 : World} {o : Obj} {r : Option Nat} (hE : w.grownBy w3 none) (hg : (w3.alloc o).grownBy w4 r) : w.grownBy w4 r := by
  have h1 := World.grownBy_alloc w3 o none
  exact ⟨hg.os.trans hE.os, hg.tape.trans hE.tape, hg.output.trans hE.output, Nat.le_trans hE.size (Nat.le_trans h1.size hg.size), fun k hk hne => (hg.block k (Nat.lt_of_lt_of_le hk (Nat.le_trans hE.size h1.size)) hne).trans ((h1.block k (Nat.lt_of_lt_of_le hk hE.size) (by simp)).trans (hE.block k hk (by simp)))⟩
/-- What stands while pages are counted. -/
structure CntS (w0 wr : World) (lv : Value) (L : List Fnd) (B tn ep sz : Int) (k : Nat) (v : Value) : Prop where
  l : RowF wr lv L
  own : wr.ownsRow w0.heap.size 25 10 v (cntL B tn ep sz (L.take k)).length (fndsL (cntL B tn ep sz (L.take k)))
  ext : w0.grownBy wr none

end Go.Proofs.YtnfhibigidkhkaaDoor

/-
  Package scan: One, Mine; what Pages tells.
-/
namespace Go.Proofs.YtnfhibigidkhkaaDoor
set_option linter.unusedVariables false
set_option linter.unusedSimpArgs false
set_option linter.unusedVariables false
set_option linter.unusedSimpArgs false
set_option maxRecDepth 100000
open Go.RowKit

section
variable {w : World} {S : NShape} {V : Nat → Value} {zs : Nat → List Int} {s : NS}

set_option maxHeartbeats 800000 in
theorem one16_any (h : NandAt w S V zs s) (hR : Roles S) (hF : Flds w) (hB : ∀ i j, Byts (s.L i j).bs) (hbs : ∀ i j, (s.L i j).bs.length ≤ 140737488351232) (v : Value) (bl : List Int) (hv : Ints w v bl) (hl : bl.length ≤ 9223372036854775807) (i m : Int) :
    Calls Tryd.prog 10 #[.pointer (some ⟨S.nb, 0, none⟩), v, .int .i64 i, .int .i64 m] w (if 0 ≤ i ∧ i < bl.length then FoundP w (findF S s (bl.getD i.toNat 0) m i) (findE S s (bl.getD i.toNat 0) m) else FoundP w noF 5) := by
  have hBn := Blk.new w 25 (fndC noF)
  have hEn := World.grownBy_alloc w (.cells (fndC noF) 25) none
  by_cases hi : 0 ≤ i ∧ i < bl.length
  · rw [if_pos hi]
    obtain ⟨h0, h1⟩ := hi
    obtain ⟨k, rfl⟩ : ∃ k : Nat, i = k := ⟨i.toNat, by omega⟩
    rw [Int.toNat_natCast]
    have FN := fun wx (hE : w.grownBy wx none) => find16_any (h.ext hE hR) hR (hF.ext hE) hB hbs v bl (hv.kept hE (by simp)) hl k (by omega) m
    generalize findF S s (bl.getD k 0) m k = f at *
    generalize findE S s (bl.getD k 0) m = er at *
    obtain ⟨ao, cap, b, off, rfl, _⟩ := hv.form
    obtain ⟨nl, hnl⟩ : ∃ z, bl.length = z := ⟨_, rfl⟩
    rw [hnl] at h1 hl FN ⊢
    have h0' : ¬ (k : Int) < 0 := by omega
    have h1' : ¬ (nl : Int) ≤ k := by omega
    have HB := Lib.hid (And.intro hBn hEn)
    clear h hF hB hbs hnl hBn hEn h0 h1
    go_enter Tryd.func10, Tryd.ntmps10
    go_wp2_with (first
      | (go_at_call 25; refine (FN _ HB.out.2).mono ?_; rintro e w3 ⟨rfl, hg3⟩; have hr3 := HB.out.1.ext hg3)
      | (refine fnd_store (f := f) _ _ rfl rfl rfl hr3 rfl rfl ?_; intro w4 hb4 hg4 hs4; have HG4 := Lib.hid (g17_new (ext_trans HB.out.2 hg3) hg4 (Nat.le_refl _)); have c0 := hb4.cell 0; have c1 := hb4.cell 1; have c2 := hb4.cell 2; have c3 := hb4.cell 3; have c4 := hb4.cell 4; have c5 := hb4.cell 5; have c6 := hb4.cell 6; have c7 := hb4.cell 7; have c8 := hb4.cell 8; have c9 := hb4.cell 9; simp [fndC] at c0 c1 c2 c3 c4 c5 c6 c7 c8 c9; clear hb4 hg4))
    refine bodyPost_ret (v := .tuple #[.agg (fndC f), .int .i64 er]) (by simp [results, Tryd.results10, go_sem, fndC, c0, c1, c2, c3, c4, c5, c6, c7, c8, c9]) rfl ⟨rfl, HG4.out⟩
  · rw [if_neg hi]
    obtain ⟨ao, cap, b, off, rfl, _⟩ := hv.form
    obtain ⟨nl, hnl⟩ : ∃ z, bl.length = z := ⟨_, rfl⟩
    rw [hnl] at hi hl ⊢
    have HB := Lib.hid (And.intro hBn hEn)
    clear h hF hB hbs hnl hBn hEn hv
    have hr3 := HB.out.1
    by_cases h0 : i < 0
    · clear hi
      go_enter Tryd.func10, Tryd.ntmps10
      go_wp2_with (refine fnd_store (f := noF) _ _ rfl rfl rfl hr3 rfl rfl ?_; intro w4 hb4 hg4 hs4; have HG4 := Lib.hid (g17_new HB.out.2 hg4 (Nat.le_refl _)); have c0 := hb4.cell 0; have c1 := hb4.cell 1; have c2 := hb4.cell 2; have c3 := hb4.cell 3; have c4 := hb4.cell 4; have c5 := hb4.cell 5; have c6 := hb4.cell 6; have c7 := hb4.cell 7; have c8 := hb4.cell 8; have c9 := hb4.cell 9; simp [fndC, noF] at c0 c1 c2 c3 c4 c5 c6 c7 c8 c9; clear hb4 hg4)
      refine bodyPost_ret (v := .tuple #[.agg (fndC noF), .int .i64 5]) (by simp [results, Tryd.results10, go_sem, fndC, noF, c0, c1, c2, c3, c4, c5, c6, c7, c8, c9]) rfl ⟨rfl, HG4.out⟩
    · have h1 : (nl : Int) ≤ i := by omega
      clear hi
      go_enter Tryd.func10, Tryd.ntmps10
      go_wp2_with (refine fnd_store (f := noF) _ _ rfl rfl rfl hr3 rfl rfl ?_; intro w4 hb4 hg4 hs4; have HG4 := Lib.hid (g17_new HB.out.2 hg4 (Nat.le_refl _)); have c0 := hb4.cell 0; have c1 := hb4.cell 1; have c2 := hb4.cell 2; have c3 := hb4.cell 3; have c4 := hb4.cell 4; have c5 := hb4.cell 5; have c6 := hb4.cell 6; have c7 := hb4.cell 7; have c8 := hb4.cell 8; have c9 := hb4.cell 9; simp [fndC, noF] at c0 c1 c2 c3 c4 c5 c6 c7 c8 c9; clear hb4 hg4)
      refine bodyPost_ret (v := .tuple #[.agg (fndC noF), .int .i64 5]) (by simp [results, Tryd.results10, go_sem, fndC, noF, c0, c1, c2, c3, c4, c5, c6, c7, c8, c9]) rfl ⟨rfl, HG4.out⟩
end

theorem mine16_any (f : Fnd) (tn ep : Int) (w : World) : Calls Tryd.prog 5 #[.agg (fndC f), .int .i64 tn, .int .i64 ep] w fun e w' => e = .returned (.bool (mineF tn ep f)) ∧ w.grownBy w' none := by
  have HE := Lib.hid (World.grownBy_alloc w (.cells (fndC f) 25) none)
  have hc := FCells.of (Blk.new w 25 (fndC f))
  have c2 := hc.torn
  have c3 := hc.te
  have c4 := hc.ep
  clear hc
  obtain ⟨m, hm⟩ : ∃ m, mineF tn ep f = m := ⟨_, rfl⟩
  rw [hm]
  unfold mineF at hm
  have HM := Lib.hid hm
  clear hm
  cases ht : f.torn
  · rw [ht] at c2
    by_cases h1 : f.te = tn
    · have b1 : (f.te == tn) = true := by simpa using h1
      have b2 : (f.ep == ep) = (f.ep == ep) := rfl
      obtain ⟨z, hz⟩ : ∃ z, (f.ep == ep) = z := ⟨_, rfl⟩
      have HZ := Lib.hid hz
      have HB := Lib.hid (And.intro ht b1)
      clear b2 h1 ht
      cases z
      · clear HZ
        go_enter Tryd.func5, Tryd.ntmps5
        go_wp2
        go_ret
        refine ⟨?_, HE.out⟩
        rw [← HM.out, HB.out.1, HB.out.2, hz]
        rfl
      · clear HZ
        go_enter Tryd.func5, Tryd.ntmps5
        go_wp2
        go_ret
        refine ⟨?_, HE.out⟩
        rw [← HM.out, HB.out.1, HB.out.2, hz]
        rfl
    · have b1 : (f.te == tn) = false := by simpa using h1
      have HB := Lib.hid (And.intro ht b1)
      clear h1 ht
      go_enter Tryd.func5, Tryd.ntmps5
      go_wp2
      go_ret
      refine ⟨?_, HE.out⟩
      rw [← HM.out, HB.out.1, HB.out.2]
      rfl
  · rw [ht] at c2
    have HB := Lib.hid ht
    clear ht
    go_enter Tryd.func5, Tryd.ntmps5
    go_wp2
    go_ret
    refine ⟨?_, HE.out⟩
    rw [← HM.out, HB.out]
    rfl

/-! ### what Pages tells -/
/-- The first pages of a block. -/
def pgsN (S : NShape) (s : NS) (n : Int) (bk : Nat) : Nat → List Fnd × Int
  | 0 => ([], 0)
  | j + 1 => if (pgsN S s n bk j).2 = 0 then (if findE S s n j = 0 then ((pgsN S s n bk j).1 ++ [findF S s n j bk], 0) else ([], findE S s n j)) else pgsN S s n bk j
/-- The first blocks. -/
def blksN (S : NShape) (s : NS) (bl : List Int) : Nat → List Fnd × Int
  | 0 => ([], 0)
  | i + 1 => if (blksN S s bl i).2 = 0 then (if s.mr (bl.getD i 0).toNat then blksN S s bl i else
      (if (pgsN S s (bl.getD i 0) i (nextN (s.L (bl.getD i 0).toNat) S.pg)).2 = 0 then ((blksN S s bl i).1 ++ (pgsN S s (bl.getD i 0) i (nextN (s.L (bl.getD i 0).toNat) S.pg)).1, 0) else ([], (pgsN S s (bl.getD i 0) i (nextN (s.L (bl.getD i 0).toNat) S.pg)).2))) else blksN S s bl i
theorem pgsN_stay {S : NShape} {s : NS} {n : Int} {bk : Nat} {j : Nat} (h : (pgsN S s n bk j).2 ≠ 0) : ∀ k, j ≤ k → pgsN S s n bk k = pgsN S s n bk j := fun k hk => by
  induction k with
  | zero => have : j = 0 := by omega
            subst this; rfl
  | succ k ih =>
    by_cases e : j = k + 1
    · subst e; rfl
    · rw [pgsN, ih (by omega), if_neg h]
theorem blksN_stay {S : NShape} {s : NS} {bl : List Int} {j : Nat} (h : (blksN S s bl j).2 ≠ 0) : ∀ k, j ≤ k → blksN S s bl k = blksN S s bl j := fun k hk => by
  induction k with
  | zero => have : j = 0 := by omega
            subst this; rfl
  | succ k ih =>
    by_cases e : j = k + 1
    · subst e; rfl
    · rw [blksN, ih (by omega), if_neg h]
theorem pgsN_len {S : NShape} {s : NS} {n : Int} {bk : Nat} : ∀ j, (pgsN S s n bk j).1.length ≤ j
  | 0 => by simp [pgsN]
  | j + 1 => by
    have := pgsN_len (S := S) (s := s) (n := n) (bk := bk) j
    rw [pgsN]
    split
    · split
      · simp; omega
      · simp
    · omega
theorem blksN_len {S : NShape} {s : NS} {bl : List Int} (hp : S.pg ≤ 16) : ∀ i, (blksN S s bl i).1.length ≤ i * 16
  | 0 => by simp [blksN]
  | i + 1 => by
    have h1 := blksN_len (s := s) (bl := bl) hp i
    have h2 := pgsN_len (S := S) (s := s) (n := bl.getD i 0) (bk := i) (nextN (s.L (bl.getD i 0).toNat) S.pg)
    have h3 := nextN_le (s.L (bl.getD i 0).toNat) S.pg
    rw [blksN]
    split
    · split
      · omega
      · split
        · simp only [List.length_append]; omega
        · simp
    · omega

/-- A block that is none. -/
def offB (al : Nat) (b : Int) : Bool := decide (b < 0 ∨ (al : Int) ≤ b)
theorem pagesDo_any (b : Int) (al : Nat) (xb : Nat) (w : World) (hx : w.cell? ⟨xb, 0, none⟩ = some (.int .i64 (al : Int))) :
    Calls Tryd.prog 23 #[.int .i64 b, .pointer (some ⟨xb, 0, none⟩)] w fun e w' => e = .returned (.bool (offB al b)) ∧ w = w' := by
  by_cases h : b < 0
  · have e : decide (b < 0) = true := by simpa using h
    go_enter Tryd.func23, Tryd.ntmps23
    go_wp2
    go_ret
    exact ⟨ret_bool (by simp [offB, h]), rfl⟩
  · have e : decide (b < 0) = false := by simpa using h
    go_enter Tryd.func23, Tryd.ntmps23
    go_wp2
    go_ret
    exact ⟨ret_bool (by simp [offB]; omega), rfl⟩

set_option maxHeartbeats 800000 in
theorem indexOff_any (v : Value) (xs : List Int) (al : Nat) (xb : Nat) (w : World) (hb : Ints w v xs) (hm : xs.length ≤ 9223372036854775807) (hx : w.cell? ⟨xb, 0, none⟩ = some (.int .i64 (al : Int))) :
    Calls Tryd.prog 38 #[v, .func (.func 23) #[] #[.pointer (some ⟨xb, 0, none⟩)]] w fun e w' => ∃ r : Int, e = .returned (.int .i64 r) ∧ w = w' ∧ ((0 ≤ r ∧ xs.any (offB al) = true) ∨ (r < 0 ∧ xs.any (offB al) = false)) := by
  obtain ⟨ao, cap, b, off, rfl, hc⟩ := hb.form
  have HC := Lib.hid hc
  clear hc hb
  go_enter Tryd.func38, Tryd.ntmps38
  go_wp2
  go_loopw [8] (fun i wr => ∃ k : Nat, k ≤ xs.length ∧ i = .int .i64 k ∧ (∀ j, j < k → offB al (xs.getD j 0) = false) ∧ w = wr) (fun i _ => xs.length - (intOf i).toNat)
  case atStart => exact ⟨0, by omega, rfl, fun j hj => by omega, rfl⟩
  case round =>
    obtain ⟨k, hk, rfl, hnot, rfl⟩ := hrel
    have NOT := Lib.hid hnot
    clear hnot
    by_cases hlt : k < xs.length
    · obtain ⟨rfl, hcell⟩ := HC.out k hlt
      obtain ⟨x, hx'⟩ : ∃ x, xs.getD k 0 = x := ⟨_, rfl⟩
      rw [hx'] at hcell
      have HX := Lib.hid hx'
      have D := pagesDo_any x al xb w hx
      obtain ⟨p, hp⟩ : ∃ p, offB al x = p := ⟨_, rfl⟩
      rw [hp] at D
      have HP := Lib.hid hp
      clear hx' hp
      cases p
      · go_wp2_with (go_at_call 23; refine D.mono ?_; rintro e w' ⟨rfl, rfl⟩)
        go_roundw
        case rel =>
          refine ⟨k + 1, by omega, by go_num, fun j hj => ?_, trivial⟩
          by_cases e : j = k
          · subst e; rw [HX.out]; exact HP.out
          · exact NOT.out j (by omega)
        case measure => simp [intOf]; omega
      · go_wp2_with (go_at_call 23; refine D.mono ?_; rintro e w' ⟨rfl, rfl⟩)
        go_ret
        refine ⟨_, rfl, rfl, .inl ⟨by omega, ?_⟩⟩
        have h1 := HX.out
        rw [List.getD_eq_getElem?_getD, List.getElem?_eq_getElem hlt] at h1
        simp only [Option.getD_some] at h1
        exact List.any_eq_true.2 ⟨x, by rw [← h1]; exact List.getElem_mem hlt, HP.out⟩
    · obtain rfl : k = xs.length := by omega
      go_wp2
      go_ret
      refine ⟨_, rfl, rfl, .inr ⟨by omega, ?_⟩⟩
      rw [List.any_eq_false]
      intro y hmem
      obtain ⟨j, hj, hjn⟩ := List.mem_iff_getElem.1 hmem
      have h1 := NOT.out j hj
      rw [List.getD_eq_getElem?_getD, List.getElem?_eq_getElem hj] at h1
      simp only [Option.getD_some] at h1
      rw [← hjn, h1]
      simp

theorem containsOff_any (v : Value) (xs : List Int) (al : Nat) (xb : Nat) (w : World) (hb : Ints w v xs) (hm : xs.length ≤ 9223372036854775807) (hx : w.cell? ⟨xb, 0, none⟩ = some (.int .i64 (al : Int))) :
    Calls Tryd.prog 22 #[v, .func (.func 23) #[] #[.pointer (some ⟨xb, 0, none⟩)]] w fun e w' => e = .returned (.bool (xs.any (offB al))) ∧ w = w' := by
  have I := indexOff_any v xs al xb w hb hm hx
  obtain ⟨ao, cap, b, off, rfl, hc⟩ := hb.form
  clear hc hb
  go_enter Tryd.func22, Tryd.ntmps22
  go_wp2_with (go_at_call 38; refine I.mono ?_; rintro e w' ⟨r, rfl, rfl, hr⟩; have HR := Lib.hid hr; clear hr)
  go_ret
  rcases HR.out with ⟨h1, h2⟩ | ⟨h1, h2⟩
  · exact ⟨ret_bool (by rw [h2]; simp; omega), rfl⟩
  · exact ⟨ret_bool (by rw [h2]; simp; omega), rfl⟩

end Go.Proofs.YtnfhibigidkhkaaDoor

/-
  Package scan: Pages.
-/
namespace Go.Proofs.YtnfhibigidkhkaaDoor
set_option linter.unusedVariables false
set_option linter.unusedSimpArgs false
set_option linter.unusedVariables false
set_option linter.unusedSimpArgs false
set_option maxRecDepth 100000
open Go.RowKit

/-- What Pages answers. -/
def pagesR (S : NShape) (s : NS) (bl : List Int) : List Fnd × Int := if bl.any (offB S.all) then ([], 5) else blksN S s bl bl.length
def PagesP (w : World) (L : List Fnd) (er : Int) (e : Ending) (w' : World) : Prop := ∃ v, e = .returned (.tuple #[v, .int .i64 er]) ∧ w'.ownsRow w.heap.size 25 10 v L.length (fndsL L) ∧ w.grownBy w' none
structure PgS (w wr : World) (v : Value) (L : List Fnd) : Prop where
  own : wr.ownsRow w.heap.size 25 10 v L.length (fndsL L)
  ext : w.grownBy wr none
theorem PgS.later {w x y : World} {v : Value} {L : List Fnd} (h : PgS w x v L) (hg : x.grownBy y none) : PgS w y v L := ⟨h.own.kept hg (Classical.em _), ext_trans h.ext hg⟩
theorem pgS_nil {w x : World} (h : w.grownBy x none) : PgS w x (.slice none 0 0) [] := ⟨⟨by simp [fndsL], .inl ⟨rfl, rfl⟩⟩, h⟩

section
variable {w : World} {S : NShape} {V : Nat → Value} {zs : Nat → List Int} {s : NS}

set_option maxHeartbeats 3200000 in
theorem pages16_any (h : NandAt w S V zs s) (hR : Roles S) (hF : Flds w) (hB : ∀ i j, Byts (s.L i j).bs) (hbs : ∀ i j, (s.L i j).bs.length ≤ 140737488351232) (v : Value) (bl : List Int) (hv : Ints w v bl) (hvb : ∀ k, v.ownBlock = some k → k < w.heap.size) (hl : bl.length ≤ 60000) :
    Calls Tryd.prog 9 #[.pointer (some ⟨S.nb, 0, none⟩), v] w (PagesP w (pagesR S s bl).1 (pagesR S s bl).2) := by
  have BK := fun wx (hE : w.grownBy wx none) => blocks7_is (h.ext hE hR).fix
  have BD := Lib.hid (fun wx (hE : w.grownBy wx none) (n : Nat) (hn : n < S.all) => bad7_is (i := n) (h.ext hE hR) hn)
  have NX := Lib.hid (fun wx (hE : w.grownBy wx none) (n : Nat) (hn : n < S.all) => next7_is (i := n) (h.ext hE hR).fix hn ((h.ext hE hR).row n hn) hR)
  have FN := Lib.hid (fun wx (hE : w.grownBy wx none) (k : Nat) (hk : k < bl.length) (m : Int) => find16_any (h.ext hE hR) hR (hF.ext hE) hB hbs v bl (hv.kept hE (by simp)) (by omega) k hk m)
  have CO := fun wx (xb : Nat) (hE : w.grownBy wx none) (hx : wx.cell? ⟨xb, 0, none⟩ = some (.int .i64 (S.all : Int))) => containsOff_any v bl S.all xb wx (hv.kept hE (by simp)) (by omega) hx
  have hpg := hR.bds.2.2.2
  have hal := hR.bds.2.1
  have NB := Lib.hid (fun n : Nat => nextN_le (s.L n) S.pg)
  have HL := Lib.hid (fun k : Nat => blksN_len (S := S) (s := s) (bl := bl) hpg k)
  obtain ⟨ao, cap, b, off, rfl, hc⟩ := hv.form
  have HI := Lib.hid (fun wx (hE : w.grownBy wx none) k (hk : k < bl.length) => (hv.kept hE (by simp)).form)
  have HC := Lib.hid hc
  clear h hF hB hbs hv hc
  unfold pagesR
  have hE1 := World.grownBy_alloc w (.cells #[.int .i64 (S.all : Int)] 3) none
  have hc1 : (w.alloc (.cells #[.int .i64 (S.all : Int)] 3)).cell? ⟨w.heap.size, 0, none⟩ = some (.int .i64 (S.all : Int)) := by simp
  have HE1 := Lib.hid (And.intro hE1 hc1)
  clear hE1 hc1
  obtain ⟨nl, hnl⟩ : ∃ z, bl.length = z := ⟨_, rfl⟩
  rw [hnl] at hl HC FN HI CO ⊢
  obtain ⟨ob, hob⟩ : ∃ z, bl.any (offB S.all) = z := ⟨_, rfl⟩
  rw [hob] at CO ⊢
  have CO1 := CO _ w.heap.size HE1.out.1 HE1.out.2
  have hPS := pgS_nil HE1.out.1
  have HPS := Lib.hid hPS
  clear CO hPS
  cases ob
  · have HOB := Lib.hid hob
    clear hob
    rw [if_neg (by simp)]
    go_enter Tryd.func9, Tryd.ntmps9
    go_wp2_with (first
      | (go_at_call 21; refine (BK _ (Ext.refl w)).mono ?_; rintro e w' ⟨rfl, rfl⟩)
      | (go_at_call 22; refine CO1.mono ?_; rintro e w1 ⟨rfl, rfl⟩))
    clear CO1 BK
    go_loopw [7, 22] (fun v i wr => ∃ (k : Nat) (R : List Fnd), k ≤ nl ∧ i = .int .i64 k ∧ blksN S s bl k = (R, 0) ∧ PgS w wr v R) (fun _ i _ => nl - (intOf i).toNat)
    case atStart => exact ⟨0, [], by omega, rfl, rfl, HPS.out⟩
    case round =>
      obtain ⟨k, R, hk, rfl, hR1, hP⟩ := hrel
      have HR1 := Lib.hid hR1
      obtain ⟨ro, rc, rfl⟩ := owns_slice17 hP.own
      obtain ⟨rn, hrn⟩ : ∃ z, R.length = z := ⟨_, rfl⟩
      have hrl := HL.out k
      rw [hR1] at hrl
      simp only at hrl
      rw [hrn] at hrl hP ⊢
      have HP := Lib.hid hP
      have HRN := Lib.hid hrn
      clear hR1 hP hrn
      obtain ⟨wo, rfl⟩ : ∃ wo : World, wo = wr := ⟨_, rfl⟩
      by_cases hlt : k < nl
      · obtain ⟨rfl, hcell0⟩ := HC.out k hlt
        have hcell := HP.out.ext.cell hcell0 (by simp)
        have hin : offB S.all (bl.getD k 0) = false := by
          have h1 := HOB.out
          rw [List.any_eq_false] at h1
          have h2 := h1 (bl.getD k 0) (by rw [List.getD_eq_getElem?_getD, List.getElem?_eq_getElem (by omega)]; exact List.getElem_mem _)
          simpa using h2
        have hnb : 0 ≤ bl.getD k 0 ∧ bl.getD k 0 < S.all := by
          unfold offB at hin
          simp only [decide_eq_false_iff_not] at hin
          omega
        have FK := fun wx hE => FN.out wx hE k hlt
        have hstep : blksN S s bl (k + 1) = (if s.mr (bl.getD k 0).toNat then (R, 0) else (if (pgsN S s (bl.getD k 0) k (nextN (s.L (bl.getD k 0).toNat) S.pg)).2 = 0 then (R ++ (pgsN S s (bl.getD k 0) k (nextN (s.L (bl.getD k 0).toNat) S.pg)).1, 0) else ([], (pgsN S s (bl.getD k 0) k (nextN (s.L (bl.getD k 0).toNat) S.pg)).2))) := by
          rw [blksN, HR1.out]
          rfl
        obtain ⟨n0, hn0⟩ : ∃ z, bl.getD k 0 = z := ⟨_, rfl⟩
        rw [hn0] at hcell hnb FK hstep
        obtain ⟨n, rfl⟩ : ∃ n : Nat, n0 = n := ⟨n0.toNat, by omega⟩
        rw [Int.toNat_natCast] at hstep
        have hn : n < S.all := by omega
        have B1 := BD.out wo HP.out.ext n hn
        have N1 := fun wx hE => NX.out wx hE n hn
        have hnx := NB.out n
        obtain ⟨mr, hmr⟩ : ∃ z, s.mr n = z := ⟨_, rfl⟩
        obtain ⟨nx, hnxe⟩ : ∃ z, nextN (s.L n) S.pg = z := ⟨_, rfl⟩
        rw [hmr] at B1 hstep
        rw [hnxe] at N1 hstep hnx
        have HST := Lib.hid hstep
        have HFK := Lib.hid FK
        clear hcell0 hin hnb hn0 hn hmr hnxe hstep FK
        cases mr
        · have N2 := N1 wo HP.out.ext
          go_wp2_with (first
            | (go_at_call 24; refine B1.mono ?_; rintro e w' ⟨rfl, rfl⟩)
            | (go_at_call 15; refine N2.mono ?_; rintro e w' ⟨rfl, rfl⟩))
          clear B1 N1 N2
          go_loopw [7, 33] (fun v j wr => ∃ (q : Nat) (T : List Fnd), q ≤ nx ∧ j = .int .i64 q ∧ pgsN S s n k q = (T, 0) ∧ PgS w wr v (R ++ T)) (fun _ j _ => nx - (intOf j).toNat)
          case atStart => exact ⟨0, [], by omega, rfl, rfl, by rw [List.append_nil]; exact HP.out⟩
          case round =>
            obtain ⟨q, T, hq, rfl, hT, hP2⟩ := hrel
            have HT := Lib.hid hT
            obtain ⟨ta, tc, rfl⟩ := owns_slice17 hP2.own
            obtain ⟨tn, htn⟩ : ∃ z, (R ++ T).length = z := ⟨_, rfl⟩
            have htl := pgsN_len (S := S) (s := s) (n := (n : Int)) (bk := k) q
            rw [hT] at htl
            simp only at htl
            have htb : tn ≤ 1000000 := by rw [← htn, List.length_append, HRN.out]; omega
            rw [htn] at hP2 ⊢
            have HP2 := Lib.hid hP2
            have HTN := Lib.hid htn
            clear hT hP2 htn htl
            obtain ⟨wi, rfl⟩ : ∃ wi : World, wi = wr := ⟨_, rfl⟩
            by_cases hlq : q < nx
            · have F1 := HFK.out wi HP2.out.ext q
              obtain ⟨f, hf⟩ : ∃ z, findF S s n q k = z := ⟨_, rfl⟩
              obtain ⟨er, her⟩ : ∃ z, findE S s n q = z := ⟨_, rfl⟩
              have hnext : pgsN S s n k (q + 1) = if er = 0 then (T ++ [f], 0) else ([], er) := by
                rw [pgsN, HT.out, hf, her]
                rfl
              rw [hf, her] at F1
              unfold FoundP at F1
              have HNX := Lib.hid hnext
              clear hf her hnext
              by_cases he : er = 0
              · subst he
                go_upto_region 17 with (first
                  | (go_at_call 25; refine F1.mono ?_; rintro e w3 ⟨rfl, hg3⟩; have hBn := Blk.new w3 25 (fndC noF))
                  | (refine fnd_store (f := f) _ _ rfl rfl rfl hBn rfl rfl ?_; intro w4 hb4 hg4 hs4; have HG4 := Lib.hid (g17_new (ext_trans hg3 (World.grownBy_alloc w3 (.cells (fndC noF) 25) none)) hg4 (by have := hg3.size; omega)); clear hBn hg4 hs4))
                have hown := (HP2.out.own.kept HG4.out (Classical.em _)).alloc (.cells #[.int .i64 f.bk, .int .i64 f.pg, .bool f.torn, .int .i64 f.te, .int .i64 f.ep, .int .i64 f.pl, .int .i64 f.sq, .int .i64 f.kd, .bool f.cp, .string f.dt] 25)
                rw [HTN.out] at hown
                go_wp2_with (first
                  | (refine fnd_load_lit rfl _ rfl rfl hb4.range17 ?_)
                  | (at_builtin; go_loud (refine append_fnd rfl _ _ rfl w.heap.size (.slice ta tn tc) (R ++ T) tn HTN.out rfl hown ⟨w4.heap.size, 0, none⟩ 1 f rfl (fnd_new w4 f _) htb (by have := HP2.out.ext.size; have := HG4.out.size; simp; omega) ?_; intro v' w5 hrow' hg'; have hE5 := Lib.hid (own_alloc17 HG4.out hg'); obtain ⟨ao4, cap4, hv4⟩ := owns_slice17 hrow'; subst hv4)))
                case roundEnd =>
                  refine ⟨⟨q + 1, T ++ [f], by omega, by go_num, by rw [HNX.out]; simp, ⟨?_, own_ext17 HP2.out.own HP2.out.ext hE5.out (Nat.le_refl _)⟩⟩, by simp [intOf]; omega⟩
                  rw [← List.append_assoc, List.length_append, HTN.out]
                  exact hrow'
              · have hne : (er != 0) = true := by simpa using he
                have HNE := Lib.hid he
                clear he
                go_wp2_with (first
                  | (go_at_call 25; refine F1.mono ?_; rintro e w3 ⟨rfl, hg3⟩; have hBn := Blk.new w3 25 (fndC noF))
                  | (refine fnd_store (f := f) _ _ rfl rfl rfl hBn rfl rfl ?_; intro w4 hb4 hg4 hs4; have HG4 := Lib.hid (g17_new (ext_trans hg3 (World.grownBy_alloc w3 (.cells (fndC noF) 25) none)) hg4 (by have := hg3.size; omega)); clear hBn hg4 hs4))
                go_returns
                have h1 : pgsN S s n k nx = ([], er) := by rw [pgsN_stay (j := q + 1) (by rw [HNX.out, if_neg HNE.out]; exact HNE.out) nx (by omega), HNX.out, if_neg HNE.out]
                have h2 : blksN S s bl (k + 1) = ([], er) := by rw [HST.out, h1]; simp [HNE.out]
                have h3 : blksN S s bl nl = ([], er) := by rw [blksN_stay (j := k + 1) (by rw [h2]; exact HNE.out) nl (by omega), h2]
                rw [h3]
                exact ⟨_, rfl, (pgS_nil (ext_trans HP2.out.ext HG4.out)).own, ext_trans HP2.out.ext HG4.out⟩
            · obtain rfl : q = nx := by omega
              go_wp2
              case roundEnd =>
                refine ⟨⟨k + 1, R ++ T, by omega, rfl, ?_, HP2.out⟩, by simp [intOf]; omega⟩
                rw [HST.out, if_neg (by simp), HT.out]
                rfl
        · clear N1
          go_wp2_with (go_at_call 24; refine B1.mono ?_; rintro e w' ⟨rfl, rfl⟩)
          go_roundw
          case rel => exact ⟨k + 1, R, by omega, by go_num, by rw [HST.out]; simp, HP.out⟩
          case measure => simp [intOf]; omega
      · obtain rfl : k = nl := by omega
        go_wp2
        go_returns
        rw [HR1.out]
        refine ⟨_, rfl, ?_, HP.out.ext⟩
        have := HP.out.own
        rw [HRN.out] at this
        show wo.ownsRow w.heap.size _ 10 _ R.length (fndsL R)
        rw [HRN.out]
        exact this
  · clear hob
    rw [if_pos rfl]
    go_enter Tryd.func9, Tryd.ntmps9
    go_wp2_with (first
      | (go_at_call 21; refine (BK _ (Ext.refl w)).mono ?_; rintro e w' ⟨rfl, rfl⟩)
      | (go_at_call 22; refine CO1.mono ?_; rintro e w1 ⟨rfl, rfl⟩))
    go_returns
    exact ⟨_, rfl, HPS.out.own, HPS.out.ext⟩
end

end Go.Proofs.YtnfhibigidkhkaaDoor

/-
  The document's Parse of a tag (layer 8).
-/
namespace Go.Proofs.YtnfhibigidkhkaaDoor
set_option linter.unusedVariables false
set_option linter.unusedSimpArgs false
set_option linter.unusedVariables false
set_option linter.unusedSimpArgs false
set_option maxRecDepth 100000
open Go.RowKit

theorem refRight_ext (a b c d k : Int) (p : Bool) (w : World) :
    Calls Tryd.prog 35 #[.agg #[.int .i64 a, .int .i64 b, .int .i64 c, .int .i64 d, .int .i64 k, .bool p]] w fun e w' => e = .returned (.bool (okB a b c d k)) ∧ Ext w w' :=
  (refRight_any a b c d k p w).mono fun _ _ ⟨h1, h2⟩ => ⟨h1, h2 ▸ World.grownBy_alloc _ _ none⟩

theorem tagM_2 {w : World} {B : Nat} {a b c d k : Int} {p : Bool} (h : TagM w B a b c d k p) (x : Int) : TagM (w.setCell ⟨B, 2, none⟩ (.int .i64 x)) B a b x d k p := by
  unfold TagM tagObj at h ⊢; simp [World.setCell, Array.getElem?_modify, h]
theorem tagM_3 {w : World} {B : Nat} {a b c d k : Int} {p : Bool} (h : TagM w B a b c d k p) (x : Int) : TagM (w.setCell ⟨B, 3, none⟩ (.int .i64 x)) B a b c x k p := by
  unfold TagM tagObj at h ⊢; simp [World.setCell, Array.getElem?_modify, h]
theorem tagM_4 {w : World} {B : Nat} {a b c d k : Int} {p : Bool} (h : TagM w B a b c d k p) (x : Int) : TagM (w.setCell ⟨B, 4, none⟩ (.int .i64 x)) B a b c d x p := by
  unfold TagM tagObj at h ⊢; simp [World.setCell, Array.getElem?_modify, h]
theorem tagM_5 {w : World} {B : Nat} {a b c d k : Int} {p : Bool} (h : TagM w B a b c d k p) (x : Bool) : TagM (w.setCell ⟨B, 5, none⟩ (.bool x)) B a b c d k x := by
  unfold TagM tagObj at h ⊢; simp [World.setCell, Array.getElem?_modify, h]

end Go.Proofs.YtnfhibigidkhkaaDoor

/-
  The laws of layer 8: what is written is read; fixed.
-/
namespace Go.Proofs.YtnfhibigidkhkaaDoor
set_option linter.unusedVariables false
set_option linter.unusedSimpArgs false
set_option linter.unusedVariables false
set_option linter.unusedSimpArgs false
set_option maxRecDepth 100000
open Go.RowKit

theorem num_leB {x : Int} {n : Nat} {r : List Int} (hn : n = 1 ∨ n = 4) (h0 : 0 ≤ x) (h1 : x < 256 ^ n) :
    numV n (leB x n ++ r) 0 = x ∧ numX n (leB x n ++ r) 0 = r ∧ numE n (leB x n ++ r) 0 = 0 := by
  have hs : sizeB (n : Int) = true := by rcases hn with rfl | rfl <;> decide
  have hl : ((n : Nat) : Int) ≤ ((leB x n ++ r).length : Int) := by rw [List.length_append, leB_len]; omega
  obtain ⟨e1, e2, e3⟩ := num_ok hs hl
  refine ⟨?_, ?_, e3⟩
  · rw [e1, Int.toNat_natCast, List.take_left' (leB_len x n), leV_leB n h0 h1]
  · rw [e2, Int.toNat_natCast, List.drop_left' (leB_len x n)]

/-- What is written is read. -/
theorem rd_back {a b c d k : Int} {p : Bool} (h : okB a b c d k = true) :
    nv (tagL a b c d k p) 0 = a ∧ nv (tagL a b c d k p) 1 = b ∧ nv (tagL a b c d k p) 2 = c ∧ nv (tagL a b c d k p) 3 = d ∧ nv (tagL a b c d k p) 4 = k ∧ cpB (tagL a b c d k p) = p ∧ dnE (tagL a b c d k p) = 0 := by
  have hA := okB_all h
  have b0 := hA 0 (by decide)
  have b1 := hA 1 (by decide)
  have b2 := hA 2 (by decide)
  have b3 := hA 3 (by decide)
  have b4 := hA 4 (by decide)
  simp [ffr, fto, nth] at b0 b1 b2 b3 b4
  have e : tagL a b c d k p = leB a 1 ++ (leB b 4 ++ (leB c 1 ++ (leB d 4 ++ (leB k 1 ++ (leB (bitI p) 1 ++ []))))) := by
    simp [tagL, pre, fsz, nth]
  have hp : 0 ≤ bitI p ∧ bitI p ≤ 1 := by cases p <;> decide
  obtain ⟨v0, x0, y0⟩ := num_leB (x := a) (n := 1) (r := leB b 4 ++ (leB c 1 ++ (leB d 4 ++ (leB k 1 ++ (leB (bitI p) 1 ++ []))))) (.inl rfl) (by omega) (by show a < 256; omega)
  obtain ⟨v1, x1, y1⟩ := num_leB (x := b) (n := 4) (r := leB c 1 ++ (leB d 4 ++ (leB k 1 ++ (leB (bitI p) 1 ++ [])))) (.inr rfl) (by omega) (by show b < 4294967296; omega)
  obtain ⟨v2, x2, y2⟩ := num_leB (x := c) (n := 1) (r := leB d 4 ++ (leB k 1 ++ (leB (bitI p) 1 ++ []))) (.inl rfl) (by omega) (by show c < 256; omega)
  obtain ⟨v3, x3, y3⟩ := num_leB (x := d) (n := 4) (r := leB k 1 ++ (leB (bitI p) 1 ++ [])) (.inr rfl) (by omega) (by show d < 4294967296; omega)
  obtain ⟨v4, x4, y4⟩ := num_leB (x := k) (n := 1) (r := leB (bitI p) 1 ++ []) (.inl rfl) (by omega) (by show k < 256; omega)
  obtain ⟨v5, x5, y5⟩ := num_leB (x := bitI p) (n := 1) (r := []) (.inl rfl) (by omega) (by show bitI p < 256; omega)
  rw [e]
  have s0 : fsz 0 = ((1 : Nat) : Int) := rfl
  have s1 : fsz 1 = ((4 : Nat) : Int) := rfl
  have s2 : fsz 2 = ((1 : Nat) : Int) := rfl
  have s3 : fsz 3 = ((4 : Nat) : Int) := rfl
  have s4 : fsz 4 = ((1 : Nat) : Int) := rfl
  have r1 : rdp (leB a 1 ++ (leB b 4 ++ (leB c 1 ++ (leB d 4 ++ (leB k 1 ++ (leB (bitI p) 1 ++ [])))))) 1 = (leB b 4 ++ (leB c 1 ++ (leB d 4 ++ (leB k 1 ++ (leB (bitI p) 1 ++ [])))), 0) := by
    simp only [rdp, s0, x0, y0]
  have r2 : rdp (leB a 1 ++ (leB b 4 ++ (leB c 1 ++ (leB d 4 ++ (leB k 1 ++ (leB (bitI p) 1 ++ [])))))) 2 = (leB c 1 ++ (leB d 4 ++ (leB k 1 ++ (leB (bitI p) 1 ++ []))), 0) := by
    rw [rdp, r1]; simp only [s1, x1, y1]
  have r3 : rdp (leB a 1 ++ (leB b 4 ++ (leB c 1 ++ (leB d 4 ++ (leB k 1 ++ (leB (bitI p) 1 ++ [])))))) 3 = (leB d 4 ++ (leB k 1 ++ (leB (bitI p) 1 ++ [])), 0) := by
    rw [rdp, r2]; simp only [s2, x2, y2]
  have r4 : rdp (leB a 1 ++ (leB b 4 ++ (leB c 1 ++ (leB d 4 ++ (leB k 1 ++ (leB (bitI p) 1 ++ [])))))) 4 = (leB k 1 ++ (leB (bitI p) 1 ++ []), 0) := by
    rw [rdp, r3]; simp only [s3, x3, y3]
  have r5 : rdp (leB a 1 ++ (leB b 4 ++ (leB c 1 ++ (leB d 4 ++ (leB k 1 ++ (leB (bitI p) 1 ++ [])))))) 5 = (leB (bitI p) 1 ++ [], 0) := by
    rw [rdp, r4]; simp only [s4, x4, y4]
  refine ⟨?_, ?_, ?_, ?_, ?_, ?_, ?_⟩
  · simp only [nv, rdp, s0, v0]
  · rw [nv, r1]; simp only [s1, v1]
  · rw [nv, r2]; simp only [s2, v2]
  · rw [nv, r3]; simp only [s3, v3]
  · rw [nv, r4]; simp only [s4, v4]
  · rw [cpB, r5]
    have : numV 1 (leB (bitI p) 1 ++ []) 0 = bitI p := v5
    simp only [flagB, this]
    cases p <;> decide
  · rw [dnE, lstX, lstE, r5]
    have h1 : numV 1 (leB (bitI p) 1 ++ []) 0 = bitI p := v5
    have h2 : numX 1 (leB (bitI p) 1 ++ []) 0 = [] := x5
    have h3 : numE 1 (leB (bitI p) 1 ++ []) 0 = 0 := y5
    simp only [flagE, h1, h2, h3]
    rw [if_neg (by omega)]
    rfl

theorem ps_back {a b c d k : Int} {p : Bool} (h : okB a b c d k = true) :
    psE (frL 84 (tagL a b c d k p)) = 0 ∧ psN (frL 84 (tagL a b c d k p)) 0 = a ∧ psN (frL 84 (tagL a b c d k p)) 1 = b ∧ psN (frL 84 (tagL a b c d k p)) 2 = c ∧ psN (frL 84 (tagL a b c d k p)) 3 = d ∧ psN (frL 84 (tagL a b c d k p)) 4 = k ∧ psP (frL 84 (tagL a b c d k p)) = p := by
  have hl := tagL_len a b c d k p
  have hob := open_back (k := 84) (body := tagL a b c d k p) (rest := []) (by decide) (by decide) (by omega)
  rw [List.append_nil] at hob
  have w1 : whE (frL 84 (tagL a b c d k p)) 84 = 0 := by unfold whE; rw [if_pos hob.2.1, if_pos ⟨by rw [hob.2.2.2.2, frL_len]; rfl, hob.2.2.1⟩]
  have w2 : whB (frL 84 (tagL a b c d k p)) 84 = tagL a b c d k p := by unfold whB; rw [if_pos w1]; exact hob.2.2.2.1
  obtain ⟨e0, e1, e2, e3, e4, e5, e6⟩ := rd_back (p := p) h
  have hE : psE (frL 84 (tagL a b c d k p)) = 0 := by
    unfold psE
    rw [if_pos w1, w2]
    simp [bodyOk, e0, e1, e2, e3, e4, e6, h]
  simp only [psN, psP, hE, w2, if_true]
  exact ⟨trivial, e0, e1, e2, e3, e4, e5⟩

end Go.Proofs.YtnfhibigidkhkaaDoor

/-
  Layer 16's law: the array, beside, fixed; ScanMine.
-/
namespace Go.Proofs.YtnfhibigidkhkaaDoor
set_option linter.unusedVariables false
set_option linter.unusedSimpArgs false
set_option linter.unusedVariables false
set_option linter.unusedSimpArgs false
set_option maxRecDepth 100000
open Go.RowKit

/-- The law's array. -/
def Arr16 (w : World) (e : Ending) (w' : World) : Prop :=
  ∃ (S : NShape) (V : Nat → Value), Roles S ∧ (S.c = 1 ∧ S.d = 1 ∧ S.b = 10 ∧ S.p = 4 ∧ S.all = 10 ∧ S.pg = 4) ∧ e = .returned (.tuple #[.pointer (some ⟨S.nb, 0, none⟩), .pointer (some ⟨S.pb, 0, none⟩)]) ∧
    NandAt w' S V noZs (blankS [] (-1) false 0 (fun _ => 0) (fun _ => 0)) ∧ w.grownBy w' none ∧ ∀ k, S.T k ≠ 0 → w.heap.size ≤ k

structure Box16 (w x : World) : Prop where
  f0 : x.cell? ⟨w.heap.size, 0, none⟩ = some (.slice none 0 0)
  f1 : x.cell? ⟨w.heap.size, 1, none⟩ = some (.slice none 0 0)
  f2 : x.cell? ⟨w.heap.size, 2, none⟩ = some (.slice none 0 0)
  f3 : x.cell? ⟨w.heap.size, 3, none⟩ = some (.slice none 0 0)
theorem Box16.ext {w x y : World} (h : Box16 w x) (hg : x.grownBy y none) : Box16 w y := ⟨hg.cell h.f0 (by simp), hg.cell h.f1 (by simp), hg.cell h.f2 (by simp), hg.cell h.f3 (by simp)⟩
theorem box16 (w : World) (T : TypeId) : Box16 w (w.alloc (.cells #[.slice none 0 0, .slice none 0 0, .slice none 0 0, .slice none 0 0] T)) :=
  ⟨(Blk.new w T _).cell 0, (Blk.new w T _).cell 1, (Blk.new w T _).cell 2, (Blk.new w T _).cell 3⟩

set_option maxHeartbeats 1600000 in
theorem array16_any (w : World) : Calls Tryd.prog 6 #[.agg #[.slice none 0 0, .slice none 0 0, .slice none 0 0, .slice none 0 0]] w (Arr16 w) := by
  have NW := fun (pb db : Nat) (V : Nat → Value) (x : World) (hp : PowAt x pb (-1) false 0) (hd : DrAt x db V noZs (fun _ => 0) (fun _ => 0)) (hV : ∀ j, j < 4 → ∀ k, (V j).ownBlock = some k → k < x.heap.size ∧ k ≠ pb) (hne : pb ≠ db) =>
    (new7_any pb db 4 10 1 1 10 (.slice none 0 0) [] x (by decide) (by decide) (.inl ⟨rfl, rfl⟩) (by simp) hp hd hV hne).mono (fun e w' (h : NewP7 1 1 10 4 pb db 10 [] V noZs (-1) false 0 (fun _ => 0) (fun _ => 0) x e w') => (show Fresh 1 1 10 4 pb db 10 [] V noZs (-1) false 0 (fun _ => 0) (fun _ => 0) x e w' from by unfold NewP7 at h; rwa [if_pos (show okM 10 [] = true from rfl)] at h))
  unfold four at NW
  have HB := Lib.hid (And.intro (box16 w 33) (World.grownBy_alloc w (.cells #[.slice none 0 0, .slice none 0 0, .slice none 0 0, .slice none 0 0] 33) none))
  go_enter Tryd.func6, Tryd.ntmps6
  go_wp2_with (first
    | (go_at_call 11; refine (newPow_is (-1) _).mono ?_; rintro e w1 ⟨pb, rfl, hp1, hg1, hb1⟩; obtain ⟨y0, y1, y2, y3⟩ := HB.out.1.ext hg1)
    | (go_at_call 12; refine (newD_none _).mono ?_; rintro e w2 ⟨db, V, rfl, hd2, hg2, hb2, hv2⟩)
    | (go_at_call 13; refine (NW pb db V w2 (hp1.other hg2 hp1.lt (by simp)) hd2 (fun j hj k hk => by have h1 := hv2 j hj k hk; have h2 := hp1.lt; omega) (by have h2 := hp1.lt; omega)).mono ?_; rintro e w3 ⟨S, hR, ⟨q1, q2, q3, q4, q5, q6, q7, q8⟩, rfl, hN, hg3, hT⟩; subst q1; have HQ := Lib.hid (And.intro q2 (And.intro q3 (And.intro q4 (And.intro q5 (And.intro q6 (And.intro q7 q8)))))); clear q2 q3 q4 q5 q6 q7 q8))
  have s0 := HB.out.2.size
  have s1 := hg1.size
  have s2 := hg2.size
  refine bodyPost_ret (v := .tuple #[.pointer (some ⟨S.nb, 0, none⟩), .pointer (some ⟨S.pb, 0, none⟩)]) (by simp [results, Tryd.results6, go_sem]) rfl ⟨S, V, hR, HQ.out.2, rfl, hN, ext_trans HB.out.2 (ext_trans (ext_trans hg1 hg2) hg3), fun k hk => ?_⟩
  have h1 := hT k hk
  have h2 := HQ.out.1
  omega

/-- The law's page. -/
def wrC : Array Value := #[.int .i64 0, .int .i64 5, .int .i64 1, .int .i64 2, .int .i64 0, .int .i64 0, .int .i64 1, .bool false, .slice none 0 0, .string ⟨#[]⟩, .bool false, .bool false]
theorem Tryd.sizeWr : (Tryd.prog.info? 36).map (·.size) = some 12 := by kernel_rfl
section
variable {ops : Array Oper} {rest : List Oper} {o : Oper} {a : Act} {w : World} {Q : Exit → Act → World → Prop}
theorem wr_read (hwt : Region.wanted o (yielded ops a.tmps) = true) (x : Operand) (ho : o.op = .load 36 x) {g : Nat} (hx : a.eval x = .pointer (some ⟨g, 0, none⟩)) (hg : Blk w g 36 wrC)
    (h : wpList Tryd.prog ops Q rest (a.put o.dst (.agg wrC)) w) : wpList Tryd.prog ops Q (o :: rest) a w :=
  wpList_load_part hwt _ x ho g 0 12 hx _ _ _ _ _ hg (show wrC.extract 0 (0 + 12) = wrC from rfl) rfl Tryd.underlying36 rfl Tryd.sizeWr h
theorem wr_tag (hwt : Region.wanted o (yielded ops a.tmps) = true) (x : Operand) (ho : o.op = .load 23 x) {g : Nat} (hx : a.eval x = .pointer (some ⟨g, 2, none⟩)) (hg : Blk w g 36 wrC)
    (h : wpList Tryd.prog ops Q rest (a.put o.dst (.agg #[.int .i64 1, .int .i64 2, .int .i64 0, .int .i64 0, .int .i64 1, .bool false])) w) : wpList Tryd.prog ops Q (o :: rest) a w :=
  wpList_load_part hwt _ x ho g 2 6 hx _ _ _ _ _ hg (show wrC.extract 2 (2 + 6) = #[.int .i64 1, .int .i64 2, .int .i64 0, .int .i64 0, .int .i64 1, .bool false] from rfl) rfl Tryd.underlying23 rfl Tryd.sizeTag17 h
theorem wr_store (x y : Operand) (ho : o.op = .store 36 x y) {g : Nat} (hx : a.eval x = .pointer (some ⟨g, 0, none⟩)) (hy : a.eval y = .agg wrC) {old : Array Value} (hg : Blk w g 36 old) (hold : old.size = 12) (hwt : Region.wanted o (yielded ops a.tmps) = true)
    (h : ∀ w', Blk w' g 36 wrC → w.grownBy w' (some g) → w'.heap.size = w.heap.size → wpList Tryd.prog ops Q rest (a.put o.dst undef) w') : wpList Tryd.prog ops Q (o :: rest) a w :=
  wpList_store_part hwt _ x y ho g 0 12 _ hx hy _ old _ hg rfl Tryd.sizeWr (by omega) (by simp [wrC, Value.oneCell']) (by
    have h1 : wrC.toList.length = 12 := rfl
    rw [h1, List.drop_of_length_le (by simp; omega)]
    simp) h
end

def tagB16 : List Int := frL 84 (tagL 1 2 0 0 1 false)
set_option maxHeartbeats 800000 in
theorem beside16_is (w : World) : Calls Tryd.prog 8 #[.agg wrC] w (Made w.heap.size w tagB16) := by
  have TB := fun x => refTagBytes_any 1 2 0 0 1 false x
  rw [show tagBL 1 2 0 0 1 false = tagB16 from rfl, show tagBE 1 2 0 0 1 = 0 from rfl] at TB
  unfold tagV at TB
  have hb := Blk.new w 36 wrC
  have HE := Lib.hid (World.grownBy_alloc w (.cells wrC 36) none)
  generalize tagB16 = ys at *
  go_enter Tryd.func8, Tryd.ntmps8
  go_wp2_with (first
    | (refine wr_tag rfl _ rfl rfl hb ?_)
    | (go_at_call 20; refine (TB _).mono ?_; rintro e w2 ⟨v2, rfl, hown2, hg2⟩; have c8 := (hb.ext hg2).cell 8; simp [wrC] at c8))
  go_ret
  exact ⟨v2, rfl, ownsRow_le hown2 HE.out.size, ext_trans HE.out hg2⟩

end Go.Proofs.YtnfhibigidkhkaaDoor
