/-
  Layer 13: what a buffer answers (contracts, whatever the code); the law's fixed, BufferNone.
-/
import Derived.Test.YtdnjpoioojahkaaQB
import Derived.Test.YtdnjpoioojahkaaAT
import Derived.Outline
import Derived.Deep.DeepCutAuto
import Derived.Deep.Cut
import Derived.Deep.LoopGhost
namespace Go.Proofs.Ytdnjpoioojahkaa
set_option linter.unusedVariables false
set_option linter.unusedSimpArgs false
set_option maxRecDepth 100000
open Go.RowKit

def chgV (c : Chg) : Value := .agg #[.int .i64 c.pl, .int .i64 c.kd, .string c.dt]
def putE (row : List Chg) (c : Chg) : Int := if chkE c.pl c.kd c.dt = 0 then (if row.length = 4 then 8 else 0) else chkE c.pl c.kd c.dt
def putR (row : List Chg) (c : Chg) : List Chg := if putE row c = 0 then row ++ [c] else row
def firstC (row : List Chg) : Chg := row.headD noChg
/-- The last one of a place. -/
def lastN (row : List Chg) (p : Int) : Chg × Bool := row.foldl (fun acc x => if x.pl = p then (x, true) else acc) (noChg, false)
def small13 (row : List Chg) : Prop := row.length ≤ 4

/-- The calls, over a buffer at b that has these changes. -/
structure BufC (BA : World → Nat → List Chg → Prop) : Prop where
  stays : ∀ w w' b row, BA w b row → w'.heap[b]? = w.heap[b]? → BA w' b row
  lt : ∀ w b row, BA w b row → b < w.heap.size
  new : ∀ w, Calls Try.prog 8 #[] w fun e w' => ∃ b, e = .returned (.pointer (some ⟨b, 0, none⟩)) ∧ BA w' b [] ∧ w.heap.size ≤ b ∧ w.grownBy w' none
  put : ∀ w b row c, BA w b row → row.length ≤ 4 → c.dt.size ≤ 9223372036854775807 → Calls Try.prog 10 #[.pointer (some ⟨b, 0, none⟩), chgV c] w fun e w' => e = .returned (.int .i64 (putE row c)) ∧ BA w' b (putR row c) ∧ w.grownBy w' (some b)
  first : ∀ w b row, BA w b row → row.length ≤ 4 → Calls Try.prog 12 #[.pointer (some ⟨b, 0, none⟩)] w fun e w' => e = .returned (.tuple #[chgV (firstC row), .bool (decide (0 < row.length))]) ∧ w.grownBy w' none
  drop : ∀ w b row, BA w b row → row.length ≤ 4 → Calls Try.prog 11 #[.pointer (some ⟨b, 0, none⟩)] w fun e w' => e = .returned (.bool (decide (0 < row.length))) ∧ BA w' b (row.drop 1) ∧ w.grownBy w' (some b)
  last : ∀ w b row p, BA w b row → row.length ≤ 4 → Calls Try.prog 16 #[.pointer (some ⟨b, 0, none⟩), .int .i64 p] w fun e w' => e = .returned (.tuple #[chgV (lastN row p).1, .bool (lastN row p).2]) ∧ w.grownBy w' none
  len : ∀ w b row, BA w b row → row.length ≤ 4 → Calls Try.prog 14 #[.pointer (some ⟨b, 0, none⟩)] w fun e w' => e = .returned (.int .i64 row.length) ∧ w.grownBy w' none
  full : ∀ w b row, BA w b row → row.length ≤ 4 → Calls Try.prog 15 #[.pointer (some ⟨b, 0, none⟩)] w fun e w' => e = .returned (.bool (decide (row.length = 4))) ∧ w.grownBy w' none
  all : ∀ w b row, BA w b row → row.length ≤ 4 → Calls Try.prog 13 #[.pointer (some ⟨b, 0, none⟩)] w fun e w' => ∃ v, e = .returned v ∧ w'.ownsRow w.heap.size 28 3 v row.length (chgsL row) ∧ w.grownBy w' none
/-- Of a nil buffer. -/
structure BufN : Prop where
  put : ∀ w c, Calls Try.prog 10 #[.pointer none, chgV c] w fun e w' => e = .returned (.int .i64 1) ∧ w.grownBy w' none
  first : ∀ w, Calls Try.prog 12 #[.pointer none] w fun e w' => e = .returned (.tuple #[chgV noChg, .bool false]) ∧ w.grownBy w' none
  drop : ∀ w, Calls Try.prog 11 #[.pointer none] w fun e w' => e = .returned (.bool false) ∧ w.grownBy w' none
  last : ∀ w p, Calls Try.prog 16 #[.pointer none, .int .i64 p] w fun e w' => e = .returned (.tuple #[chgV noChg, .bool false]) ∧ w.grownBy w' none
  len : ∀ w, Calls Try.prog 14 #[.pointer none] w fun e w' => e = .returned (.int .i64 0) ∧ w.grownBy w' none
  full : ∀ w, Calls Try.prog 15 #[.pointer none] w fun e w' => e = .returned (.bool true) ∧ w.grownBy w' none
  all : ∀ w, Calls Try.prog 13 #[.pointer none] w fun e w' => ∃ v, e = .returned v ∧ w'.ownsRow w.heap.size 28 3 v 0 [] ∧ w.grownBy w' none
def Fix13 : Prop := ∀ w : World, Calls Try.prog 7 #[] w fun e w' => e = .returned (.bool true) ∧ w.grownBy w' none

abbrev Ext13 (w w' : World) : Prop := w.grownBy w' none
theorem ext13_trans {w w1 w2 : World} (h : Ext13 w w1) (h2 : Ext13 w1 w2) : Ext13 w w2 :=
  ⟨h2.os.trans h.os, h2.tape.trans h.tape, h2.output.trans h.output, Nat.le_trans h.size h2.size, fun k hk hne => (h2.block k (Nat.lt_of_lt_of_le hk h.size) hne).trans (h.block k hk hne)⟩

theorem Try.sizeChg : (Try.prog.info? 28).map (·.size) = some 3 := by kernel_rfl
section
variable {ops : Array Oper} {rest : List Oper} {o : Oper} {a : Act} {w : World} {Q : Exit → Act → World → Prop}
/-- A change is read whole, out of cells that are known. -/
theorem chg_load (hgd : o.guard = none) (x : Operand) (ho : o.op = .load 28 x) {b off : Nat} (hx : a.eval x = .pointer (some ⟨b, off, none⟩)) {c : Chg} (hr : w.rangeAt b off (chgC c).toList)
    (h : wpList Try.prog ops Q rest (a.put o.dst (.agg (chgC c))) w) : wpList Try.prog ops Q (o :: rest) a w :=
  wpList_load_mid hgd _ x ho b off hx _ _ hr Try.underlying28 rfl (by rw [Try.sizeChg]; rfl) (by simpa using h)
theorem chg_load_want (hwt : Region.wanted o (yielded ops a.tmps) = true) (x : Operand) (ho : o.op = .load 28 x) {b off : Nat} (hx : a.eval x = .pointer (some ⟨b, off, none⟩)) {c : Chg} (hr : w.rangeAt b off (chgC c).toList)
    (h : wpList Try.prog ops Q rest (a.put o.dst (.agg (chgC c))) w) : wpList Try.prog ops Q (o :: rest) a w :=
  wpList_want hwt fun K hK => wp_load_mid _ x ho b off hx _ _ hr Try.underlying28 rfl (by rw [Try.sizeChg]; rfl) (hK _ _ (by simpa using h))
/-- The same, its cells written out. -/
theorem chg_load_lit (hwt : Region.wanted o (yielded ops a.tmps) = true) (x : Operand) (ho : o.op = .load 28 x) {b off : Nat} (hx : a.eval x = .pointer (some ⟨b, off, none⟩)) {c : Chg} (hr : w.rangeAt b off (chgC c).toList)
    (h : wpList Try.prog ops Q rest (a.put o.dst (.agg #[.int .i64 c.pl, .int .i64 c.kd, .string c.dt])) w) : wpList Try.prog ops Q (o :: rest) a w := chg_load_want hwt x ho hx hr h
/-- A change is laid into a block of its own. -/
theorem chg_store (x y : Operand) (ho : o.op = .store 28 x y) {g : Nat} (hx : a.eval x = .pointer (some ⟨g, 0, none⟩)) {c : Chg} (hy : a.eval y = .agg (chgC c)) {old : Array Value} (hg : Blk w g 28 old) (hold : old.size = 3) (hwt : Region.wanted o (yielded ops a.tmps) = true)
    (h : ∀ w', Blk w' g 28 (chgC c) → w.grownBy w' (some g) → w'.heap.size = w.heap.size → wpList Try.prog ops Q rest (a.put o.dst undef) w') : wpList Try.prog ops Q (o :: rest) a w :=
  wpList_store_part hwt _ x y ho g 0 3 _ hx hy _ old _ hg rfl Try.sizeChg (by omega) (by simp [chgC, Value.oneCell']) (by
    have h1 : (chgC c).toList.length = 3 := rfl
    rw [h1, List.drop_of_length_le (by simp; omega)]
    simp) h
end
theorem grown_trans13 {w w1 w2 : World} (h : w.grownBy w1 none) (h2 : w1.grownBy w2 (some w.heap.size)) : w.grownBy w2 none :=
  ⟨h2.os.trans h.os, h2.tape.trans h.tape, h2.output.trans h.output, Nat.le_trans h.size h2.size, fun k hk hne => (h2.block k (Nat.lt_of_lt_of_le hk h.size) (fun e => by injection e with e; omega)).trans (h.block k hk hne)⟩
theorem grown_past13 {w w1 w2 : World} {b : Nat} (h : w.grownBy w1 none) (h2 : w1.grownBy w2 (some b)) (hb : w.heap.size ≤ b) : w.grownBy w2 none :=
  ⟨h2.os.trans h.os, h2.tape.trans h.tape, h2.output.trans h.output, Nat.le_trans h.size h2.size, fun k hk hne => (h2.block k (Nat.lt_of_lt_of_le hk h.size) (fun e => by injection e with e; omega)).trans (h.block k hk hne)⟩
theorem owns_shape13 {w : World} {B : Nat} {e : TypeId} {sz : Nat} {v : Value} {n : Nat} {xs : List Value} (h : w.ownsRow B e sz v n xs) : ∃ ao cap, v = .slice ao n cap := by
  rcases h.2 with ⟨rfl, rfl⟩ | ⟨g, cap, _, rfl, _⟩
  · exact ⟨none, 0, rfl⟩
  · exact ⟨_, cap, rfl⟩
theorem chgV_is (c : Chg) : chgV c = .agg (chgC c) := rfl
theorem Blk.range {w : World} {g : Nat} {t : TypeId} {cs : Array Value} (h : Blk w g t cs) (off n : Nat) (hn : (cs.extract off (off + n)).size = n) : w.rangeAt g off (cs.extract off (off + n)).toList := by
  have := World.rangeAt_of_block h off n
  simpa using this

set_option maxHeartbeats 800000 in
theorem bufferNone_any (BN : BufN) (FX : Fix13) (c : Chg) (p : Int) (w : World) :
    Calls Try.prog 4 #[chgV c, .int .i64 p] w fun e w' => e = .returned (.bool true) ∧ Ext13 w w' := by
  have hbl := Blk.new w 28 (chgC c)
  have ha := World.grownBy_alloc w (.cells (chgC c) 28) none
  obtain ⟨LB, hLB⟩ : ∃ z, w.heap.size = z := ⟨_, rfl⟩
  obtain ⟨w1, hw1⟩ : ∃ y, w.alloc (.cells (chgC c) 28) = y := ⟨_, rfl⟩
  rw [hw1] at hbl ha
  rw [hLB] at hbl
  have HA := Lib.hid ha
  rw [chgV_is]
  clear ha
  obtain ⟨z1, hz1⟩ : ∃ z : Int, z = 1 := ⟨1, rfl⟩
  have PUT := fun wx => BN.put wx c
  rw [← hz1, chgV_is] at PUT
  have hzb : (z1 == 1) = true := by rw [hz1]; rfl
  clear hz1
  go_enter Try.func4, Try.ntmps4
  go_upto_region 1 with fail
  clear hLB hw1
  go_wp2_with (first
    | (go_at_call 7; refine (FX _).mono ?_; rintro e w2 ⟨rfl, hE2⟩; have hbl2 := hbl.ext hE2; have HE2 := Lib.hid (ext13_trans HA.out hE2); clear hE2 hbl)
    | (go_at_call 12; refine (BN.first _).mono ?_; rintro e w3 ⟨rfl, hE3⟩; have hB3 := Blk.new w3 28 #[.int .i64 0, .int .i64 0, .string ⟨#[]⟩]; have hbl3 := hbl2.ext hE3; have HE3 := Lib.hid (ext13_trans HE2.out hE3); clear hE3 hbl2)
    | (refine chg_store (c := noChg) _ _ rfl rfl rfl hB5 rfl rfl ?_; intro w6 hb6 hg6 hs6; have hE6 := grown_trans13 (World.grownBy_alloc w5 _ none) hg6; have hbl6 := hbl5.ext hE6; have HE6 := Lib.hid (ext13_trans HE5.out hE6); clear hB5 hg6 hs6 hE6 hbl5)
    | (refine chg_store (c := noChg) _ _ rfl rfl rfl hB3 rfl rfl ?_; intro w4 hb4 hg4 hs4; have hE4 := grown_trans13 (World.grownBy_alloc w3 _ none) hg4; have hbl4 := hbl3.ext hE4; have HE4 := Lib.hid (ext13_trans HE3.out hE4); clear hB3 hg4 hs4 hE4 hbl3)
    | (go_at_call 16; refine (BN.last _ _).mono ?_; rintro e w5 ⟨rfl, hE5⟩; have hB5 := Blk.new w5 28 #[.int .i64 0, .int .i64 0, .string ⟨#[]⟩]; have hbl5 := hbl4.ext hE5; have HE5 := Lib.hid (ext13_trans HE4.out hE5); clear hE5 hbl4)
    | (refine chg_load_want rfl _ rfl rfl (hbl6.range 0 3 rfl) ?_)
    | (go_at_call 10; refine (PUT _).mono ?_; rintro e w7 ⟨rfl, hE7⟩; have HE7 := Lib.hid (ext13_trans HE6.out hE7); clear hE7 hbl6)
    | (go_at_call 11; refine (BN.drop _).mono ?_; rintro e w8 ⟨rfl, hE8⟩; have HE8 := Lib.hid (ext13_trans HE7.out hE8); clear hE8)
    | (go_at_call 14; refine (BN.len _).mono ?_; rintro e w9 ⟨rfl, hE9⟩; have HE9 := Lib.hid (ext13_trans HE8.out hE9); clear hE9)
    | (go_at_call 15; refine (BN.full _).mono ?_; rintro e w10 ⟨rfl, hE10⟩; have HE10 := Lib.hid (ext13_trans HE9.out hE10); clear hE10)
    | (go_at_call 13; refine (BN.all _).mono ?_; rintro e w11 ⟨v11, rfl, hown, hE11⟩; obtain ⟨ao, cp, rfl⟩ := owns_shape13 hown; have HE11 := Lib.hid (ext13_trans HE10.out hE11); clear hE11 hown))
  go_ret
  exact ⟨rfl, HE11.out⟩

/-! the law's fixed -/
def fA : Chg := ⟨3, 1, ⟨#[120]⟩⟩
def fB : Chg := ⟨3, 2, ⟨#[]⟩⟩

set_option maxHeartbeats 1600000 in
theorem fix13_any {BA : World → Nat → List Chg → Prop} (BC : BufC BA) : Fix13 := by
  intro w
  have NEW := BC.new
  obtain ⟨zA, hzA⟩ : ∃ z : Int, z = 0 := ⟨0, rfl⟩
  obtain ⟨zB, hzB⟩ : ∃ z : Int, z = 0 := ⟨0, rfl⟩
  obtain ⟨zC, hzC⟩ : ∃ z : Int, z = 1 := ⟨1, rfl⟩
  have P1 := fun wx b h => BC.put wx b [] fA h (by decide) (by decide)
  have P2 := fun wx b h => BC.put wx b [fA] fB h (by decide) (by decide)
  have P3 := fun wx b h => BC.put wx b [fA, fB] noChg h (by decide) (by decide)
  have F1 := fun wx b h => BC.first wx b [fA, fB] h (by decide)
  have L1 := fun wx b h => BC.last wx b [fA, fB] 3 h (by decide)
  have N1 := fun wx b h => BC.len wx b [fA, fB] h (by decide)
  have U1 := fun wx b h => BC.full wx b [fA, fB] h (by decide)
  rw [show putE [] fA = zA by rw [hzA]; decide, show putR [] fA = [fA] by rfl] at P1
  rw [show putE [fA] fB = zB by rw [hzB]; decide, show putR [fA] fB = [fA, fB] by rfl] at P2
  rw [show putE [fA, fB] noChg = zC by rw [hzC]; decide] at P3
  rw [show firstC [fA, fB] = fA from rfl, show decide (0 < ([fA, fB] : List Chg).length) = true from rfl] at F1
  rw [show lastN [fA, fB] 3 = (fB, true) by rfl] at L1
  rw [show (([fA, fB] : List Chg).length : Int) = 2 from rfl] at N1
  rw [show decide (([fA, fB] : List Chg).length = 4) = false from rfl] at U1
  have bA : (zA == 0) = true := by rw [hzA]; rfl
  have bB : (zB == 0) = true := by rw [hzB]; rfl
  have bC : (zC == 1) = true := by rw [hzC]; rfl
  have ST := Lib.hid BC.stays
  have LT := Lib.hid BC.lt
  clear hzA hzB hzC BC
  go_enter Try.func7, Try.ntmps7
  go_wp2_with (first
    | (go_at_call 8; refine (NEW _).mono ?_; rintro e w1 ⟨b, rfl, hA1, hb0, hE1⟩; have HB0 := Lib.hid hb0; have HE1 := Lib.hid hE1; clear hb0 hE1)
    | (go_at_call 10; refine (P3 _ _ HA8.out).mono ?_; rintro e w9 ⟨rfl, _, hg9⟩; have HE9 := Lib.hid (grown_past13 HE8.out hg9 HB0.out); clear hg9)
    | (go_at_call 10; refine (P2 _ _ hA2).mono ?_; rintro e w3 ⟨rfl, hA3, hg3⟩; have HE3 := Lib.hid (grown_past13 HE2.out hg3 HB0.out); clear hA2 hg3)
    | (go_at_call 10; refine (P1 _ _ hA1).mono ?_; rintro e w2 ⟨rfl, hA2, hg2⟩; have HE2 := Lib.hid (grown_past13 HE1.out hg2 HB0.out); clear hA1 hg2)
    | (go_at_call 12; refine (F1 _ _ hA3).mono ?_; rintro e w4 ⟨rfl, hE4⟩; have hA4 := ST.out _ _ _ _ hA3 (hE4.block _ (LT.out _ _ _ hA3) (by simp)); have hB4 := Blk.new w4 28 #[.int .i64 0, .int .i64 0, .string ⟨#[]⟩]; have HE4 := Lib.hid (ext13_trans HE3.out hE4); clear hE4 hA3)
    | (refine chg_store (c := fB) _ _ rfl rfl rfl hB6 rfl rfl ?_; intro w7 hb7 hg7 hs7; have hE7 := grown_trans13 (World.grownBy_alloc w6 _ none) hg7; have hA7 := ST.out _ _ _ _ hA6 (hE7.block _ (LT.out _ _ _ hA6) (by simp)); have hb7b := hb5b.ext hE7; have c7 := (hb7.cell 1).trans (show (chgC fB)[1]? = some (.int .i64 2) from rfl); have c7b := (hb7b.cell 2).trans (show (chgC fA)[2]? = some (.string ⟨#[120]⟩) from rfl); have HE7 := Lib.hid (ext13_trans HE6.out hE7); have HA7 := Lib.hid hA7; clear hB6 hg7 hs7 hE7 hA6 hA7 hb5b)
    | (refine chg_store (c := fA) _ _ rfl rfl rfl hB4 rfl rfl ?_; intro w5 hb5 hg5 hs5; have hE5 := grown_trans13 (World.grownBy_alloc w4 _ none) hg5; have hA5 := ST.out _ _ _ _ hA4 (hE5.block _ (LT.out _ _ _ hA4) (by simp)); have HE5 := Lib.hid (ext13_trans HE4.out hE5); clear hB4 hg5 hs5 hE5 hA4)
    | (go_at_call 16; refine (L1 _ _ hA5).mono ?_; rintro e w6 ⟨rfl, hE6⟩; have hA6 := ST.out _ _ _ _ hA5 (hE6.block _ (LT.out _ _ _ hA5) (by simp)); have hB6 := Blk.new w6 28 #[.int .i64 0, .int .i64 0, .string ⟨#[]⟩]; have hb5b := hb5.ext hE6; have HE6 := Lib.hid (ext13_trans HE5.out hE6); clear hE6 hA5 hb5)
    | (go_at_call 14; refine (N1 _ _ HA7.out).mono ?_; rintro e wL ⟨rfl, hEL⟩; have HAL := Lib.hid (ST.out _ _ _ _ HA7.out (hEL.block _ (LT.out _ _ _ HA7.out) (by simp))); have HEL := Lib.hid (ext13_trans HE7.out hEL); clear hEL)
    | (go_at_call 15; refine (U1 _ _ HAL.out).mono ?_; rintro e w8 ⟨rfl, hE8⟩; have HA8 := Lib.hid (ST.out _ _ _ _ HAL.out (hE8.block _ (LT.out _ _ _ HAL.out) (by simp))); have HE8 := Lib.hid (ext13_trans HEL.out hE8); clear hE8))
  go_ret
  exact ⟨rfl, HE9.out⟩

end Go.Proofs.Ytdnjpoioojahkaa
