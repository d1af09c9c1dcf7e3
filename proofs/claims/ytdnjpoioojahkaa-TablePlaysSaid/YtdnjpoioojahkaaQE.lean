/-
  Layer 14: the document's table: rows; Place, At, Worth, Clear, Set.
-/
import Derived.Test.YtdnjpoioojahkaaQA
import Derived.Test.YtdnjpoioojahkaaLine
import Derived.Test.YtdnjpoioojahkaaEA
import Derived.Test.YtdnjpoioojahkaaDA
import Derived.Lib.Hide
import Derived.Outline
import Derived.Deep.DeepCutAuto
import Derived.Deep.Cut
import Derived.Deep.LoopGhost
namespace Go.Proofs.Ytdnjpoioojahkaa
set_option linter.unusedVariables false
set_option linter.unusedSimpArgs false
set_option maxRecDepth 100000
open Go.RowKit

structure R14 where
  pl : Int
  bk : Int
  pg : Int
def r14C (r : R14) : Array Value := #[.int .i64 r.pl, .int .i64 r.bk, .int .i64 r.pg]
def rowsL (rs : List R14) : List Value := rs.flatMap fun r => (r14C r).toList
def no14 : R14 := ⟨0, 0, 0⟩
theorem rowsL_at : ∀ (row : List R14) (j i : Nat), i < 3 → j < row.length → (rowsL row)[j * 3 + i]? = (r14C (row.getD j no14)).toList[i]?
  | [], j, i, _, h => by simp at h
  | c :: r, 0, i, hi, _ => by
    show ((r14C c).toList ++ rowsL r)[0 * 3 + i]? = _
    rw [Nat.zero_mul, Nat.zero_add, List.getElem?_append_left (by show i < 3; exact hi)]
    rfl
  | c :: r, j + 1, i, hi, h => by
    show ((r14C c).toList ++ rowsL r)[(j + 1) * 3 + i]? = _
    have hl : (r14C c).toList.length = 3 := rfl
    rw [List.getElem?_append_right (by omega), hl, show (j + 1) * 3 + i - 3 = j * 3 + i by omega, rowsL_at r j i hi (by simpa using h)]
    simp
theorem rowsL_snoc (row : List R14) (c : R14) : rowsL (row ++ [c]) = rowsL row ++ (r14C c).toList := by simp [rowsL]
theorem row14_at {w : World} {B n cap j : Nat} {so : Option Addr} {row : List R14} {T : TypeId} (h : TailRow w B T 3 (.slice so n cap) row.length (rowsL row)) (hj : j < row.length) {cj : R14} (hc : row.getD j no14 = cj) :
    ∃ g off, so = some ⟨g, off, none⟩ ∧ w.rangeAt g (off + j * 3) (r14C cj).toList := by
  rcases h.shape with ⟨_, h1⟩ | ⟨g, off, cap', h1, _, _, _, _, h2⟩
  · omega
  · simp only [Value.slice.injEq] at h1
    refine ⟨g, off, h1.1, fun i u hi => ?_⟩
    have hl : (r14C cj).toList.length = 3 := rfl
    have hi3 : i < 3 := by rw [← hl]; exact (List.getElem?_eq_some_iff.1 hi).1
    rw [Nat.add_assoc, h2 _ (by omega), rowsL_at row j i hi3 hj, hc]
    exact hi
theorem TailRow.form14 {w : World} {base : Nat} {e : TypeId} {size : Nat} {v : Value} {n : Nat} {xs : List Value} (h : TailRow w base e size v n xs) : ∃ ao cap, v = .slice ao n cap := by
  rcases h.2 with ⟨rfl, rfl⟩ | ⟨g, off, cap, cur, rfl, _⟩
  · exact ⟨none, 0, rfl⟩
  · exact ⟨_, cap, rfl⟩
theorem take14 {row : List R14} {j : Nat} {c : R14} (hj : j < row.length) (hc : row.getD j no14 = c) : row.take (j + 1) = row.take j ++ [c] := by
  rw [List.take_add_one, List.getElem?_eq_getElem hj]
  rw [List.getD_eq_getElem?_getD, List.getElem?_eq_getElem hj] at hc
  have hc2 : row[j] = c := hc
  rw [hc2]
  rfl

/-- What the calls answer. -/
def placeN (rs : List R14) (b p : Int) : Int := match rs.find? (fun r => r.bk == b && r.pg == p) with | some r => r.pl | none => -1
def atN (rs : List R14) (pl : Int) : Int × Int × Bool := match rs.find? (fun r => r.pl == pl) with | some r => (r.bk, r.pg, true) | none => (0, 0, false)
def worthN (rs : List R14) (b : Int) : Nat := (rs.filter fun r => r.bk == b).length
def clearN (rs : List R14) (pl : Int) : List R14 := rs.filter fun r => r.pl != pl

theorem Try.sizeRow14 : (Try.prog.info? 72).map (·.size) = some 3 := by kernel_rfl
theorem Try.infoRow14 : (Try.prog.info? 72).map (fun i => (i.zero, i.size, i.bytes)) = some (some (.agg #[.int .i64 0, .int .i64 0, .int .i64 0]), 3, 24) := by kernel_rfl
section
variable {ops : Array Oper} {rest : List Oper} {o : Oper} {a : Act} {w : World} {Q : Exit → Act → World → Prop}
theorem row14_load (hwt : Region.wanted o (yielded ops a.tmps) = true) (x : Operand) (ho : o.op = .load 72 x) {b off : Nat} (hx : a.eval x = .pointer (some ⟨b, off, none⟩)) {c : R14} (hr : w.rangeAt b off (r14C c).toList)
    (h : wpList Try.prog ops Q rest (a.put o.dst (.agg (r14C c))) w) : wpList Try.prog ops Q (o :: rest) a w :=
  wpList_want hwt fun K hK => wp_load_mid _ x ho b off hx _ _ hr Try.underlying72 rfl (by rw [Try.sizeRow14]; rfl) (hK _ _ (by simpa using h))
theorem row14_lit (hwt : Region.wanted o (yielded ops a.tmps) = true) (x : Operand) (ho : o.op = .load 72 x) {b off : Nat} (hx : a.eval x = .pointer (some ⟨b, off, none⟩)) {c : R14} (hr : w.rangeAt b off (r14C c).toList)
    (h : wpList Try.prog ops Q rest (a.put o.dst (.agg #[.int .i64 c.pl, .int .i64 c.bk, .int .i64 c.pg])) w) : wpList Try.prog ops Q (o :: rest) a w := row14_load hwt x ho hx hr h
theorem row14_store (x y : Operand) (ho : o.op = .store 72 x y) {g : Nat} (hx : a.eval x = .pointer (some ⟨g, 0, none⟩)) {c : R14} (hy : a.eval y = .agg (r14C c)) {old : Array Value} (hg : Blk w g 72 old) (hold : old.size = 3) (hwt : Region.wanted o (yielded ops a.tmps) = true)
    (h : ∀ w', Blk w' g 72 (r14C c) → w.grownBy w' (some g) → w'.heap.size = w.heap.size → wpList Try.prog ops Q rest (a.put o.dst undef) w') : wpList Try.prog ops Q (o :: rest) a w :=
  wpList_store_part hwt _ x y ho g 0 3 _ hx hy _ old _ hg rfl Try.sizeRow14 (by omega) (by simp [r14C, Value.oneCell']) (by
    have h1 : (r14C c).toList.length = 3 := rfl
    rw [h1, List.drop_of_length_le (by simp; omega)]
    simp) h
end
theorem r14_new (w : World) (c : R14) (T : TypeId) : ∀ j u, (r14C c).toList[j]? = some u → (w.alloc (.cells #[.int .i64 c.pl, .int .i64 c.bk, .int .i64 c.pg] T)).cell? ((⟨w.heap.size, 0, none⟩ : Addr).add j) = some u := by
  intro j u hj
  match j, hj with
  | 0, hj => simp [r14C] at hj; subst hj; simp [Addr.add]
  | 1, hj => simp [r14C] at hj; subst hj; simp [Addr.add]
  | 2, hj => simp [r14C] at hj; subst hj; simp [Addr.add]
  | j + 3, hj => simp [r14C] at hj

theorem drew14 {w w' : World} (h : w.grownBy w' none) (n : Nat) : w.grownBy (w'.drewN n) none := ⟨h.os, h.tape, h.output, h.size, h.block⟩
theorem ret_int14 {a b : Int} (h : a = b) : Ending.returned (.int .i64 a) = .returned (.int .i64 b) := by rw [h]
theorem Blk.range14 {w : World} {g : Nat} {t : TypeId} {cs : Array Value} (h : Blk w g t cs) (off n : Nat) (_hn : (cs.extract off (off + n)).size = n) : w.rangeAt g off (cs.extract off (off + n)).toList := World.rangeAt_of_block h off n
/-- A table at q: blocks, pages, rows. -/
structure Tab14 (w : World) (q : Nat) (B P : Int) (rs : List R14) (v : Value) : Prop where
  blk : Blk w q 53 #[.int .i64 B, .int .i64 P, v]
  row : TailRow w (q + 1) 72 3 v rs.length (rowsL rs)
theorem g14_trans {w w1 w2 : World} (h : w.grownBy w1 none) (h2 : w1.grownBy w2 none) : w.grownBy w2 none :=
  ⟨h2.os.trans h.os, h2.tape.trans h.tape, h2.output.trans h.output, Nat.le_trans h.size h2.size, fun k hk hne => (h2.block k (Nat.lt_of_lt_of_le hk h.size) hne).trans (h.block k hk hne)⟩
theorem g14_new {w w1 w2 : World} {g : Nat} (h : w.grownBy w1 none) (h2 : w1.grownBy w2 (some g)) (hg : w.heap.size ≤ g) : w.grownBy w2 none :=
  ⟨h2.os.trans h.os, h2.tape.trans h.tape, h2.output.trans h.output, Nat.le_trans h.size h2.size, fun k hk hne => (h2.block k (Nat.lt_of_lt_of_le hk h.size) (fun e => by injection e with e; omega)).trans (h.block k hk hne)⟩
theorem Tab14.next {w w' : World} {q : Nat} {B P : Int} {rs : List R14} {v : Value} (h : Tab14 w q B P rs v) (hE : w.grownBy w' none) : Tab14 w' q B P rs v := ⟨h.blk.ext hE, h.row.kept hE (by simp)⟩

set_option maxHeartbeats 800000 in
theorem place14_any {w : World} {q : Nat} {B P : Int} {rs : List R14} {v : Value} (h : Tab14 w q B P rs v) (b p : Int) (hl : rs.length ≤ 9223372036854775807) :
    Calls Try.prog 29 #[.pointer (some ⟨q, 0, none⟩), .int .i64 b, .int .i64 p] w fun e w' => e = .returned (.int .i64 (placeN rs b p)) ∧ w.grownBy w' none := by
  obtain ⟨so, sc, hv⟩ := h.row.form14
  obtain ⟨n, hn⟩ : ∃ n, rs.length = n := ⟨_, rfl⟩
  rw [hn] at hv hl
  subst hv
  obtain ⟨r, hr⟩ : ∃ r, placeN rs b p = r := ⟨_, rfl⟩
  rw [hr]
  have c2 := (h.blk.cell 2).trans (show (#[.int .i64 B, .int .i64 P, .slice so n sc] : Array Value)[2]? = some (.slice so n sc) from rfl)
  have HH := Lib.hid (And.intro h (And.intro hn hr))
  clear h hn hr
  go_enter Try.func29, Try.ntmps29
  go_wp2
  go_loopw [14] (fun i wr => ∃ k : Nat, k ≤ n ∧ i = .int .i64 k ∧ w.grownBy wr none ∧ placeN rs b p = placeN (rs.drop k) b p) (fun i _ => n - (intOf i).toNat)
  case atStart => exact ⟨0, by omega, rfl, ⟨rfl, rfl, rfl, Nat.le_refl _, fun _ _ _ => rfl⟩, rfl⟩
  case round =>
    obtain ⟨k, hk, rfl, hE, hrest⟩ := hrel
    obtain ⟨wo, rfl⟩ : ∃ wo : World, wo = wr := ⟨_, rfl⟩
    have HE := Lib.hid hE
    have HRS := Lib.hid hrest
    clear hE hrest
    by_cases hlt : k < n
    · obtain ⟨c, hc⟩ : ∃ c, rs.getD k no14 = c := ⟨_, rfl⟩
      obtain ⟨g, off, rfl, hrg⟩ := row14_at (HH.out.1.next HE.out).row (by rw [HH.out.2.1]; exact hlt) hc
      have hBn := Blk.new wo 72 #[.int .i64 0, .int .i64 0, .int .i64 0]
      have hcons : rs.drop k = c :: rs.drop (k + 1) := by
        have hk2 : k < rs.length := by rw [HH.out.2.1]; exact hlt
        rw [List.drop_eq_getElem_cons hk2]
        rw [List.getD_eq_getElem?_getD, List.getElem?_eq_getElem hk2] at hc
        have hc2 : rs[k] = c := hc
        rw [hc2]
      have HC := Lib.hid hcons
      clear hc hcons
      obtain ⟨x0, hx0⟩ : ∃ z, c.bk = z := ⟨_, rfl⟩
      obtain ⟨x1, hx1⟩ : ∃ z, c.pg = z := ⟨_, rfl⟩
      obtain ⟨x2, hx2⟩ : ∃ z, c.pl = z := ⟨_, rfl⟩
      have HX := Lib.hid (And.intro hx0 (And.intro hx1 hx2))
      clear hx0 hx1 hx2
      go_upto_region 4 with (first
        | (refine row14_load rfl _ rfl rfl hrg ?_)
        | (refine row14_store _ _ rfl rfl rfl hBn rfl rfl ?_; intro w2 hb2 hg2 hs2; have HE2 := Lib.hid (g14_trans HE.out (g14_new (World.grownBy_alloc wo _ none) hg2 (Nat.le_refl _))); have d0 := (hb2.cell 0).trans (show (r14C c)[0]? = some (.int .i64 x2) by rw [← HX.out.2.2]; rfl); have d1 := (hb2.cell 1).trans (show (r14C c)[1]? = some (.int .i64 x0) by rw [← HX.out.1]; rfl); have d2 := (hb2.cell 2).trans (show (r14C c)[2]? = some (.int .i64 x1) by rw [← HX.out.2.1]; rfl); clear hBn hg2 hs2 hb2 hrg))
      by_cases h1 : x0 = b
      · have b1 : (x0 == b) = true := by simpa using h1
        by_cases h2 : x1 = p
        · have b2 : (x1 == p) = true := by simpa using h2
          have HB := Lib.hid (And.intro h1 h2)
          clear h1 h2
          go_wp2
          go_ret
          refine ⟨ret_int14 (a := x2) ?_, HE2.out⟩
          rw [← HH.out.2.2, HRS.out, HC.out]
          unfold placeN
          rw [List.find?_cons_of_pos (by rw [HX.out.1, HX.out.2.1, HB.out.1, HB.out.2]; simp)]
          exact HX.out.2.2.symm
        · have b2 : (x1 == p) = false := by simpa using h2
          have HB := Lib.hid h2
          clear h1 h2
          go_wp2
          go_roundw
          case rel => exact ⟨k + 1, by omega, by go_num, HE2.out, by rw [HRS.out, HC.out]; unfold placeN; rw [List.find?_cons_of_neg (by rw [HX.out.2.1]; simp [b2])]⟩
          case measure => simp [intOf]; omega
      · have b1 : (x0 == b) = false := by simpa using h1
        clear h1
        go_wp2
        go_roundw
        case rel => exact ⟨k + 1, by omega, by go_num, HE2.out, by rw [HRS.out, HC.out]; unfold placeN; rw [List.find?_cons_of_neg (by rw [HX.out.1]; simp [b1])]⟩
        case measure => simp [intOf]; omega
    · obtain rfl : k = n := by omega
      go_wp2
      go_ret
      refine ⟨ret_int14 (a := -1) ?_, HE.out⟩
      rw [← HH.out.2.2, HRS.out, List.drop_of_length_le (by rw [HH.out.2.1]; exact Nat.le_refl _)]
      rfl

theorem drop14 {rs : List R14} {k : Nat} {c : R14} (hk2 : k < rs.length) (hc : rs.getD k no14 = c) : rs.drop k = c :: rs.drop (k + 1) := by
  rw [List.drop_eq_getElem_cons hk2]
  rw [List.getD_eq_getElem?_getD, List.getElem?_eq_getElem hk2] at hc
  have hc2 : rs[k] = c := hc
  rw [hc2]

set_option maxHeartbeats 800000 in
theorem worth14_any {w : World} {q : Nat} {B P : Int} {rs : List R14} {v : Value} (h : Tab14 w q B P rs v) (b : Int) (hl : rs.length ≤ 1000000) :
    Calls Try.prog 30 #[.pointer (some ⟨q, 0, none⟩), .int .i64 b] w fun e w' => e = .returned (.int .i64 (worthN rs b : Nat)) ∧ w.grownBy w' none := by
  obtain ⟨so, sc, hv⟩ := h.row.form14
  obtain ⟨n, hn⟩ : ∃ n, rs.length = n := ⟨_, rfl⟩
  rw [hn] at hv hl
  subst hv
  obtain ⟨r, hr⟩ : ∃ r, worthN rs b = r := ⟨_, rfl⟩
  rw [hr]
  have c2 := (h.blk.cell 2).trans (show (#[.int .i64 B, .int .i64 P, .slice so n sc] : Array Value)[2]? = some (.slice so n sc) from rfl)
  have HH := Lib.hid (And.intro h (And.intro hn hr))
  clear h hn hr
  go_enter Try.func30, Try.ntmps30
  go_wp2
  go_loopw [5, 13] (fun s i wr => ∃ k m : Nat, k ≤ n ∧ m ≤ k ∧ s = .int .i64 m ∧ i = .int .i64 k ∧ w.grownBy wr none ∧ worthN rs b = m + worthN (rs.drop k) b) (fun _ i _ => n - (intOf i).toNat)
  case atStart => exact ⟨0, 0, by omega, by omega, rfl, rfl, ⟨rfl, rfl, rfl, Nat.le_refl _, fun _ _ _ => rfl⟩, by simp⟩
  case round =>
    obtain ⟨k, m, hk, hmk, rfl, rfl, hE, hrest⟩ := hrel
    obtain ⟨wo, rfl⟩ : ∃ wo : World, wo = wr := ⟨_, rfl⟩
    have HE := Lib.hid hE
    have HRS := Lib.hid hrest
    clear hE hrest
    by_cases hlt : k < n
    · obtain ⟨c, hc⟩ : ∃ c, rs.getD k no14 = c := ⟨_, rfl⟩
      obtain ⟨g, off, rfl, hrg⟩ := row14_at (HH.out.1.next HE.out).row (by rw [HH.out.2.1]; exact hlt) hc
      have hBn := Blk.new wo 72 #[.int .i64 0, .int .i64 0, .int .i64 0]
      have HC := Lib.hid (drop14 (by rw [HH.out.2.1]; exact hlt) hc)
      clear hc
      obtain ⟨x0, hx0⟩ : ∃ z, c.bk = z := ⟨_, rfl⟩
      obtain ⟨x1, hx1⟩ : ∃ z, c.pg = z := ⟨_, rfl⟩
      obtain ⟨x2, hx2⟩ : ∃ z, c.pl = z := ⟨_, rfl⟩
      have HX := Lib.hid (And.intro hx0 (And.intro hx1 hx2))
      clear hx0 hx1 hx2
      go_upto_region 5 with (first
        | (refine row14_load rfl _ rfl rfl hrg ?_)
        | (refine row14_store _ _ rfl rfl rfl hBn rfl rfl ?_; intro w2 hb2 hg2 hs2; have HE2 := Lib.hid (g14_trans HE.out (g14_new (World.grownBy_alloc wo _ none) hg2 (Nat.le_refl _))); have d0 := (hb2.cell 0).trans (show (r14C c)[0]? = some (.int .i64 x2) by rw [← HX.out.2.2]; rfl); have d1 := (hb2.cell 1).trans (show (r14C c)[1]? = some (.int .i64 x0) by rw [← HX.out.1]; rfl); have d2 := (hb2.cell 2).trans (show (r14C c)[2]? = some (.int .i64 x1) by rw [← HX.out.2.1]; rfl); clear hBn hg2 hs2 hb2 hrg))
      by_cases h1 : x0 = b
      · have b1 : (x0 == b) = true := by simpa using h1
        have HB := Lib.hid h1
        clear h1
        go_wp2
        go_roundw
        case rel => exact ⟨k + 1, m + 1, by omega, by omega, by go_num, by go_num, HE2.out, by rw [HRS.out, HC.out]; unfold worthN; rw [List.filter_cons_of_pos (by rw [HX.out.1, HB.out]; simp), List.length_cons]; omega⟩
        case measure => simp [intOf]; omega
      · have b1 : (x0 == b) = false := by simpa using h1
        clear h1
        go_wp2
        go_roundw
        case rel => exact ⟨k + 1, m, by omega, by omega, rfl, by go_num, HE2.out, by rw [HRS.out, HC.out]; unfold worthN; rw [List.filter_cons_of_neg (by rw [HX.out.1]; simp [b1])]⟩
        case measure => simp [intOf]; omega
    · obtain rfl : k = n := by omega
      go_wp2
      go_ret
      refine ⟨ret_int14 (a := (m : Int)) ?_, HE.out⟩
      rw [← HH.out.2.2, HRS.out, List.drop_of_length_le (by rw [HH.out.2.1]; exact Nat.le_refl _)]
      simp [worthN]

set_option maxHeartbeats 800000 in
theorem at14_any {w : World} {q : Nat} {B P : Int} {rs : List R14} {v : Value} (h : Tab14 w q B P rs v) (pl : Int) (hl : rs.length ≤ 1000000) :
    Calls Try.prog 28 #[.pointer (some ⟨q, 0, none⟩), .int .i64 pl] w fun e w' => e = .returned (.tuple #[.int .i64 (atN rs pl).1, .int .i64 (atN rs pl).2.1, .bool (atN rs pl).2.2]) ∧ w.grownBy w' none := by
  obtain ⟨so, sc, hv⟩ := h.row.form14
  obtain ⟨n, hn⟩ : ∃ n, rs.length = n := ⟨_, rfl⟩
  rw [hn] at hv hl
  subst hv
  obtain ⟨⟨ra, rb, rc⟩, hr⟩ : ∃ r, atN rs pl = r := ⟨_, rfl⟩
  rw [hr]
  have c2 := (h.blk.cell 2).trans (show (#[.int .i64 B, .int .i64 P, .slice so n sc] : Array Value)[2]? = some (.slice so n sc) from rfl)
  have HH := Lib.hid (And.intro h (And.intro hn hr))
  clear h hn hr
  go_enter Try.func28, Try.ntmps28
  go_wp2
  go_loopw [14] (fun i wr => ∃ k : Nat, k ≤ n ∧ i = .int .i64 k ∧ w.grownBy wr none ∧ atN rs pl = atN (rs.drop k) pl) (fun i _ => n - (intOf i).toNat)
  case atStart => exact ⟨0, by omega, rfl, ⟨rfl, rfl, rfl, Nat.le_refl _, fun _ _ _ => rfl⟩, rfl⟩
  case round =>
    obtain ⟨k, hk, rfl, hE, hrest⟩ := hrel
    obtain ⟨wo, rfl⟩ : ∃ wo : World, wo = wr := ⟨_, rfl⟩
    have HE := Lib.hid hE
    have HRS := Lib.hid hrest
    clear hE hrest
    by_cases hlt : k < n
    · obtain ⟨c, hc⟩ : ∃ c, rs.getD k no14 = c := ⟨_, rfl⟩
      obtain ⟨g, off, rfl, hrg⟩ := row14_at (HH.out.1.next HE.out).row (by rw [HH.out.2.1]; exact hlt) hc
      have hBn := Blk.new wo 72 #[.int .i64 0, .int .i64 0, .int .i64 0]
      have HC := Lib.hid (drop14 (by rw [HH.out.2.1]; exact hlt) hc)
      clear hc
      obtain ⟨x0, hx0⟩ : ∃ z, c.bk = z := ⟨_, rfl⟩
      obtain ⟨x1, hx1⟩ : ∃ z, c.pg = z := ⟨_, rfl⟩
      obtain ⟨x2, hx2⟩ : ∃ z, c.pl = z := ⟨_, rfl⟩
      have HX := Lib.hid (And.intro hx0 (And.intro hx1 hx2))
      clear hx0 hx1 hx2
      go_upto_region 4 with (first
        | (refine row14_load rfl _ rfl rfl hrg ?_)
        | (refine row14_store _ _ rfl rfl rfl hBn rfl rfl ?_; intro w2 hb2 hg2 hs2; have HE2 := Lib.hid (g14_trans HE.out (g14_new (World.grownBy_alloc wo _ none) hg2 (Nat.le_refl _))); have d0 := (hb2.cell 0).trans (show (r14C c)[0]? = some (.int .i64 x2) by rw [← HX.out.2.2]; rfl); have d1 := (hb2.cell 1).trans (show (r14C c)[1]? = some (.int .i64 x0) by rw [← HX.out.1]; rfl); have d2 := (hb2.cell 2).trans (show (r14C c)[2]? = some (.int .i64 x1) by rw [← HX.out.2.1]; rfl); clear hBn hg2 hs2 hb2 hrg))
      by_cases h1 : x2 = pl
      · have b1 : (x2 == pl) = true := by simpa using h1
        have HB := Lib.hid h1
        clear h1
        go_upto_region 5 with fail
        go_quiet (fail)
        rename_i nq
        go_wp2
        refine bodyPost_ret (v := .tuple #[.int .i64 x0, .int .i64 x1, .bool true]) (by simp [results, Try.results28, go_sem]) rfl ⟨?_, drew14 HE2.out nq⟩
        have hh := HH.out.2.2
        rw [HRS.out, HC.out] at hh
        unfold atN at hh
        rw [List.find?_cons_of_pos (by rw [HX.out.2.2, HB.out]; simp)] at hh
        simp only [Prod.mk.injEq] at hh
        obtain ⟨rfl, rfl, rfl⟩ := hh
        rw [HX.out.1, HX.out.2.1]
      · have b1 : (x2 == pl) = false := by simpa using h1
        clear h1
        go_wp2
        go_roundw
        case rel => exact ⟨k + 1, by omega, by go_num, HE2.out, by rw [HRS.out, HC.out]; unfold atN; rw [List.find?_cons_of_neg (by rw [HX.out.2.2]; simp [b1])]⟩
        case measure => simp [intOf]; omega
    · obtain rfl : k = n := by omega
      go_wp2
      refine bodyPost_ret (v := .tuple #[.int .i64 0, .int .i64 0, .bool false]) (by simp [results, Try.results28, go_sem]) rfl ⟨?_, HE.out⟩
      have hh := HH.out.2.2
      rw [HRS.out, List.drop_of_length_le (by rw [HH.out.2.1]; exact Nat.le_refl _)] at hh
      unfold atN at hh
      simp only [List.find?_nil, Prod.mk.injEq] at hh
      obtain ⟨rfl, rfl, rfl⟩ := hh
      rfl

end Go.Proofs.Ytdnjpoioojahkaa
