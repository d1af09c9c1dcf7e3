/-
  Layer 14: of no table; the acts that came in; the law's fixed; TableMoves.
-/
import Derived.Test.YtdnjpoioojahkaaOF
import Derived.Test.YtdnjpoioojahkaaRec
import Derived.Below
namespace Go.Proofs.Ytdnjpoioojahkaa
set_option linter.unusedVariables false
set_option linter.unusedSimpArgs false
set_option maxRecDepth 100000
open Go.RowKit

theorem place_none14 (b p : Int) (w : World) : Calls Try.prog 22 #[.pointer none, .int .i64 b, .int .i64 p] w fun e w' => e = .returned (.int .i64 (-1)) ∧ w = w' := by
  have HAS := has_none b p w
  go_enter Try.func22, Try.ntmps22
  go_wp2_with (go_at_call 34; refine HAS.mono ?_; rintro e w1 ⟨rfl, rfl⟩)
  go_ret
  exact ⟨rfl, rfl⟩
theorem worth_none14 (b : Int) (w : World) : Calls Try.prog 23 #[.pointer none, .int .i64 b] w fun e w' => e = .returned (.int .i64 0) ∧ w = w' := by
  have HAS := has_none b 0 w
  go_enter Try.func23, Try.ntmps23
  go_wp2_with (go_at_call 34; refine HAS.mono ?_; rintro e w1 ⟨rfl, rfl⟩)
  go_ret
  exact ⟨rfl, rfl⟩
theorem count_none14 (w : World) : Calls Try.prog 24 #[.pointer none] w fun e w' => e = .returned (.int .i64 0) ∧ w = w' := by
  go_enter Try.func24, Try.ntmps24
  go_wp2
  go_ret
  exact ⟨rfl, rfl⟩

/-- An act. -/
structure Act14 where
  k : Int
  pl : Int
  bk : Int
  pg : Int
def noAct : Act14 := ⟨0, 0, 0, 0⟩
def act14C (x : Act14) : Array Value := #[.int .u8 x.k, .int .i64 x.pl, .int .i64 x.bk, .int .i64 x.pg]
def in64 (n : Int) : Prop := -9223372036854775808 ≤ n ∧ n ≤ 9223372036854775807
/-- The acts that came in. -/
def Acts14 (w : World) (a : Option Addr) (len : Nat) (X : Nat → Act14) : Prop :=
  len ≤ 9223372036854775807 ∧ ∀ i, i < len → (∃ b off, a = some ⟨b, off, none⟩ ∧ w.rangeAt b (off + i * 4) (act14C (X i)).toList ∧ b < w.heap.size) ∧ (0 ≤ (X i).k ∧ (X i).k ≤ 255) ∧ in64 (X i).bk
theorem acts14_of {w : World} {a : Option Addr} {len cap : Nat} (h : IsRecs [.inl .u8, .inl .i64, .inl .i64, .inl .i64] w a len cap) (hs : ∀ x, a = some x → x.spot = none ∧ x.block < w.heap.size) : ∃ X, Acts14 w a len X := by
  rcases h with ⟨rfl, rfl, rfl⟩ | ⟨x, rfl, hl, hm, hz⟩
  · exact ⟨fun _ => noAct, by omega, fun i hi => by omega⟩
  · obtain ⟨hsp, hblk⟩ := hs x rfl
    obtain ⟨b, off, sp⟩ := x
    simp only at hsp hblk
    subst hsp
    unfold maxLen at hm
    have key : ∀ i, ∃ q : Act14, i < len → w.rangeAt b (off + i * 4) (act14C q).toList ∧ (0 ≤ q.k ∧ q.k ≤ 255) ∧ in64 q.bk := by
      intro i
      by_cases hi : i < len
      · obtain ⟨v0, g0, k, rfl, hk⟩ := hz i hi 0 _ rfl
        obtain ⟨v1, g1, pl, rfl, _⟩ := hz i hi 1 _ rfl
        obtain ⟨v2, g2, bk, rfl, hb⟩ := hz i hi 2 _ rfl
        obtain ⟨v3, g3, pg, rfl, _⟩ := hz i hi 3 _ rfl
        refine ⟨⟨k, pl, bk, pg⟩, fun _ => ⟨fun j u hj => ?_, ?_, ?_⟩⟩
        · rw [addr_add] at g0 g1 g2 g3
          match j, hj with
          | 0, hj => simp [act14C] at hj; subst hj; simpa [Nat.add_assoc] using g0
          | 1, hj => simp [act14C] at hj; subst hj; simpa [Nat.add_assoc] using g1
          | 2, hj => simp [act14C] at hj; subst hj; simpa [Nat.add_assoc] using g2
          | 3, hj => simp [act14C] at hj; subst hj; simpa [Nat.add_assoc] using g3
          | j + 4, hj => simp [act14C] at hj
        · simpa [Lit.wf, IntKind.min, IntKind.max, IntKind.bits, IntKind.signed] using hk
        · simpa [in64, Lit.wf, IntKind.min, IntKind.max, IntKind.bits, IntKind.signed] using hb
      · exact ⟨noAct, fun h => absurd h hi⟩
    refine ⟨fun i => Classical.choose (key i), by omega, fun i hi => ?_⟩
    obtain ⟨h1, h2, h3⟩ := Classical.choose_spec (key i) hi
    exact ⟨⟨b, off, rfl, h1, hblk⟩, h2, h3⟩

theorem Try.sizeAct14 : (Try.prog.info? 55).map (·.size) = some 4 := by kernel_rfl
section
variable {ops : Array Oper} {rest : List Oper} {o : Oper} {a : Act} {w : World} {Q : Exit → Act → World → Prop}
theorem act14_load (hwt : Region.wanted o (yielded ops a.tmps) = true) (x : Operand) (ho : o.op = .load 55 x) {b off : Nat} (hx : a.eval x = .pointer (some ⟨b, off, none⟩)) {c : Act14} (hr : w.rangeAt b off (act14C c).toList)
    (h : wpList Try.prog ops Q rest (a.put o.dst (.agg (act14C c))) w) : wpList Try.prog ops Q (o :: rest) a w :=
  wpList_want hwt fun K hK => wp_load_mid _ x ho b off hx _ _ hr Try.underlying55 rfl (by rw [Try.sizeAct14]; rfl) (hK _ _ (by simpa using h))
theorem act14_store (x y : Operand) (ho : o.op = .store 55 x y) {g : Nat} (hx : a.eval x = .pointer (some ⟨g, 0, none⟩)) {c : Act14} (hy : a.eval y = .agg (act14C c)) {old : Array Value} (hg : Blk w g 55 old) (hold : old.size = 4) (hwt : Region.wanted o (yielded ops a.tmps) = true)
    (h : ∀ w', Blk w' g 55 (act14C c) → w.grownBy w' (some g) → w'.heap.size = w.heap.size → wpList Try.prog ops Q rest (a.put o.dst undef) w') : wpList Try.prog ops Q (o :: rest) a w :=
  wpList_store_part hwt _ x y ho g 0 4 _ hx hy _ old _ hg rfl Try.sizeAct14 (by omega) (by simp [act14C, Value.oneCell']) (by
    have h1 : (act14C c).toList.length = 4 := rfl
    rw [h1, List.drop_of_length_le (by simp; omega)]
    simp) h
end

theorem g14_past {w w1 w2 : World} {b : Nat} (h : w.grownBy w1 none) (h2 : w1.grownBy w2 (some b)) (hb : w.heap.size ≤ b) : w.grownBy w2 none := grown_past13 h h2 hb
def Fix14 : Prop := ∀ w : World, Calls Try.prog 17 #[] w fun e w' => e = .returned (.bool true) ∧ w.grownBy w' none
set_option maxHeartbeats 1600000 in
theorem fix14_any : Fix14 := by
  intro w
  have NEW : Calls Try.prog 18 #[.int .i64 2, .int .i64 4] w fun e w' => ∃ t, e = .returned (.pointer (some ⟨t, 0, none⟩)) ∧ TabA w' t 2 4 [] ∧ w.heap.size ≤ t ∧ w.grownBy w' none := new14_ok 2 4 w (by unfold newOk; omega)
  have NO := fun wx => new14_no 0 4 wx (by unfold newOk; omega)
  have S1 := fun wx t (h : TabA wx t 2 4 []) => tabSet h 3 0 1 (by decide)
  have S2 := fun wx t (h : TabA wx t 2 4 [⟨3, 0, 1⟩]) => tabSet h 4 0 1 (by decide)
  have A1 := fun wx t (h : TabA wx t 2 4 [⟨3, 0, 1⟩]) => tabAt h 3
  have W1 := fun wx t (h : TabA wx t 2 4 [⟨3, 0, 1⟩]) => tabWorth h 0
  have P1 := fun wx t (h : TabA wx t 2 4 [⟨3, 0, 1⟩]) => tabPlace h 0 1
  have C1 := fun wx t (h : TabA wx t 2 4 [⟨3, 0, 1⟩]) => tabCount h (by decide)
  obtain ⟨z1, hz1⟩ : ∃ z : Int, z = 0 := ⟨_, rfl⟩
  obtain ⟨z2, hz2⟩ : ∃ z : Int, z = 7 := ⟨_, rfl⟩
  obtain ⟨ab, hab⟩ : ∃ z : Int, z = 0 := ⟨_, rfl⟩
  obtain ⟨ap, hap⟩ : ∃ z : Int, z = 1 := ⟨_, rfl⟩
  obtain ⟨aw, haw⟩ : ∃ z : Bool, z = true := ⟨_, rfl⟩
  obtain ⟨w0, hw0⟩ : ∃ z : Int, z = 1 := ⟨_, rfl⟩
  obtain ⟨p0, hp0⟩ : ∃ z : Int, z = 3 := ⟨_, rfl⟩
  obtain ⟨n0, hn0⟩ : ∃ z : Int, z = 1 := ⟨_, rfl⟩
  simp only [show setE ((2 : Nat) : Int) ((4 : Nat) : Int) [] 3 0 1 = z1 by rw [hz1]; decide, show setR ((2 : Nat) : Int) ((4 : Nat) : Int) [] 3 0 1 = [⟨3, 0, 1⟩] by rfl] at S1
  simp only [show setE ((2 : Nat) : Int) ((4 : Nat) : Int) [⟨3, 0, 1⟩] 4 0 1 = z2 by rw [hz2]; decide, show setR ((2 : Nat) : Int) ((4 : Nat) : Int) [⟨3, 0, 1⟩] 4 0 1 = [⟨3, 0, 1⟩] by rfl] at S2
  simp only [show atN [⟨3, 0, 1⟩] 3 = (ab, ap, aw) by rw [hab, hap, haw]; decide] at A1
  simp only [show (worthN [⟨3, 0, 1⟩] 0 : Int) = w0 by rw [hw0]; decide] at W1
  simp only [show placeN [⟨3, 0, 1⟩] 0 1 = p0 by rw [hp0]; decide] at P1
  simp only [show (([⟨3, 0, 1⟩] : List R14).length : Int) = n0 by rw [hn0]; decide] at C1
  have b1 : (z1 == 0) = true := by rw [hz1]; rfl
  have b2 : (z2 == 7) = true := by rw [hz2]; rfl
  have b3 : (ab == 0) = true := by rw [hab]; rfl
  have b4 : (ap == 1) = true := by rw [hap]; rfl
  have b5 : (w0 == 1) = true := by rw [hw0]; rfl
  have b6 : (p0 == 3) = true := by rw [hp0]; rfl
  have b7 : (n0 == 1) = true := by rw [hn0]; rfl
  clear hz1 hz2 hab hap hw0 hp0 hn0
  go_enter Try.func17, Try.ntmps17
  subst haw
  go_wp2_with (first
    | (go_at_call 18; refine NEW.mono ?_; rintro e w1 ⟨t, rfl, hA1, ht, hE1⟩; have HT := Lib.hid ht; have HE1 := Lib.hid hE1; clear ht hE1 NEW)
    | (go_at_call 18; refine (NO _).mono ?_; rintro e w8 ⟨rfl, rfl⟩)
    | (go_at_call 20; refine (S2 _ _ hA2).mono ?_; rintro e w3 ⟨rfl, hA3, hg3⟩; have HE3 := Lib.hid (g14_past HE2.out hg3 HT.out); clear hA2 hg3)
    | (go_at_call 20; refine (S1 _ _ hA1).mono ?_; rintro e w2 ⟨rfl, hA2, hg2⟩; have HE2 := Lib.hid (g14_past HE1.out hg2 HT.out); clear hA1 hg2)
    | (go_at_call 19; refine (A1 _ _ hA3).mono ?_; rintro e w4 ⟨rfl, hE4⟩; have HA4 := Lib.hid (hA3.ext hE4); have HE4 := Lib.hid (g14_trans HE3.out hE4); clear hA3 hE4)
    | (go_at_call 23; refine (W1 _ _ HA4.out).mono ?_; rintro e w5 ⟨rfl, rfl⟩)
    | (go_at_call 22; refine (P1 _ _ HA4.out).mono ?_; rintro e w6 ⟨rfl, rfl⟩)
    | (go_at_call 24; refine (C1 _ _ HA4.out).mono ?_; rintro e w7 ⟨rfl, rfl⟩))
  go_ret
  exact ⟨rfl, HE4.out⟩

end Go.Proofs.Ytdnjpoioojahkaa
