/-
  Package power: the laws' walks: fixed, PowerLasts, PowerTells.
-/
import Derived.Test.YtdfcfjncflfppabPB
import Derived.Test.YtdfcfjncflfppabRec
namespace Go.Proofs.Ytdfcfjncflfppab
open Go.RowKit

def spE (x : Int) (g : Bool) : Int := if g then 12 else if x = 0 then 11 else 0
def spX (x : Int) (g : Bool) : Int := if g then x else if 0 < x then x - 1 else x
def spG (x : Int) (g : Bool) : Bool := g || x == 0
def spO (g : Bool) (o : Int) : Int := if g then o else o + 1

theorem spend_any (b : Nat) (x : Int) (g : Bool) (o : Int) (w : World) (h : PowAt w b x g o) (hx : -9223372036854775808 ≤ x) (hx' : x ≤ 9223372036854775807) (h0 : 0 ≤ o) (h1 : o < 1000000) :
    Calls Try.prog 7 #[.pointer (some ⟨b, 0, none⟩)] w (Turns b (spX x g) (spG x g) (spO g o) (.int .i64 (spE x g)) w) := by
  cases g
  · have := spend_there b x o w h hx hx' h0 h1
    simpa [spX, spG, spO, spE] using this
  · have := spend_gone b x o w h
    simpa [spX, spG, spO, spE] using this
theorem refSpend_any (b : Nat) (x : Int) (g : Bool) (o : Int) (w : World) (h : RefAt w b x g o) (hx : -9223372036854775808 ≤ x) (hx' : x ≤ 9223372036854775807) (h0 : 0 ≤ o) (h1 : o < 1000000) :
    Calls Try.prog 8 #[.pointer (some ⟨b, 0, none⟩)] w (TurnsR b (spX x g) (spG x g) (spO g o) (.int .i64 (spE x g)) w) := by
  cases g
  · have := refSpend_there b x o w h hx hx' h0 h1
    simpa [spX, spG, spO, spE] using this
  · have := refSpend_gone b x o w h
    simpa [spX, spG, spO, spE] using this

theorem gb_below {w w' : World} {b B : Nat} (h : w.grownBy w' (some b)) (hb : B ≤ b) (hB : B ≤ w.heap.size) : Below B w w' :=
  ⟨h.os, h.tape, h.output, h.size, fun k hk => h.block k (by omega) (by simp; omega)⟩
theorem gb_below0 {w w' : World} {B : Nat} (h : w.grownBy w' none) (hB : B ≤ w.heap.size) : Below B w w' := ⟨h.os, h.tape, h.output, h.size, fun k hk => h.block k (by omega) (by simp)⟩

def TrueB (w : World) : Ending → World → Prop := fun e w' => e = .returned (.bool true) ∧ Below w.heap.size w w'

theorem fixed6_any (w : World) : Calls Try.prog 5 #[] w (TrueB w) := by
  have N := fun v => new_is 1 v
  have S1 : ∀ b v, PowAt v b 1 false 0 → Calls Try.prog 7 #[.pointer (some ⟨b, 0, none⟩)] v (Turns b 0 false 1 (.int .i64 0) v) := fun b v h => spend_any b 1 false 0 v h (by omega) (by omega) (by omega) (by omega)
  have S2 : ∀ b v, PowAt v b 0 false 1 → Calls Try.prog 7 #[.pointer (some ⟨b, 0, none⟩)] v (Turns b 0 true 2 (.int .i64 11) v) := fun b v h => spend_any b 0 false 1 v h (by omega) (by omega) (by omega) (by omega)
  have S3 : ∀ b v, PowAt v b 0 true 2 → Calls Try.prog 7 #[.pointer (some ⟨b, 0, none⟩)] v (Turns b 0 true 2 (.int .i64 12) v) := fun b v h => spend_any b 0 true 2 v h (by omega) (by omega) (by omega) (by omega)
  go_enter Try.func5, Try.ntmps5
  go_wp2_with (first
    | (go_at_call 6; refine (N _).mono ?_; rintro e w1 ⟨rfl, hp0, hg0⟩)
    | (go_at_call 7; refine (S1 _ _ hp0).mono ?_; rintro e w2 ⟨rfl, hp1, hg1⟩)
    | (go_at_call 7; refine (S2 _ _ hp1).mono ?_; rintro e w3 ⟨rfl, hp2, hg2⟩)
    | (go_at_call 7; refine (S3 _ _ hp2).mono ?_; rintro e w4 ⟨rfl, hp3, hg3⟩)
    | (go_at_call 11; refine (gone_is _ _ _ _ _ hp3).mono ?_; rintro e w5 ⟨rfl, rfl⟩)
    | (go_at_call 12; refine (ops_is _ _ _ _ _ hp3).mono ?_; rintro e w5 ⟨rfl, rfl⟩))
  go_ret
  have z0 := hg0.size
  have z1 := hg1.size
  have z2 := hg2.size
  exact ⟨rfl, (((gb_below0 hg0 (Nat.le_refl _)).trans (gb_below hg1 (Nat.le_refl _) (by omega))).trans (gb_below hg2 (Nat.le_refl _) (by omega))).trans (gb_below hg3 (Nat.le_refl _) (by omega))⟩

set_option maxHeartbeats 400000 in
theorem powerLasts_any (n : Nat) (w : World) (hn : n ≤ 255) : Calls Try.prog 4 #[.int .u8 n] w (TrueB w) := by
  have S1 : ∀ (b k : Nat) v, k < n → PowAt v b ((n : Int) - k) false k → Calls Try.prog 7 #[.pointer (some ⟨b, 0, none⟩)] v (Turns b ((n : Int) - (k + 1 : Nat)) false ((k + 1 : Nat) : Int) (.int .i64 0) v) := fun b k v hk h => by
    have := spend_any b _ false k v h (by omega) (by omega) (by omega) (by omega)
    have e1 : spX ((n : Int) - k) false = (n : Int) - (k + 1 : Nat) := by simp only [spX]; rw [if_neg (by simp), if_pos (by omega)]; omega
    have e2 : spG ((n : Int) - k) false = false := by simp [spG]; omega
    have e3 : spE ((n : Int) - k) false = 0 := by simp only [spE]; rw [if_neg (by simp), if_neg (by omega)]
    rw [e1, e2, e3] at this
    simpa [spO] using this
  have S2 : ∀ (b : Nat) v, PowAt v b 0 false n → Calls Try.prog 7 #[.pointer (some ⟨b, 0, none⟩)] v (Turns b 0 true ((n : Int) + 1) (.int .i64 11) v) := fun b v h => spend_any b 0 false n v h (by omega) (by omega) (by omega) (by omega)
  have S3 : ∀ (b : Nat) v, PowAt v b 0 true ((n : Int) + 1) → Calls Try.prog 7 #[.pointer (some ⟨b, 0, none⟩)] v (Turns b 0 true ((n : Int) + 1) (.int .i64 12) v) := fun b v h => spend_any b 0 true _ v h (by omega) (by omega) (by omega) (by omega)
  go_enter Try.func4, Try.ntmps4
  go_wp2_with (first
    | (go_at_call 5; refine (fixed6_any _).mono ?_; rintro e w1 ⟨rfl, hb1⟩)
    | (go_at_call 6; refine (new_is _ _).mono ?_; rintro e w2 ⟨rfl, hp0, hg0⟩))
  have hb2 := hb1.trans (gb_below0 hg0 hb1.size)
  have hp2 : w.heap.size ≤ w1.heap.size := hb1.size
  clear hb1 hg0
  go_loopw [10] (fun i wr => ∃ k : Nat, k ≤ n ∧ i = .int .u8 k ∧ PowAt wr w1.heap.size ((n : Int) - k) false k ∧ Below w.heap.size w wr) (fun i _ => n - (intOf i).toNat)
  case atStart => exact ⟨0, Nat.zero_le _, rfl, by simpa using hp0, hb2⟩
  case round =>
    clear hp0 hb2
    obtain ⟨k, hk, rfl, hpk, hbk⟩ := hrel
    by_cases hlt : k < n
    · go_wp2_with (go_at_call 7; refine (S1 _ k _ hlt hpk).mono ?_; rintro e w3 ⟨rfl, hp3, hg3⟩)
      go_roundw
      case rel => exact ⟨k + 1, by omega, by go_num, hp3, hbk.trans (gb_below hg3 hp2 hbk.size)⟩
      case measure => simp [intOf]; omega
    · have hkn : k = n := by omega
      subst hkn
      rw [Int.sub_self] at hpk
      go_wp2_with (first
        | (go_at_call 7; refine (S2 _ _ hpk).mono ?_; rintro e w3 ⟨rfl, hp3, hg3⟩)
        | (go_at_call 11; refine (gone_is _ _ _ _ _ hpk).mono ?_; rintro e w4 ⟨rfl, rfl⟩)
        | (go_at_call 7; refine (S3 _ _ hp3).mono ?_; rintro e w5 ⟨rfl, hp5, hg5⟩)
        | (go_at_call 11; refine (gone_is _ _ _ _ _ hp3).mono ?_; rintro e w4 ⟨rfl, rfl⟩)
        | (go_at_call 12; refine (ops_is _ _ _ _ _ hp5).mono ?_; rintro e w6 ⟨rfl, rfl⟩))
      go_ret
      have hb3 := hbk.trans (gb_below hg3 hp2 hbk.size)
      exact ⟨rfl, hb3.trans (gb_below hg5 hp2 hb3.size)⟩

/-- The acts of a row. -/
theorem acts_of {w : World} {a : Option Addr} {len cap : Nat} (h : IsRecs [.inl .u8, .inl .i64] w a len cap) (hs : ∀ x, a = some x → x.spot = none ∧ x.block < w.heap.size) :
    ∃ ks ns : Nat → Int, ((a = none ∧ len = 0 ∧ cap = 0) ∨ ∃ b off, a = some ⟨b, off, none⟩ ∧ b < w.heap.size ∧ ∀ i, i < len → w.cell? ⟨b, off + i * 2, none⟩ = some (.int .u8 (ks i)) ∧ w.cell? ⟨b, off + i * 2 + 1, none⟩ = some (.int .i64 (ns i))) ∧
      (∀ i, i < len → (0 ≤ ks i ∧ ks i ≤ 255) ∧ -9223372036854775808 ≤ ns i ∧ ns i ≤ 9223372036854775807) ∧ len ≤ maxLen := by
  rcases h with ⟨rfl, rfl, rfl⟩ | ⟨x, rfl, h1, h2, h3⟩
  · exact ⟨fun _ => 0, fun _ => 0, .inl ⟨rfl, rfl, rfl⟩, fun i hi => by omega, Nat.zero_le _⟩
  · obtain ⟨hsp, hb⟩ := hs x rfl
    obtain ⟨b, off, sp⟩ := x
    simp only at hsp hb
    subst hsp
    refine ⟨fun i => intOf ((w.cell? ⟨b, off + i * 2, none⟩).getD undef), fun i => intOf ((w.cell? ⟨b, off + i * 2 + 1, none⟩).getD undef), .inr ⟨b, off, rfl, hb, fun i hi => ?_⟩, fun i hi => ?_, by omega⟩
    · obtain ⟨v, hc, n, rfl, _⟩ := h3 i hi 0 _ rfl
      obtain ⟨u, hd, m, rfl, _⟩ := h3 i hi 1 _ rfl
      rw [addr_add] at hc hd
      simp only [List.length_cons, List.length_nil, Nat.add_zero, Nat.zero_add, Nat.reduceAdd, ← Nat.add_assoc] at hc hd
      constructor
      · rw [hc]; simp only [hc, Option.getD_some, intOf]
      · rw [hd]; simp only [hd, Option.getD_some, intOf]
    · obtain ⟨v, hc, n, rfl, hw⟩ := h3 i hi 0 _ rfl
      obtain ⟨u, hd, m, rfl, hw2⟩ := h3 i hi 1 _ rfl
      rw [addr_add] at hc hd
      simp only [List.length_cons, List.length_nil, Nat.add_zero, Nat.zero_add, Nat.reduceAdd, ← Nat.add_assoc] at hc hd
      simp [Lit.wf, IntKind.min, IntKind.max, IntKind.bits, IntKind.signed] at hw hw2
      simp only [hc, hd, Option.getD_some, intOf]
      omega

end Go.Proofs.Ytdfcfjncflfppab
