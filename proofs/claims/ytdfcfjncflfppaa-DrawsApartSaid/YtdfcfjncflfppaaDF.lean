/-
  The laws of layer 5: fixed, DrawsTell.
-/
import Derived.Test.YtdfcfjncflfppaaDC
import Derived.Test.YtdfcfjncflfppaaDD
import Derived.Test.YtdfcfjncflfppaaDE
namespace Go.Proofs.Ytdfcfjncflfppaa
open Go.RowKit

def faultsN (n : Int) : Nat → List Int
  | 0 => [n]
  | _ => []
def litU (g : Nat) : Nat → Value
  | 0 => .slice (some ⟨g, 0, none⟩) 1 1
  | _ => .slice none 0 0
/-- One literal row of faults, the others nil. -/
theorem four_lit (w : World) (n : Int) (T : TypeId) : Four (w.alloc (.cells #[.int .i64 n] T)) (litU w.heap.size) (faultsN n) := by
  refine ⟨fun j hj => ?_, fun j hj => ?_, fun j hj k hk => ?_⟩
  · cases j with
    | zero =>
      refine .inr ⟨w.heap.size, 0, 1, rfl, Nat.le_refl _, fun i hi => ?_⟩
      have : i = 0 := by simp [faultsN] at hi; omega
      subst this
      simp [faultsN]
    | succ j => exact .inl ⟨rfl, rfl⟩
  · cases j with
    | zero => simp [faultsN]
    | succ j => simp [faultsN]
  · cases j with
    | zero => simp [litU, Value.ownBlock] at hk; subst hk; simp
    | succ j => simp [litU, Value.ownBlock] at hk

theorem new_ok (U : Nat → Value) (zs : Nat → List Int) (w : World) (hF : Four w U zs) (h : newE zs = 0) :
    Calls Try.prog 43 #[.agg #[U 0, U 1, U 2, U 3]] w fun e w' => ∃ b V, e = .returned (.tuple #[.pointer (some ⟨b, 0, none⟩), .int .i64 0]) ∧ DrAt w' b V zs (fun _ => 0) (fun _ => 0) ∧ w.grownBy w' none ∧ w.heap.size ≤ b ∧ ∀ j, j < 4 → ∀ k, (V j).ownBlock = some k → w.heap.size ≤ k ∧ k < w'.heap.size :=
  (new_any U zs w hF).mono fun e w' hp => by
    rcases hp with ⟨h', _⟩ | ⟨_, r⟩
    · exact absurd h h'
    · exact r
theorem new_bad (U : Nat → Value) (zs : Nat → List Int) (w : World) (hF : Four w U zs) (h : newE zs ≠ 0) :
    Calls Try.prog 43 #[.agg #[U 0, U 1, U 2, U 3]] w fun e w' => e = .returned (.tuple #[.pointer none, .int .i64 (newE zs)]) ∧ w.grownBy w' none :=
  (new_any U zs w hF).mono fun e w' hp => by
    rcases hp with ⟨_, r⟩ | ⟨h', _⟩
    · exact r
    · exact absurd h' h

theorem ext_trans5 {a b c : World} (h : Ext a b) (h2 : Ext b c) : Ext a c := Ext.next h c h2
theorem grown_own {w w1 w2 : World} {b : Nat} (h : Ext w w1) (hg : w1.grownBy w2 (some b)) (hb : w.heap.size ≤ b) : Ext w w2 := grown_trans h hg (fun k hk hl => by cases hk; omega)

set_option maxRecDepth 100000 in
set_option maxHeartbeats 1600000 in
theorem fixed5_any (w : World) : Calls Try.prog 42 #[] w fun e w' => e = .returned (.bool true) ∧ Ext w w' := by
  have e1 : newE (faultsN 2) = 0 := by decide
  have e2 : newE (faultsN 0) = 5 := by decide
  have N1 := fun v : World => new_ok (litU v.heap.size) (faultsN 2) (v.alloc (.cells #[.int .i64 2] 3)) (four_lit v 2 3) e1
  have N2 := fun v : World => new_bad (litU v.heap.size) (faultsN 0) (v.alloc (.cells #[.int .i64 0] 3)) (four_lit v 0 3) (by rw [e2]; decide)
  rw [e2] at N2
  simp only [litU] at N1 N2
  generalize hz : faultsN 2 = zA at *
  have S1 : ∀ b V (v : World), DrAt v b V zA (fun _ => 0) (fun _ => 0) → Calls Try.prog 45 #[.pointer (some ⟨b, 0, none⟩), .int .i64 0] v fun e w' => e = .returned (.bool false) ∧ DrAt w' b V zA (upd (fun _ => 0) 0 1) (upd (fun _ => 0) 0 0) ∧ v.grownBy w' (some b) :=
    fun b V v h => by subst hz; exact next_is b 0 V _ _ _ v h (by decide) (by decide) (by decide) (by decide) (by decide) (by decide)
  have S2 : ∀ b V (v : World), DrAt v b V zA (upd (fun _ => 0) 0 1) (upd (fun _ => 0) 0 0) → Calls Try.prog 45 #[.pointer (some ⟨b, 0, none⟩), .int .i64 0] v fun e w' => e = .returned (.bool true) ∧ DrAt w' b V zA (upd (upd (fun _ => 0) 0 1) 0 2) (upd (upd (fun _ => 0) 0 0) 0 1) ∧ v.grownBy w' (some b) :=
    fun b V v h => by subst hz; exact next_is b 0 V _ _ _ v h (by decide) (by decide) (by decide) (by decide) (by decide) (by decide)
  have O1 : ∀ b V (v : World), DrAt v b V zA (upd (upd (fun _ => 0) 0 1) 0 2) (upd (upd (fun _ => 0) 0 0) 0 1) → Calls Try.prog 46 #[.pointer (some ⟨b, 0, none⟩), .int .i64 0] v fun e w' => e = .returned (.int .i64 2) ∧ v = w' := fun b V v h => ops_is b 0 V _ _ _ v h (by decide)
  have O2 : ∀ b V (v : World), DrAt v b V zA (upd (upd (fun _ => 0) 0 1) 0 2) (upd (upd (fun _ => 0) 0 0) 0 1) → Calls Try.prog 47 #[.pointer (some ⟨b, 0, none⟩), .int .i64 0] v fun e w' => e = .returned (.int .i64 1) ∧ v = w' := fun b V v h => faults_is b 0 V _ _ _ v h (by decide)
  clear e1 e2 hz
  go_enter Try.func42, Try.ntmps42
  go_wp2_with (first
    | (go_at_call 43; have hq := hD3; refine (N2 _).mono ?_; rintro e w5 ⟨rfl, hg5⟩; have hE5 := ext_trans5 (ext_trans5 hE3 (World.grownBy_alloc w3 _ none)) hg5; have hD5 := hD3.other (ext_trans5 (World.grownBy_alloc w3 _ none) hg5) (by simp) (fun _ _ _ _ => by simp))
    | (go_at_call 43; refine (N1 _).mono ?_; rintro e w1 ⟨b, V, rfl, hD1, hg1, hb1, hv1⟩; have hE1 := ext_trans5 (World.grownBy_alloc w _ none) hg1; have hwb : w.heap.size ≤ b := by simp at hb1; omega)
    | (go_at_call 45; have hq := hD3; refine (next_none (some ⟨b, 0, none⟩) 4 _ (.inr ⟨⟨b, rfl⟩, by omega⟩)).mono ?_; rintro e w' ⟨rfl, rfl⟩)
    | (go_at_call 45; refine (S2 _ _ _ hD2).mono ?_; rintro e w3 ⟨rfl, hD3, hg3⟩; have hE3 := grown_own hE2 hg3 hwb)
    | (go_at_call 45; refine (S1 _ _ _ hD1).mono ?_; rintro e w2 ⟨rfl, hD2, hg2⟩; have hE2 := grown_own hE1 hg2 hwb)
    | (go_at_call 46; refine (O1 _ _ _ hD5).mono ?_; rintro e w' ⟨rfl, rfl⟩)
    | (go_at_call 47; refine (O2 _ _ _ hD5).mono ?_; rintro e w' ⟨rfl, rfl⟩))
  go_ret
  exact ⟨rfl, hE5⟩

theorem row_ints {w : World} {a : Option Addr} {len cap : Nat} {zs : List Int} (h : IsRow .i64 w a len cap zs) (hs : ∀ x, a = some x → x.spot = none ∧ x.block < w.heap.size) :
    len = (zs.take len).length ∧ Ints w (.slice a len cap) (zs.take len) ∧ (∀ k, (Value.slice a len cap).ownBlock = some k → k < w.heap.size) ∧ len ≤ maxLen := by
  rcases h with ⟨rfl, rfl, rfl, rfl⟩ | ⟨x, rfl, hl, hm, hz, hc, _⟩
  · exact ⟨rfl, .inl ⟨rfl, rfl⟩, by simp [Value.ownBlock], Nat.zero_le _⟩
  · obtain ⟨hsp, hb⟩ := hs x rfl
    obtain ⟨b, off, sp⟩ := x
    simp only at hsp hb
    subst hsp
    have hlen : (zs.take len).length = len := by simp; omega
    refine ⟨hlen.symm, .inr ⟨b, off, cap, by rw [hlen], by omega, fun i hi => ?_⟩, fun k hk => ?_, by omega⟩
    · rw [hlen] at hi
      have := hc i (by omega)
      rw [addr_add] at this
      rw [this]
      simp [hi]
    · simp [Value.ownBlock] at hk
      omega

theorem four_of {w : World} {a : Nat → Option Addr} {len cap : Nat → Nat} {zs : Nat → List Int} (h : ∀ j, j < 4 → IsRow .i64 w (a j) (len j) (cap j) (zs j) ∧ ∀ x, a j = some x → x.spot = none ∧ x.block < w.heap.size) :
    Four w (fun j => .slice (a j) (len j) (cap j)) (fun j => (zs j).take (len j)) := by
  refine ⟨fun j hj => ?_, fun j hj => ?_, fun j hj => ?_⟩
  · exact (row_ints (h j hj).1 (h j hj).2).2.1
  · obtain ⟨h1, _, _, h4⟩ := row_ints (h j hj).1 (h j hj).2
    unfold maxLen at h4
    omega
  · exact (row_ints (h j hj).1 (h j hj).2).2.2.1
theorem ext_below5 {w w' : World} (h : Ext w w') : Below w.heap.size w w' := ⟨h.os, h.tape, h.output, h.size, fun k hk => h.block k hk (by simp)⟩
def TrueExt (w : World) (e : Ending) (w' : World) : Prop := e = .returned (.bool true) ∧ Ext w w'

end Go.Proofs.Ytdfcfjncflfppaa
