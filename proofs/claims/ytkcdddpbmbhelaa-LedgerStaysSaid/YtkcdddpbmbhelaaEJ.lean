/-
  The document's next, Create, Destroy.
-/
import Derived.Test.YtkcdddpbmbhelaaEI
namespace Go.Proofs.Ytkcdddpbmbhelaa
open Go.RowKit

structure Laid2 (w w1 : World) (L : Led) (V : Nat → Value) : Prop where
  led : Blk w1 w.heap.size 27 (ledC L V)
  out : Blk w1 (w.heap.size + 1) 27 zeroC
  size : w1.heap.size = w.heap.size + 2
  ext : Ext w w1
theorem laid2 (w : World) (L : Led) (V : Nat → Value) : Laid2 w ((w.alloc (.cells (ledC L V) 27)).alloc (.cells zeroC 27)) L V :=
  ⟨(Blk.new w _ _).alloc _, Blk.newAt _ _ (by simp) _ _, by simp, grown_alloc (World.grownBy_alloc w _ none) _⟩

/-- The ledger in new memory, with one change more. -/
def NextP (w : World) (L : Led) (e : Ending) (w' : World) : Prop := ∃ V', e = .returned (.tuple #[.agg (ledC (bump L) V'), .int .i64 0]) ∧ Owned w.heap.size w' (bump L) V' 4 ∧ Ext w w'
def NoneP (w : World) (n : Int) (e : Ending) (w' : World) : Prop := e = .returned (.tuple #[.agg (ledC noLed fun _ => nilS), .int .i64 n]) ∧ Ext w w'

/-- The copy that is worked on, when it has been laid. -/
theorem out_mid {B : Nat} {w w3 w4 : World} {L : Led} {V' : Nat → Value} (hE : Ext w w3) (hO : Owned B w3 L V' 4) (hB : B ≤ w3.heap.size) (hb : Blk w4 w3.heap.size 27 (ledC L V')) (hg : (w3.alloc (.cells zeroC 27)).grownBy w4 (some w3.heap.size)) :
    Ext w w4 ∧ Ext w3 w4 ∧ Ready B w4 w3.heap.size L V' := by
  have e : w3.grownBy w4 none := grown_trans (World.grownBy_alloc w3 (.cells zeroC 27) none) hg (fun k hk h => by injection hk with hk; omega)
  exact ⟨ext_trans hE e, e, hb, hO.kept e (by simp), fun j hj p hp => by have := own_lt (hO.own j hj) p hp; omega, hB⟩

/-- The end: what was worked on is handed back. -/
theorem change_end {B : Nat} {w w4 w5 w6 : World} {L2 : Led} {V2 : Nat → Value} (hE : Ext w w4) (hI5 : LedIs w5 L2 V2) (hl5 : ∀ j, j < 4 → ∀ p, (V2 j).ownBlock = some p → B ≤ p ∧ p < w5.heap.size) (hbel : Below B w4 w5) (hB : w.heap.size + 2 ≤ B)
    (hg6 : w5.grownBy w6 (some (w.heap.size + 1))) : ChangeP w (L2, 0) (.returned (.tuple #[.agg (ledC L2 V2), .int .i64 0])) w6 := by
  refine ⟨V2, rfl, hI5.kept hg6 (fun j hj p hp e => by have := hl5 j hj p hp; injection e with e; omega), fun j hj p hp => by have := hl5 j hj p hp; have := hg6.size; omega, ?_⟩
  have q3 := (below_ext hE).trans (hbel.mono (by omega))
  exact ext_below (q3.grown hg6 (by have := hbel.size; have := hE.size; omega) (fun k hk => by injection hk with hk; omega))

end Go.Proofs.Ytkcdddpbmbhelaa
