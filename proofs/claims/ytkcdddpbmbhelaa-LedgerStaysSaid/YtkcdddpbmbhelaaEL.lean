/-
  The document's Destroy and Resize.
-/
import Derived.Test.YtkcdddpbmbhelaaEK
namespace Go.Proofs.Ytkcdddpbmbhelaa
open Go.RowKit

theorem destroy_mid {B b k : Nat} {w w' : World} {L : Led} {V : Nat → Value} (h : Ready B w b L V) (hb : Blk w' b 27 (ledC (updT L k noTen) (updV V k nilS))) (hg : w.grownBy w' (some b)) :
    Blk w' b 27 (ledC (updT L k noTen) (updV V k nilS)) ∧ LedIs w' (updT L k noTen) (updV V k nilS) ∧ (∀ j, j < 4 → ∀ p, (updV V k nilS j).ownBlock = some p → B ≤ p ∧ p < w'.heap.size) ∧ Below B w w' := by
  refine ⟨hb, fun j hj => ?_, fun j hj p hp => ?_, below_gb hg h.lo h.lows⟩
  · unfold updV updT
    by_cases e : j = k
    · simp only [if_pos e]; exact .inl ⟨rfl, rfl⟩
    · simp only [if_neg e]
      exact (h.own.is j hj).kept hg (fun p hp e2 => h.far j hj p hp (by injection e2))
  · unfold updV at hp
    by_cases e : j = k
    · rw [if_pos e] at hp; simp [Value.ownBlock] at hp
    · rw [if_neg e] at hp
      have h1 := own_lt (h.own.own j hj) p hp
      have := hg.size
      omega

/-- Behind the size. -/
theorem resize_one {B b k : Nat} {w : World} {L : Led} {V : Nat → Value} (h : Ready B w b L V) (hk : k < 4) (s : Int) :
    w.grownBy (w.setCell ⟨b, 2 + k * 5 + 2, none⟩ (.int .i64 s)) (some b) ∧ Blk (w.setCell ⟨b, 2 + k * 5 + 2, none⟩ (.int .i64 s)) b 27 ((ledC L V).setIfInBounds (2 + k * 5 + 2) (.int .i64 s)) ∧
      (w.setCell ⟨b, 2 + k * 5 + 2, none⟩ (.int .i64 s)).cell? ⟨b, 2 + k * 5 + 4, none⟩ = some (V k) ∧ OwnI B (w.setCell ⟨b, 2 + k * 5 + 2, none⟩ (.int .i64 s)) (V k) (L.t k).bs := by
  have hg1 : w.grownBy (w.setCell ⟨b, 2 + k * 5 + 2, none⟩ (.int .i64 s)) (some b) := gb_set (gb_refl w (some b)) _ _
  refine ⟨hg1, h.blk.set _ _, ?_, own_kept (h.own.own k hk) hg1 (fun p hp e => h.far k hk p hp (Option.some.inj e))⟩
  rw [World.cell?_setCell_other _ _ _ _ (fun e => by injection e with _ e; omega)]
  exact (h.blk.cell _).trans (led_bs L V hk)

/-- Behind all of it. -/
theorem resize_mid {B b k : Nat} {w w1 w2 : World} {L : Led} {V : Nat → Value} {s : Int} {xs : List Int} {v : Value} (h : Ready B w b L V) (hk : k < 4) (hg1 : w.grownBy w1 (some b)) (hb1 : Blk w1 b 27 ((ledC L V).setIfInBounds (2 + k * 5 + 2) (.int .i64 s)))
    (o1 : OwnI B w1 (V k) (L.t k).bs) (ho2 : OwnI B w2 v ((L.t k).bs ++ xs)) (hg2 : w1.grownBy w2 (V k).ownBlock) (hl2 : v.ownBlock = (V k).ownBlock ∨ v.ownBlock = some w1.heap.size) :
    Blk w2 b 27 ((ledC L V).setIfInBounds (2 + k * 5 + 2) (.int .i64 s)) ∧ w.grownBy w1 (some b) ∧ (∀ p, v.ownBlock = some p → p ≠ b) ∧
      DoneP B b (resizeL L k s xs) w (.returned (.tuple #[])) (w2.setCell ⟨b, 2 + k * 5 + 4, none⟩ v) := by
  have hb1lt : b < w1.heap.size := hb1.lt
  have hlo := h.lo
  have hlows := h.lows
  have hfar1 := h.far k hk
  have hlow1 : ∀ p, (V k).ownBlock = some p → B ≤ p ∧ p < w1.heap.size := own_lt o1
  have hb2 := hb1.kept hg2 (fun e => hfar1 b e.symm rfl)
  have hlow2 : ∀ p, v.ownBlock = some p → B ≤ p ∧ p < w2.heap.size := own_lt ho2
  have hfar2 : ∀ p, v.ownBlock = some p → p ≠ b := fun p hp => by
    rcases hl2 with e | e
    · exact hfar1 p (by rw [← e]; exact hp)
    · have e2 : some w1.heap.size = some p := e.symm.trans hp
      injection e2 with e2
      omega
  have hg3 : w2.grownBy (w2.setCell ⟨b, 2 + k * 5 + 4, none⟩ v) (some b) := gb_set (gb_refl w2 (some b)) _ _
  refine ⟨hb2, hg1, hfar2, rfl, updV V k v, ?_, fun j hj => ?_, fun j hj p hp => ?_, ?_⟩
  · have := hb2.set (2 + k * 5 + 4) v
    rw [led_resize L V hk s xs] at this
    exact this
  · unfold updV resizeL updT
    by_cases e : j = k
    · subst e
      simp only [if_true]
      exact (owns_ints rfl ho2 : Ints w2 v _).kept hg3 (fun p hp e => hfar2 p hp (by injection e))
    · simp only [if_neg e]
      have h1 := ((h.own.is j hj).kept hg1 (fun p hp e2 => h.far j hj p hp (by injection e2)))
      have h2 := h1.kept hg2 (fun p hp e2 => h.own.apart j k hj hk e p hp e2.symm)
      exact h2.kept hg3 (fun p hp e2 => h.far j hj p hp (by injection e2))
  · have hs3 : (w2.setCell ⟨b, 2 + k * 5 + 4, none⟩ v).heap.size = w2.heap.size := by simp [World.setCell]
    rw [hs3]
    unfold updV at hp
    by_cases e : j = k
    · rw [if_pos e] at hp; exact hlow2 p hp
    · rw [if_neg e] at hp
      have h1 := own_lt (h.own.own j hj) p hp
      have h2 := hg1.size
      have h3 := hg2.size
      omega
  · have q1 : Below B w w1 := below_gb hg1 (by omega) hlows
    have hlt1 : B ≤ w1.heap.size := by have := hg1.size; omega
    have q2 : Below B w w2 := q1.grown hg2 hlt1 (fun p hp => (hlow1 p hp).1)
    exact q2.trans (below_gb hg3 (by omega) (by have := hg2.size; omega))

end Go.Proofs.Ytkcdddpbmbhelaa
