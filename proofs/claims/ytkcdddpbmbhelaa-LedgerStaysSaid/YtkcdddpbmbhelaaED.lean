/-
  Package ledger: what Create, Destroy, Resize and Swap do to a twin.
-/
import Derived.Test.YtkcdddpbmbhelaaEC
import Derived.Test.YtkcdddpbmbhelaaTree
namespace Go.Proofs.Ytkcdddpbmbhelaa
open Go.RowKit

/-- One more, as Go counts. -/
def inc (n : Int) : Int := wrap64 (n + 1)

theorem gb_weak10 {w w' : World} (h : w.grownBy w' none) (r : Option Nat) : w.grownBy w' r := ⟨h.os, h.tape, h.output, h.size, fun k hk _ => h.block k hk (by simp)⟩

/-- A tenant that was put in. -/
def CreatedP (w : World) (b : Nat) (L : Led) (V : Nat → Value) (k : Nat) (s r : Int) (xs : List Int) (e : Ending) (w' : World) : Prop :=
  e = .returned (.tuple #[]) ∧ ∃ v', Blk w' b 27 (ledC (updT { L with eps := inc L.eps } k ⟨true, inc L.eps, s, r, xs⟩) (updV V k v')) ∧ Ints w' v' xs ∧ (∀ p, v'.ownBlock = some p → w.heap.size ≤ p ∧ p < w'.heap.size) ∧ w.grownBy w' (some b)

set_option maxHeartbeats 1600000 in
theorem createDo_is (w : World) (b sb rb gb tb : Nat) (L : Led) (V : Nat → Value) (k : Nat) (s r : Int) (gv : Value) (xs : List Int) (hb : Blk w b 27 (ledC L V))
    (hs : w.cell? ⟨sb, 0, none⟩ = some (.int .i64 s)) (hr : w.cell? ⟨rb, 0, none⟩ = some (.int .i64 r)) (hg : w.cell? ⟨gb, 0, none⟩ = some gv) (ht : w.cell? ⟨tb, 0, none⟩ = some (.int .i64 k))
    (ns : sb ≠ b) (nr : rb ≠ b) (ng : gb ≠ b) (nt : tb ≠ b) (hI : Ints w gv xs) (hx : xs.length ≤ 1048576) (hk : k < 4) (hgo : ∀ p, gv.ownBlock = some p → p ≠ b) :
    Calls Try.prog 22 #[.pointer (some ⟨b, 0, none⟩), .pointer (some ⟨sb, 0, none⟩), .pointer (some ⟨rb, 0, none⟩), .pointer (some ⟨gb, 0, none⟩), .pointer (some ⟨tb, 0, none⟩)] w (CreatedP w b L V k s r xs) := by
  have c0 := (hb.cell 1).trans (led_eps L V)
  have f0 := hb.free 1
  have hb1 := hb.set 1 (.int .i64 (inc L.eps))
  rw [led_setEps] at hb1
  have far : ∀ {p : Nat} {u : Value}, p ≠ b → w.cell? ⟨p, 0, none⟩ = some u → (w.setCell ⟨b, 1, none⟩ (.int .i64 (inc L.eps))).cell? ⟨p, 0, none⟩ = some u := fun hne h => by
    rw [World.cell?_setCell_other _ _ _ _ (fun e => hne (by injection e with e _; exact e.symm))]; exact h
  have s1 := far ns hs
  have r1 := far nr hr
  have g1 := far ng hg
  have t1 := far nt ht
  have hE1 : w.grownBy (w.setCell ⟨b, 1, none⟩ (.int .i64 (inc L.eps))) (some b) := gb_set (gb_refl w (some b)) _ _
  have hI1 := hI.kept hE1 (fun p hp e => by injection e with e; exact hgo p hp e)
  have hz1 : (w.setCell ⟨b, 1, none⟩ (.int .i64 (inc L.eps))).heap.size = w.heap.size := by simp [World.setCell]
  obtain ⟨n1, hn1⟩ : ∃ n, wrap64 (L.eps + 1) = n := ⟨_, rfl⟩
  unfold CreatedP inc
  unfold inc at hb1 s1 r1 g1 t1 hE1 hI1 hz1
  rw [hn1] at hb1 s1 r1 g1 t1 hE1 hI1 hz1 ⊢
  obtain ⟨w1, hw1⟩ : ∃ v, w.setCell ⟨b, 1, none⟩ (.int .i64 n1) = v := ⟨_, rfl⟩
  rw [hw1] at hb1 s1 r1 g1 t1 hE1 hI1 hz1
  clear hs hr hg ht hI far
  have HI := Lib.hid hI1
  have HB := Lib.hid hb1
  have HE := Lib.hid hE1
  have HZ := Lib.hid hz1
  have e1 := (hb1.cell 1).trans (led_eps _ _)
  obtain ⟨ga, gc, _, _, rfl, _⟩ := hI1.form
  clear hI1 hb1 hE1 hz1
  go_enter Try.func22, Try.ntmps22
  go_wp2
  clear hw1 hn1 c0 f0
  let S : World → Prop := fun x => x.cell? ⟨b, 1, none⟩ = some (.int .i64 n1) ∧ x.cell? ⟨sb, 0, none⟩ = some (.int .i64 s) ∧ x.cell? ⟨rb, 0, none⟩ = some (.int .i64 r) ∧ x.cell? ⟨gb, 0, none⟩ = some (.slice ga xs.length gc) ∧ x.cell? ⟨tb, 0, none⟩ = some (.int .i64 k)
  have hS : S w1.drew := ⟨e1, s1, r1, g1, t1⟩
  refine region_line [(0, true), (1, true), (2, true), (3, true), (4, true), (5, true), (6, true), (7, true), (8, true), (11, true), (12, true), (9, false), (10, false), (13, true), (14, false)] S (by kernel_rfl) (by kernel_rfl) (fun _ _ _ d _ h => by cases d <;> exact h) hS ?_
  have CL := cloneO_any _ xs w1.drew (HI.out.kept (gb_drew (gb_refl w1 none)) (by simp)) hx
  clear e1 s1 r1 g1 t1
  repeat (refine line_read (a' := ?_) rfl (by kernel_rfl) (by kernel_rfl) hS (fun x hx K hK => ?_) ?_; rotate_left; · (obtain ⟨x1, x2, x3, x4, x5⟩ := hx; go_wp2; exact hK))
  refine line_act (by rfl) (fun K hK => ?_)
  go_wp2_with (go_at_call 23; refine CL.mono ?_; rintro e w4 ⟨v4, rfl, ho4, hg4⟩)
  have hS4 : S w4 := ⟨hg4.cell hS.1 (by simp), hg4.cell hS.2.1 (by simp), hg4.cell hS.2.2.1 (by simp), hg4.cell hS.2.2.2.1 (by simp), hg4.cell hS.2.2.2.2 (by simp)⟩
  refine hK _ _ S hS4 (fun x hx => hx) ?_
  clear hK K
  have hI4 : Ints w4 v4 xs := owns_ints rfl ho4
  have hlt4 := own_lt ho4
  obtain ⟨a4, n4, c4, rfl⟩ := hI4.slice
  refine line_act (by rfl) (fun K hK => ?_)
  go_wp2
  refine hK _ _ S hS4 (fun x hx => hx) ?_
  clear hK K
  repeat (refine line_read (a' := ?_) rfl (by kernel_rfl) (by kernel_rfl) hS4 (fun x hx K hK => ?_) ?_; rotate_left; · (obtain ⟨x1, x2, x3, x4, x5⟩ := hx; go_wp2; exact hK))
  refine line_act (by rfl) (fun K hK => ?_)
  have hb4 : Blk w4 b 27 _ := HB.out.drew.ext hg4
  refine ten_store_in _ _ rfl hk rfl (z := ⟨true, n1, s, r, xs⟩) (v := .slice a4 n4 c4) rfl hb4 ⟨_, _, _, rfl⟩ rfl ?_
  intro w5 hb5 hg5 hs5
  have hS5 : S w5 := ⟨(hb5.cell 1).trans (led_eps _ _), hg5.cell hS4.2.1 (fun e => ns (by injection e)), hg5.cell hS4.2.2.1 (fun e => nr (by injection e)), hg5.cell hS4.2.2.2.1 (fun e => ng (by injection e)), hg5.cell hS4.2.2.2.2 (fun e => nt (by injection e))⟩
  refine hK _ _ S hS5 (fun x hx => hx) ?_
  clear hK K
  refine line_end ?_
  have hz : w.heap.size ≤ w4.heap.size := by have := hg4.size; have := HZ.out; have h3 : w1.drew.heap.size = w1.heap.size := rfl; omega
  have hb0 : b < w1.heap.size := HB.out.lt
  have hge : ∀ p, (Value.slice a4 n4 c4).ownBlock = some p → w1.heap.size ≤ p ∧ p < w4.heap.size := fun p hp => by have := hlt4 p hp; exact this
  go_wp2
  go_end0
  refine ⟨rfl, _, hb5, hI4.kept hg5 (fun p hp e => by have := hge p hp; injection e with e; omega), fun p hp => by have := hge p hp; have := HZ.out; omega, ?_⟩
  exact grown_trans (gb_trans (gb_trans HE.out (gb_drew (gb_refl w1 (some b)))) (gb_weak10 hg4 _)) hg5 (fun p hp _ => hp.symm)

/-- A twin that lies in block b; its slices are the call's own. -/
structure Ready (B : Nat) (w : World) (b : Nat) (L : Led) (V : Nat → Value) : Prop where
  blk : Blk w b 27 (ledC L V)
  own : Owned B w L V 4
  far : ∀ j, j < 4 → ∀ p, (V j).ownBlock = some p → p ≠ b
  lo : B ≤ b

/-- What was done to it. -/
def DoneP (B b : Nat) (L2 : Led) (w : World) (e : Ending) (w' : World) : Prop :=
  e = .returned (.tuple #[]) ∧ ∃ V2, Blk w' b 27 (ledC L2 V2) ∧ LedIs w' L2 V2 ∧ (∀ j, j < 4 → ∀ p, (V2 j).ownBlock = some p → B ≤ p ∧ p < w'.heap.size) ∧ Below B w w'

theorem below_gb {w w' : World} {b B : Nat} (h : w.grownBy w' (some b)) (hB : B ≤ b) (hw : B ≤ w.heap.size) : Below B w w' :=
  ⟨h.os, h.tape, h.output, h.size, fun k hk => h.block k (by omega) (fun e => by injection e with e; omega)⟩

theorem Ready.lows {B b : Nat} {w : World} {L : Led} {V : Nat → Value} (h : Ready B w b L V) : B ≤ w.heap.size := by have := h.blk.lt; have := h.lo; omega

/-- One tenant was laid anew in block b. -/
theorem Ready.done {B b : Nat} {w w' : World} {L L2 : Led} {V : Nat → Value} {k : Nat} {v : Value} (h : Ready B w b L V) (hb : Blk w' b 27 (ledC L2 (updV V k v))) (hL : ∀ j, j < 4 → j ≠ k → (L2.t j).bs = (L.t j).bs) (hI : Ints w' v (L2.t k).bs)
    (hv : ∀ p, v.ownBlock = some p → B ≤ p ∧ p < w'.heap.size) (hg : w.grownBy w' (some b)) : DoneP B b L2 w (.returned (.tuple #[])) w' := by
  refine ⟨rfl, _, hb, fun j hj => ?_, fun j hj p hp => ?_, below_gb hg h.lo h.lows⟩
  · unfold updV
    by_cases e : j = k
    · subst e; rw [if_pos rfl]; exact hI
    · rw [if_neg e, hL j hj e]
      exact (h.own.is j hj).kept hg (fun p hp e2 => h.far j hj p hp (by injection e2))
  · unfold updV at hp
    by_cases e : j = k
    · rw [if_pos e] at hp; exact hv p hp
    · rw [if_neg e] at hp
      have h1 := own_lt (h.own.own j hj) p hp
      have := hg.size
      omega

def createL (L : Led) (k : Nat) (s r : Int) (xs : List Int) : Led := updT { L with eps := inc L.eps } k ⟨true, inc L.eps, s, r, xs⟩

theorem createDo_done {B w b} (sb rb gb tb : Nat) {L : Led} {V : Nat → Value} (k : Nat) (s r : Int) (gv : Value) (xs : List Int) (hR : Ready B w b L V)
    (hs : w.cell? ⟨sb, 0, none⟩ = some (.int .i64 s)) (hr : w.cell? ⟨rb, 0, none⟩ = some (.int .i64 r)) (hg : w.cell? ⟨gb, 0, none⟩ = some gv) (ht : w.cell? ⟨tb, 0, none⟩ = some (.int .i64 k))
    (ns : sb < B) (nr : rb < B) (ng : gb < B) (nt : tb < B) (hI : Ints w gv xs) (hx : xs.length ≤ 1048576) (hk : k < 4) (hgo : ∀ p, gv.ownBlock = some p → p < B) :
    Calls Try.prog 22 #[.pointer (some ⟨b, 0, none⟩), .pointer (some ⟨sb, 0, none⟩), .pointer (some ⟨rb, 0, none⟩), .pointer (some ⟨gb, 0, none⟩), .pointer (some ⟨tb, 0, none⟩)] w (DoneP B b (createL L k s r xs) w) := by
  have hlo := hR.lo
  refine (createDo_is w b sb rb gb tb L V k s r gv xs hR.blk hs hr hg ht (by omega) (by omega) (by omega) (by omega) hI hx hk (fun p hp => by have := hgo p hp; omega)).mono fun e w' h => ?_
  obtain ⟨rfl, v', hb', hI', ho', hgr⟩ := h
  refine hR.done hb' (fun j _ hne => by simp [createL, updT, hne]) (by simpa [createL, updT] using hI') (fun p hp => ?_) hgr
  have := ho' p hp
  have := hR.lows
  omega

set_option maxHeartbeats 800000 in
theorem destroyDo_done {B w b} (tb : Nat) {L : Led} {V : Nat → Value} (k : Nat) (hR : Ready B w b L V) (ht : w.cell? ⟨tb, 0, none⟩ = some (.int .i64 k)) (nt : tb < B) (hk : k < 4) :
    Calls Try.prog 25 #[.pointer (some ⟨b, 0, none⟩), .pointer (some ⟨tb, 0, none⟩)] w (DoneP B b (updT L k noTen) w) := by
  have hlo := hR.lo
  have HR := Lib.hid hR
  clear hR
  go_enter Try.func25, Try.ntmps25
  go_wp2
  have hS : (fun x : World => x.cell? ⟨tb, 0, none⟩ = some (.int .i64 k)) w.drew := ht
  clear ht
  refine region_line [(0, true), (1, true), (3, true), (4, true), (2, false), (5, true), (6, false)] (fun x : World => x.cell? ⟨tb, 0, none⟩ = some (.int .i64 k)) (by kernel_rfl) (by kernel_rfl) (fun _ _ _ d _ h => by cases d <;> exact h) hS ?_
  repeat (refine line_read (a' := ?_) rfl (by kernel_rfl) (by kernel_rfl) hS (fun x hx K hK => ?_) ?_; rotate_left; · (go_wp2; exact hK))
  refine line_act (by rfl) (fun K hK => ?_)
  go_wp2
  refine hK _ _ _ hS (fun x hx => hx) ?_
  clear hK K
  repeat (refine line_read (a' := ?_) rfl (by kernel_rfl) (by kernel_rfl) hS (fun x hx K hK => ?_) ?_; rotate_left; · (go_wp2; exact hK))
  refine line_act (by rfl) (fun K hK => ?_)
  refine ten_store_in _ _ rfl hk rfl (z := noTen) (v := nilS) rfl HR.out.blk.drew ⟨_, _, _, rfl⟩ rfl ?_
  intro w5 hb5 hg5 _
  refine hK _ _ _ (hg5.cell hS (fun e => absurd (Option.some.inj e) (by show tb ≠ b; omega))) (fun x hx => hx) ?_
  clear hK K
  refine line_end ?_
  go_wp2
  go_end0
  exact HR.out.done hb5 (fun j _ hne => by simp [updT, hne]) (by simp [updT]; exact .inl ⟨rfl, rfl⟩) (fun p hp => by simp [Value.ownBlock] at hp) (gb_trans (gb_drew (gb_refl w (some b))) hg5)

/-- Rows of the call's own of two tenants are two. -/
theorem Ready.rows {B b : Nat} {w : World} {L : Led} {V : Nat → Value} (h : Ready B w b L V) {k i : Nat} (hk : k < 4) (hi : i < (L.t k).bs.length) : ∃ g c, V k = .slice (some ⟨g, 0, none⟩) (L.t k).bs.length c ∧ B ≤ g ∧ g < w.heap.size ∧ g ≠ b := by
  obtain ⟨g, c, hv, h1, h2⟩ := (h.own.own k hk).form (by omega)
  exact ⟨g, c, hv, h1, h2, h.far k hk g (by rw [hv]; rfl)⟩
theorem led_setBs (L : Led) (V : Nat → Value) {k : Nat} (h : k < 4) (ys : List Int) : ledC (updT L k { L.t k with bs := ys }) V = ledC L V := by
  obtain rfl | rfl | rfl | rfl : k = 0 ∨ k = 1 ∨ k = 2 ∨ k = 3 := by omega
  all_goals rfl
def resizeL (L : Led) (k : Nat) (s : Int) (xs : List Int) : Led := updT L k { L.t k with sz := s, bs := (L.t k).bs ++ xs }
theorem led_resize (L : Led) (V : Nat → Value) {k : Nat} (h : k < 4) (s : Int) (xs : List Int) (v : Value) : ((ledC L V).setIfInBounds (2 + k * 5 + 2) (.int .i64 s)).setIfInBounds (2 + k * 5 + 4) v = ledC (resizeL L k s xs) (updV V k v) := by
  obtain rfl | rfl | rfl | rfl : k = 0 ∨ k = 1 ∨ k = 2 ∨ k = 3 := by omega
  all_goals rfl

end Go.Proofs.Ytkcdddpbmbhelaa
