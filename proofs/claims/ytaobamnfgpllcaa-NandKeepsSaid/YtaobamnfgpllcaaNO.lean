/-
  Layer 7's law: made, few.
-/
import Derived.Test.YtaobamnfgpllcaaNM
namespace Go.Proofs.Ytaobamnfgpllcaa
open Go.RowKit

theorem new7_geo (pb db : Nat) (c d b p : Int) (v : Value) (w : World) (hg : geoE c d b p ≠ 0) :
    Calls Try.prog 18 #[four c d b p, .pointer (some ⟨pb, 0, none⟩), .pointer (some ⟨db, 0, none⟩), v] w fun e w' => e = .returned (.tuple #[.pointer none, .int .i64 (geoE c d b p)]) ∧ w.grownBy w' none := by
  have C := check_any c d b p
  have hg' : (geoE c d b p != 0) = true := by simpa using hg
  generalize geoE c d b p = x at *
  clear hg
  unfold four fourObj at *
  go_enter Try.func18, Try.ntmps18
  go_wp2_with (go_at_call 35; refine (C _).mono ?_; rintro e w' ⟨rfl, rfl⟩)
  refine bodyPost_ret (v := .tuple #[.pointer none, .int .i64 x]) (by simp [results, Try.results18, go_sem]) rfl ⟨rfl, grown_alloc (World.grownBy_alloc w _ none) _⟩

/-- Draws without faults. -/
def NoDraws (w : World) (e : Ending) (w' : World) : Prop :=
  ∃ b V, e = .returned (.tuple #[.pointer (some ⟨b, 0, none⟩), .int .i64 0]) ∧ DrAt w' b V noZs (fun _ => 0) (fun _ => 0) ∧ w.grownBy w' none ∧ w.heap.size ≤ b ∧ ∀ j, j < 4 → ∀ k, (V j).ownBlock = some k → w.heap.size ≤ k ∧ k < w'.heap.size
theorem newD_none (w : World) : Calls Try.prog 17 #[.agg #[.slice none 0 0, .slice none 0 0, .slice none 0 0, .slice none 0 0]] w (NoDraws w) := by
  have hF : Four w (fun _ => .slice none 0 0) noZs := ⟨fun _ _ => .inl ⟨rfl, rfl⟩, fun _ _ => by simp [noZs], fun _ _ k hk => by simp [Value.ownBlock] at hk⟩
  have h0 : newE noZs = 0 := by decide
  refine (new_any (fun _ => .slice none 0 0) noZs w hF).mono fun e w' hp => ?_
  rcases hp with ⟨h', _⟩ | ⟨_, r⟩
  · exact absurd h0 h'
  · exact r

/-- An array, with all power, without faults. -/
def MadeP (c d b : Int) (pg al : Nat) (ms : List Int) (w : World) (e : Ending) (w' : World) : Prop :=
  ∃ (S : NShape) (V : Nat → Value), Roles S ∧ (S.c = c ∧ S.d = d ∧ S.b = b ∧ S.p = pg ∧ S.all = al ∧ S.pg = pg) ∧ e = .returned (.tuple #[.pointer (some ⟨S.nb, 0, none⟩), .pointer (some ⟨S.pb, 0, none⟩), .int .i64 0]) ∧
    NandAt w' S V noZs (blankS ms (-1) false 0 (fun _ => 0) (fun _ => 0)) ∧ w.grownBy w' none ∧ ∀ k, S.T k ≠ 0 → w.heap.size ≤ k

def NewPow (n : Int) (w : World) (e : Ending) (w' : World) : Prop := ∃ pb, e = .returned (.pointer (some ⟨pb, 0, none⟩)) ∧ PowAt w' pb n false 0 ∧ w.grownBy w' none ∧ w.heap.size ≤ pb
theorem newPow_is (n : Int) (w : World) : Calls Try.prog 16 #[.int .i64 n] w (NewPow n w) :=
  (new_is n w).mono fun _ _ ⟨he, hp, hg⟩ => ⟨_, he, hp, hg, Nat.le_refl _⟩

/-- The boxes of a geometry and of no faults. -/
structure BoxM (w : World) (c d b p : Int) (x : World) : Prop where
  g0 : x.cell? ⟨w.heap.size, 0, none⟩ = some (.int .i64 c)
  g1 : x.cell? ⟨w.heap.size, 1, none⟩ = some (.int .i64 d)
  g2 : x.cell? ⟨w.heap.size, 2, none⟩ = some (.int .i64 b)
  g3 : x.cell? ⟨w.heap.size, 3, none⟩ = some (.int .i64 p)
  f0 : x.cell? ⟨w.heap.size + 1, 0, none⟩ = some (.slice none 0 0)
  f1 : x.cell? ⟨w.heap.size + 1, 1, none⟩ = some (.slice none 0 0)
  f2 : x.cell? ⟨w.heap.size + 1, 2, none⟩ = some (.slice none 0 0)
  f3 : x.cell? ⟨w.heap.size + 1, 3, none⟩ = some (.slice none 0 0)
theorem BoxM.ext {w : World} {c d b p : Int} {x y : World} (h : BoxM w c d b p x) (hg : x.grownBy y none) : BoxM w c d b p y :=
  ⟨hg.cell h.g0 (by simp), hg.cell h.g1 (by simp), hg.cell h.g2 (by simp), hg.cell h.g3 (by simp), hg.cell h.f0 (by simp), hg.cell h.f1 (by simp), hg.cell h.f2 (by simp), hg.cell h.f3 (by simp)⟩
theorem boxM (w : World) (c d b p : Int) (T U : TypeId) : BoxM w c d b p ((w.alloc (fourObj c d b p T)).alloc (.cells #[.slice none 0 0, .slice none 0 0, .slice none 0 0, .slice none 0 0] U)) := by
  have e0 : ∀ o, ((w.alloc (fourObj c d b p T)).alloc (.cells #[.slice none 0 0, .slice none 0 0, .slice none 0 0, .slice none 0 0] U)).cell? ⟨w.heap.size, o, none⟩ = (#[.int .i64 c, .int .i64 d, .int .i64 b, .int .i64 p] : Array Value)[o]? := fun o => by
    rw [World.cell?_alloc_past _ _ _ (by simp), fourObj, World.cell?_alloc_at _ _ _ _ rfl]
  have e1 : ∀ o, ((w.alloc (fourObj c d b p T)).alloc (.cells #[.slice none 0 0, .slice none 0 0, .slice none 0 0, .slice none 0 0] U)).cell? ⟨w.heap.size + 1, o, none⟩ = (#[.slice none 0 0, .slice none 0 0, .slice none 0 0, .slice none 0 0] : Array Value)[o]? := fun o => by
    rw [World.cell?_alloc_at _ _ _ _ (by simp)]
  exact ⟨e0 0, e0 1, e0 2, e0 3, e1 0, e1 1, e1 2, e1 3⟩

set_option maxHeartbeats 1600000 in
theorem made_good (pg al : Nat) (c d b : Int) (v : Value) (ms : List Int) (w : World) (hg : geoE c d b pg = 0) (hal : c * d * b = al) (hm : Ints w v ms) (hml : ms.length ≤ 9223372036854775807) (hok : okM al ms = true) :
    Calls Try.prog 6 #[four c d b pg, .int .i64 (-1), .agg #[.slice none 0 0, .slice none 0 0, .slice none 0 0, .slice none 0 0], v] w (MadeP c d b pg al ms w) := by
  have NW := fun (pb db : Nat) (V : Nat → Value) (x : World) (hx : w.grownBy x none) (hp : PowAt x pb (-1) false 0) (hd : DrAt x db V noZs (fun _ => 0) (fun _ => 0)) (hV : ∀ j, j < 4 → ∀ k, (V j).ownBlock = some k → k < x.heap.size ∧ k ≠ pb) (hne : pb ≠ db) =>
    (new7_any pb db pg al c d b v ms x hg hal (hm.kept hx (by simp)) hml hp hd hV hne).mono (fun e w' (h : NewP7 c d b pg pb db al ms V noZs (-1) false 0 (fun _ => 0) (fun _ => 0) x e w') => (show Fresh c d b pg pb db al ms V noZs (-1) false 0 (fun _ => 0) (fun _ => 0) x e w' from by unfold NewP7 at h; rwa [if_pos hok] at h))
  obtain ⟨ao, cp, bb, oo, hv, _⟩ := hm.form
  subst hv
  clear hm hg hal hml hok
  have hE2 : w.grownBy ((w.alloc (fourObj c d b pg 23)).alloc (.cells #[.slice none 0 0, .slice none 0 0, .slice none 0 0, .slice none 0 0] 34)) none := grown_alloc (World.grownBy_alloc w _ none) _
  have hB2 := boxM w c d b pg 23 34
  unfold four fourObj at *
  have HE2 := Lib.hid (And.intro hE2 hB2)
  clear hE2 hB2
  go_enter Try.func6, Try.ntmps6
  go_wp2_with (first
    | (go_at_call 16; refine (newPow_is (-1) _).mono ?_; rintro e w1 ⟨pb, rfl, hp1, hg1, hb1⟩; obtain ⟨x0, x1, x2, x3, y0, y1, y2, y3⟩ := HE2.out.2.ext hg1)
    | (go_at_call 17; refine (newD_none _).mono ?_; rintro e w2 ⟨db, V, rfl, hd2, hg2, hb2, hv2⟩; obtain ⟨x0, x1, x2, x3, y0, y1, y2, y3⟩ := (HE2.out.2.ext hg1).ext hg2)
    | (go_at_call 18; refine (NW pb db V w2 (gb_trans7 (gb_trans7 HE2.out.1 hg1) hg2) (hp1.other hg2 hp1.lt (by simp)) hd2 (fun j hj k hk => by have h1 := hv2 j hj k hk; have h2 := hp1.lt; omega) (by have h2 := hp1.lt; omega)).mono ?_; rintro e w3 ⟨S, hR, ⟨q1, q2, q3, q4, q5, q6, q7, q8⟩, rfl, hN, hg3, hT⟩; subst q1; have HQ := Lib.hid (And.intro q2 (And.intro q3 (And.intro q4 (And.intro q5 (And.intro q6 (And.intro q7 q8)))))); clear q2 q3 q4 q5 q6 q7 q8))
  have s1 := HE2.out.1.size
  have s2 := hg1.size
  have s3 := hg2.size
  refine bodyPost_ret (v := .tuple #[.pointer (some ⟨S.nb, 0, none⟩), .pointer (some ⟨S.pb, 0, none⟩), .int .i64 0]) (by simp [results, Try.results6, go_sem]) rfl ⟨S, V, hR, HQ.out.2, rfl, hN, gb_trans7 (gb_trans7 (gb_trans7 HE2.out.1 hg1) hg2) hg3, fun k hk => ?_⟩
  have h1 := hT k hk
  have h2 := HQ.out.1
  omega

theorem made_geo (c d b p : Int) (v : Value) (w : World) (hg : geoE c d b p ≠ 0) :
    Calls Try.prog 6 #[four c d b p, .int .i64 (-1), .agg #[.slice none 0 0, .slice none 0 0, .slice none 0 0, .slice none 0 0], v] w fun e w' => ∃ pb, e = .returned (.tuple #[.pointer none, .pointer (some ⟨pb, 0, none⟩), .int .i64 (geoE c d b p)]) ∧ w.grownBy w' none := by
  have NW := fun (pb db : Nat) (x : World) => new7_geo pb db c d b p v x hg
  have hE2 : w.grownBy ((w.alloc (fourObj c d b p 23)).alloc (.cells #[.slice none 0 0, .slice none 0 0, .slice none 0 0, .slice none 0 0] 34)) none := grown_alloc (World.grownBy_alloc w _ none) _
  have hB2 := boxM w c d b p 23 34
  generalize geoE c d b p = x at *
  clear hg
  unfold four fourObj at *
  have HE2 := Lib.hid (And.intro hE2 hB2)
  clear hE2 hB2
  go_enter Try.func6, Try.ntmps6
  go_wp2_with (first
    | (go_at_call 16; refine (newPow_is (-1) _).mono ?_; rintro e w1 ⟨pb, rfl, hp1, hg1, hb1⟩; obtain ⟨x0, x1, x2, x3, y0, y1, y2, y3⟩ := HE2.out.2.ext hg1)
    | (go_at_call 17; refine (newD_none _).mono ?_; rintro e w2 ⟨db, V, rfl, hd2, hg2, hb2, hv2⟩; obtain ⟨x0, x1, x2, x3, y0, y1, y2, y3⟩ := (HE2.out.2.ext hg1).ext hg2)
    | (go_at_call 18; refine (NW _ _ _).mono ?_; rintro e w3 ⟨rfl, hg3⟩))
  refine bodyPost_ret (v := .tuple #[.pointer none, .pointer (some ⟨pb, 0, none⟩), .int .i64 x]) (by simp [results, Try.results6, go_sem]) rfl ⟨pb, rfl, gb_trans7 (gb_trans7 (gb_trans7 HE2.out.1 hg1) hg2) hg3⟩

end Go.Proofs.Ytaobamnfgpllcaa
