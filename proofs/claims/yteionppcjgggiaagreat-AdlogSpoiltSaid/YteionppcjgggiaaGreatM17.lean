/-
  Texts put together: KH.
-/
import Derived.Test.YteionppcjgggiaaGreatM16
/-
  What the pages tell, where ledgers and what is none are written into block 1.
-/
namespace Go.Proofs.YteionppcjgggiaaGreat
set_option linter.unusedVariables false
set_option linter.unusedSimpArgs false
set_option maxRecDepth 100000
open Go.RowKit

theorem nextN_eq {f : Nat → Pg} {k : Nat} : ∀ {n : Nat}, k ≤ n → (∀ i, k ≤ i → i < n → (f i).st = 0) → (0 < k → (f (k - 1)).st ≠ 0) → nextN f n = k
  | 0, h, _, _ => by show 0 = k; omega
  | n + 1, h, h0, h1 => by
    unfold nextN
    by_cases e : k = n + 1
    · subst e
      rw [if_neg (by simpa using h1 (by omega))]
    · rw [if_pos (h0 n (by omega) (by omega))]
      exact nextN_eq (by omega) (fun i a b => h0 i a (by omega)) h1
theorem nextN_upd {f : Nat → Pg} {n j : Nat} {x : Pg} (hj : j = nextN f n) (hn : j < n) (hx : x.st ≠ 0) : nextN (fun j' => if j' = j then x else f j') n = j + 1 := by
  refine nextN_eq (by omega) (fun i a b => ?_) (fun _ => ?_)
  · show (if i = j then x else f i).st = 0
    rw [if_neg (by omega)]
    exact nextN_past f n i (by omega) b
  · show (if j + 1 - 1 = j then x else f (j + 1 - 1)).st ≠ 0
    rw [if_pos (by omega)]
    exact hx
theorem scanN_same {n p : Int} {b : Nat} {f g : Nat → Pg} {acc : Option (Led × Nat)} : ∀ k, (∀ i, i < k → f i = g i) → scanN n p b f acc k = scanN n p b g acc k
  | 0, _ => rfl
  | k + 1, h => by rw [scanN, scanN, scanN_same k (fun i hi => h i (by omega)), h k (by omega)]
/-- One page more in block 1. -/
theorem newest_upd {n p : Int} {pg j : Nat} {L : Nat → Nat → Pg} {x : Pg} (hj : j = nextN (L 1) pg) (hn : j < pg) (hx : x.st ≠ 0) : newestN n p pg (updL L 1 j x) = stepN n p 1 (newestN n p pg L) x := by
  have e0 : updL L 1 j x 0 = L 0 := by unfold updL; rw [if_neg (by decide)]
  have e1 : updL L 1 j x 1 = fun j' => if j' = j then x else L 1 j' := by unfold updL; rw [if_pos rfl]
  unfold newestN
  subst hj
  rw [e0, e1]
  have h1 := scanN_all (n := n) (p := p) (b := 1) (f := fun j' => if j' = nextN (L 1) pg then x else L 1 j') (acc := scanN n p 0 (L 0) none pg) (pg := pg)
  rw [nextN_upd rfl hn hx, scanN, if_pos rfl, scanN_same (g := L 1) (nextN (L 1) pg) (fun i hi => by rw [if_neg (by omega)]), scanN_all] at h1
  exact h1.symm

/-- The newest ledger of the pages, as the law keeps it. -/
def WantN (r : Option (Led × Nat)) (there : Bool) (want : Led) : Prop := match r with
  | none => there = false ∧ want = noLed
  | some (l, _) => there = true ∧ EqL l want
theorem WantN.led {r : Option (Led × Nat)} {there : Bool} {want : Led} (h : WantN r there want) : EqL (ledOf r) want := by
  cases r with
  | none => obtain ⟨_, rfl⟩ := h; exact EqL.refl _
  | some q => exact h.2
theorem WantN.junk {n p : Int} {b : Nat} {x : Pg} {r : Option (Led × Nat)} {there : Bool} {want : Led} (h : WantN r there want) (hx : pgLed n p x = none) : WantN (stepN n p b r x) there want := by rw [stepN_none hx]; exact h
theorem WantN.first {n p : Int} {b : Nat} {x : Pg} {r : Option (Led × Nat)} {want m y : Led} (h : WantN r false want) (hx : pgLed n p x = some m) (he : EqL m y) : WantN (stepN n p b r x) true y := by
  cases r with
  | none => unfold stepN; rw [hx]; exact ⟨rfl, he⟩
  | some q => exact absurd h.1 (by decide)
theorem WantN.newer {n p : Int} {b : Nat} {x : Pg} {r : Option (Led × Nat)} {want m y : Led} (h : WantN r true want) (hx : pgLed n p x = some m) (he : EqL m y) (hg : want.gen < y.gen) : WantN (stepN n p b r x) true y := by
  cases r with
  | none => exact absurd h.1 (by decide)
  | some q =>
    obtain ⟨l, c⟩ := q
    have h1 := h.2.gen
    have h2 := he.gen
    unfold stepN; rw [hx]; simp only
    rw [if_pos (by omega)]
    exact ⟨rfl, he⟩
theorem WantN.older {n p : Int} {b : Nat} {x : Pg} {r : Option (Led × Nat)} {want m y : Led} (h : WantN r true want) (hx : pgLed n p x = some m) (he : EqL m y) (hg : ¬ want.gen < y.gen) : WantN (stepN n p b r x) true want := by
  cases r with
  | none => exact absurd h.1 (by decide)
  | some q =>
    obtain ⟨l, c⟩ := q
    have h1 := h.2.gen
    have h2 := he.gen
    unfold stepN; rw [hx]; simp only
    rw [if_neg (by omega)]
    exact h
theorem blank_want (n p bud : Int) (pg : Nat) : WantN (newestN n p pg (blankS [] bud false 0 (fun _ => 0) (fun _ => 0)).L) false noLed := by
  have h : newestN n p pg (blankS [] bud false 0 (fun _ => 0) (fun _ => 0)).L = none := by
    cases hn : newestN n p pg (blankS [] bud false 0 (fun _ => 0) (fun _ => 0)).L with
    | none => rfl
    | some q =>
      obtain ⟨_, ⟨j, _, hj⟩, _⟩ := newest_some (l := q.1) (b := q.2) hn
      rw [pgLed_blank (show (0 : Int) ≠ 1 by decide)] at hj
      cases hj
  rw [h]
  exact ⟨rfl, rfl⟩

/-- What stands while pages are written; m: as many at most. -/
structure Spo (w0 w : World) (S : NShape) (V : Nat → Value) (s : NS) (NB : Nat) (now : Led) (Vn : Nat → Value) (there : Bool) (want : Led) (m : Nat) (c : Int) : Prop where
  nd : NandAt w S V noZs s
  tells : WantN (newestN S.all S.p S.pg s.L) there want
  calm : Calm s c
  nx : nextN (s.L 1) S.pg ≤ m
  mr : s.mr 1 = false
  sm : Beside (· = []) s
  nb : Blk w NB 36 (ledC now Vn)
  is : LedIs w0 now Vn
  len : ∀ j, j < 4 → (now.t j).bs.length ≤ 40
  t0 : S.T NB = 0
  lo : ∀ k, S.T k ≠ 0 → w0.heap.size ≤ k
  ext : Ext w0 w
theorem Spo.next {w0 w w' : World} {S : NShape} {V : Nat → Value} {s : NS} {NB : Nat} {now want : Led} {Vn : Nat → Value} {there : Bool} {m : Nat} {c : Int} (h : Spo w0 w S V s NB now Vn there want m c) (hR : Roles S) (hE : Ext w w') : Spo w0 w' S V s NB now Vn there want m c :=
  ⟨h.nd.ext hE hR, h.tells, h.calm, h.nx, h.mr, h.sm, h.nb.ext hE, h.is, h.len, h.t0, h.lo, ext_trans h.ext hE⟩
theorem Spo.mono {w0 w : World} {S : NShape} {V : Nat → Value} {s : NS} {NB : Nat} {now want : Led} {Vn : Nat → Value} {there : Bool} {m m' : Nat} {c c' : Int} (h : Spo w0 w S V s NB now Vn there want m c) (hm : m ≤ m') (hc : c ≤ c') : Spo w0 w S V s NB now Vn there want m' c' :=
  ⟨h.nd, h.tells, h.calm.mono hc, Nat.le_trans h.nx hm, h.mr, h.sm, h.nb, h.is, h.len, h.t0, h.lo, h.ext⟩
theorem Spo.put {w0 w w' : World} {S : NShape} {V : Nat → Value} {s : NS} {NB : Nat} {now want x : Led} {Vn VX : Nat → Value} {there : Bool} {m : Nat} {c : Int} (h : Spo w0 w S V s NB now Vn there want m c) (hR : Roles S) (hb : Blk w' NB 36 (ledC x VX)) (hg : w.grownBy w' (some NB)) (hNB : w0.heap.size ≤ NB)
    (hi : LedIs w0 x VX) (hl : ∀ j, j < 4 → (x.t j).bs.length ≤ 40) : Spo w0 w' S V s NB x VX there want m c :=
  ⟨h.nd.other0 hR hg h.t0 h.sm, h.tells, h.calm, h.nx, h.mr, h.sm, hb, hi, hl, h.t0, h.lo, grown_trans h.ext hg (fun p hp hlt => by injection hp with hp; omega)⟩
theorem Spo.write {w0 w : World} {S : NShape} {V : Nat → Value} {s : NS} {NB : Nat} {now want : Led} {Vn : Nat → Value} {there : Bool} {m : Nat} {c : Int} (h : Spo w0 w S V s NB now Vn there want m c) (hR : Roles S) (hc : c < 80000) (h2 : 2 ≤ S.all) (hm : m < S.pg) (who : Int) {dt : ByteArray} (hd : dt.size ≤ 160) :
    Calls Tryz.prog 8 #[.pointer (some ⟨S.nb, 0, none⟩), .int .i64 who, .int .i64 1, .int .i64 (nextN (s.L 1) S.pg : Nat), .slice none 0 0, .string dt] w (Goes S V noZs (.int .i64 0) (progDone 1 (nextN (s.L 1) S.pg) ⟨1, [], dt⟩ s who) w) :=
  prog_good (i := 1) h.nd hR h.calm hc (by omega) (by have := h.nx; omega) h.mr rfl (.inl ⟨rfl, rfl⟩) (by simp) (by simp) hd
theorem Spo.wrote {w0 w w' : World} {S : NShape} {V : Nat → Value} {s : NS} {NB : Nat} {now want want' : Led} {Vn : Nat → Value} {there there' : Bool} {m : Nat} {c who : Int} {dt : ByteArray} (h : Spo w0 w S V s NB now Vn there want m c) (hm : m < S.pg)
    (hN : NandAt w' S V noZs (progDone 1 (nextN (s.L 1) S.pg) ⟨1, [], dt⟩ s who)) (hk : Keeps S.T w w') (hT : WantN (stepN S.all S.p 1 (newestN S.all S.p S.pg s.L) ⟨1, [], dt⟩) there' want') (hd : dt.size ≤ 160) :
    Spo w0 w' S V (progDone 1 (nextN (s.L 1) S.pg) ⟨1, [], dt⟩ s who) NB now Vn there' want' (m + 1) (c + 2) := by
  have hnx := h.nx
  refine ⟨hN, ?_, progDone_calm _ _ _ _ h.calm, ?_, by rw [progDone_mr]; exact h.mr, fun i j => ?_, (hk.block NB h.nb.lt h.t0).trans h.nb, h.is, h.len, h.t0, h.lo, Keeps.grown h.ext hk h.lo⟩
  · rw [progDone_L, newest_upd rfl (by omega) (show (1 : Int) ≠ 0 by decide)]; exact hT
  · rw [progDone_L]; unfold updL
    rw [if_pos rfl, nextN_upd rfl (by omega) (show (1 : Int) ≠ 0 by decide)]
    omega
  · rw [progDone_L]; unfold updL
    split
    · simp only; split
      · exact ⟨rfl, hd, .inr (.inl rfl)⟩
      · exact h.sm _ _
    · exact h.sm _ _

/-- Few ledgers, few strings. -/
def LedsF (w : World) (a : Option Addr) (len cap : Nat) (Ls : Nat → Led) (Vs : Nat → Nat → Value) : Prop := len ≤ cap ∧ cap ≤ 9223372036854775807 ∧ IsLeds w a len cap Ls Vs ∧ ∀ i, i < len → ∀ j, j < 4 → ((Ls i).t j).bs.length ≤ 40
def StrsF (w : World) (a : Option Addr) (len cap : Nat) (ss : Nat → ByteArray) : Prop := len ≤ cap ∧ cap ≤ 9223372036854775807 ∧ ∀ i, i < len → (∃ b off, a = some ⟨b, off, none⟩ ∧ w.cell? ⟨b, off + i, none⟩ = some (.string (ss i)) ∧ b < w.heap.size) ∧ (ss i).size ≤ 140737488351232
theorem LedsF.rest {w : World} {b off n cap : Nat} {Ls : Nat → Led} {Vs : Nat → Nat → Value} (h : LedsF w (some ⟨b, off, none⟩) (n + 1) cap Ls Vs) : LedsF w (some ⟨b, off + 22, none⟩) n (cap - 1) (fun i => Ls (i + 1)) (fun i => Vs (i + 1)) := by
  obtain ⟨h1, h2, ⟨h3, h4⟩, h5⟩ := h
  refine ⟨by omega, by omega, ⟨by omega, fun i hi => ?_⟩, fun i hi => h5 (i + 1) (by omega)⟩
  obtain ⟨⟨b', off', e, hr, hb⟩, hC⟩ := h4 (i + 1) (by omega)
  injection e with e
  injection e with e1 e2
  subst e1; subst e2
  exact ⟨⟨b, off + 22, rfl, by rw [show off + 22 + i * 22 = off + (i + 1) * 22 by omega]; exact hr, hb⟩, hC⟩
theorem LedsF.nil {w : World} {a : Option Addr} {cap : Nat} {Ls : Nat → Led} {Vs : Nat → Nat → Value} (h : cap ≤ 9223372036854775807) : LedsF w a 0 cap Ls Vs := ⟨Nat.zero_le _, h, ⟨Nat.zero_le _, fun i hi => by omega⟩, fun i hi => by omega⟩
theorem StrsF.rest {w : World} {b off n cap : Nat} {ss : Nat → ByteArray} (h : StrsF w (some ⟨b, off, none⟩) (n + 1) cap ss) : StrsF w (some ⟨b, off + 1, none⟩) n (cap - 1) (fun i => ss (i + 1)) := by
  obtain ⟨h1, h2, h3⟩ := h
  refine ⟨by omega, by omega, fun i hi => ?_⟩
  obtain ⟨⟨b', off', e, hr, hb⟩, hC⟩ := h3 (i + 1) (by omega)
  injection e with e
  injection e with e1 e2
  subst e1; subst e2
  exact ⟨⟨b, off + 1, rfl, by rw [show off + 1 + i = off + (i + 1) by omega]; exact hr, hb⟩, hC⟩
theorem StrsF.nil {w : World} {a : Option Addr} {cap : Nat} {ss : Nat → ByteArray} (h : cap ≤ 9223372036854775807) : StrsF w a 0 cap ss := ⟨Nat.zero_le _, h, fun i hi => by omega⟩
theorem LedsF.rest2 {w : World} {b off n cap : Nat} {Ls : Nat → Led} {Vs : Nat → Nat → Value} (h : LedsF w (some ⟨b, off, none⟩) (n + 1) cap Ls Vs) : LedsF w (if cap = 1 then some ⟨b, off, none⟩ else some ⟨b, off + 22, none⟩) n (cap - 1) (fun i => Ls (i + 1)) (fun i => Vs (i + 1)) := by
  split
  · have h1 := h.1
    have h2 := h.2.1
    obtain rfl : n = 0 := by omega
    exact LedsF.nil (by omega)
  · exact h.rest
theorem StrsF.rest2 {w : World} {b off n cap : Nat} {ss : Nat → ByteArray} (h : StrsF w (some ⟨b, off, none⟩) (n + 1) cap ss) : StrsF w (if cap = 1 then some ⟨b, off, none⟩ else some ⟨b, off + 1, none⟩) n (cap - 1) (fun i => ss (i + 1)) := by
  split
  · have h1 := h.1
    have h2 := h.2.1
    obtain rfl : n = 0 := by omega
    exact StrsF.nil (by omega)
  · exact h.rest

end Go.Proofs.YteionppcjgggiaaGreat
