/-
  Package nand: the array in memory. Each of its blocks has a role; blocks without a role are nobody's, or data that is never turned.
-/
import Derived.Test.YtaobamnfgpllcaaDC
import Derived.Test.YtaobamnfgpllcaaPB
import Derived.Test.YtaobamnfgpllcaaGB
import Derived.Test.YtaobamnfgpllcaaWB
namespace Go.Proofs.Ytaobamnfgpllcaa
open Go.RowKit

/-- A page: its state (0 blank, 1 written, 2 torn), what stands beside it, its data. -/
structure Pg where
  st : Int
  bs : List Int
  dt : ByteArray
def Pg.none (x : Int) : Pg := ⟨x, [], ⟨#[]⟩⟩

/-- Where an array stands; roles: 1 the struct, 2 its rows' row, 3 marks, 4 counts, 5 the power, 6 the draws, 8 + i the row of block i; 0 no role. -/
structure NShape where
  nb : Nat
  bl : Nat
  bm : Nat
  be : Nat
  pb : Nat
  db : Nat
  row : Nat → Nat
  T : Nat → Nat
  c : Int
  d : Int
  b : Int
  p : Int
  all : Nat
  pg : Nat

/-- What an array is: pages, marks, counts; the power's budget, whether it is gone, its count; the draws' counts. -/
structure NS where
  L : Nat → Nat → Pg
  mr : Nat → Bool
  er : Nat → Int
  px : Int
  off : Bool
  po : Int
  N : Nat → Int
  M : Nat → Int

structure RowAt (w : World) (T : Nat → Nat) (k pg : Nat) (f : Nat → Pg) : Prop where
  st : ∀ j, j < pg → w.cell? ⟨k, j * 3, none⟩ = some (.int .i64 (f j).st)
  bs : ∀ j, j < pg → ∃ v, w.cell? ⟨k, j * 3 + 1, none⟩ = some v ∧ Bts w v (f j).bs ∧ ∀ q, v.ownBlock = some q → T q = 0
  dt : ∀ j, j < pg → w.cell? ⟨k, j * 3 + 2, none⟩ = some (.string (f j).dt)
  free : ∀ o, w.frozen? ⟨k, o, none⟩ = false

structure FixAt (w : World) (S : NShape) : Prop where
  g0 : w.cell? ⟨S.nb, 0, none⟩ = some (.int .i64 S.c)
  g1 : w.cell? ⟨S.nb, 1, none⟩ = some (.int .i64 S.d)
  g2 : w.cell? ⟨S.nb, 2, none⟩ = some (.int .i64 S.b)
  g3 : w.cell? ⟨S.nb, 3, none⟩ = some (.int .i64 S.p)
  cp : w.cell? ⟨S.nb, 4, none⟩ = some (.pointer (some ⟨S.pb, 0, none⟩))
  cd : w.cell? ⟨S.nb, 5, none⟩ = some (.pointer (some ⟨S.db, 0, none⟩))
  cl : w.cell? ⟨S.nb, 6, none⟩ = some (.slice (some ⟨S.bl, 0, none⟩) S.all S.all)
  cm : w.cell? ⟨S.nb, 7, none⟩ = some (.slice (some ⟨S.bm, 0, none⟩) S.all S.all)
  ce : w.cell? ⟨S.nb, 8, none⟩ = some (.slice (some ⟨S.be, 0, none⟩) S.all S.all)
  rows : ∀ i, i < S.all → w.cell? ⟨S.bl, i, none⟩ = some (.slice (some ⟨S.row i, 0, none⟩) S.pg S.pg)

/-- The roles; the sizes. -/
structure Roles (S : NShape) : Prop where
  tn : S.T S.nb = 1
  tl : S.T S.bl = 2
  tm : S.T S.bm = 3
  te : S.T S.be = 4
  tp : S.T S.pb = 5
  td : S.T S.db = 6
  tr : ∀ i, i < S.all → S.T (S.row i) = 8 + i
  geo : geoE S.c S.d S.b S.p = 0
  alls : (S.all : Int) = S.c * S.d * S.b
  pgs : (S.pg : Int) = S.p

structure NandAt (w : World) (S : NShape) (V : Nat → Value) (zs : Nat → List Int) (s : NS) : Prop where
  fix : FixAt w S
  row : ∀ i, i < S.all → RowAt w S.T (S.row i) S.pg (s.L i)
  mks : ∀ i, i < S.all → w.cell? ⟨S.bm, i, none⟩ = some (.bool (s.mr i))
  mkf : ∀ o, w.frozen? ⟨S.bm, o, none⟩ = false
  ers : ∀ i, i < S.all → w.cell? ⟨S.be, i, none⟩ = some (.int .i64 (s.er i))
  erf : ∀ o, w.frozen? ⟨S.be, o, none⟩ = false
  pow : PowAt w S.pb s.px s.off s.po
  drs : DrAt w S.db V zs s.N s.M
  tv : ∀ j, j < 4 → ∀ k, (V j).ownBlock = some k → S.T k = 0
  hi : ∀ k, S.T k ≠ 0 → k < w.heap.size

theorem Roles.bds {S : NShape} (h : Roles S) : 3 ≤ S.all ∧ S.all ≤ 64 ∧ 2 ≤ S.pg ∧ S.pg ≤ 16 := by
  obtain ⟨_, _, _, h4, h5, h6⟩ := geo_ok h.geo
  have := h.alls
  have := h.pgs
  omega

/-- What has no role stands; there may be more. -/
structure Keeps (T : Nat → Nat) (w w' : World) : Prop where
  os : w'.os = w.os
  tape : w'.tape = w.tape
  output : w'.output = w.output
  size : w.heap.size ≤ w'.heap.size
  block : ∀ k, k < w.heap.size → T k = 0 → w'.heap[k]? = w.heap[k]?
theorem Keeps.refl (T : Nat → Nat) (w : World) : Keeps T w w := ⟨rfl, rfl, rfl, Nat.le_refl _, fun _ _ _ => rfl⟩
theorem Keeps.trans {T : Nat → Nat} {w w1 w2 : World} (h : Keeps T w w1) (h2 : Keeps T w1 w2) : Keeps T w w2 :=
  ⟨h2.os.trans h.os, h2.tape.trans h.tape, h2.output.trans h.output, Nat.le_trans h.size h2.size, fun k hk ht => (h2.block k (Nat.lt_of_lt_of_le hk h.size) ht).trans (h.block k hk ht)⟩
theorem Keeps.ext {T : Nat → Nat} {w w1 : World} (h : w.grownBy w1 none) : Keeps T w w1 := ⟨h.os, h.tape, h.output, h.size, fun k hk _ => h.block k hk (by simp)⟩
theorem Keeps.own {T : Nat → Nat} {w w1 : World} {r : Nat} (h : w.grownBy w1 (some r)) (hr : T r ≠ 0) : Keeps T w w1 :=
  ⟨h.os, h.tape, h.output, h.size, fun k hk ht => h.block k hk (fun e => by cases e; exact hr ht)⟩
theorem Keeps.bts {T : Nat → Nat} {w w1 : World} (h : Keeps T w w1) {v : Value} {xs : List Int} (hb : Bts w v xs) (hv : ∀ q, v.ownBlock = some q → T q = 0) : Bts w1 v xs := by
  rcases hb with hb | ⟨b, off, cap, rfl, h2, h3⟩
  · exact .inl hb
  · exact .inr ⟨b, off, cap, rfl, h2, fun i hi => (World.cell?_of_block (h.block b (World.block_lt_of_cell? w _ (h3 i hi)) (hv b rfl))).trans (h3 i hi)⟩
theorem Keeps.ints {T : Nat → Nat} {w w1 : World} (h : Keeps T w w1) {v : Value} {xs : List Int} (hb : Ints w v xs) (hv : ∀ q, v.ownBlock = some q → T q = 0) : Ints w1 v xs := by
  rcases hb with hb | ⟨b, off, cap, rfl, h2, h3⟩
  · exact .inl hb
  · exact .inr ⟨b, off, cap, rfl, h2, fun i hi => (World.cell?_of_block (h.block b (World.block_lt_of_cell? w _ (h3 i hi)) (hv b rfl))).trans (h3 i hi)⟩

/-- One block k of a role stands, and so does what has none. -/
theorem RowAt.stays {w w' : World} {T : Nat → Nat} {k pg : Nat} {f : Nat → Pg} (h : RowAt w T k pg f) (hk : Keeps T w w') (hb : w'.heap[k]? = w.heap[k]?) : RowAt w' T k pg f :=
  ⟨fun j hj => (World.cell?_of_block hb).trans (h.st j hj), fun j hj => by
    obtain ⟨v, h1, h2, h3⟩ := h.bs j hj
    exact ⟨v, (World.cell?_of_block hb).trans h1, hk.bts h2 h3, h3⟩, fun j hj => (World.cell?_of_block hb).trans (h.dt j hj), fun o => (World.frozen?_of_block hb).trans (h.free o)⟩
theorem FixAt.stays {w w' : World} {S : NShape} (h : FixAt w S) (h1 : w'.heap[S.nb]? = w.heap[S.nb]?) (h2 : w'.heap[S.bl]? = w.heap[S.bl]?) : FixAt w' S :=
  ⟨(World.cell?_of_block h1).trans h.g0, (World.cell?_of_block h1).trans h.g1, (World.cell?_of_block h1).trans h.g2, (World.cell?_of_block h1).trans h.g3, (World.cell?_of_block h1).trans h.cp, (World.cell?_of_block h1).trans h.cd,
    (World.cell?_of_block h1).trans h.cl, (World.cell?_of_block h1).trans h.cm, (World.cell?_of_block h1).trans h.ce, fun i hi => (World.cell?_of_block h2).trans (h.rows i hi)⟩
theorem PowAt.stays {w w' : World} {b : Nat} {x : Int} {g : Bool} {o : Int} (h : PowAt w b x g o) (e : w'.heap[b]? = w.heap[b]?) : PowAt w' b x g o :=
  ⟨(World.cell?_of_block e).trans h.c0, (World.cell?_of_block e).trans h.c1, (World.cell?_of_block e).trans h.c2, (World.frozen?_of_block e).trans h.f0, (World.frozen?_of_block e).trans h.f1, (World.frozen?_of_block e).trans h.f2⟩
theorem DrAt.stays {w w' : World} {T : Nat → Nat} {b : Nat} {V : Nat → Value} {zs : Nat → List Int} {N M : Nat → Int} (h : DrAt w b V zs N M) (hk : Keeps T w w') (e : w'.heap[b]? = w.heap[b]?) (hv : ∀ j, j < 4 → ∀ k, (V j).ownBlock = some k → T k = 0) : DrAt w' b V zs N M :=
  ⟨fun j hj => (World.cell?_of_block e).trans (h.row j hj), fun j hj => (World.cell?_of_block e).trans (h.ops j hj), fun j hj => (World.cell?_of_block e).trans (h.bad j hj), fun o => (World.frozen?_of_block e).trans (h.free o), fun j hj => hk.ints (h.ints j hj) (hv j hj), h.apart⟩

section
variable {w w' : World} {S : NShape} {V : Nat → Value} {zs : Nat → List Int} {s : NS}

/-- Only new memory. -/
theorem NandAt.ext (h : NandAt w S V zs s) (hg : w.grownBy w' none) (hR : Roles S) : NandAt w' S V zs s := by
  have kp : Keeps S.T w w' := .ext hg
  have e : ∀ k, S.T k ≠ 0 → w'.heap[k]? = w.heap[k]? := fun k hk => hg.block k (h.hi k hk) (by simp)
  have e3 := e S.bm (by rw [hR.tm]; decide)
  have e4 := e S.be (by rw [hR.te]; decide)
  exact ⟨h.fix.stays (e _ (by rw [hR.tn]; decide)) (e _ (by rw [hR.tl]; decide)), fun i hi => (h.row i hi).stays kp (e _ (by rw [hR.tr i hi]; omega)), fun i hi => (World.cell?_of_block e3).trans (h.mks i hi), fun o => (World.frozen?_of_block e3).trans (h.mkf o),
    fun i hi => (World.cell?_of_block e4).trans (h.ers i hi), fun o => (World.frozen?_of_block e4).trans (h.erf o), h.pow.stays (e _ (by rw [hR.tp]; decide)), h.drs.stays kp (e _ (by rw [hR.td]; decide)) h.tv, h.tv, fun k hk => Nat.lt_of_lt_of_le (h.hi k hk) hg.size⟩

/-- One block of a role is turned: all others stand. -/
theorem NandAt.others (h : NandAt w S V zs s) {r : Nat} (hg : w.grownBy w' (some r)) {k : Nat} (hk : S.T k ≠ 0) (hr : S.T k ≠ S.T r) : w'.heap[k]? = w.heap[k]? :=
  hg.block k (h.hi k hk) (fun e => hr (by cases e; rfl))

theorem NandAt.power (h : NandAt w S V zs s) (hR : Roles S) (hg : w.grownBy w' (some S.pb)) {x : Int} {g : Bool} {o : Int} (hp : PowAt w' S.pb x g o) : NandAt w' S V zs { s with px := x, off := g, po := o } := by
  have kp : Keeps S.T w w' := .own hg (by rw [hR.tp]; decide)
  have e : ∀ k, S.T k ≠ 0 → S.T k ≠ 5 → w'.heap[k]? = w.heap[k]? := fun k hk h5 => h.others hg hk (by rw [hR.tp]; exact h5)
  have e3 := e S.bm (by rw [hR.tm]; decide) (by rw [hR.tm]; decide)
  have e4 := e S.be (by rw [hR.te]; decide) (by rw [hR.te]; decide)
  exact ⟨h.fix.stays (e _ (by rw [hR.tn]; decide) (by rw [hR.tn]; decide)) (e _ (by rw [hR.tl]; decide) (by rw [hR.tl]; decide)), fun i hi => (h.row i hi).stays kp (e _ (by rw [hR.tr i hi]; omega) (by rw [hR.tr i hi]; omega)), fun i hi => (World.cell?_of_block e3).trans (h.mks i hi), fun o => (World.frozen?_of_block e3).trans (h.mkf o),
    fun i hi => (World.cell?_of_block e4).trans (h.ers i hi), fun o => (World.frozen?_of_block e4).trans (h.erf o), hp, h.drs.stays kp (e _ (by rw [hR.td]; decide) (by rw [hR.td]; decide)) h.tv, h.tv, fun k hk => Nat.lt_of_lt_of_le (h.hi k hk) hg.size⟩

theorem NandAt.draws (h : NandAt w S V zs s) (hR : Roles S) (hg : w.grownBy w' (some S.db)) {N M : Nat → Int} (hd : DrAt w' S.db V zs N M) : NandAt w' S V zs { s with N := N, M := M } := by
  have kp : Keeps S.T w w' := .own hg (by rw [hR.td]; decide)
  have e : ∀ k, S.T k ≠ 0 → S.T k ≠ 6 → w'.heap[k]? = w.heap[k]? := fun k hk h5 => h.others hg hk (by rw [hR.td]; exact h5)
  have e3 := e S.bm (by rw [hR.tm]; decide) (by rw [hR.tm]; decide)
  have e4 := e S.be (by rw [hR.te]; decide) (by rw [hR.te]; decide)
  exact ⟨h.fix.stays (e _ (by rw [hR.tn]; decide) (by rw [hR.tn]; decide)) (e _ (by rw [hR.tl]; decide) (by rw [hR.tl]; decide)), fun i hi => (h.row i hi).stays kp (e _ (by rw [hR.tr i hi]; omega) (by rw [hR.tr i hi]; omega)), fun i hi => (World.cell?_of_block e3).trans (h.mks i hi), fun o => (World.frozen?_of_block e3).trans (h.mkf o),
    fun i hi => (World.cell?_of_block e4).trans (h.ers i hi), fun o => (World.frozen?_of_block e4).trans (h.erf o), h.pow.stays (e _ (by rw [hR.tp]; decide) (by rw [hR.tp]; decide)), hd, h.tv, fun k hk => Nat.lt_of_lt_of_le (h.hi k hk) hg.size⟩

/-- The row of a block is another one. -/
theorem NandAt.turnRow (h : NandAt w S V zs s) (hR : Roles S) {i : Nat} (hi : i < S.all) (hg : w.grownBy w' (some (S.row i))) {f : Nat → Pg} (hf : RowAt w' S.T (S.row i) S.pg f) :
    NandAt w' S V zs { s with L := fun i' => if i' = i then f else s.L i' } := by
  have kp : Keeps S.T w w' := .own hg (by rw [hR.tr i hi]; omega)
  have e : ∀ k, S.T k ≠ 0 → S.T k ≠ 8 + i → w'.heap[k]? = w.heap[k]? := fun k hk h5 => h.others hg hk (by rw [hR.tr i hi]; exact h5)
  have e3 := e S.bm (by rw [hR.tm]; decide) (by rw [hR.tm]; omega)
  have e4 := e S.be (by rw [hR.te]; decide) (by rw [hR.te]; omega)
  refine ⟨h.fix.stays (e _ (by rw [hR.tn]; decide) (by rw [hR.tn]; omega)) (e _ (by rw [hR.tl]; decide) (by rw [hR.tl]; omega)), fun i' hi' => ?_, fun i hi => (World.cell?_of_block e3).trans (h.mks i hi), fun o => (World.frozen?_of_block e3).trans (h.mkf o),
    fun i hi => (World.cell?_of_block e4).trans (h.ers i hi), fun o => (World.frozen?_of_block e4).trans (h.erf o), h.pow.stays (e _ (by rw [hR.tp]; decide) (by rw [hR.tp]; omega)), h.drs.stays kp (e _ (by rw [hR.td]; decide) (by rw [hR.td]; omega)) h.tv, h.tv, fun k hk => Nat.lt_of_lt_of_le (h.hi k hk) hg.size⟩
  by_cases e1 : i' = i
  · subst e1; simpa using hf
  · simp only [if_neg e1]
    exact (h.row i' hi').stays kp (e _ (by rw [hR.tr i' hi']; omega) (by rw [hR.tr i' hi']; omega))

theorem NandAt.mark (h : NandAt w S V zs s) (hR : Roles S) {i : Nat} (hi : i < S.all) (x : Bool) : NandAt (w.setCell ⟨S.bm, i, none⟩ (.bool x)) S V zs { s with mr := fun i' => if i' = i then x else s.mr i' } := by
  have hg := gb_set (gb_refl w (some S.bm)) i (.bool x)
  have kp : Keeps S.T w _ := .own hg (by rw [hR.tm]; decide)
  have e : ∀ k, S.T k ≠ 0 → S.T k ≠ 3 → (w.setCell ⟨S.bm, i, none⟩ (.bool x)).heap[k]? = w.heap[k]? := fun k hk h5 => h.others hg hk (by rw [hR.tm]; exact h5)
  have e4 := e S.be (by rw [hR.te]; decide) (by rw [hR.te]; decide)
  refine ⟨h.fix.stays (e _ (by rw [hR.tn]; decide) (by rw [hR.tn]; decide)) (e _ (by rw [hR.tl]; decide) (by rw [hR.tl]; decide)), fun i hi => (h.row i hi).stays kp (e _ (by rw [hR.tr i hi]; omega) (by rw [hR.tr i hi]; omega)), fun i' hi' => ?_, fun o => by simpa using h.mkf o,
    fun i hi => (World.cell?_of_block e4).trans (h.ers i hi), fun o => (World.frozen?_of_block e4).trans (h.erf o), h.pow.stays (e _ (by rw [hR.tp]; decide) (by rw [hR.tp]; decide)), h.drs.stays kp (e _ (by rw [hR.td]; decide) (by rw [hR.td]; decide)) h.tv, h.tv, fun k hk => Nat.lt_of_lt_of_le (h.hi k hk) hg.size⟩
  by_cases e1 : i' = i
  · subst e1; simp only [if_true]; exact World.cell?_setCell_same _ _ _ (h.mks i' hi')
  · simp only [if_neg e1]; exact (World.cell?_setCell_other _ _ _ _ (ne_off (by omega))).trans (h.mks i' hi')

theorem NandAt.count (h : NandAt w S V zs s) (hR : Roles S) {i : Nat} (hi : i < S.all) (x : Int) : NandAt (w.setCell ⟨S.be, i, none⟩ (.int .i64 x)) S V zs { s with er := fun i' => if i' = i then x else s.er i' } := by
  have hg := gb_set (gb_refl w (some S.be)) i (.int .i64 x)
  have kp : Keeps S.T w _ := .own hg (by rw [hR.te]; decide)
  have e : ∀ k, S.T k ≠ 0 → S.T k ≠ 4 → (w.setCell ⟨S.be, i, none⟩ (.int .i64 x)).heap[k]? = w.heap[k]? := fun k hk h5 => h.others hg hk (by rw [hR.te]; exact h5)
  have e3 := e S.bm (by rw [hR.tm]; decide) (by rw [hR.tm]; decide)
  refine ⟨h.fix.stays (e _ (by rw [hR.tn]; decide) (by rw [hR.tn]; decide)) (e _ (by rw [hR.tl]; decide) (by rw [hR.tl]; decide)), fun i hi => (h.row i hi).stays kp (e _ (by rw [hR.tr i hi]; omega) (by rw [hR.tr i hi]; omega)), fun i hi => (World.cell?_of_block e3).trans (h.mks i hi), fun o => (World.frozen?_of_block e3).trans (h.mkf o),
    fun i' hi' => ?_, fun o => by simpa using h.erf o, h.pow.stays (e _ (by rw [hR.tp]; decide) (by rw [hR.tp]; decide)), h.drs.stays kp (e _ (by rw [hR.td]; decide) (by rw [hR.td]; decide)) h.tv, h.tv, fun k hk => Nat.lt_of_lt_of_le (h.hi k hk) hg.size⟩
  by_cases e1 : i' = i
  · subst e1; simp only [if_true]; exact World.cell?_setCell_same _ _ _ (h.ers i' hi')
  · simp only [if_neg e1]; exact (World.cell?_setCell_other _ _ _ _ (ne_off (by omega))).trans (h.ers i' hi')
end

/-- One page's state is another one. -/
theorem RowAt.setSt {w : World} {T : Nat → Nat} {k pg : Nat} {f : Nat → Pg} (h : RowAt w T k pg f) (hT : T k ≠ 0) {j : Nat} (hj : j < pg) (x : Int) :
    RowAt (w.setCell ⟨k, j * 3, none⟩ (.int .i64 x)) T k pg (fun j' => if j' = j then { f j with st := x } else f j') := by
  have kp : Keeps T w (w.setCell ⟨k, j * 3, none⟩ (.int .i64 x)) := .own (gb_set (gb_refl w (some k)) _ _) hT
  refine ⟨fun j' hj' => ?_, fun j' hj' => ?_, fun j' hj' => ?_, fun o => by simpa using h.free o⟩
  · by_cases e : j' = j
    · subst e; simp only [if_true]; exact World.cell?_setCell_same _ _ _ (h.st j' hj')
    · simp only [if_neg e]; exact (World.cell?_setCell_other _ _ _ _ (ne_off (by omega))).trans (h.st j' hj')
  · obtain ⟨v, h1, h2, h3⟩ := h.bs j' hj'
    refine ⟨v, (World.cell?_setCell_other _ _ _ _ (ne_off (by omega))).trans h1, ?_, h3⟩
    by_cases e : j' = j
    · subst e; simpa using kp.bts h2 h3
    · simpa only [if_neg e] using kp.bts h2 h3
  · rw [World.cell?_setCell_other _ _ _ _ (ne_off (by omega)), h.dt j' hj']
    by_cases e : j' = j
    · subst e; simp
    · simp only [if_neg e]

/-- A whole page is another one. -/
theorem RowAt.setPg {w : World} {T : Nat → Nat} {k pg : Nat} {f : Nat → Pg} (h : RowAt w T k pg f) (hT : T k ≠ 0) {j : Nat} (hj : j < pg) (x : Pg) (v : Value) (hv : Bts w v x.bs) (hq : ∀ q, v.ownBlock = some q → T q = 0) :
    RowAt (((w.setCell ⟨k, j * 3, none⟩ (.int .i64 x.st)).setCell ⟨k, j * 3 + 1, none⟩ v).setCell ⟨k, j * 3 + 2, none⟩ (.string x.dt)) T k pg (fun j' => if j' = j then x else f j') := by
  have kp : Keeps T w (((w.setCell ⟨k, j * 3, none⟩ (.int .i64 x.st)).setCell ⟨k, j * 3 + 1, none⟩ v).setCell ⟨k, j * 3 + 2, none⟩ (.string x.dt)) := .own (gb_set (gb_set (gb_set (gb_refl w (some k)) _ _) _ _) _ _) hT
  refine ⟨fun j' hj' => ?_, fun j' hj' => ?_, fun j' hj' => ?_, fun o => by simpa using h.free o⟩
  · rw [World.cell?_setCell_other _ _ _ _ (ne_off (by omega)), World.cell?_setCell_other _ _ _ _ (ne_off (by omega))]
    by_cases e : j' = j
    · subst e; simp only [if_true]; exact World.cell?_setCell_same _ _ _ (h.st j' hj')
    · simp only [if_neg e]; exact (World.cell?_setCell_other _ _ _ _ (ne_off (by omega))).trans (h.st j' hj')
  · obtain ⟨u, h1, h2, h3⟩ := h.bs j' hj'
    rw [World.cell?_setCell_other _ _ _ _ (ne_off (by omega))]
    by_cases e : j' = j
    · subst e
      simp only [if_true]
      exact ⟨v, World.cell?_setCell_same _ _ _ ((World.cell?_setCell_other _ _ _ _ (ne_off (by omega))).trans h1), kp.bts hv hq, hq⟩
    · simp only [if_neg e]
      exact ⟨u, (World.cell?_setCell_other _ _ _ _ (ne_off (by omega))).trans ((World.cell?_setCell_other _ _ _ _ (ne_off (by omega))).trans h1), kp.bts h2 h3, h3⟩
  · by_cases e : j' = j
    · subst e
      simp only [if_true]
      exact World.cell?_setCell_same _ _ _ ((World.cell?_setCell_other _ _ _ _ (ne_off (by omega))).trans ((World.cell?_setCell_other _ _ _ _ (ne_off (by omega))).trans (h.dt j' hj')))
    · simp only [if_neg e]
      rw [World.cell?_setCell_other _ _ _ _ (ne_off (by omega)), World.cell?_setCell_other _ _ _ _ (ne_off (by omega)), World.cell?_setCell_other _ _ _ _ (ne_off (by omega))]
      exact h.dt j' hj'

end Go.Proofs.Ytaobamnfgpllcaa
