/-
  Package nand: the pages that New lays; what an array is then.
-/
import Derived.Test.YtaobamnfgpllcaaNJ
namespace Go.Proofs.Ytaobamnfgpllcaa
open Go.RowKit

theorem gb_weak {w w' : World} (h : w.grownBy w' none) (r : Option Nat) : w.grownBy w' r := ⟨h.os, h.tape, h.output, h.size, fun k hk _ => h.block k hk (by simp)⟩

/-- Some pages are laid. -/
structure Laying (w x : World) (c d b : Int) (pg pb db al nb bl bm be R0 k : Nat) (T : Nat → Nat) : Prop where
  fix : LaidFix w x c d b pg pb db al nb bl bm be
  size : x.heap.size = R0 + k
  low : nb < R0 ∧ bl < R0 ∧ bm < R0 ∧ be < R0
  done : ∀ i, i < k → x.cell? ⟨bl, i, none⟩ = some (.slice (some ⟨R0 + i, 0, none⟩) pg pg) ∧ RowAt x T (R0 + i) pg (fun _ => Pg.none 0)
  ls : ∀ i, k ≤ i → i < al → x.cell? ⟨bl, i, none⟩ = some (.slice none 0 0)

theorem rowAt_new {x : World} {T : Nat → Nat} {pg : Nat} {A : Array Value} {t : TypeId} (hA : ∀ j r, j < pg → r < 3 → A[j * 3 + r]? = some (#[.int .i64 0, .slice none 0 0, .string ⟨#[]⟩][r]!)) : RowAt (x.alloc (.cells A t)) T x.heap.size pg (fun _ => Pg.none 0) :=
  ⟨fun j hj => by rw [World.cell?_alloc_at _ _ _ _ rfl]; exact hA j 0 hj (by omega), fun j hj => ⟨.slice none 0 0, by rw [World.cell?_alloc_at _ _ _ _ rfl]; exact hA j 1 hj (by omega), .inl ⟨rfl, rfl⟩, fun q hq => by simp [Value.ownBlock] at hq⟩,
    fun j hj => by rw [World.cell?_alloc_at _ _ _ _ rfl]; exact hA j 2 hj (by omega), fun o => World.frozen?_alloc_at _ _ _ _ rfl⟩

theorem rowAt_none {x y : World} {T : Nat → Nat} {k pg : Nat} (h : RowAt x T k pg (fun _ => Pg.none 0)) (e : y.heap[k]? = x.heap[k]?) : RowAt y T k pg (fun _ => Pg.none 0) :=
  ⟨fun j hj => (World.cell?_of_block e).trans (h.st j hj), fun j hj => by
    obtain ⟨v, h1, h2, h3⟩ := h.bs j hj
    refine ⟨v, (World.cell?_of_block e).trans h1, ?_, h3⟩
    rcases h2 with h2 | ⟨b, off, cap, rfl, h5, h6⟩
    · exact .inl h2
    · exact .inr ⟨b, off, cap, rfl, h5, fun i hi => by simp [Pg.none] at hi⟩, fun j hj => (World.cell?_of_block e).trans (h.dt j hj), fun o => (World.frozen?_of_block e).trans (h.free o)⟩

theorem Laying.next {w x : World} {c d b : Int} {pg pb db al nb bl bm be R0 k : Nat} {T : Nat → Nat} {A : Array Value} {t : TypeId} (h : Laying w x c d b pg pb db al nb bl bm be R0 k T) (hk : k < al) (hA : ∀ j r, j < pg → r < 3 → A[j * 3 + r]? = some (#[.int .i64 0, .slice none 0 0, .string ⟨#[]⟩][r]!)) :
    Laying w ((x.drew.alloc (.cells A t)).setCell ⟨bl, k, none⟩ (.slice (some ⟨x.heap.size, 0, none⟩) pg pg)) c d b pg pb db al nb bl bm be R0 (k + 1) T := by
  have hlo := h.low
  have hsz := h.size
  have hbl := h.fix.hi.2.1
  have e1 : x.grownBy (x.drew.alloc (.cells A t)) none := gb_trans7 (Ext.drew x) (World.grownBy_alloc _ _ none)
  have g2 := gb_set (gb_refl (x.drew.alloc (.cells A t)) (some bl)) k (.slice (some ⟨x.heap.size, 0, none⟩) pg pg)
  have g := gb_trans (gb_weak e1 (some bl)) g2
  have hs1 : (x.drew.alloc (.cells A t)).heap.size = x.heap.size + 1 := by simp
  have hx1 := rowAt_new (x := x.drew) (T := T) (t := t) hA
  have c1 : ∀ i, (x.drew.alloc (.cells A t)).cell? ⟨bl, i, none⟩ = x.cell? ⟨bl, i, none⟩ := fun i => World.cell?_of_block (e1.block bl hbl (by simp))
  refine ⟨h.fix.next g (fun o => ?_), ?_, hlo, fun i hi => ?_, fun i hi hi2 => ?_⟩
  · rw [World.frozen?_setCell]; exact (World.frozen?_of_block (e1.block bl hbl (by simp))).trans (h.fix.fl o)
  · have : ((x.drew.alloc (.cells A t)).setCell ⟨bl, k, none⟩ (.slice (some ⟨x.heap.size, 0, none⟩) pg pg)).heap.size = (x.drew.alloc (.cells A t)).heap.size := by simp [World.setCell]
    omega
  · by_cases e : i = k
    · subst e
      refine ⟨?_, ?_⟩
      · rw [← hsz]; exact World.cell?_setCell_same _ _ _ ((c1 i).trans (h.ls i (Nat.le_refl _) hk))
      · rw [← hsz]; exact rowAt_none hx1 (g2.block x.heap.size (by omega) (by simp; omega))
    · obtain ⟨h1, h2⟩ := h.done i (by omega)
      exact ⟨(World.cell?_setCell_other _ _ _ _ (ne_off (by omega))).trans ((c1 i).trans h1), rowAt_none h2 (g.block (R0 + i) (by omega) (by simp; omega))⟩
  · exact (World.cell?_setCell_other _ _ _ _ (ne_off (by omega))).trans ((c1 i).trans (h.ls i (by omega) hi2))

/-- The roles that New gives. -/
def mkT (nb bl bm be pb db R0 al : Nat) : Nat → Nat := fun k =>
  if k = nb then 1 else if k = bl then 2 else if k = bm then 3 else if k = be then 4 else if k = pb then 5 else if k = db then 6 else if R0 ≤ k ∧ k < R0 + al then 8 + (k - R0) else 0
def mkS (c d b : Int) (pg pb db al nb bl bm be R0 : Nat) : NShape := ⟨nb, bl, bm, be, pb, db, fun i => R0 + i, mkT nb bl bm be pb db R0 al, c, d, b, pg, al, pg⟩
def mrk (ms : List Int) (i : Nat) : Bool := ms.any fun m => m == (i : Int)
def blankS (ms : List Int) (px : Int) (off : Bool) (po : Int) (N M : Nat → Int) : NS := ⟨fun _ _ => Pg.none 0, mrk ms, fun _ => 0, px, off, po, N, M⟩

theorem mkS_roles {c d b : Int} {pg pb db al nb bl bm be R0 B : Nat} (ne : nb ≠ bl ∧ nb ≠ bm ∧ nb ≠ be ∧ bl ≠ bm ∧ bl ≠ be ∧ bm ≠ be) (lo : B ≤ nb ∧ B ≤ bl ∧ B ≤ bm ∧ B ≤ be) (hi : nb < R0 ∧ bl < R0 ∧ bm < R0 ∧ be < R0) (h1 : pb < B) (h2 : db < B) (h3 : pb ≠ db)
    (hg : geoE c d b pg = 0) (ha : (al : Int) = c * d * b) : Roles (mkS c d b pg pb db al nb bl bm be R0) := by
  refine ⟨?_, ?_, ?_, ?_, ?_, ?_, fun i (hi2 : i < al) => ?_, hg, ha, rfl⟩
  · show mkT nb bl bm be pb db R0 al nb = 1
    unfold mkT; rw [if_pos rfl]
  · show mkT nb bl bm be pb db R0 al bl = 2
    unfold mkT; rw [if_neg (by omega), if_pos rfl]
  · show mkT nb bl bm be pb db R0 al bm = 3
    unfold mkT; rw [if_neg (by omega), if_neg (by omega), if_pos rfl]
  · show mkT nb bl bm be pb db R0 al be = 4
    unfold mkT; rw [if_neg (by omega), if_neg (by omega), if_neg (by omega), if_pos rfl]
  · show mkT nb bl bm be pb db R0 al pb = 5
    unfold mkT; rw [if_neg (by omega), if_neg (by omega), if_neg (by omega), if_neg (by omega), if_pos rfl]
  · show mkT nb bl bm be pb db R0 al db = 6
    unfold mkT; rw [if_neg (by omega), if_neg (by omega), if_neg (by omega), if_neg (by omega), if_neg (by omega), if_pos rfl]
  · show mkT nb bl bm be pb db R0 al (R0 + i) = 8 + i
    unfold mkT; rw [if_neg (by omega), if_neg (by omega), if_neg (by omega), if_neg (by omega), if_neg (by omega), if_neg (by omega), if_pos (by omega)]
    omega

theorem Laying.nand {w x : World} {c d b : Int} {pg pb db al nb bl bm be R0 : Nat} {V : Nat → Value} {zs : Nat → List Int} {px : Int} {off : Bool} {po : Int} {N M : Nat → Int} (h : Laying w x c d b pg pb db al nb bl bm be R0 al (mkT nb bl bm be pb db R0 al)) (hp : PowAt w pb px off po) (hd : DrAt w db V zs N M)
    (hV : ∀ j, j < 4 → ∀ k, (V j).ownBlock = some k → k < w.heap.size ∧ k ≠ pb) : NandAt x (mkS c d b pg pb db al nb bl bm be R0) V zs (blankS [] px off po N M) := by
  have hlo := h.low
  have hsz := h.size
  have hfl := h.fix.lo
  have hpb := hp.lt
  have hdb := hd.lt
  have hE := h.fix.ext
  refine ⟨⟨h.fix.g0, h.fix.g1, h.fix.g2, h.fix.g3, h.fix.cp, h.fix.cd, h.fix.cl, h.fix.cm, h.fix.ce, fun i hi => (h.done i hi).1⟩, fun i hi => (h.done i hi).2, h.fix.ms, h.fix.fm, h.fix.es, h.fix.fe, hp.other hE hpb (by simp), hd.other hE (by simp) (fun _ _ _ _ => by simp), fun j hj k hk => ?_, fun k hk => ?_⟩
  · obtain ⟨k1, k2⟩ := hV j hj k hk
    have k3 := hd.apart j hj k hk
    show mkT nb bl bm be pb db R0 al k = 0
    unfold mkT
    rw [if_neg (by omega), if_neg (by omega), if_neg (by omega), if_neg (by omega), if_neg (by omega), if_neg (by omega), if_neg (by omega)]
  · have hs := hE.size
    refine Classical.byContradiction fun hne => hk ?_
    show mkT nb bl bm be pb db R0 al k = 0
    unfold mkT
    rw [if_neg (by omega), if_neg (by omega), if_neg (by omega), if_neg (by omega), if_neg (by omega), if_neg (by omega), if_neg (by omega)]

theorem mrk_take {ms : List Int} {k : Nat} {m : Int} (hk : k < ms.length) (hm : ms.getD k 0 = m) (h0 : 0 ≤ m) : (fun i => if i = m.toNat then true else mrk (ms.take k) i) = mrk (ms.take (k + 1)) := by
  have hg : ms[k] = m := by
    rw [List.getD_eq_getElem?_getD, List.getElem?_eq_getElem hk] at hm
    exact hm
  funext i
  unfold mrk
  rw [List.take_succ_eq_append_getElem hk, List.any_append, hg]
  by_cases e : i = m.toNat
  · rw [if_pos e]; have : (m == (i : Int)) = true := by simp; omega
    simp [this]
  · rw [if_neg e]; have : (m == (i : Int)) = false := by simp; omega
    simp [this]

end Go.Proofs.Ytaobamnfgpllcaa
