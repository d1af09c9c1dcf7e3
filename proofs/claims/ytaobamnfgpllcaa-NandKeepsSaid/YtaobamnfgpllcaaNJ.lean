/-
  Package nand: what New lays: three rows and the struct, in whatever order.
-/
import Derived.Test.YtaobamnfgpllcaaNI
import Derived.RegionTactic
import Derived.BigRegion
import Derived.Deep.DeepCutAuto
import Derived.Laws.OwnMore
namespace Go.Proofs.Ytaobamnfgpllcaa
open Go.RowKit

theorem gb_trans7 {a b c : World} (h : a.grownBy b none) (h2 : b.grownBy c none) : a.grownBy c none := grown_trans h h2 (fun _ hk _ => by cases hk)

theorem Try.infoRows : (Try.prog.info? 61).map (fun i => (i.zero, i.size, i.bytes)) = some (some (.slice none 0 0), 1, 24) := by kernel_rfl
theorem Try.infoBool : (Try.prog.info? 4).map (fun i => (i.zero, i.size, i.bytes)) = some (some (.bool false), 1, 1) := by kernel_rfl
theorem Try.infoLeaf : (Try.prog.info? 60).map (fun i => (i.zero, i.size, i.bytes)) = some (some (.agg #[.int .i64 0, .slice none 0 0, .string ⟨#[]⟩]), 3, 48) := by kernel_rfl

/-- A row of n zeros. -/
theorem make_run {t e : TypeId} {z : Value} {size bytes : Nat} (ht : Try.prog.underlying t = some (.slice e)) (h : (Try.prog.info? e).map (fun i => (i.zero, i.size, i.bytes)) = some (some z, size, bytes)) (n : Nat) (hb : bytes * n ≤ 281474976710656) (hn : n ≤ 1000000) (w : World) :
    (Instr.makeSlice t (.int .i64 n) (.int .i64 n)).run Try.prog w = .ok (.slice (some ⟨w.heap.size, 0, none⟩) n n) (w.alloc (.cells (madeCells z.cells (n * size)) e)) := by
  obtain ⟨i, hi, h1, h2, h3⟩ := info_parts h
  subst h2
  have hb' : (i.bytes : Int) * (n : Int) ≤ 281474976710656 := by
    have h : ((i.bytes * n : Nat) : Int) ≤ 281474976710656 := by subst h3; omega
    rwa [Int.natCast_mul] at h
  have := run_make (P := Try.prog) w t e i z ht hi h1 .i64 .i64 n n (by omega) (Int.le_refl _) hb' (by omega)
  simpa only [Int.toNat_natCast] using this
theorem made_one (z : Value) (n i : Nat) (hi : i < n) : (madeCells #[z] n)[i]? = some z := by
  simp [madeCells, hi, Nat.mod_one]
theorem made_three (x y z : Value) (n j r : Nat) (hj : j < n) (hr : r < 3) : (madeCells #[x, y, z] (n * 3))[j * 3 + r]? = some (#[x, y, z][r]!) := by
  have h : j * 3 + r < n * 3 := by omega
  have h2 : (j * 3 + r) % 3 = r := by omega
  simp [madeCells, h, h2]

/-- What New lays, ahead of the pages; but what bl's cells hold. -/
structure LaidFix (w x : World) (c d b p : Int) (pb db al nb bl bm be : Nat) : Prop where
  ext : w.grownBy x none
  lo : w.heap.size ≤ nb ∧ w.heap.size ≤ bl ∧ w.heap.size ≤ bm ∧ w.heap.size ≤ be
  hi : nb < x.heap.size ∧ bl < x.heap.size ∧ bm < x.heap.size ∧ be < x.heap.size
  ne : nb ≠ bl ∧ nb ≠ bm ∧ nb ≠ be ∧ bl ≠ bm ∧ bl ≠ be ∧ bm ≠ be
  g0 : x.cell? ⟨nb, 0, none⟩ = some (.int .i64 c)
  g1 : x.cell? ⟨nb, 1, none⟩ = some (.int .i64 d)
  g2 : x.cell? ⟨nb, 2, none⟩ = some (.int .i64 b)
  g3 : x.cell? ⟨nb, 3, none⟩ = some (.int .i64 p)
  cp : x.cell? ⟨nb, 4, none⟩ = some (.pointer (some ⟨pb, 0, none⟩))
  cd : x.cell? ⟨nb, 5, none⟩ = some (.pointer (some ⟨db, 0, none⟩))
  cl : x.cell? ⟨nb, 6, none⟩ = some (.slice (some ⟨bl, 0, none⟩) al al)
  cm : x.cell? ⟨nb, 7, none⟩ = some (.slice (some ⟨bm, 0, none⟩) al al)
  ce : x.cell? ⟨nb, 8, none⟩ = some (.slice (some ⟨be, 0, none⟩) al al)
  ms : ∀ i, i < al → x.cell? ⟨bm, i, none⟩ = some (.bool false)
  es : ∀ i, i < al → x.cell? ⟨be, i, none⟩ = some (.int .i64 0)
  fl : ∀ o, x.frozen? ⟨bl, o, none⟩ = false
  fm : ∀ o, x.frozen? ⟨bm, o, none⟩ = false
  fe : ∀ o, x.frozen? ⟨be, o, none⟩ = false
  bx : x.cell? ⟨w.heap.size, 3, none⟩ = some (.int .i64 p)
  bn : w.heap.size ≠ bl
structure Laid (w x : World) (c d b p : Int) (pb db al nb bl bm be : Nat) : Prop where
  fix : LaidFix w x c d b p pb db al nb bl bm be
  ls : ∀ i, i < al → x.cell? ⟨bl, i, none⟩ = some (.slice none 0 0)

theorem LaidFix.next {w x y : World} {c d b p : Int} {pb db al nb bl bm be : Nat} (h : LaidFix w x c d b p pb db al nb bl bm be) (hg : x.grownBy y (some bl)) (hf : ∀ o, y.frozen? ⟨bl, o, none⟩ = false) : LaidFix w y c d b p pb db al nb bl bm be := by
  obtain ⟨n1, n2, n3, n4, n5, n6⟩ := h.ne
  obtain ⟨i1, i2, i3, i4⟩ := h.hi
  have hs := hg.size
  have e0 := World.block_lt_of_cell? x _ h.bx
  have en : ∀ o, y.cell? ⟨nb, o, none⟩ = x.cell? ⟨nb, o, none⟩ := fun o => World.cell?_of_block (hg.block nb i1 (by simp; omega))
  have em : ∀ o, y.cell? ⟨bm, o, none⟩ = x.cell? ⟨bm, o, none⟩ := fun o => World.cell?_of_block (hg.block bm i3 (by simp; omega))
  have ee : ∀ o, y.cell? ⟨be, o, none⟩ = x.cell? ⟨be, o, none⟩ := fun o => World.cell?_of_block (hg.block be i4 (by simp; omega))
  have eb : ∀ o, y.cell? ⟨w.heap.size, o, none⟩ = x.cell? ⟨w.heap.size, o, none⟩ := fun o => World.cell?_of_block (hg.block _ e0 (by have := h.bn; simp; omega))
  exact ⟨grown_trans h.ext hg (fun k hk hl => by cases hk; have := h.lo; omega), h.lo, by omega, h.ne, (en _).trans h.g0, (en _).trans h.g1, (en _).trans h.g2, (en _).trans h.g3, (en _).trans h.cp, (en _).trans h.cd, (en _).trans h.cl, (en _).trans h.cm, (en _).trans h.ce,
    fun i hi => (em _).trans (h.ms i hi), fun i hi => (ee _).trans (h.es i hi), hf, fun o => (World.frozen?_of_block (hg.block bm i3 (by simp; omega))).trans (h.fm o), fun o => (World.frozen?_of_block (hg.block be i4 (by simp; omega))).trans (h.fe o), (eb _).trans h.bx, h.bn⟩

theorem cell_heap {x : World} {k o : Nat} {A : Array Value} {t : TypeId} (h : x.heap[k]? = some (.cells A t (0, 0))) : x.cell? ⟨k, o, none⟩ = A[o]? := by simp [World.cell?, h]
theorem frozen_heap {x : World} {k o : Nat} {A : Array Value} {t : TypeId} (h : x.heap[k]? = some (.cells A t (0, 0))) : x.frozen? ⟨k, o, none⟩ = false := by simp [World.frozen?, h]
theorem lt_heap {x : World} {k : Nat} {A : Obj} (h : x.heap[k]? = some A) : k < x.heap.size := (Array.getElem?_eq_some_iff.1 h).1

theorem laid_of {w w4 x : World} {c d b p : Int} {pb db al nb bl bm be : Nat} {A1 A2 A3 : Array Value} {t0 t1 t2 t3 : TypeId} (hE : w.grownBy w4 none) (hx : w4.grownBy x none) (bx : w4.cell? ⟨w.heap.size, 3, none⟩ = some (.int .i64 p))
    (q1 : ∀ i, i < al → A1[i]? = some (.slice none 0 0)) (q2 : ∀ i, i < al → A2[i]? = some (.bool false)) (q3 : ∀ i, i < al → A3[i]? = some (.int .i64 0))
    (h0 : x.heap[nb]? = some (.cells #[.int .i64 c, .int .i64 d, .int .i64 b, .int .i64 p, .pointer (some ⟨pb, 0, none⟩), .pointer (some ⟨db, 0, none⟩), .slice (some ⟨bl, 0, none⟩) al al, .slice (some ⟨bm, 0, none⟩) al al, .slice (some ⟨be, 0, none⟩) al al] t0 (0, 0)))
    (h1 : x.heap[bl]? = some (.cells A1 t1 (0, 0))) (h2 : x.heap[bm]? = some (.cells A2 t2 (0, 0))) (h3 : x.heap[be]? = some (.cells A3 t3 (0, 0)))
    (lo : w4.heap.size ≤ nb ∧ w4.heap.size ≤ bl ∧ w4.heap.size ≤ bm ∧ w4.heap.size ≤ be) (ne : nb ≠ bl ∧ nb ≠ bm ∧ nb ≠ be ∧ bl ≠ bm ∧ bl ≠ be ∧ bm ≠ be) : Laid w x c d b p pb db al nb bl bm be := by
  have hs := hE.size
  have hb := World.block_lt_of_cell? w4 _ bx
  simp only at hb
  refine ⟨⟨gb_trans7 hE hx, by omega, ⟨lt_heap h0, lt_heap h1, lt_heap h2, lt_heap h3⟩, ne, by rw [cell_heap h0]; rfl, by rw [cell_heap h0]; rfl, by rw [cell_heap h0]; rfl, by rw [cell_heap h0]; rfl, by rw [cell_heap h0]; rfl, by rw [cell_heap h0]; rfl, by rw [cell_heap h0]; rfl, by rw [cell_heap h0]; rfl, by rw [cell_heap h0]; rfl,
    fun i hi => (cell_heap h2).trans (q2 i hi), fun i hi => (cell_heap h3).trans (q3 i hi), fun o => frozen_heap h1, fun o => frozen_heap h2, fun o => frozen_heap h3, hx.cell bx (by simp), by omega⟩, fun i hi => (cell_heap h1).trans (q1 i hi)⟩

theorem alloc4_0 (w : World) (o1 o2 o3 o4 : Obj) : ((((w.alloc o1).alloc o2).alloc o3).alloc o4).drew.heap[w.heap.size]? = some o1 := by
  show ((((w.heap.push o1).push o2).push o3).push o4)[_]? = _
  simp only [Array.getElem?_push, Array.size_push]
  repeat (first | rfl | (rw [if_neg (by omega)]) | (rw [if_pos (by omega)]))
theorem alloc4_1 (w : World) (o1 o2 o3 o4 : Obj) : ((((w.alloc o1).alloc o2).alloc o3).alloc o4).drew.heap[w.heap.size + 1]? = some o2 := by
  show ((((w.heap.push o1).push o2).push o3).push o4)[_]? = _
  simp only [Array.getElem?_push, Array.size_push]
  repeat (first | rfl | (rw [if_neg (by omega)]) | (rw [if_pos (by omega)]))
theorem alloc4_2 (w : World) (o1 o2 o3 o4 : Obj) : ((((w.alloc o1).alloc o2).alloc o3).alloc o4).drew.heap[w.heap.size + 1 + 1]? = some o3 := by
  show ((((w.heap.push o1).push o2).push o3).push o4)[_]? = _
  simp only [Array.getElem?_push, Array.size_push]
  repeat (first | rfl | (rw [if_neg (by omega)]) | (rw [if_pos (by omega)]))
theorem alloc4_3 (w : World) (o1 o2 o3 o4 : Obj) : ((((w.alloc o1).alloc o2).alloc o3).alloc o4).drew.heap[w.heap.size + 1 + 1 + 1]? = some o4 := by
  show ((((w.heap.push o1).push o2).push o3).push o4)[_]? = _
  simp only [Array.getElem?_push, Array.size_push]
  repeat (first | rfl | (rw [if_neg (by omega)]) | (rw [if_pos (by omega)]))
theorem alloc4_gb (w : World) (o1 o2 o3 o4 : Obj) : w.grownBy ((((w.alloc o1).alloc o2).alloc o3).alloc o4).drew none := grown_drew (grown_alloc (grown_alloc (grown_alloc (World.grownBy_alloc w _ none) _) _) _)

end Go.Proofs.Ytaobamnfgpllcaa
