/-
  Texts put together: SpC.
-/
import Derived.Test.YtdaifepjmkmpjaaDoorM05
import Derived.Test.YtdaifepjmkmpjaaDoorM12
import Derived.Laws.IdiomStrings
import Derived.Lib.AppendIntMem
import Derived.Lib.ItoaMem
import Derived.Lib.FrozenHead
/-
  Package script: rows of bytes of the call's own that began as a string's bytes; numbers appended; add.
-/
namespace Go.Proofs.YtdaifepjmkmpjaaDoor
set_option linter.unusedVariables false
set_option linter.unusedSimpArgs false
set_option linter.unusedVariables false
set_option linter.unusedSimpArgs false
set_option maxRecDepth 100000
open Go.RowKit

/-- A row of bytes of the call's own; none of its cells is frozen. -/
def OwnZ (B : Nat) (w : World) (v : Value) (l : List UInt8) : Prop :=
  ∃ g cap cur fz, v = .slice (some ⟨g, 0, none⟩) l.length cap ∧ B ≤ g ∧ w.heap[g]? = some (.cells cur 5 fz) ∧ (cur.size ≤ fz.1 ∨ fz.2 = 0) ∧ l.length ≤ cap ∧ cap ≤ maxLen ∧ cur.size = cap ∧ cur.toList.take l.length = Lib.byteCells l
theorem OwnZ.form {B : Nat} {w : World} {v : Value} {l : List UInt8} (h : OwnZ B w v l) : ∃ g cap, v = .slice (some ⟨g, 0, none⟩) l.length cap ∧ B ≤ g ∧ g < w.heap.size ∧ l.length ≤ cap := by
  obtain ⟨g, cap, cur, fz, rfl, h1, h2, _, h4, _⟩ := h
  exact ⟨g, cap, rfl, h1, (Array.getElem?_eq_some_iff.1 h2).1, h4⟩
theorem OwnZ.kept {B : Nat} {w w' : World} {v : Value} {l : List UInt8} {r : Option Nat} (h : OwnZ B w v l) (hg : w.grownBy w' r) (hne : v.ownBlock ≠ r) : OwnZ B w' v l := by
  obtain ⟨g, cap, cur, fz, rfl, h1, h2, h3⟩ := h
  exact ⟨g, cap, cur, fz, rfl, h1, (hg.block g (Array.getElem?_eq_some_iff.1 h2).1 (by simpa [Value.ownBlock] using hne)).trans h2, h3⟩
theorem OwnZ.ext {B : Nat} {w w' : World} {v : Value} {l : List UInt8} (h : OwnZ B w v l) (hg : w.grownBy w' none) : OwnZ B w' v l := h.kept hg (by obtain ⟨g, cap, rfl, _⟩ := h.form; simp [Value.ownBlock])
theorem OwnZ.cells {B : Nat} {w : World} {g cap : Nat} {l : List UInt8} (h : OwnZ B w (.slice (some ⟨g, 0, none⟩) l.length cap) l) : ∀ j u, (Lib.byteCells l)[j]? = some u → w.cell? ((⟨g, 0, none⟩ : Addr).add j) = some u := by
  obtain ⟨g', cap', cur, fz, e, h1, h2, _, h4, _, h6, h7⟩ := h
  injection e with e _ _
  injection e with e
  injection e with e
  subst e
  intro j u hj
  rw [addr_add, Nat.zero_add]
  have h8 : (cur.toList.take l.length)[j]? = some u := by rw [h7, hj]
  have hjl : j < l.length := by
    have := (List.getElem?_eq_some_iff.1 hj).1
    rwa [Lib.byteCells_length] at this
  rw [List.getElem?_take, if_pos hjl, Array.getElem?_toList] at h8
  rw [cell_of_row w g j cur _ fz h2, h8]
theorem OwnZ.bts {B : Nat} {w : World} {v : Value} {l : List UInt8} (h : OwnZ B w v l) : Bts w v (l.map fun b => (b.toNat : Int)) := by
  obtain ⟨g, cap, rfl, _, _, hc⟩ := h.form
  refine .inr ⟨g, 0, cap, by simp, by simpa using hc, fun i hi => ?_⟩
  rw [List.length_map] at hi
  have h1 := h.cells i (.int .u8 ((l[i]'hi).toNat : Int)) (by simp [Lib.byteCells, List.getElem?_eq_getElem hi])
  rw [addr_add] at h1
  rw [h1]
  simp [List.getD_eq_getElem?_getD, List.getElem?_eq_getElem hi]
theorem nums_str (l : List UInt8) : strOfNums (l.map fun b => (b.toNat : Int)) = bs l := by
  rw [str_nums, List.map_map]
  congr 1
  conv => rhs; rw [← List.map_id l]
  refine List.map_congr_left fun b _ => ?_
  simp
theorem own_conv (w : World) (l : List UInt8) (hl : l.length ≤ 1000000000) : ∃ cap w', (convert 9 74 (.string (bs l))).run Tryd.prog w = .ok (.slice (some ⟨w.heap.size, 0, none⟩) l.length cap) w' ∧ OwnZ w.heap.size w' (.slice (some ⟨w.heap.size, 0, none⟩) l.length cap) l ∧ w.grownBy w' none := by
  have h := run_bytes_of_string (P := Tryd.prog) w 9 74 5 (bs l) Tryd.underlying9 Tryd.underlying74 Tryd.underlying5
  rw [bs_size] at h
  have hge := grownCap_ge w l.length 0 5
  have hle := grownCap_le_maxLen w l.length 0 5 (by unfold maxLen; omega)
  have hsz : (bytesRow (bs l) (grownCap w l.length 0 5)).size = grownCap w l.length 0 5 := by
    unfold bytesRow
    rw [Array.size_append, Array.size_map, Array.size_replicate, bs_size]
    show l.toArray.size + _ = _
    simp; omega
  refine ⟨_, _, h, ⟨w.heap.size, _, _, _, rfl, Nat.le_refl _, heap_alloc_new w.drew _, .inl (Nat.le_refl _), hge, hle, hsz, ?_⟩, grown_alloc (Ext.drew w) _⟩
  unfold bytesRow
  rw [Array.toList_append, List.take_append_of_le_length (by simp [bs]), List.take_of_length_le (by simp [bs])]
  simp [bs, Lib.byteCells]
theorem storeZ (g o : Nat) (t : TypeId) (fz : Nat × Nat) : ∀ (vs : List Value) (i : Nat) (cur : Array Value) (w : World), w.heap[g]? = some (.cells cur t fz) → (cur.size ≤ fz.1 ∨ fz.2 = 0) → o + i + vs.length ≤ cur.size → (∀ v ∈ vs, v.oneCell' = true) →
    ∃ cur', (storeCells ⟨g, o, none⟩ vs i).run Tryd.prog w = .ok () (w.setRow g cur') ∧ cur'.size = cur.size ∧ cur'.toList.take (o + i + vs.length) = cur.toList.take (o + i) ++ vs
  | [], i, cur, w, hg, _, _, _ => ⟨cur, by simp only [storeCells]; rw [setRow_self w g cur t fz hg]; rfl, rfl, by simp⟩
  | v :: vs, i, cur, w, hg, hfz, hl, h1 => by
    rw [List.length_cons] at hl
    have hi : o + i < cur.size := by omega
    have hc : w.cell? ⟨g, o + i, none⟩ = some cur[o + i] := by rw [cell_of_row w g (o + i) cur t fz hg]; simp [hi]
    have hf : w.frozen? ⟨g, o + i, none⟩ = false := by
      obtain ⟨lo, hi2⟩ := fz
      simp only [World.frozen?, hg, Bool.and_eq_false_iff, decide_eq_false_iff_not]
      simp only at hfz
      omega
    have hst : (store ((⟨g, o, none⟩ : Addr).add i) v).run Tryd.prog w = .ok () (w.setRow g (cur.setIfInBounds (o + i) v)) := by
      rw [addr_add, run_store Tryd.prog w _ v _ (h1 v (by simp)), hc]
      simp [hf, setCell_eq_setRow w g (o + i) cur t fz v hg]
    obtain ⟨cur', e1, e2, e3⟩ := storeZ g o t fz vs (i + 1) (cur.setIfInBounds (o + i) v) (w.setRow g (cur.setIfInBounds (o + i) v)) (setRow_heap w g cur _ t _ hg) (by simpa using hfz) (by simp; omega) (fun x hx => h1 x (by simp [hx]))
    refine ⟨cur', by simp only [storeCells, Sem.run_bind, hst, Result.andThen_ok, e1, setRow_setRow], by simpa using e2, ?_⟩
    rw [show o + i + (v :: vs).length = o + (i + 1) + vs.length by simp; omega, e3, show o + (i + 1) = o + i + 1 by omega, Array.toList_setIfInBounds, List.take_succ_eq_append_getElem (by simpa using hi), List.take_set_of_le (Nat.le_refl _)]
    simp
/-- What is behind an append with room. -/
theorem ownZ_room {B : Nat} {w : World} {g cap : Nat} {l r : List UInt8} {cur cur' : Array Value} {fz : Nat × Nat} (hB : B ≤ g) (hg : w.heap[g]? = some (.cells cur 5 fz)) (hfz : cur.size ≤ fz.1 ∨ fz.2 = 0) (hcm : cap ≤ maxLen) (hcs : cur.size = cap) (ht : cur.toList.take l.length = Lib.byteCells l) (hr : l.length + r.length ≤ cap)
    (e2 : cur'.size = cur.size) (e3 : cur'.toList.take (l.length + r.length) = cur.toList.take l.length ++ Lib.byteCells r) : OwnZ B (w.setRow g cur') (.slice (some ⟨g, 0, none⟩) (l.length + r.length) cap) (l ++ r) ∧ w.grownBy (w.setRow g cur') (some g) :=
  ⟨⟨g, cap, cur', fz, by simp, hB, setRow_heap w g cur _ _ _ hg, by rw [e2]; exact hfz, by simpa using hr, hcm, by omega, by rw [List.length_append, e3, ht, Lib.byteCells_append]⟩, rfl, rfl, rfl, by simp, fun k _ hk => setRow_other w g k _ (fun e => hk (by rw [e]))⟩
theorem one_byte25 (l : List UInt8) : ∀ u ∈ Lib.byteCells l, u.oneCell' = true := by
  intro u hu
  simp only [Lib.byteCells, List.mem_map] at hu
  obtain ⟨b, _, rfl⟩ := hu
  rfl
theorem ownZ_new {B : Nat} {w : World} {l r : List UInt8} {c : Nat} (hB : B ≤ w.heap.size) (h63 : l.length + r.length ≤ 1000000000) : OwnZ B (w.drew.alloc (.cells ((Lib.byteCells l).toArray ++ (Lib.byteCells r).toArray ++ Builtin.zeroCells (Value.int .u8 0).cells (grownCap w (l.length + r.length) c 5 - (l.length + r.length))) 5)) (.slice (some ⟨w.heap.size, 0, none⟩) (l.length + r.length) (grownCap w (l.length + r.length) c 5)) (l ++ r) := by
  have hge := grownCap_ge w (l.length + r.length) c 5
  have hle := grownCap_le_maxLen w (l.length + r.length) c 5 (by unfold maxLen; omega)
  refine ⟨w.heap.size, _, _, (0, 0), by simp, hB, heap_alloc_new w.drew _, .inr rfl, by simpa using hge, hle, ?_, ?_⟩
  · have hz1 : (Value.int IntKind.u8 0).cells.size = 1 := rfl
    simp only [Array.size_append, List.size_toArray, size_zeroCells, hz1, Lib.byteCells_length]
    omega
  · rw [List.length_append]
    simp only [Array.toList_append, List.append_assoc]
    rw [← List.append_assoc, ← Lib.byteCells_append, List.take_append_of_le_length (by rw [Lib.byteCells_length, List.length_append]; exact Nat.le_refl _), List.take_of_length_le (by rw [Lib.byteCells_length, List.length_append]; exact Nat.le_refl _)]
section
variable {w : World} {ops : Array Oper} {rest : List Oper} {o : Oper} {a : Act} {Q : Exit → Act → World → Prop}
theorem append_z (hgd : o.guard = none) (s x : Operand) (ho : o.op = .call { callee := .builtin .append, args := #[s, x], argTypes := #[74, 74] }) (B : Nat) (v : Value) (l : List UInt8) (hs : a.eval s = v) (hown : OwnZ B w v l)
    (ad : Addr) (c : Nat) (r : List UInt8) (m : Nat) (hm : r.length = m) (hx : a.eval x = .slice (some ad) m c) (hc : ∀ j u, (Lib.byteCells r)[j]? = some u → w.cell? (ad.add j) = some u) (h63 : l.length + r.length ≤ 1000000000) (hbase : B ≤ w.heap.size)
    (h : ∀ v' w', OwnZ B w' v' (l ++ r) → w.grownBy w' v.ownBlock → wpList Tryd.prog ops Q rest (a.put o.dst v') w') : wpList Tryd.prog ops Q (o :: rest) a w := by
  subst hm
  obtain ⟨i0, hi, hz0, hz1, hz2⟩ := info_parts Tryd.infoU8
  obtain ⟨g, cap, cur, fz, rfl, hB, hg, hfz, hlc, hcm, hcs, ht⟩ := hown
  have hok : ∃ v' w', (Builtin.append_ #[74, 74] o.type #[.slice (some ⟨g, 0, none⟩) l.length cap, .slice (some ad) r.length c]).run Tryd.prog w = .ok v' w' ∧ OwnZ B w' v' (l ++ r) ∧ w.grownBy w' (some g) := by
    by_cases hroom : l.length + r.length ≤ cap
    · obtain ⟨cur', e1, e2, e3⟩ := storeZ g l.length 5 fz (Lib.byteCells r) 0 cur w hg hfz (by rw [Lib.byteCells_length]; omega) (one_byte25 r)
      rw [Nat.add_zero, Lib.byteCells_length] at e3
      have hf := run_firstCells_some (P := Tryd.prog) w 1 r.length ad r.length c (Lib.byteCells r) (by rw [Lib.byteCells_length, Nat.mul_one]) hc
      refine ⟨_, _, ?_, ownZ_room hB hg hfz hcm hcs ht hroom e2 e3⟩
      simp [Builtin.append_, run_underlying Tryd.underlying74, sizeOf, typeInfo, hi, hz1, Builtin.lenOf, hroom, hf, Addr.add_lit, e1]
    · have hr := run_append_grow (P := Tryd.prog) w 74 o.type 5 i0 (.int .u8 0) Tryd.underlying74 hi hz0 ⟨g, 0, none⟩ l.length cap (Lib.byteCells l) (by rw [Lib.byteCells_length, hz1, Nat.mul_one]) (OwnZ.cells (B := B) ⟨g, cap, cur, fz, rfl, hB, hg, hfz, hlc, hcm, hcs, ht⟩) ad r.length c (Lib.byteCells r) (by rw [Lib.byteCells_length, hz1, Nat.mul_one]) hc (by omega) (by omega) (by rw [hz2]; exact growslice_fits (by omega) (by omega))
      exact ⟨_, _, hr, ownZ_new hbase h63, rfl, rfl, rfl, by simp, fun k hk _ => Below.heap_alloc w.drew _ k hk⟩
  refine wpList_plain hgd fun K hK => ?_
  obtain ⟨v', w', hr, h2, h3⟩ := hok
  unfold Oper.wp execOp
  simp only [ho, resolve, invoke, builtin, Sem.run_bind, Sem.run_pure, Result.andThen_ok, List.map_toArray, List.map_cons, List.map_nil, hs, hx, hr]
  exact hK _ _ (h v' w' h2 h3)
theorem append_zs (hgd : o.guard = none) (s x : Operand) (ho : o.op = .call { callee := .builtin .append, args := #[s, x], argTypes := #[74, 9] }) (B : Nat) (v : Value) (l : List UInt8) (hs : a.eval s = v) (hown : OwnZ B w v l)
    (r : List UInt8) (hx : a.eval x = .string (bs r)) (h63 : l.length + r.length ≤ 1000000000) (hbase : B ≤ w.heap.size)
    (h : ∀ v' w', OwnZ B w' v' (l ++ r) → w.grownBy w' v.ownBlock → wpList Tryd.prog ops Q rest (a.put o.dst v') w') : wpList Tryd.prog ops Q (o :: rest) a w := by
  obtain ⟨i0, hi, hz0, hz1, hz2⟩ := info_parts Tryd.infoU8
  obtain ⟨g, cap, cur, fz, rfl, hB, hg, hfz, hlc, hcm, hcs, ht⟩ := hown
  have hsz : (bs r).size = r.length := bs_size r
  have hsc : Lib.strCells (bs r) = Lib.byteCells r := rfl
  have hok : ∃ v' w', (Builtin.append_ #[74, 9] o.type #[.slice (some ⟨g, 0, none⟩) l.length cap, .string (bs r)]).run Tryd.prog w = .ok v' w' ∧ OwnZ B w' v' (l ++ r) ∧ w.grownBy w' (some g) := by
    by_cases hroom : l.length + r.length ≤ cap
    · obtain ⟨cur', e1, e2, e3⟩ := storeZ g l.length 5 fz (Lib.byteCells r) 0 cur w hg hfz (by rw [Lib.byteCells_length]; omega) (one_byte25 r)
      rw [Nat.add_zero, Lib.byteCells_length] at e3
      have hf := Lib.run_firstCells_string (P := Tryd.prog) w 1 (bs r)
      rw [hsc, hsz] at hf
      refine ⟨_, _, ?_, ownZ_room hB hg hfz hcm hcs ht hroom e2 e3⟩
      simp [Builtin.append_, run_underlying Tryd.underlying74, run_underlying Tryd.underlying9, sizeOf, typeInfo, hi, hz1, Builtin.lenOf, hroom, hsz, hf, Addr.add_lit, e1]
    · have hr := Lib.run_append_grow_string (P := Tryd.prog) w 74 9 o.type 5 i0 (.int .u8 0) Tryd.underlying74 Tryd.underlying9 hi hz0 ⟨g, 0, none⟩ l.length cap (Lib.byteCells l) (by rw [Lib.byteCells_length, hz1, Nat.mul_one]) (OwnZ.cells (B := B) ⟨g, cap, cur, fz, rfl, hB, hg, hfz, hlc, hcm, hcs, ht⟩) (bs r) (by rw [hsz]; omega) (by rw [hsz]; omega) (by rw [hz2, hsz]; exact growslice_fits (by omega) (by omega))
      rw [hsz, hsc] at hr
      exact ⟨_, _, hr, ownZ_new hbase h63, rfl, rfl, rfl, by simp, fun k hk _ => Below.heap_alloc w.drew _ k hk⟩
  refine wpList_plain hgd fun K hK => ?_
  obtain ⟨v', w', hr, h2, h3⟩ := hok
  unfold Oper.wp execOp
  simp only [ho, resolve, invoke, builtin, Sem.run_bind, Sem.run_pure, Result.andThen_ok, List.map_toArray, List.map_cons, List.map_nil, hs, hx, hr]
  exact hK _ _ (h v' w' h2 h3)
end
/-! ### numbers appended -/
def AppA (B : Nat) (l : List UInt8) (r : List UInt8) (w : World) (e : Ending) (w' : World) : Prop := ∃ v', e = .returned v' ∧ OwnZ B w' v' (l ++ r) ∧ Below B w w'
theorem below_own25 {w w' : World} {B : Nat} {v : Value} {l : List UInt8} (h : OwnZ B w v l) (hg : w.grownBy w' v.ownBlock) (hB : B ≤ w.heap.size) : Below B w w' :=
  (Below.refl B w).grown hg hB (fun k hk => by obtain ⟨g, cap, rfl, h1, _⟩ := h.form; simp [Value.ownBlock] at hk; omega)
set_option maxHeartbeats 1600000 in
theorem appUint_small (B u : Nat) (hu : u < 100) (v : Value) (l : List UInt8) (w : World) (h : OwnZ B w v l) (hB : B ≤ w.heap.size) (hl : l.length ≤ 100000000) :
    Calls Tryd.prog 59 #[v, .int .u64 u, .int .i64 10] w (AppA B l (digL u) w) := by
  have hdl := digL_len 3 u (by omega) (by omega)
  have H := Lib.hid h
  obtain ⟨g, cap, rfl, _, _, _⟩ := h.form
  clear h
  go_enter Tryd.func59, Tryd.ntmps59
  go_wp2_with (first
    | (go_at_call 71; refine (Tryd.internal_strconv_small u hu _).mono ?_; rintro e w1 ⟨rfl, rfl⟩; rw [dec_dig])
    | (at_builtin; refine append_zs rfl _ _ rfl B _ l rfl H.out (digL u) rfl (by omega) hB ?_; intro v' w2 ho hg; have HO := Lib.hid ho; have HG := Lib.hid hg; clear ho hg))
  go_ret
  exact ⟨_, rfl, HO.out, below_own25 H.out HG.out hB⟩
set_option maxHeartbeats 1600000 in
theorem appUint_big (B u : Nat) (hu : 100 ≤ u) (hu64 : u < 18446744073709551616) (v : Value) (l : List UInt8) (w : World) (h : OwnZ B w v l) (hB : B ≤ w.heap.size) (hl : l.length ≤ 100000000) (htab : Lib.TabIs Tryd.prog w "internal/strconv.uint64pow10" .u64 Lib.pow10Tab) :
    Calls Tryd.prog 59 #[v, .int .u64 u, .int .i64 10] w (AppA B l (digL u) w) := by
  have hdl := digL_len 20 u (by omega) (by omega)
  have hnd : (digL u).length = Lib.nDigits u := by rw [← dec_dig, Lib.decDigits_length]
  obtain ⟨d, hd⟩ : ∃ d, Lib.nDigits u = d := ⟨_, rfl⟩
  rw [hd] at hnd
  have hd20 : d ≤ 20 := by omega
  have hal : Tryd.prog.arrayLen 107 = 24 := by kernel_rfl
  have H := Lib.hid h
  have hH0 := Lib.holds_zero0 w 107 d (by omega)
  have hfmt := Tryd.internal_strconv_formatBase10 w.heap.size 0 24 u (Array.replicate d 0) (w.alloc (.cells Lib.zeros24 107)) hH0 (by rw [Array.size_replicate, ← hd]; exact Lib.lt_pow_nDigits u) hu64 (by rw [Array.size_replicate]; omega)
  rw [Array.size_replicate] at hfmt
  have hsl : ∀ W : World, (Instr.sliceAt 107 (.pointer (some ⟨w.heap.size, 0, none⟩)) none (some (.int .i64 (d : Int))) none).run Tryd.prog W = .ok (.slice (some ⟨w.heap.size, 0, none⟩) d 24) W := fun W => by
    rw [run_sliceAt_array_h W 107 ⟨w.heap.size, 0, none⟩ (by kernel_rfl) .i64 (d : Int) (by omega) (by rw [hal]; omega)]
    go_simp
  have hdt := Lib.tabIs_alloc htab (.cells Lib.zeros24 107)
  have HT := Lib.hid hdt
  have HF := Lib.hid hfmt
  have HD := Lib.hid (And.intro hd hnd)
  have HH0 := Lib.hid hH0
  have iu : (100 : Int) ≤ (u : Int) := by omega
  have i2 : ¬ u < 100 := by omega
  obtain ⟨g, cap, rfl, _, _, _⟩ := h.form
  clear h hd hnd hal hH0 hfmt hdt htab
  go_enter Tryd.func59, Tryd.ntmps59
  go_upto_region 6 with (go_at_call 72; refine (Tryd.internal_strconv_numDigits u (by omega) hu64 _ HT.out).mono ?_; rintro e w1 ⟨rfl, rfl⟩; rw [HD.out.1])
  go_upto_region 7 with (go_at_call 73; refine HF.out.mono ?_; rintro e w1 ⟨rfl, k, v', dk, rfl, hF⟩)
  have hcells : ∀ j x, (Lib.byteCells (digL u))[j]? = some x → ((Sort.putRow (fun (b : UInt8) => Value.int .u8 (b.toNat : Int)) (w.alloc (.cells Lib.zeros24 107)) w.heap.size 0 dk).drewN k).cell? ((⟨w.heap.size, 0, none⟩ : Addr).add j) = some x := by
    intro j x hj
    rw [← dec_dig] at hj
    have hjl : j < (Lib.decDigits u).length := by
      have h5 := (List.getElem?_eq_some_iff.1 hj).1
      rwa [Lib.byteCells_length] at h5
    have e5 : (Lib.byteCells (Lib.decDigits u))[j]? = some (Value.int .u8 ((Lib.decDigits u)[j].toNat : Int)) := by simp [Lib.byteCells, hjl]
    rw [e5] at hj
    cases hj
    have hF2 : Lib.FmtInv (Lib.nDigits u) u 0 v' dk := by rw [HD.out.1]; exact hF
    rw [Lib.row_is_numeral hF2 j hjl, Lib.add_plain, World.cell?_drewN]
    exact Sort.cell?_putRow (fun (b : UInt8) => Value.int .u8 (b.toNat : Int)) _ w.heap.size 0 _ dk HH0.out (by rw [hF.size, Array.size_replicate]) j (by rw [hF.size]; rw [Lib.decDigits_length, HD.out.1] at hjl; exact hjl)
  obtain ⟨os, eo⟩ := Lib.fin_at w (.cells Lib.zeros24 107) dk k 0
  have hE2 : w.grownBy ((Sort.putRow (fun (b : UInt8) => Value.int .u8 (b.toNat : Int)) (w.alloc (.cells Lib.zeros24 107)) w.heap.size 0 dk).drewN k) none := by rw [eo]; exact grow_ext25 w k os
  generalize (Sort.putRow (fun (b : UInt8) => Value.int .u8 (b.toNat : Int)) (w.alloc (.cells Lib.zeros24 107)) w.heap.size 0 dk).drewN k = W2 at hcells hE2 ⊢
  have HC := Lib.hid hcells
  have HE := Lib.hid hE2
  have HO := Lib.hid (H.out.ext hE2)
  clear eo hcells hE2 hF HH0 HF
  go_wp2_with (at_builtin; refine append_z rfl _ _ rfl B _ l rfl HO.out ⟨w.heap.size, 0, none⟩ 24 (digL u) d HD.out.2 rfl HC.out (by omega) (by have := HE.out.size; omega) ?_; intro v2 w3 ho hg; have HO3 := Lib.hid ho; have HG := Lib.hid hg; clear ho hg)
  go_ret
  exact ⟨_, rfl, HO3.out, ((below_ext25 HE.out).mono hB).trans (below_own25 HO.out HG.out (by have := HE.out.size; omega))⟩
theorem appUint_c (B u : Nat) (hu64 : u < 18446744073709551616) (v : Value) (l : List UInt8) (w : World) (h : OwnZ B w v l) (hB : B ≤ w.heap.size) (hl : l.length ≤ 100000000) (htab : Lib.TabIs Tryd.prog w "internal/strconv.uint64pow10" .u64 Lib.pow10Tab) :
    Calls Tryd.prog 59 #[v, .int .u64 u, .int .i64 10] w (AppA B l (digL u) w) := by
  by_cases hu : u < 100
  · exact appUint_small B u hu v l w h hB hl
  · exact appUint_big B u (by omega) hu64 v l w h hB hl htab
theorem numL_neg {n : Int} (h : n < 0) : numL n = [45] ++ digL n.natAbs := by unfold numL; rw [if_pos h]; rfl
theorem numL_pos {n : Int} (h : ¬ n < 0) : numL n = digL n.toNat := by unfold numL; rw [if_neg h]
set_option maxHeartbeats 1600000 in
theorem appInt_in (B : Nat) (n : Int) (hn : i64B n) (v : Value) (l : List UInt8) (w : World) (h : OwnZ B w v l) (hB : B ≤ w.heap.size) (hl : l.length ≤ 10000000) (htab : Lib.TabBelow Tryd.prog B w "internal/strconv.uint64pow10" .u64 Lib.pow10Tab) :
    Calls Tryd.prog 50 #[v, .int .i64 n, .int .i64 10] w (AppA B l (numL n) w) := by
  have h1 := hn.1
  have h2 := hn.2
  have H := Lib.hid h
  have HT := Lib.hid htab
  obtain ⟨g, cap, rfl, _, _, _⟩ := h.form
  clear h htab
  by_cases hneg : n < 0
  · obtain ⟨u, hu⟩ : ∃ u : Nat, n.natAbs = u := ⟨_, rfl⟩
    have hnu : n = -(u : Int) := by omega
    have hu1 : u ≤ 9223372036854775808 := by omega
    have HN := Lib.hid (show numL n = [45] ++ digL u from by rw [numL_neg hneg, hu])
    have hwr : IntKind.u64.wrap (-IntKind.u64.wrap n) = (u : Int) := by rw [IntKind.wrap_u64, IntKind.wrap_u64]; omega
    have HW := Lib.hid hwr
    clear hu hnu h1 h2 hn
    go_enter Tryd.func50, Tryd.ntmps50
    have hA := (H.out.ext (World.grownBy_alloc w (.cells #[.int .u8 45] 5) none))
    have hA2 := H.out
    have HA := Lib.hid hA
    have hc1 : ∀ j x, (Lib.byteCells [45])[j]? = some x → (w.alloc (.cells #[.int .u8 45] 5)).cell? ((⟨w.heap.size, 0, none⟩ : Addr).add j) = some x := by
      intro j x hj
      match j, hj with
      | 0, hj => simp [Lib.byteCells] at hj; subst hj; simp [Addr.add]
    have HC1 := Lib.hid hc1
    clear hA hA2 hc1
    go_upto_region 4 with (at_builtin; refine append_z rfl _ _ rfl B _ l rfl HA.out ⟨w.heap.size, 0, none⟩ 1 [45] 1 rfl rfl HC1.out (by simp; omega) (by simp; omega) ?_; intro v2 w3 ho hg; have HO3 := Lib.hid ho; have HB3 := Lib.hid (((Below.refl B w).alloc hB (.cells #[.int .u8 45] 5)).trans (below_own25 HA.out hg (by simp; omega))); clear ho hg)
    go_wp2_with (go_at_call 59; refine (appUint_c B u (by omega) v2 (l ++ [45]) w3 HO3.out (by have := HB3.out.size; omega) (by simp; omega) (HT.out w3 HB3.out)).mono ?_; rintro e w4 ⟨v4, rfl, ho4, hb4⟩; have HO4 := Lib.hid (And.intro ho4 hb4); clear ho4 hb4)
    go_ret
    exact ⟨_, rfl, by rw [HN.out, ← List.append_assoc]; exact HO4.out.1, HB3.out.trans HO4.out.2⟩
  · obtain ⟨u, hu⟩ : ∃ u : Nat, n.toNat = u := ⟨_, rfl⟩
    have hnu : n = (u : Int) := by omega
    have hu1 : u ≤ 9223372036854775808 := by omega
    have HN := Lib.hid (show numL n = digL u from by rw [numL_pos hneg, hu])
    subst hnu
    have hwr : IntKind.u64.wrap (u : Int) = (u : Int) := by rw [IntKind.wrap_u64]; omega
    have hlt : ¬ (u : Int) < 0 := by omega
    clear hu h1 h2 hn hneg
    go_enter Tryd.func50, Tryd.ntmps50
    go_wp2_with (go_at_call 59; refine (appUint_c B u (by omega) _ l w H.out hB (by omega) HT.out.here).mono ?_; rintro e w4 ⟨v4, rfl, ho4, hb4⟩; have HO4 := Lib.hid (And.intro ho4 hb4); clear ho4 hb4)
    go_ret
    exact ⟨_, rfl, by rw [HN.out]; exact HO4.out.1, HO4.out.2⟩
theorem appInt_c (B : Nat) (n : Int) (hn : i64B n) (v : Value) (l : List UInt8) (w : World) (h : OwnZ B w v l) (hB : B ≤ w.heap.size) (hl : l.length ≤ 10000000) (htab : Lib.TabBelow Tryd.prog B w "internal/strconv.uint64pow10" .u64 Lib.pow10Tab) :
    Calls Tryd.prog 36 #[v, .int .i64 n, .int .i64 10] w (AppA B l (numL n) w) := by
  have H := Lib.hid (appInt_in B n hn v l w h hB hl htab)
  obtain ⟨g, cap, rfl, _, _, _⟩ := h.form
  clear h htab
  go_enter Tryd.func36, Tryd.ntmps36
  go_wp2_with (go_at_call 50; refine H.out.mono ?_; rintro e w4 ⟨v4, rfl, ho4, hb4⟩; have HO4 := Lib.hid (And.intro ho4 hb4); clear ho4 hb4)
  go_ret
  exact ⟨_, rfl, HO4.out.1, HO4.out.2⟩

/-! ### add -/
set_option maxHeartbeats 1600000 in
theorem add_c (w : World) (hL : Lib25 w) (l : List UInt8) (v : Value) (xs : List Int) (hv : Ints w v xs) (hx : ∀ n ∈ xs, i64B n) (hl : l.length ≤ 100000) (hxl : xs.length ≤ 2000) :
    Calls Tryd.prog 23 #[.string (bs l), v] w fun e w' => e = .returned (.string (bs (l ++ numsL xs))) ∧ w.grownBy w' none := by
  obtain ⟨cap0, w0, hcv, ho0, hg0⟩ := own_conv w l (by omega)
  obtain ⟨ao, ac, b, off, rfl, hc⟩ := hv.form
  have HL := Lib.hid hL
  have HC := Lib.hid hc
  have HX := Lib.hid hx
  have HO0 := Lib.hid ho0
  have HG0 := Lib.hid hg0
  obtain ⟨B, hB⟩ : ∃ B, w.heap.size = B := ⟨_, rfl⟩
  rw [hB] at hcv HO0
  have HB := Lib.hid hB
  clear hL hc hx hv ho0 hg0 hB
  go_enter Tryd.func23, Tryd.ntmps23
  go_wp2
  clear hcv
  go_loopw [5, 12] (fun out i wr => ∃ (k : Nat) (v : Value), k ≤ xs.length ∧ i = .int .i64 k ∧ v = out ∧ OwnZ B wr v (l ++ numsL (xs.take k)) ∧ w.grownBy wr none) (fun _ i _ => xs.length - (intOf i).toNat)
  case atStart => exact ⟨0, _, by omega, rfl, rfl, by simpa [numsL] using HO0.out, HG0.out⟩
  case round =>
    obtain ⟨k, v, hk, rfl, rfl, hO, hE⟩ := hrel
    have HO := Lib.hid hO
    have HE := Lib.hid hE
    obtain ⟨g, cap, rfl, hBg, hgl, hcp⟩ := hO.form
    obtain ⟨q, hq⟩ : ∃ q, l ++ numsL (xs.take k) = q := ⟨_, rfl⟩
    have hql : q.length ≤ 200000 := by
      rw [← hq, List.length_append]
      have := numsL_len (l := xs.take k) (fun n hn => HX.out n (List.mem_of_mem_take hn))
      have : (xs.take k).length ≤ 2000 := by simp; omega
      omega
    rw [hq] at HO ⊢
    have HQ := Lib.hid hq
    clear hO hE hq hBg hgl hcp
    by_cases hlt : k < xs.length
    · obtain ⟨rfl, hcl⟩ := HC.out k hlt
      have hcw := HE.out.cell hcl (by simp)
      have hn := HX.out (xs.getD k 0) (by rw [List.getD_eq_getElem?_getD, List.getElem?_eq_getElem hlt]; exact List.getElem_mem hlt)
      have HT := Lib.hid (take_snocI25 xs k hlt)
      obtain ⟨z, hz⟩ : ∃ z, xs.getD k 0 = z := ⟨_, rfl⟩
      rw [hz] at hcw hn
      have HZ := Lib.hid (And.intro hz hn)
      have HA := Lib.hid (HO.out.ext (World.grownBy_alloc wr (.cells #[.int .u8 32] 5) none))
      have HC1 := Lib.hid (show ∀ j x, (Lib.byteCells [32])[j]? = some x → (wr.alloc (.cells #[.int .u8 32] 5)).cell? ((⟨wr.heap.size, 0, none⟩ : Addr).add j) = some x from by
        intro j x hj
        match j, hj with
        | 0, hj => simp [Lib.byteCells] at hj; subst hj; simp [Addr.add])
      have HBW := Lib.hid (show B ≤ wr.heap.size from by have := HE.out.size; have := HB.out; omega)
      clear hz hn hcl
      go_upto_region 6 with (first
        | (go_at_call 36; refine (appInt_c B z HZ.out.2 _ (q ++ [32]) w3 HO3.out (by have := HB3.out.size; have := HBW.out; omega) (by simp; omega) (fun w9 h9 => (HL.out w9 (by rw [HB.out]; exact (((below_ext25 HE.out).mono (Nat.le_of_eq HB.out.symm)).trans HB3.out).trans h9)).t)).mono ?_; rintro e w4 ⟨v4, rfl, ho4, hb4⟩; have HO4 := Lib.hid ho4; have HB4 := Lib.hid (HB3.out.trans hb4); clear ho4 hb4)
        | (at_builtin; refine append_z rfl _ _ rfl B _ q rfl HA.out ⟨wr.heap.size, 0, none⟩ 1 [32] 1 rfl rfl HC1.out (by simp; omega) (by have := HBW.out; simp; omega) ?_; intro v2 w3 ho hg; have HO3 := Lib.hid ho; have HB3 := Lib.hid (((Below.refl B wr).alloc HBW.out (.cells #[.int .u8 32] 5)).trans (below_own25 HA.out hg (by have := HBW.out; simp; omega))); clear ho hg hcw))
      go_wp2
      go_roundw
      case rel => exact ⟨k + 1, _, by omega, by go_num, rfl, by rw [HT.out, numsL_snoc, HZ.out.1, ← List.append_assoc, HQ.out]; simpa using HO4.out, ext_below25 (by rw [HB.out]; exact ((below_ext25 HE.out).mono (Nat.le_of_eq HB.out.symm)).trans HB4.out)⟩
      case measure => simp [intOf]; omega
    · obtain rfl : k = xs.length := by omega
      have hst := convert_bts HO.out.bts
      rw [nums_str] at hst
      go_wp2
      go_ret
      refine ⟨?_, HE.out⟩
      have h1 := HQ.out
      rw [List.take_of_length_le (Nat.le_refl _)] at h1
      rw [h1]
      rfl
end Go.Proofs.YtdaifepjmkmpjaaDoor
