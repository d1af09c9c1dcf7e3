/-
  Texts put together: SpB.
-/
import Derived.Test.YtdaifepjmkmpjaaDoorM05
import Derived.Test.YtdaifepjmkmpjaaDoorM12
import Derived.WalkKit
import Derived.Maps.OwnSet
import Derived.Maps.RangeWalk
import Derived.StringKeys
/-
  Package script: kinds (a map of kinds by their names), its look, nameOf.
-/
namespace Go.Proofs.YtdaifepjmkmpjaaDoor
set_option linter.unusedVariables false
set_option linter.unusedSimpArgs false
set_option linter.unusedVariables false
set_option linter.unusedSimpArgs false
set_option maxRecDepth 100000
open Go.RowKit Go.Maps

/-- A kind by value. -/
def kdV (p : Int × Int) : Value := .agg #[.int .i64 p.1, .int .i64 p.2]
theorem kdV_inj {x y : Int × Int} (h : kdV x = kdV y) : x = y := by
  obtain ⟨a, b⟩ := x
  obtain ⟨c, d⟩ := y
  simp [kdV] at h
  obtain ⟨rfl, rfl⟩ := h
  rfl
open Classical in
noncomputable def rdK (v : Value) : Option (DataW (Int × Int) × List MemPlace) := if h : ∃ x, v = kdV x then some (.held h.choose, []) else none
theorem rdK_mk (x : Int × Int) : rdK (kdV x) = some (.held x, []) := by
  unfold rdK
  have h : ∃ y, kdV x = kdV y := ⟨x, rfl⟩
  have h2 : h.choose = x := kdV_inj h.choose_spec.symm
  rw [dif_pos h, h2]
theorem rdK_inv {v : Value} {z : DataW (Int × Int) × List MemPlace} (h : rdK v = some z) : ∃ x, v = kdV x ∧ z = (.held x, []) := by
  unfold rdK at h
  split at h
  · rename_i hx
    exact ⟨hx.choose, hx.choose_spec, by injection h with h; exact h.symm⟩
  · cases h
def keyS (n : List UInt8) : Lit := .string n
def updK (m : List UInt8 → Option (Int × Int)) (x : List UInt8) (e : Int × Int) : List UInt8 → Option (Int × Int) := fun y => if y = x then some e else m y
/-- Block b is a map of at most n entries, which is m. -/
def MapK (w : World) (b n : Nat) (m : List UInt8 → Option (Int × Int)) : Prop :=
  ∃ D : DataW (Int × Int), w.ownsMap Tryd.prog 9 rdK b n D ∧ (∀ x, Maps.has D (keyS x) = (m x).isSome) ∧ (∀ x e zd, m x = some e → D.atKey (keyS x) zd = .held e)
variable {w w' : World} {b n : Nat} {m : List UInt8 → Option (Int × Int)}
theorem MapK.made (w : World) : MapK (w.alloc (.map #[] 0)) w.heap.size 0 (fun _ => none) :=
  ⟨.map [], World.ownsMap_made w Tryd.prog 9 _, fun x => rfl, fun x e zd h => by cases h⟩
theorem MapK.lt (h : MapK w b n m) : b < w.heap.size := by obtain ⟨D, hD, _⟩ := h; exact hD.lt
theorem MapK.kept {r : Option Nat} (h : MapK w b n m) (hg : w.grownBy w' r) (hne : some b ≠ r) : MapK w' b n m := by
  obtain ⟨D, hD, h2⟩ := h
  exact ⟨D, hD.kept hg hne, h2⟩
theorem MapK.ext (h : MapK w b n m) (hg : w.grownBy w' none) : MapK w' b n m := h.kept hg (by simp)
theorem atK {D : DataW (Int × Int)} {zero x' : Int × Int} (h1 : ∀ x, Maps.has D (keyS x) = (m x).isSome) (h2 : ∀ x e zd, m x = some e → D.atKey (keyS x) zd = .held e) {x : List UInt8} (h : DataW.held x' = D.atKey (keyS x) (.held zero)) : x' = (m x).getD zero := by
  cases hm : m x with
  | none =>
    have h3 := h1 x
    rw [hm] at h3
    rw [atKey_of_not_has h3] at h
    injection h
  | some e =>
    rw [h2 x e _ hm] at h
    injection h
theorem key_mk {x : List UInt8} (hx : x.length ≤ 1000000) : keyOf Tryd.prog 9 (.string (bs x)) = some (.string x) := WideMaps.keyOf_string_mk Tryd.underlying9 (by rw [bs_size]; unfold maxLen; omega)
theorem MapK.look_ok (h : MapK w b n m) {x : List UInt8} (hx : x.length ≤ 1000000) :
    (Instr.lookup 61 (.map (some b)) (.string (bs x)) true).run Tryd.prog w = .ok (.tuple #[kdV ((m x).getD (0, 0)), .bool (m x).isSome]) w := by
  obtain ⟨D, hD, h1, h2⟩ := h
  obtain ⟨v, ps, hrun, hv⟩ := hD.look_ok (string_keyed Tryd.underlying9) Tryd.underlying61 (show (zeroValue 50).run Tryd.prog w = .ok (kdV (0, 0)) w by kernel_rfl) (rdK_mk (0, 0)) (key_mk hx)
  obtain ⟨x', rfl, hx'⟩ := rdK_inv hv
  injection hx' with hx' _
  rw [← atK h1 h2 hx'.symm, ← h1 x]
  exact hrun
theorem MapK.update (h : MapK w b n m) (hn : n < maxLen) {x : List UInt8} (hx : x.length ≤ 1000000) (e : Int × Int) :
    ∃ w', (Instr.mapUpdate 61 (.map (some b)) (.string (bs x)) (kdV e)).run Tryd.prog w = .ok () w' ∧ MapK w' b (n + 1) (updK m x e) ∧ w.grownBy w' (some b) := by
  obtain ⟨D, hD, h1, h2⟩ := h
  obtain ⟨w', hrun, hD', hg⟩ := hD.update (string_keyed Tryd.underlying9) Tryd.underlying61 hn (key_mk hx) (rdK_mk e)
  have hne : ∀ y : List UInt8, y ≠ x → keyS y ≠ Lit.string x := fun y hy e => by unfold keyS at e; injection e with e; exact hy e
  refine ⟨w', hrun, ⟨_, hD', fun y => ?_, fun y u zd hy => ?_⟩, hg⟩
  · unfold updK
    by_cases hy : y = x
    · subst hy
      rw [if_pos rfl]
      exact has_put_same hD.isMap (k := Lit.string y) (by trivial) _
    · rw [if_neg hy, has_put_other (hne y hy)]
      exact h1 y
  · unfold updK at hy
    by_cases hyx : y = x
    · subst hyx
      rw [if_pos rfl] at hy
      injection hy with hy
      subst hy
      exact atKey_put_same hD.isMap (k := Lit.string y) (by trivial) _ _
    · rw [if_neg hyx] at hy
      rw [atKey_put_other (hne y hyx)]
      exact h2 y u zd hy
/-- A map that is being filled. -/
structure KdM (w0 w : World) (b n : Nat) (m : List UInt8 → Option (Int × Int)) : Prop where
  m : MapK w b n m
  g : w0.grownBy w none
  l : w0.heap.size ≤ b
section
variable {ops : Array Oper} {rest : List Oper} {o : Oper} {a : Act} {Q : Exit → Act → World → Prop} {w0 : World}
theorem wpList_putK (hg : o.guard = none) (mo x v : Operand) (hop : o.op = Op.insert 61 mo x v) (h : KdM w0 w b n m) (hn : n ≤ 100) (hm : a.eval mo = .map (some b)) (s : ByteArray) (hx : a.eval x = .string s) (hs : s.size ≤ 1000) (p q : Int) (hv : a.eval v = .agg #[.int .i64 p, .int .i64 q])
    (hk : ∀ w', KdM w0 w' b (n + 1) (updK m s.data.toList (p, q)) → wpList Tryd.prog ops Q rest (a.put o.dst undef) w') : wpList Tryd.prog ops Q (o :: rest) a w := by
  refine wpList_plain hg fun K' hK' => ?_
  obtain ⟨w', hrun, h1, h2⟩ := h.m.update (by unfold maxLen; omega) (x := s.data.toList) (by simp; omega) (p, q)
  have hrun' : (Instr.mapUpdate 61 (.map (some b)) (.string s) (.agg #[.int .i64 p, .int .i64 q])).run Tryd.prog w = .ok () w' := hrun
  unfold Oper.wp
  simp [execOp, hop, hm, hx, hv, hrun', Result.andThen]
  exact hK' _ _ (hk w' ⟨h1, grown_trans h.g h2 (fun k hk hlt => by injection hk with hk; have := h.l; omega), h.l⟩)
end
/-- The kinds of eleven lines. -/
def kOf : Nat → Int × Int
  | 0 => (1, 0) | 1 => (2, 0) | 2 => (3, 0) | 3 => (4, 0) | 4 => (5, 1) | 5 => (5, 2) | 6 => (5, 3) | 7 => (5, 4) | 8 => (6, 0) | 9 => (7, 0) | 10 => (8, 0) | _ => (0, 0)
def kdsM : List UInt8 → Option (Int × Int) :=
  updK (updK (updK (updK (updK (updK (updK (updK (updK (updK (updK (fun _ => none) (nmL 0) (kOf 0)) (nmL 1) (kOf 1)) (nmL 2) (kOf 2)) (nmL 3) (kOf 3)) (nmL 4) (kOf 4)) (nmL 5) (kOf 5)) (nmL 6) (kOf 6)) (nmL 7) (kOf 7)) (nmL 8) (kOf 8)) (nmL 9) (kOf 9)) (nmL 10) (kOf 10)
theorem kdsM_some {x : List UInt8} {p : Int × Int} (h : kdsM x = some p) : ∃ j, j < 11 ∧ x = nmL j ∧ p = kOf j := by
  unfold kdsM at h
  simp only [updK] at h
  split at h
  · exact ⟨10, by omega, by assumption, by injection h with h; exact h.symm⟩
  split at h
  · exact ⟨9, by omega, by assumption, by injection h with h; exact h.symm⟩
  split at h
  · exact ⟨8, by omega, by assumption, by injection h with h; exact h.symm⟩
  split at h
  · exact ⟨7, by omega, by assumption, by injection h with h; exact h.symm⟩
  split at h
  · exact ⟨6, by omega, by assumption, by injection h with h; exact h.symm⟩
  split at h
  · exact ⟨5, by omega, by assumption, by injection h with h; exact h.symm⟩
  split at h
  · exact ⟨4, by omega, by assumption, by injection h with h; exact h.symm⟩
  split at h
  · exact ⟨3, by omega, by assumption, by injection h with h; exact h.symm⟩
  split at h
  · exact ⟨2, by omega, by assumption, by injection h with h; exact h.symm⟩
  split at h
  · exact ⟨1, by omega, by assumption, by injection h with h; exact h.symm⟩
  split at h
  · exact ⟨0, by omega, by assumption, by injection h with h; exact h.symm⟩
  · cases h
theorem kdsM_at : ∀ j, j < 11 → kdsM (nmL j) = some (kOf j) := by decide
theorem kOf_inj : ∀ i, i < 11 → ∀ j, j < 11 → kOf i = kOf j → i = j := by decide
abbrev Kds (w : World) (b : Nat) : Prop := MapK w b 11 kdsM
set_option maxHeartbeats 1600000 in
theorem kinds_c (w : World) : Calls Tryd.prog 28 #[] w fun e w' => ∃ b, e = .returned (.map (some b)) ∧ Kds w' b ∧ w.heap.size ≤ b ∧ w.grownBy w' none := by
  have hmm := @run_makeMap Tryd.prog
  have hK : KdM w (w.alloc (.map #[] 0)) w.heap.size 0 (fun _ => none) := ⟨MapK.made w, World.grownBy_alloc w _ none, Nat.le_refl _⟩
  have HK := Lib.hid hK
  obtain ⟨b, hb⟩ : ∃ v, w.heap.size = v := ⟨_, rfl⟩
  rw [hb] at HK
  have HB := Lib.hid hb
  obtain ⟨w1, hw1⟩ : ∃ v, w.alloc (.map #[] 0) = v := ⟨_, rfl⟩
  rw [hw1] at HK
  clear hK
  go_enter Tryd.func28, Tryd.ntmps28
  go_wp2_with (first
    | (refine wpList_putK rfl _ _ _ rfl HK.out (by omega) rfl _ rfl (by decide) _ _ rfl ?_; intro w2 hk2; clear HK; have HK := Lib.hid hk2; clear hk2))
  go_ret
  exact ⟨b, rfl, HK.out.m, Nat.le_refl _, HK.out.g⟩

/-- What stands while the kinds are ranged over. -/
structure RnK (w0 wr : World) (b r : Nat) (D : DataW (Int × Int)) (x : Int × Int) (pb : Nat) (left : Lit → Bool) (cnt : Nat) : Prop where
  rg : wr.ranges Tryd.prog 9 rdK b r 11 D left cnt
  no : ∀ n, left (keyS n) = false → kdsM n ≠ some x
  pk : Blk wr pb 50 #[.int .i64 x.1, .int .i64 x.2]
  ext : w0.grownBy wr none
  lt : w0.heap.size ≤ r
/-- A kind's name, if it has one. -/
def NamA (x : Int × Int) (w : World) (e : Ending) (w' : World) : Prop := ∃ n ok, e = .returned (.tuple #[.string (bs n), .bool ok]) ∧ ((ok = true ∧ ∃ j, j < 11 ∧ n = nmL j ∧ x = kOf j) ∨ (ok = false ∧ n = [] ∧ ∀ j, j < 11 → x ≠ kOf j)) ∧ w.grownBy w' none
theorem kd_eql (x y : Int × Int) (w : World) : (binOp .eql 50 (.agg #[.int .i64 x.1, .int .i64 x.2]) (.agg #[.int .i64 y.1, .int .i64 y.2])).run Tryd.prog w = .ok (.bool (decide (x = y))) w := by
  obtain ⟨a, b⟩ := x
  obtain ⟨c, d⟩ := y
  have hE : ∀ W : World, (binOp .eql 50 (.agg #[.int .i64 a, .int .i64 b]) (.agg #[.int .i64 c, .int .i64 d])).run Tryd.prog W = .ok (.bool (a == c && b == d)) W := fun W => by
    cases h0 : a == c
    · simp [go_sem, h0]
    cases h1 : b == d
    · simp [go_sem, h0, h1]
    simp [go_sem, h0, h1]
  simp only
  rw [hE]
  congr 2
  rw [Bool.eq_iff_iff]
  simp [Prod.mk.injEq]
theorem kd_eql_op {ops : Array Oper} {rest : List Oper} {o : Oper} {a : Act} {w : World} {Q : Exit → Act → World → Prop} (hwt : Region.wanted o (yielded ops a.tmps) = true) (x y : Operand) (ho : o.op = .binOp .eql 50 x y 50) {u v : Int × Int} {r : Bool} (hr : decide (u = v) = r) (hx : a.eval x = .agg #[.int .i64 u.1, .int .i64 u.2]) (hy : a.eval y = .agg #[.int .i64 v.1, .int .i64 v.2])
    (h : wpList Tryd.prog ops Q rest (a.put o.dst (.bool r)) w) : wpList Tryd.prog ops Q (o :: rest) a w := by
  subst hr
  refine wpList_want hwt fun K hK => ?_
  have hm : Tryd.prog.eqGuardType Tryd.prog.depth 50 = false := by kernel_rfl
  unfold Oper.wp execOp
  simp only [ho, hx, hy, Sem.run_bind, run_eqGuard_agg w .eql 50 x y _ _ hm, kd_eql, Result.andThen_ok, Sem.run_pure]
  exact hK _ _ h
theorem Tryd.sizeKd25 : (Tryd.prog.info? 50).map (·.size) = some 2 := by kernel_rfl
theorem kd_load {ops : Array Oper} {rest : List Oper} {o : Oper} {a : Act} {w : World} {Q : Exit → Act → World → Prop} (hwt : Region.wanted o (yielded ops a.tmps) = true) (x : Operand) (ho : o.op = .load 50 x) {b : Nat} (hx : a.eval x = .pointer (some ⟨b, 0, none⟩)) {p q : Int} (hr : Blk w b 50 #[.int .i64 p, .int .i64 q])
    (h : wpList Tryd.prog ops Q rest (a.put o.dst (.agg #[.int .i64 p, .int .i64 q])) w) : wpList Tryd.prog ops Q (o :: rest) a w := by
  refine wpList_want hwt fun K hK => wp_load_mid 50 x ho b 0 hx _ _ hr.range25 Tryd.underlying50 rfl (by rw [Tryd.sizeKd25]; rfl) (hK _ _ (by simpa using h))
theorem kd_store {ops : Array Oper} {rest : List Oper} {o : Oper} {a : Act} {w : World} {Q : Exit → Act → World → Prop} (hwt : Region.wanted o (yielded ops a.tmps) = true) (x y : Operand) (ho : o.op = .store 50 x y) {b : Nat} {p q : Int} {old : Array Value} (hx : a.eval x = .pointer (some ⟨b, 0, none⟩)) (hy : a.eval y = .agg #[.int .i64 p, .int .i64 q]) (hr : Blk w b 50 old) (hl : old.size = 2)
    (h : ∀ w', Blk w' b 50 #[.int .i64 p, .int .i64 q] → w.grownBy w' (some b) → w'.heap.size = w.heap.size → wpList Tryd.prog ops Q rest (a.put o.dst undef) w') : wpList Tryd.prog ops Q (o :: rest) a w :=
  wpList_store_part hwt _ x y ho b 0 2 _ hx hy _ old _ hr rfl Tryd.sizeKd25 (by omega) (by simp [Value.oneCell']) (by
    have h1 : (#[.int .i64 p, .int .i64 q] : Array Value).toList.length = 2 := rfl
    rw [h1, List.drop_of_length_le (by simp; omega)]
    simp) h
theorem range_ne25 {w : World} {b r n : Nat} {D : DataW (Int × Int)} {left : Lit → Bool} {cnt : Nat} (h : w.ranges Tryd.prog 9 rdK b r n D left cnt) {pb : Nat} {T : TypeId} {cs : Array Value} (hp : Blk w pb T cs) : some b ≠ some pb ∧ some r ≠ some pb := by
  obtain ⟨es, clock, since, seen, c0, hb, _, _, _, hr, _⟩ := h
  constructor
  · intro e1; injection e1 with e1; subst e1; have hp2 : w.heap[b]? = some _ := hp; rw [hb] at hp2; cases hp2
  · intro e1; injection e1 with e1; subst e1; have hp2 : w.heap[r]? = some _ := hp; rw [hr] at hp2; cases hp2
set_option maxHeartbeats 1600000 in
theorem nameOf_c (p q : Int) (w : World) : Calls Tryd.prog 20 #[.agg #[.int .i64 p, .int .i64 q]] w (NamA (p, q) w) := by
  have hBp := Blk.new w 50 #[.int .i64 p, .int .i64 q]
  have hE0 := World.grownBy_alloc w (.cells #[.int .i64 p, .int .i64 q] 50) none
  obtain ⟨w0, hw0⟩ : ∃ z, w.alloc (.cells #[.int .i64 p, .int .i64 q] 50) = z := ⟨_, rfl⟩
  obtain ⟨pb, hpb⟩ : ∃ z, w.heap.size = z := ⟨_, rfl⟩
  rw [hw0] at hBp hE0
  rw [hpb] at hBp
  have HB0 := Lib.hid hBp
  have HE0 := Lib.hid hE0
  have HW := Lib.hid hw0
  clear hBp hE0 hw0
  go_enter Tryd.func20, Tryd.ntmps20
  go_upto_region 1 with fail
  rw [HW.out]
  go_wp2_with (first
    | (at_range; refine wpList_range_own _ rfl _ _ rfl 9 50 (string_keyed Tryd.underlying9) Tryd.underlying61 _ mb 11 D rfl HD.out.1 ?_; intro w2 hrg2 hg2 hs2)
    | (go_at_call 28; refine (kinds_c _).mono ?_; rintro e w1 ⟨mb, rfl, ⟨D, hD, hD1, hD2⟩, hlb, hg1⟩; have HD := Lib.hid (And.intro hD (And.intro hD1 hD2)); have HE1 := Lib.hid hg1; clear hD hD1 hD2 hg1 hlb))
  go_frame
  obtain ⟨r, hr⟩ : ∃ z, w1.heap.size = z := ⟨_, rfl⟩
  rw [hr] at hrg2 ⊢
  have hl0 := HB0.out.lt
  have HR0 := Lib.hid (show RnK w w2 mb r D (p, q) pb (Maps.has D) (Maps.size D) from
    ⟨hrg2, fun n h1 h2 => by have := HD.out.2.1 n; rw [h1, h2] at this; simp at this, HB0.out.ext (ext_trans HE1.out hg2), ext_trans HE0.out (ext_trans HE1.out hg2), by have := HE0.out.size; have := HE1.out.size; omega⟩)
  clear hrg2 hg2 hs2 hr hl0 hpb
  go_loopw [] (fun wr => ∃ (left : Lit → Bool) (cnt : Nat), RnK w wr mb r D (p, q) pb left cnt) (fun wr => wr.rangeLeft mb r)
  case atStart => exact ⟨_, _, HR0.out⟩
  case round =>
    clear HR0
    obtain ⟨left, cnt, hR⟩ := hrel
    obtain ⟨wq, rfl⟩ : ∃ wq : World, wq = wr := ⟨_, rfl⟩
    have HR := Lib.hid hR
    have hrg := hR.rg
    clear hR
    go_wp2_with (first
      | (at_next; refine wpList_next_ranges _ rfl _ rfl 9 (string_keyed Tryd.underlying9) rdK Value.string kdV (fun key kl hkey => by obtain ⟨s, rfl, _⟩ := WideMaps.string_of_keyOf Tryd.underlying9 hkey; exact ⟨s, rfl⟩) (fun v y hv => by obtain ⟨c, rfl, _⟩ := rdK_inv hv; exact ⟨c, rfl⟩) mb r 11 D left cnt rfl hrg ?_ ?_)
      | go_in)
    · intro hc0 hl0
      have HL0 := Lib.hid hl0
      clear hl0 hc0 hrg
      go_wp2
      go_ret2
      refine ⟨[], false, rfl, .inr ⟨rfl, rfl, fun j hj e => ?_⟩, HR.out.ext⟩
      exact HR.out.no (nmL j) (HL0.out _) (by rw [kdsM_at j hj, e])
    · intro x c1 c2 kl ya yb w4 cnt4 hkey hlk hv hat hrg4 hlt4 hg4 hs4 hen
      obtain ⟨s, e1, hkl, hwx⟩ := WideMaps.string_of_keyOf Tryd.underlying9 hkey
      simp only [Value.string.injEq] at e1
      subst e1
      subst hkl
      rw [rdK_mk] at hv
      simp only [Option.some.injEq, Prod.mk.injEq] at hv
      obtain ⟨rfl, rfl⟩ := hv
      have hmx : kdsM x.data.toList = some (c1, c2) := by
        have h1 : Maps.has D (keyS x.data.toList) = true := Maps.has_true_of_atKey hat
        rw [HD.out.2.1] at h1
        obtain ⟨e, he⟩ := Option.isSome_iff_exists.1 h1
        have h2 := HD.out.2.2 x.data.toList e (.held (c1, c2)) he
        have h3 : D.atKey (keyS x.data.toList) (.held (c1, c2)) = .held (c1, c2) := hat _
        rw [h3] at h2
        injection h2 with h2
        rw [he, h2]
      have hne := range_ne25 hrg HR.out.pk
      have HBP := Lib.hid (HR.out.pk.kept hg4 (by intro e; exact hne.2 e.symm))
      have HE4 := Lib.hid (grown_trans HR.out.ext hg4 (fun k hk hlt => by injection hk with hk; have := HR.out.lt; omega))
      have HX := Lib.hid (And.intro hlk (And.intro hmx hlt4))
      have HRG4 := Lib.hid hrg4
      have HRGO := Lib.hid hrg
      unfold kdV at hen
      simp only at hen
      have hBn := Blk.new w4 50 #[.int .i64 0, .int .i64 0]
      obtain ⟨eq, heq⟩ : ∃ z, decide (((c1, c2) : Int × Int) = (p, q)) = z := ⟨_, rfl⟩
      have HEQ := Lib.hid heq
      clear hkey hlk hat hrg4 hlt4 hg4 hs4 hwx hmx hne hrg heq
      go_upto_region 4 with (first
        | (refine kd_store (p := c1) (q := c2) rfl _ _ rfl rfl rfl hBn rfl ?_; intro w5 hb5 hg5 hs5; have HE5 := Lib.hid (new24 (World.grownBy_alloc w4 _ none) hg5 (Nat.le_refl _)); have HB5 := Lib.hid hb5; clear hBn hg5 hs5 hb5))
      clear hen
      have hbp := HBP.out.ext HE5.out
      have hb5 := HB5.out
      cases eq
      · go_wp2_with (first
          | (refine kd_eql_op (u := (c1, c2)) (v := (p, q)) rfl _ _ rfl HEQ.out rfl rfl ?_)
          | (refine kd_load rfl _ rfl rfl hbp ?_)
          | (refine kd_load rfl _ rfl rfl hb5 ?_))
        go_roundw
        case rel =>
          have hne4 := range_ne25 HRG4.out HBP.out
          refine ⟨_, cnt4, HRG4.out.kept HE5.out (by simp) (by simp), fun n hn => ?_, HBP.out.ext HE5.out, ext_trans HE4.out HE5.out, HR.out.lt⟩
          by_cases hnx : n = x.data.toList
          · subst hnx
            rw [HX.out.2.1]
            intro e
            injection e with e
            have := HEQ.out
            rw [decide_eq_false_iff_not] at this
            exact this e
          · have hk : (keyS n).sameKey (Lit.string x.data.toList) = false := Maps.sameKey_ne (fun e => by unfold keyS at e; injection e with e; exact hnx e)
            have hn2 : (left (keyS n) && !(keyS n).sameKey (Lit.string x.data.toList)) = false := hn
            rw [hk] at hn2
            exact HR.out.no n (by simpa using hn2)
        case measure =>
          have h1 := HRG4.out.kept HE5.out (by simp) (by simp)
          rw [h1.left_eq, HRGO.out.left_eq]
          exact HX.out.2.2
      · go_wp2_with (first
          | (refine kd_eql_op (u := (c1, c2)) (v := (p, q)) rfl _ _ rfl HEQ.out rfl rfl ?_)
          | (refine kd_load rfl _ rfl rfl hbp ?_)
          | (refine kd_load rfl _ rfl rfl hb5 ?_))
        go_ret2
        obtain ⟨j, hj, hn, hk⟩ := kdsM_some HX.out.2.1
        refine ⟨x.data.toList, true, rfl, .inl ⟨rfl, j, hj, hn, ?_⟩, ext_trans HE4.out HE5.out⟩
        rw [← hk]
        exact (of_decide_eq_true HEQ.out).symm
end Go.Proofs.YtdaifepjmkmpjaaDoor
