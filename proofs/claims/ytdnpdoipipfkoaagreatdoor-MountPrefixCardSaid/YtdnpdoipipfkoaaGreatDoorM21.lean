/-
  Texts put together: IB.
-/
import Derived.Test.YtdnpdoipipfkoaaGreatDoorRows
import Derived.WalkKit
import Derived.Maps.OwnSet
import Derived.Maps.RangeWalk
namespace Go.Proofs.YtdnpdoipipfkoaaGreatDoor
set_option linter.unusedVariables false
set_option linter.unusedSimpArgs false
set_option linter.unusedVariables false
set_option linter.unusedSimpArgs false
set_option maxRecDepth 100000
open Go.RowKit Go.Maps
section
variable {X : Type}
open Classical in
noncomputable def rdX (mk : X → Value) (v : Value) : Option (DataW X × List MemPlace) := if h : ∃ x, v = mk x then some (.held h.choose, []) else none
theorem rdX_mk {mk : X → Value} (inj : ∀ x y, mk x = mk y → x = y) (x : X) : rdX mk (mk x) = some (.held x, []) := by
 unfold rdX
 have h : ∃ y, mk x = mk y := ⟨x, rfl⟩
 have h2 : h.choose = x := inj _ _ h.choose_spec.symm
 rw [dif_pos h, h2]
theorem rdX_inv {mk : X → Value} {v : Value} {z : DataW X × List MemPlace} (h : rdX mk v = some z) : ∃ x, v = mk x ∧ z = (.held x, []) := by
 unfold rdX at h
 split at h
 · rename_i hx
   exact ⟨hx.choose, hx.choose_spec, by injection h with h; exact h.symm⟩
 · cases h
def keyI (n : Int) : Lit := .int .i64 n
def okI (n : Int) : Prop := (Lit.int .i64 n).wf = true
theorem okI_of {n : Int} (h0 : -9223372036854775808 ≤ n) (h1 : n ≤ 9223372036854775807) : okI n := WalkArith.wf_i64 (by omega)
def updX (m : Int → Option X) (x : Int) (e : X) : Int → Option X := fun y => if y = x then some e else m y
def MapX (P : Program) (K : TypeId) (mk : X → Value) (w : World) (b n : Nat) (m : Int → Option X) : Prop :=
 ∃ D : DataW X, w.ownsMap P K (rdX mk) b n D ∧ (∀ x, Maps.has D (keyI x) = (m x).isSome) ∧ (∀ x e zd, m x = some e → D.atKey (keyI x) zd = .held e)
variable {P : Program} {K T E : TypeId} {mk : X → Value} {w w' : World} {b n : Nat} {m : Int → Option X}
theorem MapX.made (P : Program) (K : TypeId) (mk : X → Value) (w : World) : MapX P K mk (w.alloc (.map #[] 0)) w.heap.size 0 (fun _ => none) :=
 ⟨.map [], World.ownsMap_made w P K _, fun x => rfl, fun x e zd h => by cases h⟩
theorem MapX.lt (h : MapX P K mk w b n m) : b < w.heap.size := by obtain ⟨D, hD, _⟩ := h; exact hD.lt
theorem MapX.mono (h : MapX P K mk w b n m) {n' : Nat} (hn : n ≤ n') : MapX P K mk w b n' m := by
 obtain ⟨D, hD, h2⟩ := h
 exact ⟨D, hD.mono hn, h2⟩
theorem MapX.kept {r : Option Nat} (h : MapX P K mk w b n m) (hg : w.grownBy w' r) (hne : some b ≠ r) : MapX P K mk w' b n m := by
 obtain ⟨D, hD, h2⟩ := h
 exact ⟨D, hD.kept hg hne, h2⟩
theorem MapX.ext (h : MapX P K mk w b n m) (hg : w.grownBy w' none) : MapX P K mk w' b n m := h.kept hg (by simp)
theorem atX {D : DataW X} {zero x' : X} (h1 : ∀ x, Maps.has D (keyI x) = (m x).isSome) (h2 : ∀ x e zd, m x = some e → D.atKey (keyI x) zd = .held e) {x : Int} (h : DataW.held x' = D.atKey (keyI x) (.held zero)) : x' = (m x).getD zero := by
 cases hm : m x with
 | none =>
   have h3 := h1 x
   rw [hm] at h3
   rw [atKey_of_not_has h3] at h
   injection h
 | some e =>
   rw [h2 x e _ hm] at h
   injection h
theorem MapX.look (h : MapX P K mk w b n m) (inj : ∀ x y, mk x = mk y → x = y) (hT : P.underlying T = some (.map K E)) (hK : P.underlying K = some (.int .i64)) (zero : X) (hz : (zeroValue E).run P w = .ok (mk zero) w) {x : Int} (hx : okI x) :
   (Instr.lookup T (.map (some b)) (.int .i64 x) false).run P w = .ok (mk ((m x).getD zero)) w := by
 obtain ⟨D, hD, h1, h2⟩ := h
 obtain ⟨v, ps, hrun, hv⟩ := hD.lookup (int_keyed hK) hT hz (rdX_mk inj zero) (keyOf_int_mk hK hx)
 obtain ⟨x', rfl, hx'⟩ := rdX_inv hv
 injection hx' with hx' _
 rw [← atX h1 h2 hx'.symm]
 exact hrun
theorem MapX.look_ok (h : MapX P K mk w b n m) (inj : ∀ x y, mk x = mk y → x = y) (hT : P.underlying T = some (.map K E)) (hK : P.underlying K = some (.int .i64)) (zero : X) (hz : (zeroValue E).run P w = .ok (mk zero) w) {x : Int} (hx : okI x) :
   (Instr.lookup T (.map (some b)) (.int .i64 x) true).run P w = .ok (.tuple #[mk ((m x).getD zero), .bool (m x).isSome]) w := by
 obtain ⟨D, hD, h1, h2⟩ := h
 obtain ⟨v, ps, hrun, hv⟩ := hD.look_ok (int_keyed hK) hT hz (rdX_mk inj zero) (keyOf_int_mk hK hx)
 obtain ⟨x', rfl, hx'⟩ := rdX_inv hv
 injection hx' with hx' _
 rw [← atX h1 h2 hx'.symm, ← h1 x]
 exact hrun
theorem MapX.update (h : MapX P K mk w b n m) (inj : ∀ x y, mk x = mk y → x = y) (hT : P.underlying T = some (.map K E)) (hK : P.underlying K = some (.int .i64)) (hn : n < maxLen) {x : Int} (hx : okI x) (e : X) :
   ∃ w', (Instr.mapUpdate T (.map (some b)) (.int .i64 x) (mk e)).run P w = .ok () w' ∧ MapX P K mk w' b (n + 1) (updX m x e) ∧ w.grownBy w' (some b) := by
 obtain ⟨D, hD, h1, h2⟩ := h
 obtain ⟨w', hrun, hD', hg⟩ := hD.update (int_keyed hK) hT hn (keyOf_int_mk hK hx) (rdX_mk inj e)
 have hne : ∀ y : Int, y ≠ x → keyI y ≠ Lit.int .i64 x := fun y hy e => by unfold keyI at e; injection e with _ e; exact hy e
 refine ⟨w', hrun, ⟨_, hD', fun y => ?_, fun y u zd hy => ?_⟩, hg⟩
 · unfold updX
   by_cases hy : y = x
   · subst hy
     rw [if_pos rfl]
     exact has_put_same hD.isMap (k := Lit.int .i64 y) (by trivial) _
   · rw [if_neg hy, has_put_other (hne y hy)]
     exact h1 y
 · unfold updX at hy
   by_cases hyx : y = x
   · subst hyx
     rw [if_pos rfl] at hy
     injection hy with hy
     subst hy
     exact atKey_put_same hD.isMap (k := Lit.int .i64 y) (by trivial) _ _
   · rw [if_neg hyx] at hy
     rw [atKey_put_other (hne y hyx)]
     exact h2 y u zd hy
section
variable {ops : Array Oper} {rest : List Oper} {o : Oper} {a : Act} {Q : Exit → Act → World → Prop}
theorem wpList_lookX (hg : o.guard = none) (mo x : Operand) (hop : o.op = Op.lookup T mo x false) (inj : ∀ x y, mk x = mk y → x = y) (hT : P.underlying T = some (.map K E)) (hK : P.underlying K = some (.int .i64)) (zero : X) (hz : (zeroValue E).run P w = .ok (mk zero) w)
   (h : MapX P K mk w b n m) (hm : a.eval mo = .map (some b)) (y : Int) (hx : a.eval x = .int .i64 y) (hy : okI y) (v : Value) (hv : mk ((m y).getD zero) = v)
   (hk : wpList P ops Q rest (a.put o.dst v) w) : wpList P ops Q (o :: rest) a w := by
 refine wpList_plain hg fun K' hK' => ?_
 have hrun := h.look inj hT hK zero hz hy
 rw [hv] at hrun
 unfold Oper.wp
 simp [execOp, hop, hm, hx, hrun, Result.andThen]
 exact hK' _ _ hk
theorem wpList_lookXok (hg : o.guard = none) (mo x : Operand) (hop : o.op = Op.lookup T mo x true) (inj : ∀ x y, mk x = mk y → x = y) (hT : P.underlying T = some (.map K E)) (hK : P.underlying K = some (.int .i64)) (zero : X) (hz : (zeroValue E).run P w = .ok (mk zero) w)
   (h : MapX P K mk w b n m) (hm : a.eval mo = .map (some b)) (y : Int) (hx : a.eval x = .int .i64 y) (hy : okI y) (v : Value) (hv : mk ((m y).getD zero) = v) (c : Bool) (hc : (m y).isSome = c)
   (hk : wpList P ops Q rest (a.put o.dst (.tuple #[v, .bool c])) w) : wpList P ops Q (o :: rest) a w := by
 refine wpList_plain hg fun K' hK' => ?_
 have hrun := h.look_ok inj hT hK zero hz hy
 rw [hv, hc] at hrun
 unfold Oper.wp
 simp [execOp, hop, hm, hx, hrun, Result.andThen]
 exact hK' _ _ hk
theorem wpList_putX (hg : o.guard = none) (mo x v : Operand) (hop : o.op = Op.mapUpdate T mo x v) (inj : ∀ x y, mk x = mk y → x = y) (hT : P.underlying T = some (.map K E)) (hK : P.underlying K = some (.int .i64))
   (h : MapX P K mk w b n m) (hn : n < maxLen) (hm : a.eval mo = .map (some b)) (y : Int) (hx : a.eval x = .int .i64 y) (hy : okI y) (e : X) (hv : a.eval v = mk e)
   (hk : ∀ w', MapX P K mk w' b (n + 1) (updX m y e) → w.grownBy w' (some b) → wpList P ops Q rest (a.put o.dst undef) w') : wpList P ops Q (o :: rest) a w := by
 refine wpList_plain hg fun K' hK' => ?_
 obtain ⟨w', hrun, h1, h2⟩ := h.update inj hT hK hn hy e
 unfold Oper.wp
 simp [execOp, hop, hm, hx, hv, hrun, Result.andThen]
 exact hK' _ _ (hk w' h1 h2)
end
end
end Go.Proofs.YtdnpdoipipfkoaaGreatDoor
