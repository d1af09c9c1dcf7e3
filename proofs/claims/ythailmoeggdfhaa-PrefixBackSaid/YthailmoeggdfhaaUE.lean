/-
  Layer 24: what After, Find, Longest answer (their contracts); rows of changes of the law's own.
-/
import Derived.Test.YthailmoeggdfhaaUD
namespace Go.Proofs.Ythailmoeggdfhaa
set_option linter.unusedVariables false
set_option linter.unusedSimpArgs false
set_option maxRecDepth 100000
open Go.RowKit

/-- How a slice's value may stand. -/
structure Sl (a : Option Addr) (n cap : Nat) : Prop where
  nil : a = none → n = 0 ∧ cap = 0
  spot : ∀ z, a = some z → z.spot = none
  le : n ≤ cap
  max : cap ≤ 9223372036854775807
def AftC : Prop := ∀ (w : World) (a b : Option Addr) (ca cb : Nat) (ss : List ByteArray) (X : List (Int × ByteArray)), TxR w a ss → Sl a ss.length ca → ChT w b X → Sl b X.length cb → ss.length ≤ 1000 → X.length ≤ 1000 →
  Calls Try.prog 11 #[.slice a ss.length ca, .slice b X.length cb] w fun e w' => ∃ a' c', e = .returned (.slice a' ss.length c') ∧ Sl a' ss.length c' ∧ TxR w' a' (aftR X ss) ∧ w.grownBy w' none
def FinC : Prop := ∀ (w : World) (a b c : Option Addr) (ca cb cc : Nat) (ss ts : List ByteArray) (X : List (Int × ByteArray)), TxR w a ss → Sl a ss.length ca → ChT w b X → Sl b X.length cb → TxR w c ts → Sl c ts.length cc → ss.length ≤ 1000 → X.length ≤ 1000 → ts.length ≤ 1000 →
  Calls Try.prog 8 #[.slice a ss.length ca, .slice b X.length cb, .slice c ts.length cc] w fun e w' => e = .returned (.tuple #[.int .i64 ((allN X ss ts (X.length + 1)).headD 0), .bool (decide (allN X ss ts (X.length + 1) ≠ []))]) ∧ w.grownBy w' none
def LonC : Prop := ∀ (w : World) (a b c : Option Addr) (ca cb cc : Nat) (ss ts : List ByteArray) (X : List (Int × ByteArray)), TxR w a ss → Sl a ss.length ca → ChT w b X → Sl b X.length cb → TxR w c ts → Sl c ts.length cc → ss.length ≤ 1000 → X.length ≤ 1000 → ts.length ≤ 1000 →
  Calls Try.prog 9 #[.slice a ss.length ca, .slice b X.length cb, .slice c ts.length cc] w fun e w' => e = .returned (.tuple #[.int .i64 ((allN X ss ts (X.length + 1)).getLastD 0), .bool (decide (allN X ss ts (X.length + 1) ≠ []))]) ∧ w.grownBy w' none
def Fix24 : Prop := ∀ w : World, Calls Try.prog 5 #[] w fun e w' => e = .returned (.bool true) ∧ w.grownBy w' none

/-- The cells of changes. -/
def chL (X : List (Int × ByteArray)) : List Value := X.flatMap fun x => (ch24C x).toList
theorem chL_length (X : List (Int × ByteArray)) : (chL X).length = X.length * 2 := by
  induction X with
  | nil => rfl
  | cons x r ih =>
    have : chL (x :: r) = (ch24C x).toList ++ chL r := rfl
    rw [this, List.length_append, ih]
    simp [ch24C]; omega
theorem chL_at (X : List (Int × ByteArray)) (i : Nat) (hi : i < X.length) (j : Nat) (hj : j < 2) : (chL X)[i * 2 + j]? = (ch24C (X.getD i (0, ByteArray.empty))).toList[j]? := by
  induction X generalizing i with
  | nil => simp at hi
  | cons x r ih =>
    have e : chL (x :: r) = (ch24C x).toList ++ chL r := rfl
    have e2 : (ch24C x).toList.length = 2 := rfl
    rw [e]
    match i with
    | 0 => rw [List.getElem?_append_left (by omega), Nat.zero_mul, Nat.zero_add]; rfl
    | i + 1 =>
      rw [List.getElem?_append_right (by omega), e2, show (i + 1) * 2 + j - 2 = i * 2 + j by omega, ih i (by simpa using hi)]
      rfl
def OwnCh (B : Nat) (w : World) (v : Value) (X : List (Int × ByteArray)) : Prop := w.ownsRow B 29 2 v X.length (chL X)
theorem ownCh_open {B : Nat} {w : World} {v : Value} {X : List (Int × ByteArray)} (h : OwnCh B w v X) : ∃ a cap, v = .slice a X.length cap ∧ Sl a X.length cap ∧ ChT w a X := by
  rcases h.2 with ⟨rfl, h0⟩ | ⟨g, cap, cur, rfl, h2, h3, h4, h5, h6, h7⟩
  · exact ⟨none, 0, by rw [h0], ⟨fun _ => ⟨h0, rfl⟩, fun z hz => by (cases hz), by omega, by omega⟩, fun i hi => by omega⟩
  · unfold maxLen at h5
    refine ⟨_, cap, rfl, ⟨fun h => by (cases h), fun z hz => by injection hz with hz; rw [← hz], h4, by omega⟩, fun i hi => ⟨g, 0, rfl, fun j u hj => ?_⟩⟩
    have hj2 : j < 2 := (List.getElem?_eq_some_iff.1 hj).1
    have h8 : (cur.toList.take (X.length * 2))[i * 2 + j]? = (chL X)[i * 2 + j]? := by rw [h7]
    rw [List.getElem?_take, if_pos (by omega), Array.getElem?_toList, chL_at X i hi j hj2, hj] at h8
    rw [cell_of_row w g _ cur _ (0, 0) h3, Nat.zero_add]
    exact h8
theorem Try.infoCh24 : (Try.prog.info? 29).map (fun i => (i.zero, i.size, i.bytes)) = some (some (.agg #[.int .i64 0, .string ⟨#[]⟩]), 2, 24) := by kernel_rfl
section
variable {ops : Array Oper} {rest : List Oper} {o : Oper} {a : Act} {w : World} {Q : Exit → Act → World → Prop}
theorem append_ch24 (hgd : o.guard = none) (s x : Operand) (ho : o.op = .call { callee := .builtin .append, args := #[s, x], argTypes := #[26, 26] }) (base : Nat) (v : Value) (X : List (Int × ByteArray)) (hs : a.eval s = v) (hown : OwnCh base w v X)
    (ad : Addr) (cap : Nat) (y : Int × ByteArray) (hx : a.eval x = .slice (some ad) 1 cap) (hc : ∀ j u, (ch24C y).toList[j]? = some u → w.cell? (ad.add j) = some u) (h63 : X.length ≤ 1000000) (hbase : base ≤ w.heap.size)
    (h : ∀ v' w', OwnCh base w' v' (X ++ [y]) → w.grownBy w' v.ownBlock → wpList Try.prog ops Q rest (a.put o.dst v') w') : wpList Try.prog ops Q (o :: rest) a w := by
  obtain ⟨i0, hi, hz0, hz1, hz2⟩ := info_parts Try.infoCh24
  refine wpList_append_own w hgd s x 26 ho base 29 i0 _ 2 24 Try.underlying26 hi hz0 hz1 hz2 rfl (by decide) v X.length _ hs hown ad 1 cap (ch24C y).toList hx rfl hc (by intro u hu; simp [ch24C] at hu; rcases hu with rfl | rfl <;> rfl) (by unfold maxLen; omega) (by omega) hbase ?_
  · intro v' w' h1 h2 _
    refine h v' w' ?_ h2
    have e : chL (X ++ [y]) = chL X ++ (ch24C y).toList := by simp [chL]
    unfold OwnCh
    rw [List.length_append, e]
    exact h1
end
theorem cells_new24 (w : World) (y : Int × ByteArray) (t : TypeId) : ∀ j u, (ch24C y).toList[j]? = some u → (w.alloc (.cells (ch24C y) t)).cell? ((⟨w.heap.size, 0, none⟩ : Addr).add j) = some u := fun j u hj => by
  rw [addr_add, Nat.zero_add, cell_of_row _ w.heap.size j (ch24C y) t (0, 0) (heap_alloc_new w _), ← hj, Array.getElem?_toList]
theorem ownI_open24 {B : Nat} {w : World} {v : Value} {l : List Nat} (h : OwnI24 B w v l) : ∃ a cap, v = .slice a l.length cap ∧ ∀ i, i < l.length → ∃ g, a = some ⟨g, 0, none⟩ ∧ w.cell? ⟨g, i, none⟩ = some (.int .i64 (l.getD i 0 : Nat)) := by
  rcases h.2 with ⟨rfl, h0⟩ | ⟨g, cap, cur, rfl, h2, h3, _, _, _, h7⟩
  · exact ⟨none, 0, by rw [h0], fun i hi => by omega⟩
  · refine ⟨_, cap, rfl, fun i hi => ⟨g, rfl, ?_⟩⟩
    have h8 : (cur.toList.take (l.length * 1))[i]? = (l.map fun x : Nat => Value.int .i64 x)[i]? := by rw [h7]
    rw [List.getElem?_take, if_pos (by omega), Array.getElem?_toList, List.getElem?_map, List.getElem?_eq_getElem hi] at h8
    rw [cell_of_row w g i cur _ (0, 0) h3, h8]
    simp [List.getD_eq_getElem?_getD, List.getElem?_eq_getElem hi]

end Go.Proofs.Ythailmoeggdfhaa
