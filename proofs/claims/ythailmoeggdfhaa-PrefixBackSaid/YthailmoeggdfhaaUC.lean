/-
  Layer 24's reference: All.
-/
import Derived.Test.YthailmoeggdfhaaUB
namespace Go.Proofs.Ythailmoeggdfhaa
set_option linter.unusedVariables false
set_option linter.unusedSimpArgs false
set_option maxRecDepth 100000
open Go.RowKit

theorem aftR_length (X : List (Int × ByteArray)) (ss : List ByteArray) : (aftR X ss).length = ss.length := by simp [aftR]
theorem TxB.aft {w : World} {g : Nat} {X : List (Int × ByteArray)} {ss : List ByteArray} (h : TxB w g ss.length (aftU X ss ss.length)) : TxR w (some ⟨g, 0, none⟩) (aftR X ss) := by
  have e : (List.range ss.length).map (aftU X ss ss.length) = aftR X ss := by
    unfold aftR
    refine List.map_congr_left fun i hi => ?_
    rw [aftU, if_pos (by simpa using hi)]
  rw [← e]
  exact h.txs
theorem ChT.take {w : World} {a : Option Addr} {X : List (Int × ByteArray)} (h : ChT w a X) (k : Nat) : ChT w a (X.take k) := fun i hi => by
  have hk : i < k := by simp at hi; omega
  have hl : i < X.length := by simp at hi; omega
  obtain ⟨b, off, h1, h2⟩ := h i hl
  refine ⟨b, off, h1, ?_⟩
  rw [List.getD_eq_getElem?_getD, List.getElem?_take, if_pos hk, ← List.getD_eq_getElem?_getD]
  exact h2
/-- The numbers below n of first changes behind which the places are these. -/
def allN (X : List (Int × ByteArray)) (ss ts : List ByteArray) (n : Nat) : List Nat := (List.range n).filter fun j => decide (aftR (X.take j) ss = ts)
theorem allN_succ (X : List (Int × ByteArray)) (ss ts : List ByteArray) (n : Nat) : allN X ss ts (n + 1) = if aftR (X.take n) ss = ts then allN X ss ts n ++ [n] else allN X ss ts n := by
  unfold allN
  rw [List.range_succ, List.filter_append]
  by_cases e : aftR (X.take n) ss = ts
  · rw [if_pos e]; simp [e]
  · rw [if_neg e]; simp [e]
theorem allN_length (X : List (Int × ByteArray)) (ss ts : List ByteArray) (n : Nat) : (allN X ss ts n).length ≤ n := by
  unfold allN
  exact Nat.le_trans (List.length_filter_le _ _) (by simp)
def OwnI24 (B : Nat) (w : World) (v : Value) (xs : List Nat) : Prop := w.ownsRow B 3 1 v xs.length (xs.map fun x : Nat => Value.int .i64 x)
theorem own24 {w wr w4 : World} {v : Value} {xs : List Nat} (hE : w.grownBy wr none) (ho : OwnI24 w.heap.size wr v xs) (hg : wr.grownBy w4 v.ownBlock) : w.grownBy w4 none :=
  grown_trans hE hg (fun p hp hlt => by have := (ho.lt p hp).1; omega)
theorem Try.infoInt24 : (Try.prog.info? 3).map (fun i => (i.zero, i.size, i.bytes)) = some (some (.int .i64 0), 1, 8) := by kernel_rfl
section
variable {ops : Array Oper} {rest : List Oper} {o : Oper} {a : Act} {w : World} {Q : Exit → Act → World → Prop}
theorem append_int24 (hgd : o.guard = none) (s x : Operand) (ho : o.op = .call { callee := .builtin .append, args := #[s, x], argTypes := #[30, 30] }) (base : Nat) (v : Value) (xs : List Nat) (hs : a.eval s = v) (hown : OwnI24 base w v xs)
    (ad : Addr) (cap : Nat) (y : Nat) (hx : a.eval x = .slice (some ad) 1 cap) (hc : w.cell? ad = some (.int .i64 y)) (h63 : xs.length ≤ 1000000) (hbase : base ≤ w.heap.size)
    (h : ∀ v' w', OwnI24 base w' v' (xs ++ [y]) → w.grownBy w' v.ownBlock → wpList Try.prog ops Q rest (a.put o.dst v') w') : wpList Try.prog ops Q (o :: rest) a w := by
  obtain ⟨i0, hi, hz0, hz1, hz2⟩ := info_parts Try.infoInt24
  refine wpList_append_own w hgd s x 30 ho base 3 i0 (.int .i64 0) 1 8 Try.underlying30 hi hz0 hz1 hz2 rfl (by decide) v xs.length _ hs hown ad 1 cap [.int .i64 y] hx rfl (fun j u hj => ?_) (by simp [Value.oneCell']) (by unfold maxLen; omega) (by omega) hbase ?_
  · match j, hj with
    | 0, hj => simp at hj; subst hj; simpa [Addr.add] using hc
    | j + 1, hj => simp at hj
  · intro v' w' h1 h2 _
    refine h v' w' ?_ h2
    unfold OwnI24
    rw [List.length_append, List.map_append]
    exact h1
end

set_option maxHeartbeats 1600000 in
theorem all24 (w : World) (a b c : Option Addr) (ca cb cc : Nat) (ss ts : List ByteArray) (X : List (Int × ByteArray)) (h1 : TxR w a ss) (ha : a = none → ss.length = 0 ∧ ca = 0) (hp : ∀ z, a = some z → z.spot = none) (hX : ChT w b X) (hcb : X.length ≤ cb ∧ cb ≤ 9223372036854775807) (hb : b = none → cb = 0) (hbp : ∀ z, b = some z → z.spot = none) (h3 : TxR w c ts) (hs : ss.length ≤ 1000) (ht : X.length ≤ 1000) (hu : ts.length ≤ 1000) :
    Calls Try.prog 7 #[.slice a ss.length ca, .slice b X.length cb, .slice c ts.length cc] w fun e w' => ∃ v, e = .returned v ∧ OwnI24 w.heap.size w' v (allN X ss ts (X.length + 1)) ∧ w.grownBy w' none := by
  have AF := Lib.hid (fun (wx : World) (hE : w.grownBy wx none) (k : Nat) (hk : k ≤ X.length) => by
    have := after24 wx a b ca cb ss (X.take k) (h1.ext hE) ha hp ((hX.ext hE).take k) hs (by simp; omega)
    rw [show (X.take k).length = k by simp; omega] at this
    exact this)
  have SM := Lib.hid (fun (wx : World) (hE : w.grownBy wx none) (g cap k : Nat) (hT : TxB wx g ss.length (aftU (X.take k) ss ss.length)) => by
    have := same24 wx (some ⟨g, 0, none⟩) c cap cc (aftR (X.take k) ss) ts hT.aft (h3.ext hE) (by rw [aftR_length]; exact hs) hu
    rw [aftR_length] at this
    exact this)
  obtain ⟨hc1, hc2⟩ := hcb
  clear h1 ha hp hX h3
  go_enter Try.func7, Try.ntmps7
  go_wp2
  go_loopw [7, 8] (fun s i wr => ∃ (k : Nat) (v : Value), k ≤ X.length + 1 ∧ s = v ∧ i = .int .i64 k ∧ OwnI24 w.heap.size wr v (allN X ss ts k) ∧ w.grownBy wr none) (fun _ i _ => X.length + 1 - (intOf i).toNat)
  case atStart => exact ⟨0, _, by omega, rfl, rfl, ⟨rfl, .inl ⟨rfl, rfl⟩⟩, Ext.refl w⟩
  case round =>
    obtain ⟨k, v, hk, rfl, rfl, ho, hE⟩ := hrel
    by_cases hlt : k ≤ X.length
    · have R := AF.out wr hE k hlt
      obtain ⟨ao, cp, rfl⟩ := owns_shape13 ho
      have HS := Lib.hid (And.intro ho hE)
      clear ho hE
      by_cases e : aftR (X.take k) ss = ts
      · have HW := Lib.hid ((allN_succ X ss ts k).trans (if_pos e))
        go_upto_region 6 with (first
          | (go_at_call 10; refine (SM.out _ HE2.out g2 cap2 k HT2.out).mono ?_; rintro ex w3 ⟨rfl, hE3⟩; rw [decide_eq_true e]; have HE3 := Lib.hid (ext_trans HE2.out hE3); have HO3 := Lib.hid (HO2.out.kept hE3 (Classical.em _)); clear hE3)
          | (go_at_call 12; refine R.mono ?_; rintro ex w2 ⟨g2, cap2, rfl, _, hT2, hE2⟩; have HT2 := Lib.hid hT2; have HO2 := Lib.hid (HS.out.1.kept hE2 (Classical.em _)); have HE2 := Lib.hid (ext_trans HS.out.2 hE2); clear hE2 hT2))
        have HA := World.grownBy_alloc w3 (.cells #[.int .i64 k] 3) none
        have HO4 := Lib.hid (HO3.out.kept HA (Classical.em _))
        have HE4 := Lib.hid (ext_trans HE3.out HA)
        have HL := Lib.hid (show (allN X ss ts k).length ≤ 1000000 by have := allN_length X ss ts k; omega)
        clear HA
        go_wp2_with (at_builtin; refine append_int24 rfl _ _ rfl w.heap.size _ (allN X ss ts k) rfl HO4.out ⟨w3.heap.size, 0, none⟩ 1 k rfl (by simp) HL.out HE4.out.size ?_; intro v5 w5 ho5 hg5; obtain ⟨ao5, cp5, rfl⟩ := owns_shape13 ho5; have H5 := Lib.hid (And.intro ho5 (own24 HE4.out HO4.out hg5)); clear ho5 hg5)
        go_roundw
        case rel => exact ⟨k + 1, _, by omega, rfl, by go_num, by rw [HW.out]; have h6 := H5.out.1; simp only [List.length_append, List.length_cons, List.length_nil] at h6; exact h6, H5.out.2⟩
        case measure => simp [intOf]; omega
      · have HW := Lib.hid ((allN_succ X ss ts k).trans (if_neg e))
        go_wp2_with (first
          | (go_at_call 10; refine (SM.out _ HE2.out g2 cap2 k HT2.out).mono ?_; rintro ex w3 ⟨rfl, hE3⟩; rw [decide_eq_false e]; have HE3 := Lib.hid (ext_trans HE2.out hE3); have HO3 := Lib.hid (HO2.out.kept hE3 (Classical.em _)); clear hE3)
          | (go_at_call 12; refine R.mono ?_; rintro ex w2 ⟨g2, cap2, rfl, _, hT2, hE2⟩; have HT2 := Lib.hid hT2; have HO2 := Lib.hid (HS.out.1.kept hE2 (Classical.em _)); have HE2 := Lib.hid (ext_trans HS.out.2 hE2); clear hE2 hT2))
        go_roundw
        case rel => exact ⟨k + 1, _, by omega, rfl, by go_num, by rw [HW.out]; exact HO3.out, HE3.out⟩
        case measure => simp [intOf]; omega
    · obtain rfl : k = X.length + 1 := by omega
      have HS := Lib.hid (And.intro ho hE)
      clear ho hE
      go_wp2
      go_ret
      exact ⟨_, rfl, HS.out.1, HS.out.2⟩

end Go.Proofs.Ythailmoeggdfhaa
