/-
  The document's Reader.Number: the same as the program's.
-/
import Derived.Test.YtjlecncamfdcfaaDoorWH
namespace Go.Proofs.YtjlecncamfdcfaaDoor
open Go.RowKit

theorem leV_drop (ys : List Int) (j : Nat) (hj : j < ys.length) : leV (ys.drop j) = ys.getD j 0 + 256 * leV (ys.drop (j + 1)) := by
  rw [List.drop_eq_getElem_cons hj]
  simp [leV, List.getD_eq_getElem?_getD, hj]

set_option maxHeartbeats 800000 in
theorem refNumber_good (br c : Nat) (v : Value) (xs : List Int) (n : Nat) (w : World) (hr : w.heap[br]? = some (.cells #[v, .int .i64 0] 52 (0, 0))) (hv : Bts w v xs) (hc : ∀ k, v.ownBlock = some k → k = c) (hne : c ≠ br)
    (hB : Byts xs) (hs : n = 1 ∨ n = 2 ∨ n = 4) (hn : n ≤ xs.length) :
    Calls Tryd.prog 28 #[.pointer (some ⟨br, 0, none⟩), .int .i64 n] w fun e w' => e = .returned (.int .i64 (leV (xs.take n))) ∧ RdIs 52 w' br c (xs.drop n) 0 ∧ w.grownBy w' (some br) := by
  have hlen : (xs.take n).length = n := by simp; omega
  have HL := Lib.hid hlen
  have hBy : Byts (xs.take n) := fun x hx => hB x (List.mem_of_mem_take hx)
  have HB := Lib.hid hBy
  clear hlen hBy
  obtain ⟨b, off, cap, rfl, h3⟩ := hv.pos rfl (by omega)
  have hle := hv.le.2
  obtain rfl : b = c := hc b rfl
  clear hc
  have hD := Bts.drop (n := n) hle h3 hn
  have hE := fun (hcn : cap = n) => Bts.empty (w := w) (b := b) (off := off) (xs := xs) (n := n) (by omega)
  have hg := fun u => grown_set w ⟨br, 0, none⟩ u
  have hs0 := fun u => two_set0 (u := u) hr
  have HH := Lib.hid (And.intro hD (And.intro hE (And.intro hg hs0)))
  have h0 := two_cell0 hr
  have h1 := two_cell1 hr
  have hf := two_free (o := 0) hr
  have H3 := Lib.hid h3
  clear hD hE hg hs0 hv h3
  have hdec : decide ((xs.length : Int) < (n : Int)) = false := by simp; omega
  have hn4 : n ≤ 4 := by omega
  have hn1 : 1 ≤ n := by omega
  have hcase : ((n : Int) != 1) = false ∨ (((n : Int) != 1) = true ∧ ((n : Int) != 2) = false) ∨ (((n : Int) != 1) = true ∧ ((n : Int) != 2) = true ∧ ((n : Int) != 4) = false) := by
    rcases hs with rfl | rfl | rfl
    · exact .inl rfl
    · exact .inr (.inl ⟨rfl, rfl⟩)
    · exact .inr (.inr ⟨rfl, rfl, rfl⟩)
  clear hs
  rcases hcase with e1 | ⟨e1, e2⟩ | ⟨e1, e2, e3⟩
  all_goals
    go_enter Tryd.func28, Tryd.ntmps28
    go_wp2
    go_loop [5, 6] (fun v i => ∃ j : Nat, j ≤ n ∧ i = .int .i64 ((j : Int) - 1) ∧ v = .int .i64 (leV ((xs.take n).drop j))) (fun _ i => (intOf i + 1).toNat)
    case atStart => exact ⟨n, Nat.le_refl _, rfl, by rw [List.drop_of_length_le (Nat.le_of_eq HL.out)]; rfl⟩
    case round =>
      obtain ⟨j, hj, rfl, rfl⟩ := hrel
      by_cases hlt : 0 < j
      · obtain ⟨q, rfl⟩ : ∃ q, j = q + 1 := ⟨j - 1, by omega⟩
        have hce := H3.out q (by omega)
        have hst := leV_drop (xs.take n) q (by have := HL.out; omega)
        have hbd := leV_bd ((xs.take n).drop (q + 1)) (fun x hx => HB.out x (List.mem_of_mem_drop hx))
        have hpw : (256 : Int) ^ ((xs.take n).drop (q + 1)).length ≤ 16777216 := by
          rw [List.length_drop, HL.out]
          have : n - (q + 1) = 0 ∨ n - (q + 1) = 1 ∨ n - (q + 1) = 2 ∨ n - (q + 1) = 3 := by omega
          rcases this with h | h | h | h <;> rw [h] <;> decide
        have hxq : (xs.take n).getD q 0 = xs.getD q 0 := by
          have hqn : q < n := by omega
          simp [List.getD_eq_getElem?_getD, hqn]
        have hcb : 0 ≤ xs.getD q 0 ∧ xs.getD q 0 < 256 := by
          have hq : q < xs.length := by omega
          have := hB xs[q] (List.getElem_mem hq)
          simpa [List.getD_eq_getElem?_getD, hq] using this
        rw [hxq] at hst
        obtain ⟨c, hcd⟩ : ∃ c, c = xs.getD q 0 := ⟨_, rfl⟩
        rw [← hcd] at hce hst hcb
        obtain ⟨V, hV⟩ : ∃ V, V = leV ((xs.take n).drop (q + 1)) := ⟨_, rfl⟩
        rw [← hV] at hst hbd
        rw [← hV]
        have hV1 : 0 ≤ V := hbd.1
        have hV2 : V < 16777216 := by omega
        have HST := Lib.hid hst
        clear hst hcd hV hbd hxq hpw
        go_wp2
        go_round
        case rel => exact ⟨q, by omega, rfl, congrArg (Value.int .i64) (by rw [HST.out]; omega)⟩
        case measure => simp [intOf]
      · have hj0 : j = 0 := by omega
        subst hj0
        go_wp2
        all_goals
          go_ret
          obtain ⟨hD, hE, hg, hs0⟩ := HH.out
          first
          | exact ⟨rfl, ⟨_, hs0 _, hD.kept (hg _) (fun k hk e => hne (by simp [Value.ownBlock] at hk e; omega)), by simp [Value.ownBlock], hne⟩, hg _⟩
          | exact ⟨rfl, ⟨_, hs0 _, by simpa [show xs.length = n by omega] using (hE (by omega)).kept (hg _) (fun k hk e => hne (by simp [Value.ownBlock] at hk e; omega)), by simp [Value.ownBlock], hne⟩, hg _⟩

theorem refNumber_any (br c : Nat) (xs : List Int) (e0 n : Int) (w : World) (hR : RdIs 52 w br c xs e0) (hB : Byts xs) :
    Calls Tryd.prog 28 #[.pointer (some ⟨br, 0, none⟩), .int .i64 n] w (NumPost 52 w br c xs e0 n) := by
  obtain ⟨v, hr, hv, hc, hne⟩ := hR
  have h0 := two_cell0 hr
  have h1 := two_cell1 hr
  have hf := two_free (o := 1) hr
  by_cases he : e0 = 0
  · subst he
    by_cases hs : sizeB n = true
    · have hs' : n = 1 ∨ n = 2 ∨ n = 4 := by simpa [sizeB] using hs
      obtain ⟨m, rfl⟩ : ∃ m : Nat, n = (m : Int) := ⟨n.toNat, by omega⟩
      by_cases hn : m ≤ xs.length
      · refine (refNumber_good br c v xs m w hr hv hc hne hB (by omega) hn).mono fun e w' h => ?_
        have hn' : (m : Int) ≤ (xs.length : Int) := by omega
        simpa [NumPost, numV, numX, numE, hs, hn'] using h
      · have hg := grown_set w ⟨br, 1, none⟩ (.int .i64 2)
        have hset := two_set1 (u := .int .i64 2) hr
        have HP := Lib.hid (And.intro hg hset)
        clear hg hset
        have hdec : decide ((xs.length : Int) < (m : Int)) = true := by simp; omega
        obtain ⟨ao, cap, rfl⟩ : ∃ ao cap, v = .slice ao xs.length cap := by
          rcases hv with ⟨rfl, rfl⟩ | ⟨b, off, cap, rfl, _⟩
          · exact ⟨none, 0, rfl⟩
          · exact ⟨_, _, rfl⟩
        have hm1 : 1 ≤ m := by omega
        obtain ⟨q1, q2, q3⟩ := num_short hs hn
        have HQ := Lib.hid (And.intro q1 (And.intro q2 q3))
        clear q1 q2 q3
        have hcase : ((m : Int) != 1) = false ∨ (((m : Int) != 1) = true ∧ ((m : Int) != 2) = false) ∨ (((m : Int) != 1) = true ∧ ((m : Int) != 2) = true ∧ ((m : Int) != 4) = false) := by
          rcases hs' with h | h | h <;> rw [h] <;> decide
        clear hs'
        rcases hcase with e1 | ⟨e1, e2⟩ | ⟨e1, e2, e3⟩
        all_goals
          go_enter Tryd.func28, Tryd.ntmps28
          go_wp2
          go_ret
          obtain ⟨hg, hset⟩ := HP.out
          obtain ⟨q1, q2, q3⟩ := HQ.out
          refine ⟨ret_int q1.symm, ⟨_, ?_, ?_, hc, hne⟩, hg⟩
          · rw [q3]; exact hset
          · rw [q2]
            exact hv.kept hg (fun k hk e => hne (by rw [← hc k hk]; simpa using e))
    · have hs' : sizeB n = false := by simpa using hs
      have hg := grown_set w ⟨br, 1, none⟩ (.int .i64 1)
      have hset := two_set1 (u := .int .i64 1) hr
      have HP := Lib.hid (And.intro hg hset)
      clear hg hset
      have hnn : ¬ (n = 1 ∨ n = 2 ∨ n = 4) := by simpa [sizeB] using hs'
      have e1 : (n != 1) = true := by simp; omega
      have e2 : (n != 2) = true := by simp; omega
      have e3 : (n != 4) = true := by simp; omega
      clear hnn
      go_enter Tryd.func28, Tryd.ntmps28
      go_wp2
      go_ret
      obtain ⟨hg, hset⟩ := HP.out
      refine ⟨ret_int (by simp [numV, hs']), ⟨v, ?_, ?_, hc, hne⟩, hg⟩
      · simpa [numE, hs'] using hset
      · have : numX n xs 0 = xs := by simp [numX, hs']
        rw [this]
        exact hv.kept hg (fun k hk e => hne (by rw [← hc k hk]; simpa using e))
  · have hne0 : (e0 != 0) = true := by simpa using he
    go_enter Tryd.func28, Tryd.ntmps28
    go_wp2
    go_ret
    exact ⟨ret_int (by simp [numV, he]), ⟨v, by simpa [numE, he] using hr, by simpa [numX, he] using hv, hc, hne⟩, World.grownBy.refl _ _⟩

end Go.Proofs.YtjlecncamfdcfaaDoor
