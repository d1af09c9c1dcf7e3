/-
  Layer 14: the program's table: Grow by the document's rows; New, Count.
-/
import Derived.Test.YtdnjpoioojahkaaOE
namespace Go.Proofs.Ytdnjpoioojahkaa
set_option linter.unusedVariables false
set_option linter.unusedSimpArgs false
set_option maxRecDepth 100000
open Go.RowKit

theorem tabGrow {w : World} {t B P : Nat} {rs : List R14} (h : TabA w t B P rs) (g : Int) (hg : -9223372036854775808 ≤ g ∧ g ≤ 9223372036854775807) :
    Calls Try.prog 27 #[.pointer (some ⟨t, 0, none⟩), .int .i64 g] w fun e w' => e = .returned (.tuple #[]) ∧ TabA w' t (B + (min g (64 - (B : Int))).toNat) P rs ∧ w.grownBy w' (some t) := by
  obtain ⟨R, W, S, hT, hI⟩ := h
  refine (grow_is hT g hg).mono fun e w' ⟨h1, R', h2, h3, h4, _, h5⟩ => ⟨h1, ⟨R', W, S, h2, hI.more _ (Nat.le_add_right _ _) h3 h4⟩, h5⟩
theorem grow_none (g : Int) (w : World) : Calls Try.prog 27 #[.pointer none, .int .i64 g] w fun e w' => e = .returned (.tuple #[]) ∧ w = w' := by
  go_enter Try.func27, Try.ntmps27
  go_wp2
  refine bodyPost_ret (v := .tuple #[]) (results_none rfl _ _ _) rfl ?_
  exact ⟨rfl, rfl⟩

/-- The cells of a table that nothing was written to but how many pages. -/
def zeroT (P : Int) : Array Value := (([Value.int .i64 0, Value.int .i64 P] : List Value) ++ List.replicate 1088 (Value.int .i64 0) ++ (List.replicate 64 [Value.bool false, Value.int .i64 0, Value.int .i64 0]).flatten).toArray
theorem tab_buildV (p : Int) (w : World) : (Instr.build 69 #[(1, .int .i64 p)]).run Try.prog w = .ok (.agg (zeroT p)) w := by kernel_rfl
theorem tab_build {ops : Array Oper} {rest : List Oper} {o : Oper} {a : Act} {w : World} {Q : Exit → Act → World → Prop} (hgd : o.guard = none) (x : Operand) (ho : o.op = .build 69 #[(1, x)]) {p : Int} (hx : a.eval x = .int .i64 p)
    (h : wpList Try.prog ops Q rest (a.put o.dst (.agg (zeroT p))) w) : wpList Try.prog ops Q (o :: rest) a w := by
  refine wpList_plain hgd fun K hK => ?_
  have hm : (#[((1 : Nat), x)].map fun (q : Nat × Operand) => (q.1, a.eval q.2)) = #[(1, .int .i64 p)] := by simp [hx]
  unfold Oper.wp execOp
  simp only [ho, hm, Sem.run_bind, tab_buildV, Result.andThen_ok, Sem.run_pure]
  exact hK _ _ h
theorem flat_rep (x y z : Value) : ∀ (n q i : Nat), q < n → i < 3 → (List.replicate n [x, y, z]).flatten[q * 3 + i]? = [x, y, z][i]?
  | 0, q, i, h, _ => by omega
  | n + 1, 0, i, _, hi => by
    rw [List.replicate_succ, List.flatten_cons, List.getElem?_append_left (by simp; omega)]
    congr 1
    omega
  | n + 1, q + 1, i, h, hi => by
    rw [List.replicate_succ, List.flatten_cons, List.getElem?_append_right (by simp; omega), ← flat_rep x y z n q i (by omega) hi]
    congr 1
    simp
    omega
theorem flat_len (l : List Value) : ∀ n, (List.replicate n l).flatten.length = n * l.length
  | 0 => by simp
  | n + 1 => by rw [List.replicate_succ, List.flatten_cons, List.length_append, flat_len l n, Nat.add_mul]; omega
theorem zeroT_is (P : Nat) : TabC (zeroT P) 0 P (fun _ _ => 0) (fun _ => 0) (fun _ => (false, 0, 0)) := by
  have low : ∀ i, 2 ≤ i → i < 1090 → (zeroT P)[i]? = some (.int .i64 0) := fun i h1 h2 => by
    unfold zeroT
    rw [List.getElem?_toArray, List.getElem?_append_left (by simp; omega), List.getElem?_append_right (by simp; omega), List.getElem?_replicate, if_pos (by simp; omega)]
  have hig : ∀ q i, q < 64 → i < 3 → (zeroT P)[1090 + q * 3 + i]? = [Value.bool false, Value.int .i64 0, Value.int .i64 0][i]? := fun q i h1 h2 => by
    unfold zeroT
    rw [List.getElem?_toArray, List.getElem?_append_right (by simp; omega), ← flat_rep _ _ _ 64 q i h1 h2]
    congr 1
    simp
    omega
  refine ⟨?_, rfl, rfl, fun b p hb hp => low _ (by omega) (by omega), fun b hb => low _ (by omega) (by omega), fun q hq => hig q 0 hq (by omega), fun q hq => hig q 1 hq (by omega), fun q hq => hig q 2 hq (by omega)⟩
  unfold zeroT
  rw [List.size_toArray, List.length_append, List.length_append, flat_len, List.length_replicate]
  rfl

/-- What may be asked. -/
def newOk (b p : Int) : Prop := 1 ≤ b ∧ b ≤ 64 ∧ 2 ≤ p ∧ p ≤ 16
theorem new14_no (b p : Int) (w : World) (h : ¬ newOk b p) : Calls Try.prog 18 #[.int .i64 b, .int .i64 p] w fun e w' => e = .returned (.pointer none) ∧ w = w' := by
  unfold newOk at h
  by_cases h1 : b < 1
  · have b1 : decide (b < 1) = true := by simpa using h1
    clear h h1
    go_enter Try.func18, Try.ntmps18
    go_wp2
    go_ret
    exact ⟨rfl, rfl⟩
  · have b1 : decide (b < 1) = false := by simpa using h1
    by_cases h2 : 64 < b
    · have b2 : decide (64 < b) = true := by simpa using h2
      clear h h1 h2
      go_enter Try.func18, Try.ntmps18
      go_wp2
      go_ret
      exact ⟨rfl, rfl⟩
    · have b2 : decide (64 < b) = false := by simpa using h2
      by_cases h3 : p < 2
      · have b3 : decide (p < 2) = true := by simpa using h3
        clear h h1 h2 h3
        go_enter Try.func18, Try.ntmps18
        go_wp2
        go_ret
        exact ⟨rfl, rfl⟩
      · have b3 : decide (p < 2) = false := by simpa using h3
        have b4 : decide (16 < p) = true := by simp; omega
        clear h h1 h2 h3
        go_enter Try.func18, Try.ntmps18
        go_wp2
        go_ret
        exact ⟨rfl, rfl⟩
theorem new14_ok (b p : Nat) (w : World) (h : newOk b p) : Calls Try.prog 18 #[.int .i64 b, .int .i64 p] w fun e w' => ∃ t, e = .returned (.pointer (some ⟨t, 0, none⟩)) ∧ TabA w' t b p [] ∧ w.heap.size ≤ t ∧ w.grownBy w' none := by
  unfold newOk at h
  have b1 : decide ((b : Int) < 1) = false := by simp; omega
  have b2 : decide (64 < (b : Int)) = false := by simp; omega
  have b3 : decide ((p : Int) < 2) = false := by simp; omega
  have b4 : decide (16 < (p : Int)) = false := by simp; omega
  have hE := World.grownBy_alloc w (.cells (zeroT p) 69) none
  have hT : TabS (w.alloc (.cells (zeroT p) 69)) w.heap.size 0 p (fun _ _ => 0) (fun _ => 0) (fun _ => (false, 0, 0)) := ⟨by omega, by omega, _, Blk.new w _ _, zeroT_is p⟩
  have GROW := grow_is hT b (by omega)
  have hM : 0 + (min (b : Int) (64 - ((0 : Nat) : Int))).toNat = b := by omega
  have HE := Lib.hid hE
  have HM := Lib.hid hM
  clear h hE hT hM
  obtain ⟨M, hM⟩ : ∃ M, (min (b : Int) (64 - ((0 : Nat) : Int))).toNat = M := ⟨_, rfl⟩
  rw [hM] at GROW
  have HM2 := Lib.hid hM
  clear hM
  go_enter Try.func18, Try.ntmps18
  go_wp2_with (first
    | (refine tab_build rfl _ rfl rfl ?_)
    | (go_at_call 27; refine GROW.mono ?_; rintro e w2 ⟨rfl, hG2⟩))
  go_ret
  obtain ⟨R', h2, h3, h4, _, h5⟩ := hG2
  have hMb : 0 + M = b := by have h6 := HM.out; have h7 := HM2.out; omega
  rw [hMb] at h2 h4
  exact ⟨_, rfl, ⟨R', _, _, h2, Inv14.none b p R' (fun i j hi hj => h4 i j (Nat.zero_le _) hi hj)⟩, Nat.le_refl _, g14_new HE.out h5 (Nat.le_refl _)⟩

section
variable {w w' : World} {t B P : Nat} {rs : List R14}
theorem TabC.wors {cs : Array Value} {B P : Nat} {R : Nat → Nat → Int} {W : Nat → Int} {S : Nat → Bool × Int × Int} (h : TabC cs B P R W S) : (cs.extract 1026 (1026 + 64)).size = 64 ∧ ∀ b, b < 64 → (cs.extract 1026 (1026 + 64))[b]? = some (.int .i64 (W b)) := by
  have hs := h.size
  refine ⟨by rw [Array.size_extract]; omega, fun b hb => ?_⟩
  rw [Array.getElem?_extract, if_pos (by omega)]
  exact h.wor b hb
theorem index_64 {cs : Array Value} {k : Nat} {v : Value} (hk : k < 64) (hv : cs[k]? = some v) (w : World) : (Instr.index 64 (.agg cs) (.int .i64 k)).run Try.prog w = .ok v w := by
  have h1 : Try.prog.cellsOf 3 = 1 := by kernel_rfl
  have h2 : Try.prog.plainKey 3 = true := by kernel_rfl
  have h3 : (sizeOf 3).run Try.prog w = .ok 1 w := by kernel_rfl
  have h4 : (0 : Int) ≤ k ∧ (k : Int) < 64 := by omega
  have h5 := run_part_plain (w := w) h2 hv
  unfold Instr.index
  simp [asIntOf, run_underlying Try.underlying64, h3]
  rw [if_pos hk]
  exact h5
theorem Try.size64 : (Try.prog.info? 64).map (·.size) = some 64 := by kernel_rfl

set_option maxHeartbeats 800000 in
theorem tabCount (h : TabA w t B P rs) (hl : rs.length ≤ 1000000) : Calls Try.prog 24 #[.pointer (some ⟨t, 0, none⟩)] w fun e w' => e = .returned (.int .i64 rs.length) ∧ w = w' := by
  obtain ⟨R, W, S, hT, hI⟩ := h
  obtain ⟨n, hn⟩ : ∃ n, rs.length = n := ⟨_, rfl⟩
  rw [hn] at hl ⊢
  have hsum : sumN (fun i => worthN rs i) 64 = n := by
    have hbl := hT.bl
    rw [sumN_worth rs 64 (fun r hr => by have := hI.ok r hr; omega), hn]
  have hW := hI.wor
  obtain ⟨V, hV⟩ : ∃ V : Nat → Nat, (fun i : Nat => worthN rs i) = V := ⟨_, rfl⟩
  rw [hV] at hsum
  have hW2 : ∀ b, b < 64 → W b = (V b : Int) := fun b hb => by rw [hW b hb, ← hV]
  obtain ⟨cs, hb, hc⟩ := hT.is
  obtain ⟨ws, hws⟩ : ∃ ws, cs.extract 1026 (1026 + 64) = ws := ⟨_, rfl⟩
  have hwz := hc.wors
  have hr := World.rangeAt_of_block hb 1026 64
  rw [hws] at hr hwz
  have hle : ∀ k, k ≤ 64 → sumN V k ≤ n := fun k hk => by rw [← hsum]; exact sumN_le V k 64 hk
  have HZ := Lib.hid hwz
  have HW := Lib.hid hW2
  have HS := Lib.hid hsum
  have HL := Lib.hid hle
  have hsz : some ws.size = some 64 := by rw [hwz.1]
  clear hT hI hV hb hc hws hwz hW hW2 hle hsum
  go_enter Try.func24, Try.ntmps24
  go_wp2_with (refine wpList_load_mid rfl _ _ rfl t 1026 rfl _ _ hr Try.underlying64 rfl (by rw [Try.size64]; simpa using HZ.out.1.symm) ?_)
  go_loopw [3, 12] (fun s i wr => ∃ k : Nat, k ≤ 64 ∧ i = .int .i64 k ∧ s = .int .i64 (sumN V k : Nat) ∧ w = wr) (fun _ i _ => 64 - (intOf i).toNat)
  case atStart => exact ⟨0, by omega, rfl, rfl, rfl⟩
  case round =>
    obtain ⟨k, hk, rfl, rfl, rfl⟩ := hrel
    by_cases hlt : k < 64
    · have IX := index_64 hlt (HZ.out.2 k hlt)
      rw [HW.out k hlt] at IX
      have h1 := HL.out (k + 1) (by omega)
      have h2 : sumN V (k + 1) = sumN V k + V k := rfl
      have H2 := Lib.hid h2
      rw [h2] at h1
      clear h2
      obtain ⟨a, ha⟩ : ∃ a, sumN V k = a := ⟨_, rfl⟩
      rw [ha] at h1 H2
      rw [ha]
      obtain ⟨v, hv⟩ : ∃ v, V k = v := ⟨_, rfl⟩
      rw [hv] at IX h1 H2
      clear ha hv
      go_wp2
      go_roundw
      case rel => exact ⟨k + 1, by omega, by go_num, by rw [H2.out]; go_num, trivial⟩
      case measure => simp [intOf]; omega
    · obtain rfl : k = 64 := by omega
      rw [HS.out]
      go_wp2
      go_ret
      exact ⟨rfl, rfl⟩
end

end Go.Proofs.Ytdnjpoioojahkaa
