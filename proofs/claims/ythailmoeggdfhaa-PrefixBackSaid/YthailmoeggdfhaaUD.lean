/-
  Layer 24's law: few.
-/
import Derived.Test.YthailmoeggdfhaaUC
namespace Go.Proofs.Ythailmoeggdfhaa
set_option linter.unusedVariables false
set_option linter.unusedSimpArgs false
set_option maxRecDepth 100000
open Go.RowKit

theorem Try.sizeCh23 : (Try.prog.info? 28).map (·.size) = some 2 := by kernel_rfl
section
variable {ops : Array Oper} {rest : List Oper} {o : Oper} {a : Act} {w : World} {Q : Exit → Act → World → Prop}
theorem ch23_load (hgd : o.guard = none) (x : Operand) (ho : o.op = .load 28 x) {b off : Nat} (hx : a.eval x = .pointer (some ⟨b, off, none⟩)) {y : Int × ByteArray} (hr : w.rangeAt b off (ch24C y).toList)
    (h : wpList Try.prog ops Q rest (a.put o.dst (.agg (ch24C y))) w) : wpList Try.prog ops Q (o :: rest) a w :=
  wpList_load_mid hgd _ x ho b off hx _ _ hr Try.underlying28 rfl (by rw [Try.sizeCh23]; rfl) (by simpa using h)
theorem ch23_store (hwt : Region.wanted o (yielded ops a.tmps) = true) (x y : Operand) (ho : o.op = .store 28 x y) {g : Nat} (hx : a.eval x = .pointer (some ⟨g, 0, none⟩)) {z : Int × ByteArray} (hy : a.eval y = .agg (ch24C z)) {old : Array Value} (hg : Blk w g 28 old) (hl : old.size = 2)
    (h : ∀ w', Blk w' g 28 (ch24C z) → w.grownBy w' (some g) → w'.heap.size = w.heap.size → wpList Try.prog ops Q rest (a.put o.dst undef) w') : wpList Try.prog ops Q (o :: rest) a w :=
  wpList_store_part hwt _ x y ho g 0 2 _ hx hy _ old _ hg rfl Try.sizeCh23 (by omega) (by simp [ch24C, Value.oneCell']) (by
    have h1 : (ch24C z).toList.length = 2 := rfl
    rw [h1, List.drop_of_length_le (by simp; omega)]
    simp) h
end
theorem TxB.txs' {w : World} {g : Nat} {ss : List ByteArray} (h : TxB w g ss.length (fun i => ss.getD i ByteArray.empty)) : TxR w (some ⟨g, 0, none⟩) ss := fun i hi => ⟨g, 0, rfl, by rw [Nat.zero_add]; exact h.cell hi⟩

/-- What few answers. -/
def FewA (n m k : Nat) (e : Ending) : Prop := ∃ r, e = .returned (.bool r) ∧ (r = true → n ≤ 64 ∧ m ≤ 64 ∧ k ≤ 60)
theorem fewA_mk {n m k : Nat} (r : Bool) (h : r = true → n ≤ 64 ∧ m ≤ 64 ∧ k ≤ 60) : FewA n m k (.returned (.bool r)) := ⟨r, rfl, h⟩

set_option maxHeartbeats 1600000 in
theorem few24 (w : World) (a b c : Option Addr) (ca cb cc : Nat) (ss ts : List ByteArray) (X : List (Int × ByteArray)) (h1 : TxR w a ss) (ha : a = none → ss.length = 0 ∧ ca = 0) (hp : ∀ z, a = some z → z.spot = none) (h2 : TxR w b ts) (hb : b = none → ts.length = 0 ∧ cb = 0) (hq : ∀ z, b = some z → z.spot = none) (hX : ChT w c X)
    (hs : ss.length + ts.length ≤ 8796093022208) (hu : X.length ≤ 4611686018427387904) :
    Calls Try.prog 6 #[.slice a ss.length ca, .slice b ts.length cb, .slice c X.length cc] w fun e w' => FewA ss.length ts.length X.length e ∧ w.grownBy w' none := by
  have HA := Lib.hid ha
  have HP := Lib.hid hp
  have HB := Lib.hid hb
  have HQ := Lib.hid hq
  have HX := Lib.hid hX
  have H2 := Lib.hid h2
  have hg0 := World.grownBy_alloc w (.cells #[] 9) none
  have H1' := Lib.hid (h1.ext hg0)
  have HG0 := Lib.hid hg0
  have HO0 := Lib.hid (show (w.alloc (.cells #[] 9)).ownsRow w.heap.size 9 1 (.slice (some ⟨w.heap.size, 0, none⟩) 0 0) ([] : List ByteArray).length (([] : List ByteArray).map Value.string) from World.ownsRow_made w #[] 0 (Nat.le_refl _) (Nat.zero_le _) rfl)
  clear h1 ha hp h2 hb hq hX hg0
  go_enter Try.func6, Try.ntmps6
  go_wp2_with (first
    | (at_builtin; refine append_txs rfl _ _ rfl w.heap.size _ ([] ++ ss) rfl HO3.out b cb ts rfl HB.out HQ.out (H2.out.ext HE3.out) ?_ HE3.out.size ?_; simp only [List.nil_append]; omega; intro v4 w4 ho4 hg4 hb4; have HE4 := Lib.hid (show w.grownBy w4 none from grown_trans HE3.out hg4 (fun p hp hlt => by have := (HO3.out.lt p hp).1; omega)); have hn4 : v4.ownBlock ≠ none := (by intro e; rcases hb4 with h | h <;> first | exact HB3.out (h.symm.trans e) | exact absurd (h.symm.trans e) (Option.some_ne_none _)); obtain ⟨tt, htt⟩ : ∃ tt, [] ++ ss ++ ts = tt := ⟨_, rfl⟩; have htl : tt.length ≤ 8796093022208 := (by rw [← htt]; simp; omega); rw [htt] at ho4; obtain ⟨g, cap, rfl, hb5, hB5⟩ := TxB.of_owns ho4 hn4; have H5 := Lib.hid hb5; clear ho4 hg4 hb4 hn4 hb5 hB5 htt)
    | (at_builtin; refine append_txs rfl _ _ rfl w.heap.size _ [] rfl HO0.out a ca ss rfl HA.out HP.out H1'.out ?_ ?_ ?_; simp only [List.length_nil]; omega; simp; intro v3 w3 ho3 hg3 hb3; have HE3 := Lib.hid (new24 HG0.out hg3 (Nat.le_refl _)); have HO3 := Lib.hid ho3; have HB3 := Lib.hid (show v3.ownBlock ≠ none from (by intro e; rcases hb3 with h | h <;> exact absurd (h.symm.trans e) (Option.some_ne_none _))); clear ho3 hg3 hb3))
  clear HO0 HG0 H1' HO3 HB3 HA HB HP HQ H2
  go_loopw [7, 18] (fun s i wr => ∃ (j : Nat) (z : Int), j ≤ tt.length ∧ s = .int .i64 z ∧ i = .int .i64 j ∧ w4.grownBy wr none) (fun _ i _ => tt.length - (intOf i).toNat)
  case atStart => exact ⟨0, 0, by omega, rfl, rfl, Ext.refl w4⟩
  case round =>
    obtain ⟨j, z, hj, rfl, rfl, hE⟩ := hrel
    by_cases hlt : j < tt.length
    · have hc := (H5.out.ext hE).cell hlt
      obtain ⟨d, hd⟩ : ∃ d, tt.getD j ByteArray.empty = d := ⟨_, rfl⟩
      simp only [hd] at hc
      have HE := Lib.hid hE
      clear hE hd
      go_wp2
      go_roundw
      case rel => exact ⟨j + 1, _, by omega, rfl, by go_num, HE.out⟩
      case measure => simp [intOf]; omega
    · have HE := Lib.hid (ext_trans HE4.out hE)
      clear hE
      go_wp2
      go_loopw [7, 30] (fun s i wr => ∃ (j : Nat) (z : Int), j ≤ X.length ∧ s = .int .i64 z ∧ i = .int .i64 j ∧ w.grownBy wr none) (fun _ i _ => X.length - (intOf i).toNat)
      case atStart => exact ⟨0, _, by omega, rfl, rfl, HE.out⟩
      case round =>
        obtain ⟨i, y, hi, rfl, rfl, hE⟩ := hrel
        by_cases hil : i < X.length
        · obtain ⟨ab, off, rfl, hr⟩ := (HX.out.ext hE) i hil
          obtain ⟨⟨pl, dt⟩, hx⟩ : ∃ x, X.getD i (0, ByteArray.empty) = x := ⟨_, rfl⟩
          rw [hx] at hr
          have hBa := Blk.new wr 28 #[.int .i64 0, .string ⟨#[]⟩]
          have HT := Lib.hid hE
          clear hE hx
          go_wp2_with (first
            | (refine ch23_load rfl _ rfl rfl hr ?_)
            | (refine ch23_store rfl _ _ rfl rfl rfl hBa rfl ?_; intro w6 hb6 hg6 hs6; have c0 := (hb6.cell 0).trans (show (ch24C (pl, dt))[0]? = some (.int .i64 pl) from rfl); have c1 := (hb6.cell 1).trans (show (ch24C (pl, dt))[1]? = some (.string dt) from rfl); have H6 := Lib.hid (ext_trans HT.out (new24 (World.grownBy_alloc wr _ none) hg6 (Nat.le_refl _))); clear hBa hg6 hs6 hb6 hr))
          go_roundw
          case rel => exact ⟨i + 1, _, by omega, rfl, by go_num, H6.out⟩
          case measure => simp [intOf]; omega
        · have HT := Lib.hid hE
          clear hE
          by_cases c1 : y ≤ 2000
          · by_cases c2 : ss.length ≤ 64
            · by_cases c3 : ts.length ≤ 64
              · go_wp2
                go_ret
                exact ⟨fewA_mk (decide ((X.length : Int) ≤ 60)) fun h => ⟨c2, c3, by have := of_decide_eq_true h; omega⟩, HT.out⟩
              · go_wp2
                go_ret
                exact ⟨fewA_mk false (fun h => by cases h), HT.out⟩
            · go_wp2
              go_ret
              exact ⟨fewA_mk false (fun h => by cases h), HT.out⟩
          · go_wp2
            go_ret
            exact ⟨fewA_mk false (fun h => by cases h), HT.out⟩

end Go.Proofs.Ythailmoeggdfhaa
