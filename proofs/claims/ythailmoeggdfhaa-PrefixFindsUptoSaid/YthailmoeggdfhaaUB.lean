/-
  Layer 24's reference: rows of texts, rows of changes; Same, After.
-/
import Derived.Test.YthailmoeggdfhaaQC
import Derived.Test.YthailmoeggdfhaaDA
import Derived.Test.YthailmoeggdfhaaRX
import Derived.Maps.AppendAt
namespace Go.Proofs.Ythailmoeggdfhaa
set_option linter.unusedVariables false
set_option linter.unusedSimpArgs false
set_option maxRecDepth 100000
open Go.RowKit

/-- A slice reads as these texts. -/
def TxR (w : World) (a : Option Addr) (ss : List ByteArray) : Prop := ∀ i, i < ss.length → ∃ b off, a = some ⟨b, off, none⟩ ∧ w.cell? ⟨b, off + i, none⟩ = some (.string (ss.getD i ByteArray.empty))
theorem TxR.ext {w w' : World} {a : Option Addr} {ss : List ByteArray} (h : TxR w a ss) (hE : w.grownBy w' none) : TxR w' a ss := fun i hi => by
  obtain ⟨b, off, h1, h2⟩ := h i hi
  exact ⟨b, off, h1, hE.cell h2 (by simp)⟩
/-- A row of texts of the call's own: the first n of a block. -/
def TxB (w : World) (g n : Nat) (F : Nat → ByteArray) : Prop := ∃ cur, w.heap[g]? = some (.cells cur 9 (0, 0)) ∧ ∀ i, i < n → cur[i]? = some (.string (F i))
def upT (F : Nat → ByteArray) (i : Nat) (d : ByteArray) : Nat → ByteArray := fun j => if j = i then d else F j
section
variable {w w' : World} {g n : Nat} {F G : Nat → ByteArray}
theorem TxB.cell (h : TxB w g n F) {i : Nat} (hi : i < n) : w.cell? ⟨g, i, none⟩ = some (.string (F i)) := by
  obtain ⟨cur, h1, h2⟩ := h
  rw [cell_of_row w g i cur _ (0, 0) h1]
  exact h2 i hi
theorem TxB.free (h : TxB w g n F) (i : Nat) : w.frozen? ⟨g, i, none⟩ = false := by
  obtain ⟨cur, h1, _⟩ := h
  exact frozen_of_row w g i cur _ h1
theorem TxB.lt (h : TxB w g n F) : g < w.heap.size := by
  obtain ⟨cur, h1, _⟩ := h
  exact (Array.getElem?_eq_some_iff.1 h1).1
theorem TxB.block (h : TxB w g n F) (hb : w'.heap[g]? = w.heap[g]?) : TxB w' g n F := by
  obtain ⟨cur, h1, h2⟩ := h
  exact ⟨cur, hb.trans h1, h2⟩
theorem TxB.ext (h : TxB w g n F) (hg : w.grownBy w' none) : TxB w' g n F := h.block (hg.block g h.lt (by simp))
theorem TxB.set (h : TxB w g n F) (i : Nat) (d : ByteArray) : TxB (w.setCell ⟨g, i, none⟩ (.string d)) g n (upT F i d) := by
  obtain ⟨cur, h1, h2⟩ := h
  refine ⟨_, heap_setCell_same w g i cur _ _ h1, fun j hj => ?_⟩
  unfold upT
  by_cases e : j = i
  · subst e
    have hlt : j < cur.size := (Array.getElem?_eq_some_iff.1 (h2 j hj)).1
    rw [if_pos rfl, Array.getElem?_setIfInBounds_self_of_lt hlt]
  · rw [if_neg e, Array.getElem?_setIfInBounds_ne (by omega)]
    exact h2 j hj
theorem TxB.same (h : TxB w g n F) (he : ∀ i, i < n → F i = G i) : TxB w g n G := by
  obtain ⟨cur, h1, h2⟩ := h
  exact ⟨cur, h1, fun i hi => by rw [h2 i hi, he i hi]⟩
theorem TxB.txs (h : TxB w g n F) : TxR w (some ⟨g, 0, none⟩) ((List.range n).map F) := fun i hi => by
  have hn : i < n := by simpa using hi
  refine ⟨g, 0, rfl, ?_⟩
  rw [Nat.zero_add, h.cell hn]
  simp [List.getD_eq_getElem?_getD, List.getElem?_map, List.getElem?_range hn]
theorem TxB.of_owns {B : Nat} {v : Value} {ss : List ByteArray} (h : w.ownsRow B 9 1 v ss.length (ss.map Value.string)) (hv : v.ownBlock ≠ none) : ∃ g cap, v = .slice (some ⟨g, 0, none⟩) ss.length cap ∧ TxB w g ss.length (fun i => ss.getD i ByteArray.empty) ∧ B ≤ g := by
  rcases h.2 with ⟨rfl, _⟩ | ⟨g, cap, cur, rfl, h2, h3, _, _, _, h7⟩
  · exact absurd rfl hv
  · refine ⟨g, cap, rfl, ⟨cur, h3, fun i hi => ?_⟩, h2⟩
    have h8 : (cur.toList.take (ss.length * 1))[i]? = (ss.map Value.string)[i]? := by rw [h7]
    rw [List.getElem?_take, if_pos (by omega), Array.getElem?_toList, List.getElem?_map, List.getElem?_eq_getElem hi] at h8
    rw [h8]
    simp [List.getD_eq_getElem?_getD, List.getElem?_eq_getElem hi]
end
theorem new24 {w w1 w2 : World} {g : Nat} (h : w.grownBy w1 none) (h2 : w1.grownBy w2 (some g)) (hg : w.heap.size ≤ g) : w.grownBy w2 none :=
  ⟨h2.os.trans h.os, h2.tape.trans h.tape, h2.output.trans h.output, Nat.le_trans h.size h2.size, fun k hk hne => (h2.block k (Nat.lt_of_lt_of_le hk h.size) (fun e => by injection e with e; omega)).trans (h.block k hk hne)⟩
theorem Try.infoStr24 : (Try.prog.info? 9).map (fun i => (i.zero, i.size, i.bytes)) = some (some (.string ⟨#[]⟩), 1, 16) := by kernel_rfl

/-- append of a slice that reads as texts to a row of the call's own. -/
theorem append_txs {w : World} {ops : Array Oper} {rest : List Oper} {o : Oper} {a : Act} {Q : Exit → Act → World → Prop} (hgd : o.guard = none) (s x : Operand)
    (ho : o.op = .call { callee := .builtin .append, args := #[s, x], argTypes := #[22, 22] }) (base : Nat)
    (v : Value) (xs : List ByteArray) (hs : a.eval s = v) (hown : w.ownsRow base 9 1 v xs.length (xs.map Value.string)) (y : Option Addr) (cap : Nat) (ys : List ByteArray) (hx : a.eval x = .slice y ys.length cap) (hy : y = none → ys.length = 0 ∧ cap = 0) (hp : ∀ z, y = some z → z.spot = none) (hb : TxR w y ys)
    (h63 : xs.length + ys.length ≤ 8796093022208) (hbase : base ≤ w.heap.size)
    (h : ∀ v' w', w'.ownsRow base 9 1 v' (xs ++ ys).length ((xs ++ ys).map Value.string) → w.grownBy w' v.ownBlock → (v'.ownBlock = v.ownBlock ∨ v'.ownBlock = some w.heap.size) → wpList Try.prog ops Q rest (a.put o.dst v') w') : wpList Try.prog ops Q (o :: rest) a w := by
  obtain ⟨i0, hi, hz0, hz1, hz2⟩ := info_parts Try.infoStr24
  rcases y with _ | z
  · obtain ⟨h1, rfl⟩ := hy rfl
    obtain rfl := List.length_eq_zero_iff.1 h1
    refine wpList_append_own_none hgd s x 22 ho base 9 i0 1 Try.underlying22 hi v _ _ hs hown hx ?_
    exact h v w (by simpa using hown) ⟨rfl, rfl, rfl, Nat.le_refl _, fun _ _ _ => rfl⟩ (.inl rfl)
  · refine wpList_append_own_at w hgd s x 22 ho base 9 i0 (.string ⟨#[]⟩) 1 16 Try.underlying22 hi hz0 hz1 hz2 rfl (by decide) v _ _ hs hown z ys.length cap (ys.map Value.string) hx (by simp) ?_ (by intro u hu; simp at hu; obtain ⟨_, _, rfl⟩ := hu; rfl) (by unfold maxLen; omega) (by omega) hbase ?_
    · intro j u hj
      rw [List.getElem?_map] at hj
      by_cases hl : j < ys.length
      · rw [List.getElem?_eq_getElem hl] at hj
        obtain ⟨b, off, e, hc⟩ := hb j hl
        injection e with e
        subst e
        rw [addr_add, hc, ← hj]
        simp [List.getElem?_eq_getElem hl, List.getD_eq_getElem?_getD]
      · rw [List.getElem?_eq_none (by omega)] at hj
        cases hj
    · intro v' w' h1 h2 _ h4
      refine h v' w' ?_ h2 h4
      rw [List.length_append, List.map_append]
      exact h1

/-- A change. -/
def ch24C (x : Int × ByteArray) : Array Value := #[.int .i64 x.1, .string x.2]
theorem Try.sizeCh24 : (Try.prog.info? 29).map (·.size) = some 2 := by kernel_rfl
section
variable {ops : Array Oper} {rest : List Oper} {o : Oper} {a : Act} {w : World} {Q : Exit → Act → World → Prop}
theorem ch24_load (hgd : o.guard = none) (x : Operand) (ho : o.op = .load 29 x) {b off : Nat} (hx : a.eval x = .pointer (some ⟨b, off, none⟩)) {y : Int × ByteArray} (hr : w.rangeAt b off (ch24C y).toList)
    (h : wpList Try.prog ops Q rest (a.put o.dst (.agg (ch24C y))) w) : wpList Try.prog ops Q (o :: rest) a w :=
  wpList_load_mid hgd _ x ho b off hx _ _ hr Try.underlying29 rfl (by rw [Try.sizeCh24]; rfl) (by simpa using h)
theorem ch24_store (hwt : Region.wanted o (yielded ops a.tmps) = true) (x y : Operand) (ho : o.op = .store 29 x y) {g : Nat} (hx : a.eval x = .pointer (some ⟨g, 0, none⟩)) {z : Int × ByteArray} (hy : a.eval y = .agg (ch24C z)) {old : Array Value} (hg : Blk w g 29 old) (hl : old.size = 2)
    (h : ∀ w', Blk w' g 29 (ch24C z) → w.grownBy w' (some g) → w'.heap.size = w.heap.size → wpList Try.prog ops Q rest (a.put o.dst undef) w') : wpList Try.prog ops Q (o :: rest) a w :=
  wpList_store_part hwt _ x y ho g 0 2 _ hx hy _ old _ hg rfl Try.sizeCh24 (by omega) (by simp [ch24C, Value.oneCell']) (by
    have h1 : (ch24C z).toList.length = 2 := rfl
    rw [h1, List.drop_of_length_le (by simp; omega)]
    simp) h
end
/-- A slice reads as these changes. -/
def ChT (w : World) (a : Option Addr) (X : List (Int × ByteArray)) : Prop := ∀ i, i < X.length → ∃ b off, a = some ⟨b, off, none⟩ ∧ w.rangeAt b (off + i * 2) (ch24C (X.getD i (0, ByteArray.empty))).toList
theorem ChT.ext {w w' : World} {a : Option Addr} {X : List (Int × ByteArray)} (h : ChT w a X) (hg : w.grownBy w' none) : ChT w' a X := fun i hi => by
  obtain ⟨b, off, h1, h2⟩ := h i hi
  exact ⟨b, off, h1, fun j u hj => hg.cell (h2 j u hj) (by simp)⟩

set_option maxHeartbeats 800000 in
theorem same24 (w : World) (a b : Option Addr) (ca cb : Nat) (ss ts : List ByteArray) (h1 : TxR w a ss) (h2 : TxR w b ts) (hs : ss.length ≤ 1000) (ht : ts.length ≤ 1000) :
    Calls Try.prog 10 #[.slice a ss.length ca, .slice b ts.length cb] w fun e w' => e = .returned (.bool (decide (ss = ts))) ∧ w.grownBy w' none := by
  obtain ⟨n, hn⟩ : ∃ n, ss.length = n := ⟨_, rfl⟩
  obtain ⟨m, hm⟩ : ∃ m, ts.length = m := ⟨_, rfl⟩
  rw [hn, hm]
  by_cases hl : n = m
  · subst hl
    have H1 := Lib.hid h1
    have H2 := Lib.hid h2
    have HN := Lib.hid (And.intro hn hm)
    have hb : n ≤ 1000 := by omega
    clear h1 h2 hn hm hs ht
    go_enter Try.func10, Try.ntmps10
    go_wp2
    go_loopw [13] (fun i wr => ∃ j : Nat, j ≤ n ∧ i = .int .i64 j ∧ (∀ q, q < j → ss.getD q ByteArray.empty = ts.getD q ByteArray.empty) ∧ w.grownBy wr none) (fun i _ => n - (intOf i).toNat)
    case atStart => exact ⟨0, by omega, rfl, fun q hq => absurd hq (by omega), Ext.refl w⟩
    case round =>
      obtain ⟨j, hj, rfl, hS, hE⟩ := hrel
      by_cases hlt : j < n
      · have hd := ext_trans hE (Ext.drew wr)
        obtain ⟨g1, o1, rfl, c1⟩ := (H1.out.ext hd) j (by rw [HN.out.1]; exact hlt)
        obtain ⟨g2, o2, rfl, c2⟩ := (H2.out.ext hd) j (by rw [HN.out.2]; exact hlt)
        obtain ⟨x, hx⟩ : ∃ x, ss.getD j ByteArray.empty = x := ⟨_, rfl⟩
        obtain ⟨y, hy⟩ : ∃ y, ts.getD j ByteArray.empty = y := ⟨_, rfl⟩
        rw [hx] at c1
        rw [hy] at c2
        have hC : wr.drew.cell? ⟨g1, o1 + j, none⟩ = some (.string x) ∧ wr.drew.cell? ⟨g2, o2 + j, none⟩ = some (.string y) := ⟨c1, c2⟩
        have HD := Lib.hid hd
        have HX := Lib.hid (And.intro hx (And.intro hy hS))
        clear hE hd hx hy c1 c2 hS
        go_upto_region 6 with fail
        refine region_line [(0, true), (1, true), (2, true), (3, true), (4, true), (5, true), (6, true), (7, true), (8, true)] (fun z => z.cell? ⟨g1, o1 + j, none⟩ = some (.string x) ∧ z.cell? ⟨g2, o2 + j, none⟩ = some (.string y)) (by kernel_rfl) (by kernel_rfl) (fun _ _ _ d _ h => by cases d <;> exact h) hC ?_
        iterate 8 (refine line_read (a' := ?_) rfl (by kernel_rfl) (by kernel_rfl) hC (fun z hz K hK => ?_) ?_; rotate_left; · obtain ⟨d0, d1⟩ := hz; go_wp2; exact hK)
        by_cases e : x = y
        · subst e
          refine line_read (a' := ?_) rfl (by kernel_rfl) (by kernel_rfl) hC (fun z hz K hK => ?_) ?_
          rotate_left
          · clear hz
            go_wp2
            exact hK
          refine line_end ?_
          clear hC
          go_wp2
          go_roundw
          case rel =>
            refine ⟨j + 1, by omega, by go_num, fun q hq => ?_, HD.out⟩
            by_cases e : q = j
            · subst e
              rw [HX.out.1, HX.out.2.1]
            · exact HX.out.2.2 q (by omega)
          case measure => simp [intOf]; omega
        · have hb : (x.toList == y.toList) = false := by
            rw [beq_eq_false_iff_ne]
            intro h
            apply e
            have h2 := ByteArray.toList_eq x
            have h3 := ByteArray.toList_eq y
            have h4 : x.data.toList = y.data.toList := by rw [← h2, ← h3, h]
            have h5 : x.data = y.data := Array.toList_inj.1 h4
            cases x; cases y; simp only at h5; rw [h5]
          have HE := Lib.hid e
          clear e
          refine line_read (a' := ?_) rfl (by kernel_rfl) (by kernel_rfl) hC (fun z hz K hK => ?_) ?_
          rotate_left
          · clear hz
            go_wp2
            exact hK
          refine line_end ?_
          clear hC
          have HF := Lib.hid (show decide (ss = ts) = false from by
            rw [decide_eq_false_iff_not]
            intro h
            apply HE.out
            rw [← HX.out.1, ← HX.out.2.1, h])
          go_wp2
          go_ret
          exact ⟨by rw [HF.out]; rfl, HD.out⟩
      · obtain rfl : j = n := by omega
        have HE := Lib.hid hE
        have HF := Lib.hid (show decide (ss = ts) = true from by
          rw [decide_eq_true_eq]
          refine List.ext_getElem (by rw [HN.out.1, HN.out.2]) fun q hq1 hq2 => ?_
          have := hS q (by rw [HN.out.1] at hq1; exact hq1)
          simpa [List.getD_eq_getElem?_getD, List.getElem?_eq_getElem hq1, List.getElem?_eq_getElem hq2] using this)
        clear hE hS
        go_wp2
        go_ret
        exact ⟨by rw [HF.out]; rfl, HE.out⟩
  · have HF := Lib.hid (show decide (ss = ts) = false from by
      rw [decide_eq_false_iff_not]
      rintro rfl
      omega)
    have hne : ((n : Int) != (m : Int)) = true := by simp; omega
    clear h1 h2 hn hm
    go_enter Try.func10, Try.ntmps10
    go_wp2
    go_ret
    exact ⟨by rw [HF.out]; rfl, Ext.refl w⟩

/-- What a place's text becomes. -/
def foldI (X : List (Int × ByteArray)) (i : Nat) (d : ByteArray) : ByteArray := X.foldl (fun d c => if c.1 = (i : Int) then c.2 else d) d
theorem foldI_take {X : List (Int × ByteArray)} {i : Nat} {d : ByteArray} {j : Nat} (hj : j < X.length) :
    foldI (X.take (j + 1)) i d = if (X.getD j (0, ByteArray.empty)).1 = (i : Int) then (X.getD j (0, ByteArray.empty)).2 else foldI (X.take j) i d := by
  unfold foldI
  rw [List.getD_eq_getElem?_getD, List.getElem?_eq_getElem hj, ← List.take_append_getElem hj, List.foldl_append]
  rfl
/-- Places behind changes, place by place. -/
def aftR (X : List (Int × ByteArray)) (ss : List ByteArray) : List ByteArray := (List.range ss.length).map fun i => foldI X i (ss.getD i ByteArray.empty)
def aftU (X : List (Int × ByteArray)) (ss : List ByteArray) (i : Nat) : Nat → ByteArray := fun q => if q < i then foldI X q (ss.getD q ByteArray.empty) else ss.getD q ByteArray.empty

set_option maxHeartbeats 1600000 in
theorem after24 (w : World) (a b : Option Addr) (ca cb : Nat) (ss : List ByteArray) (X : List (Int × ByteArray)) (h1 : TxR w a ss) (ha : a = none → ss.length = 0 ∧ ca = 0) (hp : ∀ z, a = some z → z.spot = none) (hX : ChT w b X) (hs : ss.length ≤ 1000) (ht : X.length ≤ 1000) :
    Calls Try.prog 12 #[.slice a ss.length ca, .slice b X.length cb] w fun e w' => ∃ g cap, e = .returned (.slice (some ⟨g, 0, none⟩) ss.length cap) ∧ w.heap.size ≤ g ∧ TxB w' g ss.length (aftU X ss ss.length) ∧ w.grownBy w' none := by
  have H1 := Lib.hid h1
  have HA := Lib.hid ha
  have HP := Lib.hid hp
  have HX := Lib.hid hX
  have hg0 := World.grownBy_alloc w (.cells #[] 9) none
  have H1' := Lib.hid (h1.ext hg0)
  have HG0 := Lib.hid hg0
  have HO0 := Lib.hid (show (w.alloc (.cells #[] 9)).ownsRow w.heap.size 9 1 (.slice (some ⟨w.heap.size, 0, none⟩) 0 0) ([] : List ByteArray).length (([] : List ByteArray).map Value.string) from World.ownsRow_made w #[] 0 (Nat.le_refl _) (Nat.zero_le _) rfl)
  clear h1 ha hp hX hg0
  go_enter Try.func12, Try.ntmps12
  go_upto_region 2 with (at_builtin; refine append_txs rfl _ _ rfl w.heap.size _ [] rfl HO0.out a ca ss rfl HA.out HP.out H1'.out ?_ ?_ ?_; simp only [List.length_nil]; omega; simp; intro v3 w3 ho3 hg3 hb3)
  rw [List.nil_append] at ho3
  obtain ⟨g, cap, rfl, hb, hB⟩ := TxB.of_owns ho3 (by intro e; rcases hb3 with h | h <;> exact absurd (h.symm.trans e) (Option.some_ne_none _))
  have HB := Lib.hid (show TxB w3 g ss.length (aftU X ss 0) ∧ w.heap.size ≤ g ∧ w.grownBy w3 none from ⟨hb.same fun i _ => by simp [aftU], hB, new24 HG0.out hg3 (Nat.le_refl _)⟩)
  clear ho3 hg3 hb3 hb hB H1' HO0 HG0 HA HP H1
  go_wp2
  go_loopw [14] (fun i wr => ∃ q : Nat, q ≤ ss.length ∧ i = .int .i64 q ∧ TxB wr g ss.length (aftU X ss q) ∧ w.grownBy wr none) (fun i _ => ss.length - (intOf i).toNat)
  case atStart => exact ⟨0, by omega, rfl, HB.out.1, HB.out.2.2⟩
  case round =>
    obtain ⟨q, hq, rfl, hS, hE⟩ := hrel
    by_cases hlt : q < ss.length
    · have HS := Lib.hid (And.intro hS hE)
      clear hS hE
      go_wp2
      go_loopw [19] (fun i wz => ∃ j : Nat, j ≤ X.length ∧ i = .int .i64 j ∧ TxB wz g ss.length (upT (aftU X ss q) q (foldI (X.take j) q (ss.getD q ByteArray.empty))) ∧ w.grownBy wz none) (fun i _ => X.length - (intOf i).toNat)
      case atStart => exact ⟨0, by omega, rfl, HS.out.1.same fun i _ => by
        unfold upT
        split
        · rename_i e
          subst e
          simp [aftU, foldI]
        · rfl, HS.out.2⟩
      case round =>
        obtain ⟨j, hj, rfl, hT, hE⟩ := hrel
        by_cases hjk : j < X.length
        · obtain ⟨ab, off, rfl, hr⟩ := (HX.out.ext hE) j hjk
          obtain ⟨⟨pl, dt⟩, hx⟩ : ∃ x, X.getD j (0, ByteArray.empty) = x := ⟨_, rfl⟩
          rw [hx] at hr
          have hBa := Blk.new wr 29 #[.int .i64 0, .string ⟨#[]⟩]
          have HT := Lib.hid (And.intro hT (And.intro hE hx))
          clear hT hE hx
          go_upto_region 8 with (first
            | (refine ch24_load rfl _ rfl rfl hr ?_)
            | (refine ch24_store rfl _ _ rfl rfl rfl hBa rfl ?_; intro w4 hb4 hg4 hs4; have c0 := (hb4.cell 0).trans (show (ch24C (pl, dt))[0]? = some (.int .i64 pl) from rfl); have c1 := (hb4.cell 1).trans (show (ch24C (pl, dt))[1]? = some (.string dt) from rfl); have hE4 : wr.grownBy w4 none := new24 (World.grownBy_alloc wr _ none) hg4 (Nat.le_refl _); have H4 := Lib.hid (And.intro (HT.out.1.ext hE4) (ext_trans HT.out.2.1 hE4)); clear hBa hg4 hs4 hE4))
          clear hr hb4
          by_cases e : pl = (q : Int)
          · subst e
            have cg := H4.out.1.cell hlt
            have fg := H4.out.1.free q
            have HQ := Lib.hid (show TxB (w4.setCell ⟨g, q, none⟩ (.string dt)) g ss.length (upT (aftU X ss q) q (foldI (X.take (j + 1)) q (ss.getD q ByteArray.empty))) from (H4.out.1.set q dt).same fun i _ => by
              rw [foldI_take hjk, HT.out.2.2, if_pos rfl]
              unfold upT
              split <;> rfl)
            go_wp2
            go_roundw
            case rel => exact ⟨j + 1, by omega, by go_num, HQ.out, new24 H4.out.2 (gb_set (gb_refl w4 _) _ _) HB.out.2.1⟩
            case measure => simp [intOf]; omega
          · have hne : (pl == (q : Int)) = false := by simpa using e
            have HE := Lib.hid e
            clear e
            go_wp2
            go_roundw
            case rel => exact ⟨j + 1, by omega, by go_num, by rw [foldI_take hjk, HT.out.2.2, if_neg HE.out]; exact H4.out.1, H4.out.2⟩
            case measure => simp [intOf]; omega
        · obtain rfl : j = X.length := by omega
          have HT := Lib.hid (And.intro hT hE)
          clear hT hE
          go_wp2
          go_roundw
          case rel =>
            refine ⟨q + 1, by omega, by go_num, HT.out.1.same fun i _ => ?_, HT.out.2⟩
            rw [List.take_length]
            unfold upT aftU
            by_cases e : i = q
            · subst e
              rw [if_pos rfl, if_pos (by omega)]
            · rw [if_neg e]
              by_cases e2 : i < q
              · rw [if_pos e2, if_pos (by omega)]
              · rw [if_neg e2, if_neg (by omega)]
          case measure => simp [intOf]; omega
    · obtain rfl : q = ss.length := by omega
      have HS := Lib.hid (And.intro hS hE)
      clear hS hE
      go_wp2
      go_ret
      exact ⟨g, cap, rfl, HB.out.2.1, HS.out.1, HS.out.2⟩

end Go.Proofs.Ythailmoeggdfhaa
