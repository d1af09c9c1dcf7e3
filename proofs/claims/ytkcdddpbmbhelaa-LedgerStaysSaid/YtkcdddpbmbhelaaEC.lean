/-
  Package ledger: Twin; the document's Twin.
-/
import Derived.Test.YtkcdddpbmbhelaaEB
import Derived.Test.YtkcdddpbmbhelaaAT
import Derived.Maps.AppendAt
import Derived.Deep.AppendLies
namespace Go.Proofs.Ytkcdddpbmbhelaa
open Go.RowKit

attribute [local go_sem] Try.eqNilInts

/-- The cells of a ledger that is nothing yet, as the walk writes them. -/
@[reducible] def zeroC : Array Value :=
  #[.int .i64 0, .int .i64 0, .bool false, .int .i64 0, .int .i64 0, .int .i64 0, .slice none 0 0, .bool false, .int .i64 0, .int .i64 0, .int .i64 0, .slice none 0 0,
    .bool false, .int .i64 0, .int .i64 0, .int .i64 0, .slice none 0 0, .bool false, .int .i64 0, .int .i64 0, .int .i64 0, .slice none 0 0]
theorem zeroC_is : zeroC = ledC noLed (fun _ => nilS) := rfl

/-- A slice of ints of the call's own. -/
abbrev OwnI (B : Nat) (w : World) (v : Value) (xs : List Int) : Prop := w.ownsRow B 3 1 v xs.length (xs.map (Value.int .i64))

theorem ints_one (w : World) (x : Int) (T : TypeId) : Ints (w.alloc (.cells #[.int .i64 x] T)) (.slice (some ⟨w.heap.size, 0, none⟩) 1 1) [x] :=
  .inr ⟨w.heap.size, 0, 1, rfl, by simp, fun i hi => by
    obtain rfl : i = 0 := by simp at hi; exact hi
    simp⟩

/-- append of a slice that reads as ints to a row of the call's own. -/
theorem append_ints {w : World} {ops : Array Oper} {rest : List Oper} {o : Oper} {a : Act} {Q : Exit → Act → World → Prop} (hgd : o.guard = none) (s x : Operand)
    (ho : o.op = .call { callee := .builtin .append, args := #[s, x], argTypes := #[22, 22] }) (base : Nat)
    (v : Value) (xs : List Int) (hs : a.eval s = v) (hown : OwnI base w v xs) (src : Value) (ys : List Int) (hx : a.eval x = src) (hb : Ints w src ys)
    (h63 : xs.length + ys.length ≤ 16777216) (hbase : base ≤ w.heap.size)
    (h : ∀ v' w', OwnI base w' v' (xs ++ ys) → w.grownBy w' v.ownBlock → (v'.ownBlock = v.ownBlock ∨ v'.ownBlock = some w.heap.size) → wpList Try.prog ops Q rest (a.put o.dst v') w') : wpList Try.prog ops Q (o :: rest) a w := by
  obtain ⟨i0, hi, hz0, hz1, hz2⟩ := info_parts Try.infoInt
  rcases hb with ⟨rfl, rfl⟩ | ⟨b, off, cap, rfl, _, hc⟩
  · refine wpList_append_own_none hgd s x 22 ho base 3 i0 1 Try.underlying22 hi v _ _ hs hown hx ?_
    exact h v w (by simpa using hown) ⟨rfl, rfl, rfl, Nat.le_refl _, fun _ _ _ => rfl⟩ (.inl rfl)
  · refine wpList_append_own_at w hgd s x 22 ho base 3 i0 (.int .i64 0) 1 8 Try.underlying22 hi hz0 hz1 hz2 rfl (by decide) v _ _ hs hown ⟨b, off, none⟩ ys.length cap (ys.map (Value.int .i64)) hx (by simp) ?_ (ints_oneCell _ _) (by unfold maxLen; omega) (by omega) hbase ?_
    · intro j u hj
      rw [List.getElem?_map] at hj
      rw [addr_add]
      by_cases h : j < ys.length
      · rw [List.getElem?_eq_getElem h] at hj
        rw [hc j h, ← hj]
        simp [List.getElem?_eq_getElem h, List.getD_eq_getElem?_getD]
      · rw [List.getElem?_eq_none (by omega)] at hj
        cases hj
    · intro v' w' h1 h2 _ h4
      refine h v' w' ?_ h2 h4
      unfold OwnI
      rw [List.length_append, List.map_append]
      exact h1

/-- A copy of its own. -/
def ClonedO (w : World) (xs : List Int) (e : Ending) (w' : World) : Prop := ∃ v', e = .returned v' ∧ OwnI w.heap.size w' v' xs ∧ w.grownBy w' none

theorem cloneO_any (v : Value) (xs : List Int) (w : World) (hb : Ints w v xs) (hm : xs.length ≤ 1048576) :
    Calls Try.prog 23 #[v] w (ClonedO w xs) := by
  obtain ⟨i0, hi, hz0, hz1, hz2⟩ := info_parts Try.infoInt
  rcases hb with ⟨rfl, rfl⟩ | ⟨b, off, cap, rfl, _, hc⟩
  · go_enter Try.func23, Try.ntmps23
    go_wp2
    go_ret
    exact ⟨_, rfl, ⟨rfl, .inl ⟨rfl, rfl⟩⟩, ⟨rfl, rfl, rfl, Nat.le_refl _, fun _ _ _ => rfl⟩⟩
  · have hown := World.ownsRow_made (base := w.heap.size) (e := 3) (size := 1) w #[] 0 (Nat.le_refl _) (Nat.zero_le _) rfl
    have HC := Lib.hid hc
    clear hc
    go_enter Try.func23, Try.ntmps23
    go_wp2_with (at_builtin; go_loud (refine wpList_append_own _ rfl _ _ 22 rfl w.heap.size 3 i0 (.int .i64 0) 1 8 Try.underlying22 hi hz0 hz1 hz2 rfl (by decide) _ _ _ rfl hown ⟨b, off, none⟩ xs.length cap (xs.map (Value.int .i64)) rfl (by simp) ?c1 ?c2 ?c3 ?c4 ?c5 ?_))
    case c1 =>
      intro j u hj
      rw [List.getElem?_map] at hj
      rw [addr_add]
      by_cases h : j < xs.length
      · rw [List.getElem?_eq_getElem h] at hj
        have h2 := HC.out j h
        rw [World.cell?_alloc_old _ _ _ (Nat.ne_of_lt (World.block_lt_of_cell? w _ h2)), h2, ← hj]
        simp [List.getElem?_eq_getElem h, List.getD_eq_getElem?_getD]
      · rw [List.getElem?_eq_none (by omega)] at hj
        cases hj
    case c2 => exact ints_oneCell _ _
    case c3 => unfold maxLen; omega
    case c4 => omega
    case c5 => simp
    intro v' w1 hown' hgrow _
    have hown2 : w1.ownsRow w.heap.size 3 1 v' xs.length (xs.map (Value.int .i64)) := by simpa using hown'
    go_wp2
    go_ret
    exact ⟨v', rfl, hown2, grown_trans (World.grownBy_alloc w _ none) hgrow (fun k hk h => by simp [Value.ownBlock] at hk; omega)⟩

theorem own_lt {B : Nat} {w : World} {v : Value} {xs : List Int} (h : OwnI B w v xs) : ∀ p, v.ownBlock = some p → B ≤ p ∧ p < w.heap.size := h.lt
/-- What was done to a row of the call's own. -/
theorem ext_own {w w1 w2 : World} {B : Nat} {v : Value} {xs : List Int} (h1 : w.grownBy w1 none) (ho : OwnI B w1 v xs) (hB : w.heap.size ≤ B) (h2 : w1.grownBy w2 v.ownBlock) : w.grownBy w2 none :=
  grown_trans h1 h2 (fun p hp hlt => by have := own_lt ho p hp; omega)

/-- The first k tenants' slices are the call's own, each in a block of its own. -/
structure Owned (B : Nat) (w : World) (L : Led) (V : Nat → Value) (k : Nat) : Prop where
  own : ∀ j, j < k → OwnI B w (V j) (L.t j).bs
  apart : ∀ i j, i < k → j < k → i ≠ j → ∀ p, (V i).ownBlock = some p → (V j).ownBlock ≠ some p
theorem own_kept {B : Nat} {w w' : World} {v : Value} {xs : List Int} {r : Option Nat} (h : OwnI B w v xs) (hg : w.grownBy w' r) (hne : ∀ p, v.ownBlock = some p → some p ≠ r) : OwnI B w' v xs := by
  obtain ⟨h1, h2⟩ := h
  refine ⟨h1, ?_⟩
  rcases h2 with h2 | ⟨g, cap, cur, rfl, hB, hh, hc, hr⟩
  · exact .inl h2
  · have hlt : g < w.heap.size := (Array.getElem?_eq_some_iff.1 hh).1
    exact .inr ⟨g, cap, cur, rfl, hB, (hg.block g hlt (hne g rfl)).trans hh, hc, hr⟩
theorem Owned.is {B : Nat} {w : World} {L : Led} {V : Nat → Value} (h : Owned B w L V 4) : LedIs w L V := fun j hj => owns_ints rfl (h.own j hj)
theorem Owned.kept {B k : Nat} {w w' : World} {L : Led} {V : Nat → Value} {r : Option Nat} (h : Owned B w L V k) (hg : w.grownBy w' r) (hne : ∀ j, j < k → ∀ p, (V j).ownBlock = some p → some p ≠ r) : Owned B w' L V k :=
  ⟨fun j hj => own_kept (h.own j hj) hg (hne j hj), h.apart⟩
theorem Owned.le {B B' k : Nat} {w : World} {L : Led} {V : Nat → Value} (h : Owned B w L V k) (hB : B' ≤ B) : Owned B' w L V k :=
  ⟨fun j hj => ownsRow_le (h.own j hj) hB, h.apart⟩

/-- One tenant's slice more. -/
theorem Owned.next {B k : Nat} {w w1 : World} {L : Led} {V : Nat → Value} {v : Value} (h : Owned B w L V k) (hB : B ≤ w.heap.size) (hg : w.grownBy w1 none) (ho : OwnI w.heap.size w1 v (L.t k).bs) {g : Nat} (hgB : g < B) (o : Nat) (u : Value) :
    Owned B (w1.setCell ⟨g, o, none⟩ u) L (updV V k v) (k + 1) := by
  have hs : w1.grownBy (w1.setCell ⟨g, o, none⟩ u) (some g) := gb_set (gb_refl w1 (some g)) o u
  refine ⟨fun j hj => ?_, fun i j hi hj hij p hp hq => ?_⟩
  · unfold updV
    by_cases e : j = k
    · subst e
      rw [if_pos rfl]
      exact own_kept (ownsRow_le ho hB) hs (fun p hp e => by have := own_lt ho p hp; injection e with e; omega)
    · rw [if_neg e]
      have h1 := own_kept (h.own j (by omega)) hg (by simp)
      exact own_kept h1 hs (fun p hp e => by have := own_lt h1 p hp; injection e with e; omega)
  · unfold updV at hp hq
    by_cases ei : i = k
    · subst ei
      rw [if_pos rfl] at hp
      rw [if_neg (Ne.symm hij)] at hq
      have := own_lt ho p hp
      have := own_lt (h.own j (by omega)) p hq
      omega
    · rw [if_neg ei] at hp
      by_cases ej : j = k
      · subst ej
        rw [if_pos rfl] at hq
        have := own_lt ho p hq
        have := own_lt (h.own i (by omega)) p hp
        omega
      · rw [if_neg ej] at hq
        exact h.apart i j (by omega) (by omega) hij p hp hq

/-- A ledger in new memory. -/
def TwinP (w : World) (L : Led) (e : Ending) (w' : World) : Prop := ∃ V', e = .returned (.agg (ledC L V')) ∧ Owned w.heap.size w' L V' 4 ∧ Ext w w'

/-- A twin that is being made: the first k tenants are done. -/
structure Twining (w : World) (g : Nat) (L : Led) (V V' : Nat → Value) (k : Nat) (wr : World) : Prop where
  blk : Blk wr g 27 (ledC L V')
  rest : ∀ j, k ≤ j → V' j = V j
  own : Owned (g + 2) wr L V' k
  ext : Ext w wr
  out : ∃ C, Blk wr (g + 1) 27 C ∧ C.size = 22
  at_ : g = w.heap.size

theorem Twining.next {w wr w1 : World} {g k : Nat} {L : Led} {V V' : Nat → Value} {v : Value} (h : Twining w g L V V' k wr) (hk : k < 4) (hg : wr.grownBy w1 none) (ho : OwnI wr.heap.size w1 v (L.t k).bs) :
    Twining w g L V (updV V' k v) (k + 1) (w1.setCell ⟨g, 2 + k * 5 + 4, none⟩ v) := by
  obtain ⟨C, hC, hCs⟩ := h.out
  have hlt := h.blk.lt
  have hlt2 := hC.lt
  have hsz := hg.size
  have hs : w1.grownBy (w1.setCell ⟨g, 2 + k * 5 + 4, none⟩ v) (some g) := gb_set (gb_refl w1 (some g)) _ v
  refine ⟨?_, fun j hj => ?_, ?_, ?_, ⟨C, ?_, hCs⟩, h.at_⟩
  · have := (h.blk.ext hg).set (2 + k * 5 + 4) v
    rw [led_setV L V' hk] at this
    exact this
  · unfold updV
    rw [if_neg (by omega)]
    exact h.rest j (by omega)
  · exact h.own.next (by omega) hg ho (by omega) _ _
  · exact grown_trans (ext_trans h.ext hg) hs (fun p hp hlt3 => by injection hp with hp; have := h.at_; omega)
  · exact (hC.ext hg).far (by show g + 1 ≠ g; omega) v

theorem results_cell_row2 {P : Program} {fn : Func} {p t : Tmp} {ty : TypeId} {tmps : Array Value} {w : World} {g : Nat} {bt : TypeId} {cs : Array Value} {v : Value} {d : TypeDesc} (h : fn.results = #[.cell p ty, .tmp t])
    (hp : tmps.getD p undef = .pointer (some ⟨g, 0, none⟩)) (hv : tmps.getD t undef = v) (hg : w.heap[g]? = some (.cells cs bt (0, 0)))
    (hu : P.underlying ty = some d) (hd : (match d with | .struct _ | .array _ _ => true | _ => false) = true) (hi : (P.info? ty).map (·.size) = some cs.size) :
    (results fn tmps).run P w = .ok (.tuple #[.agg cs, v]) w := by
  have hp' : tmps[p]?.getD undef = .pointer (some ⟨g, 0, none⟩) := by simpa using hp
  have hv' : tmps[t]?.getD undef = v := by simpa using hv
  simp [results, h, hp', hv', asAddr, run_loadVar_row w g bt ty cs (0, 0) d hg hu hd hi]

set_option maxHeartbeats 800000 in
theorem twin10_any (L : Led) (V : Nat → Value) (w : World) (hL : LedIs w L V) (hm : ∀ j, j < 4 → (L.t j).bs.length ≤ 1048576) :
    Calls Try.prog 41 #[.agg (ledC L V)] w (TwinP w L) := by
  have hE := grown_alloc (World.grownBy_alloc w (.cells (ledC L V) 27) none) (.cells zeroC 27)
  have hT : Twining w w.heap.size L V V 0 ((w.alloc (.cells (ledC L V) 27)).alloc (.cells zeroC 27)) :=
    ⟨(Blk.new w _ _).alloc _, fun _ _ => rfl, ⟨fun j hj => absurd hj (by omega), fun i _ hi => absurd hi (by omega)⟩, hE, ⟨_, Blk.newAt _ _ (by simp) _ _, rfl⟩, rfl⟩
  have HL := Lib.hid hL
  have HM := Lib.hid hm
  clear hL hm hE
  go_enter Try.func41, Try.ntmps41
  go_wp2
  obtain ⟨w1, hw1⟩ : ∃ v, (w.alloc (.cells (ledC L V) 27)).alloc (.cells zeroC 27) = v := ⟨_, rfl⟩
  rw [hw1] at hT ⊢
  obtain ⟨g, hg⟩ : ∃ g, w.heap.size = g := ⟨_, rfl⟩
  rw [hg] at hT ⊢
  have HT := Lib.hid hT
  clear hw1 hT hg
  go_loopw [4] (fun i wr => ∃ k : Nat, k ≤ 4 ∧ i = .int .i64 k ∧ ∃ V', Twining w g L V V' k wr) (fun i _ => 4 - (intOf i).toNat)
  case atStart => exact ⟨0, by omega, rfl, V, HT.out⟩
  case round =>
    obtain ⟨k, hk, rfl, V', hT⟩ := hrel
    have HT := Lib.hid hT
    by_cases hlt : k < 4
    · have hV := hT.rest k (Nat.le_refl _)
      have hI : Ints wr (V' k) (L.t k).bs := by rw [hV]; exact (HL.out k hlt).kept hT.ext (by simp)
      have C := cloneO_any (V' k) (L.t k).bs wr hI (HM.out k hlt)
      have c := (hT.blk.cell _).trans (led_bs L V' hlt)
      obtain ⟨ao, cp, _, _, hv, _⟩ := hI.form
      rw [hv] at C c
      clear hV hI hv hT
      go_wp2_with (go_at_call 23; refine C.mono ?_; rintro e w4 ⟨v4, rfl, ho4, hg4⟩; have hc4 := (hg4.cell c (by simp)); have hf4 := (HT.out.blk.ext hg4).free (2 + k * 5 + 4); have HT2 := Lib.hid (HT.out.next hlt hg4 ho4); obtain ⟨_, _, _, rfl⟩ := (owns_ints rfl ho4).slice; clear ho4 hg4 c)
      go_roundw
      case rel => exact ⟨k + 1, by omega, by go_num, _, HT2.out⟩
      case measure => simp [intOf]; omega
    · obtain rfl : k = 4 := by omega
      obtain ⟨C, hC, hCs⟩ := hT.out
      have hb := hT.blk
      have hat := hT.at_
      clear hT
      have hS : ∀ j, j < 4 → SliceV (V' j) := HT.out.own.is.slices
      go_wp2_with (first
        | (refine led_load _ rfl rfl hb rfl ?_)
        | (refine led_store _ _ rfl rfl rfl hC hCs hS rfl ?_; intro w5 hb5 hg5 hs5))
      refine bodyPost_ret (v := .agg (ledC L V')) (results_cell_row rfl _ _ (g + 1) _ _ (0, 0) _ rfl hb5 Try.underlying27 rfl Try.sizeLed) rfl ⟨V', rfl, ?_, ?_⟩
      · rw [← hat]
        exact (HT.out.own.kept hg5 (fun j hj p hp e => by have := own_lt (HT.out.own.own j hj) p hp; injection e with e; omega)).le (by omega)
      · exact grown_trans HT.out.ext hg5 (fun p hp hlt3 => by injection hp with hp; omega)

end Go.Proofs.Ytkcdddpbmbhelaa
