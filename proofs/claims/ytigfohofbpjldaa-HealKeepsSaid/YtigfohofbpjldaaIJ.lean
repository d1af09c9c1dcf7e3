/-
  Package heal: a row of spots, sorted by the library (SortFunc by its contract).
-/
import Derived.Test.YtigfohofbpjldaaIH
namespace Go.Proofs.Ytigfohofbpjldaa
set_option linter.unusedVariables false
set_option linter.unusedSimpArgs false
set_option maxRecDepth 100000
open Go.RowKit Go.Sort

def encSp (x : Sp3) : List Value := [.int .i64 x.1, .int .i64 x.2.1, .int .i64 x.2.2]
theorem encSp_is (x : Sp3) : encSp x = (spotC17 x).toList := rfl
theorem spotsL17_len (l : List Sp3) : (spotsL17 l).length = l.length * 3 := by
  unfold spotsL17
  induction l with
  | nil => rfl
  | cons c r ih => rw [List.flatMap_cons, List.length_append, ih, List.length_cons]; simp [spotC17]; omega
theorem spotsL17_get : ∀ (l : List Sp3) (j i : Nat), i < 3 → (hj : j < l.length) → (spotsL17 l)[j * 3 + i]? = (encSp l[j])[i]?
  | [], j, i, _, h => by simp at h
  | c :: r, 0, i, hi, _ => by
    show ((spotC17 c).toList ++ spotsL17 r)[0 * 3 + i]? = _
    rw [Nat.zero_mul, Nat.zero_add, List.getElem?_append_left (by show i < 3; exact hi)]
    rfl
  | c :: r, j + 1, i, hi, h => by
    show ((spotC17 c).toList ++ spotsL17 r)[(j + 1) * 3 + i]? = _
    have hl : (spotC17 c).toList.length = 3 := rfl
    rw [List.getElem?_append_right (by omega), hl, show (j + 1) * 3 + i - 3 = j * 3 + i by omega, spotsL17_get r j i hi (by simpa using h)]
    simp
theorem flat_spots (d : List Sp3) : flatK encSp 3 d.toArray = (spotsL17 d).toArray := by
  apply Array.ext
  · simp [spotsL17_len]
  · intro t h1 h2
    simp at h1
    have h3 := spotsL17_get d (t / 3) (t % 3) (by omega) (by omega)
    rw [show t / 3 * 3 + t % 3 = t by omega] at h3
    have h4 := get_flatK encSp 3 d.toArray t (by simpa using h1)
    rw [getElem!_pos (flatK encSp 3 d.toArray) t (by simpa using h1)] at h4
    rw [h4]
    have h5 : (d.toArray[t / 3]! : Sp3) = d[t / 3]'(by omega) := by rw [getElem!_pos d.toArray (t / 3) (by simp; omega)]; simp
    rw [h5]
    have h6 : t % 3 < (encSp (d[t / 3]'(by omega))).length := by show t % 3 < 3; omega
    rw [getElem!_pos (encSp (d[t / 3]'(by omega))) (t % 3) h6]
    rw [List.getElem?_eq_getElem h6] at h3
    rw [List.getElem_toArray]
    have h7 := List.getElem?_eq_getElem (l := spotsL17 d) (i := t) (by rw [spotsL17_len]; exact h1)
    rw [h7] at h3
    injection h3 with h3
    exact h3.symm

theorem heap_putId {w : World} {g n : Nat} {os : Array Obj} {cur : Array Value} {e : TypeId} {fr : Nat × Nat} (F : Array Value) (hb : w.heap[g]? = some (.cells cur e fr)) :
    (grow (putRow id (Sort.ahead w n) g 0 F) os).heap[g]? = some (.cells (putCells id 0 F cur) e fr) := by
  have hg : g < w.heap.size := (Array.getElem?_eq_some_iff.1 hb).1
  rw [heap_grow_old _ _ (by simpa using hg)]
  simp [putRow, mapBlock, Sort.ahead, Array.getElem?_modify, hb, onCells]
theorem grownBy_putId {w : World} {g n : Nat} {os : Array Obj} (F : Array Value) : w.grownBy (grow (putRow id (Sort.ahead w n) g 0 F) os) (some g) := by
  refine ⟨rfl, rfl, rfl, by simp, fun k hk hne => ?_⟩
  rw [heap_grow_old _ _ (by simpa using hk)]
  have : g ≠ k := fun e => hne (by rw [e])
  simp [putRow, mapBlock, Sort.ahead, Array.getElem?_modify, this]
theorem take_putId (cur : Array Value) (ts : List Value) (h : ts.length ≤ cur.size) : (putCells id 0 ts.toArray cur).toList.take ts.length = ts := by
  apply List.ext_getElem?
  intro j
  by_cases hj : j < ts.length
  · rw [List.getElem?_take_of_lt hj, Array.getElem?_toList]
    simp [putCells, hj, show j < cur.size by omega]
  · rw [List.getElem?_take_eq_none (by omega), List.getElem?_eq_none (by omega)]

theorem spotsOf1_any (x y : Sp3) (W : World) : Calls Try.prog 43 #[.agg #[.int .i64 x.1, .int .i64 x.2.1, .int .i64 x.2.2], .agg #[.int .i64 y.1, .int .i64 y.2.1, .int .i64 y.2.2]] W fun e w' => e = .returned (.int .i64 (cmpI x.1 y.1)) ∧ ∃ q os', w' = grow (W.drewN q) os' := by
  have CMP := fun wx => compare17_any x.1 y.1 wx
  obtain ⟨r, hr⟩ : ∃ z, cmpI x.1 y.1 = z := ⟨_, rfl⟩
  rw [hr] at CMP ⊢
  clear hr
  go_enter Try.func43, Try.ntmps43
  go_wp2_with (go_at_call 44; refine (CMP _).mono ?_; rintro e w' ⟨rfl, rfl⟩)
  go_ret
  exact ⟨rfl, 0, _, by rw [alloc_eq_grow, alloc_eq_grow, grow_grow]; rfl⟩
theorem ltSp (x y : Sp3) : ltOf (fun x y : Sp3 => cmpI x.1 y.1) x y = decide (x.1 < y.1) := by
  unfold ltOf cmpI
  by_cases h1 : x.1 < y.1
  · simp [h1]
  · by_cases h2 : y.1 < x.1 <;> simp [h1, h2]
theorem swoSp : SWO (ltOf fun x y : Sp3 => cmpI x.1 y.1) where
  irrefl x := by rw [ltSp]; simp
  trans x y z h1 h2 := by rw [ltSp] at *; simp at *; omega
  ntrans x y z h1 h2 := by rw [ltSp] at *; simp at *; omega
theorem Try.eg6 : ∀ args w, (callFunc 43 args).run Try.prog w = .ok (.enter 43 args) w := enters_of Try.func43 (by kernel_rfl) rfl

theorem sortFunc17_any (base g cap : Nat) (d : List Sp3) (w : World) (h : w.ownsRow base 40 3 (.slice (some ⟨g, 0, none⟩) d.length cap) d.length (spotsL17 d)) (hl : d.length ≤ 1000) :
    Calls Try.prog 42 #[.slice (some ⟨g, 0, none⟩) d.length cap, .func (.func 43) #[] #[]] w fun e w' =>
      e = .returned (.tuple #[]) ∧ ∃ d2 : List Sp3, d2.Perm d ∧ d2.Pairwise (fun a b => a.1 ≤ b.1) ∧ w'.ownsRow base 40 3 (.slice (some ⟨g, 0, none⟩) d.length cap) d.length (spotsL17 d2) ∧ w.grownBy w' (some g) := by
  rcases h.2 with ⟨hv, _⟩ | ⟨g', cap', cur, hv, hb, hg, hn, hm, hs, ht⟩
  · cases hv
  · simp only [Value.slice.injEq, Option.some.injEq, Addr.mk.injEq, true_and, and_true] at hv
    obtain ⟨rfl, rfl⟩ := hv
    have hlen : d.length * 3 ≤ cur.size := by have := Nat.mul_le_mul_right 3 hn; omega
    have hH : HoldsK encSp 3 w g 0 d.toArray := by
      unfold HoldsK
      rw [flat_spots]
      intro j hj
      have hj' : j < d.length * 3 := by simpa [spotsL17_len] using hj
      refine ⟨?_, by simp [World.frozen?, hg]⟩
      have h1 : (cur.toList.take (d.length * 3))[j]? = (spotsL17 d)[j]? := by rw [ht]
      rw [List.getElem?_take_of_lt hj', Array.getElem?_toList] at h1
      rw [cell_of_row w g _ cur _ _ hg, Nat.zero_add, h1, getElem!_pos _ j hj]
      simp [spotsL17_len, hj']
    have hcon := AnyQ.slices_SortFunc Try.sortSpot 3 Try.isAgg40 Try.sizeOf40 encSp (fun _ => rfl) (fun x v hv => by simp [encSp] at hv; rcases hv with rfl | rfl | rfl <;> rfl) (fun x y => cmpI x.1 y.1) swoSp 43 #[] g 0 cap d.toArray w Try.eg6 (fun _ _ _ _ x y => spotsOf1_any x y _) hH (Array.getElem?_eq_some_iff.1 hg).1 (by simp; omega)
    refine Calls.mono (P := Try.prog) hcon ?_
    rintro e w' ⟨rfl, d', n, os, hp, hsrt, rfl⟩
    obtain ⟨hp1, _, hp2⟩ := hp
    have e1 : d'.extract 0 d.toArray.size = d' := by rw [← hp1]; exact Array.extract_size
    have e2 : d.toArray.extract 0 d.toArray.size = d.toArray := Array.extract_size
    rw [e1, e2] at hp2
    have hsz : d'.toList.length = d.length := by simpa using hp1
    refine ⟨rfl, d'.toList, by simpa using hp2, ?_, ?_, ?_⟩
    · rw [List.pairwise_iff_getElem]
      intro i j hi hj hij
      have h1 := hsrt i j (Nat.zero_le _) hij (by rw [List.size_toArray]; omega)
      rw [ltSp, getElem!_pos d' j (by simpa using hj), getElem!_pos d' i (by simpa using hi)] at h1
      simp at h1 ⊢
      omega
    · refine ⟨by rw [spotsL17_len, hsz], .inr ⟨g, cap, _, rfl, hb, heap_putId _ hg, hn, hm, by simpa [putCells] using hs, ?_⟩⟩
      have e3 : flatK encSp 3 d' = (spotsL17 d'.toList).toArray := by have := flat_spots d'.toList; simpa using this
      rw [e3]
      have := take_putId cur (spotsL17 d'.toList) (by rw [spotsL17_len, hsz]; exact hlen)
      rw [spotsL17_len, hsz] at this
      exact this
    · exact grownBy_putId _

end Go.Proofs.Ytigfohofbpjldaa
