/-
  Layer 14: rows of the document's table, and what the program's cells must be; how both change.
-/
import Derived.Test.YtdnjpoioojahkaaOA
namespace Go.Proofs.Ytdnjpoioojahkaa
set_option linter.unusedVariables false
set_option linter.unusedSimpArgs false
set_option maxRecDepth 100000
open Go.RowKit

theorem nodup_inj {α β : Type} {f : α → β} : ∀ {rs : List α}, (rs.map f).Nodup → ∀ {r s : α}, r ∈ rs → s ∈ rs → f r = f s → r = s
  | [], _, r, _, hr, _, _ => by cases hr
  | x :: xs, h, r, s, hr, hs, e => by
    rw [List.map_cons, List.nodup_cons] at h
    rcases List.mem_cons.1 hr with rfl | hr2
    · rcases List.mem_cons.1 hs with rfl | hs2
      · rfl
      · exact absurd (List.mem_map.2 ⟨s, hs2, e.symm⟩) h.1
    · rcases List.mem_cons.1 hs with rfl | hs2
      · exact absurd (List.mem_map.2 ⟨r, hr2, e⟩) h.1
      · exact nodup_inj h.2 hr2 hs2 e

theorem placeN_none {rs : List R14} {b p : Int} (h : ∀ r ∈ rs, ¬ (r.bk = b ∧ r.pg = p)) : placeN rs b p = -1 := by
  unfold placeN
  rw [List.find?_eq_none.2 (fun r hr => by simpa using h r hr)]
theorem placeN_some {rs : List R14} {r : R14} (hn : (rs.map fun r => (r.bk, r.pg)).Nodup) (hr : r ∈ rs) : placeN rs r.bk r.pg = r.pl := by
  unfold placeN
  cases hf : rs.find? (fun s => s.bk == r.bk && s.pg == r.pg) with
  | none => have := List.find?_eq_none.1 hf r hr; simp at this
  | some s =>
    have h1 := List.mem_of_find?_eq_some hf
    have h2 := List.find?_some hf
    simp at h2
    obtain rfl := nodup_inj hn h1 hr (by simp [h2])
    rfl
theorem atN_none {rs : List R14} {q : Int} (h : ∀ r ∈ rs, r.pl ≠ q) : atN rs q = (0, 0, false) := by
  unfold atN
  rw [List.find?_eq_none.2 (fun r hr => by simpa using h r hr)]
theorem atN_some {rs : List R14} {r : R14} (hn : (rs.map (·.pl)).Nodup) (hr : r ∈ rs) : atN rs r.pl = (r.bk, r.pg, true) := by
  unfold atN
  cases hf : rs.find? (fun s => s.pl == r.pl) with
  | none => have := List.find?_eq_none.1 hf r hr; simp at this
  | some s =>
    have h1 := List.mem_of_find?_eq_some hf
    have h2 := List.find?_some hf
    simp at h2
    obtain rfl := nodup_inj hn h1 hr h2
    rfl
theorem mem_clear {rs : List R14} {q : Int} {r : R14} : r ∈ clearN rs q ↔ r ∈ rs ∧ r.pl ≠ q := by
  unfold clearN
  rw [List.mem_filter]
  simp
theorem clear_same {rs : List R14} {q : Int} (h : ∀ r ∈ rs, r.pl ≠ q) : clearN rs q = rs := by
  unfold clearN
  rw [List.filter_eq_self]
  intro r hr
  simpa using h r hr
theorem clear_len {rs : List R14} {r : R14} (hn : (rs.map (·.pl)).Nodup) (hr : r ∈ rs) : (clearN rs r.pl).length + 1 = rs.length := by
  induction rs with
  | nil => cases hr
  | cons x xs ih =>
    rw [List.map_cons, List.nodup_cons] at hn
    by_cases e : x.pl = r.pl
    · have hxs : ∀ s ∈ xs, s.pl ≠ r.pl := fun s hs h => hn.1 (List.mem_map.2 ⟨s, hs, h.trans e.symm⟩)
      have h1 : clearN (x :: xs) r.pl = clearN xs r.pl := by unfold clearN; rw [List.filter_cons, if_neg (by simpa using e)]
      rw [h1, clear_same hxs]
      rfl
    · have h1 : clearN (x :: xs) r.pl = x :: clearN xs r.pl := by unfold clearN; rw [List.filter_cons, if_pos (by simpa using e)]
      have hr2 : r ∈ xs := by
        rcases List.mem_cons.1 hr with rfl | h
        · exact absurd rfl e
        · exact h
      rw [h1, List.length_cons, List.length_cons, ih hn.2 hr2]
theorem clear_worth {rs : List R14} {r : R14} (hn : (rs.map (·.pl)).Nodup) (hr : r ∈ rs) (b : Int) : worthN (clearN rs r.pl) b + (if r.bk = b then 1 else 0) = worthN rs b := by
  induction rs with
  | nil => cases hr
  | cons x xs ih =>
    rw [List.map_cons, List.nodup_cons] at hn
    have hw : ∀ ys : List R14, worthN (x :: ys) b = worthN ys b + if x.bk = b then 1 else 0 := fun ys => by
      unfold worthN
      rw [List.filter_cons]
      by_cases hb : x.bk = b
      · rw [if_pos (by simpa using hb), if_pos hb, List.length_cons]
      · rw [if_neg (by simpa using hb), if_neg hb, Nat.add_zero]
    by_cases e : x.pl = r.pl
    · have hxs : ∀ s ∈ xs, s.pl ≠ r.pl := fun s hs h => hn.1 (List.mem_map.2 ⟨s, hs, h.trans e.symm⟩)
      have h1 : clearN (x :: xs) r.pl = clearN xs r.pl := by unfold clearN; rw [List.filter_cons, if_neg (by simpa using e)]
      have hx : r = x := by
        rcases List.mem_cons.1 hr with h | h
        · exact h
        · exact absurd rfl (hxs r h)
      subst hx
      rw [h1, clear_same hxs, hw]
    · have h1 : clearN (x :: xs) r.pl = x :: clearN xs r.pl := by unfold clearN; rw [List.filter_cons, if_pos (by simpa using e)]
      have hr2 : r ∈ xs := by
        rcases List.mem_cons.1 hr with rfl | h
        · exact absurd rfl e
        · exact h
      rw [h1, hw, hw, ← ih hn.2 hr2]
      omega
theorem worth_snoc14 (rs : List R14) (r : R14) (b : Int) : worthN (rs ++ [r]) b = worthN rs b + if r.bk = b then 1 else 0 := by
  unfold worthN
  rw [List.filter_append, List.length_append]
  congr 1
  by_cases hb : r.bk = b
  · rw [if_pos hb]; simp [hb]
  · rw [if_neg hb]; simp [hb]
theorem place_snoc14 {rs : List R14} {r : R14} (h : ∀ s ∈ rs, ¬ (s.bk = r.bk ∧ s.pg = r.pg)) (b p : Int) : placeN (rs ++ [r]) b p = if b = r.bk ∧ p = r.pg then r.pl else placeN rs b p := by
  unfold placeN
  rw [List.find?_append]
  by_cases e : b = r.bk ∧ p = r.pg
  · obtain ⟨rfl, rfl⟩ := e
    rw [if_pos ⟨rfl, rfl⟩, List.find?_eq_none.2 (fun s hs => by simpa using h s hs)]
    simp
  · rw [if_neg e]
    have h1 : (r.bk == b && r.pg == p) = false := by
      rw [Bool.eq_false_iff]
      intro h2
      simp at h2
      exact e ⟨h2.1.symm, h2.2.symm⟩
    rw [List.find?_cons, h1]
    simp
theorem at_snoc14 {rs : List R14} {r : R14} (h : ∀ s ∈ rs, s.pl ≠ r.pl) (q : Int) : atN (rs ++ [r]) q = if q = r.pl then (r.bk, r.pg, true) else atN rs q := by
  unfold atN
  rw [List.find?_append]
  by_cases e : q = r.pl
  · subst e
    rw [if_pos rfl, List.find?_eq_none.2 (fun s hs => by simpa using h s hs)]
    simp
  · rw [if_neg e]
    have h1 : (r.pl == q) = false := by simpa using fun h2 => e (Eq.symm h2)
    rw [List.find?_cons, h1]
    simp

/-- What the program's cells are, by the document's rows. -/
structure Inv14 (B P : Nat) (R : Nat → Nat → Int) (W : Nat → Int) (S : Nat → Bool × Int × Int) (rs : List R14) : Prop where
  ok : ∀ r ∈ rs, 0 ≤ r.pl ∧ r.pl < 64 ∧ 0 ≤ r.bk ∧ r.bk < B ∧ 0 ≤ r.pg ∧ r.pg < P
  pls : (rs.map (·.pl)).Nodup
  pgs : (rs.map fun r => (r.bk, r.pg)).Nodup
  row : ∀ b p : Nat, b < B → p < 16 → R b p = placeN rs b p
  wor : ∀ b : Nat, b < 64 → W b = (worthN rs b : Int)
  spo : ∀ q : Nat, q < 64 → S q = ((atN rs q).2.2, (atN rs q).1, (atN rs q).2.1)
section
variable {B P : Nat} {R : Nat → Nat → Int} {W : Nat → Int} {S : Nat → Bool × Int × Int} {rs : List R14}
theorem Inv14.none (B P : Nat) (R : Nat → Nat → Int) (h : ∀ b p : Nat, b < B → p < 16 → R b p = -1) : Inv14 B P R (fun _ => 0) (fun _ => (false, 0, 0)) [] :=
  ⟨fun r hr => (by cases hr), List.nodup_nil, List.nodup_nil, h, fun _ _ => rfl, fun _ _ => rfl⟩
theorem Inv14.more (h : Inv14 B P R W S rs) (n : Nat) (hn : B ≤ n) {R' : Nat → Nat → Int} (h1 : ∀ b p : Nat, b < B → p < 16 → R' b p = R b p) (h2 : ∀ b p : Nat, B ≤ b → b < n → p < 16 → R' b p = -1) : Inv14 n P R' W S rs where
  ok := fun r hr => by have := h.ok r hr; omega
  pls := h.pls
  pgs := h.pgs
  row := fun b p hb hp => by
    by_cases e : b < B
    · rw [h1 b p e hp, h.row b p e hp]
    · rw [h2 b p (by omega) hb hp, placeN_none (fun r hr he => by have := h.ok r hr; omega)]
  wor := h.wor
  spo := h.spo
theorem nodup_clear {β : Type} {f : R14 → β} (h : (rs.map f).Nodup) (q : Int) : ((clearN rs q).map f).Nodup := h.sublist (List.filter_sublist.map f)
/-- A place's page goes. -/
theorem Inv14.clear (h : Inv14 B P R W S rs) {r : R14} (hr : r ∈ rs) {q b p : Nat} (hq : r.pl = q) (hb : r.bk = b) (hp : r.pg = p) {x : Nat} (hx : W b = ((x + 1 : Nat) : Int)) :
    Inv14 B P (upd2 R b p (-1)) (upd1 W b x) (upd1 S q (false, 0, 0)) (clearN rs q) where
  ok := fun s hs => h.ok s (mem_clear.1 hs).1
  pls := nodup_clear h.pls _
  pgs := nodup_clear h.pgs _
  row := fun i j hi hj => by
    unfold upd2
    by_cases e : i = b ∧ j = p
    · obtain ⟨rfl, rfl⟩ := e
      rw [if_pos ⟨rfl, rfl⟩, placeN_none]
      intro s hs he
      obtain ⟨h1, h2⟩ := mem_clear.1 hs
      obtain rfl := nodup_inj h.pgs h1 hr (by simp [he, hb, hp])
      exact h2 hq
    · rw [if_neg e, h.row i j hi hj]
      by_cases hex : ∃ s ∈ rs, s.bk = i ∧ s.pg = j
      · obtain ⟨s, hs, h1, h2⟩ := hex
        have hne : s.pl ≠ q := fun hq2 => by
          obtain rfl := nodup_inj h.pls hs hr (hq2.trans hq.symm)
          omega
        rw [← h1, ← h2, placeN_some h.pgs hs, placeN_some (nodup_clear h.pgs _) (mem_clear.2 ⟨hs, hne⟩)]
      · rw [placeN_none (fun s hs he => hex ⟨s, hs, he⟩), placeN_none (fun s hs he => hex ⟨s, (mem_clear.1 hs).1, he⟩)]
  wor := fun i hi => by
    have hc := clear_worth h.pls hr (i : Int)
    rw [hq] at hc
    have hw := h.wor i hi
    unfold upd1
    by_cases e : i = b
    · subst e
      rw [if_pos hb] at hc
      rw [if_pos rfl]
      omega
    · rw [if_neg (by omega)] at hc
      rw [if_neg e]
      omega
  spo := fun i hi => by
    unfold upd1
    by_cases e : i = q
    · subst e
      rw [if_pos rfl, atN_none (fun s hs => (mem_clear.1 hs).2)]
    · rw [if_neg e, h.spo i hi]
      by_cases hex : ∃ s ∈ rs, s.pl = i
      · obtain ⟨s, hs, h1⟩ := hex
        rw [← h1, atN_some h.pls hs, atN_some (nodup_clear h.pls _) (mem_clear.2 ⟨hs, by omega⟩)]
      · rw [atN_none (fun s hs he => hex ⟨s, hs, he⟩), atN_none (fun s hs he => hex ⟨s, (mem_clear.1 hs).1, he⟩)]
/-- A page is given to a place that has none. -/
theorem Inv14.put (h : Inv14 B P R W S rs) {q b p : Nat} (hq : q < 64) (hb : b < B) (hp : p < P) (h1 : ∀ s ∈ rs, s.pl ≠ q) (h2 : ∀ s ∈ rs, ¬ (s.bk = b ∧ s.pg = p)) {x : Nat} (hx : W b = (x : Int)) :
    Inv14 B P (upd2 R b p q) (upd1 W b ((x + 1 : Nat) : Int)) (upd1 S q (true, (b : Int), (p : Int))) (rs ++ [⟨q, b, p⟩]) where
  ok := fun s hs => by
    rcases List.mem_append.1 hs with h3 | h3
    · exact h.ok s h3
    · obtain rfl := List.mem_singleton.1 h3
      refine ⟨?_, ?_, ?_, ?_, ?_, ?_⟩ <;> simp <;> omega
  pls := by
    rw [List.map_append]
    refine List.nodup_append.2 ⟨h.pls, by simp, fun a ha c hc e => ?_⟩
    obtain ⟨s, hs, rfl⟩ := List.mem_map.1 ha
    simp at hc
    exact h1 s hs (e.trans hc)
  pgs := by
    rw [List.map_append]
    refine List.nodup_append.2 ⟨h.pgs, by simp, fun a ha c hc e => ?_⟩
    obtain ⟨s, hs, rfl⟩ := List.mem_map.1 ha
    simp at hc
    have := e.trans hc
    simp at this
    exact h2 s hs this
  row := fun i j hi hj => by
    rw [place_snoc14 h2]
    unfold upd2
    by_cases e : i = b ∧ j = p
    · obtain ⟨rfl, rfl⟩ := e
      rw [if_pos ⟨rfl, rfl⟩, if_pos ⟨rfl, rfl⟩]
    · rw [if_neg e, if_neg (by simpa [Int.ofNat_inj] using e)]
      exact h.row i j hi hj
  wor := fun i hi => by
    rw [worth_snoc14]
    have hw := h.wor i hi
    unfold upd1
    by_cases e : i = b
    · subst e
      rw [if_pos rfl, if_pos rfl]
      omega
    · rw [if_neg e, if_neg (by simp; omega)]
      exact hw
  spo := fun i hi => by
    rw [at_snoc14 h1]
    unfold upd1
    by_cases e : i = q
    · subst e
      rw [if_pos rfl, if_pos rfl]
    · rw [if_neg e, if_neg (by simp; omega)]
      exact h.spo i hi
/-- What a place's page is. -/
theorem Inv14.spot_no (h : Inv14 B P R W S rs) {q : Nat} (hq : q < 64) (hn : ∀ r ∈ rs, r.pl ≠ q) : S q = (false, 0, 0) := by rw [h.spo q hq, atN_none hn]
theorem Inv14.spot_yes (h : Inv14 B P R W S rs) {q : Nat} (hq : q < 64) {r : R14} (hr : r ∈ rs) (hp : r.pl = q) : S q = (true, r.bk, r.pg) := by rw [h.spo q hq, ← hp, atN_some h.pls hr]

/-- Numbers up to n, together. -/
def sumN (f : Nat → Nat) : Nat → Nat
  | 0 => 0
  | n + 1 => sumN f n + f n
theorem sumN_add (f g : Nat → Nat) : ∀ n, sumN (fun i => f i + g i) n = sumN f n + sumN g n
  | 0 => rfl
  | n + 1 => by simp only [sumN]; rw [sumN_add f g n]; omega
theorem sumN_one (b : Nat) : ∀ n, sumN (fun i => if b = i then 1 else 0) n = if b < n then 1 else 0
  | 0 => rfl
  | n + 1 => by
    simp only [sumN]
    rw [sumN_one b n]
    by_cases h : b < n
    · rw [if_pos h, if_neg (by omega), if_pos (by omega)]
    · by_cases h2 : b = n
      · rw [if_neg h, if_pos h2, if_pos (by omega)]
      · rw [if_neg h, if_neg h2, if_neg (by omega)]
theorem sumN_worth : ∀ (rs : List R14) (n : Nat), (∀ r ∈ rs, 0 ≤ r.bk ∧ r.bk < n) → sumN (fun i => worthN rs i) n = rs.length
  | [], n, h => by
    clear h
    show sumN (fun _ => 0) n = 0
    induction n with
    | zero => rfl
    | succ n ih => simp only [sumN]; rw [ih]
  | r :: rs, n, h => by
    have h1 : (fun i : Nat => worthN (r :: rs) i) = fun i : Nat => worthN rs (i : Int) + (if r.bk.toNat = i then 1 else 0) := by
      funext i
      have := h r (by simp)
      unfold worthN
      rw [List.filter_cons]
      by_cases hb : r.bk = i
      · rw [if_pos (by simpa using hb), if_pos (by omega), List.length_cons]
      · rw [if_neg (by simpa using hb), if_neg (by omega), Nat.add_zero]
    have := h r (by simp)
    rw [h1, sumN_add, sumN_worth rs n (fun s hs => h s (by simp [hs])), sumN_one, if_pos (by omega), List.length_cons]
theorem sumN_le (f : Nat → Nat) (n : Nat) : ∀ m, n ≤ m → sumN f n ≤ sumN f m
  | 0, h => by obtain rfl : n = 0 := by omega
               exact Nat.le_refl _
  | m + 1, h => by
    by_cases e : n = m + 1
    · subst e; exact Nat.le_refl _
    · have := sumN_le f n m (by omega)
      simp only [sumN]
      omega
theorem sumN_same {f g : Nat → Nat} : ∀ n, (∀ i, i < n → f i = g i) → sumN f n = sumN g n
  | 0, _ => rfl
  | n + 1, h => by simp only [sumN]; rw [sumN_same n (fun i hi => h i (by omega)), h n (by omega)]
end

end Go.Proofs.Ytdnjpoioojahkaa
