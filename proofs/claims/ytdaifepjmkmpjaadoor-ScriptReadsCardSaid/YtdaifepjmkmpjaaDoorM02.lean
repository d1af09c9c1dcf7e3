/-
  Texts put together: ScB QA Line BY.
-/
import Derived.Test.YtdaifepjmkmpjaaDoorM01
import Derived.Test.YtdaifepjmkmpjaaDoorRows
import Derived.WalkKit
import Derived.ArgAppend
import Derived.OrdersHeld
import Derived.BigQuiet
import Derived.Deep.QuietTactic
import Derived.WalkSpells
import Derived.WalkLawsBesides
import Derived.Lib.Hide
import Derived.Laws.AppendOwnNone
/-
  Layer 25, pure: setups' lines; texts, and what is read of them (what is printed is parsed).
-/
namespace Go.Proofs.YtdaifepjmkmpjaaDoor
set_option linter.unusedVariables false
set_option linter.unusedSimpArgs false
set_option linter.unusedVariables false
set_option linter.unusedSimpArgs false
set_option maxRecDepth 100000

/-! ### setups -/
structure Stu where
  c : Int
  d : Int
  b : Int
  p : Int
  f : Nat → List Int
  m : List Int
structure Stu.rng (s : Stu) : Prop where
  c : i64B s.c
  d : i64B s.d
  b : i64B s.b
  p : i64B s.p
  f : ∀ t, t < 4 → ∀ n ∈ s.f t, i64B n
  m : ∀ n ∈ s.m, i64B n
def noStu : Stu := ⟨0, 0, 0, 0, fun _ => [], []⟩
def arrayS : List UInt8 := [97, 114, 114, 97, 121]
def faultS : List UInt8 := [102, 97, 117, 108, 116]
def markedS : List UInt8 := [109, 97, 114, 107, 101, 100]
def faultL (f : Nat → List Int) (t : Nat) : List (List UInt8) := if f t = [] then [] else [faultS ++ numsL (t :: f t)]
def setupL (s : Stu) : List (List UInt8) :=
  [arrayS ++ numsL [s.c, s.d, s.b, s.p]] ++ (List.range 4).flatMap (faultL s.f) ++ (if s.m = [] then [] else [markedS ++ numsL s.m])
theorem numsL_words (l : List Int) : numsL l = (l.map numL).flatMap fun w => 32 :: w := by
  unfold numsL
  rw [List.flatMap_map]
theorem split_nums {n : List UInt8} (h : ∀ c ∈ n, c ≠ 32) (l : List Int) : splitL 32 (n ++ numsL l) = n :: l.map numL := by
  rw [numsL_words]
  refine splitL_words h fun w hw c hc => ?_
  obtain ⟨v, _, rfl⟩ := List.mem_map.1 hw
  exact (numL_plain v c hc).1
theorem mapM_vals : ∀ {l : List Int}, (∀ n ∈ l, i64B n) → (l.map numL).mapM valOf = some l
  | [], _ => rfl
  | n :: l, h => by
    rw [List.map_cons, List.mapM_cons, valOf_some ⟨h n (by simp), rfl⟩, mapM_vals (fun m hm => h m (by simp [hm]))]
    rfl
theorem valsOf_map {l : List Int} (h : ∀ n ∈ l, i64B n) (hl : l ≠ []) : valsOf (l.map numL) = some l := by
  unfold valsOf
  rw [mapM_vals h]
  simp [hl]
/-! ### texts -/
structure PSt where
  s : Stu
  st : List Stp
  last : Int
def updF25 (f : Nat → List Int) (n : Nat) (r : List Int) : Nat → List Int := fun t => if t = n then r else f t
noncomputable def headS (line : List UInt8) (p : PSt) : Option PSt := match valsOf (splitL 32 line).tail with
  | some [c, d, b, q] => if (splitL 32 line).headD [] = arrayS then some { p with s := { p.s with c := c, d := d, b := b, p := q } } else none
  | _ => none
noncomputable def faultP (line : List UInt8) (p : PSt) : Option PSt := match valsOf (splitL 32 line).tail with
  | some (n :: r) => if r ≠ [] ∧ p.last < n ∧ n ≤ 3 ∧ p.s.m = [] ∧ p.st = [] then some { p with s := { p.s with f := updF25 p.s.f n.toNat r }, last := n } else none
  | _ => none
noncomputable def markedP (line : List UInt8) (p : PSt) : Option PSt := match valsOf (splitL 32 line).tail with
  | some l => if p.s.m = [] ∧ p.st = [] then some { p with s := { p.s with m := l } } else none
  | none => none
noncomputable def stepP (line : List UInt8) (p : PSt) : Option PSt := match stepOf line with
  | some x => some { p with st := p.st ++ [x] }
  | none => none
noncomputable def restP (line : List UInt8) (p : PSt) : Option PSt := if (splitL 32 line).headD [] = faultS then faultP line p else if (splitL 32 line).headD [] = markedS then markedP line p else stepP line p
noncomputable def lineP (i : Nat) (line : List UInt8) (p : PSt) : Option PSt := if i = 0 then headS line p else restP line p
/-- What lines from the i-th on make. -/
noncomputable def linesP : List (List UInt8) → Nat → PSt → Option PSt
  | [], _, p => some p
  | l :: ls, i, p => match lineP i l p with
    | some q => linesP ls (i + 1) q
    | none => none
def noPSt : PSt := ⟨noStu, [], -1⟩
noncomputable def parseE (l : List UInt8) : Option PSt := if l.getLast? = some 10 then linesP (splitL 10 l.dropLast) 0 noPSt else none
noncomputable def parseL (l : List UInt8) : Stu × List Stp × Int := match parseE l with
  | none => (noStu, [], 2)
  | some p => if 4096 < p.st.length then (noStu, [], 4) else (p.s, p.st, 0)
def textOf (ls : List (List UInt8)) : List UInt8 := ls.flatMap fun l => l ++ [10]
def printL (s : Stu) (l : List Stp) : List UInt8 := textOf (setupL s ++ l.map lineL)
theorem linesP_app : ∀ (a b : List (List UInt8)) (i : Nat) (p : PSt), linesP (a ++ b) i p = (linesP a i p).bind fun q => linesP b (i + a.length) q
  | [], b, i, p => by simp [linesP]
  | l :: a, b, i, p => by
    rw [List.cons_append]
    simp only [linesP]
    split
    · rename_i q hq
      rw [linesP_app a b (i + 1) q, List.length_cons, show i + 1 + a.length = i + (a.length + 1) by omega]
    · rfl
theorem linesP_rest : ∀ (a : List (List UInt8)) (i : Nat) (p : PSt), 0 < i → linesP a i p = linesP a 1 p
  | [], _, _, _ => rfl
  | l :: a, i, p, h => by
    simp only [linesP, lineP, if_neg (Nat.ne_of_gt h), if_neg (Nat.one_ne_zero)]
    split
    · rename_i q hq
      rw [linesP_rest a (i + 1) q (by omega), linesP_rest a (1 + 1) q (by omega)]
    · rfl
theorem textOf_cons : ∀ (l : List UInt8) (ls : List (List UInt8)), textOf (l :: ls) = (l ++ ls.flatMap fun w => 10 :: w) ++ [10]
  | l, [] => by simp [textOf]
  | l, m :: ls => by
    have := textOf_cons m ls
    unfold textOf at this ⊢
    rw [List.flatMap_cons, this]
    simp
theorem parse_text {ls : List (List UInt8)} (hn : ls ≠ []) (h : ∀ w ∈ ls, ∀ c ∈ w, c ≠ 10) : parseE (textOf ls) = linesP ls 0 noPSt := by
  cases ls with
  | nil => exact absurd rfl hn
  | cons l ls =>
    unfold parseE
    rw [textOf_cons, List.getLast?_concat, if_pos rfl, List.dropLast_concat, splitL_words (h l (by simp)) (fun w hw => h w (by simp [hw]))]
theorem faults_p (f : Nat → List Int) (hf : ∀ t, t < 4 → ∀ n ∈ f t, i64B n) : ∀ k, k ≤ 4 → ∀ (p : PSt), p.s.m = [] → p.st = [] → p.last < 0 → (∀ t, p.s.f t = []) →
    ∃ q, linesP ((List.range k).flatMap (faultL f)) 1 p = some q ∧ q.s.m = [] ∧ q.st = [] ∧ q.last < k ∧ (∀ t, t < k → q.s.f t = f t) ∧ (∀ t, k ≤ t → q.s.f t = []) ∧ q.s.c = p.s.c ∧ q.s.d = p.s.d ∧ q.s.b = p.s.b ∧ q.s.p = p.s.p := by
  intro k
  induction k with
  | zero => exact fun _ p h1 h2 h3 h4 => ⟨p, rfl, h1, h2, by omega, fun t ht => by omega, fun t _ => h4 t, rfl, rfl, rfl, rfl⟩
  | succ k ih =>
    intro hk p h1 h2 h3 h4
    obtain ⟨q, e, q1, q2, q3, q4, q5, g1, g2, g3, g4⟩ := ih (by omega) p h1 h2 h3 h4
    rw [List.range_succ, List.flatMap_append, linesP_app, e]
    simp only [Option.bind_some, List.flatMap_cons, List.flatMap_nil, List.append_nil]
    rw [linesP_rest _ _ _ (by omega)]
    unfold faultL
    split
    · rename_i hz
      refine ⟨q, rfl, q1, q2, by omega, fun t ht => ?_, fun t ht => q5 t (by omega), g1, g2, g3, g4⟩
      by_cases e : t = k
      · rw [e, hz]; exact q5 k (by omega)
      · exact q4 t (by omega)
    · rename_i hz
      have hw : splitL 32 (faultS ++ numsL (k :: f k)) = faultS :: (((k : Int) :: f k).map numL) := split_nums (by decide) _
      have hv : valsOf (((k : Int) :: f k).map numL) = some ((k : Int) :: f k) := valsOf_map (fun n hn => by
        rcases List.mem_cons.1 hn with rfl | hn
        · constructor <;> omega
        · exact hf k (by omega) n hn) (by simp)
      have hl : lineP 1 (faultS ++ numsL (k :: f k)) q = some { q with s := { q.s with f := updF25 q.s.f k (f k) }, last := k } := by
        unfold lineP restP faultP
        rw [if_neg Nat.one_ne_zero, hw, List.headD_cons, if_pos rfl, List.tail_cons, hv]
        simp only [q1, q2]
        rw [if_pos ⟨hz, by omega, by omega, trivial, trivial⟩]
        rfl
      simp only [linesP, hl]
      refine ⟨_, rfl, q1, q2, by simp only; omega, fun t ht => ?_, fun t ht => ?_, g1, g2, g3, g4⟩
      · simp only [updF25]
        split
        · rename_i e; rw [e]
        · exact q4 t (by omega)
      · simp only [updF25]
        rw [if_neg (by omega)]
        exact q5 t (by omega)
theorem steps_p : ∀ (l : List Stp) (p : PSt), (∀ x ∈ l, okL x = true ∧ x.rng) → linesP (l.map lineL) 1 p = some { p with st := p.st ++ l }
  | [], p, _ => by simp [linesP]
  | x :: l, p, h => by
    have hx := h x (by simp)
    have hk : kdL x < 11 := by have := hx.1; simp only [okL, Bool.and_eq_true, decide_eq_true_eq] at this; exact this.1
    have hh : (splitL 32 (lineL x)).headD [] = nmL (kdL x) := by unfold lineL; rw [split_spell]; rfl
    have n1 : nmL (kdL x) ≠ faultS := (by decide : ∀ j, j < 11 → nmL j ≠ faultS) _ hk
    have n2 : nmL (kdL x) ≠ markedS := (by decide : ∀ j, j < 11 → nmL j ≠ markedS) _ hk
    have hl : lineP 1 (lineL x) p = some { p with st := p.st ++ [x] } := by
      unfold lineP restP stepP
      rw [if_neg Nat.one_ne_zero, hh, if_neg n1, if_neg n2, stepOf_some ⟨hx.2, hx.1, rfl⟩]
    simp only [List.map_cons, linesP, hl]
    rw [linesP_rest _ _ _ (by omega), steps_p l _ (fun y hy => h y (by simp [hy]))]
    simp
theorem setupL_plain (s : Stu) : ∀ w ∈ setupL s, ∀ c ∈ w, c ≠ 10 := by
  have hn : ∀ l : List Int, ∀ c ∈ numsL l, c ≠ 10 := by
    intro l c hc
    simp only [numsL, List.mem_flatMap, List.mem_cons] at hc
    obtain ⟨v, _, rfl | h⟩ := hc
    · decide
    · exact (numL_plain v c h).2
  have hp : ∀ (n : List UInt8) (l : List Int), (∀ c ∈ n, c ≠ 10) → ∀ c ∈ n ++ numsL l, c ≠ 10 := by
    intro n l h c hc
    rcases List.mem_append.1 hc with hc | hc
    · exact h c hc
    · exact hn l c hc
  intro w hw
  unfold setupL at hw
  rcases List.mem_append.1 hw with hw | hw
  · rcases List.mem_append.1 hw with hw | hw
    · simp only [List.mem_singleton] at hw; subst hw; exact hp _ _ (by decide)
    · simp only [List.mem_flatMap] at hw
      obtain ⟨t, _, hw⟩ := hw
      unfold faultL at hw
      split at hw
      · simp at hw
      · simp only [List.mem_singleton] at hw; subst hw; exact hp _ _ (by decide)
  · split at hw
    · simp at hw
    · simp only [List.mem_singleton] at hw; subst hw; exact hp _ _ (by decide)
/-- What is printed is parsed. -/
theorem print_parse {s : Stu} {l : List Stp} (hs : s.rng) (hl : ∀ x ∈ l, okL x = true ∧ x.rng) (h : l.length ≤ 4096) : ∃ u, parseL (printL s l) = (u, l, 0) ∧ u.c = s.c ∧ u.d = s.d ∧ u.b = s.b ∧ u.p = s.p ∧ u.m = s.m ∧ ∀ t, t < 4 → u.f t = s.f t := by
  have hne : setupL s ++ l.map lineL ≠ [] := by simp [setupL]
  have hpl : ∀ w ∈ setupL s ++ l.map lineL, ∀ c ∈ w, c ≠ 10 := by
    intro w hw
    rcases List.mem_append.1 hw with hw | hw
    · exact setupL_plain s w hw
    · obtain ⟨x, _, rfl⟩ := List.mem_map.1 hw
      exact lineL_plain x
  obtain ⟨p0, hp0⟩ : ∃ p0 : PSt, p0 = { noPSt with s := { noStu with c := s.c, d := s.d, b := s.b, p := s.p } } := ⟨_, rfl⟩
  have h0 : lineP 0 (arrayS ++ numsL [s.c, s.d, s.b, s.p]) noPSt = some p0 := by
    unfold lineP headS
    rw [if_pos rfl, split_nums (by decide), List.tail_cons, valsOf_map (by
      intro n hn
      simp only [List.mem_cons, List.not_mem_nil, or_false] at hn
      rcases hn with rfl | rfl | rfl | rfl
      · exact hs.c
      · exact hs.d
      · exact hs.b
      · exact hs.p) (by simp), hp0]
    rfl
  obtain ⟨q, e, q1, q2, q3, q4, q5, g1, g2, g3, g4⟩ := faults_p s.f hs.f 4 (by omega) p0 (by rw [hp0]; rfl) (by rw [hp0]; rfl) (by rw [hp0]; show (-1 : Int) < 0; decide) (by rw [hp0]; intro t; rfl)
  obtain ⟨r, hr, r1, r2⟩ : ∃ r : PSt, linesP (if s.m = [] then [] else [markedS ++ numsL s.m]) 1 q = some r ∧ r = { q with s := { q.s with m := s.m } } ∧ True := by
    split
    · rename_i hm
      exact ⟨q, rfl, by rw [hm, ← q1], trivial⟩
    · rename_i hm
      have : lineP 1 (markedS ++ numsL s.m) q = some { q with s := { q.s with m := s.m } } := by
        unfold lineP restP markedP
        rw [if_neg Nat.one_ne_zero, split_nums (by decide), List.headD_cons, if_neg (by decide), if_pos rfl, List.tail_cons, valsOf_map hs.m hm]
        simp only [q1, q2]
        simp
      exact ⟨_, by simp only [linesP, this], rfl, trivial⟩
  have hall : parseE (printL s l) = some { r with st := l } := by
    unfold printL
    rw [parse_text hne hpl]
    unfold setupL
    rw [List.append_assoc, List.append_assoc, List.singleton_append]
    simp only [linesP, h0]
    rw [linesP_rest _ _ _ (by omega), linesP_app, e]
    simp only [Option.bind_some]
    rw [linesP_rest _ _ _ (by omega), linesP_app, hr]
    simp only [Option.bind_some]
    rw [linesP_rest _ _ _ (by omega), steps_p _ _ hl, r1]
    simp [q2]
  refine ⟨r.s, ?_, ?_, ?_, ?_, ?_, ?_, ?_⟩
  · unfold parseL
    rw [hall]
    simp only
    rw [if_neg (by omega)]
  · rw [r1]; simp only; rw [g1, hp0]
  · rw [r1]; simp only; rw [g2, hp0]
  · rw [r1]; simp only; rw [g3, hp0]
  · rw [r1]; simp only; rw [g4, hp0]
  · rw [r1]
  · intro t ht; rw [r1]; exact q4 t ht
theorem setupL_same {s u : Stu} (hc : u.c = s.c) (hd : u.d = s.d) (hb : u.b = s.b) (hp : u.p = s.p) (hm : u.m = s.m) (hf : ∀ t, t < 4 → u.f t = s.f t) : setupL u = setupL s := by
  unfold setupL
  rw [hc, hd, hb, hp, hm]
  have : (List.range 4).flatMap (faultL u.f) = (List.range 4).flatMap (faultL s.f) := by
    show [0, 1, 2, 3].flatMap (faultL u.f) = [0, 1, 2, 3].flatMap (faultL s.f)
    simp only [List.flatMap_cons, List.flatMap_nil, faultL, hf 0 (by omega), hf 1 (by omega), hf 2 (by omega), hf 3 (by omega)]
  rw [this]

end Go.Proofs.YtdaifepjmkmpjaaDoor

/-
  A row of the call's own that is cut at its head and appended to ('q = q[1:]', 'q = append(q, x)').
-/
namespace Go.Proofs.YtdaifepjmkmpjaaDoor
set_option linter.unusedVariables false
set_option linter.unusedSimpArgs false
set_option linter.unusedVariables false
set_option linter.unusedSimpArgs false
set_option maxRecDepth 100000
open Go.RowKit

/-- The slice v is n elements of the row that lies in a block of the call's own, at whatever offset. -/
def TailRow (w : World) (base : Nat) (e : TypeId) (size : Nat) (v : Value) (n : Nat) (xs : List Value) : Prop :=
  xs.length = n * size ∧
  ((v = .slice none 0 0 ∧ n = 0) ∨
   ∃ g off cap cur, v = .slice (some ⟨g, off, none⟩) n cap ∧ base ≤ g ∧ w.heap[g]? = some (.cells cur e (0, 0)) ∧ n ≤ cap ∧ cap ≤ maxLen ∧ off + cap * size ≤ cur.size ∧ (cur.toList.drop off).take (n * size) = xs)
section
variable {w w' : World} {base : Nat} {e : TypeId} {size : Nat} {v : Value} {n : Nat} {xs : List Value}
theorem TailRow.nil (w : World) (base : Nat) (e : TypeId) (size : Nat) : TailRow w base e size (.slice none 0 0) 0 [] := ⟨by simp, .inl ⟨rfl, rfl⟩⟩
theorem TailRow.of_owns (h : w.ownsRow base e size v n xs) : TailRow w base e size v n xs := by
  refine ⟨h.1, ?_⟩
  rcases h.2 with h2 | ⟨g, cap, cur, h1, h2, h3, h4, h5, h6, h7⟩
  · exact .inl h2
  · exact .inr ⟨g, 0, cap, cur, h1, h2, h3, h4, h5, by omega, by simpa using h7⟩
theorem TailRow.lt (h : TailRow w base e size v n xs) : ∀ k, v.ownBlock = some k → base ≤ k ∧ k < w.heap.size := by
  intro k hk
  rcases h.2 with ⟨rfl, _⟩ | ⟨g, off, cap, cur, rfl, h2, h3, _⟩
  · simp [Value.ownBlock] at hk
  · simp [Value.ownBlock] at hk
    subst hk
    exact ⟨h2, (Array.getElem?_eq_some_iff.1 h3).1⟩
theorem TailRow.kept {r : Option Nat} (h : TailRow w base e size v n xs) (hg : w.grownBy w' r) (hr : ∀ k, v.ownBlock = some k → some k ≠ r) : TailRow w' base e size v n xs := by
  refine ⟨h.1, ?_⟩
  rcases h.2 with h2 | ⟨g, off, cap, cur, rfl, h2, h3, h4⟩
  · exact .inl h2
  · exact .inr ⟨g, off, cap, cur, rfl, h2, (hg.block g (Array.getElem?_eq_some_iff.1 h3).1 (hr g rfl)).trans h3, h4⟩
theorem TailRow.le (h : TailRow w base e size v n xs) {base' : Nat} (hb : base' ≤ base) : TailRow w base' e size v n xs := by
  refine ⟨h.1, ?_⟩
  rcases h.2 with h2 | ⟨g, off, cap, cur, h1, h2, h3⟩
  · exact .inl h2
  · exact .inr ⟨g, off, cap, cur, h1, Nat.le_trans hb h2, h3⟩
/-- The shape: nil, or an address that is written out. -/
theorem TailRow.shape (h : TailRow w base e size v n xs) : (v = .slice none 0 0 ∧ n = 0) ∨ ∃ g off cap, v = .slice (some ⟨g, off, none⟩) n cap ∧ n ≤ cap ∧ cap ≤ maxLen ∧ g < w.heap.size ∧ base ≤ g ∧ ∀ j, j < n * size → w.cell? ⟨g, off + j, none⟩ = xs[j]? := by
  rcases h.2 with h2 | ⟨g, off, cap, cur, h1, h2, h3, h4, h5, h6, h7⟩
  · exact .inl h2
  · refine .inr ⟨g, off, cap, h1, h4, h5, (Array.getElem?_eq_some_iff.1 h3).1, h2, fun j hj => ?_⟩
    rw [cell_of_row w g (off + j) cur e (0, 0) h3, ← h7, List.getElem?_take, if_pos hj, List.getElem?_drop, Array.getElem?_toList]
/-- The head is cut off. -/
theorem TailRow.cut {g off cap : Nat} (h : TailRow w base e size (.slice (some ⟨g, off, none⟩) (n + 1) cap) (n + 1) xs) : TailRow w base e size (.slice (if cap = 1 then some ⟨g, off, none⟩ else some ⟨g, off + size, none⟩) n (cap - 1)) n (xs.drop size) := by
  have hl := h.1
  rcases h.2 with ⟨h2, _⟩ | ⟨g', off', cap', cur, h1, h2, h3, h4, h5, h6, h7⟩
  · cases h2
  · simp only [Value.slice.injEq, Option.some.injEq, Addr.mk.injEq, true_and, and_true] at h1
    obtain ⟨⟨rfl, rfl⟩, rfl⟩ := h1
    refine ⟨by rw [List.length_drop, hl, Nat.add_mul]; omega, .inr ?_⟩
    have hx : (cur.toList.drop (off + size)).take (n * size) = xs.drop size := by
      rw [← h7, List.drop_take, List.drop_drop, Nat.add_mul]
      congr 1
      omega
    by_cases hc : cap = 1
    · rw [if_pos hc]
      subst hc
      obtain rfl : n = 0 := by omega
      exact ⟨g, off, 0, cur, rfl, h2, h3, by omega, by omega, by omega, by simpa using hx⟩
    · rw [if_neg hc]
      have hm : (cap - 1) * size + size = cap * size := by
        obtain ⟨c, rfl⟩ : ∃ c, cap = c + 1 := ⟨cap - 1, by omega⟩
        rw [Nat.add_sub_cancel, Nat.add_mul]; omega
      exact ⟨g, off + size, cap - 1, cur, rfl, h2, h3, by omega, by omega, by omega, hx⟩
end

/-- Cells that are set in a block that is known whole. -/
theorem setCells_block (b : Nat) (e : TypeId) : ∀ (vs : List Value) (o : Nat) (w : World) (cur : Array Value), w.heap[b]? = some (.cells cur e (0, 0)) → o + vs.length ≤ cur.size →
    ∃ cur', (w.setCells b o vs).heap[b]? = some (.cells cur' e (0, 0)) ∧ cur'.size = cur.size ∧ ∀ j, cur'[j]? = if o ≤ j ∧ j < o + vs.length then vs[j - o]? else cur[j]?
  | [], o, w, cur, h, _ => ⟨cur, h, rfl, fun j => by rw [if_neg (by simp)]⟩
  | v :: r, o, w, cur, h, hl => by
    rw [List.length_cons] at hl
    have h1 := heap_setCell_same w b o cur e v h
    obtain ⟨cur', h2, h3, h4⟩ := setCells_block b e r (o + 1) _ _ h1 (by simp; omega)
    refine ⟨cur', h2, by simpa using h3, fun j => ?_⟩
    rw [h4 j, List.length_cons]
    by_cases e1 : o + 1 ≤ j ∧ j < o + 1 + r.length
    · rw [if_pos e1, if_pos (by omega), show j - o = (j - (o + 1)) + 1 by omega, List.getElem?_cons_succ]
    · rw [if_neg e1]
      by_cases e2 : j = o
      · subst e2
        rw [if_pos (by omega), Nat.sub_self, Array.getElem?_setIfInBounds_self_of_lt (by omega)]
        rfl
      · rw [if_neg (by omega), Array.getElem?_setIfInBounds_ne (by omega)]
theorem setCells_grown (b : Nat) : ∀ (vs : List Value) (o : Nat) (w : World), w.grownBy (w.setCells b o vs) (some b)
  | [], _, w => ⟨rfl, rfl, rfl, Nat.le_refl _, fun _ _ _ => rfl⟩
  | v :: r, o, w => by
    have h := setCells_grown b r (o + 1) (w.setCell ⟨b, o, none⟩ v)
    have h1 : w.grownBy (w.setCell ⟨b, o, none⟩ v) (some b) := ⟨rfl, rfl, rfl, by simp, fun k _ hne => heap_setCell_other w ⟨b, o, none⟩ k v (fun e => hne (by rw [e]))⟩
    exact ⟨h.os.trans h1.os, h.tape.trans h1.tape, h.output.trans h1.output, Nat.le_trans h1.size h.size, fun k hk hne => (h.block k (Nat.lt_of_lt_of_le hk h1.size) hne).trans (h1.block k hk hne)⟩

/-- One element more. -/
theorem append_tail {P : Program} {w : World} {ops : Array Oper} {rest : List Oper} {o : Oper} {a : Act} {Q : Exit → Act → World → Prop} (hg : o.guard = none) (s x : Operand) (t : TypeId)
    (hop : o.op = Op.call { callee := Callee.builtin Builtin.append, args := #[s, x], argTypes := #[t, t] })
    (base : Nat) (e : TypeId) (i : TypeInfo) (z : Value) (size bytes : Nat) (h1 : P.underlying t = some (.slice e)) (h2 : P.info? e = some i) (h3 : i.zero = some z) (h4 : i.size = size) (h5 : i.bytes = bytes) (h6 : z.cells.size = size) (h7 : 0 < size)
    {v : Value} {n : Nat} {xs : List Value} (hs : a.eval s = v) (hown : TailRow w base e size v n xs) (ad : Addr) (c : Nat) (news : List Value) (hx : a.eval x = .slice (some ad) 1 c) (hn : news.length = size) (hc : ∀ j u, news[j]? = some u → w.cell? (ad.add j) = some u)
    (h1c : ∀ u ∈ news, u.oneCell' = true) (b1 : n + 1 ≤ maxLen) (b2 : (n + 1) * bytes ≤ 140737488355328) (hbase : base ≤ w.heap.size)
    (h : ∀ v' w', TailRow w' base e size v' (n + 1) (xs ++ news) → w.grownBy w' v.ownBlock → (∀ k, v'.ownBlock = some k → v.ownBlock = some k ∨ w.heap.size ≤ k) → wpList P ops Q rest (a.put o.dst v') w') : wpList P ops Q (o :: rest) a w := by
  rcases hown.2 with ⟨rfl, rfl⟩ | ⟨g, off, cap, cur, rfl, q1, q2, q3, q4, q5, q6⟩
  · have hxs : xs = [] := List.eq_nil_of_length_eq_zero (by simpa using hown.1)
    subst hxs
    refine wpList_append_grows w hg s x t hop e i z size bytes h1 h2 h3 h4 h5 h6 h7 none 0 0 [] hs (fun _ => ⟨rfl, rfl⟩) (by simp) (fun b hb => by cases hb) ad 1 c news hx (by omega) hc h1c (by decide) b1 b2 (fun v' w' ho hgr => ?_)
    exact h v' w' (TailRow.le (.of_owns ho) hbase) hgr (fun k hk => .inr (ho.lt k hk).1)
  · have hsz := hown.1
    have holds : ∀ j u, xs[j]? = some u → w.cell? ⟨g, off + j, none⟩ = some u := fun j u hj => by
      have hjl : j < n * size := by rw [← hsz]; exact (List.getElem?_eq_some_iff.1 hj).1
      rw [cell_of_row w g (off + j) cur e (0, 0) q2, ← hj, ← q6, List.getElem?_take, if_pos hjl, List.getElem?_drop, Array.getElem?_toList]
    have hspare : n + 1 ≤ cap → off + n * size + news.length ≤ cur.size := fun hr => by
      have hm : (n + 1) * size ≤ cap * size := Nat.mul_le_mul_right _ hr
      rw [Nat.add_mul] at hm
      omega
    refine wpList_append_arg w hg s x t hop e i z size bytes h1 h2 h3 h4 h5 h6 h7 g off n cap xs hs hsz holds ad 1 c news hx (by omega) hc h1c (fun hr j hj => ?_) b1 b2 (fun hr => ?_) (fun hr v' w' ho hgr => ?_)
    · have hlt : off + n * size + j < cur.size := by have := hspare hr; omega
      refine ⟨?_, frozen_of_row w g _ cur e q2⟩
      rw [cell_of_row w g _ cur e (0, 0) q2, Array.getElem?_eq_getElem hlt]
      rfl
    · obtain ⟨cur', r1, r2, r3⟩ := setCells_block g e news (off + n * size) w cur q2 (hspare hr)
      refine h _ _ ⟨by rw [List.length_append, hsz, hn, Nat.add_mul]; omega, .inr ⟨g, off, cap, cur', rfl, q1, r1, hr, q4, by omega, ?_⟩⟩ (setCells_grown g news _ w) (fun k hk => .inl hk)
      refine List.ext_getElem? fun j => ?_
      rw [List.getElem?_take, List.getElem?_drop, Array.getElem?_toList, r3]
      have hm : (n + 1) * size = n * size + size := by rw [Nat.add_mul]; omega
      by_cases hj : j < n * size
      · rw [if_pos (by omega), if_neg (by omega), List.getElem?_append_left (by omega), ← q6, List.getElem?_take, if_pos hj, List.getElem?_drop, Array.getElem?_toList]
      · by_cases hj2 : j < (n + 1) * size
        · rw [if_pos hj2, if_pos (by omega), List.getElem?_append_right (by omega), hsz]
          congr 1
          omega
        · rw [if_neg hj2, List.getElem?_eq_none (by rw [List.length_append]; omega)]
    · exact h v' w' (TailRow.le (.of_owns ho) hbase) ⟨hgr.os, hgr.tape, hgr.output, hgr.size, fun k hk _ => hgr.block k hk (by simp)⟩ (fun k hk => .inr (ho.lt k hk).1)

end Go.Proofs.YtdaifepjmkmpjaaDoor

/-
  A statement that draws its order, walked in ONE order: what only reads is taken as soon as it may come up (it yields the same in every later world), what acts is alone when it comes.
-/
namespace Go.Proofs.YtdaifepjmkmpjaaDoor
set_option linter.unusedVariables false
set_option linter.unusedSimpArgs false
set_option linter.unusedVariables false
set_option linter.unusedSimpArgs false
set_option maxRecDepth 100000
open Go.RowKit

/-- Behind one operation: whatever K asks; no other way out. -/
def OnlyK (K : Act → World → Prop) : Exit → Act → World → Prop
  | .normal, a, w => K a w
  | _, _, _ => False
/-- Behind one operation: K; other ways out as Q has them. -/
def ElseQ (K : Act → World → Prop) (Q : Exit → Act → World → Prop) : Exit → Act → World → Prop
  | .normal, a, w => K a w
  | e, a, w => Q e a w

def lenCap : Callee → Bool
  | .builtin .len => true
  | .builtin .cap => true
  | .builtin .min => true
  | .builtin .max => true
  | _ => false
/-- What only reads: its kind. -/
def readerOp : Op → Bool
  | .move _ => true
  | .assign _ => true
  | .pick _ _ _ => true
  | .load _ _ => true
  | .binOp _ _ _ _ _ => true
  | .unOp _ _ _ => true
  | .convert _ _ _ => true
  | .slice _ _ _ _ _ => true
  | .fieldAddr _ _ _ => true
  | .field _ _ _ => true
  | .indexAddr _ _ _ => true
  | .index _ _ _ => true
  | .extract _ _ => true
  | .build _ _ => true
  | .call c => lenCap c.callee
  | _ => false
/-- A nil check of a pointer that is none. -/
def nilGood (a : Act) : Op → Bool
  | .nilCheck x => match a.eval x with | .pointer (some _) => true | _ => false
  | _ => false

theorem value_of {s : Sem Value} {P : Program} {w w' : World} {n : Next} (hr : (do pure (Next.value (← s)) : Sem Next).run P w = .ok n w') : ∃ v, n = .value v := by
  rw [Sem.run_bind] at hr
  cases hs : s.run P w with
  | ok v w1 => rw [hs] at hr; simp [Sem.run_pure] at hr; exact ⟨v, hr.1.symm⟩
  | halt h w1 => rw [hs] at hr; simp at hr

theorem value_of' {s : Sem Value} {P : Program} {w w' : World} {n : Next} (hr : ((s.run P w).andThen fun a w' => Result.ok (Next.value a) w') = .ok n w') : ∃ v, n = .value v := by
  cases hs : s.run P w with
  | ok v w1 => rw [hs] at hr; simp at hr; exact ⟨v, hr.1.symm⟩
  | halt h w1 => rw [hs] at hr; simp at hr

theorem reader_value {a : Act} {o : Oper} (h : (readerOp o.op || nilGood a o.op) = true) {P : Program} {w w' : World} {n : Next} (hr : (execOp a.eval o).run P w = .ok n w') : ∃ v, n = .value v := by
  unfold execOp at hr
  cases ho : o.op with
  | nilCheck x =>
    rw [ho] at hr h
    simp only [readerOp, nilGood, Bool.false_or] at h
    split at h
    · rename_i ad hx
      simp only [hx, Sem.run_pure, Result.ok.injEq] at hr
      exact ⟨_, hr.1.symm⟩
    · cases h
  | call c =>
    rw [ho] at hr h
    simp only [readerOp, nilGood, Bool.or_false] at h
    unfold lenCap at h
    split at h
    · rename_i hc
      simp only [resolve, hc, Sem.run_bind, Sem.run_pure, Result.andThen_ok, invoke, builtin] at hr
      exact value_of' hr
    · rename_i hc
      simp only [resolve, hc, Sem.run_bind, Sem.run_pure, Result.andThen_ok, invoke, builtin] at hr
      exact value_of' hr
    · rename_i hc
      simp only [resolve, hc, Sem.run_bind, Sem.run_pure, Result.andThen_ok, invoke, builtin] at hr
      exact value_of' hr
    · rename_i hc
      simp only [resolve, hc, Sem.run_bind, Sem.run_pure, Result.andThen_ok, invoke, builtin] at hr
      exact value_of' hr
    · cases h
  | move x => rw [ho] at hr; simp [Sem.run_pure] at hr; exact ⟨_, hr.1.symm⟩
  | assign x => rw [ho] at hr; simp [Sem.run_pure] at hr; exact ⟨_, hr.1.symm⟩
  | pick c x y =>
    rw [ho] at hr
    simp only [Sem.run_bind] at hr
    cases hs : (asBool (a.eval c)).run P w with
    | ok b w1 => rw [hs] at hr; simp only [Result.andThen_ok, Sem.run_pure, Result.ok.injEq] at hr; exact ⟨_, hr.1.symm⟩
    | halt h w1 => rw [hs] at hr; simp at hr
  | load t x => rw [ho] at hr; exact value_of hr
  | binOp p t x y u => rw [ho] at hr; exact value_of hr
  | unOp p t x => rw [ho] at hr; exact value_of hr
  | convert p t x => rw [ho] at hr; exact value_of hr
  | slice t x lo hi mx => rw [ho] at hr; exact value_of hr
  | fieldAddr t x f => rw [ho] at hr; exact value_of hr
  | field t x f => rw [ho] at hr; exact value_of hr
  | indexAddr t x f => rw [ho] at hr; exact value_of hr
  | index t x f => rw [ho] at hr; exact value_of hr
  | extract t x => rw [ho] at hr; exact value_of hr
  | build t x => rw [ho] at hr; exact value_of hr
  | _ => rw [ho] at h; simp [readerOp, nilGood] at h

theorem put_inj {a : Act} {d : Tmp} (hd : d < a.tmps.size) {v u : Value} (h : a.put (some d) v = a.put (some d) u) : v = u := by
  have h1 : a.tmps.setIfInBounds d v = a.tmps.setIfInBounds d u := congrArg Act.tmps h
  have h2 : (a.tmps.setIfInBounds d v)[d]? = (a.tmps.setIfInBounds d u)[d]? := by rw [h1]
  simpa [Array.getElem?_setIfInBounds, hd] using h2

theorem reads_one {P : Program} {ops : Array Oper} {S : World → Prop} {o : Oper} {a a' : Act} {w : World}
    (hk : (!Region.wanted o (yielded ops a.tmps) || readerOp o.op || nilGood a o.op) = true) (hd : (o.dst.any fun d => decide (d < a.tmps.size)) = true) (hS : S w)
    (h : ∀ x, S x → ∀ K : Act → World → Prop, K a' x → wpList P ops (OnlyK K) [o] a x) : ∃ v, YieldsIf P ops S o v a ∧ a.put o.dst v = a' := by
  cases hdst : o.dst with
  | none => rw [hdst] at hd; cases hd
  | some d =>
    rw [hdst] at hd
    have hd' : d < a.tmps.size := by simpa using hd
    by_cases hw : Region.wanted o (yielded ops a.tmps) = true
    · have hk' : (readerOp o.op || nilGood a o.op) = true := by simpa [hw] using hk
      have one : ∀ x, S x → ∃ v, (execOp a.eval o).run P x = .ok (.value v) x ∧ a.put (some d) v = a' := by
        intro x hx
        have h1 := h x hx (fun a1 x1 => a1 = a' ∧ x1 = x) ⟨rfl, rfl⟩
        simp only [wpList, hw, if_true] at h1
        rcases h1 with h1 | ⟨_, _, _, h1⟩
        · unfold Oper.wp at h1
          cases hr : (execOp a.eval o).run P x with
          | ok n w1 =>
            obtain ⟨v, rfl⟩ := reader_value hk' hr
            rw [hr] at h1
            simp only [Oper.upon, OnlyK, hdst] at h1
            obtain ⟨h1, rfl⟩ := h1
            exact ⟨v, rfl, h1⟩
          | halt hh w1 =>
            rw [hr] at h1
            cases hh <;> simp only [Oper.upon, OnlyK] at h1
        · exact h1.elim
      obtain ⟨v, hv, hp⟩ := one w hS
      refine ⟨v, .inl ⟨hw, fun x hx => ?_⟩, hp⟩
      obtain ⟨u, hu, hq⟩ := one x hx
      rw [hu, put_inj hd' (hp.trans hq.symm)]
    · have hw' : Region.wanted o (yielded ops a.tmps) = false := by simpa using hw
      have h1 := h w hS (fun a1 x1 => a1 = a' ∧ x1 = w) ⟨rfl, rfl⟩
      simp only [wpList, hw', Bool.false_eq_true, if_false, OnlyK, hdst] at h1
      exact ⟨undef, .inr ⟨hw', rfl⟩, h1.1⟩

/-- One order of a region: (number, does it only read?). -/
def lineOk (md : Region.Mode) (ops : Array Oper) : Array Bool → List (Nat × Bool) → Bool
  | listed, [] => Region.ready md ops listed == []
  | listed, (i, true) :: r => Region.free md ops listed i && (Region.ready md ops listed).contains i && lineOk md ops (listed.setIfInBounds i true) r
  | listed, (i, false) :: r => Region.ready md ops listed == [i] && lineOk md ops (listed.setIfInBounds i true) r

/-- The region, in that order. -/
def wpLine (P : Program) (ops : Array Oper) (Q : Exit → Act → World → Prop) : (World → Prop) → List (Nat × Bool) → Act → World → Prop
  | _, [], a, w => Q .normal a w
  | S, (i, true) :: r, a, w => ∃ o v, ops[i]? = some o ∧ YieldsIf P ops S o v a ∧ wpLine P ops Q S r (a.put o.dst v) w
  | S, (i, false) :: r, a, w => wpOp P ops Q i (fun a' w' => ∃ S' : World → Prop, S' w' ∧ (∀ x, S' x → S x) ∧ wpLine P ops Q S' r a' w') a w

theorem wpAnyH_weaken {P : Program} {ops : Array Oper} {Q : Exit → Act → World → Prop} {md : Region.Mode} {S S' : World → Prop} (hs : ∀ x, S' x → S x) :
    ∀ (n : Nat) (listed : Array Bool) (a : Act) (w : World), wpAnyH P md ops Q S' n listed a w → wpAnyH P md ops Q S n listed a w
  | 0, _, _, _, h => h
  | n + 1, _, _, _, h => ⟨h.1, fun i hi => wpOp_mono (fun _ _ h' => ⟨hs _ h'.1, wpAnyH_weaken hs n _ _ _ h'.2⟩) (h.2 i hi)⟩

theorem wpLine_any {P : Program} {ops : Array Oper} {Q : Exit → Act → World → Prop} {md : Region.Mode} (hsel : Region.noSelect ops = true)
    (hQ : ∀ c a w d v, Q (.panic c) (a.put d v) w → Q (.panic c) a w) :
    ∀ (l : List (Nat × Bool)) (S : World → Prop) (listed : Array Bool) (a : Act) (w : World), lineOk md ops listed l = true → S w → wpLine P ops Q S l a w → wpAnyH P md ops Q S l.length listed a w
  | [], S, listed, a, w, hl, _, h => ⟨by simpa [lineOk] using hl, h⟩
  | (i, true) :: r, S, listed, a, w, hl, hS, h => by
    obtain ⟨o, v, ho, hy, h⟩ := h
    simp only [lineOk, Bool.and_eq_true] at hl
    exact wpAnyH_take ho hsel hl.1.1 hl.1.2 (fun c a w => hQ c a w _ _) hy hS (wpLine_any hsel hQ r S _ _ w hl.2 hS h)
  | (i, false) :: r, S, listed, a, w, hl, hS, h => by
    simp only [lineOk, Bool.and_eq_true, beq_iff_eq] at hl
    refine wpAnyH_all hl.1 (by simp) ?_
    intro j hj
    simp at hj
    subst hj
    exact wpOp_mono (fun a' w' ⟨S', hS', hsub, h'⟩ => ⟨hsub _ hS', wpAnyH_weaken hsub _ _ _ _ (wpLine_any hsel hQ r S' _ _ w' hl.2 hS' h')⟩) h

/-- The beginning. -/
theorem region_line {P : Program} {ops : Array Oper} {Q : Exit → Act → World → Prop} {id : Nat} {a : Act} {w : World} (l : List (Nat × Bool)) (S : World → Prop) (hm : P.follows .mixedOrders = true)
    (hc : (Region.noSelect ops && (l.length == ops.size) && lineOk .any ops (Array.replicate ops.size false) l) = true)
    (hQ : ∀ c a w d v, Q (.panic c) (a.put d v) w → Q (.panic c) a w) (hS : S w.drew)
    (h : wpLine P ops Q S l a w.drew) : (Code.region id ops true).wp P Q a w := by
  simp only [Bool.and_eq_true, beq_iff_eq] at hc
  refine wp_region_any hm (wpAny_of_held (S := S) _ _ _ _ ?_)
  rw [← hc.1.2]
  have := wpLine_any hc.1.1 hQ l S _ a w.drew hc.2 hS h
  rw [← hc.1.2] at this
  exact this

/-- What only reads: walked in whatever world meets S. -/
theorem line_read {P : Program} {ops : Array Oper} {Q : Exit → Act → World → Prop} {S : World → Prop} {i : Nat} {r : List (Nat × Bool)} {o : Oper} {a a' : Act} {w : World} (ho : ops[i]? = some o)
    (hk : (!Region.wanted o (yielded ops a.tmps) || readerOp o.op || nilGood a o.op) = true) (hd : (o.dst.any fun d => decide (d < a.tmps.size)) = true) (hS : S w)
    (h : ∀ x, S x → ∀ K : Act → World → Prop, K a' x → wpList P ops (OnlyK K) [o] a x) (hr : wpLine P ops Q S r a' w) : wpLine P ops Q S ((i, true) :: r) a w := by
  obtain ⟨v, hy, hp⟩ := reads_one hk hd hS h
  exact ⟨o, v, ho, hy, by rw [hp]; exact hr⟩

/-- What acts. -/
theorem line_act {P : Program} {ops : Array Oper} {Q : Exit → Act → World → Prop} {S : World → Prop} {i : Nat} {r : List (Nat × Bool)} {o : Oper} {a : Act} {w : World} (ho : ops[i]? = some o)
    (h : ∀ K : Act → World → Prop, (∀ a' w' (S' : World → Prop), S' w' → (∀ x, S' x → S x) → wpLine P ops Q S' r a' w' → K a' w') → wpList P ops (ElseQ K Q) [o] a w) : wpLine P ops Q S ((i, false) :: r) a w := by
  have h1 := h _ (fun a' w' S' h1 h2 h3 => (⟨S', h1, h2, h3⟩ : ∃ S' : World → Prop, S' w' ∧ (∀ x, S' x → S x) ∧ wpLine P ops Q S' r a' w'))
  show wpOp P ops Q i _ a w
  unfold wpOp
  simp only [ho]
  simp only [wpList] at h1
  split
  · rename_i hw
    rw [if_pos hw] at h1
    rcases h1 with h1 | ⟨h1, b, x, h2⟩
    · refine .inl ?_
      unfold Oper.wp at h1 ⊢
      generalize (execOp a.eval o).run P w = res at h1
      cases res with
      | ok n w1 =>
        cases n <;> first | exact h1 | exact Calls.mono h1 (fun e w2 he => by cases e <;> exact he) | exact Rows.mono h1 (fun _ _ he => he)
      | halt hh w1 => cases hh <;> exact h1
    · exact .inr ⟨h1, b, x, h2⟩
  · rename_i hw
    rw [if_neg hw] at h1
    exact h1

theorem line_end {P : Program} {ops : Array Oper} {Q : Exit → Act → World → Prop} {S : World → Prop} {a : Act} {w : World} (h : Q .normal a w) : wpLine P ops Q S [] a w := h

/-- Later worlds: there is more, what was there stands. -/
def Ext (w : World) : World → Prop := fun x => w.grownBy x none
theorem Ext.refl (w : World) : Ext w w := ⟨rfl, rfl, rfl, Nat.le_refl _, fun _ _ _ => rfl⟩
theorem Ext.drew (w : World) : Ext w w.drew := ⟨rfl, rfl, rfl, Nat.le_refl _, fun _ _ _ => rfl⟩
theorem Ext.next {w w1 : World} (h : w.grownBy w1 none) : ∀ x, Ext w1 x → Ext w x := fun _ hx =>
  ⟨hx.os.trans h.os, hx.tape.trans h.tape, hx.output.trans h.output, Nat.le_trans h.size hx.size, fun k hk hne => (hx.block k (Nat.lt_of_lt_of_le hk h.size) hne).trans (h.block k hk hne)⟩
theorem Ext.of_drew {w x : World} (h : Ext w.drew x) : Ext w x := ⟨h.os, h.tape, h.output, h.size, h.block⟩
theorem ext_trans {a b c : World} (h : Ext a b) (h2 : Ext b c) : Ext a c := Ext.next h c h2
theorem gb_drewN (w : World) (n : Nat) : w.grownBy (w.drewN n) none := ⟨rfl, rfl, rfl, Nat.le_refl _, fun _ _ _ => rfl⟩

end Go.Proofs.YtdaifepjmkmpjaaDoor

/-
  Bytes: how a slice of bytes reads (Bts), what a call makes (Made).
-/
namespace Go.Proofs.YtdaifepjmkmpjaaDoor
set_option linter.unusedVariables false
set_option linter.unusedSimpArgs false
set_option linter.unusedVariables false
set_option linter.unusedSimpArgs false
set_option maxRecDepth 100000
open Go.RowKit

/-- The slice value v reads as the bytes xs. -/
def Bts (w : World) (v : Value) (xs : List Int) : Prop :=
  (v = .slice none 0 0 ∧ xs = []) ∨ ∃ b off cap, v = .slice (some ⟨b, off, none⟩) xs.length cap ∧ xs.length ≤ cap ∧ ∀ i, i < xs.length → w.cell? ⟨b, off + i, none⟩ = some (.int .u8 (xs.getD i 0))

/-- A call returns a slice of bytes that is its own. -/
def Made (B : Nat) (w : World) (xs : List Int) (e : Ending) (w' : World) : Prop :=
  ∃ v', e = .returned v' ∧ w'.ownsRow B 5 1 v' xs.length (xs.map (Value.int .u8)) ∧ w.grownBy w' none

theorem Tryd.infoU8 : (Tryd.prog.info? 5).map (fun i => (i.zero, i.size, i.bytes)) = some (some (.int .u8 0), 1, 1) := by kernel_rfl

theorem bytes_new (w : World) (u : Value) (T : TypeId) : ∀ j v, [u][j]? = some v → (w.alloc (.cells #[u] T)).cell? ((⟨w.heap.size, 0, none⟩ : Addr).add j) = some v := by
  intro j v hj
  match j, hj with
  | 0, hj => simp at hj; subst hj; simp [Addr.add]

theorem cells_of {w : World} {b off : Nat} {xs : List Int} (hc : ∀ i, i < xs.length → w.cell? ⟨b, off + i, none⟩ = some (.int .u8 (xs.getD i 0))) :
    ∀ j u, (xs.map (Value.int .u8))[j]? = some u → w.cell? ((⟨b, off, none⟩ : Addr).add j) = some u := by
  intro j u hj
  rw [List.getElem?_map] at hj
  rw [addr_add]
  by_cases h : j < xs.length
  · rw [hc j h, ← hj]
    simp [List.getElem?_eq_getElem h, List.getD_eq_getElem?_getD]
  · rw [List.getElem?_eq_none (by omega)] at hj
    cases hj

theorem Tryd.eqNil22 (w : World) (a : Option Addr) (n c : Nat) : (binOp .eql 74 (.slice a n c) (.slice none 0 0)).run Tryd.prog w = .ok (.bool a.isNone) w := Lib.run_eql_slice_nil w 74 5 a n c 0 0 Tryd.underlying74
attribute [local go_sem] Tryd.eqNil22

theorem grown_trans {w w1 w2 : World} {r r2 : Option Nat} (h1 : w.grownBy w1 r) (h2 : w1.grownBy w2 r2) (h : ∀ k, r2 = some k → k < w.heap.size → some k = r) : w.grownBy w2 r :=
  ⟨h2.os.trans h1.os, h2.tape.trans h1.tape, h2.output.trans h1.output, Nat.le_trans h1.size h2.size, fun k hk hne =>
    (h2.block k (Nat.lt_of_lt_of_le hk h1.size) (fun e => hne (h k e.symm hk))).trans (h1.block k hk hne)⟩

theorem cell_past {w : World} {a : Addr} {v : Value} (h : w.cell? a = some v) (o : Obj) : (w.alloc o).cell? a = some v := by
  rw [World.cell?_alloc_old _ _ _ (Nat.ne_of_lt (World.block_lt_of_cell? w _ h))]
  exact h

theorem Bts.nil {w : World} {n cap : Nat} {xs : List Int} (h : Bts w (.slice none n cap) xs) : xs = [] := by
  rcases h with ⟨_, h2⟩ | ⟨b, off, c, h1, _⟩
  · exact h2
  · simp at h1

theorem Bts.cells {w : World} {a : Addr} {n cap : Nat} {xs : List Int} (h : Bts w (.slice (some a) n cap) xs) : ∀ j u, (xs.map (Value.int .u8))[j]? = some u → w.cell? (a.add j) = some u := by
  rcases h with ⟨h1, _⟩ | ⟨b, off, c, h1, _, h3⟩
  · simp at h1
  · simp at h1
    obtain ⟨rfl, _, _⟩ := h1
    exact cells_of h3

theorem ownsRow_le {w : World} {B B' : Nat} {e : TypeId} {size : Nat} {v : Value} {n : Nat} {xs : List Value} (h : w.ownsRow B e size v n xs) (hB : B' ≤ B) : w.ownsRow B' e size v n xs := by
  obtain ⟨h1, h2⟩ := h
  refine ⟨h1, ?_⟩
  rcases h2 with h2 | ⟨g, cap, cur, hv, hg, r⟩
  · exact Or.inl h2
  · exact Or.inr ⟨g, cap, cur, hv, Nat.le_trans hB hg, r⟩

theorem one_oneCell (k : IntKind) (n : Int) : ∀ u ∈ [Value.int k n], u.oneCell' = true := by
  intro u hu
  simp at hu
  subst hu
  rfl

theorem grown_alloc_size {w wr : World} (hgr : w.grownBy wr none) (o : Obj) : w.heap.size ≤ (wr.alloc o).heap.size := by
  have := hgr.size
  simp
  omega

theorem grown_alloc {w w1 : World} {r : Option Nat} (h : w.grownBy w1 r) (o : Obj) : w.grownBy (w1.alloc o) r :=
  grown_trans h (World.grownBy_alloc w1 o none) (fun k hk _ => by cases hk)

theorem grown_drew {w w1 : World} {r : Option Nat} (h : w.grownBy w1 r) : w.grownBy w1.drew r := ⟨h.os, h.tape, h.output, h.size, h.block⟩

theorem row_bts {w : World} {a : Option Addr} {len cap : Nat} {zs : List Int} (h : IsRow .u8 w a len cap zs) (hs : ∀ x, a = some x → x.spot = none ∧ x.block < w.heap.size) :
    len = (zs.take len).length ∧ Bts w (.slice a len cap) (zs.take len) ∧ (∀ n ∈ zs.take len, 0 ≤ n ∧ n < 256) ∧ (∀ k, (Value.slice a len cap).ownBlock = some k → k < w.heap.size) ∧ len ≤ maxLen := by
  rcases h with ⟨rfl, rfl, rfl, rfl⟩ | ⟨x, rfl, hl, hm, hz, hc, hw⟩
  · exact ⟨rfl, .inl ⟨rfl, rfl⟩, by simp, by simp [Value.ownBlock], Nat.zero_le _⟩
  · obtain ⟨hsp, hb⟩ := hs x rfl
    obtain ⟨b, off, sp⟩ := x
    simp only at hsp hb
    subst hsp
    have hlen : (zs.take len).length = len := by simp; omega
    refine ⟨hlen.symm, .inr ⟨b, off, cap, by rw [hlen], by omega, fun i hi => ?_⟩, fun n hn => ?_, fun k hk => ?_, by omega⟩
    · rw [hlen] at hi
      have := hc i (by omega)
      rw [addr_add] at this
      rw [this]
      simp [hi]
    · have := hw n (List.mem_of_mem_take hn)
      simp [Lit.wf, IntKind.min, IntKind.max, IntKind.bits, IntKind.signed] at this
      omega
    · simp [Value.ownBlock] at hk
      omega

end Go.Proofs.YtdaifepjmkmpjaaDoor
