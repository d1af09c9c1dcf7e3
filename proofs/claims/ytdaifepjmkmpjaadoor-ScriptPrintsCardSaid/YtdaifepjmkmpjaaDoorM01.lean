/-
  Texts put together: Row Rec ScA.
-/
import Derived.Test.YtdaifepjmkmpjaaDoorRows
import Derived.WalkKit
import Derived.ProofKit
import Derived.OpenShut
import Derived.Deep.Slices
import Derived.Deep.Fields
/-
  From what the rows hand over to what the walks take: slices of integers that came in.
-/
namespace Go.Proofs.YtdaifepjmkmpjaaDoor
set_option linter.unusedVariables false
set_option linter.unusedSimpArgs false
set_option linter.unusedVariables false
set_option linter.unusedSimpArgs false
set_option maxRecDepth 100000
open Go.RowKit

theorem addr_add (b off j : Nat) : (⟨b, off, none⟩ : Addr).add j = ⟨b, off + j, none⟩ := by
  unfold Addr.add
  split <;> simp_all

theorem slice_good {P : Program} {w : World} {base : Nat} {t e : TypeId} {x : Addr} {len cap : Nat} (ht : P.underlying t = some (.slice e)) (h : Value.okWide P w .any base t (.slice (some x) len cap)) : x.spot = none ∧ x.block < w.heap.size := by
  simp only [Value.okWide, ht, Cell.okWide, Cell.ok] at h
  obtain ⟨_, _, _, h1, row, cells, h2, _⟩ := h
  refine ⟨h1, ?_⟩
  unfold World.shape? at h2
  split at h2
  · rename_i hb
    exact (Array.getElem?_eq_some_iff.1 hb).1
  · cases h2

/-- What a slice of integers that came in is. -/
def IsRow (k : IntKind) (w : World) (a : Option Addr) (len cap : Nat) (zs : List Int) : Prop :=
  (a = none ∧ len = 0 ∧ cap = 0 ∧ zs = []) ∨
  ∃ x, a = some x ∧ len ≤ cap ∧ cap ≤ maxLen ∧ zs.length = cap ∧ (∀ i, i < zs.length → w.cell? (x.add i) = some (.int k (zs.getD i 0))) ∧ ∀ n ∈ zs, (Lit.int k n).wf = true

open Go.ChangeShapes Go.WideShapes in
theorem row_of {H : Type} {enc : TypeId × Value → H} {P : Program} {W : World} {base : Nat} {held : Bool} {t e : TypeId} {k : IntKind} {a : Option Addr} {len cap : Nat} {d : DataW H} {p : List MemPlace} (ht : P.underlying t = some (.slice e)) (he : P.underlying e = some (.int k)) (hc : P.cellsOf e = 1)
    (h : DataW.Trod enc P W base (fun _ => true) held t (.slice a len cap) d p) : ∃ zs, IsRow k W a len cap zs := by
  obtain ⟨fuel, hf⟩ := h
  rcases open_ints ht he hc hf with ⟨hcs, _⟩ | ⟨x, l, c, zs, hcs, _, hl, hm, hz, _, hcell, hwz⟩
  · simp [Value.cells] at hcs
    obtain ⟨rfl, rfl, rfl⟩ := hcs
    exact ⟨[], .inl ⟨rfl, rfl, rfl, rfl⟩⟩
  · simp [Value.cells] at hcs
    obtain ⟨rfl, rfl, rfl⟩ := hcs
    exact ⟨zs, .inr ⟨_, rfl, hl, hm, by simpa using hz, hcell, hwz⟩⟩

end Go.Proofs.YtdaifepjmkmpjaaDoor

/-
  Slices of small structs that came in (fields of one cell each: integers, bools, strings): their cells.
-/
namespace Go.Proofs.YtdaifepjmkmpjaaDoor
set_option linter.unusedVariables false
set_option linter.unusedSimpArgs false
set_option linter.unusedVariables false
set_option linter.unusedSimpArgs false
set_option maxRecDepth 100000
open Go.RowKit Go.ChangeShapes Go.WideShapes Go.Deep

/-- What a field may be: an integer of that kind; a bool (false); a string (true). -/
abbrev FK := IntKind ⊕ Bool
def FitsV : FK → Value → Prop
  | .inl k, v => ∃ n, v = .int k n ∧ (Lit.int k n).wf = true
  | .inr false, v => ∃ b, v = .bool b
  | .inr true, v => ∃ s : ByteArray, v = .string s ∧ s.size ≤ maxLen
def TypeFK (P : Program) (t : TypeId) : FK → Prop
  | .inl k => P.underlying t = some (.int k)
  | .inr false => P.underlying t = some .bool
  | .inr true => P.underlying t = some .string

/-- A slice of structs: nil, or its cells. -/
def IsRecs (ks : List FK) (w : World) (a : Option Addr) (len cap : Nat) : Prop :=
  (a = none ∧ len = 0 ∧ cap = 0) ∨
  ∃ x, a = some x ∧ len ≤ cap ∧ cap ≤ maxLen ∧ ∀ i, i < len → ∀ j k, ks[j]? = some k → ∃ v, w.cell? (x.add (i * ks.length + j)) = some v ∧ FitsV k v

section
variable {H : Type} {enc : TypeId × Value → H} {P : Program} {w : World} {base : Nat} {spare : Nat → Bool} {held : Bool}

theorem fits_of {t : TypeId} {k : FK} (hk : TypeFK P t k) {n : Nat} {v : Value} {y : DataW H × List MemPlace} (h : DataW.trod enc P w base spare held n t [v] = some y) : FitsV k v := by
  match k, hk with
  | .inl k, hk =>
    obtain ⟨m, h1, _, h2⟩ := DataW.trod_int hk h
    simp at h1
    exact ⟨m, h1, h2⟩
  | .inr false, hk =>
    obtain ⟨b, h1, _⟩ := DataW.trod_bool hk h
    simp at h1
    exact ⟨b, h1⟩
  | .inr true, hk =>
    obtain ⟨s, h1, _, h2⟩ := DataW.trod_string hk h
    simp at h1
    exact ⟨s, h1, h2⟩

theorem open_recs {t e : TypeId} {fs : Array Field} {ks : List FK} {a : Option Addr} {len cap : Nat} {fuel : Nat} {x : DataW H × List MemPlace} (ht : P.underlying t = some (.slice e)) (he : P.underlying e = some (.struct fs))
    (hone : oneCellFields P fs = true) (hC : P.cellsOf e = fs.size) (hl : ks.length = fs.size) (hks : ∀ (j : Nat) (k : FK), ks[j]? = some k → ∃ f : Field, fs[j]? = some f ∧ TypeFK P f.type k)
    (h : DataW.trod enc P w base spare held fuel t [.slice a len cap] = some x) : IsRecs ks w a len cap := by
  rcases open_slice ht h with ⟨h0, _⟩ | ⟨b, n, c, m, q, D, Pl, hcs, _, h1, h2, hm, _, hi⟩
  · simp at h0
    exact .inl h0
  · simp at hcs
    obtain ⟨rfl, rfl, rfl⟩ := hcs
    refine .inr ⟨b, rfl, h1, h2, fun i hin j k hj => ?_⟩
    have him : i < m := by rw [hm]; split <;> omega
    obtain ⟨cs, hc, hs⟩ := hi i him
    obtain ⟨f, hf, hk⟩ := hks j k hj
    obtain ⟨ho, h3⟩ := hone_of hone j f hf
    have hjl : j < fs.size := (Array.getElem?_eq_some_iff.1 hf).1
    obtain ⟨ys, q', _, _, hlen, hyl, hall⟩ := DataW.trod_struct he hs
    obtain ⟨_, hcl, hat⟩ := World.cells?_some hc
    have hfj := hall j f hf
    rw [ho, h3] at hfj
    have hjc : j < cs.length := by omega
    have hd : (cs.drop j).take 1 = [cs[j]] := by rw [List.drop_eq_getElem_cons hjc]; rfl
    rw [hd, List.getElem?_eq_getElem (by omega)] at hfj
    refine ⟨cs[j], ?_, fits_of hk hfj⟩
    have hcell := hat j (by omega)
    rw [Go.Deep.add_add] at hcell
    rw [hl, ← hC, hcell, List.getElem?_eq_getElem hjc]

/-- A struct by value whose fields are of one cell each. -/
theorem open_struct {r : Reach} {b0 : Nat} {t : TypeId} {fs : Array Field} {ks : List FK} {v : Value} {d : DataW H} {p : List MemPlace} (ht : P.underlying t = some (.struct fs)) (hone : oneCellFields P fs = true) (hC : P.cellsOf t = fs.size) (hl : ks.length = fs.size)
    (hks : ∀ (j : Nat) (k : FK), ks[j]? = some k → ∃ f : Field, fs[j]? = some f ∧ TypeFK P f.type k) (hv : Value.okWide P w r b0 t v) (h : DataW.Trod enc P w base spare held t v d p) :
    ∃ vs : List Value, v = .agg vs.toArray ∧ vs.length = ks.length ∧ ∀ (j : Nat) (k : FK), ks[j]? = some k → ∃ u, vs[j]? = some u ∧ FitsV k u := by
  obtain ⟨cs, rfl, hsz⟩ := okWide_struct ht hv
  obtain ⟨l⟩ := cs
  have hll : l.length = fs.size := by simpa using hsz.trans hC
  obtain ⟨fuel, hf⟩ := h
  obtain ⟨xs, n, _, hx, _, hlen, hg⟩ := DataW.trod_struct ht hf
  refine ⟨l, rfl, by omega, fun j k hj => ?_⟩
  obtain ⟨f, hfj, hk⟩ := hks j k hj
  obtain ⟨ho, h3⟩ := hone_of hone j f hfj
  have hjl : j < fs.size := (Array.getElem?_eq_some_iff.1 hfj).1
  have hgj := hg j f hfj
  have hjc : j < l.length := by omega
  have hd : (l.drop j).take 1 = [l[j]] := by rw [List.drop_eq_getElem_cons hjc]; rfl
  simp only [Value.cells, ho, h3] at hgj
  rw [hd, List.getElem?_eq_getElem (by omega)] at hgj
  exact ⟨l[j], List.getElem?_eq_getElem hjc, fits_of hk hgj⟩
end

theorem list1 {α : Type} {l : List α} (h : l.length = 1) : ∃ a, l = [a] := by match l, h with | [a], _ => exact ⟨a, rfl⟩
theorem list2 {α : Type} {l : List α} (h : l.length = 2) : ∃ a b, l = [a, b] := by match l, h with | [a, b], _ => exact ⟨a, b, rfl⟩
theorem list3 {α : Type} {l : List α} (h : l.length = 3) : ∃ a b c, l = [a, b, c] := by match l, h with | [a, b, c], _ => exact ⟨a, b, c, rfl⟩
theorem list4 {α : Type} {l : List α} (h : l.length = 4) : ∃ a b c d, l = [a, b, c, d] := by match l, h with | [a, b, c, d], _ => exact ⟨a, b, c, d, rfl⟩
theorem list5 {α : Type} {l : List α} (h : l.length = 5) : ∃ a b c d e, l = [a, b, c, d, e] := by match l, h with | [a, b, c, d, e], _ => exact ⟨a, b, c, d, e, rfl⟩
theorem list6 {α : Type} {l : List α} (h : l.length = 6) : ∃ a b c d e f, l = [a, b, c, d, e, f] := by match l, h with | [a, b, c, d, e, f], _ => exact ⟨a, b, c, d, e, f, rfl⟩
theorem list7 {α : Type} {l : List α} (h : l.length = 7) : ∃ a b c d e f g, l = [a, b, c, d, e, f, g] := by match l, h with | [a, b, c, d, e, f, g], _ => exact ⟨a, b, c, d, e, f, g, rfl⟩

end Go.Proofs.YtdaifepjmkmpjaaDoor

/-
  Layer 25, pure: numbers' and texts' words; words of a line; steps' lines, and what is read of them.
-/
namespace Go.Proofs.YtdaifepjmkmpjaaDoor
set_option linter.unusedVariables false
set_option linter.unusedSimpArgs false
set_option linter.unusedVariables false
set_option linter.unusedSimpArgs false
set_option maxRecDepth 100000

def digL (v : Nat) : List UInt8 := if v < 10 then [UInt8.ofNat (48 + v)] else digL (v / 10) ++ [UInt8.ofNat (48 + v % 10)]
termination_by v
decreasing_by omega
def numL (v : Int) : List UInt8 := if v < 0 then 45 :: digL v.natAbs else digL v.toNat
def hexB (n : Nat) : UInt8 := UInt8.ofNat (if n < 10 then 48 + n else 87 + n)
def hexL (s : List UInt8) : List UInt8 := s.flatMap fun c => [hexB (c.toNat / 16), hexB (c.toNat % 16)]
def txtL (s : List UInt8) : List UInt8 := if s = [] then [45] else hexL s
def numsL (l : List Int) : List UInt8 := l.flatMap fun v => 32 :: numL v

theorem digL_ne (v : Nat) : digL v ≠ [] := by
  rw [digL]; split <;> simp
theorem digL_dig (v : Nat) : ∀ c ∈ digL v, 48 ≤ c.toNat ∧ c.toNat ≤ 57 := by
  induction v using Nat.strongRecOn with
  | ind v ih =>
    rw [digL]
    split
    · intro c hc
      simp only [List.mem_singleton] at hc
      subst hc
      simp [UInt8.toNat_ofNat']; omega
    · intro c hc
      rcases List.mem_append.1 hc with h | h
      · exact ih (v / 10) (by omega) c h
      · simp only [List.mem_singleton] at h
        subst h
        simp [UInt8.toNat_ofNat']; omega
/-- the value of digits -/
def decL (l : List UInt8) : Nat := l.foldl (fun n c => n * 10 + (c.toNat - 48)) 0
theorem decL_digL (v : Nat) : decL (digL v) = v := by
  induction v using Nat.strongRecOn with
  | ind v ih =>
    rw [digL]
    split
    · simp [decL, UInt8.toNat_ofNat']; omega
    · have := ih (v / 10) (by omega)
      unfold decL at this ⊢
      rw [List.foldl_append, this]
      simp [UInt8.toNat_ofNat']; omega
theorem digL_inj {a b : Nat} (h : digL a = digL b) : a = b := by rw [← decL_digL a, h, decL_digL]
theorem numL_ne (v : Int) : numL v ≠ [] := by unfold numL; split <;> simp [digL_ne]
theorem numL_mem (v : Int) : ∀ c ∈ numL v, c.toNat = 45 ∨ 48 ≤ c.toNat ∧ c.toNat ≤ 57 := by
  unfold numL
  split
  · intro c hc
    rcases List.mem_cons.1 hc with rfl | h
    · left; rfl
    · exact .inr (digL_dig _ c h)
  · intro c hc
    exact .inr (digL_dig _ c hc)
theorem digL_head (v : Nat) : ∃ c r, digL v = c :: r ∧ c ≠ 45 := by
  cases h : digL v with
  | nil => exact absurd h (digL_ne v)
  | cons c r =>
    refine ⟨c, r, rfl, ?_⟩
    rintro rfl
    have := digL_dig v 45 (by rw [h]; simp)
    simp at this
theorem numL_inj {a b : Int} (h : numL a = numL b) : a = b := by
  unfold numL at h
  split at h <;> split at h
  · injection h with _ h; have := digL_inj h; omega
  · obtain ⟨c, r, e, hc⟩ := digL_head b.toNat
    rw [e] at h; injection h with h; exact absurd h.symm hc
  · obtain ⟨c, r, e, hc⟩ := digL_head a.toNat
    rw [e] at h; injection h with h; exact absurd h hc
  · have := digL_inj h; omega
theorem hexB_rng {n : Nat} (h : n < 16) : (48 ≤ (hexB n).toNat ∧ (hexB n).toNat ≤ 57) ∨ (97 ≤ (hexB n).toNat ∧ (hexB n).toNat ≤ 102) := by
  unfold hexB; split <;> simp [UInt8.toNat_ofNat'] <;> omega
theorem hexB_inj {a b : Nat} (ha : a < 16) (hb : b < 16) (h : hexB a = hexB b) : a = b := by
  unfold hexB at h
  have h2 := congrArg UInt8.toNat h
  rw [UInt8.toNat_ofNat', UInt8.toNat_ofNat'] at h2
  split at h2 <;> split at h2 <;> omega
theorem hexL_cons (c : UInt8) (s : List UInt8) : hexL (c :: s) = hexB (c.toNat / 16) :: hexB (c.toNat % 16) :: hexL s := rfl
theorem hexL_inj : ∀ {a b : List UInt8}, hexL a = hexL b → a = b
  | [], [], _ => rfl
  | [], c :: s, h => by simp [hexL] at h
  | c :: s, [], h => by simp [hexL] at h
  | c :: s, d :: t, h => by
    rw [hexL_cons, hexL_cons] at h
    injection h with h1 h
    injection h with h2 h
    have l1 := c.toNat_lt
    have l2 := d.toNat_lt
    have e1 := hexB_inj (by omega) (by omega) h1
    have e2 := hexB_inj (by omega) (by omega) h2
    rw [hexL_inj h, UInt8.toNat_inj.1 (show c.toNat = d.toNat by omega)]
theorem hexL_mem {s : List UInt8} : ∀ c ∈ hexL s, (48 ≤ c.toNat ∧ c.toNat ≤ 57) ∨ (97 ≤ c.toNat ∧ c.toNat ≤ 102) := by
  intro c hc
  simp only [hexL, List.mem_flatMap, List.mem_cons, List.not_mem_nil, or_false] at hc
  obtain ⟨d, _, h⟩ := hc
  have := d.toNat_lt
  rcases h with rfl | rfl
  · exact hexB_rng (by omega)
  · exact hexB_rng (by omega)
theorem hexL_nil {s : List UInt8} (h : hexL s = []) : s = [] := by
  cases s with
  | nil => rfl
  | cons c s => rw [hexL_cons] at h; cases h
theorem txtL_mem {s : List UInt8} : ∀ c ∈ txtL s, c.toNat = 45 ∨ (48 ≤ c.toNat ∧ c.toNat ≤ 57) ∨ (97 ≤ c.toNat ∧ c.toNat ≤ 102) := by
  unfold txtL
  split
  · intro c hc; simp only [List.mem_singleton] at hc; subst hc; left; rfl
  · intro c hc; exact .inr (hexL_mem c hc)
theorem txtL_inj {a b : List UInt8} (h : txtL a = txtL b) : a = b := by
  unfold txtL at h
  split at h <;> split at h
  · simp_all
  · have := hexL_mem 45 (by rw [← h]; simp); simp at this
  · have := hexL_mem 45 (by rw [h]; simp); simp at this
  · exact hexL_inj h
theorem txtL_ne (s : List UInt8) : txtL s ≠ [] := by
  unfold txtL
  split
  · simp
  · rename_i h; exact fun e => h (hexL_nil e)

/-! ### words -/
def spS (b : UInt8) (out : List (List UInt8)) (c : UInt8) : List (List UInt8) := if c = b then out ++ [[]] else out.dropLast ++ [out.getLastD [] ++ [c]]
def splitL (b : UInt8) (l : List UInt8) : List (List UInt8) := l.foldl (spS b) [[]]
theorem splitL_snoc (b : UInt8) (l : List UInt8) (c : UInt8) : splitL b (l ++ [c]) = spS b (splitL b l) c := by simp [splitL, List.foldl_append]
theorem spS_word (b : UInt8) (w : List UInt8) : ∀ (out : List (List UInt8)) (x : List UInt8), (∀ c ∈ w, c ≠ b) → w.foldl (spS b) (out ++ [x]) = out ++ [x ++ w] := by
  induction w with
  | nil => intro out x _; simp
  | cons c w ih =>
    intro out x h
    have hc : c ≠ b := h c (by simp)
    have e : spS b (out ++ [x]) c = out ++ [x ++ [c]] := by
      unfold spS
      rw [if_neg hc]
      simp
    rw [List.foldl_cons, e, ih _ _ (fun d hd => h d (by simp [hd]))]
    simp
theorem spS_words (b : UInt8) (ws : List (List UInt8)) : ∀ (out : List (List UInt8)) (x : List UInt8), (∀ w ∈ ws, ∀ c ∈ w, c ≠ b) → (ws.flatMap fun w => b :: w).foldl (spS b) (out ++ [x]) = out ++ [x] ++ ws := by
  induction ws with
  | nil => intro out x _; simp
  | cons w ws ih =>
    intro out x h
    have e : spS b (out ++ [x]) b = (out ++ [x]) ++ [[]] := by unfold spS; rw [if_pos rfl]
    rw [List.flatMap_cons, List.cons_append, List.foldl_cons, e, List.foldl_append, spS_word b w _ _ (h w (by simp)), List.nil_append, ih _ _ (fun v hv => h v (by simp [hv]))]
    simp
theorem splitL_words {b : UInt8} {n : List UInt8} {ws : List (List UInt8)} (h0 : ∀ c ∈ n, c ≠ b) (h : ∀ w ∈ ws, ∀ c ∈ w, c ≠ b) : splitL b (n ++ ws.flatMap fun w => b :: w) = n :: ws := by
  unfold splitL
  rw [List.foldl_append]
  have e := spS_word b n [] [] h0
  rw [List.nil_append] at e
  rw [e, spS_words b ws [] _ h]
  simp
theorem splitL_ne (b : UInt8) (l : List UInt8) : splitL b l ≠ [] := by
  suffices h : ∀ (l : List UInt8) (out : List (List UInt8)), out ≠ [] → l.foldl (spS b) out ≠ [] from h l _ (by simp)
  intro l
  induction l with
  | nil => intro out h; exact h
  | cons c l ih => intro out h; exact ih _ (by unfold spS; split <;> simp)
theorem splitL_mem {b : UInt8} (l : List UInt8) : ∀ w ∈ splitL b l, w.length ≤ l.length := by
  suffices h : ∀ (l : List UInt8) (out : List (List UInt8)) (k : Nat), (∀ w ∈ out, w.length ≤ k) → ∀ w ∈ l.foldl (spS b) out, w.length ≤ k + l.length by
    intro w hw; have := h l _ 0 (by simp) w hw; omega
  intro l
  induction l with
  | nil => intro out k h w hw; exact h w hw
  | cons c l ih =>
    intro out k h w hw
    have := ih (spS b out c) (k + 1) (fun v hv => by
      unfold spS at hv
      split at hv
      · rcases List.mem_append.1 hv with hv | hv
        · have := h v hv; omega
        · simp at hv; subst hv; simp
      · rcases List.mem_append.1 hv with hv | hv
        · have := h v (List.dropLast_subset _ hv); omega
        · simp only [List.mem_singleton] at hv
          subst hv
          cases out with
          | nil => simp
          | cons o os =>
            have e : (o :: os).getLastD [] = (o :: os).getLast (by simp) := by rw [List.getLastD_eq_getLast?, List.getLast?_eq_some_getLast (by simp)]; rfl
            rw [e, List.length_append]
            have := h _ (List.getLast_mem (l := o :: os) (by simp))
            simp only [List.length_singleton]
            omega) w hw
    rw [List.length_cons]
    omega
theorem splitL_length {b : UInt8} (l : List UInt8) : (splitL b l).length ≤ l.length + 1 := by
  suffices h : ∀ (l : List UInt8) (out : List (List UInt8)), 1 ≤ out.length → (l.foldl (spS b) out).length ≤ out.length + l.length by
    have := h l [[]] (by simp); simp at this; unfold splitL; omega
  intro l
  induction l with
  | nil => intro out _; simp
  | cons c l ih =>
    intro out h
    rw [List.foldl_cons, List.length_cons]
    have hs : (spS b out c).length ≤ out.length + 1 ∧ 1 ≤ (spS b out c).length := by unfold spS; split <;> simp <;> omega
    have := ih (spS b out c) hs.2
    omega

/-! ### steps -/
structure Stp where
  k : Int
  t : Int
  o : Int
  a : Int
  b : Int
  op : Int
  pl : Int
  d : List UInt8
deriving DecidableEq
def i64B (n : Int) : Prop := -9223372036854775808 ≤ n ∧ n ≤ 9223372036854775807
structure Stp.rng (x : Stp) : Prop where
  k : i64B x.k
  t : i64B x.t
  o : i64B x.o
  a : i64B x.a
  b : i64B x.b
  op : i64B x.op
  pl : i64B x.pl
def noStp : Stp := ⟨0, 0, 0, 0, 0, 0, 0, []⟩
/-- Which line a step has. -/
def kdL (x : Stp) : Nat :=
  if x.k = 1 then 0 else if x.k = 2 then 1 else if x.k = 3 then 2 else if x.k = 4 then 3 else if x.k = 5 ∧ x.op = 1 then 4 else if x.k = 5 ∧ x.op = 2 then 5 else if x.k = 5 ∧ x.op = 3 then 6 else if x.k = 5 ∧ x.op = 4 then 7 else if x.k = 6 then 8 else if x.k = 7 then 9 else if x.k = 8 then 10 else 11
def nmL : Nat → List UInt8
  | 0 => [99, 114, 101, 97, 116, 101]
  | 1 => [114, 101, 115, 105, 122, 101]
  | 2 => [100, 101, 115, 116, 114, 111, 121]
  | 3 => [115, 119, 97, 112]
  | 4 => [114, 101, 97, 100]
  | 5 => [119, 114, 105, 116, 101]
  | 6 => [116, 114, 105, 109]
  | 7 => [102, 108, 117, 115, 104]
  | 8 => [115, 108, 111, 116, 115]
  | 9 => [99, 117, 116]
  | 10 => [109, 111, 117, 110, 116]
  | _ => []
def candL (j : Nat) (n1 n2 n3 : Int) (d : List UInt8) : Stp :=
  match j with
  | 0 => ⟨1, n1, 0, n2, n3, 0, 0, []⟩
  | 1 => ⟨2, n1, 0, n2, 0, 0, 0, []⟩
  | 2 => ⟨3, n1, 0, 0, 0, 0, 0, []⟩
  | 3 => ⟨4, n1, n2, 0, 0, 0, 0, []⟩
  | 4 => ⟨5, n1, 0, 0, 0, 1, n2, []⟩
  | 5 => ⟨5, n1, 0, 0, 0, 2, n2, d⟩
  | 6 => ⟨5, n1, 0, 0, 0, 3, n2, []⟩
  | 7 => ⟨5, n1, 0, 0, 0, 4, 0, []⟩
  | 8 => ⟨6, 0, 0, n1, 0, 0, 0, []⟩
  | 9 => ⟨7, 0, 0, n1, n2, 0, 0, []⟩
  | 10 => ⟨8, 0, 0, n1, 0, 0, 0, []⟩
  | _ => noStp
def wordsL (j : Nat) (x : Stp) : List (List UInt8) :=
  match j with
  | 0 => [numL x.t, numL x.a, numL x.b]
  | 1 => [numL x.t, numL x.a]
  | 2 => [numL x.t]
  | 3 => [numL x.t, numL x.o]
  | 4 => [numL x.t, numL x.pl]
  | 5 => [numL x.t, numL x.pl, txtL x.d]
  | 6 => [numL x.t, numL x.pl]
  | 7 => [numL x.t]
  | 8 => [numL x.a]
  | 9 => [numL x.a, numL x.b]
  | 10 => [numL x.a]
  | _ => []
/-- What a step's line tells of it. -/
def wantL (j : Nat) (x : Stp) : Stp :=
  match j with
  | 0 => ⟨x.k, x.t, 0, x.a, x.b, 0, 0, []⟩
  | 1 => ⟨x.k, x.t, 0, x.a, 0, 0, 0, []⟩
  | 2 => ⟨x.k, x.t, 0, 0, 0, 0, 0, []⟩
  | 3 => ⟨x.k, x.t, x.o, 0, 0, 0, 0, []⟩
  | 4 => ⟨x.k, x.t, 0, 0, 0, 1, x.pl, []⟩
  | 5 => ⟨x.k, x.t, 0, 0, 0, x.op, x.pl, x.d⟩
  | 6 => ⟨x.k, x.t, 0, 0, 0, 3, x.pl, []⟩
  | 7 => ⟨x.k, x.t, 0, 0, 0, 4, 0, []⟩
  | 8 => ⟨x.k, 0, 0, x.a, 0, 0, 0, []⟩
  | 9 => ⟨x.k, 0, 0, x.a, x.b, 0, 0, []⟩
  | 10 => ⟨x.k, 0, 0, x.a, 0, 0, 0, []⟩
  | _ => noStp
def spellL (j : Nat) (x : Stp) : List UInt8 := nmL j ++ (wordsL j x).flatMap fun w => 32 :: w
def okL (x : Stp) : Bool := decide (kdL x < 11) && decide (wantL (kdL x) x = x)
def lineL (x : Stp) : List UInt8 := spellL (kdL x) x
theorem nmL_inj : ∀ i, i < 11 → ∀ j, j < 11 → nmL i = nmL j → i = j := by decide
theorem nmL_mem (j : Nat) : ∀ c ∈ nmL j, c ≠ 32 ∧ c ≠ 10 := by
  by_cases h : j < 11
  · exact (by decide : ∀ j, j < 11 → ∀ c ∈ nmL j, c ≠ 32 ∧ c ≠ 10) j h
  · have : nmL j = [] := by
      match j, h with
      | 0, h | 1, h | 2, h | 3, h | 4, h | 5, h | 6, h | 7, h | 8, h | 9, h | 10, h => omega
      | j + 11, _ => rfl
    rw [this]; simp
def plainW (w : List UInt8) : Prop := ∀ c ∈ w, c ≠ 32 ∧ c ≠ 10
theorem numL_plain (v : Int) : plainW (numL v) := fun c hc => by
  have := numL_mem v c hc
  constructor <;> (rintro rfl; simp at this)
theorem txtL_plain (v : List UInt8) : plainW (txtL v) := fun c hc => by
  have := txtL_mem c hc
  constructor <;> (rintro rfl; simp at this)
theorem wordsL_plain (j : Nat) (x : Stp) : ∀ w ∈ wordsL j x, plainW w := by
  intro w hw
  unfold wordsL at hw
  split at hw <;> simp at hw
  all_goals
    first
    | (rcases hw with rfl | rfl | rfl <;> first | exact numL_plain _ | exact txtL_plain _)
    | (rcases hw with rfl | rfl <;> exact numL_plain _)
    | (subst hw; exact numL_plain _)
theorem split_spell (j : Nat) (x : Stp) : splitL 32 (spellL j x) = nmL j :: wordsL j x :=
  splitL_words (fun c hc => (nmL_mem j c hc).1) (fun w hw c hc => (wordsL_plain j x w hw c hc).1)
theorem kdL_cases (x : Stp) : (kdL x = 0 ∧ x.k = 1) ∨ (kdL x = 1 ∧ x.k = 2) ∨ (kdL x = 2 ∧ x.k = 3) ∨ (kdL x = 3 ∧ x.k = 4) ∨ (kdL x = 4 ∧ x.k = 5 ∧ x.op = 1) ∨ (kdL x = 5 ∧ x.k = 5 ∧ x.op = 2) ∨ (kdL x = 6 ∧ x.k = 5 ∧ x.op = 3) ∨ (kdL x = 7 ∧ x.k = 5 ∧ x.op = 4) ∨ (kdL x = 8 ∧ x.k = 6) ∨ (kdL x = 9 ∧ x.k = 7) ∨ (kdL x = 10 ∧ x.k = 8) ∨ (kdL x = 11 ∧ x.k ≠ 1 ∧ x.k ≠ 2 ∧ x.k ≠ 3 ∧ x.k ≠ 4 ∧ ¬ (x.k = 5 ∧ (x.op = 1 ∨ x.op = 2 ∨ x.op = 3 ∨ x.op = 4)) ∧ x.k ≠ 6 ∧ x.k ≠ 7 ∧ x.k ≠ 8) := by
  by_cases h0 : x.k = 1
  · exact .inl ⟨by unfold kdL; rw [if_pos h0], h0⟩
  by_cases h1 : x.k = 2
  · exact .inr (.inl ⟨by unfold kdL; rw [if_neg h0, if_pos h1], h1⟩)
  by_cases h2 : x.k = 3
  · exact .inr (.inr (.inl ⟨by unfold kdL; rw [if_neg h0, if_neg h1, if_pos h2], h2⟩))
  by_cases h3 : x.k = 4
  · exact .inr (.inr (.inr (.inl ⟨by unfold kdL; rw [if_neg h0, if_neg h1, if_neg h2, if_pos h3], h3⟩)))
  by_cases h4 : x.k = 5 ∧ x.op = 1
  · exact .inr (.inr (.inr (.inr (.inl ⟨by unfold kdL; rw [if_neg h0, if_neg h1, if_neg h2, if_neg h3, if_pos h4], h4.1, h4.2⟩))))
  by_cases h5 : x.k = 5 ∧ x.op = 2
  · exact .inr (.inr (.inr (.inr (.inr (.inl ⟨by unfold kdL; rw [if_neg h0, if_neg h1, if_neg h2, if_neg h3, if_neg h4, if_pos h5], h5.1, h5.2⟩)))))
  by_cases h6 : x.k = 5 ∧ x.op = 3
  · exact .inr (.inr (.inr (.inr (.inr (.inr (.inl ⟨by unfold kdL; rw [if_neg h0, if_neg h1, if_neg h2, if_neg h3, if_neg h4, if_neg h5, if_pos h6], h6.1, h6.2⟩))))))
  by_cases h7 : x.k = 5 ∧ x.op = 4
  · exact .inr (.inr (.inr (.inr (.inr (.inr (.inr (.inl ⟨by unfold kdL; rw [if_neg h0, if_neg h1, if_neg h2, if_neg h3, if_neg h4, if_neg h5, if_neg h6, if_pos h7], h7.1, h7.2⟩)))))))
  by_cases h8 : x.k = 6
  · exact .inr (.inr (.inr (.inr (.inr (.inr (.inr (.inr (.inl ⟨by unfold kdL; rw [if_neg h0, if_neg h1, if_neg h2, if_neg h3, if_neg h4, if_neg h5, if_neg h6, if_neg h7, if_pos h8], h8⟩))))))))
  by_cases h9 : x.k = 7
  · exact .inr (.inr (.inr (.inr (.inr (.inr (.inr (.inr (.inr (.inl ⟨by unfold kdL; rw [if_neg h0, if_neg h1, if_neg h2, if_neg h3, if_neg h4, if_neg h5, if_neg h6, if_neg h7, if_neg h8, if_pos h9], h9⟩)))))))))
  by_cases h10 : x.k = 8
  · exact .inr (.inr (.inr (.inr (.inr (.inr (.inr (.inr (.inr (.inr (.inl ⟨by unfold kdL; rw [if_neg h0, if_neg h1, if_neg h2, if_neg h3, if_neg h4, if_neg h5, if_neg h6, if_neg h7, if_neg h8, if_neg h9, if_pos h10], h10⟩))))))))))
  exact .inr (.inr (.inr (.inr (.inr (.inr (.inr (.inr (.inr (.inr (.inr (⟨by unfold kdL; rw [if_neg h0, if_neg h1, if_neg h2, if_neg h3, if_neg h4, if_neg h5, if_neg h6, if_neg h7, if_neg h8, if_neg h9, if_neg h10], h0, h1, h2, h3, by omega, h8, h9, h10⟩)))))))))))
/-- A step that can be written is told by its line's words. -/
theorem okL_cand {x : Stp} (h : okL x = true) : ∃ n1 n2 n3 d, x = candL (kdL x) n1 n2 n3 d ∧ (wordsL (kdL x) x)[0]? = some (numL n1) ∧ (∀ w, (wordsL (kdL x) x)[1]? = some w → w = numL n2) ∧ (∀ w, (wordsL (kdL x) x)[2]? = some w → kdL x = 0 → w = numL n3) ∧ (∀ w, (wordsL (kdL x) x)[2]? = some w → kdL x = 5 → w = txtL d) := by
  simp only [okL, Bool.and_eq_true, decide_eq_true_eq] at h
  obtain ⟨h1, h2⟩ := h
  have hc := kdL_cases x
  obtain ⟨k, t, o, a, b, op, pl, d⟩ := x
  simp only at hc
  rcases hc with ⟨e, rfl⟩ | ⟨e, rfl⟩ | ⟨e, rfl⟩ | ⟨e, rfl⟩ | ⟨e, rfl, rfl⟩ | ⟨e, rfl, rfl⟩ | ⟨e, rfl, rfl⟩ | ⟨e, rfl, rfl⟩ | ⟨e, rfl⟩ | ⟨e, rfl⟩ | ⟨e, rfl⟩ | ⟨e, _⟩ <;> rw [e] at h2 ⊢
  · simp only [wantL, Stp.mk.injEq] at h2; obtain ⟨-, -, rfl, -, -, rfl, rfl, rfl⟩ := h2; exact ⟨t, a, b, [], rfl, rfl, (fun w hw => by cases hw; rfl), (fun w hw _ => by cases hw; rfl), (fun w hw h => by cases h)⟩
  · simp only [wantL, Stp.mk.injEq] at h2; obtain ⟨-, -, rfl, -, rfl, rfl, rfl, rfl⟩ := h2; exact ⟨t, a, 0, [], rfl, rfl, (fun w hw => by cases hw; rfl), (fun w hw _ => by cases hw), (fun w hw h => by cases h)⟩
  · simp only [wantL, Stp.mk.injEq] at h2; obtain ⟨-, -, rfl, rfl, rfl, rfl, rfl, rfl⟩ := h2; exact ⟨t, 0, 0, [], rfl, rfl, (fun w hw => by cases hw), (fun w hw _ => by cases hw), (fun w hw h => by cases h)⟩
  · simp only [wantL, Stp.mk.injEq] at h2; obtain ⟨-, -, -, rfl, rfl, rfl, rfl, rfl⟩ := h2; exact ⟨t, o, 0, [], rfl, rfl, (fun w hw => by cases hw; rfl), (fun w hw _ => by cases hw), (fun w hw h => by cases h)⟩
  · simp only [wantL, Stp.mk.injEq] at h2; obtain ⟨-, -, rfl, rfl, rfl, -, -, rfl⟩ := h2; exact ⟨t, pl, 0, [], rfl, rfl, (fun w hw => by cases hw; rfl), (fun w hw _ => by cases hw), (fun w hw h => by cases h)⟩
  · simp only [wantL, Stp.mk.injEq] at h2; obtain ⟨-, -, rfl, rfl, rfl, -, -, -⟩ := h2; exact ⟨t, pl, 0, d, rfl, rfl, (fun w hw => by cases hw; rfl), (fun w hw h => by cases h), (fun w hw h => by cases hw; rfl)⟩
  · simp only [wantL, Stp.mk.injEq] at h2; obtain ⟨-, -, rfl, rfl, rfl, -, -, rfl⟩ := h2; exact ⟨t, pl, 0, [], rfl, rfl, (fun w hw => by cases hw; rfl), (fun w hw _ => by cases hw), (fun w hw h => by cases h)⟩
  · simp only [wantL, Stp.mk.injEq] at h2; obtain ⟨-, -, rfl, rfl, rfl, -, rfl, rfl⟩ := h2; exact ⟨t, 0, 0, [], rfl, rfl, (fun w hw => by cases hw), (fun w hw _ => by cases hw), (fun w hw h => by cases h)⟩
  · simp only [wantL, Stp.mk.injEq] at h2; obtain ⟨-, rfl, rfl, -, rfl, rfl, rfl, rfl⟩ := h2; exact ⟨a, 0, 0, [], rfl, rfl, (fun w hw => by cases hw), (fun w hw _ => by cases hw), (fun w hw h => by cases h)⟩
  · simp only [wantL, Stp.mk.injEq] at h2; obtain ⟨-, rfl, rfl, -, -, rfl, rfl, rfl⟩ := h2; exact ⟨a, b, 0, [], rfl, rfl, (fun w hw => by cases hw; rfl), (fun w hw _ => by cases hw), (fun w hw h => by cases h)⟩
  · simp only [wantL, Stp.mk.injEq] at h2; obtain ⟨-, rfl, rfl, -, rfl, rfl, rfl, rfl⟩ := h2; exact ⟨a, 0, 0, [], rfl, rfl, (fun w hw => by cases hw), (fun w hw _ => by cases hw), (fun w hw h => by cases h)⟩
  · omega
theorem kdL_cand {j : Nat} (h : j < 11) (n1 n2 n3 : Int) (d : List UInt8) : kdL (candL j n1 n2 n3 d) = j := by
  match j, h with
  | 0, _ | 1, _ | 2, _ | 3, _ | 4, _ | 5, _ | 6, _ | 7, _ | 8, _ | 9, _ | 10, _ => rfl
theorem want_cand {j : Nat} (h : j < 11) (n1 n2 n3 : Int) (d : List UInt8) : wantL j (candL j n1 n2 n3 d) = candL j n1 n2 n3 d := by
  match j, h with
  | 0, _ | 1, _ | 2, _ | 3, _ | 4, _ | 5, _ | 6, _ | 7, _ | 8, _ | 9, _ | 10, _ => rfl
theorem ok_cand {j : Nat} (h : j < 11) (n1 n2 n3 : Int) (d : List UInt8) : okL (candL j n1 n2 n3 d) = true := by
  simp [okL, kdL_cand h, want_cand h, h]
/-- A line tells one step. -/
theorem line_inj {x y : Stp} (hx : okL x = true) (hy : okL y = true) (h : lineL x = lineL y) : x = y := by
  have hs : splitL 32 (lineL x) = splitL 32 (lineL y) := by rw [h]
  unfold lineL at hs
  rw [split_spell, split_spell] at hs
  injection hs with h1 h2
  have lx : kdL x < 11 := by simp only [okL, Bool.and_eq_true, decide_eq_true_eq] at hx; exact hx.1
  have ly : kdL y < 11 := by simp only [okL, Bool.and_eq_true, decide_eq_true_eq] at hy; exact hy.1
  have hj := nmL_inj _ lx _ ly h1
  obtain ⟨n1, n2, n3, d, ex, a0, a1, a2, a3⟩ := okL_cand hx
  obtain ⟨m1, m2, m3, c, ey, b0, b1, b2, b3⟩ := okL_cand hy
  rw [h2] at a0 a1 a2 a3
  rw [ex, ey]
  rw [hj] at a2 a3 ⊢
  rw [b0] at a0
  injection a0 with a0
  have e1 := numL_inj a0
  generalize kdL y = j at *
  subst e1
  match j, ly with
  | 0, _ => rw [numL_inj ((a1 _ rfl).symm.trans (b1 _ rfl)), numL_inj ((a2 _ rfl rfl).symm.trans (b2 _ rfl rfl))]; rfl
  | 1, _ => rw [numL_inj ((a1 _ rfl).symm.trans (b1 _ rfl))]; rfl
  | 2, _ => rfl
  | 3, _ => rw [numL_inj ((a1 _ rfl).symm.trans (b1 _ rfl))]; rfl
  | 4, _ => rw [numL_inj ((a1 _ rfl).symm.trans (b1 _ rfl))]; rfl
  | 5, _ => rw [numL_inj ((a1 _ rfl).symm.trans (b1 _ rfl)), txtL_inj ((a3 _ rfl rfl).symm.trans (b3 _ rfl rfl))]; rfl
  | 6, _ => rw [numL_inj ((a1 _ rfl).symm.trans (b1 _ rfl))]; rfl
  | 7, _ => rfl
  | 8, _ => rfl
  | 9, _ => rw [numL_inj ((a1 _ rfl).symm.trans (b1 _ rfl))]; rfl
  | 10, _ => rfl
theorem lineL_plain (x : Stp) : ∀ c ∈ lineL x, c ≠ 10 := by
  intro c hc
  unfold lineL spellL at hc
  rcases List.mem_append.1 hc with h | h
  · exact (nmL_mem _ c h).2
  · simp only [List.mem_flatMap, List.mem_cons] at h
    obtain ⟨w, hw, h⟩ := h
    rcases h with rfl | h
    · decide
    · exact (wordsL_plain _ x w hw c h).2
/-- Which step a line tells. -/
def StepIs (l : List UInt8) (x : Stp) : Prop := x.rng ∧ okL x = true ∧ lineL x = l
theorem StepIs.one {l : List UInt8} {x y : Stp} (h : StepIs l x) (h2 : StepIs l y) : x = y := line_inj h.2.1 h2.2.1 (h.2.2.trans h2.2.2.symm)
open Classical in
noncomputable def stepOf (l : List UInt8) : Option Stp := if h : ∃ x, StepIs l x then some h.choose else none
theorem stepOf_some {l : List UInt8} {x : Stp} (h : StepIs l x) : stepOf l = some x := by
  have he : ∃ x, StepIs l x := ⟨x, h⟩
  unfold stepOf
  rw [dif_pos he, he.choose_spec.one h]
theorem stepOf_none {l : List UInt8} (h : ∀ x, ¬ StepIs l x) : stepOf l = none := by
  unfold stepOf
  rw [dif_neg (fun ⟨x, hx⟩ => h x hx)]
theorem stepOf_is {l : List UInt8} {x : Stp} (h : stepOf l = some x) : StepIs l x := by
  unfold stepOf at h
  split at h
  · rename_i he
    injection h with h
    rw [← h]; exact he.choose_spec
  · cases h
/-- Which number a word tells. -/
def ValIs (w : List UInt8) (n : Int) : Prop := i64B n ∧ w = numL n
open Classical in
noncomputable def valOf (w : List UInt8) : Option Int := if h : ∃ n, ValIs w n then some h.choose else none
theorem ValIs.one {w : List UInt8} {n m : Int} (h : ValIs w n) (h2 : ValIs w m) : n = m := numL_inj (h.2.symm.trans h2.2)
theorem valOf_some {w : List UInt8} {n : Int} (h : ValIs w n) : valOf w = some n := by
  have he : ∃ x, ValIs w x := ⟨n, h⟩
  unfold valOf
  rw [dif_pos he, he.choose_spec.one h]
theorem valOf_none {w : List UInt8} (h : ∀ x, ¬ ValIs w x) : valOf w = none := by
  unfold valOf
  rw [dif_neg (fun ⟨x, hx⟩ => h x hx)]
theorem valOf_is {w : List UInt8} {n : Int} (h : valOf w = some n) : ValIs w n := by
  unfold valOf at h
  split at h
  · rename_i he
    injection h with h
    rw [← h]; exact he.choose_spec
  · cases h
/-- What words tell: all numbers, at least one. -/
noncomputable def valsOf (ws : List (List UInt8)) : Option (List Int) := match ws.mapM valOf with
  | some v => if v = [] then none else some v
  | none => none

end Go.Proofs.YtdaifepjmkmpjaaDoor
