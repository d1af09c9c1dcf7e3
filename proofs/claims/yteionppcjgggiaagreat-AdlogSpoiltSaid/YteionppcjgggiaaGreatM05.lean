/-
  Texts put together: EV EW EX WB WC WD WE WF.
-/
import Derived.Test.YteionppcjgggiaaGreatM04
import Derived.Test.YteionppcjgggiaaGreatM02
import Derived.Test.YteionppcjgggiaaGreatM01
import Derived.Lib.AppendStr
/-
  Which ledger may be, in plain words; what changes make of one.
-/
namespace Go.Proofs.YteionppcjgggiaaGreat
set_option linter.unusedVariables false
set_option linter.unusedSimpArgs false
set_option maxRecDepth 100000
open Go.RowKit

def tenOk (x : Ten) (newest n p : Int) : Prop :=
  (x.th = true → 1 ≤ x.ep ∧ x.ep ≤ newest ∧ totS x.sz x.sp p ≠ 0 ∧ totS x.sz x.sp p ≤ x.bs.length ∧ (x.bs.length : Int) ≤ wrap64 (n - 2) ∧ ∀ b ∈ x.bs, 2 ≤ b ∧ b < n) ∧
  (x.th = false → x.ep = 0 ∧ x.sz = 0 ∧ x.sp = 0 ∧ x.bs = [])
structure RightP (L : Led) (n p : Int) : Prop where
  gen : 0 ≤ L.gen ∧ L.gen ≤ 2147483647
  eps : 0 ≤ L.eps ∧ L.eps ≤ 2147483647
  ten : ∀ j, j < 4 → tenOk (L.t j) L.eps n p
  blk : (takenL L).Nodup
  epo : (epochsL L).Nodup

theorem takenTo_sub (L : Led) : ∀ {k m : Nat}, k ≤ m → ∃ r, takenTo L m = takenTo L k ++ r
  | k, 0, h => ⟨[], by obtain rfl : k = 0 := (by omega); simp⟩
  | k, m + 1, h => by
    by_cases e : k = m + 1
    · subst e; exact ⟨[], by simp⟩
    · obtain ⟨r, hr⟩ := takenTo_sub L (k := k) (m := m) (by omega)
      exact ⟨r ++ (L.t m).bs, by simp [takenTo, hr]⟩
theorem epochsTo_sub (L : Led) : ∀ {k m : Nat}, k ≤ m → ∃ r, epochsTo L m = epochsTo L k ++ r
  | k, 0, h => ⟨[], by obtain rfl : k = 0 := (by omega); simp⟩
  | k, m + 1, h => by
    by_cases e : k = m + 1
    · subst e; exact ⟨[], by simp⟩
    · obtain ⟨r, hr⟩ := epochsTo_sub L (k := k) (m := m) (by omega)
      by_cases ht : (L.t m).th = true
      · exact ⟨r ++ [(L.t m).ep], by simp [epochsTo, ht, hr]⟩
      · exact ⟨r, by simp [epochsTo, ht, hr]⟩
theorem RightP.takenTo {L : Led} {n p : Int} (h : RightP L n p) {k : Nat} (hk : k ≤ 4) : (takenTo L k).Nodup := by
  obtain ⟨r, hr⟩ := takenTo_sub L hk
  have h1 : (Go.Proofs.YteionppcjgggiaaGreat.takenTo L 4).Nodup := h.blk
  rw [hr] at h1
  exact (List.nodup_append.1 h1).1
theorem RightP.epochsTo {L : Led} {n p : Int} (h : RightP L n p) {k : Nat} (hk : k ≤ 4) : (epochsTo L k).Nodup := by
  obtain ⟨r, hr⟩ := epochsTo_sub L hk
  have h1 : (Go.Proofs.YteionppcjgggiaaGreat.epochsTo L 4).Nodup := h.epo
  rw [hr] at h1
  exact (List.nodup_append.1 h1).1

/-- Numbers that stand once in each of the rows below k and in no two of them. -/
theorem taken_nodup {L : Led} : ∀ k, (takenTo L k).Nodup ↔ (∀ j, j < k → (L.t j).bs.Nodup) ∧ ∀ i j, i < j → j < k → ∀ b ∈ (L.t i).bs, b ∉ (L.t j).bs
  | 0 => by simp [takenTo]
  | k + 1 => by
    have mem : ∀ b, b ∈ takenTo L k ↔ ∃ i, i < k ∧ b ∈ (L.t i).bs := by
      intro b
      clear taken_nodup
      induction k with
      | zero => simp [takenTo]
      | succ k ih =>
        simp only [takenTo, List.mem_append, ih]
        constructor
        · rintro (⟨i, hi, hb⟩ | hb)
          · exact ⟨i, by omega, hb⟩
          · exact ⟨k, by omega, hb⟩
        · rintro ⟨i, hi, hb⟩
          by_cases e : i = k
          · subst e; exact .inr hb
          · exact .inl ⟨i, by omega, hb⟩
    simp only [takenTo, List.nodup_append, taken_nodup k]
    constructor
    · rintro ⟨⟨h1, h2⟩, h3, h4⟩
      refine ⟨fun j hj => ?_, fun i j hij hj b hb hb2 => ?_⟩
      · by_cases e : j = k
        · subst e; exact h3
        · exact h1 j (by omega)
      · by_cases e : j = k
        · subst e; exact h4 b ((mem b).2 ⟨i, hij, hb⟩) b hb2 rfl
        · exact h2 i j hij (by omega) b hb hb2
    · rintro ⟨h1, h2⟩
      refine ⟨⟨fun j hj => h1 j (by omega), fun i j hij hj => h2 i j hij (by omega)⟩, h1 k (by omega), fun a ha b hb e => ?_⟩
      subst e
      obtain ⟨i, hi, hai⟩ := (mem a).1 ha
      exact h2 i k hi (by omega) a hai hb
theorem taken_mem {L : Led} : ∀ (k : Nat) (b : Int), b ∈ takenTo L k ↔ ∃ i, i < k ∧ b ∈ (L.t i).bs
  | 0, b => by simp [takenTo]
  | k + 1, b => by
    simp only [takenTo, List.mem_append, taken_mem k b]
    constructor
    · rintro (⟨i, hi, hb⟩ | hb)
      · exact ⟨i, by omega, hb⟩
      · exact ⟨k, by omega, hb⟩
    · rintro ⟨i, hi, hb⟩
      by_cases e : i = k
      · subst e; exact .inr hb
      · exact .inl ⟨i, by omega, hb⟩
theorem epochs_mem {L : Led} : ∀ (k : Nat) (x : Int), x ∈ epochsTo L k ↔ ∃ i, i < k ∧ (L.t i).th = true ∧ (L.t i).ep = x
  | 0, x => by simp [epochsTo]
  | k + 1, x => by
    have ih := epochs_mem (L := L) k x
    unfold epochsTo
    by_cases ht : (L.t k).th = true
    · rw [if_pos ht, List.mem_append, ih]
      constructor
      · rintro (⟨i, hi, h⟩ | h)
        · exact ⟨i, by omega, h⟩
        · simp at h; exact ⟨k, by omega, ht, h.symm⟩
      · rintro ⟨i, hi, h⟩
        by_cases e : i = k
        · subst e; exact .inr (by simp [h.2])
        · exact .inl ⟨i, by omega, h⟩
    · rw [if_neg ht, ih]
      constructor
      · rintro ⟨i, hi, h⟩; exact ⟨i, by omega, h⟩
      · rintro ⟨i, hi, h⟩
        by_cases e : i = k
        · subst e; exact absurd h.1 ht
        · exact ⟨i, by omega, h⟩
theorem epochs_nodup {L : Led} : ∀ k, (epochsTo L k).Nodup ↔ ∀ i j, i < j → j < k → (L.t i).th = true → (L.t j).th = true → (L.t i).ep ≠ (L.t j).ep
  | 0 => by simp [epochsTo]
  | k + 1 => by
    have ih := epochs_nodup (L := L) k
    unfold epochsTo
    by_cases ht : (L.t k).th = true
    · rw [if_pos ht, List.nodup_append, ih]
      constructor
      · rintro ⟨h1, _, h3⟩ i j hij hj hi hjt
        by_cases e : j = k
        · subst e
          exact fun e2 => h3 _ ((epochs_mem j _).2 ⟨i, hij, hi, rfl⟩) _ (by simp) e2
        · exact h1 i j hij (by omega) hi hjt
      · intro h
        refine ⟨fun i j hij hj => h i j hij (by omega), by simp, fun a ha b hb e => ?_⟩
        simp at hb
        obtain ⟨i, hi, hit, rfl⟩ := (epochs_mem k a).1 ha
        exact h i k hi (by omega) hit ht (e.trans hb)
    · rw [if_neg ht, ih]
      constructor
      · intro h i j hij hj hi hjt
        by_cases e : j = k
        · subst e; exact absurd hjt ht
        · exact h i j hij (by omega) hi hjt
      · intro h i j hij hj
        exact h i j hij (by omega)

/-- May be, said of pairs. -/
theorem right_iff {L : Led} {n p : Int} : RightP L n p ↔ (0 ≤ L.gen ∧ L.gen ≤ 2147483647) ∧ (0 ≤ L.eps ∧ L.eps ≤ 2147483647) ∧ (∀ j, j < 4 → tenOk (L.t j) L.eps n p) ∧
    ((∀ j, j < 4 → (L.t j).bs.Nodup) ∧ ∀ i j, i < j → j < 4 → ∀ b ∈ (L.t i).bs, b ∉ (L.t j).bs) ∧ ∀ i j, i < j → j < 4 → (L.t i).th = true → (L.t j).th = true → (L.t i).ep ≠ (L.t j).ep :=
  ⟨fun h => ⟨h.gen, h.eps, h.ten, (taken_nodup 4).1 h.blk, (epochs_nodup 4).1 h.epo⟩, fun ⟨h1, h2, h3, h4, h5⟩ => ⟨h1, h2, h3, (taken_nodup 4).2 h4, (epochs_nodup 4).2 h5⟩⟩

theorem tenOk_more {x : Ten} {m m' n p : Int} (h : tenOk x m n p) (hm : m ≤ m') : tenOk x m' n p :=
  ⟨fun ht => by obtain ⟨h1, h2, h3⟩ := h.1 ht; exact ⟨h1, by omega, h3⟩, h.2⟩
theorem tenOk_no (m n p : Int) : tenOk noTen m n p := ⟨fun h => by simp [noTen] at h, fun _ => ⟨rfl, rfl, rfl, rfl⟩⟩

theorem inc_le {n : Int} (h0 : 0 ≤ n) (h1 : n ≤ 2147483647) (h2 : n ≠ 2147483647) : inc n = n + 1 ∧ 0 ≤ n + 1 ∧ n + 1 ≤ 2147483647 := by
  refine ⟨?_, by omega, by omega⟩
  unfold inc wrap64
  omega

/-- Without a tenant a ledger may be, still. -/
theorem right_destroy {L : Led} {n p t : Int} (h : RightP L n p) (hok : (destroyS L t).2 = 0) : RightP (destroyS L t).1 n p := by
  unfold destroyS at hok ⊢
  by_cases hm : missT L t = 0
  · rw [if_pos hm] at hok ⊢
    obtain ⟨k, rfl, hk, _⟩ := missT_ok hm
    simp only [Int.toNat_natCast] at hok ⊢
    unfold changedS at hok ⊢
    by_cases hg : L.gen = 2147483647
    · rw [if_pos hg] at hok; simp at hok
    · rw [if_neg hg]
      obtain ⟨hg0, he0, ht, ⟨hb1, hb2⟩, hep⟩ := right_iff.1 h
      obtain ⟨i1, i2, i3⟩ := inc_le hg0.1 hg0.2 hg
      have at_ : ∀ j, (updT (bump L) k noTen).t j = if j = k then noTen else L.t j := fun j => rfl
      refine right_iff.2 ⟨?_, he0, fun j hj => ?_, ⟨fun j hj => ?_, fun i j hij hj b hb => ?_⟩, fun i j hij hj hi hjt => ?_⟩
      · show 0 ≤ inc L.gen ∧ inc L.gen ≤ _
        rw [i1]; exact ⟨i2, i3⟩
      · rw [at_]; split
        · exact tenOk_no _ _ _
        · exact ht j hj
      · rw [at_]; split
        · simp [noTen]
        · exact hb1 j hj
      · rw [at_] at hb ⊢
        split at hb
        · simp [noTen] at hb
        · split
          · simp [noTen]
          · exact hb2 i j hij hj b hb
      · rw [at_] at hi hjt ⊢
        rw [at_]
        split at hi
        · simp [noTen] at hi
        · split at hjt
          · simp [noTen] at hjt
          · rename_i e1 e2
            rw [if_neg e1, if_neg e2]
            exact hep i j hij hj hi hjt
  · rw [if_neg hm] at hok
    exact absurd hok hm

theorem freeTo_mem {T : List Int} {k : Nat} {b : Int} : b ∈ freeTo T k ↔ (2 ≤ b ∧ b < 2 + k) ∧ b ∉ T := by
  unfold freeTo
  simp only [List.mem_filter, List.mem_map, List.mem_range, decide_eq_true_eq]
  constructor
  · rintro ⟨⟨i, hi, rfl⟩, h⟩
    exact ⟨⟨by omega, by omega⟩, h⟩
  · rintro ⟨⟨h1, h2⟩, h⟩
    exact ⟨⟨(b - 2).toNat, by omega, by omega⟩, h⟩
theorem freeTo_nodup (T : List Int) (k : Nat) : (freeTo T k).Nodup := by
  unfold freeTo
  refine List.Pairwise.filter _ ?_
  rw [List.pairwise_map]
  exact (List.nodup_range (n := k)).imp (fun h e => h (by omega))

theorem room_ok {s r : Int} (h : roomE s r = 0) : (1 ≤ s ∧ s ≤ 64) ∧ 0 ≤ r ∧ r ≤ 8 := by
  unfold roomE at h
  split at h
  · rename_i hh
    simp [inB] at hh
    exact hh
  · simp at h
theorem totS_ok {s r p : Int} (h : roomE s r = 0) (hp : 2 ≤ p ∧ p ≤ 16) : totS s r p = s / p + 2 + r ∧ 2 ≤ s / p + 2 + r := by
  obtain ⟨⟨s0, s1⟩, r0, r1⟩ := room_ok h
  have q0 : 0 ≤ s / p := Int.ediv_nonneg (by omega) (by omega)
  refine ⟨?_, by omega⟩
  unfold totS
  rw [if_pos (rightB_yes ⟨s0, s1, r0, r1, hp.1, hp.2⟩)]

/-- What Create needs, when it is told OK. -/
theorem create_ok {L : Led} {t s r : Int} {xs : List Int} (hok : (createS L t s r xs).2 = 0) :
    ∃ k : Nat, t = k ∧ k < 4 ∧ (L.t k).th = false ∧ roomE s r = 0 ∧ L.eps ≠ 2147483647 ∧ L.gen ≠ 2147483647 ∧ (createS L t s r xs).1 = createL (bump L) k s r xs := by
  unfold createS at hok ⊢
  by_cases ht : inB t 0 3 = true
  · rw [if_pos ht] at hok ⊢
    obtain ⟨k, rfl⟩ : ∃ k : Nat, t = k := ⟨t.toNat, by simp [inB] at ht; omega⟩
    have hk : k < 4 := by simp [inB] at ht; omega
    simp only [Int.toNat_natCast] at hok ⊢
    by_cases hth : (L.t k).th = true
    · rw [if_pos hth] at hok; simp at hok
    · rw [if_neg hth] at hok ⊢
      by_cases hr : roomE s r = 0
      · rw [if_pos hr] at hok ⊢
        by_cases he : L.eps = 2147483647
        · rw [if_pos he] at hok; simp at hok
        · rw [if_neg he] at hok ⊢
          unfold changedS at hok ⊢
          by_cases hg : L.gen = 2147483647
          · rw [if_pos hg] at hok; simp at hok
          · rw [if_neg hg]
            exact ⟨k, rfl, hk, by simpa using hth, hr, he, hg, rfl⟩
      · rw [if_neg hr] at hok
        exact absurd hok hr
  · rw [if_neg ht] at hok
    simp at hok

/-- With all free blocks a tenant may be, if they are enough. -/
theorem right_create {L : Led} {n p t s r : Int} (h : RightP L n p) (hp : 2 ≤ p ∧ p ≤ 16) (hn : n ≤ 64) (hok : (createS L t s r (freeL L n)).2 = 0) :
    RightP (createS L t s r (freeL L n)).1 n p ↔ s / p + 2 + r ≤ ((freeL L n).length : Int) := by
  obtain ⟨k, rfl, hk, hth, hroom, he, hg, hc⟩ := create_ok hok
  rw [hc]
  obtain ⟨hg0, he0, ht, ⟨hb1, hb2⟩, hep⟩ := right_iff.1 h
  obtain ⟨i1, i2, i3⟩ := inc_le hg0.1 hg0.2 hg
  obtain ⟨j1, j2, j3⟩ := inc_le he0.1 he0.2 he
  obtain ⟨tt, tt2⟩ := totS_ok hroom hp
  have at_ : ∀ j, (createL (bump L) k s r (freeL L n)).t j = if j = k then ⟨true, L.eps + 1, s, r, freeL L n⟩ else L.t j := fun j => by
    show (if j = k then (⟨true, inc L.eps, s, r, freeL L n⟩ : Ten) else L.t j) = _
    rw [j1]
  have heps : (createL (bump L) k s r (freeL L n)).eps = L.eps + 1 := j1
  have hfl : ((freeL L n).length : Int) ≤ ((n - 2).toNat : Int) := by
    have := freeTo_len (takenL L) (n - 2).toNat
    show ((freeTo (takenL L) (n - 2).toNat).length : Int) ≤ _
    omega
  have fm : ∀ b, b ∈ freeL L n → (2 ≤ b ∧ b < n) ∧ b ∉ takenL L := fun b hb => by
    obtain ⟨⟨h1, h2⟩, h3⟩ := freeTo_mem.1 hb
    exact ⟨⟨h1, by omega⟩, h3⟩
  constructor
  · intro hr
    have := (hr.ten k hk).1 (by rw [at_, if_pos rfl])
    rw [at_, if_pos rfl] at this
    have h4 := this.2.2.2.1
    rw [show totS s r p = s / p + 2 + r from tt] at h4
    exact h4
  · intro hlen
    refine right_iff.2 ⟨?_, ?_, fun j hj => ?_, ⟨fun j hj => ?_, fun i j hij hj b hb => ?_⟩, fun i j hij hj hi hjt => ?_⟩
    · show 0 ≤ inc L.gen ∧ inc L.gen ≤ _
      rw [i1]; exact ⟨i2, i3⟩
    · rw [heps]; exact ⟨j2, j3⟩
    · rw [at_, heps]
      split
      · refine ⟨fun _ => ⟨by show (1 : Int) ≤ L.eps + 1; omega, Int.le_refl _, ?_, ?_, ?_, fun b hb => (fm b hb).1⟩, fun h => by simp at h⟩
        · show totS s r p ≠ 0
          rw [tt]; omega
        · show totS s r p ≤ ((freeL L n).length : Int)
          rw [tt]; exact hlen
        · show ((freeL L n).length : Int) ≤ wrap64 (n - 2)
          unfold wrap64
          omega
      · exact tenOk_more (ht j hj) (by omega)
    · rw [at_]; split
      · exact freeTo_nodup _ _
      · exact hb1 j hj
    · rw [at_] at hb ⊢
      split at hb
      · rename_i e
        rw [if_neg (by omega)]
        intro hb2'
        exact (fm b hb).2 ((taken_mem 4 b).2 ⟨j, hj, hb2'⟩)
      · split
        · intro hb2'
          exact (fm b hb2').2 ((taken_mem 4 b).2 ⟨i, by omega, hb⟩)
        · exact hb2 i j hij hj b hb
    · rw [at_] at hi hjt ⊢
      rw [at_]
      by_cases e1 : i = k
      · rw [if_pos e1, if_neg (by omega)]
        rw [if_neg (by omega)] at hjt
        have := ((ht j hj).1 hjt).2.1
        show L.eps + 1 ≠ _
        omega
      · rw [if_neg e1] at hi ⊢
        by_cases e2 : j = k
        · rw [if_pos e2]
          have := ((ht i (by omega)).1 hi).2.1
          show _ ≠ L.eps + 1
          omega
        · rw [if_neg e2] at hjt ⊢
          exact hep i j hij hj hi hjt

theorem set_mem {xs : List Int} (hn : xs.Nodup) {i : Nat} (hi : i < xs.length) {y b : Int} (hb : b ∈ xs.set i y) : b = y ∨ (b ∈ xs ∧ b ≠ xs[i]) := by
  obtain ⟨m, hm, rfl⟩ := List.mem_iff_getElem.1 hb
  rw [List.length_set] at hm
  rw [List.getElem_set]
  split
  · exact .inl rfl
  · rename_i hne
    refine .inr ⟨List.getElem_mem hm, fun e => ?_⟩
    have hpw := List.pairwise_iff_getElem.1 hn
    rcases Nat.lt_or_gt_of_ne hne with h | h
    · exact hpw i m hi hm h e.symm
    · exact hpw m i hm hi h e
theorem set_nodup {xs : List Int} (hn : xs.Nodup) {i : Nat} {y : Int} (hy : y ∉ xs) : (xs.set i y).Nodup := by
  refine List.pairwise_iff_getElem.2 fun a b ha hb hab => ?_
  rw [List.length_set] at ha hb
  rw [List.getElem_set, List.getElem_set]
  have hpw := List.pairwise_iff_getElem.1 hn
  split
  · rw [if_neg (by omega)]
    exact fun e => hy (by rw [e]; exact List.getElem_mem hb)
  · split
    · exact fun e => hy (by rw [← e]; exact List.getElem_mem ha)
    · exact hpw a b ha hb hab

/-- Blocks that change places: a ledger may be, still. -/
theorem right_swap {L : Led} {n p a i b j : Int} (h : RightP L n p) (hok : (swapS L a i b j).2 = 0) : RightP (swapS L a i b j).1 n p := by
  unfold swapS at hok ⊢
  by_cases hA : missT L a = 0
  · rw [if_pos hA] at hok ⊢
    by_cases hB : missT L b = 0
    · rw [if_pos hB] at hok ⊢
      by_cases hab : a = b
      · rw [if_pos hab] at hok; simp at hok
      · rw [if_neg hab] at hok ⊢
        obtain ⟨ka, rfl, hka, hta⟩ := missT_ok hA
        obtain ⟨kb, rfl, hkb, htb⟩ := missT_ok hB
        simp only [Int.toNat_natCast] at hok ⊢
        by_cases hp : inB i 0 ((L.t ka).bs.length - 1) = true ∧ inB j 0 ((L.t kb).bs.length - 1) = true
        · rw [if_pos hp] at hok ⊢
          unfold changedS at hok ⊢
          by_cases hg : L.gen = 2147483647
          · rw [if_pos hg] at hok; simp at hok
          · rw [if_neg hg]
            obtain ⟨p1, p2⟩ := hp
            simp [inB] at p1 p2
            obtain ⟨i', rfl⟩ : ∃ i' : Nat, i = i' := ⟨i.toNat, by omega⟩
            obtain ⟨j', rfl⟩ : ∃ j' : Nat, j = j' := ⟨j.toNat, by omega⟩
            have hi : i' < (L.t ka).bs.length := by omega
            have hj : j' < (L.t kb).bs.length := by omega
            simp only [Int.toNat_natCast]
            have hne : ka ≠ kb := by omega
            obtain ⟨hg0, he0, ht, ⟨hb1, hb2⟩, hep⟩ := right_iff.1 h
            obtain ⟨i1, i2, i3⟩ := inc_le hg0.1 hg0.2 hg
            have sym : ∀ u v, u ≠ v → u < 4 → v < 4 → ∀ z ∈ (L.t u).bs, z ∉ (L.t v).bs := fun u v huv hu hv z hz hz2 => by
              rcases Nat.lt_or_gt_of_ne huv with h | h
              · exact hb2 u v h hv z hz hz2
              · exact hb2 v u h hu z hz2 hz
            have gx : (L.t ka).bs.getD i' 0 = (L.t ka).bs[i'] := by rw [List.getD_eq_getElem?_getD, List.getElem?_eq_getElem hi]; rfl
            have gy : (L.t kb).bs.getD j' 0 = (L.t kb).bs[j'] := by rw [List.getD_eq_getElem?_getD, List.getElem?_eq_getElem hj]; rfl
            have xm : (L.t ka).bs[i'] ∈ (L.t ka).bs := List.getElem_mem hi
            have ym : (L.t kb).bs[j'] ∈ (L.t kb).bs := List.getElem_mem hj
            have at_ : ∀ u, (swapL (bump L) ka i' kb j').t u = if u = kb then { L.t kb with bs := (L.t kb).bs.set j' ((L.t ka).bs[i']) } else if u = ka then { L.t ka with bs := (L.t ka).bs.set i' ((L.t kb).bs[j']) } else L.t u := fun u => by
              rw [← gx, ← gy]; rfl
            have bs_ : ∀ u, ((swapL (bump L) ka i' kb j').t u).bs = if u = kb then (L.t kb).bs.set j' ((L.t ka).bs[i']) else if u = ka then (L.t ka).bs.set i' ((L.t kb).bs[j']) else (L.t u).bs := fun u => by
              rw [at_]; split
              · rfl
              · split <;> rfl
            have th_ : ∀ u, ((swapL (bump L) ka i' kb j').t u).th = (L.t u).th ∧ ((swapL (bump L) ka i' kb j').t u).ep = (L.t u).ep ∧ ((swapL (bump L) ka i' kb j').t u).sz = (L.t u).sz ∧ ((swapL (bump L) ka i' kb j').t u).sp = (L.t u).sp := fun u => by
              rw [at_]; split
              · rename_i e; subst e; exact ⟨rfl, rfl, rfl, rfl⟩
              · split
                · rename_i e; subst e; exact ⟨rfl, rfl, rfl, rfl⟩
                · exact ⟨rfl, rfl, rfl, rfl⟩
            have len_ : ∀ u, ((swapL (bump L) ka i' kb j').t u).bs.length = (L.t u).bs.length := fun u => by
              rw [bs_]; split
              · rename_i e; subst e; simp
              · split
                · rename_i e; subst e; simp
                · rfl
            have mem_ : ∀ u z, z ∈ ((swapL (bump L) ka i' kb j').t u).bs → (u = kb ∧ (z = (L.t ka).bs[i'] ∨ (z ∈ (L.t kb).bs ∧ z ≠ (L.t kb).bs[j']))) ∨ (u = ka ∧ (z = (L.t kb).bs[j'] ∨ (z ∈ (L.t ka).bs ∧ z ≠ (L.t ka).bs[i']))) ∨ (u ≠ ka ∧ u ≠ kb ∧ z ∈ (L.t u).bs) := fun u z hz => by
              rw [bs_] at hz
              split at hz
              · rename_i e
                exact .inl ⟨e, set_mem (hb1 kb hkb) hj hz⟩
              · rename_i e
                split at hz
                · rename_i e2
                  exact .inr (.inl ⟨e2, set_mem (hb1 ka hka) hi hz⟩)
                · rename_i e2
                  exact .inr (.inr ⟨e2, e, hz⟩)
            have inn : ∀ u, u < 4 → ∀ z ∈ (L.t u).bs, 2 ≤ z ∧ z < n := fun u hu z hz => by
              by_cases hth : (L.t u).th = true
              · exact ((ht u hu).1 hth).2.2.2.2.2 z hz
              · rw [((ht u hu).2 (by simpa using hth)).2.2.2] at hz
                simp at hz
            refine right_iff.2 ⟨?_, he0, fun u hu => ?_, ⟨fun u hu => ?_, fun u v huv hv z hz hz2 => ?_⟩, fun u v huv hv hut hvt => ?_⟩
            · show 0 ≤ inc L.gen ∧ inc L.gen ≤ _
              rw [i1]; exact ⟨i2, i3⟩
            · obtain ⟨e1, e2, e3, e4⟩ := th_ u
              unfold tenOk
              rw [e1, e2, e3, e4, len_ u]
              refine ⟨fun hth => ?_, fun hth => ?_⟩
              · obtain ⟨q1, q2, q3, q4, q5, q6⟩ := (ht u hu).1 hth
                refine ⟨q1, q2, q3, q4, q5, fun z hz => ?_⟩
                rcases mem_ u z hz with ⟨rfl, rfl | ⟨hz, _⟩⟩ | ⟨rfl, rfl | ⟨hz, _⟩⟩ | ⟨_, _, hz⟩
                · exact inn ka hka _ xm
                · exact q6 z hz
                · exact inn kb hkb _ ym
                · exact q6 z hz
                · exact q6 z hz
              · obtain ⟨q1, q2, q3, q4⟩ := (ht u hu).2 hth
                exact ⟨q1, q2, q3, List.length_eq_zero_iff.1 (by rw [len_ u, q4]; rfl)⟩
            · rw [bs_]
              split
              · exact set_nodup (hb1 kb hkb) (fun hh => sym ka kb hne hka hkb _ xm hh)
              · split
                · exact set_nodup (hb1 ka hka) (fun hh => sym kb ka (Ne.symm hne) hkb hka _ ym hh)
                · exact hb1 u hu
            · have hu : u < 4 := by omega
              rcases mem_ u z hz with ⟨rfl, h1⟩ | ⟨rfl, h1⟩ | ⟨n1, n2, h1⟩ <;> rcases mem_ v z hz2 with ⟨rfl, h2⟩ | ⟨rfl, h2⟩ | ⟨m1, m2, h2⟩
              · omega
              · rcases h1 with rfl | ⟨h1, h1n⟩ <;> rcases h2 with h2 | ⟨h2, h2n⟩
                · exact sym _ _ hne hka hkb _ xm (by rw [h2]; exact ym)
                · exact h2n rfl
                · exact h1n h2
                · exact sym _ _ hne hka hkb _ h2 h1
              · rcases h1 with rfl | ⟨h1, _⟩
                · exact sym ka v (Ne.symm m1) hka hv _ xm h2
                · exact sym _ v (Ne.symm m2) hu hv _ h1 h2
              · rcases h1 with rfl | ⟨h1, h1n⟩ <;> rcases h2 with h2 | ⟨h2, h2n⟩
                · exact sym _ _ hne hka hkb _ xm (by rw [← h2]; exact ym)
                · exact h2n rfl
                · exact h1n h2
                · exact sym _ _ hne hka hkb _ h1 h2
              · omega
              · rcases h1 with rfl | ⟨h1, _⟩
                · exact sym kb v (Ne.symm m2) hkb hv _ ym h2
                · exact sym _ v (Ne.symm m1) hu hv _ h1 h2
              · rcases h2 with rfl | ⟨h2, _⟩
                · exact sym u ka n1 hu hka _ h1 xm
                · exact sym u _ n2 hu hv _ h1 h2
              · rcases h2 with rfl | ⟨h2, _⟩
                · exact sym u kb n2 hu hkb _ h1 ym
                · exact sym u _ n1 hu hv _ h1 h2
              · exact sym u v (by omega) hu hv _ h1 h2
            · rw [(th_ u).1] at hut
              rw [(th_ v).1] at hvt
              rw [(th_ u).2.1, (th_ v).2.1]
              exact hep u v huv hv hut hvt
        · rw [if_neg hp] at hok; simp at hok
    · rw [if_neg hB] at hok
      exact absurd hok hB
  · rw [if_neg hA] at hok
    exact absurd hok hA

end Go.Proofs.YteionppcjgggiaaGreat

/-
  The document's Has, Data, Total.
-/
namespace Go.Proofs.YteionppcjgggiaaGreat
set_option linter.unusedVariables false
set_option linter.unusedSimpArgs false
set_option maxRecDepth 100000
open Go.RowKit

theorem has10_any (v : Value) (xs : List Int) (n : Int) (w : World) (hb : Ints w v xs) (hm : xs.length ≤ 9223372036854775807) :
    Calls Tryz.prog 41 #[v, .int .i64 n] w fun e w' => e = .returned (.bool (decide (n ∈ xs))) ∧ w = w' := by
  obtain ⟨ao, cap, b, off, rfl, hc⟩ := hb.form
  have HC := Lib.hid hc
  clear hc hb
  go_enter Tryz.func41, Tryz.ntmps41
  go_wp2
  go_loopw [9] (fun i wr => ∃ k : Nat, k ≤ xs.length ∧ i = .int .i64 k ∧ (∀ j, j < k → xs.getD j 0 ≠ n) ∧ w = wr) (fun i _ => xs.length - (intOf i).toNat)
  case atStart => exact ⟨0, by omega, rfl, fun j hj => by omega, rfl⟩
  case round =>
    obtain ⟨k, hk, rfl, hnot, rfl⟩ := hrel
    have NOT := Lib.hid hnot
    clear hnot
    by_cases hlt : k < xs.length
    · obtain ⟨rfl, hcell⟩ := HC.out k hlt
      obtain ⟨x, hx⟩ : ∃ x, xs.getD k 0 = x := ⟨_, rfl⟩
      rw [hx] at hcell
      have HX := Lib.hid hx
      clear hx
      by_cases he : x = n
      · subst he
        go_wp2
        go_ret
        refine ⟨ret_bool ?_, rfl⟩
        have := HX.out
        rw [List.getD_eq_getElem?_getD, List.getElem?_eq_getElem hlt] at this
        simp only [Option.getD_some] at this
        have hmem : x ∈ xs := by rw [← this]; exact List.getElem_mem hlt
        simp [hmem]
      · have hne : (x == n) = false := by simpa using he
        clear he
        go_wp2
        go_roundw
        case rel =>
          refine ⟨k + 1, by omega, by go_num, fun j hj => ?_, trivial⟩
          by_cases e : j = k
          · subst e; rw [HX.out]; intro h; subst h; simp at hne
          · exact NOT.out j (by omega)
        case measure => simp [intOf]; omega
    · obtain rfl : k = xs.length := by omega
      go_wp2
      go_ret
      refine ⟨ret_bool ?_, rfl⟩
      have hno : n ∉ xs := fun hmem => by
        obtain ⟨j, hj, hjn⟩ := List.mem_iff_getElem.1 hmem
        refine NOT.out j hj ?_
        rw [List.getD_eq_getElem?_getD, List.getElem?_eq_getElem hj]
        exact hjn
      simp [hno]

theorem mul_bdE {k : Nat} {p : Int} (hk : k ≤ 64) (hp : 2 ≤ p ∧ p ≤ 16) : 0 ≤ ((k : Int) + 1) * p ∧ ((k : Int) + 1) * p ≤ 1040 := by
  constructor
  · exact Int.mul_nonneg (by omega) (by omega)
  · have := Int.mul_le_mul (a := (k : Int) + 1) (b := p) (c := 65) (d := 16) (by omega) (by omega) (by omega) (by omega)
    omega
theorem div_at {k : Nat} {s p : Int} (hp : 2 ≤ p) (h1 : (k : Int) * p ≤ s) (h2 : s < ((k : Int) + 1) * p) : s / p = k := by
  have e1 : (k : Int) ≤ s / p := (Int.le_ediv_iff_mul_le (by omega)).2 h1
  have e2 : s / p < (k : Int) + 1 := (Int.ediv_lt_iff_lt_mul (by omega)).2 h2
  omega
theorem mul_le_k {k : Nat} {s p : Int} (hp : 2 ≤ p) (hs : s ≤ 64) (h1 : (k : Int) * p ≤ s) : k ≤ 64 := by
  have := Int.mul_le_mul_of_nonneg_left hp (show 0 ≤ (k : Int) by omega)
  omega

set_option maxHeartbeats 800000 in
theorem data09_any (s p : Int) (w : World) (hs : 1 ≤ s ∧ s ≤ 64) (hp : 2 ≤ p ∧ p ≤ 16) :
    Calls Tryz.prog 60 #[.int .i64 s, .int .i64 p] w fun e w' => e = .returned (.int .i64 (s / p + 2)) ∧ w = w' := by
  have R := fun w => ref9Right_any s 0 p w
  rw [rightB_yes ⟨hs.1, hs.2, by decide, by decide, hp.1, hp.2⟩] at R
  go_enter Tryz.func60, Tryz.ntmps60
  go_wp2_with (go_at_call 59; refine (R _).mono ?_; rintro e w' ⟨rfl, rfl⟩)
  go_loopw [5] (fun i wr => ∃ k : Nat, (k : Int) * p ≤ s ∧ i = .int .i64 k ∧ w = wr) (fun i _ => 65 - (intOf i).toNat)
  case atStart => exact ⟨0, by simp; omega, rfl, rfl⟩
  case round =>
    obtain ⟨k, hk, rfl, rfl⟩ := hrel
    have h64 := mul_le_k hp.1 hs.2 hk
    obtain ⟨m0, m1⟩ := mul_bdE h64 hp
    by_cases h : ((k : Int) + 1) * p ≤ s
    · have HH := Lib.hid h
      have h65 := mul_le_k (k := k + 1) hp.1 hs.2 (by simpa using h)
      go_wp2
      go_roundw
      case rel => exact ⟨k + 1, by simpa using HH.out, by go_num, trivial⟩
      case measure => simp [intOf]; omega
    · have HD := Lib.hid (div_at hp.1 hk (by omega))
      go_wp2
      go_ret
      exact ⟨ret_int (by rw [HD.out]), rfl⟩

theorem total09_any (s r p : Int) (w : World) :
    Calls Tryz.prog 42 #[.int .i64 s, .int .i64 r, .int .i64 p] w fun e w' => e = .returned (.int .i64 (totS s r p)) ∧ w = w' := by
  have R := fun w => ref9Right_any s r p w
  unfold totS
  by_cases hv : rightB s r p = true
  · rw [if_pos hv]
    rw [hv] at R
    simp [rightB, inB] at hv
    obtain ⟨⟨⟨s0, s1⟩, r0, r1⟩, p0, p1⟩ := hv
    have D := fun w => data09_any s p w ⟨s0, s1⟩ ⟨p0, p1⟩
    have q0 : 0 ≤ s / p := Int.ediv_nonneg (by omega) (by omega)
    have q1 : s / p ≤ 64 := Int.le_trans (Int.ediv_le_self _ (by omega)) s1
    go_enter Tryz.func42, Tryz.ntmps42
    go_wp2_with (first
      | (go_at_call 59; refine (R _).mono ?_; rintro e w' ⟨rfl, rfl⟩)
      | (go_at_call 60; refine (D _).mono ?_; rintro e w' ⟨rfl, rfl⟩))
    go_ret
    exact ⟨rfl, rfl⟩
  · rw [if_neg hv]
    rw [Bool.not_eq_true] at hv
    rw [hv] at R
    clear hv
    go_enter Tryz.func42, Tryz.ntmps42
    go_wp2_with (go_at_call 59; refine (R _).mono ?_; rintro e w' ⟨rfl, rfl⟩)
    go_ret
    exact ⟨rfl, rfl⟩

end Go.Proofs.YteionppcjgggiaaGreat

/-
  The document's Right: what its rounds keep.
-/
namespace Go.Proofs.YteionppcjgggiaaGreat
set_option linter.unusedVariables false
set_option linter.unusedSimpArgs false
set_option maxRecDepth 100000
open Go.RowKit

def RightEnd (L : Led) (n p : Int) (w : World) (e : Ending) (w' : World) : Prop := ∃ b, e = .returned (.bool b) ∧ (b = true ↔ RightP L n p) ∧ Ext w w'
theorem rightEnd_no {L : Led} {n p : Int} {w w' : World} (h : ¬ RightP L n p) (hE : Ext w w') : RightEnd L n p w (.returned (.bool false)) w' :=
  ⟨false, rfl, ⟨fun e => Bool.noConfusion e, fun hR => (h hR).elim⟩, hE⟩
theorem rightEnd_yes {L : Led} {n p : Int} {w w' : World} (h : RightP L n p) (hE : Ext w w') : RightEnd L n p w (.returned (.bool true)) w' :=
  ⟨true, rfl, ⟨fun _ => h, fun _ => rfl⟩, hE⟩

/-- Two rows of the call's own, in blocks of their own. -/
structure Rows2 (B : Nat) (w : World) (v7 v8 : Value) (ts es : List Int) : Prop where
  own7 : OwnI B w v7 ts
  own8 : OwnI B w v8 es
  far : ∀ b, v7.ownBlock = some b → v8.ownBlock ≠ some b
theorem Rows2.ext {B : Nat} {w w' : World} {v7 v8 : Value} {ts es : List Int} (h : Rows2 B w v7 v8 ts es) (hg : Ext w w') : Rows2 B w' v7 v8 ts es :=
  ⟨own_kept h.own7 hg (by simp), own_kept h.own8 hg (by simp), h.far⟩
theorem Rows2.put7 {B : Nat} {w w' : World} {v7 v8 v' : Value} {ts es ts' : List Int} (h : Rows2 B w v7 v8 ts es) (ho : OwnI B w' v' ts') (hg : w.grownBy w' v7.ownBlock)
    (hw : v'.ownBlock = v7.ownBlock ∨ v'.ownBlock = some w.heap.size) : Rows2 B w' v' v8 ts' es := by
  refine ⟨ho, own_kept h.own8 hg (fun p hp e => h.far p e.symm hp), fun b hb h8 => ?_⟩
  rcases hw with hw | hw
  · exact h.far b (hw ▸ hb) h8
  · have := own_lt h.own8 b h8
    rw [hw] at hb
    injection hb with hb
    omega
theorem Rows2.put8 {B : Nat} {w w' : World} {v7 v8 v' : Value} {ts es es' : List Int} (h : Rows2 B w v7 v8 ts es) (ho : OwnI B w' v' es') (hg : w.grownBy w' v8.ownBlock)
    (hw : v'.ownBlock = v8.ownBlock ∨ v'.ownBlock = some w.heap.size) : Rows2 B w' v7 v' ts es' := by
  refine ⟨own_kept h.own7 hg (fun p hp e => h.far p hp e.symm), ho, fun b hb h8 => ?_⟩
  rcases hw with hw | hw
  · exact h.far b hb (hw ▸ h8)
  · have := own_lt h.own7 b hb
    rw [hw] at h8
    injection h8 with h8
    omega
theorem rows2_nil (w : World) : Rows2 w.heap.size w (.slice none 0 0) (.slice none 0 0) [] [] :=
  ⟨World.ownsRow_nil w _ _ _, World.ownsRow_nil w _ _ _, fun b hb => by simp [Value.ownBlock] at hb⟩

theorem no_ten {L : Led} {n p : Int} {k : Nat} (hk : k < 4) (h : ¬ tenOk (L.t k) L.eps n p) : ¬ RightP L n p := fun hR => h (hR.ten k hk)
theorem no_ep {L : Led} {n p : Int} {k : Nat} (hk : k < 4) (ht : (L.t k).th = true) (h : (L.t k).ep ∈ epochsTo L k) : ¬ RightP L n p := fun hR => by
  have h1 := hR.epochsTo (k := k + 1) (by omega)
  unfold Go.Proofs.YteionppcjgggiaaGreat.epochsTo at h1
  rw [if_pos ht, List.nodup_append] at h1
  exact h1.2.2 _ h _ (by simp) rfl
theorem no_blk {L : Led} {n p : Int} {k m : Nat} (hk : k < 4) (hm : m < (L.t k).bs.length) (h : (L.t k).bs.getD m 0 ∈ takenTo L k ++ (L.t k).bs.take m) : ¬ RightP L n p := fun hR => by
  have h1 := hR.takenTo (k := k + 1) (by omega)
  simp only [Go.Proofs.YteionppcjgggiaaGreat.takenTo] at h1
  rw [← List.take_append_drop (m + 1) (L.t k).bs, take_snocI hm, ← List.append_assoc, ← List.append_assoc] at h1
  have h2 := (List.nodup_append.1 h1).1
  exact (List.nodup_append.1 h2).2.2 _ h _ (by simp) rfl
theorem blk_more {L : Led} {k m : Nat} (hm : m < (L.t k).bs.length) (hn : (takenTo L k ++ (L.t k).bs.take m).Nodup) (h : (L.t k).bs.getD m 0 ∉ takenTo L k ++ (L.t k).bs.take m) :
    (takenTo L k ++ (L.t k).bs.take (m + 1)).Nodup := by
  rw [take_snocI hm, ← List.append_assoc]
  refine List.nodup_append.2 ⟨hn, by simp, fun a ha b hb e => ?_⟩
  simp only [List.mem_singleton] at hb
  subst hb
  subst e
  exact h ha

/-- What a round has found. -/
structure Upto (L : Led) (n p : Int) (k : Nat) : Prop where
  ten : ∀ j, j < k → tenOk (L.t j) L.eps n p
  blk : (takenTo L k).Nodup
  epo : (epochsTo L k).Nodup
theorem Upto.zero (L : Led) (n p : Int) : Upto L n p 0 := ⟨fun j hj => by omega, by simp [takenTo], by simp [epochsTo]⟩
theorem Upto.next_no {L : Led} {n p : Int} {k : Nat} (h : Upto L n p k) (hx : L.t k = ⟨false, 0, 0, 0, []⟩) : Upto L n p (k + 1) ∧ takenTo L (k + 1) = takenTo L k ∧ epochsTo L (k + 1) = epochsTo L k := by
  have e1 : takenTo L (k + 1) = takenTo L k := by simp [takenTo, hx]
  have e2 : epochsTo L (k + 1) = epochsTo L k := by simp [epochsTo, hx]
  refine ⟨⟨fun j hj => ?_, by rw [e1]; exact h.blk, by rw [e2]; exact h.epo⟩, e1, e2⟩
  by_cases e : j = k
  · subst e; rw [hx]; exact ⟨fun h => by simp at h, fun _ => ⟨rfl, rfl, rfl, rfl⟩⟩
  · exact h.ten j (by omega)
theorem Upto.next {L : Led} {n p : Int} {k : Nat} (h : Upto L n p k) (ht : (L.t k).th = true) (he : 1 ≤ (L.t k).ep ∧ (L.t k).ep ≤ L.eps) (hne : (L.t k).ep ∉ epochsTo L k)
    (h0 : totS (L.t k).sz (L.t k).sp p ≠ 0) (h1 : totS (L.t k).sz (L.t k).sp p ≤ (L.t k).bs.length) (h2 : ((L.t k).bs.length : Int) ≤ wrap64 (n - 2)) (hr : ∀ b ∈ (L.t k).bs, 2 ≤ b ∧ b < n)
    (hb : (takenTo L k ++ (L.t k).bs).Nodup) : Upto L n p (k + 1) := by
  refine ⟨fun j hj => ?_, hb, ?_⟩
  · by_cases e : j = k
    · subst e; exact ⟨fun _ => ⟨he.1, he.2, h0, h1, h2, hr⟩, fun h => by rw [ht] at h; cases h⟩
    · exact h.ten j (by omega)
  · unfold epochsTo
    rw [if_pos ht]
    refine List.nodup_append.2 ⟨h.epo, by simp, fun a ha b hb e => ?_⟩
    simp only [List.mem_singleton] at hb
    subst hb
    subst e
    exact hne ha
theorem epochsTo_next {L : Led} {k : Nat} (ht : (L.t k).th = true) : epochsTo L (k + 1) = epochsTo L k ++ [(L.t k).ep] := by
  rw [epochsTo, if_pos ht]
theorem getD_mem0 {xs : List Int} {q : Nat} (h : q < xs.length) : xs.getD q 0 ∈ xs := by
  rw [List.getD_eq_getElem?_getD, List.getElem?_eq_getElem h]
  exact List.getElem_mem h

end Go.Proofs.YteionppcjgggiaaGreat

/-
  bytes.Clone.
-/
namespace Go.Proofs.YteionppcjgggiaaGreat
set_option linter.unusedVariables false
set_option linter.unusedSimpArgs false
set_option maxRecDepth 100000
open Go.RowKit
attribute [local go_sem] Tryz.eqNil22

theorem clone_nil (w : World) : Calls Tryz.prog 24 #[.slice none 0 0] w (fun e w' => e = .returned (.slice none 0 0) ∧ w = w') := by
  go_enter Tryz.func24, Tryz.ntmps24
  go_wp2
  go_ret
  exact ⟨rfl, rfl⟩

set_option maxHeartbeats 400000 in
theorem clone_some (b off cap : Nat) (xs : List Int) (w : World) (hc : ∀ i, i < xs.length → w.cell? ⟨b, off + i, none⟩ = some (.int .u8 (xs.getD i 0))) (hm : xs.length ≤ 140737488351232) :
    Calls Tryz.prog 24 #[.slice (some ⟨b, off, none⟩) xs.length cap] w (Made w.heap.size w xs) := by
  obtain ⟨i0, hi, hz0, hz1, hz2⟩ := info_parts Tryz.infoU8
  have hown := World.ownsRow_made (base := w.heap.size) (e := 5) (size := 1) w #[] 0 (Nat.le_refl _) (Nat.zero_le _) rfl
  have hcs := cells_of hc
  go_enter Tryz.func24, Tryz.ntmps24
  go_wp2_with (at_builtin; go_loud (refine wpList_append_own _ rfl _ _ 37 rfl w.heap.size 5 i0 (.int .u8 0) 1 1 Tryz.underlying37 hi hz0 hz1 hz2 rfl (by decide) _ _ _ rfl hown ⟨b, off, none⟩ xs.length cap (xs.map (Value.int .u8)) rfl (by simp) ?c1 ?c2 ?c3 ?c4 ?c5 ?_))
  case c1 =>
    intro j u hj
    have := hcs j u hj
    rw [addr_add] at this ⊢
    rw [World.cell?_alloc_old _ _ _ (Nat.ne_of_lt (World.block_lt_of_cell? w _ this))]
    exact this
  case c2 => exact ints_oneCell _ _
  case c3 => unfold maxLen; omega
  case c4 => omega
  case c5 => simp
  · intro v' w1 hown' hgrow _
    go_wp2
    go_ret
    refine ⟨v', rfl, ?_, ?_⟩
    · simpa using hown'
    · exact grown_trans (World.grownBy_alloc w _ none) hgrow (fun k hk h => by simp [Value.ownBlock] at hk; omega)

end Go.Proofs.YteionppcjgggiaaGreat

/-
  word.Put: any number's bytes behind any others.
-/
namespace Go.Proofs.YteionppcjgggiaaGreat
set_option linter.unusedVariables false
set_option linter.unusedSimpArgs false
set_option maxRecDepth 100000
open Go.RowKit

def leB (v : Int) (n : Nat) : List Int := (List.range n).map fun k => v / 256 ^ k % 256
theorem leB_succ (v : Int) (n : Nat) : leB v (n + 1) = leB v n ++ [v / 256 ^ n % 256] := by simp [leB, List.range_succ]
theorem leB_len (v : Int) (n : Nat) : (leB v n).length = n := by simp [leB]
theorem p256 (k : Nat) : (0 : Int) < 256 ^ k := Int.pow_pos (by decide)
def putL (xs : List Int) (v n : Int) : List Int := if fitsB v n then xs ++ leB v n.toNat else xs

theorem Bts.le {w : World} {ao : Option Addr} {n cap : Nat} {xs : List Int} (h : Bts w (.slice ao n cap) xs) : n = xs.length ∧ xs.length ≤ cap := by
  rcases h with ⟨h1, h2⟩ | ⟨b, off, c, h1, h2, _⟩
  · simp at h1
    simp [h2, h1]
  · simp at h1
    exact ⟨h1.2.1, by omega⟩

def PutRel (w : World) (ao : Option Addr) (xs : List Int) (v : Int) (k : Nat) (o : Value) (wr : World) : Prop :=
  (k = 0 ∧ o = .slice ao xs.length xs.length ∧ wr = w) ∨
  (0 < k ∧ wr.ownsRow w.heap.size 5 1 o (xs.length + k) ((xs ++ leB v k).map (Value.int .u8)) ∧ w.grownBy wr none)

set_option maxHeartbeats 400000 in
theorem put_fits (ao : Option Addr) (cap : Nat) (xs : List Int) (v : Int) (n : Nat) (w : World) (hb : Bts w (.slice ao xs.length cap) xs) (hm : xs.length ≤ 140737488350000) (hf : fitsB v n = true) :
    Calls Tryz.prog 51 #[.slice ao xs.length cap, .int .i64 v, .int .i64 n] w (Made w.heap.size w (xs ++ leB v n)) := by
  have hv0 : 0 ≤ v ∧ v ≤ 9223372036854775807 := by simp [fitsB] at hf; omega
  have hn4 : n = 1 ∨ n = 2 ∨ n = 4 := by simp [fitsB] at hf; omega
  have hcap := hb.le.2
  obtain ⟨i0, hi, hz0, hz1, hz2⟩ := info_parts Tryz.infoU8
  have hadd : (if xs.length = 0 then ao else Option.map (fun x : Addr => x.add 0) ao) = ao := by
    split
    · rfl
    · cases ao <;> simp [Addr.add]
  go_enter Tryz.func51, Tryz.ntmps51
  go_wp2_with (go_at_call 76; refine (fits_any _ _ _ (by omega)).mono ?_; rintro e w' ⟨rfl, rfl⟩)
  go_loopw [1, 7, 21] (fun a o i wr => ∃ k : Nat, k ≤ n ∧ i = .int .i64 k ∧ a = .int .i64 (v / 256 ^ k) ∧ PutRel w ao xs v k o wr) (fun _ _ i _ => n - (intOf i).toNat)
  case atStart => exact ⟨0, Nat.zero_le _, rfl, by simp, .inl ⟨rfl, rfl, rfl⟩⟩
  case round =>
    obtain ⟨k, hk, rfl, rfl, hrel⟩ := hrel
    have hpos : 0 ≤ v / 256 ^ k := Int.ediv_nonneg hv0.1 (Int.le_of_lt (p256 k))
    by_cases hlt : k < n
    · rcases hrel with ⟨rfl, rfl, rfl⟩ | ⟨h0, hown, hgr⟩
      · go_wp2_with (at_builtin; refine wpList_append_grows _ rfl _ _ 37 rfl 5 i0 (.int .u8 0) 1 1 Tryz.underlying37 hi hz0 hz1 hz2 rfl (by decide) ao xs.length xs.length (xs.map (Value.int .u8)) rfl ?h1 ?h2 ?h3 ⟨wr.heap.size, 0, none⟩ 1 1 [.int .u8 (v % 256)] rfl rfl ?c1 ?c2 ?c3 ?c4 ?c5 ?_)
        case h1 => intro e; rw [e] at hb; have := hb.nil; simp [this]
        case h2 => simp
        case h3 => intro a ha j u hj; subst ha; exact cell_past (hb.cells j u hj) _
        case c1 => exact bytes_new _ _ _
        case c2 => intro u hu; simp at hu; subst hu; rfl
        case c3 => omega
        case c4 => unfold maxLen; omega
        case c5 => omega
        intro v' w1 hown1 hgr1
        go_wp2
        go_roundw
        case rel => exact ⟨1, by omega, by go_num, by simp, .inr ⟨by omega, by simpa [leB_succ, leB] using ownsRow_le hown1 (by simp), grown_trans (World.grownBy_alloc _ _ none) hgr1 (fun k hk => by cases hk)⟩⟩
        case measure => simp [intOf]; omega
      · go_wp2_with (at_builtin; refine wpList_append_own _ rfl _ _ 37 rfl w.heap.size 5 i0 (.int .u8 0) 1 1 Tryz.underlying37 hi hz0 hz1 hz2 rfl (by decide) _ _ _ rfl (hown.alloc _) ⟨wr.heap.size, 0, none⟩ 1 1 [.int .u8 (v / 256 ^ k % 256)] rfl rfl ?d1 ?d2 ?d3 ?d4 ?d5 ?_)
        case d1 => exact bytes_new _ _ _
        case d2 => intro u hu; simp at hu; subst hu; rfl
        case d3 => unfold maxLen; omega
        case d4 => omega
        case d5 => have := hgr.size; simp; omega
        intro v' w1 hown1 hgr1 _
        have e : v / 256 ^ k / 256 = v / 256 ^ (k + 1) := by rw [Int.ediv_ediv_of_nonneg (Int.le_of_lt (p256 k)), ← Int.pow_succ]
        have hlt' := hown.lt
        go_wp2
        go_roundw
        case rel =>
          refine ⟨k + 1, by omega, by go_num, ?_, .inr ⟨by omega, ?_, ?_⟩⟩
          · rw [← e]
          · simpa [leB_succ, Nat.add_assoc] using hown1
          · exact grown_trans (grown_trans hgr (World.grownBy_alloc _ _ none) (fun k hk => by cases hk)) hgr1 (fun k hk h => by have := hlt' k hk; omega)
        case measure => simp [intOf]; omega
    · have hkn : k = n := by omega
      subst hkn
      go_wp2
      go_ret
      rcases hrel with ⟨h0, _, _⟩ | ⟨h0, hown, hgr⟩
      · omega
      · exact ⟨_, rfl, by simpa [leB_len] using hown, hgr⟩

/-- Whatever is put: the bytes, and these behind; in new memory. -/
theorem put_any (v0 : Value) (xs : List Int) (v n : Int) (w : World) (hb : Bts w v0 xs) (hm : xs.length ≤ 140737488350000) (hv9 : v ≤ 9223372036854775807) :
    Calls Tryz.prog 51 #[v0, .int .i64 v, .int .i64 n] w (Made w.heap.size w (putL xs v n)) := by
  by_cases hf : fitsB v n = true
  · have hn : n = (n.toNat : Int) := by simp [fitsB] at hf; omega
    have hp : putL xs v n = xs ++ leB v n.toNat := by simp [putL, hf]
    rw [hp]
    rw [hn] at hf ⊢
    rcases hb with ⟨rfl, rfl⟩ | ⟨b, off, cap, rfl, h2, h3⟩
    · exact put_fits none 0 [] v n.toNat w (.inl ⟨rfl, rfl⟩) hm hf
    · exact put_fits (some ⟨b, off, none⟩) cap xs v n.toNat w (.inr ⟨b, off, cap, rfl, h2, h3⟩) hm hf
  · have hf' : fitsB v n = false := by simpa using hf
    have hp : putL xs v n = xs := by simp [putL, hf']
    rw [hp]
    rcases hb with ⟨rfl, rfl⟩ | ⟨b, off, cap, rfl, h2, h3⟩
    · go_enter Tryz.func51, Tryz.ntmps51
      go_wp2_with (first | (go_at_call 76; refine (fits_any _ _ _ (by omega)).mono ?_; rintro e w' ⟨rfl, rfl⟩) | (go_at_call 24; refine (clone_nil _).mono ?_; rintro e w' ⟨rfl, rfl⟩))
      go_ret
      exact ⟨_, rfl, World.ownsRow_nil _ _ _ _, World.grownBy.refl _ _⟩
    · go_enter Tryz.func51, Tryz.ntmps51
      go_wp2_with (first | (go_at_call 76; refine (fits_any _ _ _ (by omega)).mono ?_; rintro e w' ⟨rfl, rfl⟩) | (go_at_call 24; refine (clone_some b off cap xs _ h3 (by omega)).mono ?_; rintro e w1 ⟨v', rfl, hown, hgr⟩))
      go_ret
      exact ⟨_, rfl, hown, hgr⟩

end Go.Proofs.YteionppcjgggiaaGreat

/-
  word.Text, and the document's own Put and Text: the same bytes.
-/
namespace Go.Proofs.YteionppcjgggiaaGreat
set_option linter.unusedVariables false
set_option linter.unusedSimpArgs false
set_option maxRecDepth 100000
open Go.RowKit

/-- A string's bytes as numbers. -/
def byt (s : ByteArray) : List Int := s.data.toList.map fun b => (b.toNat : Int)
theorem byt_len (s : ByteArray) : (byt s).length = s.size := by simp [byt]
theorem strCells_byt (s : ByteArray) : Lib.strCells s = (byt s).map (Value.int .u8) := by simp [Lib.strCells, byt]

theorem row_cells (w : World) (s : ByteArray) (c : Nat) (T : TypeId) (m : Nat × Nat) : ∀ j u, ((byt s).map (Value.int .u8))[j]? = some u → ((w.alloc (.cells (bytesRow s c) T m)).drew).cell? ((⟨w.heap.size, 0, none⟩ : Addr).add j) = some u := by
  intro j u hj
  rw [addr_add, Nat.zero_add]
  show (w.alloc _).cell? _ = _
  rw [World.cell?_alloc_mark]
  have hlt : j < s.data.size := by
    have := (List.getElem?_eq_some_iff.1 hj).1
    simpa [byt] using this
  simp [byt] at hj
  obtain ⟨a, ha, rfl⟩ := hj
  rw [Array.getElem?_eq_getElem hlt] at ha
  simp at ha
  subst ha
  have hlt' : j < s.size := hlt
  simp [bytesRow, hlt', Array.getElem?_append]

def textL (xs : List Int) (s : ByteArray) : List Int := if s.size ≤ 65535 then xs ++ leB s.size 2 ++ byt s else xs

set_option maxHeartbeats 400000 in
theorem text_any (v0 : Value) (xs : List Int) (s : ByteArray) (w : World) (hb : Bts w v0 xs) (hm : xs.length ≤ 140737488200000) (hs9 : s.size ≤ 9223372036854775807) :
    Calls Tryz.prog 78 #[v0, .string s] w (Made w.heap.size w (textL xs s)) := by
  obtain ⟨i0, hi, hz0, hz1, hz2⟩ := info_parts Tryz.infoU8
  by_cases hf : s.size ≤ 65535
  · have ht : textL xs s = xs ++ leB s.size 2 ++ byt s := by simp [textL, hf]
    have hft : fitsB s.size 2 = true := by simp [fitsB]; omega
    have hp : putL xs s.size 2 = xs ++ leB s.size 2 := by simp [putL, hft]
    rw [ht]
    have HP := Lib.hid hp
    clear hp ht
    go_enter Tryz.func78, Tryz.ntmps78
    go_wp2_with (first | (go_at_call 76; refine (fits_any _ _ _ (by omega)).mono ?_; rintro e w' ⟨rfl, rfl⟩) | (go_at_call 51; refine (put_any v0 xs _ _ _ hb (by omega) (by omega)).mono ?_; rintro e w1 ⟨v1, rfl, hown, hgr⟩) | (at_builtin; refine Lib.wpList_append_own_string _ rfl _ _ 37 9 rfl w.heap.size 5 i0 Tryz.underlying37 Tryz.underlying9 hi hz0 hz1 hz2 _ _ _ rfl hown s rfl ?c1 ?c2 ?c3 ?_))
    case c1 => rw [HP.out]; simp [leB_len]; unfold maxLen; omega
    case c2 => rw [HP.out]; simp [leB_len]; omega
    case c3 => exact hgr.size
    intro v' w2 hown2 hgr2 _
    have hlt := hown.lt
    go_wp2
    go_ret
    refine ⟨v', rfl, ?_, grown_trans hgr hgr2 (fun k hk h => by have := hlt k hk; omega)⟩
    rw [HP.out, strCells_byt, ← List.map_append] at hown2
    simpa [byt_len, Nat.add_assoc] using hown2
  · have ht : textL xs s = xs := by simp [textL, hf]
    have hft : fitsB s.size 2 = false := by simp [fitsB]; omega
    rw [ht]
    clear ht
    rcases hb with ⟨rfl, rfl⟩ | ⟨b, off, cap, rfl, h2, h3⟩
    · go_enter Tryz.func78, Tryz.ntmps78
      go_wp2_with (first | (go_at_call 76; refine (fits_any _ _ _ (by omega)).mono ?_; rintro e w' ⟨rfl, rfl⟩) | (go_at_call 24; refine (clone_nil _).mono ?_; rintro e w' ⟨rfl, rfl⟩))
      go_ret
      exact ⟨_, rfl, World.ownsRow_nil _ _ _ _, World.grownBy.refl _ _⟩
    · go_enter Tryz.func78, Tryz.ntmps78
      go_wp2_with (first | (go_at_call 76; refine (fits_any _ _ _ (by omega)).mono ?_; rintro e w' ⟨rfl, rfl⟩) | (go_at_call 24; refine (clone_some b off cap xs _ h3 (by omega)).mono ?_; rintro e w1 ⟨v', rfl, hown, hgr⟩))
      go_ret
      exact ⟨_, rfl, hown, hgr⟩

end Go.Proofs.YteionppcjgggiaaGreat

/-
  The document's own Put and Text (layer 1): the same bytes as word's.
-/
namespace Go.Proofs.YteionppcjgggiaaGreat
set_option linter.unusedVariables false
set_option linter.unusedSimpArgs false
set_option maxRecDepth 100000
open Go.RowKit

theorem owns_copy {w : World} : (w.alloc (.cells #[] 5)).ownsRow w.heap.size 5 1 (.slice (some ⟨w.heap.size, 0, none⟩) 0 0) 0 [] :=
  World.ownsRow_made (base := w.heap.size) (e := 5) (size := 1) w #[] 0 (Nat.le_refl _) (Nat.zero_le _) rfl

theorem put_step {w wr w1 : World} {xs : List Int} {v : Int} {k : Nat} {o v' : Value} (o1 : Obj) (hgr : w.grownBy wr none) (hown : wr.ownsRow w.heap.size 5 1 o (xs.length + k) ((xs ++ leB v k).map (Value.int .u8)))
    (hown1 : w1.ownsRow w.heap.size 5 1 v' (xs.length + k + 1) (xs.map (Value.int .u8) ++ ((leB v k).map (Value.int .u8) ++ [Value.int .u8 (v / 256 ^ k % 256)]))) (hgr1 : (wr.alloc o1).grownBy w1 o.ownBlock) :
    w1.ownsRow w.heap.size 5 1 v' (xs.length + (k + 1)) ((xs ++ leB v (k + 1)).map (Value.int .u8)) ∧ w.grownBy w1 none :=
  ⟨by simpa [leB_succ, Nat.add_assoc] using hown1, grown_trans (grown_trans hgr (World.grownBy_alloc _ _ none) (fun k hk => by cases hk)) hgr1 (fun k hk h => by have := hown.lt k hk; omega)⟩

theorem div_step {v : Int} (k : Nat) : v / 256 ^ k / 256 = v / 256 ^ (k + 1) := by rw [Int.ediv_ediv_of_nonneg (Int.le_of_lt (p256 k)), ← Int.pow_succ]

set_option maxHeartbeats 800000 in
theorem refPut_fits (v0 : Value) (xs : List Int) (v : Int) (n : Nat) (w : World) (h0 : Bts w v0 xs) (hm : xs.length ≤ 140737488350000) (hf : fitsB v n = true) :
    Calls Tryz.prog 18 #[v0, .int .i64 v, .int .i64 n] w (Made w.heap.size w (xs ++ leB v n)) := by
  have hv0 : 0 ≤ v ∧ v ≤ 9223372036854775807 := by simp [fitsB] at hf; omega
  have hn4 : n = 1 ∨ n = 2 ∨ n = 4 := by simp [fitsB] at hf; omega
  obtain ⟨i0, hi, hz0, hz1, hz2⟩ := info_parts Tryz.infoU8
  have hown0 := @owns_copy w
  rcases h0 with ⟨rfl, hx⟩ | ⟨b, off, cap, rfl, h2, h3⟩
  · have HX := Lib.hid hx
    clear hx
    go_enter Tryz.func18, Tryz.ntmps18
    go_wp2_with (first | (at_builtin; refine wpList_append_own_none rfl _ _ 37 rfl w.heap.size 5 i0 1 Tryz.underlying37 hi _ _ _ rfl hown0 rfl ?_) | (go_at_call 43; refine (refFits_any _ _ _).mono ?_; rintro e w' ⟨rfl, rfl⟩))
    go_loopw [1, 7, 8] (fun a o i wr => ∃ k : Nat, k ≤ n ∧ i = .int .i64 k ∧ a = .int .i64 (v / 256 ^ k) ∧ wr.ownsRow w.heap.size 5 1 o (xs.length + k) ((xs ++ leB v k).map (Value.int .u8)) ∧ w.grownBy wr none) (fun _ _ i _ => n - (intOf i).toNat)
    case atStart => exact ⟨0, Nat.zero_le _, rfl, by simp, by rw [HX.out]; exact hown0, World.grownBy_alloc _ _ none⟩
    case round =>
      obtain ⟨k, hk, rfl, rfl, hown, hgr⟩ := hrel
      have hpos : 0 ≤ v / 256 ^ k := Int.ediv_nonneg hv0.1 (Int.le_of_lt (p256 k))
      have hle : v / 256 ^ k ≤ 9223372036854775807 := Int.le_trans (Int.ediv_le_self _ hv0.1) hv0.2
      by_cases hlt : k < n
      · go_wp2_with (at_builtin; refine wpList_append_own _ rfl _ _ 37 rfl w.heap.size 5 i0 (.int .u8 0) 1 1 Tryz.underlying37 hi hz0 hz1 hz2 rfl (by decide) _ _ _ rfl (hown.alloc _) ⟨wr.heap.size, 0, none⟩ 1 1 [.int .u8 (v / 256 ^ k % 256)] rfl rfl (bytes_new _ _ _) (one_oneCell _ _) (by unfold maxLen; omega) (by omega) (grown_alloc_size hgr _) ?_)
        intro v' w1 hown1 hgr1 _
        have R := put_step _ hgr hown hown1 hgr1
        have E := Lib.hid (div_step (v := v) k)
        clear hown hown1 hgr1
        go_wp2
        go_roundw
        case rel => exact ⟨k + 1, by omega, by go_num, by rw [← E.out], R.1, R.2⟩
        case measure => simp [intOf]; omega
      · have hkn : k = n := by omega
        subst hkn
        go_wp2
        go_ret
        exact ⟨_, rfl, by simpa [leB_len] using hown, hgr⟩
  · have hcs := cells_of h3
    go_enter Tryz.func18, Tryz.ntmps18
    go_wp2_with (first | (at_builtin; refine wpList_append_own _ rfl _ _ 37 rfl w.heap.size 5 i0 (.int .u8 0) 1 1 Tryz.underlying37 hi hz0 hz1 hz2 rfl (by decide) _ _ _ rfl hown0 ⟨b, off, none⟩ xs.length cap (xs.map (Value.int .u8)) rfl (by simp) ?c1 ?c2 ?c3 ?c4 ?c5 ?_) | (go_at_call 43; refine (refFits_any _ _ _).mono ?_; rintro e w' ⟨rfl, rfl⟩))
    case c1 => exact fun j u hj => cell_past (hcs j u hj) _
    case c2 => exact ints_oneCell _ _
    case c3 => unfold maxLen; omega
    case c4 => omega
    case c5 => simp
    intro va wa hown1 hgr1 _
    have hgr0 : w.grownBy wa none := grown_trans (World.grownBy_alloc w _ none) hgr1 (fun k hk h => by simp [Value.ownBlock] at hk; omega)
    clear hgr1
    go_wp2_with (go_at_call 43; refine (refFits_any _ _ _).mono ?_; rintro e w' ⟨rfl, rfl⟩)
    go_loopw [1, 7, 8] (fun a o i wr => ∃ k : Nat, k ≤ n ∧ i = .int .i64 k ∧ a = .int .i64 (v / 256 ^ k) ∧ wr.ownsRow w.heap.size 5 1 o (xs.length + k) ((xs ++ leB v k).map (Value.int .u8)) ∧ w.grownBy wr none) (fun _ _ i _ => n - (intOf i).toNat)
    case atStart => exact ⟨0, Nat.zero_le _, rfl, by simp, by simpa [leB] using hown1, hgr0⟩
    case round =>
      obtain ⟨k, hk, rfl, rfl, hown, hgr⟩ := hrel
      have hpos : 0 ≤ v / 256 ^ k := Int.ediv_nonneg hv0.1 (Int.le_of_lt (p256 k))
      have hle : v / 256 ^ k ≤ 9223372036854775807 := Int.le_trans (Int.ediv_le_self _ hv0.1) hv0.2
      by_cases hlt : k < n
      · go_wp2_with (at_builtin; refine wpList_append_own _ rfl _ _ 37 rfl w.heap.size 5 i0 (.int .u8 0) 1 1 Tryz.underlying37 hi hz0 hz1 hz2 rfl (by decide) _ _ _ rfl (hown.alloc _) ⟨wr.heap.size, 0, none⟩ 1 1 [.int .u8 (v / 256 ^ k % 256)] rfl rfl (bytes_new _ _ _) (one_oneCell _ _) (by unfold maxLen; omega) (by omega) (grown_alloc_size hgr _) ?_)
        intro v' w1 hown1 hgr1 _
        have R := put_step _ hgr hown hown1 hgr1
        have E := Lib.hid (div_step (v := v) k)
        clear hown hown1 hgr1
        go_wp2
        go_roundw
        case rel => exact ⟨k + 1, by omega, by go_num, by rw [← E.out], R.1, R.2⟩
        case measure => simp [intOf]; omega
      · have hkn : k = n := by omega
        subst hkn
        go_wp2
        go_ret
        exact ⟨_, rfl, by simpa [leB_len] using hown, hgr⟩

theorem refPut_any (v0 : Value) (xs : List Int) (v n : Int) (w : World) (hb : Bts w v0 xs) (hm : xs.length ≤ 140737488350000) :
    Calls Tryz.prog 18 #[v0, .int .i64 v, .int .i64 n] w (Made w.heap.size w (putL xs v n)) := by
  by_cases hf : fitsB v n = true
  · have hn : n = (n.toNat : Int) := by simp [fitsB] at hf; omega
    have hp : putL xs v n = xs ++ leB v n.toNat := by simp [putL, hf]
    rw [hp]
    rw [hn] at hf ⊢
    exact refPut_fits v0 xs v n.toNat w hb hm hf
  · have hf' : fitsB v n = false := by simpa using hf
    have hp : putL xs v n = xs := by simp [putL, hf']
    obtain ⟨i0, hi, hz0, hz1, hz2⟩ := info_parts Tryz.infoU8
    have hown0 := @owns_copy w
    rw [hp]
    clear hp
    rcases hb with ⟨rfl, rfl⟩ | ⟨b, off, cap, rfl, h2, h3⟩
    · go_enter Tryz.func18, Tryz.ntmps18
      go_wp2_with (first | (at_builtin; refine wpList_append_own_none rfl _ _ 37 rfl w.heap.size 5 i0 1 Tryz.underlying37 hi _ _ _ rfl hown0 rfl ?_) | (go_at_call 43; refine (refFits_any _ _ _).mono ?_; rintro e w' ⟨rfl, rfl⟩))
      go_ret
      exact ⟨_, rfl, hown0, World.grownBy_alloc _ _ none⟩
    · have hcs := cells_of h3
      go_enter Tryz.func18, Tryz.ntmps18
      go_wp2_with (first | (at_builtin; refine wpList_append_own _ rfl _ _ 37 rfl w.heap.size 5 i0 (.int .u8 0) 1 1 Tryz.underlying37 hi hz0 hz1 hz2 rfl (by decide) _ _ _ rfl hown0 ⟨b, off, none⟩ xs.length cap (xs.map (Value.int .u8)) rfl (by simp) ?c1 ?c2 ?c3 ?c4 ?c5 ?_) | (go_at_call 43; refine (refFits_any _ _ _).mono ?_; rintro e w' ⟨rfl, rfl⟩))
      case c1 => exact fun j u hj => cell_past (hcs j u hj) _
      case c2 => exact ints_oneCell _ _
      case c3 => unfold maxLen; omega
      case c4 => omega
      case c5 => simp
      intro va wa hown1 hgr1 _
      have hgr0 : w.grownBy wa none := grown_trans (World.grownBy_alloc w _ none) hgr1 (fun k hk h => by simp [Value.ownBlock] at hk; omega)
      go_wp2_with (go_at_call 43; refine (refFits_any _ _ _).mono ?_; rintro e w' ⟨rfl, rfl⟩)
      go_ret
      exact ⟨_, rfl, by simpa using hown1, hgr0⟩

end Go.Proofs.YteionppcjgggiaaGreat

/-
  The document's own Text (layer 1): the same bytes as word's.
-/
namespace Go.Proofs.YteionppcjgggiaaGreat
set_option linter.unusedVariables false
set_option linter.unusedSimpArgs false
set_option maxRecDepth 100000
open Go.RowKit

end Go.Proofs.YteionppcjgggiaaGreat
