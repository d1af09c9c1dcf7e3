/-
  Which ledger may be, in plain words; what changes make of one.
-/
import Derived.Test.YtkcdddpbmbhelaaES
namespace Go.Proofs.Ytkcdddpbmbhelaa
open Go.RowKit

def tenOk (x : Ten) (newest n p : Int) : Prop :=
  (x.th = true → 1 ≤ x.ep ∧ x.ep ≤ newest ∧ totS x.sz x.sp p ≠ 0 ∧ totS x.sz x.sp p ≤ x.bs.length ∧ (x.bs.length : Int) ≤ wrap64 (n - 2) ∧ ∀ b ∈ x.bs, 2 ≤ b ∧ b < n) ∧
  (x.th = false → x.ep = 0 ∧ x.sz = 0 ∧ x.sp = 0 ∧ x.bs = [])
structure RightP (L : Led) (n p : Int) : Prop where
  gen : 0 ≤ L.gen ∧ L.gen ≤ 2147483647
  eps : 0 ≤ L.eps ∧ L.eps ≤ 2147483647
  ten : ∀ j, j < 4 → tenOk (L.t j) L.eps n p
  blk : (takenL L).Nodup
  epo : (epochsL L).Nodup

theorem takenTo_sub (L : Led) : ∀ {k m : Nat}, k ≤ m → ∃ r, takenTo L m = takenTo L k ++ r
  | k, 0, h => ⟨[], by obtain rfl : k = 0 := (by omega); simp⟩
  | k, m + 1, h => by
    by_cases e : k = m + 1
    · subst e; exact ⟨[], by simp⟩
    · obtain ⟨r, hr⟩ := takenTo_sub L (k := k) (m := m) (by omega)
      exact ⟨r ++ (L.t m).bs, by simp [takenTo, hr]⟩
theorem epochsTo_sub (L : Led) : ∀ {k m : Nat}, k ≤ m → ∃ r, epochsTo L m = epochsTo L k ++ r
  | k, 0, h => ⟨[], by obtain rfl : k = 0 := (by omega); simp⟩
  | k, m + 1, h => by
    by_cases e : k = m + 1
    · subst e; exact ⟨[], by simp⟩
    · obtain ⟨r, hr⟩ := epochsTo_sub L (k := k) (m := m) (by omega)
      by_cases ht : (L.t m).th = true
      · exact ⟨r ++ [(L.t m).ep], by simp [epochsTo, ht, hr]⟩
      · exact ⟨r, by simp [epochsTo, ht, hr]⟩
theorem RightP.takenTo {L : Led} {n p : Int} (h : RightP L n p) {k : Nat} (hk : k ≤ 4) : (takenTo L k).Nodup := by
  obtain ⟨r, hr⟩ := takenTo_sub L hk
  have h1 : (Go.Proofs.Ytkcdddpbmbhelaa.takenTo L 4).Nodup := h.blk
  rw [hr] at h1
  exact (List.nodup_append.1 h1).1
theorem RightP.epochsTo {L : Led} {n p : Int} (h : RightP L n p) {k : Nat} (hk : k ≤ 4) : (epochsTo L k).Nodup := by
  obtain ⟨r, hr⟩ := epochsTo_sub L hk
  have h1 : (Go.Proofs.Ytkcdddpbmbhelaa.epochsTo L 4).Nodup := h.epo
  rw [hr] at h1
  exact (List.nodup_append.1 h1).1

/-- Numbers that stand once in each of the rows below k and in no two of them. -/
theorem taken_nodup {L : Led} : ∀ k, (takenTo L k).Nodup ↔ (∀ j, j < k → (L.t j).bs.Nodup) ∧ ∀ i j, i < j → j < k → ∀ b ∈ (L.t i).bs, b ∉ (L.t j).bs
  | 0 => by simp [takenTo]
  | k + 1 => by
    have mem : ∀ b, b ∈ takenTo L k ↔ ∃ i, i < k ∧ b ∈ (L.t i).bs := by
      intro b
      clear taken_nodup
      induction k with
      | zero => simp [takenTo]
      | succ k ih =>
        simp only [takenTo, List.mem_append, ih]
        constructor
        · rintro (⟨i, hi, hb⟩ | hb)
          · exact ⟨i, by omega, hb⟩
          · exact ⟨k, by omega, hb⟩
        · rintro ⟨i, hi, hb⟩
          by_cases e : i = k
          · subst e; exact .inr hb
          · exact .inl ⟨i, by omega, hb⟩
    simp only [takenTo, List.nodup_append, taken_nodup k]
    constructor
    · rintro ⟨⟨h1, h2⟩, h3, h4⟩
      refine ⟨fun j hj => ?_, fun i j hij hj b hb hb2 => ?_⟩
      · by_cases e : j = k
        · subst e; exact h3
        · exact h1 j (by omega)
      · by_cases e : j = k
        · subst e; exact h4 b ((mem b).2 ⟨i, hij, hb⟩) b hb2 rfl
        · exact h2 i j hij (by omega) b hb hb2
    · rintro ⟨h1, h2⟩
      refine ⟨⟨fun j hj => h1 j (by omega), fun i j hij hj => h2 i j hij (by omega)⟩, h1 k (by omega), fun a ha b hb e => ?_⟩
      subst e
      obtain ⟨i, hi, hai⟩ := (mem a).1 ha
      exact h2 i k hi (by omega) a hai hb
theorem taken_mem {L : Led} : ∀ (k : Nat) (b : Int), b ∈ takenTo L k ↔ ∃ i, i < k ∧ b ∈ (L.t i).bs
  | 0, b => by simp [takenTo]
  | k + 1, b => by
    simp only [takenTo, List.mem_append, taken_mem k b]
    constructor
    · rintro (⟨i, hi, hb⟩ | hb)
      · exact ⟨i, by omega, hb⟩
      · exact ⟨k, by omega, hb⟩
    · rintro ⟨i, hi, hb⟩
      by_cases e : i = k
      · subst e; exact .inr hb
      · exact .inl ⟨i, by omega, hb⟩
theorem epochs_mem {L : Led} : ∀ (k : Nat) (x : Int), x ∈ epochsTo L k ↔ ∃ i, i < k ∧ (L.t i).th = true ∧ (L.t i).ep = x
  | 0, x => by simp [epochsTo]
  | k + 1, x => by
    have ih := epochs_mem (L := L) k x
    unfold epochsTo
    by_cases ht : (L.t k).th = true
    · rw [if_pos ht, List.mem_append, ih]
      constructor
      · rintro (⟨i, hi, h⟩ | h)
        · exact ⟨i, by omega, h⟩
        · simp at h; exact ⟨k, by omega, ht, h.symm⟩
      · rintro ⟨i, hi, h⟩
        by_cases e : i = k
        · subst e; exact .inr (by simp [h.2])
        · exact .inl ⟨i, by omega, h⟩
    · rw [if_neg ht, ih]
      constructor
      · rintro ⟨i, hi, h⟩; exact ⟨i, by omega, h⟩
      · rintro ⟨i, hi, h⟩
        by_cases e : i = k
        · subst e; exact absurd h.1 ht
        · exact ⟨i, by omega, h⟩
theorem epochs_nodup {L : Led} : ∀ k, (epochsTo L k).Nodup ↔ ∀ i j, i < j → j < k → (L.t i).th = true → (L.t j).th = true → (L.t i).ep ≠ (L.t j).ep
  | 0 => by simp [epochsTo]
  | k + 1 => by
    have ih := epochs_nodup (L := L) k
    unfold epochsTo
    by_cases ht : (L.t k).th = true
    · rw [if_pos ht, List.nodup_append, ih]
      constructor
      · rintro ⟨h1, _, h3⟩ i j hij hj hi hjt
        by_cases e : j = k
        · subst e
          exact fun e2 => h3 _ ((epochs_mem j _).2 ⟨i, hij, hi, rfl⟩) _ (by simp) e2
        · exact h1 i j hij (by omega) hi hjt
      · intro h
        refine ⟨fun i j hij hj => h i j hij (by omega), by simp, fun a ha b hb e => ?_⟩
        simp at hb
        obtain ⟨i, hi, hit, rfl⟩ := (epochs_mem k a).1 ha
        exact h i k hi (by omega) hit ht (e.trans hb)
    · rw [if_neg ht, ih]
      constructor
      · intro h i j hij hj hi hjt
        by_cases e : j = k
        · subst e; exact absurd hjt ht
        · exact h i j hij (by omega) hi hjt
      · intro h i j hij hj
        exact h i j hij (by omega)

/-- May be, said of pairs. -/
theorem right_iff {L : Led} {n p : Int} : RightP L n p ↔ (0 ≤ L.gen ∧ L.gen ≤ 2147483647) ∧ (0 ≤ L.eps ∧ L.eps ≤ 2147483647) ∧ (∀ j, j < 4 → tenOk (L.t j) L.eps n p) ∧
    ((∀ j, j < 4 → (L.t j).bs.Nodup) ∧ ∀ i j, i < j → j < 4 → ∀ b ∈ (L.t i).bs, b ∉ (L.t j).bs) ∧ ∀ i j, i < j → j < 4 → (L.t i).th = true → (L.t j).th = true → (L.t i).ep ≠ (L.t j).ep :=
  ⟨fun h => ⟨h.gen, h.eps, h.ten, (taken_nodup 4).1 h.blk, (epochs_nodup 4).1 h.epo⟩, fun ⟨h1, h2, h3, h4, h5⟩ => ⟨h1, h2, h3, (taken_nodup 4).2 h4, (epochs_nodup 4).2 h5⟩⟩

theorem tenOk_more {x : Ten} {m m' n p : Int} (h : tenOk x m n p) (hm : m ≤ m') : tenOk x m' n p :=
  ⟨fun ht => by obtain ⟨h1, h2, h3⟩ := h.1 ht; exact ⟨h1, by omega, h3⟩, h.2⟩
theorem tenOk_no (m n p : Int) : tenOk noTen m n p := ⟨fun h => by simp [noTen] at h, fun _ => ⟨rfl, rfl, rfl, rfl⟩⟩

theorem inc_le {n : Int} (h0 : 0 ≤ n) (h1 : n ≤ 2147483647) (h2 : n ≠ 2147483647) : inc n = n + 1 ∧ 0 ≤ n + 1 ∧ n + 1 ≤ 2147483647 := by
  refine ⟨?_, by omega, by omega⟩
  unfold inc wrap64
  omega

/-- Without a tenant a ledger may be, still. -/
theorem right_destroy {L : Led} {n p t : Int} (h : RightP L n p) (hok : (destroyS L t).2 = 0) : RightP (destroyS L t).1 n p := by
  unfold destroyS at hok ⊢
  by_cases hm : missT L t = 0
  · rw [if_pos hm] at hok ⊢
    obtain ⟨k, rfl, hk, _⟩ := missT_ok hm
    simp only [Int.toNat_natCast] at hok ⊢
    unfold changedS at hok ⊢
    by_cases hg : L.gen = 2147483647
    · rw [if_pos hg] at hok; simp at hok
    · rw [if_neg hg]
      obtain ⟨hg0, he0, ht, ⟨hb1, hb2⟩, hep⟩ := right_iff.1 h
      obtain ⟨i1, i2, i3⟩ := inc_le hg0.1 hg0.2 hg
      have at_ : ∀ j, (updT (bump L) k noTen).t j = if j = k then noTen else L.t j := fun j => rfl
      refine right_iff.2 ⟨?_, he0, fun j hj => ?_, ⟨fun j hj => ?_, fun i j hij hj b hb => ?_⟩, fun i j hij hj hi hjt => ?_⟩
      · show 0 ≤ inc L.gen ∧ inc L.gen ≤ _
        rw [i1]; exact ⟨i2, i3⟩
      · rw [at_]; split
        · exact tenOk_no _ _ _
        · exact ht j hj
      · rw [at_]; split
        · simp [noTen]
        · exact hb1 j hj
      · rw [at_] at hb ⊢
        split at hb
        · simp [noTen] at hb
        · split
          · simp [noTen]
          · exact hb2 i j hij hj b hb
      · rw [at_] at hi hjt ⊢
        rw [at_]
        split at hi
        · simp [noTen] at hi
        · split at hjt
          · simp [noTen] at hjt
          · rename_i e1 e2
            rw [if_neg e1, if_neg e2]
            exact hep i j hij hj hi hjt
  · rw [if_neg hm] at hok
    exact absurd hok hm

theorem freeTo_mem {T : List Int} {k : Nat} {b : Int} : b ∈ freeTo T k ↔ (2 ≤ b ∧ b < 2 + k) ∧ b ∉ T := by
  unfold freeTo
  simp only [List.mem_filter, List.mem_map, List.mem_range, decide_eq_true_eq]
  constructor
  · rintro ⟨⟨i, hi, rfl⟩, h⟩
    exact ⟨⟨by omega, by omega⟩, h⟩
  · rintro ⟨⟨h1, h2⟩, h⟩
    exact ⟨⟨(b - 2).toNat, by omega, by omega⟩, h⟩
theorem freeTo_nodup (T : List Int) (k : Nat) : (freeTo T k).Nodup := by
  unfold freeTo
  refine List.Pairwise.filter _ ?_
  rw [List.pairwise_map]
  exact (List.nodup_range (n := k)).imp (fun h e => h (by omega))

theorem room_ok {s r : Int} (h : roomE s r = 0) : (1 ≤ s ∧ s ≤ 64) ∧ 0 ≤ r ∧ r ≤ 8 := by
  unfold roomE at h
  split at h
  · rename_i hh
    simp [inB] at hh
    exact hh
  · simp at h
theorem totS_ok {s r p : Int} (h : roomE s r = 0) (hp : 2 ≤ p ∧ p ≤ 16) : totS s r p = s / p + 2 + r ∧ 2 ≤ s / p + 2 + r := by
  obtain ⟨⟨s0, s1⟩, r0, r1⟩ := room_ok h
  have q0 : 0 ≤ s / p := Int.ediv_nonneg (by omega) (by omega)
  refine ⟨?_, by omega⟩
  unfold totS
  rw [if_pos (rightB_yes ⟨s0, s1, r0, r1, hp.1, hp.2⟩)]

/-- What Create needs, when it is told OK. -/
theorem create_ok {L : Led} {t s r : Int} {xs : List Int} (hok : (createS L t s r xs).2 = 0) :
    ∃ k : Nat, t = k ∧ k < 4 ∧ (L.t k).th = false ∧ roomE s r = 0 ∧ L.eps ≠ 2147483647 ∧ L.gen ≠ 2147483647 ∧ (createS L t s r xs).1 = createL (bump L) k s r xs := by
  unfold createS at hok ⊢
  by_cases ht : inB t 0 3 = true
  · rw [if_pos ht] at hok ⊢
    obtain ⟨k, rfl⟩ : ∃ k : Nat, t = k := ⟨t.toNat, by simp [inB] at ht; omega⟩
    have hk : k < 4 := by simp [inB] at ht; omega
    simp only [Int.toNat_natCast] at hok ⊢
    by_cases hth : (L.t k).th = true
    · rw [if_pos hth] at hok; simp at hok
    · rw [if_neg hth] at hok ⊢
      by_cases hr : roomE s r = 0
      · rw [if_pos hr] at hok ⊢
        by_cases he : L.eps = 2147483647
        · rw [if_pos he] at hok; simp at hok
        · rw [if_neg he] at hok ⊢
          unfold changedS at hok ⊢
          by_cases hg : L.gen = 2147483647
          · rw [if_pos hg] at hok; simp at hok
          · rw [if_neg hg]
            exact ⟨k, rfl, hk, by simpa using hth, hr, he, hg, rfl⟩
      · rw [if_neg hr] at hok
        exact absurd hok hr
  · rw [if_neg ht] at hok
    simp at hok

/-- With all free blocks a tenant may be, if they are enough. -/
theorem right_create {L : Led} {n p t s r : Int} (h : RightP L n p) (hp : 2 ≤ p ∧ p ≤ 16) (hn : n ≤ 64) (hok : (createS L t s r (freeL L n)).2 = 0) :
    RightP (createS L t s r (freeL L n)).1 n p ↔ s / p + 2 + r ≤ ((freeL L n).length : Int) := by
  obtain ⟨k, rfl, hk, hth, hroom, he, hg, hc⟩ := create_ok hok
  rw [hc]
  obtain ⟨hg0, he0, ht, ⟨hb1, hb2⟩, hep⟩ := right_iff.1 h
  obtain ⟨i1, i2, i3⟩ := inc_le hg0.1 hg0.2 hg
  obtain ⟨j1, j2, j3⟩ := inc_le he0.1 he0.2 he
  obtain ⟨tt, tt2⟩ := totS_ok hroom hp
  have at_ : ∀ j, (createL (bump L) k s r (freeL L n)).t j = if j = k then ⟨true, L.eps + 1, s, r, freeL L n⟩ else L.t j := fun j => by
    show (if j = k then (⟨true, inc L.eps, s, r, freeL L n⟩ : Ten) else L.t j) = _
    rw [j1]
  have heps : (createL (bump L) k s r (freeL L n)).eps = L.eps + 1 := j1
  have hfl : ((freeL L n).length : Int) ≤ ((n - 2).toNat : Int) := by
    have := freeTo_len (takenL L) (n - 2).toNat
    show ((freeTo (takenL L) (n - 2).toNat).length : Int) ≤ _
    omega
  have fm : ∀ b, b ∈ freeL L n → (2 ≤ b ∧ b < n) ∧ b ∉ takenL L := fun b hb => by
    obtain ⟨⟨h1, h2⟩, h3⟩ := freeTo_mem.1 hb
    exact ⟨⟨h1, by omega⟩, h3⟩
  constructor
  · intro hr
    have := (hr.ten k hk).1 (by rw [at_, if_pos rfl])
    rw [at_, if_pos rfl] at this
    have h4 := this.2.2.2.1
    rw [show totS s r p = s / p + 2 + r from tt] at h4
    exact h4
  · intro hlen
    refine right_iff.2 ⟨?_, ?_, fun j hj => ?_, ⟨fun j hj => ?_, fun i j hij hj b hb => ?_⟩, fun i j hij hj hi hjt => ?_⟩
    · show 0 ≤ inc L.gen ∧ inc L.gen ≤ _
      rw [i1]; exact ⟨i2, i3⟩
    · rw [heps]; exact ⟨j2, j3⟩
    · rw [at_, heps]
      split
      · refine ⟨fun _ => ⟨by show (1 : Int) ≤ L.eps + 1; omega, Int.le_refl _, ?_, ?_, ?_, fun b hb => (fm b hb).1⟩, fun h => by simp at h⟩
        · show totS s r p ≠ 0
          rw [tt]; omega
        · show totS s r p ≤ ((freeL L n).length : Int)
          rw [tt]; exact hlen
        · show ((freeL L n).length : Int) ≤ wrap64 (n - 2)
          unfold wrap64
          omega
      · exact tenOk_more (ht j hj) (by omega)
    · rw [at_]; split
      · exact freeTo_nodup _ _
      · exact hb1 j hj
    · rw [at_] at hb ⊢
      split at hb
      · rename_i e
        rw [if_neg (by omega)]
        intro hb2'
        exact (fm b hb).2 ((taken_mem 4 b).2 ⟨j, hj, hb2'⟩)
      · split
        · intro hb2'
          exact (fm b hb2').2 ((taken_mem 4 b).2 ⟨i, by omega, hb⟩)
        · exact hb2 i j hij hj b hb
    · rw [at_] at hi hjt ⊢
      rw [at_]
      by_cases e1 : i = k
      · rw [if_pos e1, if_neg (by omega)]
        rw [if_neg (by omega)] at hjt
        have := ((ht j hj).1 hjt).2.1
        show L.eps + 1 ≠ _
        omega
      · rw [if_neg e1] at hi ⊢
        by_cases e2 : j = k
        · rw [if_pos e2]
          have := ((ht i (by omega)).1 hi).2.1
          show _ ≠ L.eps + 1
          omega
        · rw [if_neg e2] at hjt ⊢
          exact hep i j hij hj hi hjt

theorem set_mem {xs : List Int} (hn : xs.Nodup) {i : Nat} (hi : i < xs.length) {y b : Int} (hb : b ∈ xs.set i y) : b = y ∨ (b ∈ xs ∧ b ≠ xs[i]) := by
  obtain ⟨m, hm, rfl⟩ := List.mem_iff_getElem.1 hb
  rw [List.length_set] at hm
  rw [List.getElem_set]
  split
  · exact .inl rfl
  · rename_i hne
    refine .inr ⟨List.getElem_mem hm, fun e => ?_⟩
    have hpw := List.pairwise_iff_getElem.1 hn
    rcases Nat.lt_or_gt_of_ne hne with h | h
    · exact hpw i m hi hm h e.symm
    · exact hpw m i hm hi h e
theorem set_nodup {xs : List Int} (hn : xs.Nodup) {i : Nat} {y : Int} (hy : y ∉ xs) : (xs.set i y).Nodup := by
  refine List.pairwise_iff_getElem.2 fun a b ha hb hab => ?_
  rw [List.length_set] at ha hb
  rw [List.getElem_set, List.getElem_set]
  have hpw := List.pairwise_iff_getElem.1 hn
  split
  · rw [if_neg (by omega)]
    exact fun e => hy (by rw [e]; exact List.getElem_mem hb)
  · split
    · exact fun e => hy (by rw [← e]; exact List.getElem_mem ha)
    · exact hpw a b ha hb hab

/-- Blocks that change places: a ledger may be, still. -/
theorem right_swap {L : Led} {n p a i b j : Int} (h : RightP L n p) (hok : (swapS L a i b j).2 = 0) : RightP (swapS L a i b j).1 n p := by
  unfold swapS at hok ⊢
  by_cases hA : missT L a = 0
  · rw [if_pos hA] at hok ⊢
    by_cases hB : missT L b = 0
    · rw [if_pos hB] at hok ⊢
      by_cases hab : a = b
      · rw [if_pos hab] at hok; simp at hok
      · rw [if_neg hab] at hok ⊢
        obtain ⟨ka, rfl, hka, hta⟩ := missT_ok hA
        obtain ⟨kb, rfl, hkb, htb⟩ := missT_ok hB
        simp only [Int.toNat_natCast] at hok ⊢
        by_cases hp : inB i 0 ((L.t ka).bs.length - 1) = true ∧ inB j 0 ((L.t kb).bs.length - 1) = true
        · rw [if_pos hp] at hok ⊢
          unfold changedS at hok ⊢
          by_cases hg : L.gen = 2147483647
          · rw [if_pos hg] at hok; simp at hok
          · rw [if_neg hg]
            obtain ⟨p1, p2⟩ := hp
            simp [inB] at p1 p2
            obtain ⟨i', rfl⟩ : ∃ i' : Nat, i = i' := ⟨i.toNat, by omega⟩
            obtain ⟨j', rfl⟩ : ∃ j' : Nat, j = j' := ⟨j.toNat, by omega⟩
            have hi : i' < (L.t ka).bs.length := by omega
            have hj : j' < (L.t kb).bs.length := by omega
            simp only [Int.toNat_natCast]
            have hne : ka ≠ kb := by omega
            obtain ⟨hg0, he0, ht, ⟨hb1, hb2⟩, hep⟩ := right_iff.1 h
            obtain ⟨i1, i2, i3⟩ := inc_le hg0.1 hg0.2 hg
            have sym : ∀ u v, u ≠ v → u < 4 → v < 4 → ∀ z ∈ (L.t u).bs, z ∉ (L.t v).bs := fun u v huv hu hv z hz hz2 => by
              rcases Nat.lt_or_gt_of_ne huv with h | h
              · exact hb2 u v h hv z hz hz2
              · exact hb2 v u h hu z hz2 hz
            have gx : (L.t ka).bs.getD i' 0 = (L.t ka).bs[i'] := by rw [List.getD_eq_getElem?_getD, List.getElem?_eq_getElem hi]; rfl
            have gy : (L.t kb).bs.getD j' 0 = (L.t kb).bs[j'] := by rw [List.getD_eq_getElem?_getD, List.getElem?_eq_getElem hj]; rfl
            have xm : (L.t ka).bs[i'] ∈ (L.t ka).bs := List.getElem_mem hi
            have ym : (L.t kb).bs[j'] ∈ (L.t kb).bs := List.getElem_mem hj
            have at_ : ∀ u, (swapL (bump L) ka i' kb j').t u = if u = kb then { L.t kb with bs := (L.t kb).bs.set j' ((L.t ka).bs[i']) } else if u = ka then { L.t ka with bs := (L.t ka).bs.set i' ((L.t kb).bs[j']) } else L.t u := fun u => by
              rw [← gx, ← gy]; rfl
            have bs_ : ∀ u, ((swapL (bump L) ka i' kb j').t u).bs = if u = kb then (L.t kb).bs.set j' ((L.t ka).bs[i']) else if u = ka then (L.t ka).bs.set i' ((L.t kb).bs[j']) else (L.t u).bs := fun u => by
              rw [at_]; split
              · rfl
              · split <;> rfl
            have th_ : ∀ u, ((swapL (bump L) ka i' kb j').t u).th = (L.t u).th ∧ ((swapL (bump L) ka i' kb j').t u).ep = (L.t u).ep ∧ ((swapL (bump L) ka i' kb j').t u).sz = (L.t u).sz ∧ ((swapL (bump L) ka i' kb j').t u).sp = (L.t u).sp := fun u => by
              rw [at_]; split
              · rename_i e; subst e; exact ⟨rfl, rfl, rfl, rfl⟩
              · split
                · rename_i e; subst e; exact ⟨rfl, rfl, rfl, rfl⟩
                · exact ⟨rfl, rfl, rfl, rfl⟩
            have len_ : ∀ u, ((swapL (bump L) ka i' kb j').t u).bs.length = (L.t u).bs.length := fun u => by
              rw [bs_]; split
              · rename_i e; subst e; simp
              · split
                · rename_i e; subst e; simp
                · rfl
            have mem_ : ∀ u z, z ∈ ((swapL (bump L) ka i' kb j').t u).bs → (u = kb ∧ (z = (L.t ka).bs[i'] ∨ (z ∈ (L.t kb).bs ∧ z ≠ (L.t kb).bs[j']))) ∨ (u = ka ∧ (z = (L.t kb).bs[j'] ∨ (z ∈ (L.t ka).bs ∧ z ≠ (L.t ka).bs[i']))) ∨ (u ≠ ka ∧ u ≠ kb ∧ z ∈ (L.t u).bs) := fun u z hz => by
              rw [bs_] at hz
              split at hz
              · rename_i e
                exact .inl ⟨e, set_mem (hb1 kb hkb) hj hz⟩
              · rename_i e
                split at hz
                · rename_i e2
                  exact .inr (.inl ⟨e2, set_mem (hb1 ka hka) hi hz⟩)
                · rename_i e2
                  exact .inr (.inr ⟨e2, e, hz⟩)
            have inn : ∀ u, u < 4 → ∀ z ∈ (L.t u).bs, 2 ≤ z ∧ z < n := fun u hu z hz => by
              by_cases hth : (L.t u).th = true
              · exact ((ht u hu).1 hth).2.2.2.2.2 z hz
              · rw [((ht u hu).2 (by simpa using hth)).2.2.2] at hz
                simp at hz
            refine right_iff.2 ⟨?_, he0, fun u hu => ?_, ⟨fun u hu => ?_, fun u v huv hv z hz hz2 => ?_⟩, fun u v huv hv hut hvt => ?_⟩
            · show 0 ≤ inc L.gen ∧ inc L.gen ≤ _
              rw [i1]; exact ⟨i2, i3⟩
            · obtain ⟨e1, e2, e3, e4⟩ := th_ u
              unfold tenOk
              rw [e1, e2, e3, e4, len_ u]
              refine ⟨fun hth => ?_, fun hth => ?_⟩
              · obtain ⟨q1, q2, q3, q4, q5, q6⟩ := (ht u hu).1 hth
                refine ⟨q1, q2, q3, q4, q5, fun z hz => ?_⟩
                rcases mem_ u z hz with ⟨rfl, rfl | ⟨hz, _⟩⟩ | ⟨rfl, rfl | ⟨hz, _⟩⟩ | ⟨_, _, hz⟩
                · exact inn ka hka _ xm
                · exact q6 z hz
                · exact inn kb hkb _ ym
                · exact q6 z hz
                · exact q6 z hz
              · obtain ⟨q1, q2, q3, q4⟩ := (ht u hu).2 hth
                exact ⟨q1, q2, q3, List.length_eq_zero_iff.1 (by rw [len_ u, q4]; rfl)⟩
            · rw [bs_]
              split
              · exact set_nodup (hb1 kb hkb) (fun hh => sym ka kb hne hka hkb _ xm hh)
              · split
                · exact set_nodup (hb1 ka hka) (fun hh => sym kb ka (Ne.symm hne) hkb hka _ ym hh)
                · exact hb1 u hu
            · have hu : u < 4 := by omega
              rcases mem_ u z hz with ⟨rfl, h1⟩ | ⟨rfl, h1⟩ | ⟨n1, n2, h1⟩ <;> rcases mem_ v z hz2 with ⟨rfl, h2⟩ | ⟨rfl, h2⟩ | ⟨m1, m2, h2⟩
              · omega
              · rcases h1 with rfl | ⟨h1, h1n⟩ <;> rcases h2 with h2 | ⟨h2, h2n⟩
                · exact sym _ _ hne hka hkb _ xm (by rw [h2]; exact ym)
                · exact h2n rfl
                · exact h1n h2
                · exact sym _ _ hne hka hkb _ h2 h1
              · rcases h1 with rfl | ⟨h1, _⟩
                · exact sym ka v (Ne.symm m1) hka hv _ xm h2
                · exact sym _ v (Ne.symm m2) hu hv _ h1 h2
              · rcases h1 with rfl | ⟨h1, h1n⟩ <;> rcases h2 with h2 | ⟨h2, h2n⟩
                · exact sym _ _ hne hka hkb _ xm (by rw [← h2]; exact ym)
                · exact h2n rfl
                · exact h1n h2
                · exact sym _ _ hne hka hkb _ h1 h2
              · omega
              · rcases h1 with rfl | ⟨h1, _⟩
                · exact sym kb v (Ne.symm m2) hkb hv _ ym h2
                · exact sym _ v (Ne.symm m1) hu hv _ h1 h2
              · rcases h2 with rfl | ⟨h2, _⟩
                · exact sym u ka n1 hu hka _ h1 xm
                · exact sym u _ n2 hu hv _ h1 h2
              · rcases h2 with rfl | ⟨h2, _⟩
                · exact sym u kb n2 hu hkb _ h1 ym
                · exact sym u _ n1 hu hv _ h1 h2
              · exact sym u v (by omega) hu hv _ h1 h2
            · rw [(th_ u).1] at hut
              rw [(th_ v).1] at hvt
              rw [(th_ u).2.1, (th_ v).2.1]
              exact hep u v huv hv hut hvt
        · rw [if_neg hp] at hok; simp at hok
    · rw [if_neg hB] at hok
      exact absurd hok hB
  · rw [if_neg hA] at hok
    exact absurd hok hA

end Go.Proofs.Ytkcdddpbmbhelaa
