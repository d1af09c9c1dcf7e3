/-
  Texts put together: VC VH DB DC.
-/
import Derived.Test.YteionppcjgggiaaGreatM08
import Derived.Test.YteionppcjgggiaaGreatM01
import Derived.Test.YteionppcjgggiaaGreatM02
/-
  A ledger's bytes: what is read of any.
-/
namespace Go.Proofs.YteionppcjgggiaaGreat
set_option linter.unusedVariables false
set_option linter.unusedSimpArgs false
set_option maxRecDepth 100000
open Go.RowKit

/-- What is left, and the error, behind a number, a flag, some numbers, an entry. -/
abbrev Rst := List Int × Int
def rdN (n : Int) (s : Rst) : Rst := (numX n s.1 s.2, numE n s.1 s.2)
def rdV (n : Int) (s : Rst) : Int := numV n s.1 s.2
def rdF (s : Rst) : Rst := (numX 1 s.1 s.2, flagE s.1 s.2)
def rdB (s : Rst) : Bool := flagB s.1 s.2
def rowS (s : Rst) : Nat → Rst
  | 0 => s
  | k + 1 => rdN 1 (rowS s k)
def rowV (s : Rst) : Nat → List Int
  | 0 => []
  | k + 1 => rowV s k ++ [rdV 1 (rowS s k)]
def ent4 (s : Rst) : Rst := rdN 1 (rdN 1 (rdN 4 (rdF s)))
def entN (s : Rst) : Nat := (rdV 1 (ent4 s)).toNat
def entS (s : Rst) : Rst := if rdB s = true then rowS (rdN 1 (ent4 s)) (entN s) else rdF s
def entT (s : Rst) : Ten := if rdB s = true then ⟨true, rdV 4 (rdF s), rdV 1 (rdN 4 (rdF s)), rdV 1 (rdN 1 (rdN 4 (rdF s))), rowV (rdN 1 (ent4 s)) (entN s)⟩ else noTen
def ledS (bs : List Int) : Nat → Rst
  | 0 => rdN 4 (rdN 4 (bs, 0))
  | k + 1 => entS (ledS bs k)
def ledK (bs : List Int) (k : Nat) : Led := ⟨rdV 4 (bs, 0), rdV 4 (rdN 4 (bs, 0)), fun j => if j < k then entT (ledS bs j) else noTen⟩
def ledR (bs : List Int) : Led := ledK bs 4
def ledE (bs : List Int) : Int := doneE (ledS bs 4).1 (ledS bs 4).2
def snpE (xs : List Int) (n p : Int) : Int := if whE xs 76 = 0 then (if ledE (whB xs 76) = 0 ∧ rightL (ledR (whB xs 76)) n p = true then 0 else 2) else whE xs 76
def snpL (xs : List Int) (n p : Int) : Led := if snpE xs n p = 0 then ledR (whB xs 76) else noLed

theorem rdN_byts {n : Int} {s : Rst} (h : Byts s.1) : Byts (rdN n s).1 := numX_byts h
theorem rdF_byts {s : Rst} (h : Byts s.1) : Byts (rdF s).1 := numX_byts h
theorem rowS_byts {s : Rst} (h : Byts s.1) : ∀ k, Byts (rowS s k).1
  | 0 => h
  | k + 1 => rdN_byts (rowS_byts h k)
theorem entS_byts {s : Rst} (h : Byts s.1) : Byts (entS s).1 := by
  unfold entS
  split
  · exact rowS_byts (rdN_byts (rdN_byts (rdN_byts (rdN_byts (rdF_byts h))))) _
  · exact rdF_byts h
theorem ledS_byts {bs : List Int} (h : Byts bs) : ∀ k, Byts (ledS bs k).1
  | 0 => rdN_byts (rdN_byts (s := (bs, 0)) h)
  | k + 1 => entS_byts (ledS_byts h k)
theorem take_byts {xs : List Int} (h : Byts xs) (n : Nat) : Byts (xs.take n) := fun x hx => h x (List.mem_of_mem_take hx)
theorem rdV_one {s : Rst} (h : Byts s.1) : 0 ≤ rdV 1 s ∧ rdV 1 s ≤ 255 := by
  unfold rdV numV
  split
  · rename_i hh
    have h1 := leV_bd _ (take_byts h (1 : Int).toNat)
    have h2 : (s.1.take (1 : Int).toNat).length ≤ 1 := by simp; omega
    have h3 : (256 : Int) ^ (s.1.take (1 : Int).toNat).length ≤ 256 := by
      have : (s.1.take (1 : Int).toNat).length = 0 ∨ (s.1.take (1 : Int).toNat).length = 1 := by omega
      rcases this with e | e <;> rw [e] <;> decide
    omega
  · omega
theorem rdV_four {s : Rst} (h : Byts s.1) : 0 ≤ rdV 4 s ∧ rdV 4 s ≤ 4294967295 := by
  unfold rdV numV
  split
  · rename_i hh
    have h1 := leV_bd _ (take_byts h (4 : Int).toNat)
    have h2 : (s.1.take (4 : Int).toNat).length = 4 := by simp; omega
    rw [h2] at h1
    omega
  · omega
theorem rowV_len (s : Rst) : ∀ k, (rowV s k).length = k
  | 0 => rfl
  | k + 1 => by simp [rowV, rowV_len s k]
theorem rowV_one {s : Rst} (h : Byts s.1) : ∀ k, One (rowV s k)
  | 0 => fun x hx => by simp [rowV] at hx
  | k + 1 => fun x hx => by
    rw [rowV, List.mem_append] at hx
    rcases hx with hx | hx
    · exact rowV_one h k x hx
    · simp at hx; subst hx; exact rdV_one (rowS_byts h k)
theorem ent4_byts {s : Rst} (h : Byts s.1) : Byts (ent4 s).1 := rdN_byts (rdN_byts (rdN_byts (rdF_byts h)))
theorem entN_le {s : Rst} (h : Byts s.1) : entN s ≤ 255 := by
  have := rdV_one (ent4_byts h)
  unfold entN
  omega
theorem wf_nat {n : Int} (h0 : 0 ≤ n) (h1 : n ≤ 4294967295) : (Lit.int .i64 n).wf = true := by
  simp [Lit.wf, IntKind.min, IntKind.max, IntKind.bits, IntKind.signed]
  omega
theorem entT_good {s : Rst} (h : Byts s.1) : (entT s).bs.length ≤ 255 ∧ One (entT s).bs ∧ (0 ≤ (entT s).ep ∧ (entT s).ep ≤ 4294967295) := by
  unfold entT
  split
  · exact ⟨by show (rowV _ _).length ≤ 255; rw [rowV_len]; exact entN_le h, rowV_one (rdN_byts (ent4_byts h)) _, rdV_four (rdF_byts h)⟩
  · exact ⟨by simp [noTen], fun x hx => by simp [noTen] at hx, by simp [noTen]⟩
theorem ledK_good {bs : List Int} (h : Byts bs) (k : Nat) : GoodL (ledK bs k) := by
  have key : ∀ j, ((ledK bs k).t j).bs.length ≤ 255 ∧ One ((ledK bs k).t j).bs ∧ (0 ≤ ((ledK bs k).t j).ep ∧ ((ledK bs k).t j).ep ≤ 4294967295) := fun j => by
    show (if j < k then entT (ledS bs j) else noTen).bs.length ≤ 255 ∧ One (if j < k then entT (ledS bs j) else noTen).bs ∧ _
    unfold ledK
    dsimp only
    split
    · exact entT_good (ledS_byts h j)
    · exact ⟨by simp [noTen], fun x hx => by simp [noTen] at hx, by simp [noTen]⟩
  exact ⟨fun j _ => by have := (key j).1; omega, fun j _ b hb => by have := (key j).2.1 b hb; exact wf_nat (by omega) (by omega), fun j _ => wf_nat (key j).2.2.1 (key j).2.2.2⟩
theorem ledK_next (bs : List Int) (k : Nat) : updT (ledK bs k) k (entT (ledS bs k)) = ledK bs (k + 1) := by
  unfold updT ledK
  congr 1
  funext j
  dsimp only
  by_cases e : j = k
  · subst e; simp
  · by_cases e2 : j < k
    · simp [e, e2, show j < k + 1 by omega]
    · simp [e, e2, show ¬ j < k + 1 by omega]

/-! What is written is read. -/
theorem numLe {x : Int} {n : Nat} {r : List Int} (hn : n = 1 ∨ n = 4) (h0 : 0 ≤ x) (h1 : x < 256 ^ n) : rdV n (leB x n ++ r, 0) = x ∧ rdN n (leB x n ++ r, 0) = (r, 0) := by
  have hs : sizeB (n : Int) = true := by rcases hn with rfl | rfl <;> decide
  have hl : ((n : Nat) : Int) ≤ ((leB x n ++ r).length : Int) := by rw [List.length_append, leB_len]; omega
  obtain ⟨e1, e2, e3⟩ := num_ok hs hl
  refine ⟨?_, ?_⟩
  · show numV _ _ _ = _
    rw [e1, Int.toNat_natCast, List.take_left' (leB_len x n), leV_leB n h0 h1]
  · show (numX _ _ _, numE _ _ _) = _
    rw [e2, e3, Int.toNat_natCast, List.drop_left' (leB_len x n)]
theorem numOne {x : Int} {r : List Int} (h0 : 0 ≤ x) (h1 : x ≤ 255) : rdV 1 (x :: r, 0) = x ∧ rdN 1 (x :: r, 0) = (r, 0) := by
  have := numLe (x := x) (n := 1) (r := r) (.inl rfl) h0 (by show x < 256; omega)
  rw [leB_one h0 h1] at this
  exact this
theorem numFour {x : Int} {r : List Int} (h0 : 0 ≤ x) (h1 : x ≤ 4294967295) : rdV 4 (leB x 4 ++ r, 0) = x ∧ rdN 4 (leB x 4 ++ r, 0) = (r, 0) := numLe (n := 4) (.inr rfl) h0 (by show x < 4294967296; omega)
theorem flagOne {r : List Int} : rdB (1 :: r, 0) = true ∧ rdF (1 :: r, 0) = (r, 0) := by
  obtain ⟨e1, e2⟩ := numOne (x := 1) (r := r) (by decide) (by decide)
  have v : numV 1 (1 :: r) 0 = 1 := e1
  have n2 : (numX 1 (1 :: r) 0, numE 1 (1 :: r) 0) = (r, 0) := e2
  injection n2 with n3 n4
  refine ⟨?_, ?_⟩
  · show flagB _ _ = true
    unfold flagB; rw [v]; rfl
  · show (numX _ _ _, flagE _ _) = _
    unfold flagE; rw [v, n3, n4]; rfl
theorem flagZero {r : List Int} : rdB (0 :: r, 0) = false ∧ rdF (0 :: r, 0) = (r, 0) := by
  obtain ⟨e1, e2⟩ := numOne (x := 0) (r := r) (by decide) (by decide)
  have v : numV 1 (0 :: r) 0 = 0 := e1
  have n2 : (numX 1 (0 :: r) 0, numE 1 (0 :: r) 0) = (r, 0) := e2
  injection n2 with n3 n4
  refine ⟨?_, ?_⟩
  · show flagB _ _ = false
    unfold flagB; rw [v]; rfl
  · show (numX _ _ _, flagE _ _) = _
    unfold flagE; rw [v, n3, n4]; rfl
theorem row_back {xs r : List Int} (h : One xs) : ∀ k, k ≤ xs.length → rowS (xs ++ r, 0) k = (xs.drop k ++ r, 0) ∧ rowV (xs ++ r, 0) k = xs.take k
  | 0, _ => by simp [rowS, rowV]
  | k + 1, hk => by
    obtain ⟨e1, e2⟩ := row_back h (r := r) k (by omega)
    have hx := h _ (getD_mem0 (xs := xs) (q := k) (by omega))
    have hd : xs.drop k = xs.getD k 0 :: xs.drop (k + 1) := by
      rw [List.drop_eq_getElem_cons (by omega), List.getD_eq_getElem?_getD, List.getElem?_eq_getElem (by omega)]; rfl
    obtain ⟨f1, f2⟩ := numOne (x := xs.getD k 0) (r := xs.drop (k + 1) ++ r) hx.1 hx.2
    rw [rowS, rowV, e1, e2, hd, List.cons_append, f1, f2, take_snocI (by omega)]
    exact ⟨rfl, rfl⟩
theorem ent_back {x : Ten} {r : List Int} (h : x.th = true → FitsT x) (h2 : x.th = false → x = noTen) : entT (entL x ++ r, 0) = x ∧ entS (entL x ++ r, 0) = (r, 0) := by
  cases ht : x.th
  · obtain rfl := h2 ht
    obtain ⟨f1, f2⟩ := flagZero (r := r)
    have e : entL noTen = [0] := rfl
    rw [e, List.cons_append, List.nil_append]
    unfold entT entS
    rw [f1, f2]
    exact ⟨rfl, rfl⟩
  · have f := h ht
    obtain ⟨xt, xe, xz, xp, xb⟩ := x
    simp only [] at ht
    subst ht
    have q1 := f.ep
    have q2 := f.sz
    have q3 := f.sp
    have q4 := f.len
    have q5 := f.bs
    simp only [] at q1 q2 q3 q4 q5
    have e : entL (⟨true, xe, xz, xp, xb⟩ : Ten) ++ r = 1 :: (leB xe 4 ++ (xz :: (xp :: ((xb.length : Int) :: (xb ++ r))))) := by simp [entL]
    obtain ⟨a1, a2⟩ := flagOne (r := leB xe 4 ++ (xz :: (xp :: ((xb.length : Int) :: (xb ++ r)))))
    obtain ⟨b1, b2⟩ := numFour (x := xe) (r := xz :: (xp :: ((xb.length : Int) :: (xb ++ r)))) q1.1 q1.2
    obtain ⟨c1, c2⟩ := numOne (x := xz) (r := xp :: ((xb.length : Int) :: (xb ++ r))) q2.1 q2.2
    obtain ⟨d1, d2⟩ := numOne (x := xp) (r := (xb.length : Int) :: (xb ++ r)) q3.1 q3.2
    obtain ⟨g1, g2⟩ := numOne (x := (xb.length : Int)) (r := xb ++ r) (by omega) (by omega)
    obtain ⟨h1, h3⟩ := row_back (r := r) q5 xb.length (Nat.le_refl _)
    rw [e]
    unfold entT entS entN ent4
    rw [if_pos a1, if_pos a1, a2, b1, b2, c1, c2, d1, d2, g1, g2, Int.toNat_natCast, h1, h3]
    simp
theorem bodyTo_rest (L : Led) : ∀ k, k ≤ 4 → ∃ r, bodyL L = bodyTo L k ++ r ∧ (k < 4 → ∃ r2, r = entL (L.t k) ++ r2) ∧ (k = 4 → r = []) := by
  intro k hk
  unfold bodyL
  obtain rfl | rfl | rfl | rfl | rfl : k = 0 ∨ k = 1 ∨ k = 2 ∨ k = 3 ∨ k = 4 := by omega
  · exact ⟨_, by simp only [bodyTo, List.append_assoc]; rfl, fun _ => ⟨_, rfl⟩, fun h => by omega⟩
  · exact ⟨_, by simp only [bodyTo, List.append_assoc]; rfl, fun _ => ⟨_, rfl⟩, fun h => by omega⟩
  · exact ⟨_, by simp only [bodyTo, List.append_assoc]; rfl, fun _ => ⟨_, rfl⟩, fun h => by omega⟩
  · exact ⟨entL (L.t 3), by simp only [bodyTo, List.append_assoc], fun _ => ⟨[], by simp⟩, fun h => by omega⟩
  · exact ⟨[], by simp, fun h => by omega, fun _ => rfl⟩
/-- A ledger that fits is read of its body. -/
theorem led_back {L : Led} (h : FitsL L) (h2 : ∀ j, j < 4 → (L.t j).th = false → L.t j = noTen) :
    (ledR (bodyL L)).gen = L.gen ∧ (ledR (bodyL L)).eps = L.eps ∧ (∀ j, j < 4 → (ledR (bodyL L)).t j = L.t j) ∧ ledE (bodyL L) = 0 := by
  obtain ⟨g1, g2⟩ := h.1
  obtain ⟨e1, e2⟩ := h.2.1
  have s0 : ∃ r, bodyL L = leB L.gen 4 ++ (leB L.eps 4 ++ r) ∧ r = entL (L.t 0) ++ (entL (L.t 1) ++ (entL (L.t 2) ++ (entL (L.t 3) ++ []))) := ⟨_, by simp only [bodyL, bodyTo, List.append_assoc, List.append_nil], rfl⟩
  obtain ⟨r, hr, hr2⟩ := s0
  obtain ⟨a1, a2⟩ := numFour (x := L.gen) (r := leB L.eps 4 ++ r) g1 g2
  obtain ⟨b1, b2⟩ := numFour (x := L.eps) (r := r) e1 e2
  rw [← hr] at a1 a2
  have z0 : ledS (bodyL L) 0 = (entL (L.t 0) ++ (entL (L.t 1) ++ (entL (L.t 2) ++ (entL (L.t 3) ++ []))), 0) := by
    rw [ledS, a2, b2, hr2]
  obtain ⟨u0, v0⟩ := ent_back (r := entL (L.t 1) ++ (entL (L.t 2) ++ (entL (L.t 3) ++ []))) (h.2.2 0 (by omega)) (h2 0 (by omega))
  have z1 : ledS (bodyL L) 1 = (entL (L.t 1) ++ (entL (L.t 2) ++ (entL (L.t 3) ++ [])), 0) := by rw [ledS, z0, v0]
  obtain ⟨u1, v1⟩ := ent_back (r := entL (L.t 2) ++ (entL (L.t 3) ++ [])) (h.2.2 1 (by omega)) (h2 1 (by omega))
  have z2 : ledS (bodyL L) 2 = (entL (L.t 2) ++ (entL (L.t 3) ++ []), 0) := by rw [ledS, z1, v1]
  obtain ⟨u2, v2⟩ := ent_back (r := entL (L.t 3) ++ []) (h.2.2 2 (by omega)) (h2 2 (by omega))
  have z3 : ledS (bodyL L) 3 = (entL (L.t 3) ++ [], 0) := by rw [ledS, z2, v2]
  obtain ⟨u3, v3⟩ := ent_back (r := []) (h.2.2 3 (by omega)) (h2 3 (by omega))
  have z4 : ledS (bodyL L) 4 = ([], 0) := by rw [ledS, z3, v3]
  refine ⟨a1, ?_, fun j hj => ?_, ?_⟩
  · show rdV 4 (rdN 4 (bodyL L, 0)) = _
    rw [a2, b1]
  · show (if j < 4 then entT (ledS (bodyL L) j) else noTen) = _
    rw [if_pos hj]
    obtain rfl | rfl | rfl | rfl : j = 0 ∨ j = 1 ∨ j = 2 ∨ j = 3 := by omega
    · rw [z0, u0]
    · rw [z1, u1]
    · rw [z2, u2]
    · rw [z3, u3]
  · unfold ledE doneE
    rw [z4]
    rfl

end Go.Proofs.YteionppcjgggiaaGreat

/-
  What may be is read of its bytes, and these fit in a page.
-/
namespace Go.Proofs.YteionppcjgggiaaGreat
set_option linter.unusedVariables false
set_option linter.unusedSimpArgs false
set_option maxRecDepth 100000
open Go.RowKit

/-- The same ledger, as far as the four tenants go. -/
structure EqL (A B : Led) : Prop where
  gen : A.gen = B.gen
  eps : A.eps = B.eps
  t : ∀ j, j < 4 → A.t j = B.t j
theorem EqL.refl (A : Led) : EqL A A := ⟨rfl, rfl, fun _ _ => rfl⟩
theorem EqL.symm {A B : Led} (h : EqL A B) : EqL B A := ⟨h.gen.symm, h.eps.symm, fun j hj => (h.t j hj).symm⟩
theorem EqL.trans {A B C : Led} (h : EqL A B) (h2 : EqL B C) : EqL A C := ⟨h.gen.trans h2.gen, h.eps.trans h2.eps, fun j hj => (h.t j hj).trans (h2.t j hj)⟩
theorem EqL.taken {A B : Led} (h : EqL A B) : ∀ k, k ≤ 4 → takenTo A k = takenTo B k
  | 0, _ => rfl
  | k + 1, hk => by rw [takenTo, takenTo, h.taken k (by omega), h.t k (by omega)]
theorem EqL.epochs {A B : Led} (h : EqL A B) : ∀ k, k ≤ 4 → epochsTo A k = epochsTo B k
  | 0, _ => rfl
  | k + 1, hk => by rw [epochsTo, epochsTo, h.epochs k (by omega), h.t k (by omega)]
theorem EqL.right {A B : Led} {n p : Int} (h : EqL A B) (hA : RightP A n p) : RightP B n p :=
  ⟨h.gen ▸ hA.gen, h.eps ▸ hA.eps, fun j hj => by rw [← h.t j hj, ← h.eps]; exact hA.ten j hj, by
    have := hA.blk
    show (takenTo B 4).Nodup
    rw [← h.taken 4 (by omega)]
    exact this, by
    have := hA.epo
    show (epochsTo B 4).Nodup
    rw [← h.epochs 4 (by omega)]
    exact this⟩
theorem EqL.cells {A B : Led} (h : EqL A B) (V : Nat → Value) : ledC A V = ledC B V := by
  unfold ledC
  rw [h.gen, h.eps, h.t 0 (by omega), h.t 1 (by omega), h.t 2 (by omega), h.t 3 (by omega)]
theorem EqL.is {A B : Led} {w : World} {V : Nat → Value} (h : EqL A B) (hA : LedIs w A V) : LedIs w B V := fun j hj => by rw [← h.t j hj]; exact hA j hj

theorem RightP.no {L : Led} {n p : Int} (h : RightP L n p) : ∀ j, j < 4 → (L.t j).th = false → L.t j = noTen := fun j hj ht => by
  obtain ⟨h1, h2, h3, h4⟩ := (h.ten j hj).2 ht
  cases hx : L.t j
  rw [hx] at ht h1 h2 h3 h4
  simp only [] at ht h1 h2 h3 h4
  subst ht h1 h2 h3 h4
  rfl

theorem whole_back {body : List Int} (hl : body.length ≤ 65535) : whE (frL 76 body) 76 = 0 ∧ whB (frL 76 body) 76 = body := by
  have hb := open_back (k := 76) (body := body) (rest := []) (by decide) (by decide) hl
  rw [List.append_nil] at hb
  obtain ⟨_, h1, h2, h3, h4⟩ := hb
  have e : whE (frL 76 body) 76 = 0 := by
    unfold whE
    rw [if_pos h1, if_pos ⟨by rw [h4, frL_len]; omega, h2⟩]
  exact ⟨e, by unfold whB; rw [if_pos e, h3]⟩

/-- What may be is read of its bytes. -/
theorem snap_back {L : Led} {n p : Int} (h : RightP L n p) (hn0 : -9223372036854775000 ≤ n) (hn : n ≤ 256) :
    snE L n p = 0 ∧ snL L n p = frL 76 (bodyL L) ∧ snpE (frL 76 (bodyL L)) n p = 0 ∧ EqL (snpL (frL 76 (bodyL L)) n p) L := by
  have hm : min n 256 = n := by omega
  have hr : rightL L n p = true := (rightL_iff hn0 (by omega)).2 h
  have hF := h.fits hn hn0
  obtain ⟨w1, w2⟩ := whole_back (body := bodyL L) (by have := bodyTo_len hF 4 (by omega); show (bodyTo L 4).length ≤ _; omega)
  obtain ⟨b1, b2, b3, b4⟩ := led_back hF h.no
  have hE : EqL (ledR (bodyL L)) L := ⟨b1, b2, b3⟩
  have hr2 : rightL (ledR (bodyL L)) n p = true := (rightL_iff hn0 (by omega)).2 (hE.symm.right h)
  have e : snpE (frL 76 (bodyL L)) n p = 0 := by unfold snpE; rw [if_pos w1, w2, if_pos ⟨b4, hr2⟩]
  refine ⟨by unfold snE; rw [hm, if_pos hr], by unfold snL; rw [hm, if_pos hr], e, ?_⟩
  unfold snpL
  rw [if_pos e, w2]
  exact hE

/-- Different numbers of a range are no more than the range. -/
theorem few_of : ∀ (k : Nat) (a : Int) (xs : List Int), xs.Nodup → (∀ x ∈ xs, a ≤ x ∧ x < a + k) → xs.length ≤ k
  | 0, a, xs, _, h => by
    cases xs with
    | nil => simp
    | cons x r => have := h x (by simp); omega
  | k + 1, a, xs, hn, h => by
    by_cases hm : a + k ∈ xs
    · have h1 := few_of k a (xs.erase (a + k)) (hn.erase _) (fun x hx => by
        have hx2 := h x (List.mem_of_mem_erase hx)
        have hne : x ≠ a + k := fun e => by
          subst e
          exact (List.Nodup.not_mem_erase hn) hx
        omega)
      rw [List.length_erase_of_mem hm] at h1
      omega
    · have h1 := few_of k a xs hn (fun x hx => by
        have hx2 := h x hx
        have hne : x ≠ a + k := fun e => hm (e ▸ hx)
        omega)
      omega
theorem entL_size (x : Ten) : (entL x).length ≤ 8 + x.bs.length := by
  unfold entL
  split
  · simp [leB_len]; omega
  · simp only [List.length_cons, List.length_nil]; omega
theorem bodyTo_size (L : Led) : ∀ k, (bodyTo L k).length ≤ 8 + 8 * k + (takenTo L k).length
  | 0 => by simp [bodyTo, leB_len, takenTo]
  | k + 1 => by
    have h1 := bodyTo_size L k
    have h2 := entL_size (L.t k)
    simp only [bodyTo, takenTo, List.length_append]
    omega
theorem RightP.few {L : Led} {n p : Int} (h : RightP L n p) (hn : n ≤ 64) : (takenL L).length ≤ 62 := by
  refine few_of 62 2 _ h.blk (fun x hx => ?_)
  obtain ⟨j, hj, hx⟩ := (taken_mem 4 x).1 hx
  cases ht : (L.t j).th
  · rw [((h.ten j hj).2 ht).2.2.2] at hx
    cases hx
  · have := ((h.ten j hj).1 ht).2.2.2.2.2 x hx
    omega
/-- What may be fits in a page. -/
theorem snap_fits {L : Led} {n p : Int} (h : RightP L n p) (hn : n ≤ 64) : (frL 76 (bodyL L)).length ≤ 109 := by
  have h1 := bodyTo_size L 4
  have h2 : (takenTo L 4).length ≤ 62 := h.few hn
  rw [frL_len]
  show (bodyTo L 4).length + 7 ≤ 109
  omega

end Go.Proofs.YteionppcjgggiaaGreat

/-
  Package draws: what stands in memory; Next, Ops, Faults; the document's Next.
-/
namespace Go.Proofs.YteionppcjgggiaaGreat
set_option linter.unusedVariables false
set_option linter.unusedSimpArgs false
set_option maxRecDepth 100000
open Go.RowKit

/-- Draws that stand in block b: whose faults (rows V, read as zs), how many counted, how many failed. -/
structure DrAt (w : World) (b : Nat) (V : Nat → Value) (zs : Nat → List Int) (N M : Nat → Int) : Prop where
  row : ∀ j, j < 4 → w.cell? ⟨b, j, none⟩ = some (V j)
  ops : ∀ j, j < 4 → w.cell? ⟨b, 4 + j, none⟩ = some (.int .i64 (N j))
  bad : ∀ j, j < 4 → w.cell? ⟨b, 8 + j, none⟩ = some (.int .i64 (M j))
  free : ∀ o, w.frozen? ⟨b, o, none⟩ = false
  ints : ∀ j, j < 4 → Ints w (V j) (zs j)
  apart : ∀ j, j < 4 → ∀ k, (V j).ownBlock = some k → k ≠ b


theorem DrAt.lt {w : World} {b : Nat} {V : Nat → Value} {zs : Nat → List Int} {N M : Nat → Int} (h : DrAt w b V zs N M) : b < w.heap.size := World.block_lt_of_cell? w _ (h.row 0 (by omega))
theorem DrAt.other {w w' : World} {b : Nat} {V : Nat → Value} {zs : Nat → List Int} {N M : Nat → Int} {r : Option Nat} (h : DrAt w b V zs N M) (hg : w.grownBy w' r) (hr : some b ≠ r) (hv : ∀ j, j < 4 → ∀ k, (V j).ownBlock = some k → some k ≠ r) : DrAt w' b V zs N M := by
  have e : ∀ o, w'.cell? ⟨b, o, none⟩ = w.cell? ⟨b, o, none⟩ := fun o => World.cell?_of_block (hg.block b h.lt hr)
  exact ⟨fun j hj => (e j).trans (h.row j hj), fun j hj => (e _).trans (h.ops j hj), fun j hj => (e _).trans (h.bad j hj), fun o => (World.frozen?_of_block (hg.block b h.lt hr)).trans (h.free o), fun j hj => (h.ints j hj).kept hg (hv j hj), h.apart⟩

theorem Ints.setOther {w : World} {v : Value} {xs : List Int} {b o : Nat} {u : Value} (h : Ints w v xs) (hv : ∀ k, v.ownBlock = some k → k ≠ b) : Ints (w.setCell ⟨b, o, none⟩ u) v xs :=
  h.kept (gb_set (gb_refl w (some b)) o u) (fun k hk e => hv k hk (by simpa using e))
def upd (N : Nat → Int) (j : Nat) (x : Int) : Nat → Int := fun i => if i = j then x else N i
theorem DrAt.setOps {w : World} {b : Nat} {V : Nat → Value} {zs : Nat → List Int} {N M : Nat → Int} (h : DrAt w b V zs N M) {j : Nat} (hj : j < 4) (x : Int) : DrAt (w.setCell ⟨b, 4 + j, none⟩ (.int .i64 x)) b V zs (upd N j x) M := by
  refine ⟨fun i hi => (World.cell?_setCell_other _ _ _ _ (ne_off (by omega))).trans (h.row i hi), fun i hi => ?_, fun i hi => (World.cell?_setCell_other _ _ _ _ (ne_off (by omega))).trans (h.bad i hi), fun o => by simpa using h.free o, fun i hi => (h.ints i hi).setOther (h.apart i hi), h.apart⟩
  unfold upd
  by_cases e : i = j
  · subst e; rw [if_pos rfl]; exact World.cell?_setCell_same _ _ _ (h.ops i hi)
  · rw [if_neg e]; exact (World.cell?_setCell_other _ _ _ _ (ne_off (by omega))).trans (h.ops i hi)
theorem DrAt.setBad {w : World} {b : Nat} {V : Nat → Value} {zs : Nat → List Int} {N M : Nat → Int} (h : DrAt w b V zs N M) {j : Nat} (hj : j < 4) (x : Int) : DrAt (w.setCell ⟨b, 8 + j, none⟩ (.int .i64 x)) b V zs N (upd M j x) := by
  refine ⟨fun i hi => (World.cell?_setCell_other _ _ _ _ (ne_off (by omega))).trans (h.row i hi), fun i hi => (World.cell?_setCell_other _ _ _ _ (ne_off (by omega))).trans (h.ops i hi), fun i hi => ?_, fun o => by simpa using h.free o, fun i hi => (h.ints i hi).setOther (h.apart i hi), h.apart⟩
  unfold upd
  by_cases e : i = j
  · subst e; rw [if_pos rfl]; exact World.cell?_setCell_same _ _ _ (h.bad i hi)
  · rw [if_neg e]; exact (World.cell?_setCell_other _ _ _ _ (ne_off (by omega))).trans (h.bad i hi)
theorem DrAt.drew {w : World} {b : Nat} {V : Nat → Value} {zs : Nat → List Int} {N M : Nat → Int} (h : DrAt w b V zs N M) : DrAt w.drew b V zs N M := h.other (gb_drew (gb_refl w none)) (by simp) (fun _ _ _ _ => by simp)
theorem upd_same (N : Nat → Int) (j : Nat) : upd N j (N j) = N := by funext i; unfold upd; split <;> simp_all

/-- Whether operations of his are counted. -/
theorem counts_is (b : Nat) (n : Int) (w : World) :
    Calls Tryz.prog 65 #[.pointer (some ⟨b, 0, none⟩), .int .i64 n] w fun e w' => e = .returned (.bool (decide (0 ≤ n ∧ n < 4))) ∧ w = w' := by
  have part : n < 0 ∨ (0 ≤ n ∧ n < 4) ∨ (0 ≤ n ∧ 4 ≤ n) := by omega
  rcases part with h | ⟨h, h2⟩ | ⟨h, h2⟩
  all_goals
    go_enter Tryz.func65, Tryz.ntmps65
    go_wp2
    go_ret
    exact ⟨by simp; omega, rfl⟩
theorem counts_nil (n : Int) (w : World) :
    Calls Tryz.prog 65 #[.pointer none, .int .i64 n] w fun e w' => e = .returned (.bool false) ∧ w = w' := by
  go_enter Tryz.func65, Tryz.ntmps65
  go_wp2
  go_ret
  exact ⟨rfl, rfl⟩

theorem next_none (p : Option Addr) (n : Int) (w : World) (h : p = none ∨ (∃ b, p = some ⟨b, 0, none⟩) ∧ ¬ (0 ≤ n ∧ n < 4)) :
    Calls Tryz.prog 47 #[.pointer p, .int .i64 n] w fun e w' => e = .returned (.bool false) ∧ w = w' := by
  rcases h with rfl | ⟨⟨b, rfl⟩, h⟩
  · go_enter Tryz.func47, Tryz.ntmps47
    go_wp2_with (go_at_call 65; refine (counts_nil _ _).mono ?_; rintro e w' ⟨rfl, rfl⟩)
    go_ret
    exact ⟨rfl, rfl⟩
  · have C := counts_is b n w
    rw [decide_eq_false h] at C
    clear h
    go_enter Tryz.func47, Tryz.ntmps47
    go_wp2_with (go_at_call 65; refine C.mono ?_; rintro e w' ⟨rfl, rfl⟩)
    go_ret
    exact ⟨rfl, rfl⟩

/-- A tenant's next operation. -/
def hitB (zs : Nat → List Int) (N : Nat → Int) (j : Nat) : Bool := decide (N j + 1 ∈ zs j)
def nextM (zs : Nat → List Int) (N M : Nat → Int) (j : Nat) : Nat → Int := upd M j (if hitB zs N j then M j + 1 else M j)
def Nexts (b : Nat) (V : Nat → Value) (zs : Nat → List Int) (N M : Nat → Int) (j : Nat) (w : World) (e : Ending) (w' : World) : Prop :=
  e = .returned (.bool (hitB zs N j)) ∧ DrAt w' b V zs (upd N j (N j + 1)) (nextM zs N M j) ∧ w.grownBy w' (some b)

set_option maxRecDepth 100000 in
set_option maxHeartbeats 800000 in
theorem next_is (b j : Nat) (V : Nat → Value) (zs : Nat → List Int) (N M : Nat → Int) (w : World) (h : DrAt w b V zs N M) (hj : j < 4) (h0 : 0 ≤ N j) (h1 : N j < 100000) (h2 : 0 ≤ M j) (h3 : M j < 100000) (hm : (zs j).length ≤ 9223372036854775807) :
    Calls Tryz.prog 47 #[.pointer (some ⟨b, 0, none⟩), .int .i64 (j : Int)] w (Nexts b V zs N M j w) := by
  have C := counts_is b j w
  rw [decide_eq_true (show 0 ≤ (j : Int) ∧ (j : Int) < 4 by omega)] at C
  have A := add64 b (4 + j) (N j) w (h.ops j hj) (h.free _) h0 (by omega)
  have D1 := h.setOps hj (N j + 1)
  have g1 := gb_set (gb_refl w (some b)) (4 + j) (.int .i64 (N j + 1))
  obtain ⟨w1, hw1⟩ : ∃ w1, w.setCell ⟨b, 4 + j, none⟩ (.int .i64 (N j + 1)) = w1 := ⟨_, rfl⟩
  rw [hw1] at A D1 g1
  have K := contains_any (V j) (zs j) (N j + 1) w1 (D1.ints j hj) hm
  have hw : IntKind.i64.wrap (N j + 1) = N j + 1 := IntWalk.i64_in _ ⟨by omega, by omega⟩
  have r1 := D1.row j hj
  have B := add64 b (8 + j) (M j) w1 (D1.bad j hj) (D1.free _) h2 (by omega)
  have D2 := D1.setBad hj (M j + 1)
  have g2 := gb_set g1 (8 + j) (.int .i64 (M j + 1))
  obtain ⟨ao, cp, bb, oo, hv, _⟩ := (D1.ints j hj).form
  rw [hv] at K r1
  unfold Nexts nextM
  rw [show (decide (N j + 1 ∈ zs j)) = hitB zs N j from rfl] at K
  have H1 := Lib.hid (And.intro D1 (And.intro D2 (And.intro g1 g2)))
  generalize hx : N j + 1 = x at *
  generalize hy : M j + 1 = y at *
  generalize hh : hitB zs N j = hit at *
  have h4 : j = 0 ∨ j = 1 ∨ j = 2 ∨ j = 3 := by omega
  clear h D1 D2 g1 g2 h0 h1 h2 h3 hw1 hv hh hx hy hm
  cases hit
  · rcases h4 with rfl | rfl | rfl | rfl
    all_goals
      go_enter Tryz.func47, Tryz.ntmps47
      go_wp2_with (first
        | (go_at_call 65; refine C.mono ?_; rintro e w' ⟨rfl, rfl⟩)
        | (go_at_call 62; refine A.mono ?_; rintro e w' ⟨rfl, rfl⟩)
        | (go_at_call 66; refine K.mono ?_; rintro e w' ⟨rfl, rfl⟩))
      go_ret
      exact ⟨rfl, by simpa [upd_same] using H1.out.1, H1.out.2.2.1⟩
  · rcases h4 with rfl | rfl | rfl | rfl
    all_goals
      have hfl := Lib.hid True.intro
      go_enter Tryz.func47, Tryz.ntmps47
      go_wp2_with (first
        | (go_at_call 65; refine C.mono ?_; rintro e w' ⟨rfl, rfl⟩)
        | (go_at_call 62; clear hfl; refine A.mono ?_; rintro e w' ⟨rfl, rfl⟩)
        | (go_at_call 66; refine K.mono ?_; rintro e w' ⟨rfl, rfl⟩)
        | (go_at_call 62; refine B.mono ?_; rintro e w' ⟨rfl, rfl⟩))
      go_ret
      exact ⟨rfl, H1.out.2.1, H1.out.2.2.2⟩

end Go.Proofs.YteionppcjgggiaaGreat

/-
  Package draws: New; the document's Check and Next.
-/
namespace Go.Proofs.YteionppcjgggiaaGreat
set_option linter.unusedVariables false
set_option linter.unusedSimpArgs false
set_option maxRecDepth 100000
open Go.RowKit

def newE (zs : Nat → List Int) : Int :=
  if 64 < (zs 0).length ∨ 64 < (zs 1).length ∨ 64 < (zs 2).length ∨ 64 < (zs 3).length then 4
  else if lowB (zs 0) = true ∨ lowB (zs 1) = true ∨ lowB (zs 2) = true ∨ lowB (zs 3) = true then 5 else 0
theorem newE_many {zs : Nat → List Int} {j : Nat} (hj : j < 4) (h : 64 < (zs j).length) : newE zs = 4 := by
  unfold newE
  have : j = 0 ∨ j = 1 ∨ j = 2 ∨ j = 3 := by omega
  rcases this with rfl | rfl | rfl | rfl <;> rw [if_pos (by omega)]
theorem newE_low {zs : Nat → List Int} (h : ∀ j, j < 4 → ¬ 64 < (zs j).length) {j : Nat} (hj : j < 4) (hl : lowB (zs j) = true) : newE zs = 5 := by
  unfold newE
  have h0 := h 0 (by omega)
  have h1 := h 1 (by omega)
  have h2 := h 2 (by omega)
  have h3 := h 3 (by omega)
  rw [if_neg (by omega), if_pos]
  have : j = 0 ∨ j = 1 ∨ j = 2 ∨ j = 3 := by omega
  rcases this with rfl | rfl | rfl | rfl <;> simp [hl]
theorem newE_ok {zs : Nat → List Int} (h : ∀ j, j < 4 → ¬ 64 < (zs j).length) (hl : ∀ j, j < 4 → lowB (zs j) = false) : newE zs = 0 := by
  unfold newE
  have h0 := h 0 (by omega)
  have h1 := h 1 (by omega)
  have h2 := h 2 (by omega)
  have h3 := h 3 (by omega)
  rw [if_neg (by omega), if_neg]
  simp [hl 0 (by omega), hl 1 (by omega), hl 2 (by omega), hl 3 (by omega)]

/-- Four rows of faults, as one value. -/
structure Four (w : World) (U : Nat → Value) (zs : Nat → List Int) : Prop where
  ints : ∀ j, j < 4 → Ints w (U j) (zs j)
  len : ∀ j, j < 4 → (zs j).length ≤ 9223372036854775807
  low : ∀ j, j < 4 → ∀ k, (U j).ownBlock = some k → k < w.heap.size
theorem Four.kept {w w' : World} {U : Nat → Value} {zs : Nat → List Int} (h : Four w U zs) (hg : w.grownBy w' none) : Four w' U zs :=
  ⟨fun j hj => (h.ints j hj).kept hg (by simp), h.len, fun j hj k hk => Nat.lt_of_lt_of_le (h.low j hj k hk) hg.size⟩

def NewP (w : World) (zs : Nat → List Int) (e : Ending) (w' : World) : Prop :=
  (newE zs ≠ 0 ∧ e = .returned (.tuple #[.pointer none, .int .i64 (newE zs)]) ∧ w.grownBy w' none) ∨
  (newE zs = 0 ∧ ∃ b V, e = .returned (.tuple #[.pointer (some ⟨b, 0, none⟩), .int .i64 0]) ∧ DrAt w' b V zs (fun _ => 0) (fun _ => 0) ∧ w.grownBy w' none ∧ w.heap.size ≤ b ∧ ∀ j, j < 4 → ∀ k, (V j).ownBlock = some k → w.heap.size ≤ k ∧ k < w'.heap.size)

/-- Draws that are being made: k rows are laid. -/
structure Part (w : World) (b k : Nat) (V : Nat → Value) (zs : Nat → List Int) : Prop where
  row : ∀ j, j < 4 → w.cell? ⟨b, j, none⟩ = some (V j)
  ops : ∀ j, j < 4 → w.cell? ⟨b, 4 + j, none⟩ = some (.int .i64 0)
  bad : ∀ j, j < 4 → w.cell? ⟨b, 8 + j, none⟩ = some (.int .i64 0)
  free : ∀ o, w.frozen? ⟨b, o, none⟩ = false
  ints : ∀ j, j < k → Ints w (V j) (zs j)
  own : ∀ j, j < k → ∀ i, (V j).ownBlock = some i → b < i ∧ i < w.heap.size

theorem Part.next {w w1 : World} {b k : Nat} {V : Nat → Value} {zs : Nat → List Int} {v : Value} (h : Part w b k V zs) (hb : b < w.heap.size) (hg : w.grownBy w1 none) (hv : Ints w1 v (zs k)) (ho : ∀ i, v.ownBlock = some i → w.heap.size ≤ i ∧ i < w1.heap.size) (hk : k < 4) :
    Part (w1.setCell ⟨b, k, none⟩ v) b (k + 1) (fun j => if j = k then v else V j) zs := by
  have e : ∀ o, w1.cell? ⟨b, o, none⟩ = w.cell? ⟨b, o, none⟩ := fun o => World.cell?_of_block (hg.block b hb (by simp))
  have hs : ∀ W : World, ∀ p u, (W.setCell p u).heap.size = W.heap.size := fun W p u => by simp [World.setCell]
  refine ⟨fun j hj => ?_, fun j hj => ?_, fun j hj => ?_, fun o => ?_, fun j hj => ?_, fun j hj i hi => ?_⟩
  · by_cases hjk : j = k
    · subst hjk; rw [if_pos rfl]; exact World.cell?_setCell_same _ _ _ ((e j).trans (h.row j hj))
    · rw [if_neg hjk, World.cell?_setCell_other _ _ _ _ (ne_off (by omega)), e]; exact h.row j hj
  · rw [World.cell?_setCell_other _ _ _ _ (ne_off (by omega)), e]; exact h.ops j hj
  · rw [World.cell?_setCell_other _ _ _ _ (ne_off (by omega)), e]; exact h.bad j hj
  · rw [World.frozen?_setCell]; exact (World.frozen?_of_block (hg.block b hb (by simp))).trans (h.free o)
  · by_cases hjk : j = k
    · subst hjk
      simp only [if_true]
      exact hv.setOther (fun i hi => by have := ho i hi; omega)
    · simp only [if_neg hjk]
      exact ((h.ints j (by omega)).kept hg (by simp)).setOther (fun i hi => by have := h.own j (by omega) i hi; omega)
  · rw [hs]
    by_cases hjk : j = k
    · subst hjk
      simp only [if_true] at hi
      have := ho i hi
      omega
    · simp only [if_neg hjk] at hi
      have := h.own j (by omega) i hi
      have := hg.size
      omega

set_option maxRecDepth 100000 in
set_option maxHeartbeats 1600000 in
theorem new_any (U : Nat → Value) (zs : Nat → List Int) (w : World) (hF : Four w U zs) :
    Calls Tryz.prog 15 #[.agg #[U 0, U 1, U 2, U 3]] w (NewP w zs) := by
  have HF := Lib.hid hF
  have shape : ∀ j, j < 4 → ∃ ao cap, U j = .slice ao (zs j).length cap := fun j hj => by
    obtain ⟨ao, cap, _, _, h, _⟩ := (hF.ints j hj).form
    exact ⟨ao, cap, h⟩
  obtain ⟨a0, c0, h0⟩ := shape 0 (by omega)
  obtain ⟨a1, c1, h1⟩ := shape 1 (by omega)
  obtain ⟨a2, c2, h2⟩ := shape 2 (by omega)
  obtain ⟨a3, c3, h3⟩ := shape 3 (by omega)
  have HU := Lib.hid (And.intro h0 (And.intro h1 (And.intro h2 h3)))
  rw [h0, h1, h2, h3]
  clear shape h0 h1 h2 h3 hF
  have hg1 := World.grownBy_alloc w (.cells #[.slice a0 (zs 0).length c0, .slice a1 (zs 1).length c1, .slice a2 (zs 2).length c2, .slice a3 (zs 3).length c3] 53) none
  have hsz1 : (w.alloc (.cells #[.slice a0 (zs 0).length c0, .slice a1 (zs 1).length c1, .slice a2 (zs 2).length c2, .slice a3 (zs 3).length c3] 53)).heap.size = w.heap.size + 1 := by simp
  have b0 : (w.alloc (.cells #[.slice a0 (zs 0).length c0, .slice a1 (zs 1).length c1, .slice a2 (zs 2).length c2, .slice a3 (zs 3).length c3] 53)).cell? ⟨w.heap.size, 0, none⟩ = some (.slice a0 (zs 0).length c0) := by simp
  have b1 : (w.alloc (.cells #[.slice a0 (zs 0).length c0, .slice a1 (zs 1).length c1, .slice a2 (zs 2).length c2, .slice a3 (zs 3).length c3] 53)).cell? ⟨w.heap.size, 1, none⟩ = some (.slice a1 (zs 1).length c1) := by simp
  have b2 : (w.alloc (.cells #[.slice a0 (zs 0).length c0, .slice a1 (zs 1).length c1, .slice a2 (zs 2).length c2, .slice a3 (zs 3).length c3] 53)).cell? ⟨w.heap.size, 2, none⟩ = some (.slice a2 (zs 2).length c2) := by simp
  have b3 : (w.alloc (.cells #[.slice a0 (zs 0).length c0, .slice a1 (zs 1).length c1, .slice a2 (zs 2).length c2, .slice a3 (zs 3).length c3] 53)).cell? ⟨w.heap.size, 3, none⟩ = some (.slice a3 (zs 3).length c3) := by simp
  have i0 : ∀ w, (Instr.index 53 (.agg #[.slice a0 (zs 0).length c0, .slice a1 (zs 1).length c1, .slice a2 (zs 2).length c2, .slice a3 (zs 3).length c3]) (.int .i64 0)).run Tryz.prog w = .ok (.slice a0 (zs 0).length c0) w := fun _ => by kernel_rfl
  have i1 : ∀ w, (Instr.index 53 (.agg #[.slice a0 (zs 0).length c0, .slice a1 (zs 1).length c1, .slice a2 (zs 2).length c2, .slice a3 (zs 3).length c3]) (.int .i64 1)).run Tryz.prog w = .ok (.slice a1 (zs 1).length c1) w := fun _ => by kernel_rfl
  have i2 : ∀ w, (Instr.index 53 (.agg #[.slice a0 (zs 0).length c0, .slice a1 (zs 1).length c1, .slice a2 (zs 2).length c2, .slice a3 (zs 3).length c3]) (.int .i64 2)).run Tryz.prog w = .ok (.slice a2 (zs 2).length c2) w := fun _ => by kernel_rfl
  have i3 : ∀ w, (Instr.index 53 (.agg #[.slice a0 (zs 0).length c0, .slice a1 (zs 1).length c1, .slice a2 (zs 2).length c2, .slice a3 (zs 3).length c3]) (.int .i64 3)).run Tryz.prog w = .ok (.slice a3 (zs 3).length c3) w := fun _ => by kernel_rfl
  go_enter Tryz.func15, Tryz.ntmps15
  go_wp2
  obtain ⟨w1, hw1⟩ : ∃ v, w.alloc (.cells #[.slice a0 (zs 0).length c0, .slice a1 (zs 1).length c1, .slice a2 (zs 2).length c2, .slice a3 (zs 3).length c3] 53) = v := ⟨_, rfl⟩
  rw [hw1] at hg1 hsz1 b0 b1 b2 b3 ⊢
  have HSZ1 := Lib.hid hsz1
  clear hsz1
  have HB := Lib.hid (And.intro b0 (And.intro b1 (And.intro b2 b3)))
  clear hw1 b0 b1 b2 b3
  go_loopw [10] (fun i wr => ∃ k : Nat, k ≤ 4 ∧ i = .int .i64 k ∧ (∀ j, j < k → ¬ 64 < (zs j).length) ∧ w1 = wr) (fun i _ => 4 - (intOf i).toNat)
  case atStart => exact ⟨0, by omega, rfl, fun j hj => by omega, rfl⟩
  case round =>
    obtain ⟨k, hk, rfl, hsmall, rfl⟩ := hrel
    have HS := Lib.hid hsmall
    clear hsmall
    by_cases hlt : k < 4
    · have h4 : k = 0 ∨ k = 1 ∨ k = 2 ∨ k = 3 := by omega
      rcases h4 with rfl | rfl | rfl | rfl
      · by_cases hbig : (64 : Int) < ((zs 0).length : Int)
        · have hE := newE_many (zs := zs) (j := 0) (by omega) (by omega)
          unfold NewP
          rw [hE]
          clear hE
          go_wp2
          refine bodyPost_ret (v := .tuple #[.pointer none, .int .i64 4]) (by simp [results, Tryz.results15, go_sem]) rfl (.inl ⟨by decide, rfl, hg1⟩)
        · have HN := Lib.hid (show ¬ 64 < (zs 0).length by omega)
          go_wp2
          go_roundw
          case rel =>
            refine ⟨1, by omega, by go_num, fun j hj => ?_, trivial⟩
            by_cases e : j = 0
            · subst e; exact HN.out
            · exact HS.out j (by omega)
          case measure => simp [intOf]
      · by_cases hbig : (64 : Int) < ((zs 1).length : Int)
        · have hE := newE_many (zs := zs) (j := 1) (by omega) (by omega)
          unfold NewP
          rw [hE]
          clear hE
          go_wp2
          refine bodyPost_ret (v := .tuple #[.pointer none, .int .i64 4]) (by simp [results, Tryz.results15, go_sem]) rfl (.inl ⟨by decide, rfl, hg1⟩)
        · have HN := Lib.hid (show ¬ 64 < (zs 1).length by omega)
          go_wp2
          go_roundw
          case rel =>
            refine ⟨2, by omega, by go_num, fun j hj => ?_, trivial⟩
            by_cases e : j = 1
            · subst e; exact HN.out
            · exact HS.out j (by omega)
          case measure => simp [intOf]
      · by_cases hbig : (64 : Int) < ((zs 2).length : Int)
        · have hE := newE_many (zs := zs) (j := 2) (by omega) (by omega)
          unfold NewP
          rw [hE]
          clear hE
          go_wp2
          refine bodyPost_ret (v := .tuple #[.pointer none, .int .i64 4]) (by simp [results, Tryz.results15, go_sem]) rfl (.inl ⟨by decide, rfl, hg1⟩)
        · have HN := Lib.hid (show ¬ 64 < (zs 2).length by omega)
          go_wp2
          go_roundw
          case rel =>
            refine ⟨3, by omega, by go_num, fun j hj => ?_, trivial⟩
            by_cases e : j = 2
            · subst e; exact HN.out
            · exact HS.out j (by omega)
          case measure => simp [intOf]
      · by_cases hbig : (64 : Int) < ((zs 3).length : Int)
        · have hE := newE_many (zs := zs) (j := 3) (by omega) (by omega)
          unfold NewP
          rw [hE]
          clear hE
          go_wp2
          refine bodyPost_ret (v := .tuple #[.pointer none, .int .i64 4]) (by simp [results, Tryz.results15, go_sem]) rfl (.inl ⟨by decide, rfl, hg1⟩)
        · have HN := Lib.hid (show ¬ 64 < (zs 3).length by omega)
          go_wp2
          go_roundw
          case rel =>
            refine ⟨4, by omega, by go_num, fun j hj => ?_, trivial⟩
            by_cases e : j = 3
            · subst e; exact HN.out
            · exact HS.out j (by omega)
          case measure => simp [intOf]
    · have HS := Lib.hid (fun j hj => HS.out j (by omega) : ∀ j, j < 4 → ¬ 64 < (zs j).length)
      have hkn : ¬ ((k : Int) < 4) := by omega
      clear hlt hk
      obtain ⟨pb, hpb⟩ : ∃ pb, w1.heap.size = pb := ⟨_, rfl⟩
      have hg2 := World.grownBy_alloc w1 (.cells #[.slice none 0 0, .slice none 0 0, .slice none 0 0, .slice none 0 0, .int .i64 0, .int .i64 0, .int .i64 0, .int .i64 0, .int .i64 0, .int .i64 0, .int .i64 0, .int .i64 0] 97) none
      have hP0 : Part (w1.alloc (.cells #[.slice none 0 0, .slice none 0 0, .slice none 0 0, .slice none 0 0, .int .i64 0, .int .i64 0, .int .i64 0, .int .i64 0, .int .i64 0, .int .i64 0, .int .i64 0, .int .i64 0] 97)) w1.heap.size 0 (fun _ => .slice none 0 0) zs := by
        refine ⟨fun j hj => ?_, fun j hj => ?_, fun j hj => ?_, fun o => by simp, fun j hj => by omega, fun j hj => by omega⟩
        all_goals
          have e : j = 0 ∨ j = 1 ∨ j = 2 ∨ j = 3 := by omega
          rcases e with rfl | rfl | rfl | rfl <;> simp
      have q0 := hg2.cell HB.out.1 (by simp)
      have q1 := hg2.cell HB.out.2.1 (by simp)
      have q2 := hg2.cell HB.out.2.2.1 (by simp)
      have q3 := hg2.cell HB.out.2.2.2 (by simp)
      have hE0 : Ext w (w1.alloc (.cells #[.slice none 0 0, .slice none 0 0, .slice none 0 0, .slice none 0 0, .int .i64 0, .int .i64 0, .int .i64 0, .int .i64 0, .int .i64 0, .int .i64 0, .int .i64 0, .int .i64 0] 97)) := Ext.next hg1 _ hg2
      have hsz2 : (w1.alloc (.cells #[.slice none 0 0, .slice none 0 0, .slice none 0 0, .slice none 0 0, .int .i64 0, .int .i64 0, .int .i64 0, .int .i64 0, .int .i64 0, .int .i64 0, .int .i64 0, .int .i64 0] 97)).heap.size = w1.heap.size + 1 := by simp
      have HP0 := Lib.hid hP0
      have HSZ2 := Lib.hid hsz2
      clear hP0 hg2 hsz2
      go_wp2
      obtain ⟨w2, hw2⟩ : ∃ v, w1.alloc (.cells #[.slice none 0 0, .slice none 0 0, .slice none 0 0, .slice none 0 0, .int .i64 0, .int .i64 0, .int .i64 0, .int .i64 0, .int .i64 0, .int .i64 0, .int .i64 0, .int .i64 0] 97) = v := ⟨_, rfl⟩
      have hP0 := HP0.out
      have hsz1 := HSZ1.out
      have hsz2 := HSZ2.out
      rw [hw2] at hP0 hE0 hsz2 ⊢
      rw [hpb] at hP0 hsz2 hsz1
      have hlo : w.heap.size ≤ pb := by omega
      clear hw2 q0 q1 q2 q3 HP0 HSZ1 HSZ2 hsz1 hsz2 hpb HB
      go_loopw [19] (fun i wr => ∃ k : Nat, k ≤ 4 ∧ i = .int .i64 k ∧ ∃ V, Part wr pb k V zs ∧ Ext w wr ∧ (∀ j, j < k → lowB (zs j) = false)) (fun i _ => 4 - (intOf i).toNat)
      case atStart => exact ⟨0, by omega, rfl, _, hP0, hE0, fun j hj => by omega⟩
      case round =>
        clear hP0 hE0
        obtain ⟨k, hk, rfl, V, hP, hE, hL⟩ := hrel
        have HL := Lib.hid hL
        have hPb : pb < wr.heap.size := World.block_lt_of_cell? wr _ (hP.row 0 (by omega))
        clear hL
        by_cases hlt : k < 4
        · have h4 : k = 0 ∨ k = 1 ∨ k = 2 ∨ k = 3 := by omega
          rcases h4 with rfl | rfl | rfl | rfl
          · have hUq := HU.out.1
            have hI := (HF.out.kept hE).ints 0 (by omega)
            rw [hUq] at hI
            have CF := containsFunc_any _ (zs 0) wr hI (HF.out.len 0 (by omega))
            have hI2 := Lib.hid hI
            clear hI hUq
            by_cases hlow : lowB (zs 0) = true
            · have hE5 := newE_low (zs := zs) HS.out (j := 0) (by omega) hlow
              rw [hlow] at CF
              unfold NewP
              rw [hE5]
              clear hE5 hlow hI2
              go_wp2_with (go_at_call 36; refine CF.mono ?_; rintro e w' ⟨rfl, rfl⟩)
              refine bodyPost_ret (v := .tuple #[.pointer none, .int .i64 5]) (by simp [results, Tryz.results15, go_sem]) rfl (.inl ⟨by decide, rfl, hE⟩)
            · have hlow : lowB (zs 0) = false := by simpa using hlow
              rw [hlow] at CF
              have HLW := Lib.hid hlow
              have hEd : Ext w wr.drew := Ext.next hE _ (Ext.drew wr)
              have hIc := fun x (hx : Ext wr x) => hI2.out.kept hx (by simp)
              have CL := clonei_any _ (zs 0) wr.drew (hIc _ (Ext.drew wr)) (by have := HS.out 0 (by omega); omega)
              clear hlow hIc
              go_wp2_with (go_at_call 36; refine CF.mono ?_; rintro e w' ⟨rfl, rfl⟩)
              refine region_line [(0, true), (1, true), (2, true), (4, true), (5, true), (3, false), (6, true), (7, false)] (Ext w) (by kernel_rfl) (by kernel_rfl) (fun _ _ _ d _ h => by cases d <;> exact h) hEd ?_
              repeat (refine line_read (a' := ?_) rfl (by kernel_rfl) (by kernel_rfl) hEd (fun x hx K hK => ?_) ?_; rotate_left; · go_wp2; exact hK)
              refine line_act (by rfl) (fun K hK => ?_)
              go_wp2_with (go_at_call 38; refine CL.mono ?_; rintro e w4 ⟨v4, rfl, hi4, hg4, ho4⟩)
              have hg5 : wr.grownBy w4 none := Ext.of_drew hg4
              have hE4 : Ext w w4 := Ext.next hE _ hg5
              have hP2 := hP.next hPb hg5 hi4 (fun i hi => by have := ho4 i hi; simpa using this) (by omega)
              have hE6 : Ext w (w4.setCell ⟨pb, 0, none⟩ v4) := grown_trans hE4 (gb_set (gb_refl w4 (some pb)) 0 v4) (fun k hk h => by cases hk; omega)
              have hcell := (World.cell?_of_block (hg5.block pb hPb (by simp))).trans (hP.row 0 (by omega))
              have hfree := (World.frozen?_of_block (w' := w4) (a := ⟨pb, 0, none⟩) (hg5.block pb hPb (by simp))).trans (hP.free 0)
              have HP2 := Lib.hid hP2
              obtain ⟨ao4, cp4, _, _, hv4, _⟩ := hi4.form
              clear hP2 ho4 hi4
              subst hv4
              refine hK _ _ (Ext w) hE4 (fun x hx => hx) ?_
              clear hK K
              repeat (refine line_read (a' := ?_) rfl (by kernel_rfl) (by kernel_rfl) hE4 (fun x hx K hK => ?_) ?_; rotate_left; · go_wp2; exact hK)
              refine line_act (by rfl) (fun K hK => ?_)
              go_wp2
              refine hK _ _ (Ext w) hE6 (fun x hx => hx) ?_
              clear hK K
              refine line_end ?_
              go_wp2
              go_roundw
              case rel =>
                refine ⟨1, by omega, by go_num, _, HP2.out, hE6, fun j hj => ?_⟩
                by_cases e : j = 0
                · subst e; exact HLW.out
                · exact HL.out j (by omega)
              case measure => simp [intOf]
          · have hUq := HU.out.2.1
            have hI := (HF.out.kept hE).ints 1 (by omega)
            rw [hUq] at hI
            have CF := containsFunc_any _ (zs 1) wr hI (HF.out.len 1 (by omega))
            have hI2 := Lib.hid hI
            clear hI hUq
            by_cases hlow : lowB (zs 1) = true
            · have hE5 := newE_low (zs := zs) HS.out (j := 1) (by omega) hlow
              rw [hlow] at CF
              unfold NewP
              rw [hE5]
              clear hE5 hlow hI2
              go_wp2_with (go_at_call 36; refine CF.mono ?_; rintro e w' ⟨rfl, rfl⟩)
              refine bodyPost_ret (v := .tuple #[.pointer none, .int .i64 5]) (by simp [results, Tryz.results15, go_sem]) rfl (.inl ⟨by decide, rfl, hE⟩)
            · have hlow : lowB (zs 1) = false := by simpa using hlow
              rw [hlow] at CF
              have HLW := Lib.hid hlow
              have hEd : Ext w wr.drew := Ext.next hE _ (Ext.drew wr)
              have hIc := fun x (hx : Ext wr x) => hI2.out.kept hx (by simp)
              have CL := clonei_any _ (zs 1) wr.drew (hIc _ (Ext.drew wr)) (by have := HS.out 1 (by omega); omega)
              clear hlow hIc
              go_wp2_with (go_at_call 36; refine CF.mono ?_; rintro e w' ⟨rfl, rfl⟩)
              refine region_line [(0, true), (1, true), (2, true), (4, true), (5, true), (3, false), (6, true), (7, false)] (Ext w) (by kernel_rfl) (by kernel_rfl) (fun _ _ _ d _ h => by cases d <;> exact h) hEd ?_
              repeat (refine line_read (a' := ?_) rfl (by kernel_rfl) (by kernel_rfl) hEd (fun x hx K hK => ?_) ?_; rotate_left; · go_wp2; exact hK)
              refine line_act (by rfl) (fun K hK => ?_)
              go_wp2_with (go_at_call 38; refine CL.mono ?_; rintro e w4 ⟨v4, rfl, hi4, hg4, ho4⟩)
              have hg5 : wr.grownBy w4 none := Ext.of_drew hg4
              have hE4 : Ext w w4 := Ext.next hE _ hg5
              have hP2 := hP.next hPb hg5 hi4 (fun i hi => by have := ho4 i hi; simpa using this) (by omega)
              have hE6 : Ext w (w4.setCell ⟨pb, 1, none⟩ v4) := grown_trans hE4 (gb_set (gb_refl w4 (some pb)) 1 v4) (fun k hk h => by cases hk; omega)
              have hcell := (World.cell?_of_block (hg5.block pb hPb (by simp))).trans (hP.row 1 (by omega))
              have hfree := (World.frozen?_of_block (w' := w4) (a := ⟨pb, 1, none⟩) (hg5.block pb hPb (by simp))).trans (hP.free 1)
              have HP2 := Lib.hid hP2
              obtain ⟨ao4, cp4, _, _, hv4, _⟩ := hi4.form
              clear hP2 ho4 hi4
              subst hv4
              refine hK _ _ (Ext w) hE4 (fun x hx => hx) ?_
              clear hK K
              repeat (refine line_read (a' := ?_) rfl (by kernel_rfl) (by kernel_rfl) hE4 (fun x hx K hK => ?_) ?_; rotate_left; · go_wp2; exact hK)
              refine line_act (by rfl) (fun K hK => ?_)
              go_wp2
              refine hK _ _ (Ext w) hE6 (fun x hx => hx) ?_
              clear hK K
              refine line_end ?_
              go_wp2
              go_roundw
              case rel =>
                refine ⟨2, by omega, by go_num, _, HP2.out, hE6, fun j hj => ?_⟩
                by_cases e : j = 1
                · subst e; exact HLW.out
                · exact HL.out j (by omega)
              case measure => simp [intOf]
          · have hUq := HU.out.2.2.1
            have hI := (HF.out.kept hE).ints 2 (by omega)
            rw [hUq] at hI
            have CF := containsFunc_any _ (zs 2) wr hI (HF.out.len 2 (by omega))
            have hI2 := Lib.hid hI
            clear hI hUq
            by_cases hlow : lowB (zs 2) = true
            · have hE5 := newE_low (zs := zs) HS.out (j := 2) (by omega) hlow
              rw [hlow] at CF
              unfold NewP
              rw [hE5]
              clear hE5 hlow hI2
              go_wp2_with (go_at_call 36; refine CF.mono ?_; rintro e w' ⟨rfl, rfl⟩)
              refine bodyPost_ret (v := .tuple #[.pointer none, .int .i64 5]) (by simp [results, Tryz.results15, go_sem]) rfl (.inl ⟨by decide, rfl, hE⟩)
            · have hlow : lowB (zs 2) = false := by simpa using hlow
              rw [hlow] at CF
              have HLW := Lib.hid hlow
              have hEd : Ext w wr.drew := Ext.next hE _ (Ext.drew wr)
              have hIc := fun x (hx : Ext wr x) => hI2.out.kept hx (by simp)
              have CL := clonei_any _ (zs 2) wr.drew (hIc _ (Ext.drew wr)) (by have := HS.out 2 (by omega); omega)
              clear hlow hIc
              go_wp2_with (go_at_call 36; refine CF.mono ?_; rintro e w' ⟨rfl, rfl⟩)
              refine region_line [(0, true), (1, true), (2, true), (4, true), (5, true), (3, false), (6, true), (7, false)] (Ext w) (by kernel_rfl) (by kernel_rfl) (fun _ _ _ d _ h => by cases d <;> exact h) hEd ?_
              repeat (refine line_read (a' := ?_) rfl (by kernel_rfl) (by kernel_rfl) hEd (fun x hx K hK => ?_) ?_; rotate_left; · go_wp2; exact hK)
              refine line_act (by rfl) (fun K hK => ?_)
              go_wp2_with (go_at_call 38; refine CL.mono ?_; rintro e w4 ⟨v4, rfl, hi4, hg4, ho4⟩)
              have hg5 : wr.grownBy w4 none := Ext.of_drew hg4
              have hE4 : Ext w w4 := Ext.next hE _ hg5
              have hP2 := hP.next hPb hg5 hi4 (fun i hi => by have := ho4 i hi; simpa using this) (by omega)
              have hE6 : Ext w (w4.setCell ⟨pb, 2, none⟩ v4) := grown_trans hE4 (gb_set (gb_refl w4 (some pb)) 2 v4) (fun k hk h => by cases hk; omega)
              have hcell := (World.cell?_of_block (hg5.block pb hPb (by simp))).trans (hP.row 2 (by omega))
              have hfree := (World.frozen?_of_block (w' := w4) (a := ⟨pb, 2, none⟩) (hg5.block pb hPb (by simp))).trans (hP.free 2)
              have HP2 := Lib.hid hP2
              obtain ⟨ao4, cp4, _, _, hv4, _⟩ := hi4.form
              clear hP2 ho4 hi4
              subst hv4
              refine hK _ _ (Ext w) hE4 (fun x hx => hx) ?_
              clear hK K
              repeat (refine line_read (a' := ?_) rfl (by kernel_rfl) (by kernel_rfl) hE4 (fun x hx K hK => ?_) ?_; rotate_left; · go_wp2; exact hK)
              refine line_act (by rfl) (fun K hK => ?_)
              go_wp2
              refine hK _ _ (Ext w) hE6 (fun x hx => hx) ?_
              clear hK K
              refine line_end ?_
              go_wp2
              go_roundw
              case rel =>
                refine ⟨3, by omega, by go_num, _, HP2.out, hE6, fun j hj => ?_⟩
                by_cases e : j = 2
                · subst e; exact HLW.out
                · exact HL.out j (by omega)
              case measure => simp [intOf]
          · have hUq := HU.out.2.2.2
            have hI := (HF.out.kept hE).ints 3 (by omega)
            rw [hUq] at hI
            have CF := containsFunc_any _ (zs 3) wr hI (HF.out.len 3 (by omega))
            have hI2 := Lib.hid hI
            clear hI hUq
            by_cases hlow : lowB (zs 3) = true
            · have hE5 := newE_low (zs := zs) HS.out (j := 3) (by omega) hlow
              rw [hlow] at CF
              unfold NewP
              rw [hE5]
              clear hE5 hlow hI2
              go_wp2_with (go_at_call 36; refine CF.mono ?_; rintro e w' ⟨rfl, rfl⟩)
              refine bodyPost_ret (v := .tuple #[.pointer none, .int .i64 5]) (by simp [results, Tryz.results15, go_sem]) rfl (.inl ⟨by decide, rfl, hE⟩)
            · have hlow : lowB (zs 3) = false := by simpa using hlow
              rw [hlow] at CF
              have HLW := Lib.hid hlow
              have hEd : Ext w wr.drew := Ext.next hE _ (Ext.drew wr)
              have hIc := fun x (hx : Ext wr x) => hI2.out.kept hx (by simp)
              have CL := clonei_any _ (zs 3) wr.drew (hIc _ (Ext.drew wr)) (by have := HS.out 3 (by omega); omega)
              clear hlow hIc
              go_wp2_with (go_at_call 36; refine CF.mono ?_; rintro e w' ⟨rfl, rfl⟩)
              refine region_line [(0, true), (1, true), (2, true), (4, true), (5, true), (3, false), (6, true), (7, false)] (Ext w) (by kernel_rfl) (by kernel_rfl) (fun _ _ _ d _ h => by cases d <;> exact h) hEd ?_
              repeat (refine line_read (a' := ?_) rfl (by kernel_rfl) (by kernel_rfl) hEd (fun x hx K hK => ?_) ?_; rotate_left; · go_wp2; exact hK)
              refine line_act (by rfl) (fun K hK => ?_)
              go_wp2_with (go_at_call 38; refine CL.mono ?_; rintro e w4 ⟨v4, rfl, hi4, hg4, ho4⟩)
              have hg5 : wr.grownBy w4 none := Ext.of_drew hg4
              have hE4 : Ext w w4 := Ext.next hE _ hg5
              have hP2 := hP.next hPb hg5 hi4 (fun i hi => by have := ho4 i hi; simpa using this) (by omega)
              have hE6 : Ext w (w4.setCell ⟨pb, 3, none⟩ v4) := grown_trans hE4 (gb_set (gb_refl w4 (some pb)) 3 v4) (fun k hk h => by cases hk; omega)
              have hcell := (World.cell?_of_block (hg5.block pb hPb (by simp))).trans (hP.row 3 (by omega))
              have hfree := (World.frozen?_of_block (w' := w4) (a := ⟨pb, 3, none⟩) (hg5.block pb hPb (by simp))).trans (hP.free 3)
              have HP2 := Lib.hid hP2
              obtain ⟨ao4, cp4, _, _, hv4, _⟩ := hi4.form
              clear hP2 ho4 hi4
              subst hv4
              refine hK _ _ (Ext w) hE4 (fun x hx => hx) ?_
              clear hK K
              repeat (refine line_read (a' := ?_) rfl (by kernel_rfl) (by kernel_rfl) hE4 (fun x hx K hK => ?_) ?_; rotate_left; · go_wp2; exact hK)
              refine line_act (by rfl) (fun K hK => ?_)
              go_wp2
              refine hK _ _ (Ext w) hE6 (fun x hx => hx) ?_
              clear hK K
              refine line_end ?_
              go_wp2
              go_roundw
              case rel =>
                refine ⟨4, by omega, by go_num, _, HP2.out, hE6, fun j hj => ?_⟩
                by_cases e : j = 3
                · subst e; exact HLW.out
                · exact HL.out j (by omega)
              case measure => simp [intOf]
        · obtain rfl : k = 4 := by omega
          have e0 := newE_ok (zs := zs) HS.out HL.out
          have HP := Lib.hid hP
          have HE0 := Lib.hid e0
          clear e0 hP
          go_wp2
          refine bodyPost_ret (v := .tuple #[.pointer (some ⟨pb, 0, none⟩), .int .i64 0]) (by simp [results, Tryz.results15, go_sem]) rfl (.inr ⟨HE0.out, pb, V, rfl, ?_, hE, hlo, fun j hj i hi => ?_⟩)
          · exact ⟨HP.out.row, HP.out.ops, HP.out.bad, HP.out.free, HP.out.ints, fun j hj i hi => by have := HP.out.own j hj i hi; omega⟩
          · have := HP.out.own j hj i hi
            omega

end Go.Proofs.YteionppcjgggiaaGreat
