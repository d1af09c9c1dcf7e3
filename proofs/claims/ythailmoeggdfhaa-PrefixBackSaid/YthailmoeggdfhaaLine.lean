/-
  A statement that draws its order, walked in ONE order: what only reads is taken as soon as it may come up (it yields the same in every later world), what acts is alone when it comes.
-/
import Derived.Test.YthailmoeggdfhaaRows
import Derived.WalkKit
import Derived.OrdersHeld
import Derived.BigQuiet
import Derived.Deep.QuietTactic
namespace Go.Proofs.Ythailmoeggdfhaa
set_option linter.unusedVariables false
set_option linter.unusedSimpArgs false
set_option maxRecDepth 100000
open Go.RowKit

/-- Behind one operation: whatever K asks; no other way out. -/
def OnlyK (K : Act → World → Prop) : Exit → Act → World → Prop
  | .normal, a, w => K a w
  | _, _, _ => False
/-- Behind one operation: K; other ways out as Q has them. -/
def ElseQ (K : Act → World → Prop) (Q : Exit → Act → World → Prop) : Exit → Act → World → Prop
  | .normal, a, w => K a w
  | e, a, w => Q e a w

def lenCap : Callee → Bool
  | .builtin .len => true
  | .builtin .cap => true
  | .builtin .min => true
  | .builtin .max => true
  | _ => false
/-- What only reads: its kind. -/
def readerOp : Op → Bool
  | .move _ => true
  | .assign _ => true
  | .pick _ _ _ => true
  | .load _ _ => true
  | .binOp _ _ _ _ _ => true
  | .unOp _ _ _ => true
  | .convert _ _ _ => true
  | .slice _ _ _ _ _ => true
  | .fieldAddr _ _ _ => true
  | .field _ _ _ => true
  | .indexAddr _ _ _ => true
  | .index _ _ _ => true
  | .extract _ _ => true
  | .build _ _ => true
  | .call c => lenCap c.callee
  | _ => false
/-- A nil check of a pointer that is none. -/
def nilGood (a : Act) : Op → Bool
  | .nilCheck x => match a.eval x with | .pointer (some _) => true | _ => false
  | _ => false

theorem value_of {s : Sem Value} {P : Program} {w w' : World} {n : Next} (hr : (do pure (Next.value (← s)) : Sem Next).run P w = .ok n w') : ∃ v, n = .value v := by
  rw [Sem.run_bind] at hr
  cases hs : s.run P w with
  | ok v w1 => rw [hs] at hr; simp [Sem.run_pure] at hr; exact ⟨v, hr.1.symm⟩
  | halt h w1 => rw [hs] at hr; simp at hr

theorem value_of' {s : Sem Value} {P : Program} {w w' : World} {n : Next} (hr : ((s.run P w).andThen fun a w' => Result.ok (Next.value a) w') = .ok n w') : ∃ v, n = .value v := by
  cases hs : s.run P w with
  | ok v w1 => rw [hs] at hr; simp at hr; exact ⟨v, hr.1.symm⟩
  | halt h w1 => rw [hs] at hr; simp at hr

theorem reader_value {a : Act} {o : Oper} (h : (readerOp o.op || nilGood a o.op) = true) {P : Program} {w w' : World} {n : Next} (hr : (execOp a.eval o).run P w = .ok n w') : ∃ v, n = .value v := by
  unfold execOp at hr
  cases ho : o.op with
  | nilCheck x =>
    rw [ho] at hr h
    simp only [readerOp, nilGood, Bool.false_or] at h
    split at h
    · rename_i ad hx
      simp only [hx, Sem.run_pure, Result.ok.injEq] at hr
      exact ⟨_, hr.1.symm⟩
    · cases h
  | call c =>
    rw [ho] at hr h
    simp only [readerOp, nilGood, Bool.or_false] at h
    unfold lenCap at h
    split at h
    · rename_i hc
      simp only [resolve, hc, Sem.run_bind, Sem.run_pure, Result.andThen_ok, invoke, builtin] at hr
      exact value_of' hr
    · rename_i hc
      simp only [resolve, hc, Sem.run_bind, Sem.run_pure, Result.andThen_ok, invoke, builtin] at hr
      exact value_of' hr
    · rename_i hc
      simp only [resolve, hc, Sem.run_bind, Sem.run_pure, Result.andThen_ok, invoke, builtin] at hr
      exact value_of' hr
    · rename_i hc
      simp only [resolve, hc, Sem.run_bind, Sem.run_pure, Result.andThen_ok, invoke, builtin] at hr
      exact value_of' hr
    · cases h
  | move x => rw [ho] at hr; simp [Sem.run_pure] at hr; exact ⟨_, hr.1.symm⟩
  | assign x => rw [ho] at hr; simp [Sem.run_pure] at hr; exact ⟨_, hr.1.symm⟩
  | pick c x y =>
    rw [ho] at hr
    simp only [Sem.run_bind] at hr
    cases hs : (asBool (a.eval c)).run P w with
    | ok b w1 => rw [hs] at hr; simp only [Result.andThen_ok, Sem.run_pure, Result.ok.injEq] at hr; exact ⟨_, hr.1.symm⟩
    | halt h w1 => rw [hs] at hr; simp at hr
  | load t x => rw [ho] at hr; exact value_of hr
  | binOp p t x y u => rw [ho] at hr; exact value_of hr
  | unOp p t x => rw [ho] at hr; exact value_of hr
  | convert p t x => rw [ho] at hr; exact value_of hr
  | slice t x lo hi mx => rw [ho] at hr; exact value_of hr
  | fieldAddr t x f => rw [ho] at hr; exact value_of hr
  | field t x f => rw [ho] at hr; exact value_of hr
  | indexAddr t x f => rw [ho] at hr; exact value_of hr
  | index t x f => rw [ho] at hr; exact value_of hr
  | extract t x => rw [ho] at hr; exact value_of hr
  | build t x => rw [ho] at hr; exact value_of hr
  | _ => rw [ho] at h; simp [readerOp, nilGood] at h

theorem put_inj {a : Act} {d : Tmp} (hd : d < a.tmps.size) {v u : Value} (h : a.put (some d) v = a.put (some d) u) : v = u := by
  have h1 : a.tmps.setIfInBounds d v = a.tmps.setIfInBounds d u := congrArg Act.tmps h
  have h2 : (a.tmps.setIfInBounds d v)[d]? = (a.tmps.setIfInBounds d u)[d]? := by rw [h1]
  simpa [Array.getElem?_setIfInBounds, hd] using h2

theorem reads_one {P : Program} {ops : Array Oper} {S : World → Prop} {o : Oper} {a a' : Act} {w : World}
    (hk : (!Region.wanted o (yielded ops a.tmps) || readerOp o.op || nilGood a o.op) = true) (hd : (o.dst.any fun d => decide (d < a.tmps.size)) = true) (hS : S w)
    (h : ∀ x, S x → ∀ K : Act → World → Prop, K a' x → wpList P ops (OnlyK K) [o] a x) : ∃ v, YieldsIf P ops S o v a ∧ a.put o.dst v = a' := by
  cases hdst : o.dst with
  | none => rw [hdst] at hd; cases hd
  | some d =>
    rw [hdst] at hd
    have hd' : d < a.tmps.size := by simpa using hd
    by_cases hw : Region.wanted o (yielded ops a.tmps) = true
    · have hk' : (readerOp o.op || nilGood a o.op) = true := by simpa [hw] using hk
      have one : ∀ x, S x → ∃ v, (execOp a.eval o).run P x = .ok (.value v) x ∧ a.put (some d) v = a' := by
        intro x hx
        have h1 := h x hx (fun a1 x1 => a1 = a' ∧ x1 = x) ⟨rfl, rfl⟩
        simp only [wpList, hw, if_true] at h1
        rcases h1 with h1 | ⟨_, _, _, h1⟩
        · unfold Oper.wp at h1
          cases hr : (execOp a.eval o).run P x with
          | ok n w1 =>
            obtain ⟨v, rfl⟩ := reader_value hk' hr
            rw [hr] at h1
            simp only [Oper.upon, OnlyK, hdst] at h1
            obtain ⟨h1, rfl⟩ := h1
            exact ⟨v, rfl, h1⟩
          | halt hh w1 =>
            rw [hr] at h1
            cases hh <;> simp only [Oper.upon, OnlyK] at h1
        · exact h1.elim
      obtain ⟨v, hv, hp⟩ := one w hS
      refine ⟨v, .inl ⟨hw, fun x hx => ?_⟩, hp⟩
      obtain ⟨u, hu, hq⟩ := one x hx
      rw [hu, put_inj hd' (hp.trans hq.symm)]
    · have hw' : Region.wanted o (yielded ops a.tmps) = false := by simpa using hw
      have h1 := h w hS (fun a1 x1 => a1 = a' ∧ x1 = w) ⟨rfl, rfl⟩
      simp only [wpList, hw', Bool.false_eq_true, if_false, OnlyK, hdst] at h1
      exact ⟨undef, .inr ⟨hw', rfl⟩, h1.1⟩

/-- One order of a region: (number, does it only read?). -/
def lineOk (md : Region.Mode) (ops : Array Oper) : Array Bool → List (Nat × Bool) → Bool
  | listed, [] => Region.ready md ops listed == []
  | listed, (i, true) :: r => Region.free md ops listed i && (Region.ready md ops listed).contains i && lineOk md ops (listed.setIfInBounds i true) r
  | listed, (i, false) :: r => Region.ready md ops listed == [i] && lineOk md ops (listed.setIfInBounds i true) r

/-- The region, in that order. -/
def wpLine (P : Program) (ops : Array Oper) (Q : Exit → Act → World → Prop) : (World → Prop) → List (Nat × Bool) → Act → World → Prop
  | _, [], a, w => Q .normal a w
  | S, (i, true) :: r, a, w => ∃ o v, ops[i]? = some o ∧ YieldsIf P ops S o v a ∧ wpLine P ops Q S r (a.put o.dst v) w
  | S, (i, false) :: r, a, w => wpOp P ops Q i (fun a' w' => ∃ S' : World → Prop, S' w' ∧ (∀ x, S' x → S x) ∧ wpLine P ops Q S' r a' w') a w

theorem wpAnyH_weaken {P : Program} {ops : Array Oper} {Q : Exit → Act → World → Prop} {md : Region.Mode} {S S' : World → Prop} (hs : ∀ x, S' x → S x) :
    ∀ (n : Nat) (listed : Array Bool) (a : Act) (w : World), wpAnyH P md ops Q S' n listed a w → wpAnyH P md ops Q S n listed a w
  | 0, _, _, _, h => h
  | n + 1, _, _, _, h => ⟨h.1, fun i hi => wpOp_mono (fun _ _ h' => ⟨hs _ h'.1, wpAnyH_weaken hs n _ _ _ h'.2⟩) (h.2 i hi)⟩

theorem wpLine_any {P : Program} {ops : Array Oper} {Q : Exit → Act → World → Prop} {md : Region.Mode} (hsel : Region.noSelect ops = true)
    (hQ : ∀ c a w d v, Q (.panic c) (a.put d v) w → Q (.panic c) a w) :
    ∀ (l : List (Nat × Bool)) (S : World → Prop) (listed : Array Bool) (a : Act) (w : World), lineOk md ops listed l = true → S w → wpLine P ops Q S l a w → wpAnyH P md ops Q S l.length listed a w
  | [], S, listed, a, w, hl, _, h => ⟨by simpa [lineOk] using hl, h⟩
  | (i, true) :: r, S, listed, a, w, hl, hS, h => by
    obtain ⟨o, v, ho, hy, h⟩ := h
    simp only [lineOk, Bool.and_eq_true] at hl
    exact wpAnyH_take ho hsel hl.1.1 hl.1.2 (fun c a w => hQ c a w _ _) hy hS (wpLine_any hsel hQ r S _ _ w hl.2 hS h)
  | (i, false) :: r, S, listed, a, w, hl, hS, h => by
    simp only [lineOk, Bool.and_eq_true, beq_iff_eq] at hl
    refine wpAnyH_all hl.1 (by simp) ?_
    intro j hj
    simp at hj
    subst hj
    exact wpOp_mono (fun a' w' ⟨S', hS', hsub, h'⟩ => ⟨hsub _ hS', wpAnyH_weaken hsub _ _ _ _ (wpLine_any hsel hQ r S' _ _ w' hl.2 hS' h')⟩) h

/-- The beginning. -/
theorem region_line {P : Program} {ops : Array Oper} {Q : Exit → Act → World → Prop} {id : Nat} {a : Act} {w : World} (l : List (Nat × Bool)) (S : World → Prop) (hm : P.follows .mixedOrders = true)
    (hc : (Region.noSelect ops && (l.length == ops.size) && lineOk .any ops (Array.replicate ops.size false) l) = true)
    (hQ : ∀ c a w d v, Q (.panic c) (a.put d v) w → Q (.panic c) a w) (hS : S w.drew)
    (h : wpLine P ops Q S l a w.drew) : (Code.region id ops true).wp P Q a w := by
  simp only [Bool.and_eq_true, beq_iff_eq] at hc
  refine wp_region_any hm (wpAny_of_held (S := S) _ _ _ _ ?_)
  rw [← hc.1.2]
  have := wpLine_any hc.1.1 hQ l S _ a w.drew hc.2 hS h
  rw [← hc.1.2] at this
  exact this

/-- What only reads: walked in whatever world meets S. -/
theorem line_read {P : Program} {ops : Array Oper} {Q : Exit → Act → World → Prop} {S : World → Prop} {i : Nat} {r : List (Nat × Bool)} {o : Oper} {a a' : Act} {w : World} (ho : ops[i]? = some o)
    (hk : (!Region.wanted o (yielded ops a.tmps) || readerOp o.op || nilGood a o.op) = true) (hd : (o.dst.any fun d => decide (d < a.tmps.size)) = true) (hS : S w)
    (h : ∀ x, S x → ∀ K : Act → World → Prop, K a' x → wpList P ops (OnlyK K) [o] a x) (hr : wpLine P ops Q S r a' w) : wpLine P ops Q S ((i, true) :: r) a w := by
  obtain ⟨v, hy, hp⟩ := reads_one hk hd hS h
  exact ⟨o, v, ho, hy, by rw [hp]; exact hr⟩

/-- What acts. -/
theorem line_act {P : Program} {ops : Array Oper} {Q : Exit → Act → World → Prop} {S : World → Prop} {i : Nat} {r : List (Nat × Bool)} {o : Oper} {a : Act} {w : World} (ho : ops[i]? = some o)
    (h : ∀ K : Act → World → Prop, (∀ a' w' (S' : World → Prop), S' w' → (∀ x, S' x → S x) → wpLine P ops Q S' r a' w' → K a' w') → wpList P ops (ElseQ K Q) [o] a w) : wpLine P ops Q S ((i, false) :: r) a w := by
  have h1 := h _ (fun a' w' S' h1 h2 h3 => (⟨S', h1, h2, h3⟩ : ∃ S' : World → Prop, S' w' ∧ (∀ x, S' x → S x) ∧ wpLine P ops Q S' r a' w'))
  show wpOp P ops Q i _ a w
  unfold wpOp
  simp only [ho]
  simp only [wpList] at h1
  split
  · rename_i hw
    rw [if_pos hw] at h1
    rcases h1 with h1 | ⟨h1, b, x, h2⟩
    · refine .inl ?_
      unfold Oper.wp at h1 ⊢
      generalize (execOp a.eval o).run P w = res at h1
      cases res with
      | ok n w1 =>
        cases n <;> first | exact h1 | exact Calls.mono h1 (fun e w2 he => by cases e <;> exact he) | exact Rows.mono h1 (fun _ _ he => he)
      | halt hh w1 => cases hh <;> exact h1
    · exact .inr ⟨h1, b, x, h2⟩
  · rename_i hw
    rw [if_neg hw] at h1
    exact h1

theorem line_end {P : Program} {ops : Array Oper} {Q : Exit → Act → World → Prop} {S : World → Prop} {a : Act} {w : World} (h : Q .normal a w) : wpLine P ops Q S [] a w := h

/-- Later worlds: there is more, what was there stands. -/
def Ext (w : World) : World → Prop := fun x => w.grownBy x none
theorem Ext.refl (w : World) : Ext w w := ⟨rfl, rfl, rfl, Nat.le_refl _, fun _ _ _ => rfl⟩
theorem Ext.drew (w : World) : Ext w w.drew := ⟨rfl, rfl, rfl, Nat.le_refl _, fun _ _ _ => rfl⟩
theorem Ext.next {w w1 : World} (h : w.grownBy w1 none) : ∀ x, Ext w1 x → Ext w x := fun _ hx =>
  ⟨hx.os.trans h.os, hx.tape.trans h.tape, hx.output.trans h.output, Nat.le_trans h.size hx.size, fun k hk hne => (hx.block k (Nat.lt_of_lt_of_le hk h.size) hne).trans (h.block k hk hne)⟩
theorem Ext.of_drew {w x : World} (h : Ext w.drew x) : Ext w x := ⟨h.os, h.tape, h.output, h.size, h.block⟩
theorem ext_trans {a b c : World} (h : Ext a b) (h2 : Ext b c) : Ext a c := Ext.next h c h2
theorem gb_drewN (w : World) (n : Nat) : w.grownBy (w.drewN n) none := ⟨rfl, rfl, rfl, Nat.le_refl _, fun _ _ _ => rfl⟩

end Go.Proofs.Ythailmoeggdfhaa
