/-
  Texts put together: Row Rec BY Line DA EA EZ RW QA WA TA.
-/
import Derived.Test.YtdnpdoipipfkoaaGreatDoorRows
import Derived.WalkKit
import Derived.ProofKit
import Derived.OpenShut
import Derived.Deep.Slices
import Derived.Deep.Fields
import Derived.WalkSpells
import Derived.WalkLawsBesides
import Derived.BigQuiet
import Derived.Deep.QuietTactic
import Derived.Lib.Hide
import Derived.Laws.AppendOwnNone
import Derived.OrdersHeld
import Derived.Below
import Derived.Laws.LoneSync
import Derived.Deep.MidRow
import Derived.OneCell
import Derived.WideShapes
import Derived.ArgAppend
import Derived.Handy
namespace Go.Proofs.YtdnpdoipipfkoaaGreatDoor
set_option linter.unusedVariables false
set_option linter.unusedSimpArgs false
set_option linter.unusedVariables false
set_option linter.unusedSimpArgs false
set_option maxRecDepth 100000
open Go.RowKit
theorem addr_add (b off j : Nat) : (⟨b, off, none⟩ : Addr).add j = ⟨b, off + j, none⟩ := by
 unfold Addr.add
 split <;> simp_all
theorem slice_good {P : Program} {w : World} {base : Nat} {t e : TypeId} {x : Addr} {len cap : Nat} (ht : P.underlying t = some (.slice e)) (h : Value.okWide P w .any base t (.slice (some x) len cap)) : x.spot = none ∧ x.block < w.heap.size := by
 simp only [Value.okWide, ht, Cell.okWide, Cell.ok] at h
 obtain ⟨_, _, _, h1, row, cells, h2, _⟩ := h
 refine ⟨h1, ?_⟩
 unfold World.shape? at h2
 split at h2
 · rename_i hb
   exact (Array.getElem?_eq_some_iff.1 hb).1
 · cases h2
def IsRow (k : IntKind) (w : World) (a : Option Addr) (len cap : Nat) (zs : List Int) : Prop :=
 (a = none ∧ len = 0 ∧ cap = 0 ∧ zs = []) ∨
 ∃ x, a = some x ∧ len ≤ cap ∧ cap ≤ maxLen ∧ zs.length = cap ∧ (∀ i, i < zs.length → w.cell? (x.add i) = some (.int k (zs.getD i 0))) ∧ ∀ n ∈ zs, (Lit.int k n).wf = true
open Go.ChangeShapes Go.WideShapes in
theorem row_of {H : Type} {enc : TypeId × Value → H} {P : Program} {W : World} {base : Nat} {held : Bool} {t e : TypeId} {k : IntKind} {a : Option Addr} {len cap : Nat} {d : DataW H} {p : List MemPlace} (ht : P.underlying t = some (.slice e)) (he : P.underlying e = some (.int k)) (hc : P.cellsOf e = 1)
   (h : DataW.Trod enc P W base (fun _ => true) held t (.slice a len cap) d p) : ∃ zs, IsRow k W a len cap zs := by
 obtain ⟨fuel, hf⟩ := h
 rcases open_ints ht he hc hf with ⟨hcs, _⟩ | ⟨x, l, c, zs, hcs, _, hl, hm, hz, _, hcell, hwz⟩
 · simp [Value.cells] at hcs
   obtain ⟨rfl, rfl, rfl⟩ := hcs
   exact ⟨[], .inl ⟨rfl, rfl, rfl, rfl⟩⟩
 · simp [Value.cells] at hcs
   obtain ⟨rfl, rfl, rfl⟩ := hcs
   exact ⟨zs, .inr ⟨_, rfl, hl, hm, by simpa using hz, hcell, hwz⟩⟩
end Go.Proofs.YtdnpdoipipfkoaaGreatDoor

namespace Go.Proofs.YtdnpdoipipfkoaaGreatDoor
set_option linter.unusedVariables false
set_option linter.unusedSimpArgs false
set_option linter.unusedVariables false
set_option linter.unusedSimpArgs false
set_option maxRecDepth 100000
open Go.RowKit Go.ChangeShapes Go.WideShapes Go.Deep
abbrev FK := IntKind ⊕ Bool
def FitsV : FK → Value → Prop
 | .inl k, v => ∃ n, v = .int k n ∧ (Lit.int k n).wf = true
 | .inr false, v => ∃ b, v = .bool b
 | .inr true, v => ∃ s : ByteArray, v = .string s ∧ s.size ≤ maxLen
def TypeFK (P : Program) (t : TypeId) : FK → Prop
 | .inl k => P.underlying t = some (.int k)
 | .inr false => P.underlying t = some .bool
 | .inr true => P.underlying t = some .string
def IsRecs (ks : List FK) (w : World) (a : Option Addr) (len cap : Nat) : Prop :=
 (a = none ∧ len = 0 ∧ cap = 0) ∨
 ∃ x, a = some x ∧ len ≤ cap ∧ cap ≤ maxLen ∧ ∀ i, i < len → ∀ j k, ks[j]? = some k → ∃ v, w.cell? (x.add (i * ks.length + j)) = some v ∧ FitsV k v
section
variable {H : Type} {enc : TypeId × Value → H} {P : Program} {w : World} {base : Nat} {spare : Nat → Bool} {held : Bool}
theorem fits_of {t : TypeId} {k : FK} (hk : TypeFK P t k) {n : Nat} {v : Value} {y : DataW H × List MemPlace} (h : DataW.trod enc P w base spare held n t [v] = some y) : FitsV k v := by
 match k, hk with
 | .inl k, hk =>
   obtain ⟨m, h1, _, h2⟩ := DataW.trod_int hk h
   simp at h1
   exact ⟨m, h1, h2⟩
 | .inr false, hk =>
   obtain ⟨b, h1, _⟩ := DataW.trod_bool hk h
   simp at h1
   exact ⟨b, h1⟩
 | .inr true, hk =>
   obtain ⟨s, h1, _, h2⟩ := DataW.trod_string hk h
   simp at h1
   exact ⟨s, h1, h2⟩
theorem open_recs {t e : TypeId} {fs : Array Field} {ks : List FK} {a : Option Addr} {len cap : Nat} {fuel : Nat} {x : DataW H × List MemPlace} (ht : P.underlying t = some (.slice e)) (he : P.underlying e = some (.struct fs))
   (hone : oneCellFields P fs = true) (hC : P.cellsOf e = fs.size) (hl : ks.length = fs.size) (hks : ∀ (j : Nat) (k : FK), ks[j]? = some k → ∃ f : Field, fs[j]? = some f ∧ TypeFK P f.type k)
   (h : DataW.trod enc P w base spare held fuel t [.slice a len cap] = some x) : IsRecs ks w a len cap := by
 rcases open_slice ht h with ⟨h0, _⟩ | ⟨b, n, c, m, q, D, Pl, hcs, _, h1, h2, hm, _, hi⟩
 · simp at h0
   exact .inl h0
 · simp at hcs
   obtain ⟨rfl, rfl, rfl⟩ := hcs
   refine .inr ⟨b, rfl, h1, h2, fun i hin j k hj => ?_⟩
   have him : i < m := by rw [hm]; split <;> omega
   obtain ⟨cs, hc, hs⟩ := hi i him
   obtain ⟨f, hf, hk⟩ := hks j k hj
   obtain ⟨ho, h3⟩ := hone_of hone j f hf
   have hjl : j < fs.size := (Array.getElem?_eq_some_iff.1 hf).1
   obtain ⟨ys, q', _, _, hlen, hyl, hall⟩ := DataW.trod_struct he hs
   obtain ⟨_, hcl, hat⟩ := World.cells?_some hc
   have hfj := hall j f hf
   rw [ho, h3] at hfj
   have hjc : j < cs.length := by omega
   have hd : (cs.drop j).take 1 = [cs[j]] := by rw [List.drop_eq_getElem_cons hjc]; rfl
   rw [hd, List.getElem?_eq_getElem (by omega)] at hfj
   refine ⟨cs[j], ?_, fits_of hk hfj⟩
   have hcell := hat j (by omega)
   rw [Go.Deep.add_add] at hcell
   rw [hl, ← hC, hcell, List.getElem?_eq_getElem hjc]
end
theorem list5 {α : Type} {l : List α} (h : l.length = 5) : ∃ a b c d e, l = [a, b, c, d, e] := by match l, h with | [a, b, c, d, e], _ => exact ⟨a, b, c, d, e, rfl⟩
end Go.Proofs.YtdnpdoipipfkoaaGreatDoor

namespace Go.Proofs.YtdnpdoipipfkoaaGreatDoor
set_option linter.unusedVariables false
set_option linter.unusedSimpArgs false
set_option linter.unusedVariables false
set_option linter.unusedSimpArgs false
set_option maxRecDepth 100000
open Go.RowKit
def Bts (w : World) (v : Value) (xs : List Int) : Prop :=
 (v = .slice none 0 0 ∧ xs = []) ∨ ∃ b off cap, v = .slice (some ⟨b, off, none⟩) xs.length cap ∧ xs.length ≤ cap ∧ ∀ i, i < xs.length → w.cell? ⟨b, off + i, none⟩ = some (.int .u8 (xs.getD i 0))
def Made (B : Nat) (w : World) (xs : List Int) (e : Ending) (w' : World) : Prop :=
 ∃ v', e = .returned v' ∧ w'.ownsRow B 5 1 v' xs.length (xs.map (Value.int .u8)) ∧ w.grownBy w' none
theorem Tryz.infoU8 : (Tryz.prog.info? 5).map (fun i => (i.zero, i.size, i.bytes)) = some (some (.int .u8 0), 1, 1) := by kernel_rfl
theorem bytes_new (w : World) (u : Value) (T : TypeId) : ∀ j v, [u][j]? = some v → (w.alloc (.cells #[u] T)).cell? ((⟨w.heap.size, 0, none⟩ : Addr).add j) = some v := by
 intro j v hj
 match j, hj with
 | 0, hj => simp at hj; subst hj; simp [Addr.add]
theorem cells_of {w : World} {b off : Nat} {xs : List Int} (hc : ∀ i, i < xs.length → w.cell? ⟨b, off + i, none⟩ = some (.int .u8 (xs.getD i 0))) :
   ∀ j u, (xs.map (Value.int .u8))[j]? = some u → w.cell? ((⟨b, off, none⟩ : Addr).add j) = some u := by
 intro j u hj
 rw [List.getElem?_map] at hj
 rw [addr_add]
 by_cases h : j < xs.length
 · rw [hc j h, ← hj]
   simp [List.getElem?_eq_getElem h, List.getD_eq_getElem?_getD]
 · rw [List.getElem?_eq_none (by omega)] at hj
   cases hj
theorem Tryz.eqNil22 (w : World) (a : Option Addr) (n c : Nat) : (binOp .eql 26 (.slice a n c) (.slice none 0 0)).run Tryz.prog w = .ok (.bool a.isNone) w := Lib.run_eql_slice_nil w 26 5 a n c 0 0 Tryz.underlying26
attribute [local go_sem] Tryz.eqNil22
theorem grown_trans {w w1 w2 : World} {r r2 : Option Nat} (h1 : w.grownBy w1 r) (h2 : w1.grownBy w2 r2) (h : ∀ k, r2 = some k → k < w.heap.size → some k = r) : w.grownBy w2 r :=
 ⟨h2.os.trans h1.os, h2.tape.trans h1.tape, h2.output.trans h1.output, Nat.le_trans h1.size h2.size, fun k hk hne =>
   (h2.block k (Nat.lt_of_lt_of_le hk h1.size) (fun e => hne (h k e.symm hk))).trans (h1.block k hk hne)⟩
theorem cell_past {w : World} {a : Addr} {v : Value} (h : w.cell? a = some v) (o : Obj) : (w.alloc o).cell? a = some v := by
 rw [World.cell?_alloc_old _ _ _ (Nat.ne_of_lt (World.block_lt_of_cell? w _ h))]
 exact h
theorem Bts.nil {w : World} {n cap : Nat} {xs : List Int} (h : Bts w (.slice none n cap) xs) : xs = [] := by
 rcases h with ⟨_, h2⟩ | ⟨b, off, c, h1, _⟩
 · exact h2
 · simp at h1
theorem Bts.cells {w : World} {a : Addr} {n cap : Nat} {xs : List Int} (h : Bts w (.slice (some a) n cap) xs) : ∀ j u, (xs.map (Value.int .u8))[j]? = some u → w.cell? (a.add j) = some u := by
 rcases h with ⟨h1, _⟩ | ⟨b, off, c, h1, _, h3⟩
 · simp at h1
 · simp at h1
   obtain ⟨rfl, _, _⟩ := h1
   exact cells_of h3
theorem ownsRow_le {w : World} {B B' : Nat} {e : TypeId} {size : Nat} {v : Value} {n : Nat} {xs : List Value} (h : w.ownsRow B e size v n xs) (hB : B' ≤ B) : w.ownsRow B' e size v n xs := by
 obtain ⟨h1, h2⟩ := h
 refine ⟨h1, ?_⟩
 rcases h2 with h2 | ⟨g, cap, cur, hv, hg, r⟩
 · exact Or.inl h2
 · exact Or.inr ⟨g, cap, cur, hv, Nat.le_trans hB hg, r⟩
theorem grown_alloc {w w1 : World} {r : Option Nat} (h : w.grownBy w1 r) (o : Obj) : w.grownBy (w1.alloc o) r :=
 grown_trans h (World.grownBy_alloc w1 o none) (fun k hk _ => by cases hk)
theorem grown_drew {w w1 : World} {r : Option Nat} (h : w.grownBy w1 r) : w.grownBy w1.drew r := ⟨h.os, h.tape, h.output, h.size, h.block⟩
theorem row_bts {w : World} {a : Option Addr} {len cap : Nat} {zs : List Int} (h : IsRow .u8 w a len cap zs) (hs : ∀ x, a = some x → x.spot = none ∧ x.block < w.heap.size) :
   len = (zs.take len).length ∧ Bts w (.slice a len cap) (zs.take len) ∧ (∀ n ∈ zs.take len, 0 ≤ n ∧ n < 256) ∧ (∀ k, (Value.slice a len cap).ownBlock = some k → k < w.heap.size) ∧ len ≤ maxLen := by
 rcases h with ⟨rfl, rfl, rfl, rfl⟩ | ⟨x, rfl, hl, hm, hz, hc, hw⟩
 · exact ⟨rfl, .inl ⟨rfl, rfl⟩, by simp, by simp [Value.ownBlock], Nat.zero_le _⟩
 · obtain ⟨hsp, hb⟩ := hs x rfl
   obtain ⟨b, off, sp⟩ := x
   simp only at hsp hb
   subst hsp
   have hlen : (zs.take len).length = len := by simp; omega
   refine ⟨hlen.symm, .inr ⟨b, off, cap, by rw [hlen], by omega, fun i hi => ?_⟩, fun n hn => ?_, fun k hk => ?_, by omega⟩
   · rw [hlen] at hi
     have := hc i (by omega)
     rw [addr_add] at this
     rw [this]
     simp [hi]
   · have := hw n (List.mem_of_mem_take hn)
     simp [Lit.wf, IntKind.min, IntKind.max, IntKind.bits, IntKind.signed] at this
     omega
   · simp [Value.ownBlock] at hk
     omega
end Go.Proofs.YtdnpdoipipfkoaaGreatDoor

namespace Go.Proofs.YtdnpdoipipfkoaaGreatDoor
set_option linter.unusedVariables false
set_option linter.unusedSimpArgs false
set_option linter.unusedVariables false
set_option linter.unusedSimpArgs false
set_option maxRecDepth 100000
open Go.RowKit
def OnlyK (K : Act → World → Prop) : Exit → Act → World → Prop
 | .normal, a, w => K a w
 | _, _, _ => False
def ElseQ (K : Act → World → Prop) (Q : Exit → Act → World → Prop) : Exit → Act → World → Prop
 | .normal, a, w => K a w
 | e, a, w => Q e a w
def lenCap : Callee → Bool
 | .builtin .len => true
 | .builtin .cap => true
 | .builtin .min => true
 | .builtin .max => true
 | _ => false
def readerOp : Op → Bool
 | .move _ => true
 | .assign _ => true
 | .pick _ _ _ => true
 | .load _ _ => true
 | .binOp _ _ _ _ _ => true
 | .unOp _ _ _ => true
 | .convert _ _ _ => true
 | .slice _ _ _ _ _ => true
 | .fieldAddr _ _ _ => true
 | .field _ _ _ => true
 | .indexAddr _ _ _ => true
 | .index _ _ _ => true
 | .extract _ _ => true
 | .call c => lenCap c.callee
 | _ => false
def nilGood (a : Act) : Op → Bool
 | .nilCheck x => match a.eval x with | .pointer (some _) => true | _ => false
 | _ => false
theorem value_of {s : Sem Value} {P : Program} {w w' : World} {n : Next} (hr : (do pure (Next.value (← s)) : Sem Next).run P w = .ok n w') : ∃ v, n = .value v := by
 rw [Sem.run_bind] at hr
 cases hs : s.run P w with
 | ok v w1 => rw [hs] at hr; simp [Sem.run_pure] at hr; exact ⟨v, hr.1.symm⟩
 | halt h w1 => rw [hs] at hr; simp at hr
theorem value_of' {s : Sem Value} {P : Program} {w w' : World} {n : Next} (hr : ((s.run P w).andThen fun a w' => Result.ok (Next.value a) w') = .ok n w') : ∃ v, n = .value v := by
 cases hs : s.run P w with
 | ok v w1 => rw [hs] at hr; simp at hr; exact ⟨v, hr.1.symm⟩
 | halt h w1 => rw [hs] at hr; simp at hr
theorem reader_value {a : Act} {o : Oper} (h : (readerOp o.op || nilGood a o.op) = true) {P : Program} {w w' : World} {n : Next} (hr : (execOp a.eval o).run P w = .ok n w') : ∃ v, n = .value v := by
 unfold execOp at hr
 cases ho : o.op with
 | nilCheck x =>
   rw [ho] at hr h
   simp only [readerOp, nilGood, Bool.false_or] at h
   split at h
   · rename_i ad hx
     simp only [hx, Sem.run_pure, Result.ok.injEq] at hr
     exact ⟨_, hr.1.symm⟩
   · cases h
 | call c =>
   rw [ho] at hr h
   simp only [readerOp, nilGood, Bool.or_false] at h
   unfold lenCap at h
   split at h
   · rename_i hc
     simp only [resolve, hc, Sem.run_bind, Sem.run_pure, Result.andThen_ok, invoke, builtin] at hr
     exact value_of' hr
   · rename_i hc
     simp only [resolve, hc, Sem.run_bind, Sem.run_pure, Result.andThen_ok, invoke, builtin] at hr
     exact value_of' hr
   · rename_i hc
     simp only [resolve, hc, Sem.run_bind, Sem.run_pure, Result.andThen_ok, invoke, builtin] at hr
     exact value_of' hr
   · rename_i hc
     simp only [resolve, hc, Sem.run_bind, Sem.run_pure, Result.andThen_ok, invoke, builtin] at hr
     exact value_of' hr
   · cases h
 | move x => rw [ho] at hr; simp [Sem.run_pure] at hr; exact ⟨_, hr.1.symm⟩
 | assign x => rw [ho] at hr; simp [Sem.run_pure] at hr; exact ⟨_, hr.1.symm⟩
 | pick c x y =>
   rw [ho] at hr
   simp only [Sem.run_bind] at hr
   cases hs : (asBool (a.eval c)).run P w with
   | ok b w1 => rw [hs] at hr; simp only [Result.andThen_ok, Sem.run_pure, Result.ok.injEq] at hr; exact ⟨_, hr.1.symm⟩
   | halt h w1 => rw [hs] at hr; simp at hr
 | load t x => rw [ho] at hr; exact value_of hr
 | binOp p t x y u => rw [ho] at hr; exact value_of hr
 | unOp p t x => rw [ho] at hr; exact value_of hr
 | convert p t x => rw [ho] at hr; exact value_of hr
 | slice t x lo hi mx => rw [ho] at hr; exact value_of hr
 | fieldAddr t x f => rw [ho] at hr; exact value_of hr
 | field t x f => rw [ho] at hr; exact value_of hr
 | indexAddr t x f => rw [ho] at hr; exact value_of hr
 | index t x f => rw [ho] at hr; exact value_of hr
 | extract t x => rw [ho] at hr; exact value_of hr
 | _ => rw [ho] at h; simp [readerOp, nilGood] at h
theorem put_inj {a : Act} {d : Tmp} (hd : d < a.tmps.size) {v u : Value} (h : a.put (some d) v = a.put (some d) u) : v = u := by
 have h1 : a.tmps.setIfInBounds d v = a.tmps.setIfInBounds d u := congrArg Act.tmps h
 have h2 : (a.tmps.setIfInBounds d v)[d]? = (a.tmps.setIfInBounds d u)[d]? := by rw [h1]
 simpa [Array.getElem?_setIfInBounds, hd] using h2
theorem reads_one {P : Program} {ops : Array Oper} {S : World → Prop} {o : Oper} {a a' : Act} {w : World}
   (hk : (!Region.wanted o (yielded ops a.tmps) || readerOp o.op || nilGood a o.op) = true) (hd : (o.dst.any fun d => decide (d < a.tmps.size)) = true) (hS : S w)
   (h : ∀ x, S x → ∀ K : Act → World → Prop, K a' x → wpList P ops (OnlyK K) [o] a x) : ∃ v, YieldsIf P ops S o v a ∧ a.put o.dst v = a' := by
 cases hdst : o.dst with
 | none => rw [hdst] at hd; cases hd
 | some d =>
   rw [hdst] at hd
   have hd' : d < a.tmps.size := by simpa using hd
   by_cases hw : Region.wanted o (yielded ops a.tmps) = true
   · have hk' : (readerOp o.op || nilGood a o.op) = true := by simpa [hw] using hk
     have one : ∀ x, S x → ∃ v, (execOp a.eval o).run P x = .ok (.value v) x ∧ a.put (some d) v = a' := by
       intro x hx
       have h1 := h x hx (fun a1 x1 => a1 = a' ∧ x1 = x) ⟨rfl, rfl⟩
       simp only [wpList, hw, if_true] at h1
       rcases h1 with h1 | ⟨_, _, _, h1⟩
       · unfold Oper.wp at h1
         cases hr : (execOp a.eval o).run P x with
         | ok n w1 =>
           obtain ⟨v, rfl⟩ := reader_value hk' hr
           rw [hr] at h1
           simp only [Oper.upon, OnlyK, hdst] at h1
           obtain ⟨h1, rfl⟩ := h1
           exact ⟨v, rfl, h1⟩
         | halt hh w1 =>
           rw [hr] at h1
           cases hh <;> simp only [Oper.upon, OnlyK] at h1
       · exact h1.elim
     obtain ⟨v, hv, hp⟩ := one w hS
     refine ⟨v, .inl ⟨hw, fun x hx => ?_⟩, hp⟩
     obtain ⟨u, hu, hq⟩ := one x hx
     rw [hu, put_inj hd' (hp.trans hq.symm)]
   · have hw' : Region.wanted o (yielded ops a.tmps) = false := by simpa using hw
     have h1 := h w hS (fun a1 x1 => a1 = a' ∧ x1 = w) ⟨rfl, rfl⟩
     simp only [wpList, hw', Bool.false_eq_true, if_false, OnlyK, hdst] at h1
     exact ⟨undef, .inr ⟨hw', rfl⟩, h1.1⟩
def lineOk (md : Region.Mode) (ops : Array Oper) : Array Bool → List (Nat × Bool) → Bool
 | listed, [] => Region.ready md ops listed == []
 | listed, (i, true) :: r => Region.free md ops listed i && (Region.ready md ops listed).contains i && lineOk md ops (listed.setIfInBounds i true) r
 | listed, (i, false) :: r => Region.ready md ops listed == [i] && lineOk md ops (listed.setIfInBounds i true) r
def wpLine (P : Program) (ops : Array Oper) (Q : Exit → Act → World → Prop) : (World → Prop) → List (Nat × Bool) → Act → World → Prop
 | _, [], a, w => Q .normal a w
 | S, (i, true) :: r, a, w => ∃ o v, ops[i]? = some o ∧ YieldsIf P ops S o v a ∧ wpLine P ops Q S r (a.put o.dst v) w
 | S, (i, false) :: r, a, w => wpOp P ops Q i (fun a' w' => ∃ S' : World → Prop, S' w' ∧ (∀ x, S' x → S x) ∧ wpLine P ops Q S' r a' w') a w
theorem wpAnyH_weaken {P : Program} {ops : Array Oper} {Q : Exit → Act → World → Prop} {md : Region.Mode} {S S' : World → Prop} (hs : ∀ x, S' x → S x) :
   ∀ (n : Nat) (listed : Array Bool) (a : Act) (w : World), wpAnyH P md ops Q S' n listed a w → wpAnyH P md ops Q S n listed a w
 | 0, _, _, _, h => h
 | n + 1, _, _, _, h => ⟨h.1, fun i hi => wpOp_mono (fun _ _ h' => ⟨hs _ h'.1, wpAnyH_weaken hs n _ _ _ h'.2⟩) (h.2 i hi)⟩
theorem wpLine_any {P : Program} {ops : Array Oper} {Q : Exit → Act → World → Prop} {md : Region.Mode} (hsel : Region.noSelect ops = true)
   (hQ : ∀ c a w d v, Q (.panic c) (a.put d v) w → Q (.panic c) a w) :
   ∀ (l : List (Nat × Bool)) (S : World → Prop) (listed : Array Bool) (a : Act) (w : World), lineOk md ops listed l = true → S w → wpLine P ops Q S l a w → wpAnyH P md ops Q S l.length listed a w
 | [], S, listed, a, w, hl, _, h => ⟨by simpa [lineOk] using hl, h⟩
 | (i, true) :: r, S, listed, a, w, hl, hS, h => by
   obtain ⟨o, v, ho, hy, h⟩ := h
   simp only [lineOk, Bool.and_eq_true] at hl
   exact wpAnyH_take ho hsel hl.1.1 hl.1.2 (fun c a w => hQ c a w _ _) hy hS (wpLine_any hsel hQ r S _ _ w hl.2 hS h)
 | (i, false) :: r, S, listed, a, w, hl, hS, h => by
   simp only [lineOk, Bool.and_eq_true, beq_iff_eq] at hl
   refine wpAnyH_all hl.1 (by simp) ?_
   intro j hj
   simp at hj
   subst hj
   exact wpOp_mono (fun a' w' ⟨S', hS', hsub, h'⟩ => ⟨hsub _ hS', wpAnyH_weaken hsub _ _ _ _ (wpLine_any hsel hQ r S' _ _ w' hl.2 hS' h')⟩) h
theorem region_line {P : Program} {ops : Array Oper} {Q : Exit → Act → World → Prop} {id : Nat} {a : Act} {w : World} (l : List (Nat × Bool)) (S : World → Prop) (hm : P.follows .mixedOrders = true)
   (hc : (Region.noSelect ops && (l.length == ops.size) && lineOk .any ops (Array.replicate ops.size false) l) = true)
   (hQ : ∀ c a w d v, Q (.panic c) (a.put d v) w → Q (.panic c) a w) (hS : S w.drew)
   (h : wpLine P ops Q S l a w.drew) : (Code.region id ops true).wp P Q a w := by
 simp only [Bool.and_eq_true, beq_iff_eq] at hc
 refine wp_region_any hm (wpAny_of_held (S := S) _ _ _ _ ?_)
 rw [← hc.1.2]
 have := wpLine_any hc.1.1 hQ l S _ a w.drew hc.2 hS h
 rw [← hc.1.2] at this
 exact this
theorem line_read {P : Program} {ops : Array Oper} {Q : Exit → Act → World → Prop} {S : World → Prop} {i : Nat} {r : List (Nat × Bool)} {o : Oper} {a a' : Act} {w : World} (ho : ops[i]? = some o)
   (hk : (!Region.wanted o (yielded ops a.tmps) || readerOp o.op || nilGood a o.op) = true) (hd : (o.dst.any fun d => decide (d < a.tmps.size)) = true) (hS : S w)
   (h : ∀ x, S x → ∀ K : Act → World → Prop, K a' x → wpList P ops (OnlyK K) [o] a x) (hr : wpLine P ops Q S r a' w) : wpLine P ops Q S ((i, true) :: r) a w := by
 obtain ⟨v, hy, hp⟩ := reads_one hk hd hS h
 exact ⟨o, v, ho, hy, by rw [hp]; exact hr⟩
theorem line_act {P : Program} {ops : Array Oper} {Q : Exit → Act → World → Prop} {S : World → Prop} {i : Nat} {r : List (Nat × Bool)} {o : Oper} {a : Act} {w : World} (ho : ops[i]? = some o)
   (h : ∀ K : Act → World → Prop, (∀ a' w' (S' : World → Prop), S' w' → (∀ x, S' x → S x) → wpLine P ops Q S' r a' w' → K a' w') → wpList P ops (ElseQ K Q) [o] a w) : wpLine P ops Q S ((i, false) :: r) a w := by
 have h1 := h _ (fun a' w' S' h1 h2 h3 => (⟨S', h1, h2, h3⟩ : ∃ S' : World → Prop, S' w' ∧ (∀ x, S' x → S x) ∧ wpLine P ops Q S' r a' w'))
 show wpOp P ops Q i _ a w
 unfold wpOp
 simp only [ho]
 simp only [wpList] at h1
 split
 · rename_i hw
   rw [if_pos hw] at h1
   rcases h1 with h1 | ⟨h1, b, x, h2⟩
   · refine .inl ?_
     unfold Oper.wp at h1 ⊢
     generalize (execOp a.eval o).run P w = res at h1
     cases res with
     | ok n w1 =>
       cases n <;> first | exact h1 | exact Calls.mono h1 (fun e w2 he => by cases e <;> exact he) | exact Rows.mono h1 (fun _ _ he => he)
     | halt hh w1 => cases hh <;> exact h1
   · exact .inr ⟨h1, b, x, h2⟩
 · rename_i hw
   rw [if_neg hw] at h1
   exact h1
theorem line_end {P : Program} {ops : Array Oper} {Q : Exit → Act → World → Prop} {S : World → Prop} {a : Act} {w : World} (h : Q .normal a w) : wpLine P ops Q S [] a w := h
def Ext (w : World) : World → Prop := fun x => w.grownBy x none
theorem Ext.refl (w : World) : Ext w w := ⟨rfl, rfl, rfl, Nat.le_refl _, fun _ _ _ => rfl⟩
theorem Ext.drew (w : World) : Ext w w.drew := ⟨rfl, rfl, rfl, Nat.le_refl _, fun _ _ _ => rfl⟩
theorem Ext.next {w w1 : World} (h : w.grownBy w1 none) : ∀ x, Ext w1 x → Ext w x := fun _ hx =>
 ⟨hx.os.trans h.os, hx.tape.trans h.tape, hx.output.trans h.output, Nat.le_trans h.size hx.size, fun k hk hne => (hx.block k (Nat.lt_of_lt_of_le hk h.size) hne).trans (h.block k hk hne)⟩
theorem Ext.of_drew {w x : World} (h : Ext w.drew x) : Ext w x := ⟨h.os, h.tape, h.output, h.size, h.block⟩
theorem ext_trans {a b c : World} (h : Ext a b) (h2 : Ext b c) : Ext a c := Ext.next h c h2
theorem gb_drewN (w : World) (n : Nat) : w.grownBy (w.drewN n) none := ⟨rfl, rfl, rfl, Nat.le_refl _, fun _ _ _ => rfl⟩
end Go.Proofs.YtdnpdoipipfkoaaGreatDoor

namespace Go.Proofs.YtdnpdoipipfkoaaGreatDoor
set_option linter.unusedVariables false
set_option linter.unusedSimpArgs false
set_option linter.unusedVariables false
set_option linter.unusedSimpArgs false
set_option maxRecDepth 100000
open Go.RowKit
def Ints (w : World) (v : Value) (xs : List Int) : Prop :=
 (v = .slice none 0 0 ∧ xs = []) ∨ (∃ b off cap, v = .slice (some ⟨b, off, none⟩) xs.length cap ∧ xs.length ≤ cap ∧ ∀ i, i < xs.length → w.cell? ⟨b, off + i, none⟩ = some (.int .i64 (xs.getD i 0))) ∨
   ∃ a cap, v = .slice (some a) 0 cap ∧ xs = []
theorem Ints.cells {w : World} {xs : List Int} {b off cap : Nat} (hc : xs.length ≤ cap) (h : ∀ i, i < xs.length → w.cell? ⟨b, off + i, none⟩ = some (.int .i64 (xs.getD i 0))) : Ints w (.slice (some ⟨b, off, none⟩) xs.length cap) xs := .inr (.inl ⟨b, off, cap, rfl, hc, h⟩)
theorem Ints.form {w : World} {v : Value} {xs : List Int} (h : Ints w v xs) : ∃ ao cap b off, v = .slice ao xs.length cap ∧ ∀ k, k < xs.length → ao = some ⟨b, off, none⟩ ∧ w.cell? ⟨b, off + k, none⟩ = some (.int .i64 (xs.getD k 0)) := by
 rcases h with ⟨rfl, rfl⟩ | ⟨b, off, cap, rfl, _, hc⟩ | ⟨a, cap, rfl, rfl⟩
 · exact ⟨none, 0, 0, 0, rfl, fun k hk => by simp at hk⟩
 · exact ⟨_, cap, b, off, rfl, fun k hk => ⟨rfl, hc k hk⟩⟩
 · exact ⟨_, cap, 0, 0, rfl, fun k hk => by simp at hk⟩
theorem Ints.two {w : World} {v : Value} {xs : List Int} (h : Ints w v xs) : (v = .slice none 0 0 ∧ xs = []) ∨ ∃ a cap, v = .slice (some a) xs.length cap ∧ xs.length ≤ cap ∧ ∀ i, i < xs.length → w.cell? (a.add i) = some (.int .i64 (xs.getD i 0)) := by
 rcases h with h | ⟨b, off, cap, rfl, h2, h3⟩ | ⟨a, cap, rfl, rfl⟩
 · exact .inl h
 · exact .inr ⟨_, cap, rfl, h2, fun i hi => by rw [addr_add]; exact h3 i hi⟩
 · exact .inr ⟨a, cap, rfl, Nat.zero_le _, fun i hi => by simp at hi⟩
theorem Ints.kept {w w' : World} {v : Value} {xs : List Int} {r : Option Nat} (h : Ints w v xs) (hg : w.grownBy w' r) (hne : ∀ k, v.ownBlock = some k → some k ≠ r) : Ints w' v xs := by
 rcases h with h | ⟨b, off, cap, rfl, h2, h3⟩ | h
 · exact .inl h
 · exact .inr (.inl ⟨b, off, cap, rfl, h2, fun i hi => hg.cell (h3 i hi) (hne b rfl)⟩)
 · exact .inr (.inr h)
theorem index_any (v : Value) (xs : List Int) (n : Int) (w : World) (hb : Ints w v xs) (hm : xs.length ≤ 9223372036854775807) :
   Calls Tryz.prog 204 #[v, .int .i64 n] w fun e w' => ∃ r : Int, e = .returned (.int .i64 r) ∧ w = w' ∧ ((0 ≤ r ∧ n ∈ xs) ∨ (r < 0 ∧ n ∉ xs)) := by
 obtain ⟨ao, cap, b, off, rfl, hc⟩ := hb.form
 have HC := Lib.hid hc
 clear hc hb
 go_enter Tryz.func204, Tryz.ntmps204
 go_wp2
 go_loopw [8] (fun i wr => ∃ k : Nat, k ≤ xs.length ∧ i = .int .i64 k ∧ (∀ j, j < k → xs.getD j 0 ≠ n) ∧ w = wr) (fun i _ => xs.length - (intOf i).toNat)
 case atStart => exact ⟨0, by omega, rfl, fun j hj => by omega, rfl⟩
 case round =>
   obtain ⟨k, hk, rfl, hnot, rfl⟩ := hrel
   have NOT := Lib.hid hnot
   clear hnot
   by_cases hlt : k < xs.length
   · obtain ⟨rfl, hcell⟩ := HC.out k hlt
     obtain ⟨x, hx⟩ : ∃ x, xs.getD k 0 = x := ⟨_, rfl⟩
     rw [hx] at hcell
     have HX := Lib.hid hx
     clear hx
     by_cases he : n = x
     · subst he
       go_wp2
       go_ret
       refine ⟨_, rfl, rfl, .inl ⟨by omega, ?_⟩⟩
       have := HX.out
       rw [List.getD_eq_getElem?_getD, List.getElem?_eq_getElem hlt] at this
       simp only [Option.getD_some] at this
       rw [← this]
       exact List.getElem_mem hlt
     · have hne : (n == x) = false := by simpa using he
       clear he
       go_wp2
       go_roundw
       case rel =>
         refine ⟨k + 1, by omega, by go_num, fun j hj => ?_, trivial⟩
         by_cases e : j = k
         · subst e; rw [HX.out]; intro h; subst h; simp at hne
         · exact NOT.out j (by omega)
       case measure => simp [intOf]; omega
   · obtain rfl : k = xs.length := by omega
     go_wp2
     go_ret
     refine ⟨_, rfl, rfl, .inr ⟨by omega, fun hmem => ?_⟩⟩
     obtain ⟨j, hj, hjn⟩ := List.mem_iff_getElem.1 hmem
     refine NOT.out j hj ?_
     rw [List.getD_eq_getElem?_getD, List.getElem?_eq_getElem hj]
     exact hjn
theorem contains_any (v : Value) (xs : List Int) (n : Int) (w : World) (hb : Ints w v xs) (hm : xs.length ≤ 9223372036854775807) :
   Calls Tryz.prog 190 #[v, .int .i64 n] w fun e w' => e = .returned (.bool (decide (n ∈ xs))) ∧ w = w' := by
 have I := index_any v xs n w hb hm
 obtain ⟨ao, cap, b, off, rfl, hc⟩ := hb.form
 clear hc hb
 go_enter Tryz.func190, Tryz.ntmps190
 go_wp2_with (go_at_call 204; refine I.mono ?_; rintro e w' ⟨r, rfl, rfl, hr⟩; have HR := Lib.hid hr; clear hr)
 go_ret
 rcases HR.out with ⟨h1, h2⟩ | ⟨h1, h2⟩
 · exact ⟨by simp [h1, h2], rfl⟩
 · exact ⟨by simp [h2]; omega, rfl⟩
theorem below_any (n : Int) (w : World) : Calls Tryz.prog 48 #[.int .i64 n] w fun e w' => e = .returned (.bool (decide (n < 1))) ∧ w = w' := by
 go_enter Tryz.func48, Tryz.ntmps48
 go_wp2
 go_ret
 exact ⟨rfl, rfl⟩
theorem indexFunc_any (v : Value) (xs : List Int) (w : World) (hb : Ints w v xs) (hm : xs.length ≤ 9223372036854775807) :
   Calls Tryz.prog 93 #[v, .func (.func 48) #[] #[]] w fun e w' => ∃ r : Int, e = .returned (.int .i64 r) ∧ w = w' ∧ ((0 ≤ r ∧ ∃ n ∈ xs, n < 1) ∨ (r < 0 ∧ ∀ n ∈ xs, ¬ n < 1)) := by
 obtain ⟨ao, cap, b, off, rfl, hc⟩ := hb.form
 have HC := Lib.hid hc
 clear hc hb
 go_enter Tryz.func93, Tryz.ntmps93
 go_wp2
 go_loopw [8] (fun i wr => ∃ k : Nat, k ≤ xs.length ∧ i = .int .i64 k ∧ (∀ j, j < k → ¬ xs.getD j 0 < 1) ∧ w = wr) (fun i _ => xs.length - (intOf i).toNat)
 case atStart => exact ⟨0, by omega, rfl, fun j hj => by omega, rfl⟩
 case round =>
   obtain ⟨k, hk, rfl, hnot, rfl⟩ := hrel
   have NOT := Lib.hid hnot
   clear hnot
   by_cases hlt : k < xs.length
   · obtain ⟨rfl, hcell⟩ := HC.out k hlt
     obtain ⟨x, hx⟩ : ∃ x, xs.getD k 0 = x := ⟨_, rfl⟩
     rw [hx] at hcell
     have HX := Lib.hid hx
     clear hx
     by_cases he : x < 1
     · go_wp2_with (go_at_call 48; refine (below_any _ _).mono ?_; rintro e w' ⟨rfl, rfl⟩)
       go_ret
       refine ⟨_, rfl, rfl, .inl ⟨by omega, x, ?_, he⟩⟩
       have := HX.out
       rw [List.getD_eq_getElem?_getD, List.getElem?_eq_getElem hlt] at this
       simp only [Option.getD_some] at this
       rw [← this]
       exact List.getElem_mem hlt
     · go_wp2_with (go_at_call 48; refine (below_any _ _).mono ?_; rintro e w' ⟨rfl, rfl⟩)
       go_roundw
       case rel =>
         refine ⟨k + 1, by omega, by go_num, fun j hj => ?_, trivial⟩
         by_cases e : j = k
         · subst e; rw [HX.out]; omega
         · have := NOT.out j (by omega); omega
       case measure => simp [intOf]; omega
   · obtain rfl : k = xs.length := by omega
     go_wp2
     go_ret
     refine ⟨_, rfl, rfl, .inr ⟨by omega, fun n hmem => ?_⟩⟩
     obtain ⟨j, hj, hjn⟩ := List.mem_iff_getElem.1 hmem
     have := NOT.out j hj
     rw [List.getD_eq_getElem?_getD, List.getElem?_eq_getElem hj] at this
     simp only [Option.getD_some] at this
     rw [← hjn]
     exact this
def lowB (xs : List Int) : Bool := xs.any fun n => decide (n < 1)
theorem containsFunc_any (v : Value) (xs : List Int) (w : World) (hb : Ints w v xs) (hm : xs.length ≤ 9223372036854775807) :
   Calls Tryz.prog 47 #[v, .func (.func 48) #[] #[]] w fun e w' => e = .returned (.bool (lowB xs)) ∧ w = w' := by
 have I := indexFunc_any v xs w hb hm
 obtain ⟨ao, cap, b, off, rfl, hc⟩ := hb.form
 clear hc hb
 go_enter Tryz.func47, Tryz.ntmps47
 go_wp2_with (go_at_call 93; refine I.mono ?_; rintro e w' ⟨r, rfl, rfl, hr⟩; have HR := Lib.hid hr; clear hr)
 go_ret
 rcases HR.out with ⟨h1, h2⟩ | ⟨h1, h2⟩
 · have : lowB xs = true := by simpa [lowB] using h2
   exact ⟨by simp [this, h1], rfl⟩
 · have : lowB xs = false := by simp [lowB]; intro n hn; have := h2 n hn; omega
   exact ⟨by simp [this]; omega, rfl⟩
theorem Tryz.infoInt : (Tryz.prog.info? 3).map (fun i => (i.zero, i.size, i.bytes)) = some (some (.int .i64 0), 1, 8) := by kernel_rfl
theorem Tryz.eqNilInts (w : World) (a : Option Addr) (n c : Nat) : (binOp .eql 22 (.slice a n c) (.slice none 0 0)).run Tryz.prog w = .ok (.bool a.isNone) w := Lib.run_eql_slice_nil w 22 3 a n c 0 0 Tryz.underlying22
attribute [local go_sem] Tryz.eqNilInts
def Cloned (w : World) (xs : List Int) (e : Ending) (w' : World) : Prop := ∃ v', e = .returned v' ∧ Ints w' v' xs ∧ w.grownBy w' none ∧ (∀ k, v'.ownBlock = some k → w.heap.size ≤ k ∧ k < w'.heap.size)
theorem owns_ints {w : World} {B : Nat} {v : Value} {xs : List Int} {n : Nat} (hn : n = xs.length) (h : w.ownsRow B 3 1 v n (xs.map (Value.int .i64))) : Ints w v xs := by
 subst hn
 rcases h.2 with ⟨h2, h3⟩ | ⟨g, cap, cur, rfl, hg, hh, hc, _⟩
 · exact .inl ⟨h2, List.length_eq_zero_iff.1 h3⟩
 · refine .inr (.inl ⟨g, 0, cap, rfl, hc, fun i hi => ?_⟩)
   rw [Nat.zero_add, h.cellAt i (by omega), List.getElem?_map, List.getElem?_eq_getElem hi, List.getD_eq_getElem?_getD, List.getElem?_eq_getElem hi]
   rfl
theorem clonei_any (v : Value) (xs : List Int) (w : World) (hb : Ints w v xs) (hm : xs.length ≤ 64) :
   Calls Tryz.prog 49 #[v] w (Cloned w xs) := by
 obtain ⟨i0, hi, hz0, hz1, hz2⟩ := info_parts Tryz.infoInt
 rcases hb.two with ⟨rfl, rfl⟩ | ⟨sa, cap, rfl, _, hc⟩
 · go_enter Tryz.func49, Tryz.ntmps49
   go_wp2
   go_ret
   exact ⟨_, rfl, .inl ⟨rfl, rfl⟩, ⟨rfl, rfl, rfl, Nat.le_refl _, fun _ _ _ => rfl⟩, fun k hk => by simp [Value.ownBlock] at hk⟩
 · have hown := World.ownsRow_made (base := w.heap.size) (e := 3) (size := 1) w #[] 0 (Nat.le_refl _) (Nat.zero_le _) rfl
   have HC := Lib.hid hc
   clear hc
   go_enter Tryz.func49, Tryz.ntmps49
   go_wp2_with (at_builtin; go_loud (refine wpList_append_own _ rfl _ _ 22 rfl w.heap.size 3 i0 (.int .i64 0) 1 8 Tryz.underlying22 hi hz0 hz1 hz2 rfl (by decide) _ _ _ rfl hown sa xs.length cap (xs.map (Value.int .i64)) rfl (by simp) ?c1 ?c2 ?c3 ?c4 ?c5 ?_))
   case c1 =>
     intro j u hj
     rw [List.getElem?_map] at hj
     by_cases h : j < xs.length
     · rw [List.getElem?_eq_getElem h] at hj
       have h2 := HC.out j h
       rw [World.cell?_alloc_old _ _ _ (Nat.ne_of_lt (World.block_lt_of_cell? w _ h2)), h2, ← hj]
       simp [List.getElem?_eq_getElem h, List.getD_eq_getElem?_getD]
     · rw [List.getElem?_eq_none (by omega)] at hj
       cases hj
   case c2 => exact ints_oneCell _ _
   case c3 => unfold maxLen; omega
   case c4 => omega
   case c5 => simp
   intro v' w1 hown' hgrow _
   have hown2 : w1.ownsRow w.heap.size 3 1 v' xs.length (xs.map (Value.int .i64)) := by simpa using hown'
   go_wp2
   go_ret
   exact ⟨v', rfl, owns_ints rfl hown2, grown_trans (World.grownBy_alloc w _ none) hgrow (fun k hk h => by simp [Value.ownBlock] at hk; omega), hown2.lt⟩
end Go.Proofs.YtdnpdoipipfkoaaGreatDoor

namespace Go.Proofs.YtdnpdoipipfkoaaGreatDoor
set_option linter.unusedVariables false
set_option linter.unusedSimpArgs false
set_option linter.unusedVariables false
set_option linter.unusedSimpArgs false
set_option maxRecDepth 100000
open Go.RowKit
section
variable {P : Program} {ops : Array Oper} {rest : List Oper} {o : Oper} {a : Act} {w : World} {Q : Exit → Act → World → Prop}
theorem wpList_want (hwt : Region.wanted o (yielded ops a.tmps) = true) (h : ∀ K : Act → World → Prop, (∀ a w, wpList P ops Q rest a w → K a w) → o.wp P a w K Q) : wpList P ops Q (o :: rest) a w := by
 unfold wpList
 rw [if_pos hwt]
 exact .inl (h _ (fun _ _ h => h))
theorem wpList_load_part (hwt : Region.wanted o (yielded ops a.tmps) = true) (ty : TypeId) (x : Operand) (ho : o.op = .load ty x)
   (g off n : Nat) (hx : a.eval x = .pointer (some ⟨g, off, none⟩)) (t : TypeId) (C : Array Value) (fr : Nat × Nat) (d : TypeDesc) (cs : Array Value) (hg : w.heap[g]? = some (.cells C t fr))
   (hcs : C.extract off (off + n) = cs) (hn : cs.size = n) (hu : P.underlying ty = some d) (hd : d.isRow = true) (hi : (P.info? ty).map (·.size) = some n)
   (h : wpList P ops Q rest (a.put o.dst (.agg cs)) w) : wpList P ops Q (o :: rest) a w := by
 refine wpList_want hwt fun K hK => wp_load_mid ty x ho g off hx cs.toList d ?_ hu hd (by rw [hi]; simp [hn]) (hK _ _ (by simpa using h))
 have := World.rangeAt_of_block hg off n
 rw [hcs] at this
 exact this
theorem wpList_store_part (hwt : Region.wanted o (yielded ops a.tmps) = true) (ty : TypeId) (x y : Operand) (ho : o.op = .store ty x y)
   (g off n : Nat) (cs : Array Value) (hx : a.eval x = .pointer (some ⟨g, off, none⟩)) (hy : a.eval y = .agg cs) (t : TypeId) (C C' : Array Value) (hg : w.heap[g]? = some (.cells C t (0, 0)))
   (hn : cs.size = n) (hi : (P.info? ty).map (·.size) = some n) (hfit : off + n ≤ C.size) (h1 : cs.all (·.oneCell') = true) (hC' : (C.toList.take off ++ cs.toList ++ C.toList.drop (off + cs.toList.length)).toArray = C')
   (h : ∀ w', w'.heap[g]? = some (.cells C' t (0, 0)) → w.grownBy w' (some g) → w'.heap.size = w.heap.size → wpList P ops Q rest (a.put o.dst undef) w') : wpList P ops Q (o :: rest) a w := by
 refine wpList_want hwt fun K hK => ?_
 have hst := run_storeCells_at P g off t cs.toList 0 C w hg (by simp; omega) (fun v hv => (Array.all_eq_true_iff_forall_mem.1 h1) v (by simpa using hv))
 have hrun : (storeVar ty ⟨g, off, none⟩ (.agg cs)).run P w = .ok () (w.setRow g C') := by
   cases hq : P.info? ty with
   | none => simp [hq] at hi
   | some i =>
     have hs : i.size = cs.size := by simp [hq] at hi; omega
     rw [← hC']
     simpa [storeVar, sizeOf, typeInfo, hq, Value.cells, hs] using hst
 have hlt : g < w.heap.size := (Array.getElem?_eq_some_iff.1 hg).1
 unfold Oper.wp execOp
 simp only [ho, hx, hy, Instr.storeAt, Instr.sureAddr, Sem.run_bind, Sem.run_pure, Result.andThen_ok, hrun]
 exact hK _ _ (h _ (setRow_heap w g C C' t _ hg) ⟨rfl, rfl, rfl, by simp, fun k _ hne => setRow_other w g k C' (fun e => hne (by rw [e]))⟩ (by simp))
end
def Blk (w : World) (g : Nat) (t : TypeId) (cs : Array Value) : Prop := w.heap[g]? = some (.cells cs t (0, 0))
section
variable {w w' : World} {g : Nat} {t : TypeId} {cs : Array Value}
theorem Blk.lt (h : Blk w g t cs) : g < w.heap.size := (Array.getElem?_eq_some_iff.1 h).1
theorem Blk.cell (h : Blk w g t cs) (i : Nat) : w.cell? ⟨g, i, none⟩ = cs[i]? := cell_of_row w g i cs t (0, 0) h
theorem Blk.free (h : Blk w g t cs) (i : Nat) : w.frozen? ⟨g, i, none⟩ = false := frozen_of_row w g i cs t h
theorem Blk.kept {r : Option Nat} (h : Blk w g t cs) (hg : w.grownBy w' r) (hne : some g ≠ r) : Blk w' g t cs := (hg.block g h.lt hne).trans h
theorem Blk.ext (h : Blk w g t cs) (hg : w.grownBy w' none) : Blk w' g t cs := h.kept hg (by simp)
theorem Blk.alloc (h : Blk w g t cs) (o : Obj) : Blk (w.alloc o) g t cs := h.ext (World.grownBy_alloc w o none)
theorem Blk.new (w : World) (t : TypeId) (cs : Array Value) : Blk (w.alloc (.cells cs t)) w.heap.size t cs := heap_alloc_new w _
theorem Blk.newAt (w : World) (n : Nat) (hn : w.heap.size = n) (t : TypeId) (cs : Array Value) : Blk (w.alloc (.cells cs t)) n t cs := by subst hn; exact Blk.new w t cs
theorem Blk.set (h : Blk w g t cs) (i : Nat) (v : Value) : Blk (w.setCell ⟨g, i, none⟩ v) g t (cs.setIfInBounds i v) := heap_setCell_same w g i cs t v h
end
section
variable {ops : Array Oper} {rest : List Oper} {o : Oper} {a : Act} {w : World} {Q : Exit → Act → World → Prop}
end
end Go.Proofs.YtdnpdoipipfkoaaGreatDoor

namespace Go.Proofs.YtdnpdoipipfkoaaGreatDoor
set_option linter.unusedVariables false
set_option linter.unusedSimpArgs false
set_option linter.unusedVariables false
set_option linter.unusedSimpArgs false
set_option maxRecDepth 100000
open Go.RowKit Go.ChangeShapes Go.WideShapes
theorem row_intsW {w : World} {a : Option Addr} {len cap : Nat} {zs : List Int} (h : IsRow .i64 w a len cap zs) (hs : ∀ x, a = some x → x.spot = none ∧ x.block < w.heap.size) :
   Ints w (.slice a len cap) (zs.take len) ∧ (∀ k, (Value.slice a len cap).ownBlock = some k → k < w.heap.size) ∧ (zs.take len).length ≤ maxLen ∧ ∀ n ∈ zs.take len, (Lit.int .i64 n).wf = true := by
 rcases h with ⟨rfl, rfl, rfl, rfl⟩ | ⟨x, rfl, hl, hm, hz, hc, hw⟩
 · exact ⟨.inl ⟨rfl, rfl⟩, by simp [Value.ownBlock], Nat.zero_le _, by simp⟩
 · obtain ⟨hsp, hb⟩ := hs x rfl
   obtain ⟨b, off, sp⟩ := x
   simp only at hsp hb
   subst hsp
   have hlen : (zs.take len).length = len := by simp; omega
   refine ⟨.inr (.inl ⟨b, off, cap, by rw [hlen], by omega, fun i hi => ?_⟩), fun k hk => ?_, by omega, fun n hn => hw n (List.mem_of_mem_take hn)⟩
   · rw [hlen] at hi
     have := hc i (by omega)
     rw [addr_add] at this
     rw [this]
     simp [hi]
   · simp [Value.ownBlock] at hk
     omega
section
variable {H : Type} {enc : TypeId × Value → H} {w : World} {base b0 : Nat} {held : Bool}
end
end Go.Proofs.YtdnpdoipipfkoaaGreatDoor

namespace Go.Proofs.YtdnpdoipipfkoaaGreatDoor
set_option linter.unusedVariables false
set_option linter.unusedSimpArgs false
set_option linter.unusedVariables false
set_option linter.unusedSimpArgs false
set_option maxRecDepth 100000
open Go.RowKit Go.ChangeShapes Go.WideShapes
def wardV (a b c d : Int) (ao : Option Addr) (n cap : Nat) : Value := .agg #[.int .i64 a, .int .i64 b, .int .i64 c, .int .i64 d, .slice ao n cap]
structure WardP (w : World) (a b c d : Int) (ao : Option Addr) (n cap : Nat) (zs : List Int) : Prop where
 is : Ints w (.slice ao n cap) zs
 lt : ∀ k, (Value.slice ao n cap).ownBlock = some k → k < w.heap.size
 len : zs.length = n
 mx : n ≤ maxLen
 wf : ∀ x ∈ zs, (Lit.int .i64 x).wf = true
 w0 : (Lit.int .i64 a).wf = true
 w1 : (Lit.int .i64 b).wf = true
 w2 : (Lit.int .i64 c).wf = true
 w3 : (Lit.int .i64 d).wf = true
section
variable {H : Type} {enc : TypeId × Value → H} {w : World} {base b0 : Nat} {held : Bool}
set_option maxRecDepth 100000 in
theorem open_ward {v : Value} {d : DataW H} {p : List MemPlace} (hv : Value.okWide Tryz.prog w .any b0 24 v) (h : DataW.Trod enc Tryz.prog w base (fun _ => true) held 24 v d p) :
   ∃ (n0 n1 n2 n3 : Int) (ao : Option Addr) (n cap : Nat) (zs : List Int), v = wardV n0 n1 n2 n3 ao n cap ∧ WardP w n0 n1 n2 n3 ao n cap zs := by
 simp only [Value.okWide, Tryz.underlying24] at hv
 obtain ⟨cs, rfl, hsz, ts, h1, _, hall⟩ := hv
 rw [show Tryz.prog.cellTypes Tryz.prog.depth 24 = some [3, 3, 3, 3, 22] by kernel_rfl] at h1
 obtain rfl := Option.some.inj h1
 rw [show Tryz.prog.cellsOf 24 = 5 by kernel_rfl] at hsz
 obtain ⟨l⟩ := cs
 obtain ⟨c0, c1, c2, c3, c4, rfl⟩ := list5 (show l.length = 5 by simpa using hsz)
 have hs : Value.okWide Tryz.prog w .any b0 22 c4 := by
   obtain ⟨u, hu, hw⟩ := hall 4 c4 rfl
   have hus : 22 = u := by simpa using hu
   subst hus
   simpa only [Value.okWide, Tryz.underlying22] using hw
 obtain ⟨fuel, hf⟩ := h
 have hf2 : DataW.trod enc Tryz.prog w base (fun _ => true) held fuel 24 [c0, c1, c2, c3, c4] = some (d, p) := by simpa [Value.cells] using hf
 obtain ⟨xs, m, _, _, _, hl, hat⟩ := DataW.trod_struct Tryz.underlying24 hf2
 have k0 : DataW.trod enc Tryz.prog w base (fun _ => true) held m 3 (([c0, c1, c2, c3, c4].drop 0).take (Tryz.prog.cellsOf 3)) = xs[0]? := hat 0 _ rfl
 have k1 : DataW.trod enc Tryz.prog w base (fun _ => true) held m 3 (([c0, c1, c2, c3, c4].drop 1).take (Tryz.prog.cellsOf 3)) = xs[1]? := hat 1 _ rfl
 have k2 : DataW.trod enc Tryz.prog w base (fun _ => true) held m 3 (([c0, c1, c2, c3, c4].drop 2).take (Tryz.prog.cellsOf 3)) = xs[2]? := hat 2 _ rfl
 have k3 : DataW.trod enc Tryz.prog w base (fun _ => true) held m 3 (([c0, c1, c2, c3, c4].drop 3).take (Tryz.prog.cellsOf 3)) = xs[3]? := hat 3 _ rfl
 have k4 : DataW.trod enc Tryz.prog w base (fun _ => true) held m 22 (([c0, c1, c2, c3, c4].drop 4).take (Tryz.prog.cellsOf 22)) = xs[4]? := hat 4 _ rfl
 have hl5 : xs.length = 5 := hl
 rw [show Tryz.prog.cellsOf 3 = 1 by kernel_rfl] at k0 k1 k2 k3
 rw [show Tryz.prog.cellsOf 22 = 1 by kernel_rfl] at k4
 rw [List.getElem?_eq_getElem (by omega)] at k0 k1 k2 k3 k4
 obtain ⟨n0, e0, _, w0⟩ := DataW.trod_int Tryz.underlying3 k0
 obtain ⟨n1, e1, _, w1⟩ := DataW.trod_int Tryz.underlying3 k1
 obtain ⟨n2, e2, _, w2⟩ := DataW.trod_int Tryz.underlying3 k2
 obtain ⟨n3, e3, _, w3⟩ := DataW.trod_int Tryz.underlying3 k3
 obtain ⟨a4, l4, p4, rfl⟩ := okWide_slice Tryz.underlying22 hs
 simp at e0 e1 e2 e3
 obtain ⟨zs, hz⟩ := row_of (d := (xs[4]).1) (p := (xs[4]).2) (a := a4) (len := l4) (cap := p4) Tryz.underlying22 Tryz.underlying3 (by kernel_rfl) ⟨m, k4⟩
 obtain ⟨r1, r2, r3, r4⟩ := row_intsW hz (fun x hx => by cases hx; exact slice_good Tryz.underlying22 hs)
 have hlen : (zs.take l4).length = l4 := by
   rcases r1 with ⟨h5, h6⟩ | ⟨b, off, cap, h5, _, _⟩ | ⟨x, cap, h5, h6⟩
   · simp only [Value.slice.injEq] at h5
     rw [h6, h5.2.1]; rfl
   · simp only [Value.slice.injEq] at h5
     exact h5.2.1.symm
   · simp only [Value.slice.injEq] at h5
     rw [h6, h5.2.1]; rfl
 exact ⟨n0, n1, n2, n3, a4, l4, p4, zs.take l4, by simp [wardV, e0, e1, e2, e3], r1, r2, hlen, by omega, r4, w0, w1, w2, w3⟩
end
end Go.Proofs.YtdnpdoipipfkoaaGreatDoor

namespace Go.Proofs.YtdnpdoipipfkoaaGreatDoor
set_option linter.unusedVariables false
set_option linter.unusedSimpArgs false
set_option linter.unusedVariables false
set_option linter.unusedSimpArgs false
set_option maxRecDepth 100000
open Go.RowKit
section
variable {w w' : World} {base : Nat} {e : TypeId} {size : Nat} {v : Value} {n : Nat} {xs : List Value}
end
end Go.Proofs.YtdnpdoipipfkoaaGreatDoor

namespace Go.Proofs.YtdnpdoipipfkoaaGreatDoor
set_option linter.unusedVariables false
set_option linter.unusedSimpArgs false
set_option linter.unusedVariables false
set_option linter.unusedSimpArgs false
set_option maxRecDepth 100000
open Go.RowKit
theorem ret_bool {a b : Bool} (h : a = b) : Ending.returned (.bool a) = .returned (.bool b) := by rw [h]
theorem ret_int {k : IntKind} {a b : Int} (h : a = b) : Ending.returned (.int k a) = .returned (.int k b) := by rw [h]
def sizeB (n : Int) : Bool := decide (n = 1 ∨ n = 2 ∨ n = 4)
set_option maxHeartbeats 400000 in
theorem isSize_any (n : Int) (w : World) :
   Calls Tryz.prog 161 #[.int .i64 n] w fun e w' => e = .returned (.bool (sizeB n)) ∧ w = w' := by
 by_cases h1 : n = 1
 · subst h1
   go_enter Tryz.func161, Tryz.ntmps161
   go_wp2
   go_ret
   exact ⟨ret_bool (by simp [sizeB]), rfl⟩
 · by_cases h2 : n = 2
   · subst h2
     go_enter Tryz.func161, Tryz.ntmps161
     go_wp2
     go_ret
     exact ⟨ret_bool (by simp [sizeB]), rfl⟩
   · have e1 : (n == 1) = false := by simpa using h1
     have e2 : (n == 2) = false := by simpa using h2
     go_enter Tryz.func161, Tryz.ntmps161
     go_wp2
     go_ret
     refine ⟨ret_bool ?_, rfl⟩
     rw [Bool.eq_iff_iff]
     simp [sizeB]
     omega
def fitsB (v n : Int) : Bool := decide (0 ≤ v ∧ ((n = 1 ∧ v ≤ 255) ∨ (n = 2 ∧ v ≤ 65535) ∨ (n = 4 ∧ v ≤ 4294967295)))
theorem fits_u64 (v : Int) (h0 : 0 ≤ v) (h1 : v ≤ 9223372036854775807) : IntKind.u64.wrap v = v := by
 simp [IntKind.wrap, IntKind.bits, IntKind.signed]
 omega
set_option maxHeartbeats 400000 in
theorem fits_any (v n : Int) (w : World) (hv9 : v ≤ 9223372036854775807) :
   Calls Tryz.prog 200 #[.int .i64 v, .int .i64 n] w fun e w' => e = .returned (.bool (fitsB v n)) ∧ w = w' := by
 by_cases hs : sizeB n = true
 · have hn : n = 1 ∨ n = 2 ∨ n = 4 := by simpa [sizeB] using hs
   by_cases hv : 0 ≤ v
   · have hu := fits_u64 v hv hv9
     rcases hn with rfl | rfl | rfl
     all_goals
       go_enter Tryz.func200, Tryz.ntmps200
       go_wp2_with (go_at_call 161; refine (isSize_any _ _).mono ?_; rintro e w' ⟨rfl, rfl⟩)
       go_ret
       refine ⟨ret_bool ?_, rfl⟩
       rw [Bool.eq_iff_iff]
       simp [fitsB]
       omega
   · have hv0 : decide (0 ≤ v) = false := by simpa using hv
     go_enter Tryz.func200, Tryz.ntmps200
     go_wp2_with (go_at_call 161; refine (isSize_any _ _).mono ?_; rintro e w' ⟨rfl, rfl⟩)
     go_ret
     refine ⟨ret_bool ?_, rfl⟩
     simp [fitsB]
     omega
 · have hs' : sizeB n = false := by simpa using hs
   go_enter Tryz.func200, Tryz.ntmps200
   go_wp2_with (go_at_call 161; refine (isSize_any _ _).mono ?_; rintro e w' ⟨rfl, rfl⟩)
   go_ret
   refine ⟨ret_bool ?_, rfl⟩
   have hn : ¬ (n = 1 ∨ n = 2 ∨ n = 4) := by simpa [sizeB] using hs'
   rw [Bool.eq_iff_iff]
   simp [fitsB]
   omega
end Go.Proofs.YtdnpdoipipfkoaaGreatDoor

namespace Go.Proofs.YtdnpdoipipfkoaaGreatDoor
set_option linter.unusedVariables false
set_option linter.unusedSimpArgs false
set_option linter.unusedVariables false
set_option linter.unusedSimpArgs false
set_option maxRecDepth 100000
open Go.RowKit
def tagV (a b c d k : Int) (p : Bool) : Value := .agg #[.int .i64 a, .int .i64 b, .int .i64 c, .int .i64 d, .int .i64 k, .bool p]
def tagObj (a b c d k : Int) (p : Bool) : Obj := .cells #[.int .i64 a, .int .i64 b, .int .i64 c, .int .i64 d, .int .i64 k, .bool p] 106
def arrV (a b c d k : Int) : Value := .agg #[.int .i64 a, .int .i64 b, .int .i64 c, .int .i64 d, .int .i64 k]
def arrObj (a b c d k : Int) : Obj := .cells #[.int .i64 a, .int .i64 b, .int .i64 c, .int .i64 d, .int .i64 k] 201
def nth (a b c d k : Int) (j : Nat) : Int := [a, b, c, d, k].getD j 0
def newerB (s s2 : Int) (p p2 : Bool) : Bool := if s = s2 then !p && p2 else decide (s2 < s)
set_option maxHeartbeats 400000 in
theorem newer_any (a b c d k : Int) (p : Bool) (a2 b2 c2 d2 k2 : Int) (p2 : Bool) (w : World) :
   Calls Tryz.prog 151 #[tagV a b c d k p, tagV a2 b2 c2 d2 k2 p2] w fun e w' => e = .returned (.bool (newerB d d2 p p2)) ∧ (w.alloc (tagObj a b c d k p)).alloc (tagObj a2 b2 c2 d2 k2 p2) = w' := by
 unfold tagV tagObj
 cases p
 all_goals
   go_enter Tryz.func151, Tryz.ntmps151
   go_wp2
   all_goals
     go_returns
     exact ⟨ret_bool (by simp_all [newerB]), rfl⟩
set_option maxHeartbeats 400000 in
theorem numbers_any (a b c d k : Int) (p : Bool) (w : World) :
   Calls Tryz.prog 163 #[tagV a b c d k p] w fun e w' => e = .returned (arrV a b c d k) ∧ (w.alloc (tagObj a b c d k p)).alloc (arrObj a b c d k) = w' := by
 unfold tagV tagObj arrV arrObj
 go_enter Tryz.func163, Tryz.ntmps163
 go_wp2
 go_returns
 exact ⟨rfl, rfl⟩
set_option maxHeartbeats 400000 in
theorem told_any (a b c d k : Int) (p : Bool) (w : World) :
   Calls Tryz.prog 144 #[arrV a b c d k, .bool p] w fun e w' => e = .returned (tagV a b c d k p) ∧ (w.alloc (arrObj a b c d k)).alloc (tagObj a b c d k p) = w' := by
 unfold tagV arrV arrObj tagObj
 go_enter Tryz.func144, Tryz.ntmps144
 go_wp2
 go_returns
 exact ⟨rfl, rfl⟩
def fsz (j : Nat) : Int := [1, 4, 1, 4, 1].getD j 0
def ffr (j : Nat) : Int := [0, 0, 0, 0, 1].getD j 0
def fto (j : Nat) : Int := [3, 2147483647, 63, 2147483647, 2].getD j 0
def Flds (w : World) : Prop := ∀ j, j < 5 → w.cell? ⟨0, j * 3, none⟩ = some (.int .i64 (fsz j)) ∧ w.cell? ⟨0, j * 3 + 1, none⟩ = some (.int .i64 (ffr j)) ∧ w.cell? ⟨0, j * 3 + 2, none⟩ = some (.int .i64 (fto j))
theorem Flds.kept {w w' : World} {r : Option Nat} (h : Flds w) (hg : w.grownBy w' r) (hr : some 0 ≠ r) : Flds w' := fun j hj =>
 ⟨hg.cell (h j hj).1 hr, hg.cell (h j hj).2.1 hr, hg.cell (h j hj).2.2 hr⟩
theorem Flds.lt {w : World} (h : Flds w) : 0 < w.heap.size := World.block_lt_of_cell? w _ (h 0 (by decide)).1
theorem Flds.ext {w w' : World} (h : Flds w) (hg : Ext w w') : Flds w' := h.kept hg (by simp)
def Arr (w : World) (B : Nat) (v : Nat → Int) : Prop := ∀ j, j < 5 → w.cell? ⟨B, j, none⟩ = some (.int .i64 (v j))
theorem arr_new (w : World) (a b c d k : Int) : Arr (w.alloc (arrObj a b c d k)) w.heap.size (nth a b c d k) := fun j hj => by
 rw [arrObj, World.cell?_alloc_mark]
 have : j = 0 ∨ j = 1 ∨ j = 2 ∨ j = 3 ∨ j = 4 := by omega
 rcases this with rfl | rfl | rfl | rfl | rfl <;> rfl
theorem Arr.ext {w w' : World} {B : Nat} {v : Nat → Int} (h : Arr w B v) (hg : Ext w w') : Arr w' B v := fun j hj => hg.cell (h j hj) (by simp)
def okB (a b c d k : Int) : Bool := (List.range 5).all fun j => decide (ffr j ≤ nth a b c d k j ∧ nth a b c d k j ≤ fto j)
theorem okB_true {a b c d k : Int} (h : ∀ j, j < 5 → ffr j ≤ nth a b c d k j ∧ nth a b c d k j ≤ fto j) : okB a b c d k = true := by
 simp only [okB, List.all_eq_true, List.mem_range, decide_eq_true_eq]
 exact h
theorem okB_false {a b c d k : Int} {j : Nat} (hj : j < 5) (h : ¬ (ffr j ≤ nth a b c d k j ∧ nth a b c d k j ≤ fto j)) : okB a b c d k = false := by
 rw [Bool.eq_false_iff]
 intro h2
 simp only [okB, List.all_eq_true, List.mem_range, decide_eq_true_eq] at h2
 exact h (h2 j hj)
set_option maxHeartbeats 400000 in
theorem right_any (a b c d k : Int) (p : Bool) (w : World) (hF : Flds w) :
   Calls Tryz.prog 147 #[tagV a b c d k p] w fun e w' => e = .returned (.bool (okB a b c d k)) ∧ Ext w w' := by
 have N := numbers_any a b c d k p
 have g3 := ext_trans (ext_trans (ext_trans (World.grownBy_alloc w (tagObj a b c d k p) none) (World.grownBy_alloc _ (tagObj a b c d k p) none)) (World.grownBy_alloc _ (arrObj a b c d k) none)) (World.grownBy_alloc _ (arrObj a b c d k) none)
 have hA := arr_new (((w.alloc (tagObj a b c d k p)).alloc (tagObj a b c d k p)).alloc (arrObj a b c d k)) a b c d k
 have hF3 := hF.ext g3
 have hz : (((w.alloc (tagObj a b c d k p)).alloc (tagObj a b c d k p)).alloc (arrObj a b c d k)).heap.size = w.heap.size + 1 + 1 + 1 := by simp
 rw [hz] at hA
 generalize hv : nth a b c d k = v at *
 have HV := Lib.hid hv
 unfold tagV arrV at *
 have HH := Lib.hid (And.intro g3 (And.intro hA hF3))
 clear hv g3 hA hF3 hF hz
 unfold tagObj arrObj at *
 go_enter Tryz.func147, Tryz.ntmps147
 go_wp2_with (go_at_call 163; refine (N _).mono ?_; rintro e w' ⟨rfl, rfl⟩)
 go_loopw [7] (fun i wr => ∃ j : Nat, j ≤ 5 ∧ i = .int .i64 j ∧ Ext w wr ∧ Arr wr (w.heap.size + 1 + 1 + 1) v ∧ Flds wr ∧ ∀ q, q < j → ffr q ≤ v q ∧ v q ≤ fto q) (fun i _ => 5 - (intOf i).toNat)
 case atStart => exact ⟨0, by omega, rfl, HH.out.1, HH.out.2.1, HH.out.2.2, fun q hq => by omega⟩
 case round =>
   obtain ⟨j, hj, rfl, hE, hA, hF, hall⟩ := hrel
   by_cases hlt : j < 5
   · obtain ⟨_, c1, c2⟩ := hF j hlt
     have c0 := hA j hlt
     have HE := Lib.hid (And.intro hE (And.intro hA (And.intro hF hall)))
     clear hE hA hF hall
     obtain ⟨x, hx⟩ : ∃ x, v j = x := ⟨_, rfl⟩
     obtain ⟨lo, hlo⟩ : ∃ x, ffr j = x := ⟨_, rfl⟩
     obtain ⟨hi, hhi⟩ : ∃ x, fto j = x := ⟨_, rfl⟩
     rw [hx] at c0
     rw [hlo] at c1
     rw [hhi] at c2
     have HX := Lib.hid (And.intro hx (And.intro hlo hhi))
     clear hx hlo hhi
     by_cases h1 : x < lo
     · go_wp2
       go_quiet (fail)
       rename_i nq
       go_wp2
       go_returns
       obtain ⟨e1, e2, _⟩ := HX.out
       exact ⟨ret_bool (okB_false (j := j) hlt (by rw [HV.out, e1, e2]; omega)).symm, ext_trans HE.out.1 (gb_drewN _ nq)⟩
     · by_cases h2 : hi < x
       · go_wp2
         go_quiet (fail)
         rename_i nq
         go_wp2
         go_returns
         obtain ⟨e1, _, e2⟩ := HX.out
         exact ⟨ret_bool (okB_false (j := j) hlt (by rw [HV.out, e1, e2]; omega)).symm, ext_trans HE.out.1 (gb_drewN _ nq)⟩
       · go_wp2
         go_quiet (fail)
         rename_i nq
         go_wp2
         go_roundw
         case rel =>
           obtain ⟨k1, k2, k3, k4⟩ := HE.out
           obtain ⟨e1, e2, e3⟩ := HX.out
           refine ⟨j + 1, by omega, by go_num, ext_trans k1 (gb_drewN _ nq), k2.ext (gb_drewN _ nq), k3.ext (gb_drewN _ nq), fun q hq => ?_⟩
           by_cases h : q = j
           · subst h
             rw [e1, e2, e3]
             omega
           · exact k4 q (by omega)
         case measure => simp [intOf]; omega
   · have hn : ¬ (j : Int) < 5 := by omega
     go_wp2
     go_returns
     exact ⟨ret_bool (okB_true (fun q hq => by rw [HV.out]; exact hall q (by omega))).symm, hE⟩
end Go.Proofs.YtdnpdoipipfkoaaGreatDoor
