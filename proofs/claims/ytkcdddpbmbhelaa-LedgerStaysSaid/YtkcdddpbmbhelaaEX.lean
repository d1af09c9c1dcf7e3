/-
  The document's Right: what its rounds keep.
-/
import Derived.Test.YtkcdddpbmbhelaaEW
namespace Go.Proofs.Ytkcdddpbmbhelaa
open Go.RowKit

def RightEnd (L : Led) (n p : Int) (w : World) (e : Ending) (w' : World) : Prop := ∃ b, e = .returned (.bool b) ∧ (b = true ↔ RightP L n p) ∧ Ext w w'
theorem rightEnd_no {L : Led} {n p : Int} {w w' : World} (h : ¬ RightP L n p) (hE : Ext w w') : RightEnd L n p w (.returned (.bool false)) w' :=
  ⟨false, rfl, ⟨fun e => Bool.noConfusion e, fun hR => (h hR).elim⟩, hE⟩
theorem rightEnd_yes {L : Led} {n p : Int} {w w' : World} (h : RightP L n p) (hE : Ext w w') : RightEnd L n p w (.returned (.bool true)) w' :=
  ⟨true, rfl, ⟨fun _ => h, fun _ => rfl⟩, hE⟩

/-- Two rows of the call's own, in blocks of their own. -/
structure Rows2 (B : Nat) (w : World) (v7 v8 : Value) (ts es : List Int) : Prop where
  own7 : OwnI B w v7 ts
  own8 : OwnI B w v8 es
  far : ∀ b, v7.ownBlock = some b → v8.ownBlock ≠ some b
theorem Rows2.ext {B : Nat} {w w' : World} {v7 v8 : Value} {ts es : List Int} (h : Rows2 B w v7 v8 ts es) (hg : Ext w w') : Rows2 B w' v7 v8 ts es :=
  ⟨own_kept h.own7 hg (by simp), own_kept h.own8 hg (by simp), h.far⟩
theorem Rows2.put7 {B : Nat} {w w' : World} {v7 v8 v' : Value} {ts es ts' : List Int} (h : Rows2 B w v7 v8 ts es) (ho : OwnI B w' v' ts') (hg : w.grownBy w' v7.ownBlock)
    (hw : v'.ownBlock = v7.ownBlock ∨ v'.ownBlock = some w.heap.size) : Rows2 B w' v' v8 ts' es := by
  refine ⟨ho, own_kept h.own8 hg (fun p hp e => h.far p e.symm hp), fun b hb h8 => ?_⟩
  rcases hw with hw | hw
  · exact h.far b (hw ▸ hb) h8
  · have := own_lt h.own8 b h8
    rw [hw] at hb
    injection hb with hb
    omega
theorem Rows2.put8 {B : Nat} {w w' : World} {v7 v8 v' : Value} {ts es es' : List Int} (h : Rows2 B w v7 v8 ts es) (ho : OwnI B w' v' es') (hg : w.grownBy w' v8.ownBlock)
    (hw : v'.ownBlock = v8.ownBlock ∨ v'.ownBlock = some w.heap.size) : Rows2 B w' v7 v' ts es' := by
  refine ⟨own_kept h.own7 hg (fun p hp e => h.far p hp e.symm), ho, fun b hb h8 => ?_⟩
  rcases hw with hw | hw
  · exact h.far b hb (hw ▸ h8)
  · have := own_lt h.own7 b hb
    rw [hw] at h8
    injection h8 with h8
    omega
theorem rows2_nil (w : World) : Rows2 w.heap.size w (.slice none 0 0) (.slice none 0 0) [] [] :=
  ⟨World.ownsRow_nil w _ _ _, World.ownsRow_nil w _ _ _, fun b hb => by simp [Value.ownBlock] at hb⟩

theorem no_ten {L : Led} {n p : Int} {k : Nat} (hk : k < 4) (h : ¬ tenOk (L.t k) L.eps n p) : ¬ RightP L n p := fun hR => h (hR.ten k hk)
theorem no_ep {L : Led} {n p : Int} {k : Nat} (hk : k < 4) (ht : (L.t k).th = true) (h : (L.t k).ep ∈ epochsTo L k) : ¬ RightP L n p := fun hR => by
  have h1 := hR.epochsTo (k := k + 1) (by omega)
  unfold Go.Proofs.Ytkcdddpbmbhelaa.epochsTo at h1
  rw [if_pos ht, List.nodup_append] at h1
  exact h1.2.2 _ h _ (by simp) rfl
theorem no_blk {L : Led} {n p : Int} {k m : Nat} (hk : k < 4) (hm : m < (L.t k).bs.length) (h : (L.t k).bs.getD m 0 ∈ takenTo L k ++ (L.t k).bs.take m) : ¬ RightP L n p := fun hR => by
  have h1 := hR.takenTo (k := k + 1) (by omega)
  simp only [Go.Proofs.Ytkcdddpbmbhelaa.takenTo] at h1
  rw [← List.take_append_drop (m + 1) (L.t k).bs, take_snocI hm, ← List.append_assoc, ← List.append_assoc] at h1
  have h2 := (List.nodup_append.1 h1).1
  exact (List.nodup_append.1 h2).2.2 _ h _ (by simp) rfl
theorem blk_more {L : Led} {k m : Nat} (hm : m < (L.t k).bs.length) (hn : (takenTo L k ++ (L.t k).bs.take m).Nodup) (h : (L.t k).bs.getD m 0 ∉ takenTo L k ++ (L.t k).bs.take m) :
    (takenTo L k ++ (L.t k).bs.take (m + 1)).Nodup := by
  rw [take_snocI hm, ← List.append_assoc]
  refine List.nodup_append.2 ⟨hn, by simp, fun a ha b hb e => ?_⟩
  simp only [List.mem_singleton] at hb
  subst hb
  subst e
  exact h ha

/-- What a round has found. -/
structure Upto (L : Led) (n p : Int) (k : Nat) : Prop where
  ten : ∀ j, j < k → tenOk (L.t j) L.eps n p
  blk : (takenTo L k).Nodup
  epo : (epochsTo L k).Nodup
theorem Upto.zero (L : Led) (n p : Int) : Upto L n p 0 := ⟨fun j hj => by omega, by simp [takenTo], by simp [epochsTo]⟩
theorem Upto.next_no {L : Led} {n p : Int} {k : Nat} (h : Upto L n p k) (hx : L.t k = ⟨false, 0, 0, 0, []⟩) : Upto L n p (k + 1) ∧ takenTo L (k + 1) = takenTo L k ∧ epochsTo L (k + 1) = epochsTo L k := by
  have e1 : takenTo L (k + 1) = takenTo L k := by simp [takenTo, hx]
  have e2 : epochsTo L (k + 1) = epochsTo L k := by simp [epochsTo, hx]
  refine ⟨⟨fun j hj => ?_, by rw [e1]; exact h.blk, by rw [e2]; exact h.epo⟩, e1, e2⟩
  by_cases e : j = k
  · subst e; rw [hx]; exact ⟨fun h => by simp at h, fun _ => ⟨rfl, rfl, rfl, rfl⟩⟩
  · exact h.ten j (by omega)
theorem Upto.next {L : Led} {n p : Int} {k : Nat} (h : Upto L n p k) (ht : (L.t k).th = true) (he : 1 ≤ (L.t k).ep ∧ (L.t k).ep ≤ L.eps) (hne : (L.t k).ep ∉ epochsTo L k)
    (h0 : totS (L.t k).sz (L.t k).sp p ≠ 0) (h1 : totS (L.t k).sz (L.t k).sp p ≤ (L.t k).bs.length) (h2 : ((L.t k).bs.length : Int) ≤ wrap64 (n - 2)) (hr : ∀ b ∈ (L.t k).bs, 2 ≤ b ∧ b < n)
    (hb : (takenTo L k ++ (L.t k).bs).Nodup) : Upto L n p (k + 1) := by
  refine ⟨fun j hj => ?_, hb, ?_⟩
  · by_cases e : j = k
    · subst e; exact ⟨fun _ => ⟨he.1, he.2, h0, h1, h2, hr⟩, fun h => by rw [ht] at h; cases h⟩
    · exact h.ten j (by omega)
  · unfold epochsTo
    rw [if_pos ht]
    refine List.nodup_append.2 ⟨h.epo, by simp, fun a ha b hb e => ?_⟩
    simp only [List.mem_singleton] at hb
    subst hb
    subst e
    exact hne ha
theorem epochsTo_next {L : Led} {k : Nat} (ht : (L.t k).th = true) : epochsTo L (k + 1) = epochsTo L k ++ [(L.t k).ep] := by
  rw [epochsTo, if_pos ht]
theorem getD_mem0 {xs : List Int} {q : Nat} (h : q < xs.length) : xs.getD q 0 ∈ xs := by
  rw [List.getD_eq_getElem?_getD, List.getElem?_eq_getElem h]
  exact List.getElem_mem h

end Go.Proofs.Ytkcdddpbmbhelaa
