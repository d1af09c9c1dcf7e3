/-
  Layer 20 (queue): All; Submit; Next; Done.
-/
import Derived.Test.YtlljkcpopfencaaLB
import Derived.Deep.DeepCutAuto
import Derived.Deep.Cut
namespace Go.Proofs.Ytlljkcpopfencaa
set_option linter.unusedVariables false
set_option linter.unusedSimpArgs false
set_option maxRecDepth 100000
open Go.RowKit

theorem Try.infoDne : (Try.prog.info? 32).map (fun i => (i.zero, i.size, i.bytes)) = some (some (.agg #[.int .i64 0, .int .i64 0, .string ⟨#[]⟩]), 3, 32) := by kernel_rfl
theorem Try.eqNilDne (w : World) (a : Option Addr) (n c : Nat) : (binOp .eql 27 (.slice a n c) (.slice none 0 0)).run Try.prog w = .ok (.bool a.isNone) w := Lib.run_eql_slice_nil w 27 32 a n c 0 0 Try.underlying27
attribute [local go_sem] Try.eqNilDne
theorem tris_one (row : List Chg) : ∀ u ∈ chgsL row, u.oneCell' = true := by
  intro u hu
  simp only [chgsL, List.mem_flatMap] at hu
  obtain ⟨c, _, hc⟩ := hu
  simp [chgC] at hc
  rcases hc with rfl | rfl | rfl <;> rfl

section
variable {w w' : World} {b : Nat} {vw vd : Value} {ws ds : List Chg}
theorem clone20 (w : World) (g : Nat) (cap : Nat) (ds : List Chg) (hd : 0 < ds.length) (hl : ds.length ≤ 1000000) (hr : ∀ j u, (chgsL ds)[j]? = some u → w.cell? ⟨g, j, none⟩ = some u) :
    Calls Try.prog 16 #[.slice (some ⟨g, 0, none⟩) ds.length cap] w fun e w' => ∃ v, e = .returned v ∧ w'.ownsRow w.heap.size 32 3 v ds.length (chgsL ds) ∧ w.grownBy w' none := by
  obtain ⟨i0, hi, hz0, hz1, hz2⟩ := info_parts Try.infoDne
  obtain ⟨n, hn⟩ : ∃ n, ds.length = n := ⟨_, rfl⟩
  have hcl := chgsL_len ds
  rw [hn] at hd hl hcl ⊢
  have HR := Lib.hid (And.intro hr hcl)
  have hg : g < w.heap.size := by
    have h0 := tri_at ds 0 0 (by omega) (by omega)
    exact World.block_lt_of_cell? w _ (hr _ _ h0)
  clear hr hcl hn
  go_enter Try.func16, Try.ntmps16
  go_wp2_with (at_builtin; (refine wpList_append_grows (w.alloc (.cells #[] 32)) rfl _ _ 27 rfl 32 i0 _ 3 32 Try.underlying27 hi hz0 hz1 hz2 rfl (by decide) _ 0 0 [] rfl (fun h => ⟨rfl, rfl⟩) rfl (fun _ _ j u hj => by simp at hj) ⟨g, 0, none⟩ n cap (chgsL ds) rfl HR.out.2 (fun j u hj => cell_past (by rw [addr_add, Nat.zero_add]; exact HR.out.1 j u hj) _) (tris_one ds) (by omega) (by unfold maxLen; omega) (by omega) ?_); intro v3 w3 ho3 hg3; obtain ⟨ao, cp, rfl⟩ := owns_shape13 ho3)
  go_ret
  refine ⟨_, rfl, ?_, ?_⟩
  · have := ownsRow_le ho3 (B' := w.heap.size) (by simp)
    simpa using this
  · exact ext_trans (World.grownBy_alloc w _ none) hg3
theorem all20 (h : QS w b vw vd ws ds) (hl : ds.length ≤ 1000000) : Calls Try.prog 13 #[.pointer (some ⟨b, 0, none⟩)] w fun e w' => ∃ v, e = .returned v ∧ w'.ownsRow w.heap.size 32 3 v ds.length (chgsL ds) ∧ w.grownBy w' none := by
  have c1 := h.c1
  by_cases hd : ds = []
  · rw [h.d0 hd] at c1
    have CL : Calls Try.prog 16 #[.slice none 0 0] w fun e w' => e = .returned (.slice none 0 0) ∧ w = w' := by
      clear c1 h hd hl
      go_enter Try.func16, Try.ntmps16
      go_wp2
      go_ret
      exact ⟨rfl, rfl⟩
    clear h
    go_enter Try.func13, Try.ntmps13
    go_wp2_with (go_at_call 16; refine CL.mono ?_; rintro e w2 ⟨rfl, rfl⟩)
    go_ret
    exact ⟨_, rfl, by rw [hd]; exact ⟨by simp [chgsL], .inl ⟨rfl, rfl⟩⟩, Ext.refl w⟩
  · have hp : 0 < ds.length := List.length_pos_iff.2 hd
    obtain ⟨g, cap, rfl, hr⟩ : ∃ g cap, vd = .slice (some ⟨g, 0, none⟩) ds.length cap ∧ ∀ j u, (chgsL ds)[j]? = some u → w.cell? ⟨g, j, none⟩ = some u := by
      rcases h.dn.2 with ⟨_, h0⟩ | ⟨g, cap, cur, h1, _, h3, _, _, _, h7⟩
      · omega
      · refine ⟨g, cap, h1, fun j u hj => ?_⟩
        rw [cell_of_row w g j cur 32 (0, 0) h3]
        rw [← h7, List.getElem?_take] at hj
        split at hj
        · rw [Array.getElem?_toList] at hj
          exact hj
        · cases hj
    have CL := clone20 w g cap ds hp hl hr
    obtain ⟨n, hn⟩ : ∃ n, ds.length = n := ⟨_, rfl⟩
    rw [hn] at c1 CL ⊢
    clear h hd hp hl hr hn
    go_enter Try.func13, Try.ntmps13
    go_wp2_with (go_at_call 16; refine CL.mono ?_; rintro e w2 ⟨v, rfl, h1, h2⟩; obtain ⟨ao, cp, rfl⟩ := owns_shape13 h1)
    go_ret
    exact ⟨_, rfl, h1, h2⟩
end

end Go.Proofs.Ytlljkcpopfencaa
