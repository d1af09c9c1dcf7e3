/-
  Texts put together: KP.
-/
import Derived.Test.YteionppcjgggiaaGreatM16
import Derived.Test.YteionppcjgggiaaGreatM19
import Derived.Test.YteionppcjgggiaaGreatM01
/-
  Layer 12: AdlogSpoilt over the program's own Load and Save.
-/
namespace Go.Proofs.YteionppcjgggiaaGreat
set_option linter.unusedVariables false
set_option linter.unusedSimpArgs false
set_option maxRecDepth 100000
open Go.RowKit

theorem strs_F {w : World} {a : Option Addr} {len cap : Nat} {z : List ByteArray} (h : IsStrs w a len cap z) (hs : ∀ x, a = some x → x.spot = none ∧ x.block < w.heap.size) (hb : ∀ s ∈ z, s.size ≤ 140737488351232) : StrsF w a len cap (fun i => z.getD i ByteArray.empty) := by
  rcases h with ⟨rfl, rfl, rfl, rfl⟩ | ⟨x, rfl, hl, hm, hz, hc, hw⟩
  · exact ⟨Nat.le_refl _, by decide, fun i hi => by omega⟩
  · unfold maxLen at hm
    obtain ⟨hsp, hblk⟩ := hs x rfl
    obtain ⟨b, off, sp⟩ := x
    simp only at hsp hblk
    subst hsp
    refine ⟨hl, by omega, fun i hi => ?_⟩
    have hi2 : i < z.length := by omega
    have h1 := hc i hi2
    rw [addr_add] at h1
    refine ⟨⟨b, off, rfl, h1, hblk⟩, ?_⟩
    show (z.getD i ByteArray.empty).size ≤ _
    rw [List.getD_eq_getElem?_getD, List.getElem?_eq_getElem hi2]
    exact hb _ (List.getElem_mem hi2)
theorem adlogSpoilt_own (a1 : Option Addr) (len1 cap1 : Nat) (Ls : Nat → Led) (Vs : Nat → Nat → Value) (a2 : Option Addr) (len2 cap2 : Nat) (ss : Nat → ByteArray) (a3 : Option Addr) (len3 cap3 : Nat) (bs : Nat → Bool) (w : World)
    (h1 : IsLeds w a1 len1 cap1 Ls Vs) (hc1 : len1 ≤ cap1 ∧ cap1 ≤ 9223372036854775807) (h2 : StrsF w a2 len2 cap2 ss) (h3 : IsBools w a3 len3 cap3 bs) :
    Calls Tryz.prog 3 #[.slice a1 len1 cap1, .slice a2 len2 cap2, .slice a3 len3 cap3] w fun e w' => e = .returned (.bool true) ∧ Ext w w' :=
  adlogSpoilt_any adLoad_any fix12_own a1 len1 cap1 Ls Vs a2 len2 cap2 ss a3 len3 cap3 bs w h1 hc1 h2 h3

end Go.Proofs.YteionppcjgggiaaGreat
