/-
  word.Text, and the document's own Put and Text: the same bytes.
-/
import Derived.Test.YtjlecncamfdcfaaDoorWC
import Derived.Lib.AppendStr
namespace Go.Proofs.YtjlecncamfdcfaaDoor
open Go.RowKit

/-- A string's bytes as numbers. -/
def byt (s : ByteArray) : List Int := s.data.toList.map fun b => (b.toNat : Int)
theorem byt_len (s : ByteArray) : (byt s).length = s.size := by simp [byt]
theorem strCells_byt (s : ByteArray) : Lib.strCells s = (byt s).map (Value.int .u8) := by simp [Lib.strCells, byt]

theorem row_cells (w : World) (s : ByteArray) (c : Nat) (T : TypeId) (m : Nat × Nat) : ∀ j u, ((byt s).map (Value.int .u8))[j]? = some u → ((w.alloc (.cells (bytesRow s c) T m)).drew).cell? ((⟨w.heap.size, 0, none⟩ : Addr).add j) = some u := by
  intro j u hj
  rw [addr_add, Nat.zero_add]
  show (w.alloc _).cell? _ = _
  rw [World.cell?_alloc_mark]
  have hlt : j < s.data.size := by
    have := (List.getElem?_eq_some_iff.1 hj).1
    simpa [byt] using this
  simp [byt] at hj
  obtain ⟨a, ha, rfl⟩ := hj
  rw [Array.getElem?_eq_getElem hlt] at ha
  simp at ha
  subst ha
  have hlt' : j < s.size := hlt
  simp [bytesRow, hlt', Array.getElem?_append]

def textL (xs : List Int) (s : ByteArray) : List Int := if s.size ≤ 65535 then xs ++ leB s.size 2 ++ byt s else xs

set_option maxHeartbeats 400000 in
theorem text_any (v0 : Value) (xs : List Int) (s : ByteArray) (w : World) (hb : Bts w v0 xs) (hm : xs.length ≤ 140737488200000) (hs9 : s.size ≤ 9223372036854775807) :
    Calls Tryd.prog 33 #[v0, .string s] w (Made w.heap.size w (textL xs s)) := by
  obtain ⟨i0, hi, hz0, hz1, hz2⟩ := info_parts Tryd.infoU8
  by_cases hf : s.size ≤ 65535
  · have ht : textL xs s = xs ++ leB s.size 2 ++ byt s := by simp [textL, hf]
    have hft : fitsB s.size 2 = true := by simp [fitsB]; omega
    have hp : putL xs s.size 2 = xs ++ leB s.size 2 := by simp [putL, hft]
    rw [ht]
    have HP := Lib.hid hp
    clear hp ht
    go_enter Tryd.func33, Tryd.ntmps33
    go_wp2_with (first | (go_at_call 31; refine (fits_any _ _ _ (by omega)).mono ?_; rintro e w' ⟨rfl, rfl⟩) | (go_at_call 17; refine (put_any v0 xs _ _ _ hb (by omega) (by omega)).mono ?_; rintro e w1 ⟨v1, rfl, hown, hgr⟩) | (at_builtin; refine Lib.wpList_append_own_string _ rfl _ _ 25 9 rfl w.heap.size 5 i0 Tryd.underlying25 Tryd.underlying9 hi hz0 hz1 hz2 _ _ _ rfl hown s rfl ?c1 ?c2 ?c3 ?_))
    case c1 => rw [HP.out]; simp [leB_len]; unfold maxLen; omega
    case c2 => rw [HP.out]; simp [leB_len]; omega
    case c3 => exact hgr.size
    intro v' w2 hown2 hgr2 _
    have hlt := hown.lt
    go_wp2
    go_ret
    refine ⟨v', rfl, ?_, grown_trans hgr hgr2 (fun k hk h => by have := hlt k hk; omega)⟩
    rw [HP.out, strCells_byt, ← List.map_append] at hown2
    simpa [byt_len, Nat.add_assoc] using hown2
  · have ht : textL xs s = xs := by simp [textL, hf]
    have hft : fitsB s.size 2 = false := by simp [fitsB]; omega
    rw [ht]
    clear ht
    rcases hb with ⟨rfl, rfl⟩ | ⟨b, off, cap, rfl, h2, h3⟩
    · go_enter Tryd.func33, Tryd.ntmps33
      go_wp2_with (first | (go_at_call 31; refine (fits_any _ _ _ (by omega)).mono ?_; rintro e w' ⟨rfl, rfl⟩) | (go_at_call 32; refine (clone_nil _).mono ?_; rintro e w' ⟨rfl, rfl⟩))
      go_ret
      exact ⟨_, rfl, World.ownsRow_nil _ _ _ _, World.grownBy.refl _ _⟩
    · go_enter Tryd.func33, Tryd.ntmps33
      go_wp2_with (first | (go_at_call 31; refine (fits_any _ _ _ (by omega)).mono ?_; rintro e w' ⟨rfl, rfl⟩) | (go_at_call 32; refine (clone_some b off cap xs _ h3 (by omega)).mono ?_; rintro e w1 ⟨v', rfl, hown, hgr⟩))
      go_ret
      exact ⟨_, rfl, hown, hgr⟩

end Go.Proofs.YtjlecncamfdcfaaDoor
