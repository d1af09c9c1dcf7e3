/-
  Texts put together: NM NO NP WC WD WE WF WG WH WI WJ WK WL WM SA SB FA.
-/
import Derived.Test.YtfgifgglcafadaaGreatDoorM04
import Derived.Lib.SmallJoins
import Derived.Test.YtfgifgglcafadaaGreatDoorM03
import Derived.Lib.AppendStr
import Derived.Test.YtfgifgglcafadaaGreatDoorM01
import Derived.Lib.Hide
import Derived.Laws.BitsAllLaws
namespace Go.Proofs.YtfgifgglcafadaaGreatDoor
set_option linter.unusedVariables false
set_option linter.unusedSimpArgs false
set_option linter.unusedVariables false
set_option linter.unusedSimpArgs false
set_option maxRecDepth 100000
open Go.RowKit
def noZs : Nat → List Int := fun _ => []
structure Calm (s : NS) (n : Int) : Prop where
 px : s.px = -1
 off : s.off = false
 cnt : Cnt s n
theorem Calm.mono {s : NS} {n m : Int} (h : Calm s n) (hm : n ≤ m) : Calm s m := by
 obtain ⟨h1, h2, h3, h4, h5⟩ := h.cnt
 exact ⟨h.px, h.off, ⟨by omega, fun j => by have := h2 j; omega, fun j => by have := h3 j; omega, fun j => by have := h4 j; omega, h5⟩⟩
theorem calm_spend {s : NS} {n : Int} (h : Calm s n) (zs : Nat → List Int) (who : Int) : Calm (drawS zs (spendS s) who) (n + 2) := by
 have hx : (spendS s).px = -1 := by simp only [spendS, h.px, h.off]; rfl
 have ho : (spendS s).off = false := by simp only [spendS, h.px, h.off]; rfl
 have hc := h.cnt.spend.draw zs who
 refine ⟨?_, ?_, by rw [show n + 2 = n + 1 + 1 by omega]; exact hc⟩
 · unfold drawS; split <;> exact hx
 · unfold drawS; split <;> exact ho
theorem calm_of {s s' : NS} {n : Int} (h : Calm s n) (h1 : s'.px = s.px) (h2 : s'.off = s.off) (h3 : s'.po = s.po) (h4 : s'.N = s.N) (h5 : s'.M = s.M) (h6 : ∀ i, 0 ≤ s'.er i ∧ s'.er i ≤ n) : Calm s' n := by
 obtain ⟨g1, g2, g3, g4, g5⟩ := h.cnt
 exact ⟨by rw [h1]; exact h.px, by rw [h2]; exact h.off, ⟨by rw [h3]; exact g1, by rw [h4]; exact g2, by rw [h5]; exact g3, h6, by rw [h1]; exact g5⟩⟩
section
variable {w : World} {S : NShape} {V : Nat → Value} {s : NS}
end
end Go.Proofs.YtfgifgglcafadaaGreatDoor

namespace Go.Proofs.YtfgifgglcafadaaGreatDoor
set_option linter.unusedVariables false
set_option linter.unusedSimpArgs false
set_option linter.unusedVariables false
set_option linter.unusedSimpArgs false
set_option maxRecDepth 100000
open Go.RowKit
end Go.Proofs.YtfgifgglcafadaaGreatDoor

namespace Go.Proofs.YtfgifgglcafadaaGreatDoor
set_option linter.unusedVariables false
set_option linter.unusedSimpArgs false
set_option linter.unusedVariables false
set_option linter.unusedSimpArgs false
set_option maxRecDepth 100000
open Go.RowKit
section
variable {w : World} {S : NShape} {V : Nat → Value} {zs : Nat → List Int} {s : NS}
end
theorem nextN_blank : ∀ n : Nat, nextN (fun _ => Pg.none 0) n = 0
 | 0 => rfl
 | n + 1 => by unfold nextN; rw [if_pos (show (Pg.none 0).st = 0 from rfl)]; exact nextN_blank n
theorem blank_calm (ms : List Int) : Calm (blankS ms (-1) false 0 (fun _ => 0) (fun _ => 0)) 0 :=
 ⟨rfl, rfl, ⟨⟨Int.le_refl _, Int.le_refl _⟩, fun _ => ⟨Int.le_refl _, Int.le_refl _⟩, fun _ => ⟨Int.le_refl _, Int.le_refl _⟩, fun _ => ⟨Int.le_refl _, Int.le_refl _⟩, by show -9223372036854775808 ≤ (-1 : Int) ∧ (-1 : Int) ≤ 9223372036854775807; omega⟩⟩
end Go.Proofs.YtfgifgglcafadaaGreatDoor

namespace Go.Proofs.YtfgifgglcafadaaGreatDoor
set_option linter.unusedVariables false
set_option linter.unusedSimpArgs false
set_option linter.unusedVariables false
set_option linter.unusedSimpArgs false
set_option maxRecDepth 100000
open Go.RowKit
def leB (v : Int) (n : Nat) : List Int := (List.range n).map fun k => v / 256 ^ k % 256
theorem leB_succ (v : Int) (n : Nat) : leB v (n + 1) = leB v n ++ [v / 256 ^ n % 256] := by simp [leB, List.range_succ]
theorem leB_len (v : Int) (n : Nat) : (leB v n).length = n := by simp [leB]
theorem p256 (k : Nat) : (0 : Int) < 256 ^ k := Int.pow_pos (by decide)
def putL (xs : List Int) (v n : Int) : List Int := if fitsB v n then xs ++ leB v n.toNat else xs
theorem Bts.le {w : World} {ao : Option Addr} {n cap : Nat} {xs : List Int} (h : Bts w (.slice ao n cap) xs) : n = xs.length ∧ xs.length ≤ cap := by
 rcases h with ⟨h1, h2⟩ | ⟨b, off, c, h1, h2, _⟩
 · simp at h1
   simp [h2, h1]
 · simp at h1
   exact ⟨h1.2.1, by omega⟩
def PutRel (w : World) (ao : Option Addr) (xs : List Int) (v : Int) (k : Nat) (o : Value) (wr : World) : Prop :=
 (k = 0 ∧ o = .slice ao xs.length xs.length ∧ wr = w) ∨
 (0 < k ∧ wr.ownsRow w.heap.size 5 1 o (xs.length + k) ((xs ++ leB v k).map (Value.int .u8)) ∧ w.grownBy wr none)
set_option maxHeartbeats 400000 in
theorem put_fits (ao : Option Addr) (cap : Nat) (xs : List Int) (v : Int) (n : Nat) (w : World) (hb : Bts w (.slice ao xs.length cap) xs) (hm : xs.length ≤ 140737488350000) (hf : fitsB v n = true) :
   Calls Tryz.prog 209 #[.slice ao xs.length cap, .int .i64 v, .int .i64 n] w (Made w.heap.size w (xs ++ leB v n)) := by
 have hv0 : 0 ≤ v ∧ v ≤ 9223372036854775807 := by simp [fitsB] at hf; omega
 have hn4 : n = 1 ∨ n = 2 ∨ n = 4 := by simp [fitsB] at hf; omega
 have hcap := hb.le.2
 obtain ⟨i0, hi, hz0, hz1, hz2⟩ := info_parts Tryz.infoU8
 have hadd : (if xs.length = 0 then ao else Option.map (fun x : Addr => x.add 0) ao) = ao := by
   split
   · rfl
   · cases ao <;> simp [Addr.add]
 go_enter Tryz.func209, Tryz.ntmps209
 go_wp2_with (go_at_call 256; refine (fits_any _ _ _ (by omega)).mono ?_; rintro e w' ⟨rfl, rfl⟩)
 go_loopw [1, 7, 21] (fun a o i wr => ∃ k : Nat, k ≤ n ∧ i = .int .i64 k ∧ a = .int .i64 (v / 256 ^ k) ∧ PutRel w ao xs v k o wr) (fun _ _ i _ => n - (intOf i).toNat)
 case atStart => exact ⟨0, Nat.zero_le _, rfl, by simp, .inl ⟨rfl, rfl, rfl⟩⟩
 case round =>
   obtain ⟨k, hk, rfl, rfl, hrel⟩ := hrel
   have hpos : 0 ≤ v / 256 ^ k := Int.ediv_nonneg hv0.1 (Int.le_of_lt (p256 k))
   by_cases hlt : k < n
   · rcases hrel with ⟨rfl, rfl, rfl⟩ | ⟨h0, hown, hgr⟩
     · go_wp2_with (at_builtin; refine wpList_append_grows _ rfl _ _ 73 rfl 5 i0 (.int .u8 0) 1 1 Tryz.underlying73 hi hz0 hz1 hz2 rfl (by decide) ao xs.length xs.length (xs.map (Value.int .u8)) rfl ?h1 ?h2 ?h3 ⟨wr.heap.size, 0, none⟩ 1 1 [.int .u8 (v % 256)] rfl rfl ?c1 ?c2 ?c3 ?c4 ?c5 ?_)
       case h1 => intro e; rw [e] at hb; have := hb.nil; simp [this]
       case h2 => simp
       case h3 => intro a ha j u hj; subst ha; exact cell_past (hb.cells j u hj) _
       case c1 => exact bytes_new _ _ _
       case c2 => intro u hu; simp at hu; subst hu; rfl
       case c3 => omega
       case c4 => unfold maxLen; omega
       case c5 => omega
       intro v' w1 hown1 hgr1
       go_wp2
       go_roundw
       case rel => exact ⟨1, by omega, by go_num, by simp, .inr ⟨by omega, by simpa [leB_succ, leB] using ownsRow_le hown1 (by simp), grown_trans (World.grownBy_alloc _ _ none) hgr1 (fun k hk => by cases hk)⟩⟩
       case measure => simp [intOf]; omega
     · go_wp2_with (at_builtin; refine wpList_append_own _ rfl _ _ 73 rfl w.heap.size 5 i0 (.int .u8 0) 1 1 Tryz.underlying73 hi hz0 hz1 hz2 rfl (by decide) _ _ _ rfl (hown.alloc _) ⟨wr.heap.size, 0, none⟩ 1 1 [.int .u8 (v / 256 ^ k % 256)] rfl rfl ?d1 ?d2 ?d3 ?d4 ?d5 ?_)
       case d1 => exact bytes_new _ _ _
       case d2 => intro u hu; simp at hu; subst hu; rfl
       case d3 => unfold maxLen; omega
       case d4 => omega
       case d5 => have := hgr.size; simp; omega
       intro v' w1 hown1 hgr1 _
       have e : v / 256 ^ k / 256 = v / 256 ^ (k + 1) := by rw [Int.ediv_ediv_of_nonneg (Int.le_of_lt (p256 k)), ← Int.pow_succ]
       have hlt' := hown.lt
       go_wp2
       go_roundw
       case rel =>
         refine ⟨k + 1, by omega, by go_num, ?_, .inr ⟨by omega, ?_, ?_⟩⟩
         · rw [← e]
         · simpa [leB_succ, Nat.add_assoc] using hown1
         · exact grown_trans (grown_trans hgr (World.grownBy_alloc _ _ none) (fun k hk => by cases hk)) hgr1 (fun k hk h => by have := hlt' k hk; omega)
       case measure => simp [intOf]; omega
   · have hkn : k = n := by omega
     subst hkn
     go_wp2
     go_ret
     rcases hrel with ⟨h0, _, _⟩ | ⟨h0, hown, hgr⟩
     · omega
     · exact ⟨_, rfl, by simpa [leB_len] using hown, hgr⟩
theorem put_any (v0 : Value) (xs : List Int) (v n : Int) (w : World) (hb : Bts w v0 xs) (hm : xs.length ≤ 140737488350000) (hv9 : v ≤ 9223372036854775807) :
   Calls Tryz.prog 209 #[v0, .int .i64 v, .int .i64 n] w (Made w.heap.size w (putL xs v n)) := by
 by_cases hf : fitsB v n = true
 · have hn : n = (n.toNat : Int) := by simp [fitsB] at hf; omega
   have hp : putL xs v n = xs ++ leB v n.toNat := by simp [putL, hf]
   rw [hp]
   rw [hn] at hf ⊢
   rcases hb with ⟨rfl, rfl⟩ | ⟨b, off, cap, rfl, h2, h3⟩
   · exact put_fits none 0 [] v n.toNat w (.inl ⟨rfl, rfl⟩) hm hf
   · exact put_fits (some ⟨b, off, none⟩) cap xs v n.toNat w (.inr ⟨b, off, cap, rfl, h2, h3⟩) hm hf
 · have hf' : fitsB v n = false := by simpa using hf
   have hp : putL xs v n = xs := by simp [putL, hf']
   rw [hp]
   rcases hb with ⟨rfl, rfl⟩ | ⟨b, off, cap, rfl, h2, h3⟩
   · go_enter Tryz.func209, Tryz.ntmps209
     go_wp2_with (first | (go_at_call 256; refine (fits_any _ _ _ (by omega)).mono ?_; rintro e w' ⟨rfl, rfl⟩) | (go_at_call 215; refine (clone_nil _).mono ?_; rintro e w' ⟨rfl, rfl⟩))
     go_ret
     exact ⟨_, rfl, World.ownsRow_nil _ _ _ _, World.grownBy.refl _ _⟩
   · go_enter Tryz.func209, Tryz.ntmps209
     go_wp2_with (first | (go_at_call 256; refine (fits_any _ _ _ (by omega)).mono ?_; rintro e w' ⟨rfl, rfl⟩) | (go_at_call 215; refine (clone_some b off cap xs _ h3 (by omega)).mono ?_; rintro e w1 ⟨v', rfl, hown, hgr⟩))
     go_ret
     exact ⟨_, rfl, hown, hgr⟩
end Go.Proofs.YtfgifgglcafadaaGreatDoor

namespace Go.Proofs.YtfgifgglcafadaaGreatDoor
set_option linter.unusedVariables false
set_option linter.unusedSimpArgs false
set_option linter.unusedVariables false
set_option linter.unusedSimpArgs false
set_option maxRecDepth 100000
open Go.RowKit
def byt (s : ByteArray) : List Int := s.data.toList.map fun b => (b.toNat : Int)
theorem byt_len (s : ByteArray) : (byt s).length = s.size := by simp [byt]
theorem strCells_byt (s : ByteArray) : Lib.strCells s = (byt s).map (Value.int .u8) := by simp [Lib.strCells, byt]
def textL (xs : List Int) (s : ByteArray) : List Int := if s.size ≤ 65535 then xs ++ leB s.size 2 ++ byt s else xs
set_option maxHeartbeats 400000 in
theorem text_any (v0 : Value) (xs : List Int) (s : ByteArray) (w : World) (hb : Bts w v0 xs) (hm : xs.length ≤ 140737488200000) (hs9 : s.size ≤ 9223372036854775807) :
   Calls Tryz.prog 258 #[v0, .string s] w (Made w.heap.size w (textL xs s)) := by
 obtain ⟨i0, hi, hz0, hz1, hz2⟩ := info_parts Tryz.infoU8
 by_cases hf : s.size ≤ 65535
 · have ht : textL xs s = xs ++ leB s.size 2 ++ byt s := by simp [textL, hf]
   have hft : fitsB s.size 2 = true := by simp [fitsB]; omega
   have hp : putL xs s.size 2 = xs ++ leB s.size 2 := by simp [putL, hft]
   rw [ht]
   have HP := Lib.hid hp
   clear hp ht
   go_enter Tryz.func258, Tryz.ntmps258
   go_wp2_with (first | (go_at_call 256; refine (fits_any _ _ _ (by omega)).mono ?_; rintro e w' ⟨rfl, rfl⟩) | (go_at_call 209; refine (put_any v0 xs _ _ _ hb (by omega) (by omega)).mono ?_; rintro e w1 ⟨v1, rfl, hown, hgr⟩) | (at_builtin; refine Lib.wpList_append_own_string _ rfl _ _ 73 9 rfl w.heap.size 5 i0 Tryz.underlying73 Tryz.underlying9 hi hz0 hz1 hz2 _ _ _ rfl hown s rfl ?c1 ?c2 ?c3 ?_))
   case c1 => rw [HP.out]; simp [leB_len]; unfold maxLen; omega
   case c2 => rw [HP.out]; simp [leB_len]; omega
   case c3 => exact hgr.size
   intro v' w2 hown2 hgr2 _
   have hlt := hown.lt
   go_wp2
   go_ret
   refine ⟨v', rfl, ?_, grown_trans hgr hgr2 (fun k hk h => by have := hlt k hk; omega)⟩
   rw [HP.out, strCells_byt, ← List.map_append] at hown2
   simpa [byt_len, Nat.add_assoc] using hown2
 · have ht : textL xs s = xs := by simp [textL, hf]
   have hft : fitsB s.size 2 = false := by simp [fitsB]; omega
   rw [ht]
   clear ht
   rcases hb with ⟨rfl, rfl⟩ | ⟨b, off, cap, rfl, h2, h3⟩
   · go_enter Tryz.func258, Tryz.ntmps258
     go_wp2_with (first | (go_at_call 256; refine (fits_any _ _ _ (by omega)).mono ?_; rintro e w' ⟨rfl, rfl⟩) | (go_at_call 215; refine (clone_nil _).mono ?_; rintro e w' ⟨rfl, rfl⟩))
     go_ret
     exact ⟨_, rfl, World.ownsRow_nil _ _ _ _, World.grownBy.refl _ _⟩
   · go_enter Tryz.func258, Tryz.ntmps258
     go_wp2_with (first | (go_at_call 256; refine (fits_any _ _ _ (by omega)).mono ?_; rintro e w' ⟨rfl, rfl⟩) | (go_at_call 215; refine (clone_some b off cap xs _ h3 (by omega)).mono ?_; rintro e w1 ⟨v', rfl, hown, hgr⟩))
     go_ret
     exact ⟨_, rfl, hown, hgr⟩
end Go.Proofs.YtfgifgglcafadaaGreatDoor

namespace Go.Proofs.YtfgifgglcafadaaGreatDoor
set_option linter.unusedVariables false
set_option linter.unusedSimpArgs false
set_option linter.unusedVariables false
set_option linter.unusedSimpArgs false
set_option maxRecDepth 100000
open Go.RowKit
end Go.Proofs.YtfgifgglcafadaaGreatDoor

namespace Go.Proofs.YtfgifgglcafadaaGreatDoor
set_option linter.unusedVariables false
set_option linter.unusedSimpArgs false
set_option linter.unusedVariables false
set_option linter.unusedSimpArgs false
set_option maxRecDepth 100000
open Go.RowKit
end Go.Proofs.YtfgifgglcafadaaGreatDoor

namespace Go.Proofs.YtfgifgglcafadaaGreatDoor
set_option linter.unusedVariables false
set_option linter.unusedSimpArgs false
set_option linter.unusedVariables false
set_option linter.unusedSimpArgs false
set_option maxRecDepth 100000
open Go.RowKit
def RdIs (T : TypeId) (w : World) (br c : Nat) (xs : List Int) (e : Int) : Prop :=
 ∃ v, w.heap[br]? = some (.cells #[v, .int .i64 e] T (0, 0)) ∧ Bts w v xs ∧ (∀ k, v.ownBlock = some k → k = c) ∧ c ≠ br
theorem two_cell0 {w : World} {b : Nat} {x y : Value} {T : TypeId} (h : w.heap[b]? = some (.cells #[x, y] T (0, 0))) : w.cell? ⟨b, 0, none⟩ = some x := by simp [World.cell?, h]
theorem two_cell1 {w : World} {b : Nat} {x y : Value} {T : TypeId} (h : w.heap[b]? = some (.cells #[x, y] T (0, 0))) : w.cell? ⟨b, 1, none⟩ = some y := by simp [World.cell?, h]
theorem two_free {w : World} {b o : Nat} {x y : Value} {T : TypeId} (h : w.heap[b]? = some (.cells #[x, y] T (0, 0))) : w.frozen? ⟨b, o, none⟩ = false := by simp [World.frozen?, h]
theorem two_set0 {w : World} {b : Nat} {x y u : Value} {T : TypeId} (h : w.heap[b]? = some (.cells #[x, y] T (0, 0))) : (w.setCell ⟨b, 0, none⟩ u).heap[b]? = some (.cells #[u, y] T (0, 0)) := by
 simp [World.setCell, Array.getElem?_modify, h]
theorem two_set1 {w : World} {b : Nat} {x y u : Value} {T : TypeId} (h : w.heap[b]? = some (.cells #[x, y] T (0, 0))) : (w.setCell ⟨b, 1, none⟩ u).heap[b]? = some (.cells #[x, u] T (0, 0)) := by
 simp [World.setCell, Array.getElem?_modify, h]
theorem grown_set (w : World) (a : Addr) (u : Value) : w.grownBy (w.setCell a u) (some a.block) :=
 ⟨rfl, rfl, rfl, by simp [World.setCell], fun k _ hk => Below.heap_setCell _ _ _ _ (fun e => hk (by rw [e]))⟩
theorem Bts.kept {w w' : World} {v : Value} {xs : List Int} {r : Option Nat} (h : Bts w v xs) (hg : w.grownBy w' r) (hne : ∀ k, v.ownBlock = some k → some k ≠ r) : Bts w' v xs := by
 rcases h with h | ⟨b, off, cap, rfl, h2, h3⟩
 · exact .inl h
 · exact .inr ⟨b, off, cap, rfl, h2, fun i hi => hg.cell (h3 i hi) (hne b rfl)⟩
theorem RdIs.kept {T : TypeId} {w w' : World} {br c : Nat} {xs : List Int} {e : Int} {r : Option Nat} (h : RdIs T w br c xs e) (hg : w.grownBy w' r) (h1 : some br ≠ r) (h2 : some c ≠ r) : RdIs T w' br c xs e := by
 obtain ⟨v, hb, hv, hc, hne⟩ := h
 exact ⟨v, (hg.block br (Array.getElem?_eq_some_iff.1 hb).1 h1).trans hb, hv.kept hg (fun k hk => by rw [hc k hk]; exact h2), hc, hne⟩
set_option maxHeartbeats 400000 in
theorem stopped_nil (w : World) : Calls Tryz.prog 278 #[.pointer none] w fun e w' => e = .returned (.bool true) ∧ w = w' := by
 go_enter Tryz.func278, Tryz.ntmps278
 go_wp2
 go_ret
 exact ⟨rfl, rfl⟩
set_option maxHeartbeats 400000 in
theorem stopped_any (br : Nat) (v : Value) (e : Int) (w : World) (hr : w.heap[br]? = some (.cells #[v, .int .i64 e] 303 (0, 0))) :
   Calls Tryz.prog 278 #[.pointer (some ⟨br, 0, none⟩)] w fun e' w' => e' = .returned (.bool (e != 0)) ∧ w = w' := by
 have h1 := two_cell1 hr
 go_enter Tryz.func278, Tryz.ntmps278
 go_wp2
 go_ret
 exact ⟨rfl, rfl⟩
theorem Bts.take {w : World} {b off cap n : Nat} {xs : List Int} (_h2 : xs.length ≤ cap) (h3 : ∀ i, i < xs.length → w.cell? ⟨b, off + i, none⟩ = some (.int .u8 (xs.getD i 0))) (hn : n ≤ xs.length) : Bts w (.slice (some ⟨b, off, none⟩) n n) (xs.take n) := by
 refine .inr ⟨b, off, n, by simp [Nat.min_eq_left hn], by simp; omega, fun i hi => ?_⟩
 have hi' : i < min n xs.length := by simpa using hi
 have hi2 : i < n := by omega
 rw [h3 i (by omega)]
 simp [hi2]
theorem Bts.drop {w : World} {b off cap n : Nat} {xs : List Int} (h2 : xs.length ≤ cap) (h3 : ∀ i, i < xs.length → w.cell? ⟨b, off + i, none⟩ = some (.int .u8 (xs.getD i 0))) (hn : n ≤ xs.length) : Bts w (.slice (some ⟨b, off + n, none⟩) (xs.length - n) (cap - n)) (xs.drop n) := by
 refine .inr ⟨b, off + n, cap - n, by simp, by simp; omega, fun i hi => ?_⟩
 simp at hi
 have := h3 (n + i) (by omega)
 rw [← Nat.add_assoc] at this
 rw [this]
 simp [List.getElem?_drop]
theorem Bts.empty {w : World} {b off n : Nat} {xs : List Int} (hn : xs.length ≤ n) : Bts w (.slice (some ⟨b, off, none⟩) 0 0) (xs.drop n) := by
 rw [List.drop_eq_nil_of_le hn]
 exact .inr ⟨b, off, 0, rfl, Nat.le_refl _, fun i hi => by simp at hi⟩
def Took (w : World) (br c : Nat) (xs : List Int) (n : Nat) (e : Ending) (w' : World) : Prop :=
 ∃ t, e = .returned t ∧ Bts w' t (xs.take n) ∧ (∀ k, t.ownBlock = some k → k = c) ∧ RdIs 303 w' br c (xs.drop n) 0 ∧ w.grownBy w' (some br)
set_option maxHeartbeats 400000 in
theorem take_short (br : Nat) (v : Value) (xs : List Int) (n : Nat) (w : World) (hr : w.heap[br]? = some (.cells #[v, .int .i64 0] 303 (0, 0))) (hv : Bts w v xs) (hn : xs.length < n) (hn9 : n ≤ 65535) :
   Calls Tryz.prog 280 #[.pointer (some ⟨br, 0, none⟩), .int .i64 n] w fun e' w' => e' = .returned (.slice none 0 0) ∧ w.setCell ⟨br, 1, none⟩ (.int .i64 2) = w' := by
 have h0 := two_cell0 hr
 have h1 := two_cell1 hr
 have hf := fun o => two_free (o := o) hr
 rcases hv with ⟨rfl, hx⟩ | ⟨b, off, cap, rfl, h2, h3⟩
 · have hx0 : 0 < n := by omega
   clear hx
   go_enter Tryz.func280, Tryz.ntmps280
   go_wp2
   go_ret
   exact ⟨rfl, rfl⟩
 · go_enter Tryz.func280, Tryz.ntmps280
   go_wp2
   go_ret
   exact ⟨rfl, rfl⟩
set_option maxHeartbeats 400000 in
theorem take_long (br c : Nat) (v : Value) (xs : List Int) (n : Nat) (w : World) (hr : w.heap[br]? = some (.cells #[v, .int .i64 0] 303 (0, 0))) (hv : Bts w v xs) (hc : ∀ k, v.ownBlock = some k → k = c) (hne : c ≠ br) (hn : n ≤ xs.length) (hn9 : n ≤ 65535) :
   Calls Tryz.prog 280 #[.pointer (some ⟨br, 0, none⟩), .int .i64 n] w (Took w br c xs n) := by
 have h0 := two_cell0 hr
 have h1 := two_cell1 hr
 have hf := fun o => two_free (o := o) hr
 rcases hv with ⟨rfl, hx⟩ | ⟨b, off, cap, rfl, h2, h3⟩
 · subst hx
   have hn0 : n = 0 := by simpa using hn
   subst hn0
   go_enter Tryz.func280, Tryz.ntmps280
   go_wp2
   go_ret
   exact ⟨_, rfl, .inl ⟨rfl, rfl⟩, by simp [Value.ownBlock], ⟨_, two_set0 hr, .inl ⟨rfl, rfl⟩, by simp [Value.ownBlock], hne⟩, grown_set w ⟨br, 0, none⟩ _⟩
 · obtain rfl : b = c := hc b rfl
   clear hc
   have hT := Bts.take h2 h3 hn
   have hD := Bts.drop h2 h3 hn
   have hE := fun (hcn : cap = n) => Bts.empty (w := w) (b := b) (off := off) (xs := xs) (n := n) (by omega)
   have hg := fun u => grown_set w ⟨br, 0, none⟩ u
   have hs0 := fun u => two_set0 (u := u) hr
   have HH := Lib.hid (And.intro hT (And.intro hD (And.intro hE (And.intro hg hs0))))
   clear hT hD hE hg hs0 h3
   go_enter Tryz.func280, Tryz.ntmps280
   go_wp2
   · have hcn : cap = n := by assumption
     go_ret
     obtain ⟨hT, hD, hE, hg, hs0⟩ := HH.out
     have hl : xs.length = n := by omega
     exact ⟨_, rfl, hT.kept (hg _) (fun k hk e => hne (by simp [Value.ownBlock] at hk e; omega)), by simp [Value.ownBlock], ⟨_, hs0 _, by simpa [hl] using (hE hcn).kept (hg _) (fun k hk e => hne (by simp [Value.ownBlock] at hk e; omega)), by simp [Value.ownBlock], hne⟩, hg _⟩
   · go_ret
     obtain ⟨hT, hD, hE, hg, hs0⟩ := HH.out
     exact ⟨_, rfl, hT.kept (hg _) (fun k hk e => hne (by simp [Value.ownBlock] at hk e; omega)), by simp [Value.ownBlock], ⟨_, hs0 _, hD.kept (hg _) (fun k hk e => hne (by simp [Value.ownBlock] at hk e; omega)), by simp [Value.ownBlock], hne⟩, hg _⟩
end Go.Proofs.YtfgifgglcafadaaGreatDoor

namespace Go.Proofs.YtfgifgglcafadaaGreatDoor
set_option linter.unusedVariables false
set_option linter.unusedSimpArgs false
set_option linter.unusedVariables false
set_option linter.unusedSimpArgs false
set_option maxRecDepth 100000
open Go.RowKit
def leV : List Int → Int
 | [] => 0
 | b :: l => b + 256 * leV l
def Byts (xs : List Int) : Prop := ∀ x ∈ xs, 0 ≤ x ∧ x < 256
def numV (n : Int) (xs : List Int) (e : Int) : Int := if e = 0 ∧ sizeB n = true ∧ n ≤ xs.length then leV (xs.take n.toNat) else 0
def numX (n : Int) (xs : List Int) (e : Int) : List Int := if e = 0 ∧ sizeB n = true ∧ n ≤ xs.length then xs.drop n.toNat else xs
def numE (n : Int) (xs : List Int) (e : Int) : Int := if e = 0 then (if sizeB n = true then (if n ≤ xs.length then 0 else 2) else 1) else e
theorem num_short {m : Nat} {xs : List Int} (hs : sizeB m = true) (hn : ¬ m ≤ xs.length) : numV m xs 0 = 0 ∧ numX m xs 0 = xs ∧ numE m xs 0 = 2 := by
 have h : ¬ (m : Int) ≤ (xs.length : Int) := by omega
 exact ⟨if_neg (fun x => h x.2.2), if_neg (fun x => h x.2.2), by unfold numE; rw [if_pos rfl, if_pos hs, if_neg h]⟩
theorem leV_bd : ∀ xs : List Int, Byts xs → 0 ≤ leV xs ∧ leV xs < 256 ^ xs.length
 | [], _ => by simp [leV]
 | b :: l, h => by
   have h1 := h b (by simp)
   have h2 := leV_bd l (fun x hx => h x (by simp [hx]))
   simp only [leV, List.length_cons, Int.pow_succ]
   omega
theorem leV_snoc : ∀ (xs : List Int) (c : Int), leV (xs ++ [c]) = leV xs + c * 256 ^ xs.length
 | [], c => by simp [leV]
 | b :: l, c => by
   simp only [List.cons_append, leV, leV_snoc l c, List.length_cons, Int.pow_succ]
   rw [Int.mul_add, Int.mul_comm (256 ^ l.length) 256, ← Int.mul_assoc, ← Int.mul_assoc, Int.mul_comm c 256, Int.add_assoc]
theorem Bts.pos {w : World} {v : Value} {xs : List Int} {n : Nat} (h : Bts w v xs) (hn : xs.length = n) (h0 : 0 < n) :
   ∃ b off cap, v = .slice (some ⟨b, off, none⟩) n cap ∧ ∀ i, i < n → w.cell? ⟨b, off + i, none⟩ = some (.int .u8 (xs.getD i 0)) := by
 rcases h with ⟨_, rfl⟩ | ⟨b, off, cap, rfl, _, h3⟩
 · simp at hn; omega
 · subst hn; exact ⟨b, off, cap, rfl, h3⟩
theorem wraps_i64 (n : Int) (h0 : 0 ≤ n) (h1 : n < 2 ^ 63) : IntKind.i64.wrap n = n := by rw [IntKind.wrap_i64]; omega
theorem pow_cases (k : Nat) (hk : k < 4) : ∃ p : Int, (2 : Int) ^ (8 * k) = p ∧ (256 : Int) ^ k = p ∧ 1 ≤ p ∧ p ≤ 16777216 := by
 have h : k = 0 ∨ k = 1 ∨ k = 2 ∨ k = 3 := by omega
 rcases h with rfl | rfl | rfl | rfl <;> exact ⟨_, rfl, by decide, by decide, by decide⟩
theorem num_or (V c : Int) (k : Nat) (hk : k < 4) (hc0 : 0 ≤ c) (hc1 : c < 256) (hV0 : 0 ≤ V) (hV1 : V < 256 ^ k) :
   bits .or .i64 V (wrap64 (wrap64 c * 2 ^ (8 * k))) = V + c * 256 ^ k := by
 obtain ⟨p, h1, h2, h3, h4⟩ := pow_cases k hk
 have hcp0 : 0 ≤ c * p := Int.mul_nonneg hc0 (by omega)
 have hcp1 : c * p ≤ 256 * 16777216 := Int.mul_le_mul (by omega) h4 (by omega) (by omega)
 have e1 : wrap64 c = c := IntWalk.wrap64_in _ ⟨by omega, by omega⟩
 have e2 : wrap64 (c * p) = c * p := IntWalk.wrap64_in _ ⟨by omega, by omega⟩
 have hm : c * p % 2 ^ (8 * k) = 0 := by rw [h1]; exact Int.mul_emod_left c p
 rw [e1, h1, e2, h2]
 have hcomm : bits .or .i64 V (c * p) = bits .or .i64 (c * p) V := by simp only [bits, BitVec.or_comm]
 rw [hcomm, bits_join .i64 63 (by decide) wraps_i64 (8 * k) (c * p) V hcp0 hm (by omega) hV0 (by rw [h1]; rw [h2] at hV1; exact hV1) (by rw [h2] at hV1; omega), Int.add_comm]
theorem num_step (ys : List Int) (k : Nat) (hk : k < ys.length) (hy : ys.length ≤ 4) (hB : Byts ys) :
   bits .or .i64 (leV (ys.take k)) (wrap64 (wrap64 (ys.getD k 0) * 2 ^ (8 * k))) = leV (ys.take (k + 1)) := by
 have hb := leV_bd (ys.take k) (fun x hx => hB x (List.mem_of_mem_take hx))
 have hl : (ys.take k).length = k := by simp; omega
 have hg : ys.getD k 0 = ys[k] := by simp [List.getD_eq_getElem?_getD, hk]
 have hc := hB ys[k] (List.getElem_mem hk)
 rw [hl] at hb
 rw [hg, num_or _ _ k (by omega) hc.1 hc.2 hb.1 hb.2, List.take_succ_eq_append_getElem hk, leV_snoc, hl]
def NumPost (T : TypeId) (w : World) (br c : Nat) (xs : List Int) (e0 n : Int) (e : Ending) (w' : World) : Prop :=
 e = .returned (.int .i64 (numV n xs e0)) ∧ RdIs T w' br c (numX n xs e0) (numE n xs e0) ∧ w.grownBy w' (some br)
set_option maxHeartbeats 400000 in
theorem number_good (br c : Nat) (v : Value) (xs : List Int) (n : Nat) (w : World) (hr : w.heap[br]? = some (.cells #[v, .int .i64 0] 303 (0, 0))) (hv : Bts w v xs) (hc : ∀ k, v.ownBlock = some k → k = c) (hne : c ≠ br)
   (hB : Byts xs) (hs : n = 1 ∨ n = 2 ∨ n = 4) (hn : n ≤ xs.length) :
   Calls Tryz.prog 244 #[.pointer (some ⟨br, 0, none⟩), .int .i64 n] w fun e w' => e = .returned (.int .i64 (leV (xs.take n))) ∧ RdIs 303 w' br c (xs.drop n) 0 ∧ w.grownBy w' (some br) := by
 have hsz : sizeB n = true := by simp [sizeB]; omega
 have h0 := two_cell0 hr
 have h1 := two_cell1 hr
 have hlen : (xs.take n).length = n := by simp; omega
 have HL := Lib.hid hlen
 clear hlen
 go_enter Tryz.func244, Tryz.ntmps244
 go_wp2_with (first | (go_at_call 278; refine (stopped_any _ _ _ _ hr).mono ?_; rintro e w' ⟨rfl, rfl⟩) | (go_at_call 279; refine (isSize_any _ _).mono ?_; rintro e w' ⟨rfl, rfl⟩) | (go_at_call 280; refine (take_long br c v xs n _ hr hv hc hne hn (by omega)).mono ?_; rintro e w1 ⟨t, rfl, ht, hct, hR, hgr⟩; obtain ⟨b, off, cap, rfl, hcell⟩ := ht.pos HL.out (by omega)))
 have hBy : Byts (xs.take n) := fun x hx => hB x (List.mem_of_mem_take hx)
 have HB := Lib.hid hBy
 have HR := Lib.hid hR
 clear hBy hR hct
 go_loop [5, 20] (fun v i => ∃ k : Nat, k ≤ n ∧ i = .int .i64 k ∧ v = .int .i64 (leV ((xs.take n).take k))) (fun _ i => n - (intOf i).toNat)
 case atStart => exact ⟨0, Nat.zero_le _, rfl, rfl⟩
 case round =>
   obtain ⟨k, hk, rfl, rfl⟩ := hrel
   by_cases hlt : k < n
   · have hce := hcell k hlt
     obtain ⟨c, hcd⟩ : ∃ c, c = (xs.take n).getD k 0 := ⟨_, rfl⟩
     rw [← hcd] at hce
     obtain ⟨V, hV⟩ : ∃ V, V = leV ((xs.take n).take k) := ⟨_, rfl⟩
     rw [← hV]
     have HV := Lib.hid hV
     have HC := Lib.hid hcd
     clear hV hcd hcell
     go_wp2
     go_round
     case rel =>
       refine ⟨k + 1, by omega, by go_num, ?_⟩
       have hl := HL.out
       have := num_step (xs.take n) k (by omega) (by omega) HB.out
       rw [HV.out, HC.out, this]
     case measure => simp [intOf]; omega
   · have hkn : k = n := by omega
     subst hkn
     go_wp2
     go_ret
     exact ⟨ret_int (by rw [List.take_of_length_le (Nat.le_of_eq HL.out)]), HR.out, hgr⟩
set_option maxHeartbeats 400000 in
theorem number_nil (n : Int) (w : World) :
   Calls Tryz.prog 244 #[.pointer none, .int .i64 n] w fun e w' => e = .returned (.int .i64 0) ∧ w = w' := by
 go_enter Tryz.func244, Tryz.ntmps244
 go_wp2_with (go_at_call 278; refine (stopped_nil _).mono ?_; rintro e w' ⟨rfl, rfl⟩)
 go_ret
 exact ⟨rfl, rfl⟩
set_option maxHeartbeats 400000 in
theorem number_any (br c : Nat) (xs : List Int) (e0 n : Int) (w : World) (hR : RdIs 303 w br c xs e0) (hB : Byts xs) :
   Calls Tryz.prog 244 #[.pointer (some ⟨br, 0, none⟩), .int .i64 n] w (NumPost 303 w br c xs e0 n) := by
 obtain ⟨v, hr, hv, hc, hne⟩ := hR
 by_cases he : e0 = 0
 · subst he
   by_cases hs : sizeB n = true
   · have hs' : n = 1 ∨ n = 2 ∨ n = 4 := by simpa [sizeB] using hs
     obtain ⟨m, rfl⟩ : ∃ m : Nat, n = (m : Int) := ⟨n.toNat, by omega⟩
     by_cases hn : m ≤ xs.length
     · refine (number_good br c v xs m w hr hv hc hne hB (by omega) hn).mono fun e w' h => ?_
       have hn' : (m : Int) ≤ (xs.length : Int) := by omega
       simpa [NumPost, numV, numX, numE, hs, hn'] using h
     · have h0 := two_cell0 hr
       have h1 := two_cell1 hr
       have hg := grown_set w ⟨br, 1, none⟩ (.int .i64 2)
       have hset := two_set1 (u := .int .i64 2) hr
       have hn' : ¬ (m : Int) ≤ (xs.length : Int) := by omega
       have HP := Lib.hid (And.intro hg hset)
       clear hg hset
       go_enter Tryz.func244, Tryz.ntmps244
       go_wp2_with (first | (go_at_call 278; refine (stopped_any _ _ _ _ hr).mono ?_; rintro e w' ⟨rfl, rfl⟩) | (go_at_call 279; refine (isSize_any _ _).mono ?_; rintro e w' ⟨rfl, rfl⟩) | (go_at_call 280; refine (take_short br v xs m _ hr hv (by omega) (by omega)).mono ?_; rintro e w1 ⟨rfl, rfl⟩))
       go_loop [5, 20] (fun v i => i = .int .i64 0 ∧ v = .int .i64 0) (fun _ i => 0)
       case atStart => exact ⟨rfl, rfl⟩
       case round =>
         obtain ⟨rfl, rfl⟩ := hrel
         go_wp2
         go_ret
         obtain ⟨hg, hset⟩ := HP.out
         obtain ⟨q1, q2, q3⟩ := num_short hs hn
         refine ⟨ret_int q1.symm, ⟨v, ?_, ?_, hc, hne⟩, hg⟩
         · rw [q3]; exact hset
         · rw [q2]
           exact hv.kept hg (fun k hk e => hne (by rw [← hc k hk]; simpa using e))
   · have hs' : sizeB n = false := by simpa using hs
     have h0 := two_cell0 hr
     have h1 := two_cell1 hr
     have hf := two_free (o := 1) hr
     have hg := grown_set w ⟨br, 1, none⟩ (.int .i64 1)
     have hset := two_set1 (u := .int .i64 1) hr
     have HP := Lib.hid (And.intro hg hset)
     clear hg hset
     go_enter Tryz.func244, Tryz.ntmps244
     go_wp2_with (first | (go_at_call 278; refine (stopped_any _ _ _ _ hr).mono ?_; rintro e w' ⟨rfl, rfl⟩) | (go_at_call 279; refine (isSize_any _ _).mono ?_; rintro e w' ⟨rfl, rfl⟩))
     go_ret
     obtain ⟨hg, hset⟩ := HP.out
     refine ⟨ret_int (by simp [numV, hs']), ⟨v, ?_, ?_, hc, hne⟩, hg⟩
     · simpa [numE, hs'] using hset
     · have : numX n xs 0 = xs := by simp [numX, hs']
       rw [this]
       exact hv.kept hg (fun k hk e => hne (by rw [← hc k hk]; simpa using e))
 · have h0 := two_cell0 hr
   have h1 := two_cell1 hr
   have hne0 : (e0 != 0) = true := by simpa using he
   go_enter Tryz.func244, Tryz.ntmps244
   go_wp2_with (first | (go_at_call 278; refine (stopped_any _ _ _ _ hr).mono ?_; rintro e w' ⟨rfl, rfl⟩))
   go_ret
   exact ⟨ret_int (by simp [numV, he]), ⟨v, by simpa [numE, he] using hr, by simpa [numX, he] using hv, hc, hne⟩, World.grownBy.refl _ _⟩
end Go.Proofs.YtfgifgglcafadaaGreatDoor

namespace Go.Proofs.YtfgifgglcafadaaGreatDoor
set_option linter.unusedVariables false
set_option linter.unusedSimpArgs false
set_option linter.unusedVariables false
set_option linter.unusedSimpArgs false
set_option maxRecDepth 100000
open Go.RowKit
end Go.Proofs.YtfgifgglcafadaaGreatDoor

namespace Go.Proofs.YtfgifgglcafadaaGreatDoor
set_option linter.unusedVariables false
set_option linter.unusedSimpArgs false
set_option linter.unusedVariables false
set_option linter.unusedSimpArgs false
set_option maxRecDepth 100000
open Go.RowKit
theorem numX_byts {n : Int} {xs : List Int} {e0 : Int} (hB : Byts xs) : Byts (numX n xs e0) := by
 unfold numX
 split
 · exact fun x hx => hB x (List.mem_of_mem_drop hx)
 · exact hB
theorem convert_bts {w : World} {v : Value} {xs : List Int} (h : Bts w v xs) : (convert 73 9 v).run Tryz.prog w = .ok (.string (strOfNums xs)) w := by
 rcases h with ⟨rfl, rfl⟩ | ⟨b, off, cap, rfl, h2, h3⟩
 · exact run_convert_bytes_nil w 73 5 Tryz.underlying73 Tryz.underlying5 0 0 9 Tryz.underlying9
 · exact run_convert_bytes_arg w 73 5 Tryz.underlying73 Tryz.underlying5 b off xs.length cap xs rfl h3 9 Tryz.underlying9
def txtOk (most : Int) (xs : List Int) (e0 : Int) : Prop := numE 2 xs e0 = 0 ∧ numV 2 xs e0 ≤ most ∧ numV 2 xs e0 ≤ (numX 2 xs e0).length
instance (most : Int) (xs : List Int) (e0 : Int) : Decidable (txtOk most xs e0) := by unfold txtOk; infer_instance
theorem number_is {br c : Nat} {xs : List Int} {e0 n : Int} {w : World} (hR : RdIs 303 w br c xs e0) (hB : Byts xs) {m e1 : Int} {x1 : List Int} (h1 : numV n xs e0 = m) (h2 : numX n xs e0 = x1) (h3 : numE n xs e0 = e1) :
   Calls Tryz.prog 244 #[.pointer (some ⟨br, 0, none⟩), .int .i64 n] w fun e w' => e = .returned (.int .i64 m) ∧ RdIs 303 w' br c x1 e1 ∧ w.grownBy w' (some br) := by
 subst h1 h2 h3
 exact number_any br c xs e0 n w hR hB
theorem grown_twice {w w1 w2 : World} {r : Option Nat} (h1 : w.grownBy w1 r) (h2 : w1.grownBy w2 r) : w.grownBy w2 r := grown_trans h1 h2 (fun _ hk _ => hk.symm)
def flagB (xs : List Int) (e0 : Int) : Bool := decide (numV 1 xs e0 = 1)
def flagE (xs : List Int) (e0 : Int) : Int := if 1 < numV 1 xs e0 then 2 else numE 1 xs e0
def FlagPost (T : TypeId) (w : World) (br c : Nat) (xs : List Int) (e0 : Int) (e : Ending) (w' : World) : Prop :=
 e = .returned (.bool (flagB xs e0)) ∧ RdIs T w' br c (numX 1 xs e0) (flagE xs e0) ∧ w.grownBy w' (some br)
set_option maxHeartbeats 400000 in
theorem flag_nil (w : World) :
   Calls Tryz.prog 246 #[.pointer none] w fun e w' => e = .returned (.bool false) ∧ w = w' := by
 go_enter Tryz.func246, Tryz.ntmps246
 go_wp2_with (first | (go_at_call 244; refine (number_nil _ _).mono ?_; rintro e w' ⟨rfl, rfl⟩))
 go_ret
 exact ⟨rfl, rfl⟩
set_option maxHeartbeats 400000 in
theorem flag_any (br c : Nat) (xs : List Int) (e0 : Int) (w : World) (hR : RdIs 303 w br c xs e0) (hB : Byts xs) :
   Calls Tryz.prog 246 #[.pointer (some ⟨br, 0, none⟩)] w (FlagPost 303 w br c xs e0) := by
 obtain ⟨m, hm⟩ : ∃ m, numV 1 xs e0 = m := ⟨_, rfl⟩
 obtain ⟨x1, hx1⟩ : ∃ x, numX 1 xs e0 = x := ⟨_, rfl⟩
 obtain ⟨e1, he1⟩ : ∃ x, numE 1 xs e0 = x := ⟨_, rfl⟩
 have fB : flagB xs e0 = (m == 1) := by unfold flagB; rw [hm]; rfl
 have fE : flagE xs e0 = if 1 < m then 2 else e1 := by unfold flagE; rw [hm, he1]
 have HF := Lib.hid (And.intro fB fE)
 have Hm := Lib.hid hm
 have Hx := Lib.hid hx1
 have He := Lib.hid he1
 clear hm hx1 he1 fB fE
 by_cases h1 : 1 < m
 · go_enter Tryz.func246, Tryz.ntmps246
   go_wp2_with (first | (go_at_call 244; refine (number_is hR hB Hm.out Hx.out He.out).mono ?_; rintro e w1 ⟨rfl, ⟨v1, hr1, hv1, hc1, hne1⟩, hgr1⟩; have q1 := two_cell1 hr1; have qf := two_free (o := 1) hr1))
   go_ret
   obtain ⟨fB, fE⟩ := HF.out
   have hg := grown_set w1 ⟨br, 1, none⟩ (.int .i64 2)
   exact ⟨ret_bool (by rw [fB]), by rw [fE, if_pos h1, Hx.out]; exact ⟨v1, two_set1 hr1, hv1.kept hg (fun k hk e => hne1 (by rw [← hc1 k hk]; simpa using e)), hc1, hne1⟩, grown_twice hgr1 hg⟩
 · go_enter Tryz.func246, Tryz.ntmps246
   go_wp2_with (first | (go_at_call 244; refine (number_is hR hB Hm.out Hx.out He.out).mono ?_; rintro e w1 ⟨rfl, ⟨v1, hr1, hv1, hc1, hne1⟩, hgr1⟩; have q1 := two_cell1 hr1; have qf := two_free (o := 1) hr1))
   go_ret
   obtain ⟨fB, fE⟩ := HF.out
   exact ⟨ret_bool (by rw [fB]), by rw [fE, if_neg (by omega), Hx.out]; exact ⟨v1, hr1, hv1, hc1, hne1⟩, hgr1⟩
theorem Bts.shape {w : World} {v : Value} {xs : List Int} (h : Bts w v xs) : ∃ ao cap, v = .slice ao xs.length cap := by
 rcases h with ⟨rfl, rfl⟩ | ⟨b, off, cap, rfl, _⟩
 · exact ⟨none, 0, rfl⟩
 · exact ⟨_, _, rfl⟩
def doneE (xs : List Int) (e0 : Int) : Int := if e0 = 0 ∧ 0 < xs.length then 2 else e0
def DonePost (T : TypeId) (w : World) (br c : Nat) (xs : List Int) (e0 : Int) (e : Ending) (w' : World) : Prop :=
 e = .returned (.int .i64 (doneE xs e0)) ∧ RdIs T w' br c xs (doneE xs e0) ∧ w.grownBy w' (some br)
set_option maxHeartbeats 400000 in
theorem done_any (br c : Nat) (xs : List Int) (e0 : Int) (w : World) (hR : RdIs 303 w br c xs e0) :
   Calls Tryz.prog 247 #[.pointer (some ⟨br, 0, none⟩)] w (DonePost 303 w br c xs e0) := by
 obtain ⟨v, hr, hv, hc, hne⟩ := hR
 obtain ⟨ao, cap, rfl⟩ := hv.shape
 have h0 := two_cell0 hr
 have h1 := two_cell1 hr
 have hf := two_free (o := 1) hr
 have hg := grown_set w ⟨br, 1, none⟩ (.int .i64 2)
 have hset := two_set1 (u := .int .i64 2) hr
 have HP := Lib.hid (And.intro hg hset)
 clear hg hset
 by_cases he : e0 = 0
 · subst he
   by_cases hl : 0 < xs.length
   · have fE : doneE xs 0 = 2 := if_pos ⟨rfl, hl⟩
     have HF := Lib.hid fE
     clear fE
     go_enter Tryz.func247, Tryz.ntmps247
     go_wp2
     go_ret
     obtain ⟨hg, hset⟩ := HP.out
     exact ⟨ret_int HF.out.symm, by rw [HF.out]; exact ⟨_, hset, hv.kept hg (fun k hk e => hne (by rw [← hc k hk]; simpa using e)), hc, hne⟩, hg⟩
   · have fE : doneE xs 0 = 0 := if_neg (fun h => hl h.2)
     have HF := Lib.hid fE
     clear fE
     go_enter Tryz.func247, Tryz.ntmps247
     go_wp2
     go_ret
     exact ⟨ret_int HF.out.symm, by rw [HF.out]; exact ⟨_, hr, hv, hc, hne⟩, World.grownBy.refl _ _⟩
 · have fE : doneE xs e0 = e0 := if_neg (fun h => he h.1)
   have HF := Lib.hid fE
   have hne0 : (e0 == 0) = false := by simpa using he
   clear fE
   go_enter Tryz.func247, Tryz.ntmps247
   go_wp2
   go_ret
   exact ⟨ret_int HF.out.symm, by rw [HF.out]; exact ⟨_, hr, hv, hc, hne⟩, World.grownBy.refl _ _⟩
end Go.Proofs.YtfgifgglcafadaaGreatDoor

namespace Go.Proofs.YtfgifgglcafadaaGreatDoor
set_option linter.unusedVariables false
set_option linter.unusedSimpArgs false
set_option linter.unusedVariables false
set_option linter.unusedSimpArgs false
set_option maxRecDepth 100000
open Go.RowKit
end Go.Proofs.YtfgifgglcafadaaGreatDoor

namespace Go.Proofs.YtfgifgglcafadaaGreatDoor
set_option linter.unusedVariables false
set_option linter.unusedSimpArgs false
set_option linter.unusedVariables false
set_option linter.unusedSimpArgs false
set_option maxRecDepth 100000
open Go.RowKit
def ReadPost (w : World) (xs : List Int) (e : Ending) (w' : World) : Prop :=
 ∃ br c, e = .returned (.pointer (some ⟨br, 0, none⟩)) ∧ RdIs 303 w' br c xs 0 ∧ w.grownBy w' none ∧ w.heap.size ≤ br ∧ br < w'.heap.size ∧ c < w'.heap.size
theorem Owns.bts {w : World} {B : Nat} {v : Value} {xs : List Int} {n : Nat} (hn : n = xs.length) (h : w.ownsRow B 5 1 v n (xs.map (Value.int .u8))) : Bts w v xs := by
 subst hn
 obtain ⟨h1, h2⟩ := h
 rcases h2 with ⟨h2, h3⟩ | ⟨g, cap, cur, rfl, hg, hh, hc, _, hs, ht⟩
 · exact .inl ⟨h2, List.eq_nil_of_length_eq_zero h3⟩
 · refine .inr ⟨g, 0, cap, rfl, hc, fun i hi => ?_⟩
   have : (⟨g, 0 + i, none⟩ : Addr) = ⟨g, i, none⟩ := by rw [Nat.zero_add]
   rw [this, cell_of_row w g i cur 5 (0, 0) hh]
   have hi' : (cur.toList.take (xs.length * 1))[i]? = (xs.map (Value.int .u8))[i]? := by rw [ht]
   rw [List.getElem?_take, if_pos (by omega)] at hi'
   rw [Array.getElem?_toList] at hi'
   rw [hi']
   simp [List.getD_eq_getElem?_getD, hi]
theorem owns_shape {w : World} {B : Nat} {v : Value} {n : Nat} {xs : List Value} {T : TypeId} (h : w.ownsRow B T 1 v n xs) : ∃ ao cap, v = .slice ao n cap := by
 rcases h.2 with ⟨h2, h3⟩ | ⟨g, cap, cur, rfl, _⟩
 · subst h3; exact ⟨none, 0, h2⟩
 · exact ⟨_, _, rfl⟩
set_option maxRecDepth 100000 in
set_option maxHeartbeats 400000 in
theorem read_any (v0 : Value) (xs : List Int) (w : World) (hb : Bts w v0 xs) (hm : xs.length ≤ 140737488351232) (h0 : 0 < w.heap.size) :
   Calls Tryz.prog 243 #[v0] w (ReadPost w xs) := by
 rcases hb with ⟨rfl, rfl⟩ | ⟨b, off, cap, rfl, h2, h3⟩
 · go_enter Tryz.func243, Tryz.ntmps243
   go_wp2_with (first | (go_at_call 215; refine (clone_nil _).mono ?_; rintro e w' ⟨rfl, rfl⟩))
   go_ret
   exact ⟨w.heap.size, 0, rfl, ⟨_, heap_alloc_new w _, .inl ⟨rfl, rfl⟩, by simp [Value.ownBlock], by omega⟩, World.grownBy_alloc _ _ none, Nat.le_refl _, by simp, by simp⟩
 · go_enter Tryz.func243, Tryz.ntmps243
   go_wp2_with (first | (go_at_call 215; refine (clone_some b off cap xs _ h3 (by omega)).mono ?_; rintro e w1 ⟨v', rfl, hown, hgr⟩; obtain ⟨ao, cp, rfl⟩ := owns_shape hown))
   go_ret
   have hv := Owns.bts rfl hown
   have hlt := hown.lt
   have hs := hgr.size
   have hga := World.grownBy_alloc w1 (.cells #[.slice ao xs.length cp, .int .i64 0] 303) none
   cases hao : (Value.slice ao xs.length cp).ownBlock with
   | none => exact ⟨w1.heap.size, 0, rfl, ⟨_, heap_alloc_new w1 _, hv.kept hga (fun k hk e => by cases e), by rw [hao]; simp, by omega⟩, grown_trans hgr hga (fun k hk => by cases hk), hs, by simp, by simp⟩
   | some c =>
     have hc := hlt c hao
     exact ⟨w1.heap.size, c, rfl, ⟨_, heap_alloc_new w1 _, hv.kept hga (fun k hk e => by cases e), by rw [hao]; simp, by omega⟩, grown_trans hgr hga (fun k hk => by cases hk), hs, by simp, by simp; omega⟩
end Go.Proofs.YtfgifgglcafadaaGreatDoor

namespace Go.Proofs.YtfgifgglcafadaaGreatDoor
set_option linter.unusedVariables false
set_option linter.unusedSimpArgs false
set_option linter.unusedVariables false
set_option linter.unusedSimpArgs false
set_option maxRecDepth 100000
open Go.RowKit
theorem flag_is {br c : Nat} {xs : List Int} {e0 : Int} {w : World} (hR : RdIs 303 w br c xs e0) (hB : Byts xs) {b : Bool} {e1 : Int} {x1 : List Int} (h1 : flagB xs e0 = b) (h2 : numX 1 xs e0 = x1) (h3 : flagE xs e0 = e1) :
   Calls Tryz.prog 246 #[.pointer (some ⟨br, 0, none⟩)] w fun e w' => e = .returned (.bool b) ∧ RdIs 303 w' br c x1 e1 ∧ w.grownBy w' (some br) := by
 subst h1 h2 h3
 exact flag_any br c xs e0 w hR hB
theorem done_is {br c : Nat} {xs : List Int} {e0 : Int} {w : World} (hR : RdIs 303 w br c xs e0) {e1 : Int} (h1 : doneE xs e0 = e1) :
   Calls Tryz.prog 247 #[.pointer (some ⟨br, 0, none⟩)] w fun e w' => e = .returned (.int .i64 e1) ∧ RdIs 303 w' br c xs e1 ∧ w.grownBy w' (some br) := by
 subst h1
 exact done_any br c xs e0 w hR
theorem put_is {v0 : Value} {xs : List Int} {v n : Int} {w : World} (hb : Bts w v0 xs) (hm : xs.length ≤ 140737488350000) (hv9 : v ≤ 9223372036854775807) {ys : List Int} (h : putL xs v n = ys) :
   Calls Tryz.prog 209 #[v0, .int .i64 v, .int .i64 n] w (Made w.heap.size w ys) := by subst h; exact put_any v0 xs v n w hb hm hv9
theorem text_is {v0 : Value} {xs : List Int} {s : ByteArray} {w : World} (hb : Bts w v0 xs) (hm : xs.length ≤ 140737488200000) (hs9 : s.size ≤ 9223372036854775807) {ys : List Int} (h : textL xs s = ys) :
   Calls Tryz.prog 258 #[v0, .string s] w (Made w.heap.size w ys) := by subst h; exact text_any v0 xs s w hb hm hs9
theorem fits_is {v n : Int} {w : World} (hv9 : v ≤ 9223372036854775807) {b : Bool} (h : fitsB v n = b) :
   Calls Tryz.prog 256 #[.int .i64 v, .int .i64 n] w fun e w' => e = .returned (.bool b) ∧ w = w' := by subst h; exact fits_any v n w hv9
theorem convert_is {w : World} {v : Value} {xs : List Int} {s : ByteArray} (h : Bts w v xs) (hs : strOfNums xs = s) : (convert 73 9 v).run Tryz.prog w = .ok (.string s) w := by subst hs; exact convert_bts h
end Go.Proofs.YtfgifgglcafadaaGreatDoor

namespace Go.Proofs.YtfgifgglcafadaaGreatDoor
set_option linter.unusedVariables false
set_option linter.unusedSimpArgs false
set_option linter.unusedVariables false
set_option linter.unusedSimpArgs false
set_option maxRecDepth 100000
def stp (r : Nat) : Nat := if r % 2 = 1 then (r / 2) ^^^ 2197175160 else r / 2
def shN (r : Nat) : Nat → Nat
 | 0 => r
 | k + 1 => stp (shN r k)
def crcR (r : Nat) (xs : List Int) : Nat := xs.foldl (fun r c => shN (r ^^^ c.toNat) 8) r
def crcOn (s : Nat) (xs : List Int) : Nat := 4294967295 - crcR (4294967295 - s) xs
def crcOf (xs : List Int) : Nat := 4294967295 - crcR 4294967295 xs
theorem stp_lt {r : Nat} (h : r < 4294967296) : stp r < 4294967296 := by
 unfold stp
 split
 · exact Nat.xor_lt_two_pow (n := 32) (by omega) (by decide)
 · omega
theorem shN_lt {r : Nat} (h : r < 4294967296) : ∀ k, shN r k < 4294967296
 | 0 => h
 | k + 1 => stp_lt (shN_lt h k)
theorem xor_byte_lt {r c : Nat} (h : r < 4294967296) (hc : c < 256) : r ^^^ c < 4294967296 := Nat.xor_lt_two_pow (n := 32) h (by omega)
theorem crcR_lt : ∀ {xs : List Int} {r : Nat}, r < 4294967296 → (∀ x ∈ xs, 0 ≤ x ∧ x < 256) → crcR r xs < 4294967296
 | [], _, h, _ => h
 | c :: l, r, h, hB => by
   have := hB c (by simp)
   exact crcR_lt (xs := l) (shN_lt (xor_byte_lt h (by omega)) 8) (fun x hx => hB x (by simp [hx]))
theorem crcR_snoc (r : Nat) (xs : List Int) (c : Int) : crcR r (xs ++ [c]) = shN (crcR r xs ^^^ c.toNat) 8 := by simp [crcR]
theorem crcOf_lt (xs : List Int) : crcOf xs < 4294967296 := by unfold crcOf; omega
end Go.Proofs.YtfgifgglcafadaaGreatDoor

namespace Go.Proofs.YtfgifgglcafadaaGreatDoor
set_option linter.unusedVariables false
set_option linter.unusedSimpArgs false
set_option linter.unusedVariables false
set_option linter.unusedSimpArgs false
set_option maxRecDepth 100000
open Go.RowKit
theorem shift8 (r : Nat) (w : World) (hr : r < 4294967296) :
   Calls Tryz.prog 310 #[.int .u32 (r : Int), .int .i64 8] w fun e w' => e = .returned (.int .u32 ((shN r 8 : Nat) : Int)) ∧ w = w' := by
 go_enter Tryz.func310, Tryz.ntmps310
 go_wp2
 go_loopw [0, 7] (fun v i wr => ∃ k : Nat, k ≤ 8 ∧ i = .int .i64 k ∧ v = .int .u32 ((shN r k : Nat) : Int) ∧ w = wr) (fun _ i _ => 8 - (intOf i).toNat)
 case atStart => exact ⟨0, by omega, rfl, rfl, rfl⟩
 case round =>
   obtain ⟨k, hk, rfl, rfl, rfl⟩ := hrel
   by_cases hlt : k < 8
   · have hs := shN_lt hr k
     have hsk : shN r (k + 1) = stp (shN r k) := rfl
     generalize shN r k = s at *
     have hx : bits .xor .u32 ((s : Int) / 2) 2197175160 = ((s / 2 ^^^ 2197175160 : Nat) : Int) := by
       have := u32_xor_nat (s / 2) 2197175160 (by omega) (by omega)
       simpa using this
     have ha : bits .and .u32 (s : Int) 1 = ((s % 2 : Nat) : Int) := by
       have := u32_and_nat s 1 hs (by omega)
       rw [Nat.and_one_is_mod] at this
       simpa using this
     unfold stp at hsk
     by_cases ho : s % 2 = 1
     · rw [if_pos ho] at hsk
       rw [ho] at ha
       have HS := Lib.hid hsk
       clear hsk ho
       go_wp2
       go_roundw
       case rel => exact ⟨k + 1, by omega, by go_num, by rw [HS.out], trivial⟩
       case measure => simp [intOf]; omega
     · have ho : s % 2 = 0 := by omega
       rw [if_neg (by omega)] at hsk
       rw [ho] at ha
       have HS := Lib.hid hsk
       clear hsk ho
       go_wp2
       go_roundw
       case rel => exact ⟨k + 1, by omega, by go_num, by rw [HS.out]; simp, trivial⟩
       case measure => simp [intOf]; omega
   · obtain rfl : k = 8 := by omega
     go_wp2
     go_ret
     exact ⟨rfl, rfl⟩
theorem not32 {x : Nat} (h : x < 4294967296) : 4294967295 ^^^ x = 4294967295 - x := by
 have e : 4294967295 - x = 2 ^ 32 - (x + 1) := by omega
 rw [e]
 apply Nat.eq_of_testBit_eq
 intro i
 rw [Nat.testBit_xor, Nat.testBit_two_pow_sub_succ (n := 32) h, show 4294967295 = 2 ^ 32 - 1 from rfl, Nat.testBit_two_pow_sub_one]
 by_cases hi : i < 32
 · simp [hi]
 · have hx : x.testBit i = false := Nat.testBit_lt_two_pow (Nat.lt_of_lt_of_le h (Nat.pow_le_pow_right (n := 2) (i := 32) (by omega) (by omega)))
   simp [hi, hx]
theorem notU (x y : Nat) (h : x < 4294967296) (hy : 4294967295 - x = y) : bits .xor .u32 IntKind.u32.max (x : Int) = (y : Int) := by
 have e := u32_xor_nat 4294967295 x (by omega) h
 rw [not32 h, hy] at e
 rw [show IntKind.u32.max = ((4294967295 : Nat) : Int) from rfl, e]
theorem Bts.sform {w : World} {v : Value} {xs : List Int} (h : Bts w v xs) : ∃ ao cap b off, v = .slice ao xs.length cap ∧ ∀ k, k < xs.length → ao = some ⟨b, off, none⟩ ∧ w.cell? ⟨b, off + k, none⟩ = some (.int .u8 (xs.getD k 0)) := by
 rcases h with ⟨rfl, rfl⟩ | ⟨b, off, cap, rfl, _, hc⟩
 · exact ⟨none, 0, 0, 0, rfl, fun k hk => by simp at hk⟩
 · exact ⟨_, cap, b, off, rfl, fun k hk => ⟨rfl, hc k hk⟩⟩
theorem crcR_take {r : Nat} {xs : List Int} {k d : Nat} (hk : k < xs.length) (hd : xs.getD k 0 = (d : Int)) : crcR r (xs.take (k + 1)) = shN (crcR r (xs.take k) ^^^ d) 8 := by
 rw [List.take_add_one, List.getElem?_eq_getElem hk, Option.toList_some, crcR_snoc]
 rw [List.getD_eq_getElem?_getD, List.getElem?_eq_getElem hk] at hd
 simp only [Option.getD_some] at hd
 rw [hd]
 rfl
set_option maxHeartbeats 400000 in
theorem worked_any (s : Nat) (v : Value) (xs : List Int) (w : World) (hs : s < 4294967296) (hb : Bts w v xs) (hB : ∀ x ∈ xs, 0 ≤ x ∧ x < 256) (hm : xs.length ≤ 9223372036854775807) :
   Calls Tryz.prog 287 #[.int .u32 (s : Int), v] w fun e w' => e = .returned (.int .u32 ((crcOn s xs : Nat) : Int)) ∧ w = w' := by
 obtain ⟨t, ht⟩ : ∃ t, 4294967295 - s = t := ⟨_, rfl⟩
 have hn := notU s t hs ht
 have htl : t < 4294967296 := by omega
 obtain ⟨ao, cap, b, off, rfl, hc⟩ := hb.sform
 have HC := Lib.hid hc
 have HB := Lib.hid hB
 have hgo : crcOn s xs = 4294967295 - crcR t xs := by rw [← ht]; rfl
 rw [hgo]
 obtain ⟨g, hg⟩ : ∃ g, crcR t xs = g := ⟨_, rfl⟩
 have hgl : g < 4294967296 := by rw [← hg]; exact crcR_lt htl hB
 obtain ⟨z, hz⟩ : ∃ z, 4294967295 - g = z := ⟨_, rfl⟩
 have hn2 := notU g z hgl hz
 rw [hg, hz]
 have HG := Lib.hid hg
 clear hb hc hB ht hgo hg hz
 go_enter Tryz.func287, Tryz.ntmps287
 go_wp2
 go_loopw [5, 12] (fun v i wr => ∃ k : Nat, k ≤ xs.length ∧ i = .int .i64 k ∧ v = .int .u32 ((crcR t (xs.take k) : Nat) : Int) ∧ w = wr) (fun _ i _ => xs.length - (intOf i).toNat)
 case atStart => exact ⟨0, by omega, rfl, rfl, rfl⟩
 case round =>
   obtain ⟨k, hk, rfl, rfl, rfl⟩ := hrel
   by_cases hlt : k < xs.length
   · have hd : 0 ≤ xs.getD k 0 ∧ xs.getD k 0 < 256 := by
       rw [List.getD_eq_getElem?_getD, List.getElem?_eq_getElem hlt]
       exact HB.out _ (List.getElem_mem hlt)
     obtain ⟨rfl, hcell⟩ := HC.out k hlt
     obtain ⟨d, hde⟩ := Int.eq_ofNat_of_zero_le hd.1
     have hd2 : d < 256 := by omega
     have hst := crcR_take (r := t) hlt hde
     have hrl := crcR_lt (r := t) (xs := xs.take k) htl (fun x hx => HB.out x (List.mem_of_mem_take hx))
     rw [hde] at hcell
     generalize crcR t (xs.take k) = r at *
     obtain ⟨y, hy⟩ : ∃ y, r ^^^ d = y := ⟨_, rfl⟩
     have hyl : y < 4294967296 := by rw [← hy]; exact xor_byte_lt hrl hd2
     have hx : bits .xor .u32 (r : Int) (d : Int) = (y : Int) := by rw [← hy]; exact u32_xor_nat r d hrl (by omega)
     rw [hy] at hst
     have hw : IntKind.u32.wrap (d : Int) = (d : Int) := by simp [IntKind.wrap, IntKind.bits, IntKind.signed]; omega
     have SH := fun w => shift8 y w hyl
     have HS := Lib.hid hst
     generalize shN y 8 = q at *
     clear hst hy hd hde hrl
     go_wp2_with (go_at_call 310; refine (SH _).mono ?_; rintro e w' ⟨rfl, rfl⟩)
     go_roundw
     case rel => exact ⟨k + 1, by omega, by go_num, by rw [HS.out], trivial⟩
     case measure => simp [intOf]; omega
   · obtain rfl : k = xs.length := by omega
     have e : crcR t (xs.take xs.length) = g := by rw [List.take_length]; exact HG.out
     rw [e]
     clear e
     go_wp2
     go_ret
     exact ⟨rfl, rfl⟩
theorem sumOf_any (v : Value) (xs : List Int) (w : World) (hb : Bts w v xs) (hB : ∀ x ∈ xs, 0 ≤ x ∧ x < 256) (hm : xs.length ≤ 9223372036854775807) :
   Calls Tryz.prog 259 #[v] w fun e w' => e = .returned (.int .u32 ((crcOf xs : Nat) : Int)) ∧ w = w' := by
 have W := worked_any 0 v xs w (by omega) hb hB hm
 rw [show crcOn 0 xs = crcOf xs from rfl] at W
 generalize crcOf xs = g at *
 clear hb hB hm
 go_enter Tryz.func259, Tryz.ntmps259
 go_wp2_with (go_at_call 287; refine W.mono ?_; rintro e w' ⟨rfl, rfl⟩)
 go_ret
 exact ⟨rfl, rfl⟩
end Go.Proofs.YtfgifgglcafadaaGreatDoor

namespace Go.Proofs.YtfgifgglcafadaaGreatDoor
set_option linter.unusedVariables false
set_option linter.unusedSimpArgs false
set_option linter.unusedVariables false
set_option linter.unusedSimpArgs false
set_option maxRecDepth 100000
open Go.RowKit
def hdL (k : Int) (xs : List Int) : List Int := leB k 1 ++ (leB xs.length 2 ++ xs)
def frL (k : Int) (xs : List Int) : List Int := hdL k xs ++ leB (crcOf (hdL k xs)) 4
def mkE (k : Int) (xs : List Int) : Int := if 0 ≤ k ∧ k ≤ 255 then (if xs.length ≤ 65535 then 0 else 3) else 1
def mkL (k : Int) (xs : List Int) : List Int := if mkE k xs = 0 then frL k xs else []
theorem leB_byts (v : Int) (n : Nat) : Byts (leB v n) := by
 intro x hx
 simp only [leB, List.mem_map, List.mem_range] at hx
 obtain ⟨k, _, rfl⟩ := hx
 omega
theorem byts_append {xs ys : List Int} (h : Byts xs) (h2 : Byts ys) : Byts (xs ++ ys) := fun x hx => by
 rcases List.mem_append.1 hx with h' | h'
 · exact h x h'
 · exact h2 x h'
theorem hdL_byts {k : Int} {xs : List Int} (h : Byts xs) : Byts (hdL k xs) := byts_append (leB_byts _ _) (byts_append (leB_byts _ _) h)
theorem hdL_len (k : Int) (xs : List Int) : (hdL k xs).length = xs.length + 3 := by simp [hdL, leB_len]; omega
theorem frL_len (k : Int) (xs : List Int) : (frL k xs).length = xs.length + 7 := by simp [frL, hdL_len, leB_len]
theorem frL_byts {k : Int} {xs : List Int} (h : Byts xs) : Byts (frL k xs) := byts_append (hdL_byts h) (leB_byts _ _)
theorem byt_str {xs : List Int} (h : Byts xs) : byt (strOfNums xs) = xs := by
 apply List.ext_getElem?
 intro i
 simp only [byt, strOfNums_data, List.getElem?_map]
 cases hi : xs[i]? with
 | none => simp
 | some n =>
   have hn := h n (List.mem_of_getElem? hi)
   simp
   omega
theorem str_size (xs : List Int) : (strOfNums xs).size = xs.length := by
 show (strOfNums xs).data.size = _
 rw [← Array.length_toList, strOfNums_data, List.length_map]
def MadeE (w : World) (ys : List Int) (err : Int) (e : Ending) (w' : World) : Prop :=
 ∃ v', e = .returned (.tuple #[v', .int .i64 err]) ∧ w'.ownsRow w.heap.size 5 1 v' ys.length (ys.map (Value.int .u8)) ∧ w.grownBy w' none
theorem owns_nil (w : World) (B : Nat) : w.ownsRow B 5 1 (.slice none 0 0) 0 [] := ⟨rfl, .inl ⟨rfl, rfl⟩⟩
theorem put_one {k : Int} (h0 : 0 ≤ k) (h1 : k ≤ 255) : putL [] k 1 = leB k 1 := by
 have : fitsB k 1 = true := by simp [fitsB]; omega
 simp [putL, this]
set_option maxRecDepth 100000 in
set_option maxHeartbeats 400000 in
theorem make_any (k : Int) (v : Value) (xs : List Int) (w : World) (hb : Bts w v xs) (hB : Byts xs) (hm : xs.length ≤ 140737488200000) (hk : k ≤ 9223372036854775807) :
   Calls Tryz.prog 211 #[.int .i64 k, v] w (MadeE w (mkL k xs) (mkE k xs)) := by
 by_cases hk1 : 0 ≤ k ∧ k ≤ 255
 · by_cases hl : xs.length ≤ 65535
   · have e0 : mkE k xs = 0 := by unfold mkE; rw [if_pos hk1, if_pos hl]
     have e1 : mkL k xs = frL k xs := by unfold mkL; rw [if_pos e0]
     rw [e0, e1]
     have hfit : fitsB k 1 = true := by simp [fitsB]; omega
     have htx : textL (leB k 1) (strOfNums xs) = hdL k xs := by
       unfold textL
       rw [str_size, if_pos hl, byt_str hB]
       simp [hdL]
     have hcv := fun x (hx : Ext w x) => convert_is (s := strOfNums xs) (hb.kept hx (by simp)) rfl
     have hcb := hdL_byts (k := k) hB
     have hcl := hdL_len k xs
     have hsz := str_size xs
     have hfr : frL k xs = hdL k xs ++ leB (crcOf (hdL k xs)) 4 := rfl
     have hcr := crcOf_lt (hdL k xs)
     rw [hfr]
     generalize hdL k xs = h at *
     obtain ⟨ao, cap, b, off, rfl, _⟩ := hb.sform
     generalize hst : strOfNums xs = s at *
     have hput : putL h (crcOf h : Nat) 4 = h ++ leB (crcOf h : Nat) 4 := by
       have : fitsB ((crcOf h : Nat) : Int) 4 = true := by simp [fitsB]; omega
       simp [putL, this]
     have hwr : IntKind.i64.wrap ((crcOf h : Nat) : Int) = ((crcOf h : Nat) : Int) := IntWalk.i64_in _ ⟨by omega, by omega⟩
     have SO := fun v w hb => sumOf_any v h w hb hcb (by omega)
     have HT := Lib.hid htx
     have HP := Lib.hid hput
     have HF := Lib.hid hfit
     have HK := Lib.hid hk1
     have HS := Lib.hid hsz
     have hl2 : ¬ (65535 : Int) < (xs.length : Int) := by omega
     generalize crcOf h = c at *
     have HC := Lib.hid hcl
     clear hb hB hst htx hput hfit hcb hk1 hsz e0 e1 hfr hcl
     go_enter Tryz.func211, Tryz.ntmps211
     go_wp2_with (go_at_call 256; refine (fits_is hk HF.out).mono ?_; rintro e w' ⟨rfl, rfl⟩)
     have hS := Ext.drew w
     refine region_line [(0, true), (2, true), (3, true), (1, false), (4, false), (5, true)] (Ext w) (by kernel_rfl) (by kernel_rfl) (fun _ _ _ d _ h => by cases d <;> exact h) hS ?_
     repeat (refine line_read (a' := ?_) rfl (by kernel_rfl) (by kernel_rfl) hS (fun x hx K hK => ?_) ?_; rotate_left; · have hcx := hcv x hx; go_wp2; exact hK)
     refine line_act (by rfl) (fun K hK => ?_)
     go_wp2_with (go_at_call 209; refine (put_is (.inl ⟨rfl, rfl⟩) (by simp) hk (put_one HK.out.1 HK.out.2)).mono ?_; rintro e w2 ⟨v2, rfl, hown2, hg2⟩)
     refine hK _ _ (Ext w2) (Ext.refl w2) (fun x hx => Ext.of_drew (Ext.next hg2 x hx)) ?_
     clear hK K hcv
     refine line_act (by rfl) (fun K hK => ?_)
     go_wp2_with (go_at_call 258; refine (text_is (Owns.bts rfl hown2) (by simp [leB_len]) (by rw [HS.out]; omega) HT.out).mono ?_; rintro e w3 ⟨v3, rfl, hown3, hg3⟩)
     refine hK _ _ (Ext w3) (Ext.refl w3) (Ext.next hg3) ?_
     clear hK K
     have hS3 := Ext.refl w3
     repeat (refine line_read (a' := ?_) rfl (by kernel_rfl) (by kernel_rfl) hS3 (fun x hx K hK => ?_) ?_; rotate_left; · go_wp2; exact hK)
     refine line_end ?_
     go_wp2_with (first
       | (go_at_call 259; refine (SO _ _ (Owns.bts rfl hown3)).mono ?_; rintro e w' ⟨rfl, rfl⟩)
       | (go_at_call 209; refine (put_is (Owns.bts rfl hown3) (by rw [HC.out]; omega) (by omega) HP.out).mono ?_; rintro e w4 ⟨v4, rfl, hown4, hg4⟩))
     have hgr := grown_trans (grown_trans (Ext.next hg2 _ hg3) hg4 (by simp)) (Ext.refl w4) (by simp)
     have hz2 := hg2.size
     have hz3 := hg3.size
     refine bodyPost_ret (v := .tuple #[v4, .int .i64 0]) (by simp [results, Tryz.results211, go_sem]) rfl ⟨v4, rfl, ownsRow_le hown4 (by simp at hz2; omega), Ext.of_drew hgr⟩
   · have e0 : mkE k xs = 3 := by unfold mkE; rw [if_pos hk1, if_neg hl]
     have e1 : mkL k xs = [] := by unfold mkL; rw [if_neg (by rw [e0]; decide)]
     rw [e0, e1]
     have HF := Lib.hid (show fitsB k 1 = true by simp [fitsB]; omega)
     obtain ⟨ao, cap, b, off, rfl, _⟩ := hb.sform
     have hl2 : (65535 : Int) < (xs.length : Int) := by omega
     clear hb hB e0 e1 hk1 hl
     go_enter Tryz.func211, Tryz.ntmps211
     go_wp2_with (go_at_call 256; refine (fits_is hk HF.out).mono ?_; rintro e w' ⟨rfl, rfl⟩)
     refine bodyPost_ret (v := .tuple #[.slice none 0 0, .int .i64 3]) (by simp [results, Tryz.results211, go_sem]) rfl ⟨_, rfl, owns_nil _ _, Ext.refl _⟩
 · have e0 : mkE k xs = 1 := by unfold mkE; rw [if_neg hk1]
   have e1 : mkL k xs = [] := by unfold mkL; rw [if_neg (by rw [e0]; decide)]
   rw [e0, e1]
   have HF := Lib.hid (show fitsB k 1 = false by simp [fitsB]; omega)
   obtain ⟨ao, cap, b, off, rfl, _⟩ := hb.sform
   clear hb hB e0 e1 hk1
   go_enter Tryz.func211, Tryz.ntmps211
   go_wp2_with (go_at_call 256; refine (fits_is hk HF.out).mono ?_; rintro e w' ⟨rfl, rfl⟩)
   refine bodyPost_ret (v := .tuple #[.slice none 0 0, .int .i64 1]) (by simp [results, Tryz.results211, go_sem]) rfl ⟨_, rfl, owns_nil _ _, Ext.refl _⟩
end Go.Proofs.YtfgifgglcafadaaGreatDoor
