/-
  Package prefix: Clone of texts, isPlace, do, After.
-/
import Derived.Test.YthailmoeggdfhaaUI
import Derived.Laws.EntriesVeiled
import Derived.Shelf.Abstract
namespace Go.Proofs.Ythailmoeggdfhaa
set_option linter.unusedVariables false
set_option linter.unusedSimpArgs false
set_option maxRecDepth 100000
open Go.RowKit

theorem Try.eqNilStr24 (w : World) (a : Option Addr) (n c : Nat) : (binOp .eql 22 (.slice a n c) (.slice none 0 0)).run Try.prog w = .ok (.bool a.isNone) w := Lib.run_eql_slice_nil w 22 9 a n c 0 0 Try.underlying22
attribute [local go_sem] Try.eqNilStr24

theorem weak24 {w w' : World} (h : w.grownBy w' none) (r : Option Nat) : w.grownBy w' r := ⟨h.os, h.tape, h.output, h.size, fun k hk _ => h.block k hk (by simp)⟩
theorem Blk.range24 {w : World} {g : Nat} {t : TypeId} {y : Int × ByteArray} (h : Blk w g t (ch24C y)) : w.rangeAt g 0 (ch24C y).toList := by
  have := World.rangeAt_of_block h 0 2
  simpa [ch24C] using this
/-- A row of texts that the call made: none, or the first n of a block from B on. -/
def TxO (B : Nat) (w : World) (a : Option Addr) (n : Nat) (F : Nat → ByteArray) : Prop := (a = none ∧ n = 0) ∨ ∃ g, a = some ⟨g, 0, none⟩ ∧ B ≤ g ∧ TxB w g n F
theorem TxO.kept {B : Nat} {w w' : World} {a : Option Addr} {n : Nat} {F : Nat → ByteArray} (h : TxO B w a n F) {r : Option Nat} (hg : w.grownBy w' r) (hr : ∀ k, r = some k → k < B) : TxO B w' a n F := by
  rcases h with h | ⟨g, h1, h2, h3⟩
  · exact .inl h
  · exact .inr ⟨g, h1, h2, h3.block (hg.block g h3.lt (fun e => by have := hr g e.symm; omega))⟩
theorem TxO.same {B : Nat} {w : World} {a : Option Addr} {n : Nat} {F G : Nat → ByteArray} (h : TxO B w a n F) (he : ∀ i, i < n → F i = G i) : TxO B w a n G := by
  rcases h with h | ⟨g, h1, h2, h3⟩
  · exact .inl h
  · exact .inr ⟨g, h1, h2, h3.same he⟩
theorem TxO.le {B B' : Nat} {w : World} {a : Option Addr} {n : Nat} {F : Nat → ByteArray} (h : TxO B w a n F) (hB : B' ≤ B) : TxO B' w a n F := by
  rcases h with h | ⟨g, h1, h2, h3⟩
  · exact .inl h
  · exact .inr ⟨g, h1, by omega, h3⟩
theorem TxO.txs {B : Nat} {w : World} {a : Option Addr} {n : Nat} {F : Nat → ByteArray} (h : TxO B w a n F) : TxR w a ((List.range n).map F) := by
  rcases h with ⟨_, h⟩ | ⟨g, rfl, _, h3⟩
  · subst h
    exact fun i hi => by simp at hi
  · exact h3.txs
theorem TxB.of_owns2 {w : World} {B : Nat} {v : Value} {ss : List ByteArray} (h : w.ownsRow B 9 1 v ss.length (ss.map Value.string)) (hv : v.ownBlock ≠ none) : ∃ g cap, v = .slice (some ⟨g, 0, none⟩) ss.length cap ∧ Sl (some ⟨g, 0, none⟩) ss.length cap ∧ TxB w g ss.length (fun i => ss.getD i ByteArray.empty) ∧ B ≤ g := by
  obtain ⟨g, cap, rfl, h2, h3⟩ := TxB.of_owns h hv
  refine ⟨g, cap, rfl, ?_, h2, h3⟩
  rcases h.2 with ⟨h4, _⟩ | ⟨g', cap', cur, h4, _, _, h5, h6, _, _⟩
  · exact absurd h4 (by simp)
  · simp only [Value.slice.injEq] at h4
    obtain ⟨_, _, rfl⟩ := h4
    unfold maxLen at h6
    exact sl_two _ _ _ h5 (by omega)

set_option maxHeartbeats 800000 in
theorem clone24 (w : World) (a : Option Addr) (ca : Nat) (ss : List ByteArray) (h1 : TxR w a ss) (sl : Sl a ss.length ca) (hs : ss.length ≤ 1000) :
    Calls Try.prog 16 #[.slice a ss.length ca] w fun e w' => ∃ a' c', e = .returned (.slice a' ss.length c') ∧ Sl a' ss.length c' ∧ TxO w.heap.size w' a' ss.length (fun i => ss.getD i ByteArray.empty) ∧ w.grownBy w' none := by
  rcases a with _ | z
  · obtain ⟨hn, rfl⟩ := sl.nil rfl
    rw [hn]
    clear h1 sl hn
    go_enter Try.func16, Try.ntmps16
    go_wp2
    go_ret
    exact ⟨none, 0, rfl, ⟨fun _ => ⟨rfl, rfl⟩, fun z hz => by (cases hz), Nat.le_refl _, by decide⟩, .inl ⟨rfl, rfl⟩, Ext.refl w⟩
  · have hg0 := World.grownBy_alloc w (.cells #[] 9) none
    have H1' := Lib.hid (h1.ext hg0)
    have HP := Lib.hid sl.spot
    have HG0 := Lib.hid hg0
    have HO0 := Lib.hid (show (w.alloc (.cells #[] 9)).ownsRow w.heap.size 9 1 (.slice (some ⟨w.heap.size, 0, none⟩) 0 0) ([] : List ByteArray).length (([] : List ByteArray).map Value.string) from World.ownsRow_made w #[] 0 (Nat.le_refl _) (Nat.zero_le _) rfl)
    clear h1 sl hg0
    go_enter Try.func16, Try.ntmps16
    go_wp2_with (at_builtin; refine append_txs rfl _ _ rfl w.heap.size _ [] rfl HO0.out (some z) ca ss rfl (fun h => by (cases h)) HP.out H1'.out ?_ ?_ ?_; simp only [List.length_nil]; omega; simp; intro v3 w3 ho3 hg3 hb3; have HE3 := Lib.hid (new24 HG0.out hg3 (Nat.le_refl _)); have hn3 : v3.ownBlock ≠ none := (by intro e; rcases hb3 with h | h <;> exact absurd (h.symm.trans e) (Option.some_ne_none _)); rw [List.nil_append] at ho3; obtain ⟨g, cap, rfl, hs3, hb5, hB5⟩ := TxB.of_owns2 ho3 hn3; have H5 := Lib.hid (And.intro hs3 (And.intro hb5 hB5)); clear ho3 hg3 hb3 hn3 hs3 hb5 hB5)
    go_ret
    exact ⟨_, _, rfl, H5.out.1, .inr ⟨g, rfl, H5.out.2.2, H5.out.2.1⟩, HE3.out⟩

theorem place24 (w : World) (a : Option Addr) (n cap : Nat) (p : Int) : Calls Try.prog 19 #[.slice a n cap, .int .i64 p] w fun e w' => e = .returned (.bool (decide (0 ≤ p) && decide (p < n))) ∧ w = w' := by
  obtain ⟨z1, h1⟩ : ∃ z, decide (0 ≤ p) = z := ⟨_, rfl⟩
  obtain ⟨z2, h2⟩ : ∃ z, decide (p < (n : Int)) = z := ⟨_, rfl⟩
  rw [h1, h2]
  cases z1
  · clear h2
    go_enter Try.func19, Try.ntmps19
    go_wp2
    go_ret
    exact ⟨rfl, rfl⟩
  · cases z2
    · go_enter Try.func19, Try.ntmps19
      go_wp2
      go_ret
      exact ⟨rfl, rfl⟩
    · go_enter Try.func19, Try.ntmps19
      go_wp2
      go_ret
      exact ⟨rfl, rfl⟩

/-- What a change makes of places. -/
def doF (F : Nat → ByteArray) (c : Int × ByteArray) : Nat → ByteArray := fun j => if c.1 = (j : Int) then c.2 else F j

set_option maxHeartbeats 800000 in
theorem do24 (w : World) (B : Nat) (a : Option Addr) (n cap : Nat) (F : Nat → ByteArray) (c : Int × ByteArray) (h : TxO B w a n F) (hn : n ≤ 1000) :
    Calls Try.prog 17 #[.slice a n cap, .agg (ch24C c)] w fun e w' => e = .returned (.tuple #[]) ∧ TxO B w' a n (doF F c) ∧ w.grownBy w' (a.map (·.block)) := by
  obtain ⟨p, d⟩ := c
  have PL := Lib.hid (fun wx => place24 wx a n cap p)
  have hB := Blk.new w 28 (ch24C (p, d))
  have hE := World.grownBy_alloc w (.cells (ch24C (p, d)) 28)
  obtain ⟨w1, hw1⟩ : ∃ z, w.alloc (.cells (ch24C (p, d)) 28) = z := ⟨_, rfl⟩
  rw [hw1] at hB
  have hE2 := hE none
  rw [hw1] at hE2
  have c0 := (hB.cell 0).trans (show (ch24C (p, d))[0]? = some (.int .i64 p) from rfl)
  have c1 := (hB.cell 1).trans (show (ch24C (p, d))[1]? = some (.string d) from rfl)
  have hT := h.kept hE2 (fun k hk => by (cases hk))
  have HE := Lib.hid hE2
  clear hE hE2 hB h
  by_cases hp : 0 ≤ p ∧ p < n
  · have P1 := Lib.hid (fun wx => show Calls Try.prog 19 #[.slice a n cap, .int .i64 p] wx fun e w' => e = .returned (.bool true) ∧ wx = w' from by
      have := PL.out wx
      rw [decide_eq_true hp.1, decide_eq_true hp.2] at this
      exact this)
    obtain ⟨q, rfl⟩ : ∃ q : Nat, p = q := ⟨p.toNat, by omega⟩
    have hq : q < n := by omega
    rcases hT with ⟨_, h0⟩ | ⟨g, rfl, hgB, hT⟩
    · omega
    have HT := Lib.hid hT
    have hf := hT.free q
    have cq := hT.cell hq
    clear hp PL hT
    go_enter Try.func17, Try.ntmps17
    go_wp2_with (go_at_call 19; refine (P1.out _).mono ?_; rintro e w2 ⟨rfl, rfl⟩)
    go_end0
    refine ⟨rfl, .inr ⟨g, rfl, hgB, (HT.out.set q d).same fun i _ => ?_⟩, (weak24 HE.out _).trans (gb_set (gb_refl _ _) _ _)⟩
    unfold upT doF
    by_cases e : i = q
    · subst e; rw [if_pos rfl, if_pos rfl]
    · rw [if_neg e, if_neg (by intro h; simp only at h; omega)]
  · have P1 := Lib.hid (fun wx => show Calls Try.prog 19 #[.slice a n cap, .int .i64 p] wx fun e w' => e = .returned (.bool false) ∧ wx = w' from by
      have := PL.out wx
      rw [show (decide (0 ≤ p) && decide (p < (n : Int))) = false from by
        rw [← Bool.not_eq_true, Bool.and_eq_true, decide_eq_true_eq, decide_eq_true_eq]
        exact hp] at this
      exact this)
    have HT := Lib.hid (hT.same (G := doF F (p, d)) fun i hi => by
      unfold doF
      rw [if_neg (by intro h; simp only at h; omega)])
    clear hp PL hT
    go_enter Try.func17, Try.ntmps17
    go_wp2_with (go_at_call 19; refine (P1.out _).mono ?_; rintro e w2 ⟨rfl, rfl⟩)
    go_end0
    exact ⟨rfl, HT.out, weak24 HE.out _⟩

/-- The places behind the first k changes, one by one. -/
def nthF (X : List (Int × ByteArray)) (ss : List ByteArray) (k : Nat) : Nat → ByteArray := fun i => foldI (X.take k) i (ss.getD i ByteArray.empty)
theorem nthF_zero (X : List (Int × ByteArray)) (ss : List ByteArray) : nthF X ss 0 = fun i => ss.getD i ByteArray.empty := rfl
theorem nthF_succ (X : List (Int × ByteArray)) (ss : List ByteArray) {k : Nat} (hk : k < X.length) : doF (nthF X ss k) (X.getD k (0, ByteArray.empty)) = nthF X ss (k + 1) := by
  funext i
  unfold doF nthF
  rw [foldI_take hk]
theorem nthF_aft (X : List (Int × ByteArray)) (ss : List ByteArray) (k : Nat) : (List.range ss.length).map (nthF X ss k) = aftR (X.take k) ss := rfl

set_option maxHeartbeats 1600000 in
theorem aft_c : AftC := fun w a b ca cb ss X h1 s1 h2 s2 l1 l2 => by
  have CL := Lib.hid (clone24 w a ca ss h1 s1 l1)
  have HR := Lib.hid h2
  obtain ⟨n, hn⟩ : ∃ n, ss.length = n := ⟨_, rfl⟩
  obtain ⟨m, hm⟩ : ∃ m, X.length = m := ⟨_, rfl⟩
  rw [hn] at CL ⊢
  rw [hm] at l2 s2 ⊢
  have HN := Lib.hid (And.intro hn hm)
  have hm1 := s2.le
  have hm2 := s2.max
  rw [hn] at l1
  clear h1 h2 s1 s2 hn hm
  go_enter Try.func11, Try.ntmps11
  go_upto_region 2 with (go_at_call 16; refine CL.out.mono ?_; rintro e w1 ⟨a1, c1, rfl, s1, t1, hE1⟩; have HE1 := Lib.hid (And.intro s1 (And.intro t1 hE1)); clear s1 t1 hE1)
  go_wp2
  go_loopw [12] (fun i wr => ∃ k : Nat, k ≤ m ∧ i = .int .i64 k ∧ TxO w.heap.size wr a1 n (nthF X ss k) ∧ w.grownBy wr none) (fun i _ => m - (intOf i).toNat)
  case atStart => exact ⟨0, by omega, rfl, HE1.out.2.1, HE1.out.2.2⟩
  case round =>
    obtain ⟨k, hk, rfl, hT, hE⟩ := hrel
    by_cases hlt : k < m
    · obtain ⟨ab, off, rfl, hr⟩ := (HR.out.ext hE) k (by rw [HN.out.2]; exact hlt)
      obtain ⟨y, hy⟩ : ∃ x, X.getD k (0, ByteArray.empty) = x := ⟨_, rfl⟩
      rw [hy] at hr
      have HX := Lib.hid (nthF_succ X ss (k := k) (by rw [HN.out.2]; exact hlt))
      rw [hy] at HX
      have hBa := Blk.new wr 28 #[.int .i64 0, .string ⟨#[]⟩]
      have HT := Lib.hid (And.intro hT hE)
      clear hT hE hy
      go_upto_region 5 with (first
        | (refine ch23_load rfl _ rfl rfl hr ?_)
        | (refine ch23_store rfl _ _ rfl rfl rfl hBa rfl ?_; intro w6 hb6 hg6 hs6; have hE6 : wr.grownBy w6 none := new24 (World.grownBy_alloc wr _ none) hg6 (Nat.le_refl _); have DO := do24 w6 w.heap.size a1 n c1 _ y (HT.out.1.kept hE6 (fun k hk => by (cases hk))) l1; have HB6 := Lib.hid hb6; have HE6 := Lib.hid (ext_trans HT.out.2 hE6); clear hBa hg6 hs6 hr hE6 hb6))
      have hb6 := HB6.out.range24
      go_wp2_with (first
        | (refine ch23_load rfl _ rfl rfl hb6 ?_)
        | (go_at_call 17; refine DO.mono ?_; rintro e w7 ⟨rfl, t7, hE7⟩; have HT7 := Lib.hid (And.intro t7 hE7); clear t7 hE7))
      go_roundw
      case rel =>
        refine ⟨k + 1, by omega, by go_num, ?_, ?_⟩
        · rw [← HX.out]; exact HT7.out.1
        · refine grown_trans HE6.out HT7.out.2 (fun q hq hlt => ?_)
          rcases HT7.out.1 with ⟨rfl, _⟩ | ⟨g, rfl, hg, _⟩
          · cases hq
          · injection hq with hq; simp at hq; omega
      case measure => simp [intOf]; omega
    · obtain rfl : k = m := by omega
      go_wp2
      go_ret
      refine ⟨a1, c1, rfl, HE1.out.1, ?_, hE⟩
      have := hT.txs
      rw [← HN.out.1, nthF_aft, List.take_of_length_le (by rw [HN.out.2]; exact Nat.le_refl _)] at this
      exact this

end Go.Proofs.Ythailmoeggdfhaa
