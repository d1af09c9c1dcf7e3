/-
  The document's Reader.Text, Flag, Done: the same as the program's.
-/
import Derived.Test.YtjlecncamfdcfaaDoorWJ
namespace Go.Proofs.YtjlecncamfdcfaaDoor
open Go.RowKit

theorem refNumber_is {br c : Nat} {xs : List Int} {e0 n : Int} {w : World} (hR : RdIs 52 w br c xs e0) (hB : Byts xs) {m e1 : Int} {x1 : List Int} (h1 : numV n xs e0 = m) (h2 : numX n xs e0 = x1) (h3 : numE n xs e0 = e1) :
    Calls Tryd.prog 28 #[.pointer (some ⟨br, 0, none⟩), .int .i64 n] w fun e w' => e = .returned (.int .i64 m) ∧ RdIs 52 w' br c x1 e1 ∧ w.grownBy w' (some br) := by
  subst h1 h2 h3
  exact refNumber_any br c xs e0 n w hR hB

theorem Bts.head {w : World} {ao : Option Addr} {cap n : Nat} {xs : List Int} (h : Bts w (.slice ao xs.length cap) xs) (hn : n ≤ xs.length) : Bts w (.slice ao n cap) (xs.take n) := by
  rcases h with ⟨h1, rfl⟩ | ⟨b, off, c, h1, h2, h3⟩
  · simp at h1 hn
    obtain ⟨rfl, rfl⟩ := h1
    subst hn
    exact .inl ⟨rfl, rfl⟩
  · simp at h1
    obtain ⟨rfl, rfl⟩ := h1
    have hl : (xs.take n).length = n := by simp; omega
    refine .inr ⟨b, off, cap, by rw [hl], by rw [hl]; omega, fun i hi => ?_⟩
    rw [hl] at hi
    rw [h3 i (by omega)]
    simp [hi]

theorem Bts.tail {w : World} {ao : Option Addr} {cap n : Nat} {xs : List Int} (h : Bts w (.slice ao xs.length cap) xs) (hn : n ≤ xs.length) : Bts w (.slice (ao.map fun x => x.add n) (xs.length - n) (cap - n)) (xs.drop n) := by
  rcases h with ⟨h1, rfl⟩ | ⟨b, off, c, h1, h2, h3⟩
  · simp at h1 hn
    obtain ⟨rfl, rfl⟩ := h1
    subst hn
    exact .inl ⟨rfl, rfl⟩
  · simp at h1
    obtain ⟨rfl, rfl⟩ := h1
    simp only [Option.map_some, addr_add]
    exact Bts.drop h2 h3 hn

theorem Bts.over {w : World} {ao : Option Addr} {cap n : Nat} {xs : List Int} (h : Bts w (.slice ao xs.length cap) xs) (hn : xs.length ≤ n) : Bts w (.slice ao 0 0) (xs.drop n) := by
  rw [List.drop_eq_nil_of_le hn]
  rcases h with ⟨h1, rfl⟩ | ⟨b, off, c, h1, h2, h3⟩
  · simp at h1
    obtain ⟨rfl, rfl⟩ := h1
    exact .inl ⟨rfl, rfl⟩
  · simp at h1
    obtain ⟨rfl, rfl⟩ := h1
    exact .inr ⟨b, off, 0, rfl, Nat.le_refl _, fun i hi => by simp at hi⟩

theorem own_map (ao : Option Addr) (m a b c d : Nat) : (Value.slice (ao.map fun x => x.add m) a b).ownBlock = (Value.slice ao c d).ownBlock := by
  cases ao with
  | none => rfl
  | some a => simp [Value.ownBlock, Addr.add]; split <;> rfl
theorem own_same (ao : Option Addr) (a b c d : Nat) : (Value.slice ao a b).ownBlock = (Value.slice ao c d).ownBlock := by
  cases ao <;> rfl

set_option maxRecDepth 100000 in
set_option maxHeartbeats 400000 in
theorem refFlag_any (br c : Nat) (xs : List Int) (e0 : Int) (w : World) (hR : RdIs 52 w br c xs e0) (hB : Byts xs) :
    Calls Tryd.prog 29 #[.pointer (some ⟨br, 0, none⟩)] w (FlagPost 52 w br c xs e0) := by
  obtain ⟨m, hm⟩ : ∃ m, numV 1 xs e0 = m := ⟨_, rfl⟩
  obtain ⟨x1, hx1⟩ : ∃ x, numX 1 xs e0 = x := ⟨_, rfl⟩
  obtain ⟨e1, he1⟩ : ∃ x, numE 1 xs e0 = x := ⟨_, rfl⟩
  have fB : flagB xs e0 = (m == 1) := by unfold flagB; rw [hm]; rfl
  have fE : flagE xs e0 = if 1 < m then 2 else e1 := by unfold flagE; rw [hm, he1]
  have HF := Lib.hid (And.intro fB fE)
  have hz : ¬ e1 = 0 → m = 0 := fun h => by rw [← hm]; exact numV_zero (by rw [he1]; exact h)
  have Hm := Lib.hid hm
  have Hx := Lib.hid hx1
  have He := Lib.hid he1
  clear hm hx1 he1 fB fE
  by_cases h0 : e1 = 0
  · subst h0
    by_cases h1 : 1 < m
    · have hm1 : (m == 1) = false := by simp; omega
      clear hz
      go_enter Tryd.func29, Tryd.ntmps29
      go_wp2_with (first | (go_at_call 28; refine (refNumber_is hR hB Hm.out Hx.out He.out).mono ?_; rintro e w1 ⟨rfl, ⟨v1, hr1, hv1, hc1, hne1⟩, hgr1⟩; have q1 := two_cell1 hr1; have qf := two_free (o := 1) hr1))
      go_ret
      obtain ⟨fB, fE⟩ := HF.out
      have hg := grown_set w1 ⟨br, 1, none⟩ (.int .i64 2)
      exact ⟨ret_bool (by rw [fB, hm1]), by rw [fE, if_pos h1, Hx.out]; exact ⟨v1, two_set1 hr1, hv1.kept hg (fun k hk e => hne1 (by rw [← hc1 k hk]; simpa using e)), hc1, hne1⟩, grown_twice hgr1 hg⟩
    · clear hz
      go_enter Tryd.func29, Tryd.ntmps29
      go_wp2_with (first | (go_at_call 28; refine (refNumber_is hR hB Hm.out Hx.out He.out).mono ?_; rintro e w1 ⟨rfl, ⟨v1, hr1, hv1, hc1, hne1⟩, hgr1⟩; have q1 := two_cell1 hr1; have qf := two_free (o := 1) hr1))
      go_ret
      obtain ⟨fB, fE⟩ := HF.out
      exact ⟨ret_bool (by rw [fB]), by rw [fE, if_neg (by omega), Hx.out]; exact ⟨v1, hr1, hv1, hc1, hne1⟩, hgr1⟩
  · obtain rfl : m = 0 := hz h0
    have hne0 : (e1 == 0) = false := by simpa using h0
    clear hz
    go_enter Tryd.func29, Tryd.ntmps29
    go_wp2_with (first | (go_at_call 28; refine (refNumber_is hR hB Hm.out Hx.out He.out).mono ?_; rintro e w1 ⟨rfl, ⟨v1, hr1, hv1, hc1, hne1⟩, hgr1⟩; have q1 := two_cell1 hr1; have qf := two_free (o := 1) hr1))
    go_ret
    obtain ⟨fB, fE⟩ := HF.out
    exact ⟨ret_bool (by rw [fB]; rfl), by rw [fE, if_neg (by omega), Hx.out]; exact ⟨v1, hr1, hv1, hc1, hne1⟩, hgr1⟩

set_option maxRecDepth 100000 in
set_option maxHeartbeats 400000 in
theorem refDone_any (br c : Nat) (xs : List Int) (e0 : Int) (w : World) (hR : RdIs 52 w br c xs e0) :
    Calls Tryd.prog 30 #[.pointer (some ⟨br, 0, none⟩)] w (DonePost 52 w br c xs e0) := by
  obtain ⟨v, hr, hv, hc, hne⟩ := hR
  obtain ⟨ao, cap, rfl⟩ := hv.shape
  have h0 := two_cell0 hr
  have h1 := two_cell1 hr
  have hf := two_free (o := 1) hr
  have hg := grown_set w ⟨br, 1, none⟩ (.int .i64 2)
  have hset := two_set1 (u := .int .i64 2) hr
  have HP := Lib.hid (And.intro hg hset)
  clear hg hset
  by_cases he : e0 = 0
  · subst he
    by_cases hl : 0 < xs.length
    · have fE : doneE xs 0 = 2 := if_pos ⟨rfl, hl⟩
      have HF := Lib.hid fE
      clear fE
      go_enter Tryd.func30, Tryd.ntmps30
      go_wp2
      go_ret
      obtain ⟨hg, hset⟩ := HP.out
      exact ⟨ret_int HF.out.symm, by rw [HF.out]; exact ⟨_, hset, hv.kept hg (fun k hk e => hne (by rw [← hc k hk]; simpa using e)), hc, hne⟩, hg⟩
    · have fE : doneE xs 0 = 0 := if_neg (fun h => hl h.2)
      have HF := Lib.hid fE
      clear fE
      go_enter Tryd.func30, Tryd.ntmps30
      go_wp2
      go_ret
      exact ⟨ret_int HF.out.symm, by rw [HF.out]; exact ⟨_, hr, hv, hc, hne⟩, World.grownBy.refl _ _⟩
  · have fE : doneE xs e0 = e0 := if_neg (fun h => he h.1)
    have HF := Lib.hid fE
    have hne0 : (e0 == 0) = false := by simpa using he
    clear fE
    go_enter Tryd.func30, Tryd.ntmps30
    go_wp2
    go_ret
    exact ⟨ret_int HF.out.symm, by rw [HF.out]; exact ⟨_, hr, hv, hc, hne⟩, World.grownBy.refl _ _⟩

end Go.Proofs.YtjlecncamfdcfaaDoor
