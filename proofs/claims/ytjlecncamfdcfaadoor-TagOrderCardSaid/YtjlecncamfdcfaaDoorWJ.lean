/-
  Reader.Text, Flag, Left, Done: the program's.
-/
import Derived.Test.YtjlecncamfdcfaaDoorWI
namespace Go.Proofs.YtjlecncamfdcfaaDoor
open Go.RowKit

theorem numV_bd (xs : List Int) (hB : Byts xs) (e0 : Int) : 0 ≤ numV 2 xs e0 ∧ numV 2 xs e0 ≤ 65535 := by
  unfold numV
  split
  · have := leV_bd (xs.take 2) (fun x hx => hB x (List.mem_of_mem_take hx))
    have hl : (xs.take (2 : Int).toNat).length = 2 := by simp; omega
    have e : (2 : Int).toNat = 2 := rfl
    rw [e] at hl ⊢
    rw [hl] at this
    omega
  · omega

theorem numX_byts {n : Int} {xs : List Int} {e0 : Int} (hB : Byts xs) : Byts (numX n xs e0) := by
  unfold numX
  split
  · exact fun x hx => hB x (List.mem_of_mem_drop hx)
  · exact hB

theorem convert_bts {w : World} {v : Value} {xs : List Int} (h : Bts w v xs) : (convert 25 9 v).run Tryd.prog w = .ok (.string (strOfNums xs)) w := by
  rcases h with ⟨rfl, rfl⟩ | ⟨b, off, cap, rfl, h2, h3⟩
  · exact run_convert_bytes_nil w 25 5 Tryd.underlying25 Tryd.underlying5 0 0 9 Tryd.underlying9
  · exact run_convert_bytes_arg w 25 5 Tryd.underlying25 Tryd.underlying5 b off xs.length cap xs rfl h3 9 Tryd.underlying9

def txtOk (most : Int) (xs : List Int) (e0 : Int) : Prop := numE 2 xs e0 = 0 ∧ numV 2 xs e0 ≤ most ∧ numV 2 xs e0 ≤ (numX 2 xs e0).length
instance (most : Int) (xs : List Int) (e0 : Int) : Decidable (txtOk most xs e0) := by unfold txtOk; infer_instance
def txtS (most : Int) (xs : List Int) (e0 : Int) : ByteArray := if txtOk most xs e0 then strOfNums ((numX 2 xs e0).take (numV 2 xs e0).toNat) else ByteArray.empty
def txtX (most : Int) (xs : List Int) (e0 : Int) : List Int := if txtOk most xs e0 then (numX 2 xs e0).drop (numV 2 xs e0).toNat else numX 2 xs e0
def txtE (most : Int) (xs : List Int) (e0 : Int) : Int := if numE 2 xs e0 = 0 then (if numV 2 xs e0 ≤ most then (if numV 2 xs e0 ≤ (numX 2 xs e0).length then 0 else 2) else 3) else numE 2 xs e0

/-- What a reading of a text left behind. -/
def TxtPost (T : TypeId) (w : World) (br c : Nat) (xs : List Int) (e0 most : Int) (e : Ending) (w' : World) : Prop :=
  e = .returned (.string (txtS most xs e0)) ∧ RdIs T w' br c (txtX most xs e0) (txtE most xs e0) ∧ w.grownBy w' (some br)

theorem number_is {br c : Nat} {xs : List Int} {e0 n : Int} {w : World} (hR : RdIs 60 w br c xs e0) (hB : Byts xs) {m e1 : Int} {x1 : List Int} (h1 : numV n xs e0 = m) (h2 : numX n xs e0 = x1) (h3 : numE n xs e0 = e1) :
    Calls Tryd.prog 22 #[.pointer (some ⟨br, 0, none⟩), .int .i64 n] w fun e w' => e = .returned (.int .i64 m) ∧ RdIs 60 w' br c x1 e1 ∧ w.grownBy w' (some br) := by
  subst h1 h2 h3
  exact number_any br c xs e0 n w hR hB

theorem ret_str {a b : ByteArray} (h : a = b) : Ending.returned (.string a) = .returned (.string b) := by rw [h]
theorem grown_twice {w w1 w2 : World} {r : Option Nat} (h1 : w.grownBy w1 r) (h2 : w1.grownBy w2 r) : w.grownBy w2 r := grown_trans h1 h2 (fun _ hk _ => hk.symm)

def flagB (xs : List Int) (e0 : Int) : Bool := decide (numV 1 xs e0 = 1)
def flagE (xs : List Int) (e0 : Int) : Int := if 1 < numV 1 xs e0 then 2 else numE 1 xs e0

theorem numV_zero {n : Int} {xs : List Int} {e0 : Int} (h : ¬ numE n xs e0 = 0) : numV n xs e0 = 0 := by
  unfold numV
  rw [if_neg]
  rintro ⟨h1, h2, h3⟩
  apply h
  unfold numE
  rw [if_pos h1, if_pos h2, if_pos h3]

def FlagPost (T : TypeId) (w : World) (br c : Nat) (xs : List Int) (e0 : Int) (e : Ending) (w' : World) : Prop :=
  e = .returned (.bool (flagB xs e0)) ∧ RdIs T w' br c (numX 1 xs e0) (flagE xs e0) ∧ w.grownBy w' (some br)

set_option maxHeartbeats 400000 in
theorem flag_nil (w : World) :
    Calls Tryd.prog 24 #[.pointer none] w fun e w' => e = .returned (.bool false) ∧ w = w' := by
  go_enter Tryd.func24, Tryd.ntmps24
  go_wp2_with (first | (go_at_call 22; refine (number_nil _ _).mono ?_; rintro e w' ⟨rfl, rfl⟩))
  go_ret
  exact ⟨rfl, rfl⟩

set_option maxHeartbeats 400000 in
theorem flag_any (br c : Nat) (xs : List Int) (e0 : Int) (w : World) (hR : RdIs 60 w br c xs e0) (hB : Byts xs) :
    Calls Tryd.prog 24 #[.pointer (some ⟨br, 0, none⟩)] w (FlagPost 60 w br c xs e0) := by
  obtain ⟨m, hm⟩ : ∃ m, numV 1 xs e0 = m := ⟨_, rfl⟩
  obtain ⟨x1, hx1⟩ : ∃ x, numX 1 xs e0 = x := ⟨_, rfl⟩
  obtain ⟨e1, he1⟩ : ∃ x, numE 1 xs e0 = x := ⟨_, rfl⟩
  have fB : flagB xs e0 = (m == 1) := by unfold flagB; rw [hm]; rfl
  have fE : flagE xs e0 = if 1 < m then 2 else e1 := by unfold flagE; rw [hm, he1]
  have HF := Lib.hid (And.intro fB fE)
  have Hm := Lib.hid hm
  have Hx := Lib.hid hx1
  have He := Lib.hid he1
  clear hm hx1 he1 fB fE
  by_cases h1 : 1 < m
  · go_enter Tryd.func24, Tryd.ntmps24
    go_wp2_with (first | (go_at_call 22; refine (number_is hR hB Hm.out Hx.out He.out).mono ?_; rintro e w1 ⟨rfl, ⟨v1, hr1, hv1, hc1, hne1⟩, hgr1⟩; have q1 := two_cell1 hr1; have qf := two_free (o := 1) hr1))
    go_ret
    obtain ⟨fB, fE⟩ := HF.out
    have hg := grown_set w1 ⟨br, 1, none⟩ (.int .i64 2)
    exact ⟨ret_bool (by rw [fB]), by rw [fE, if_pos h1, Hx.out]; exact ⟨v1, two_set1 hr1, hv1.kept hg (fun k hk e => hne1 (by rw [← hc1 k hk]; simpa using e)), hc1, hne1⟩, grown_twice hgr1 hg⟩
  · go_enter Tryd.func24, Tryd.ntmps24
    go_wp2_with (first | (go_at_call 22; refine (number_is hR hB Hm.out Hx.out He.out).mono ?_; rintro e w1 ⟨rfl, ⟨v1, hr1, hv1, hc1, hne1⟩, hgr1⟩; have q1 := two_cell1 hr1; have qf := two_free (o := 1) hr1))
    go_ret
    obtain ⟨fB, fE⟩ := HF.out
    exact ⟨ret_bool (by rw [fB]), by rw [fE, if_neg (by omega), Hx.out]; exact ⟨v1, hr1, hv1, hc1, hne1⟩, hgr1⟩

theorem Bts.shape {w : World} {v : Value} {xs : List Int} (h : Bts w v xs) : ∃ ao cap, v = .slice ao xs.length cap := by
  rcases h with ⟨rfl, rfl⟩ | ⟨b, off, cap, rfl, _⟩
  · exact ⟨none, 0, rfl⟩
  · exact ⟨_, _, rfl⟩

def doneE (xs : List Int) (e0 : Int) : Int := if e0 = 0 ∧ 0 < xs.length then 2 else e0
def DonePost (T : TypeId) (w : World) (br c : Nat) (xs : List Int) (e0 : Int) (e : Ending) (w' : World) : Prop :=
  e = .returned (.int .i64 (doneE xs e0)) ∧ RdIs T w' br c xs (doneE xs e0) ∧ w.grownBy w' (some br)

set_option maxHeartbeats 400000 in
theorem done_nil (w : World) :
    Calls Tryd.prog 25 #[.pointer none] w fun e w' => e = .returned (.int .i64 1) ∧ w = w' := by
  go_enter Tryd.func25, Tryd.ntmps25
  go_wp2
  go_ret
  exact ⟨rfl, rfl⟩

set_option maxHeartbeats 400000 in
theorem done_any (br c : Nat) (xs : List Int) (e0 : Int) (w : World) (hR : RdIs 60 w br c xs e0) :
    Calls Tryd.prog 25 #[.pointer (some ⟨br, 0, none⟩)] w (DonePost 60 w br c xs e0) := by
  obtain ⟨v, hr, hv, hc, hne⟩ := hR
  obtain ⟨ao, cap, rfl⟩ := hv.shape
  have h0 := two_cell0 hr
  have h1 := two_cell1 hr
  have hf := two_free (o := 1) hr
  have hg := grown_set w ⟨br, 1, none⟩ (.int .i64 2)
  have hset := two_set1 (u := .int .i64 2) hr
  have HP := Lib.hid (And.intro hg hset)
  clear hg hset
  by_cases he : e0 = 0
  · subst he
    by_cases hl : 0 < xs.length
    · have fE : doneE xs 0 = 2 := if_pos ⟨rfl, hl⟩
      have HF := Lib.hid fE
      clear fE
      go_enter Tryd.func25, Tryd.ntmps25
      go_wp2
      go_ret
      obtain ⟨hg, hset⟩ := HP.out
      exact ⟨ret_int HF.out.symm, by rw [HF.out]; exact ⟨_, hset, hv.kept hg (fun k hk e => hne (by rw [← hc k hk]; simpa using e)), hc, hne⟩, hg⟩
    · have fE : doneE xs 0 = 0 := if_neg (fun h => hl h.2)
      have HF := Lib.hid fE
      clear fE
      go_enter Tryd.func25, Tryd.ntmps25
      go_wp2
      go_ret
      exact ⟨ret_int HF.out.symm, by rw [HF.out]; exact ⟨_, hr, hv, hc, hne⟩, World.grownBy.refl _ _⟩
  · have fE : doneE xs e0 = e0 := if_neg (fun h => he h.1)
    have HF := Lib.hid fE
    have hne0 : (e0 == 0) = false := by simpa using he
    clear fE
    go_enter Tryd.func25, Tryd.ntmps25
    go_wp2
    go_ret
    exact ⟨ret_int HF.out.symm, by rw [HF.out]; exact ⟨_, hr, hv, hc, hne⟩, World.grownBy.refl _ _⟩

end Go.Proofs.YtjlecncamfdcfaaDoor
