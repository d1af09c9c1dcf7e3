/-
  Reader.Text, Flag, Left, Done: the program's.
-/
import Derived.Test.YtdfcfjncflfppaaWI
namespace Go.Proofs.Ytdfcfjncflfppaa
open Go.RowKit

theorem numV_bd (xs : List Int) (hB : Byts xs) (e0 : Int) : 0 ≤ numV 2 xs e0 ∧ numV 2 xs e0 ≤ 65535 := by
  unfold numV
  split
  · have := leV_bd (xs.take 2) (fun x hx => hB x (List.mem_of_mem_take hx))
    have hl : (xs.take (2 : Int).toNat).length = 2 := by simp; omega
    have e : (2 : Int).toNat = 2 := rfl
    rw [e] at hl ⊢
    rw [hl] at this
    omega
  · omega

theorem numX_byts {n : Int} {xs : List Int} {e0 : Int} (hB : Byts xs) : Byts (numX n xs e0) := by
  unfold numX
  split
  · exact fun x hx => hB x (List.mem_of_mem_drop hx)
  · exact hB

theorem convert_bts {w : World} {v : Value} {xs : List Int} (h : Bts w v xs) : (convert 22 9 v).run Try.prog w = .ok (.string (strOfNums xs)) w := by
  rcases h with ⟨rfl, rfl⟩ | ⟨b, off, cap, rfl, h2, h3⟩
  · exact run_convert_bytes_nil w 22 5 Try.underlying22 Try.underlying5 0 0 9 Try.underlying9
  · exact run_convert_bytes_arg w 22 5 Try.underlying22 Try.underlying5 b off xs.length cap xs rfl h3 9 Try.underlying9

def txtOk (most : Int) (xs : List Int) (e0 : Int) : Prop := numE 2 xs e0 = 0 ∧ numV 2 xs e0 ≤ most ∧ numV 2 xs e0 ≤ (numX 2 xs e0).length
instance (most : Int) (xs : List Int) (e0 : Int) : Decidable (txtOk most xs e0) := by unfold txtOk; infer_instance
def txtS (most : Int) (xs : List Int) (e0 : Int) : ByteArray := if txtOk most xs e0 then strOfNums ((numX 2 xs e0).take (numV 2 xs e0).toNat) else ByteArray.empty
def txtX (most : Int) (xs : List Int) (e0 : Int) : List Int := if txtOk most xs e0 then (numX 2 xs e0).drop (numV 2 xs e0).toNat else numX 2 xs e0
def txtE (most : Int) (xs : List Int) (e0 : Int) : Int := if numE 2 xs e0 = 0 then (if numV 2 xs e0 ≤ most then (if numV 2 xs e0 ≤ (numX 2 xs e0).length then 0 else 2) else 3) else numE 2 xs e0

/-- What a reading of a text left behind. -/
def TxtPost (T : TypeId) (w : World) (br c : Nat) (xs : List Int) (e0 most : Int) (e : Ending) (w' : World) : Prop :=
  e = .returned (.string (txtS most xs e0)) ∧ RdIs T w' br c (txtX most xs e0) (txtE most xs e0) ∧ w.grownBy w' (some br)

theorem number_is {br c : Nat} {xs : List Int} {e0 n : Int} {w : World} (hR : RdIs 80 w br c xs e0) (hB : Byts xs) {m e1 : Int} {x1 : List Int} (h1 : numV n xs e0 = m) (h2 : numX n xs e0 = x1) (h3 : numE n xs e0 = e1) :
    Calls Try.prog 14 #[.pointer (some ⟨br, 0, none⟩), .int .i64 n] w fun e w' => e = .returned (.int .i64 m) ∧ RdIs 80 w' br c x1 e1 ∧ w.grownBy w' (some br) := by
  subst h1 h2 h3
  exact number_any br c xs e0 n w hR hB

theorem ret_str {a b : ByteArray} (h : a = b) : Ending.returned (.string a) = .returned (.string b) := by rw [h]
theorem grown_twice {w w1 w2 : World} {r : Option Nat} (h1 : w.grownBy w1 r) (h2 : w1.grownBy w2 r) : w.grownBy w2 r := grown_trans h1 h2 (fun _ hk _ => hk.symm)

set_option maxHeartbeats 400000 in
theorem rtext_nil (most : Int) (w : World) :
    Calls Try.prog 16 #[.pointer none, .int .i64 most] w fun e w' => e = .returned (.string ByteArray.empty) ∧ w = w' := by
  go_enter Try.func16, Try.ntmps16
  go_wp2_with (first | (go_at_call 14; refine (number_nil _ _).mono ?_; rintro e w' ⟨rfl, rfl⟩) | (go_at_call 50; refine (stopped_nil _).mono ?_; rintro e w' ⟨rfl, rfl⟩))
  go_ret
  exact ⟨rfl, rfl⟩

set_option maxHeartbeats 400000 in
theorem rtext_any (br c : Nat) (xs : List Int) (e0 most : Int) (w : World) (hR : RdIs 80 w br c xs e0) (hB : Byts xs) :
    Calls Try.prog 16 #[.pointer (some ⟨br, 0, none⟩), .int .i64 most] w (TxtPost 80 w br c xs e0 most) := by
  obtain ⟨m, hm⟩ : ∃ m : Nat, numV 2 xs e0 = (m : Int) := ⟨(numV 2 xs e0).toNat, by have := numV_bd xs hB e0; omega⟩
  have hm9 : m ≤ 65535 := by have := numV_bd xs hB e0; omega
  obtain ⟨x1, hx1⟩ : ∃ x, numX 2 xs e0 = x := ⟨_, rfl⟩
  obtain ⟨e1, he1⟩ : ∃ x, numE 2 xs e0 = x := ⟨_, rfl⟩
  have Hm := Lib.hid hm
  have Hx := Lib.hid hx1
  have He := Lib.hid he1
  clear hm hx1 he1
  by_cases h1 : e1 = 0
  · subst h1
    by_cases h2 : (m : Int) ≤ most
    · by_cases h3 : m ≤ x1.length
      · have fS : txtS most xs e0 = strOfNums (x1.take m) := by unfold txtS; rw [if_pos ⟨He.out, by rw [Hm.out]; exact h2, by rw [Hm.out, Hx.out]; omega⟩, Hx.out, Hm.out]; rfl
        have fX : txtX most xs e0 = x1.drop m := by unfold txtX; rw [if_pos ⟨He.out, by rw [Hm.out]; exact h2, by rw [Hm.out, Hx.out]; omega⟩, Hx.out, Hm.out]; rfl
        have fE : txtE most xs e0 = 0 := by unfold txtE; rw [if_pos He.out, if_pos (by rw [Hm.out]; exact h2), if_pos (by rw [Hm.out, Hx.out]; omega)]
        have HF := Lib.hid (And.intro fS (And.intro fX fE))
        clear fS fX fE
        go_enter Try.func16, Try.ntmps16
        go_wp2_with (first | (go_at_call 14; refine (number_is hR hB Hm.out Hx.out He.out).mono ?_; rintro e w1 ⟨rfl, ⟨v1, hr1, hv1, hc1, hne1⟩, hgr1⟩) | (go_at_call 50; refine (stopped_any _ _ _ _ hr1).mono ?_; rintro e w' ⟨rfl, rfl⟩) | (go_at_call 52; refine (take_long br c v1 x1 m _ hr1 hv1 hc1 hne1 h3 hm9).mono ?_; rintro e w2 ⟨t, rfl, ht, hct, hR2, hgr2⟩; have hcv := convert_bts ht))
        go_ret
        obtain ⟨fS, fX, fE⟩ := HF.out
        exact ⟨ret_str fS.symm, by rw [fX, fE]; exact hR2, grown_twice hgr1 hgr2⟩
      · have nOk : ¬ txtOk most xs e0 := fun h => h3 (by have := h.2.2; rw [Hm.out, Hx.out] at this; omega)
        have fS : txtS most xs e0 = ByteArray.empty := if_neg nOk
        have fX : txtX most xs e0 = x1 := by unfold txtX; rw [if_neg nOk, Hx.out]
        have fE : txtE most xs e0 = 2 := by unfold txtE; rw [if_pos He.out, if_pos (by rw [Hm.out]; exact h2), if_neg (by rw [Hm.out, Hx.out]; omega)]
        have HF := Lib.hid (And.intro fS (And.intro fX fE))
        have hcn := fun (w : World) => convert_bts (w := w) (.inl ⟨rfl, rfl⟩)
        clear fS fX fE nOk
        go_enter Try.func16, Try.ntmps16
        go_wp2_with (first | (go_at_call 14; refine (number_is hR hB Hm.out Hx.out He.out).mono ?_; rintro e w1 ⟨rfl, ⟨v1, hr1, hv1, hc1, hne1⟩, hgr1⟩) | (go_at_call 50; refine (stopped_any _ _ _ _ hr1).mono ?_; rintro e w' ⟨rfl, rfl⟩) | (go_at_call 52; refine (take_short br v1 x1 m _ hr1 hv1 (by omega) hm9).mono ?_; rintro e w2 ⟨rfl, rfl⟩))
        go_ret
        obtain ⟨fS, fX, fE⟩ := HF.out
        have hg := grown_set w1 ⟨br, 1, none⟩ (.int .i64 2)
        exact ⟨ret_str fS.symm, by rw [fX, fE]; exact ⟨v1, two_set1 hr1, hv1.kept hg (fun k hk e => hne1 (by rw [← hc1 k hk]; simpa using e)), hc1, hne1⟩, grown_twice hgr1 hg⟩
    · have nOk : ¬ txtOk most xs e0 := fun h => h2 (by have := h.2.1; rw [Hm.out] at this; omega)
      have fS : txtS most xs e0 = ByteArray.empty := if_neg nOk
      have fX : txtX most xs e0 = x1 := by unfold txtX; rw [if_neg nOk, Hx.out]
      have fE : txtE most xs e0 = 3 := by unfold txtE; rw [if_pos He.out, if_neg (by rw [Hm.out]; exact h2)]
      have HF := Lib.hid (And.intro fS (And.intro fX fE))
      have hlt : most < (m : Int) := by omega
      clear fS fX fE nOk
      go_enter Try.func16, Try.ntmps16
      go_wp2_with (first | (go_at_call 14; refine (number_is hR hB Hm.out Hx.out He.out).mono ?_; rintro e w1 ⟨rfl, ⟨v1, hr1, hv1, hc1, hne1⟩, hgr1⟩; have q1 := two_cell1 hr1; have qf := two_free (o := 1) hr1) | (go_at_call 50; refine (stopped_any _ _ _ _ hr1).mono ?_; rintro e w' ⟨rfl, rfl⟩))
      go_ret
      obtain ⟨fS, fX, fE⟩ := HF.out
      have hg := grown_set w1 ⟨br, 1, none⟩ (.int .i64 3)
      exact ⟨ret_str fS.symm, by rw [fX, fE]; exact ⟨v1, two_set1 hr1, hv1.kept hg (fun k hk e => hne1 (by rw [← hc1 k hk]; simpa using e)), hc1, hne1⟩, grown_twice hgr1 hg⟩
  · have nOk : ¬ txtOk most xs e0 := fun h => h1 (by rw [← He.out]; exact h.1)
    have fS : txtS most xs e0 = ByteArray.empty := if_neg nOk
    have fX : txtX most xs e0 = x1 := by unfold txtX; rw [if_neg nOk, Hx.out]
    have fE : txtE most xs e0 = e1 := by unfold txtE; rw [if_neg (by rw [He.out]; exact h1), He.out]
    have HF := Lib.hid (And.intro fS (And.intro fX fE))
    have hne0 : (e1 != 0) = true := by simpa using h1
    clear fS fX fE nOk
    go_enter Try.func16, Try.ntmps16
    go_wp2_with (first | (go_at_call 14; refine (number_is hR hB Hm.out Hx.out He.out).mono ?_; rintro e w1 ⟨rfl, ⟨v1, hr1, hv1, hc1, hne1⟩, hgr1⟩) | (go_at_call 50; refine (stopped_any _ _ _ _ hr1).mono ?_; rintro e w' ⟨rfl, rfl⟩))
    go_ret
    obtain ⟨fS, fX, fE⟩ := HF.out
    exact ⟨ret_str fS.symm, by rw [fX, fE]; exact ⟨v1, hr1, hv1, hc1, hne1⟩, hgr1⟩

def flagB (xs : List Int) (e0 : Int) : Bool := decide (numV 1 xs e0 = 1)
def flagE (xs : List Int) (e0 : Int) : Int := if 1 < numV 1 xs e0 then 2 else numE 1 xs e0

theorem numV_zero {n : Int} {xs : List Int} {e0 : Int} (h : ¬ numE n xs e0 = 0) : numV n xs e0 = 0 := by
  unfold numV
  rw [if_neg]
  rintro ⟨h1, h2, h3⟩
  apply h
  unfold numE
  rw [if_pos h1, if_pos h2, if_pos h3]

def FlagPost (T : TypeId) (w : World) (br c : Nat) (xs : List Int) (e0 : Int) (e : Ending) (w' : World) : Prop :=
  e = .returned (.bool (flagB xs e0)) ∧ RdIs T w' br c (numX 1 xs e0) (flagE xs e0) ∧ w.grownBy w' (some br)

set_option maxHeartbeats 400000 in
theorem flag_nil (w : World) :
    Calls Try.prog 18 #[.pointer none] w fun e w' => e = .returned (.bool false) ∧ w = w' := by
  go_enter Try.func18, Try.ntmps18
  go_wp2_with (first | (go_at_call 14; refine (number_nil _ _).mono ?_; rintro e w' ⟨rfl, rfl⟩))
  go_ret
  exact ⟨rfl, rfl⟩

set_option maxHeartbeats 400000 in
theorem flag_any (br c : Nat) (xs : List Int) (e0 : Int) (w : World) (hR : RdIs 80 w br c xs e0) (hB : Byts xs) :
    Calls Try.prog 18 #[.pointer (some ⟨br, 0, none⟩)] w (FlagPost 80 w br c xs e0) := by
  obtain ⟨m, hm⟩ : ∃ m, numV 1 xs e0 = m := ⟨_, rfl⟩
  obtain ⟨x1, hx1⟩ : ∃ x, numX 1 xs e0 = x := ⟨_, rfl⟩
  obtain ⟨e1, he1⟩ : ∃ x, numE 1 xs e0 = x := ⟨_, rfl⟩
  have fB : flagB xs e0 = (m == 1) := by unfold flagB; rw [hm]; rfl
  have fE : flagE xs e0 = if 1 < m then 2 else e1 := by unfold flagE; rw [hm, he1]
  have HF := Lib.hid (And.intro fB fE)
  have Hm := Lib.hid hm
  have Hx := Lib.hid hx1
  have He := Lib.hid he1
  clear hm hx1 he1 fB fE
  by_cases h1 : 1 < m
  · go_enter Try.func18, Try.ntmps18
    go_wp2_with (first | (go_at_call 14; refine (number_is hR hB Hm.out Hx.out He.out).mono ?_; rintro e w1 ⟨rfl, ⟨v1, hr1, hv1, hc1, hne1⟩, hgr1⟩; have q1 := two_cell1 hr1; have qf := two_free (o := 1) hr1))
    go_ret
    obtain ⟨fB, fE⟩ := HF.out
    have hg := grown_set w1 ⟨br, 1, none⟩ (.int .i64 2)
    exact ⟨ret_bool (by rw [fB]), by rw [fE, if_pos h1, Hx.out]; exact ⟨v1, two_set1 hr1, hv1.kept hg (fun k hk e => hne1 (by rw [← hc1 k hk]; simpa using e)), hc1, hne1⟩, grown_twice hgr1 hg⟩
  · go_enter Try.func18, Try.ntmps18
    go_wp2_with (first | (go_at_call 14; refine (number_is hR hB Hm.out Hx.out He.out).mono ?_; rintro e w1 ⟨rfl, ⟨v1, hr1, hv1, hc1, hne1⟩, hgr1⟩; have q1 := two_cell1 hr1; have qf := two_free (o := 1) hr1))
    go_ret
    obtain ⟨fB, fE⟩ := HF.out
    exact ⟨ret_bool (by rw [fB]), by rw [fE, if_neg (by omega), Hx.out]; exact ⟨v1, hr1, hv1, hc1, hne1⟩, hgr1⟩

set_option maxHeartbeats 400000 in
theorem left_nil (w : World) :
    Calls Try.prog 22 #[.pointer none] w fun e w' => e = .returned (.int .i64 0) ∧ w = w' := by
  go_enter Try.func22, Try.ntmps22
  go_wp2
  go_ret
  exact ⟨rfl, rfl⟩

theorem Bts.shape {w : World} {v : Value} {xs : List Int} (h : Bts w v xs) : ∃ ao cap, v = .slice ao xs.length cap := by
  rcases h with ⟨rfl, rfl⟩ | ⟨b, off, cap, rfl, _⟩
  · exact ⟨none, 0, rfl⟩
  · exact ⟨_, _, rfl⟩

set_option maxHeartbeats 400000 in
theorem left_any (br c : Nat) (xs : List Int) (e0 : Int) (w : World) (hR : RdIs 80 w br c xs e0) :
    Calls Try.prog 22 #[.pointer (some ⟨br, 0, none⟩)] w fun e w' => e = .returned (.int .i64 xs.length) ∧ w = w' := by
  obtain ⟨v, hr, hv, hc, hne⟩ := hR
  obtain ⟨ao, cap, rfl⟩ := hv.shape
  have h0 := two_cell0 hr
  go_enter Try.func22, Try.ntmps22
  go_wp2
  go_ret
  exact ⟨rfl, rfl⟩

def doneE (xs : List Int) (e0 : Int) : Int := if e0 = 0 ∧ 0 < xs.length then 2 else e0
def DonePost (T : TypeId) (w : World) (br c : Nat) (xs : List Int) (e0 : Int) (e : Ending) (w' : World) : Prop :=
  e = .returned (.int .i64 (doneE xs e0)) ∧ RdIs T w' br c xs (doneE xs e0) ∧ w.grownBy w' (some br)

set_option maxHeartbeats 400000 in
theorem done_nil (w : World) :
    Calls Try.prog 20 #[.pointer none] w fun e w' => e = .returned (.int .i64 1) ∧ w = w' := by
  go_enter Try.func20, Try.ntmps20
  go_wp2
  go_ret
  exact ⟨rfl, rfl⟩

set_option maxHeartbeats 400000 in
theorem done_any (br c : Nat) (xs : List Int) (e0 : Int) (w : World) (hR : RdIs 80 w br c xs e0) :
    Calls Try.prog 20 #[.pointer (some ⟨br, 0, none⟩)] w (DonePost 80 w br c xs e0) := by
  obtain ⟨v, hr, hv, hc, hne⟩ := hR
  obtain ⟨ao, cap, rfl⟩ := hv.shape
  have h0 := two_cell0 hr
  have h1 := two_cell1 hr
  have hf := two_free (o := 1) hr
  have hg := grown_set w ⟨br, 1, none⟩ (.int .i64 2)
  have hset := two_set1 (u := .int .i64 2) hr
  have HP := Lib.hid (And.intro hg hset)
  clear hg hset
  by_cases he : e0 = 0
  · subst he
    by_cases hl : 0 < xs.length
    · have fE : doneE xs 0 = 2 := if_pos ⟨rfl, hl⟩
      have HF := Lib.hid fE
      clear fE
      go_enter Try.func20, Try.ntmps20
      go_wp2
      go_ret
      obtain ⟨hg, hset⟩ := HP.out
      exact ⟨ret_int HF.out.symm, by rw [HF.out]; exact ⟨_, hset, hv.kept hg (fun k hk e => hne (by rw [← hc k hk]; simpa using e)), hc, hne⟩, hg⟩
    · have fE : doneE xs 0 = 0 := if_neg (fun h => hl h.2)
      have HF := Lib.hid fE
      clear fE
      go_enter Try.func20, Try.ntmps20
      go_wp2
      go_ret
      exact ⟨ret_int HF.out.symm, by rw [HF.out]; exact ⟨_, hr, hv, hc, hne⟩, World.grownBy.refl _ _⟩
  · have fE : doneE xs e0 = e0 := if_neg (fun h => he h.1)
    have HF := Lib.hid fE
    have hne0 : (e0 == 0) = false := by simpa using he
    clear fE
    go_enter Try.func20, Try.ntmps20
    go_wp2
    go_ret
    exact ⟨ret_int HF.out.symm, by rw [HF.out]; exact ⟨_, hr, hv, hc, hne⟩, World.grownBy.refl _ _⟩

end Go.Proofs.Ytdfcfjncflfppaa
