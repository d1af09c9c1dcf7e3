/-
  The document's Reader.Text, Flag, Done: the same as the program's.
-/
import Derived.Test.YtdfcfjncflfppaaWJ
namespace Go.Proofs.Ytdfcfjncflfppaa
open Go.RowKit

theorem refNumber_is {br c : Nat} {xs : List Int} {e0 n : Int} {w : World} (hR : RdIs 30 w br c xs e0) (hB : Byts xs) {m e1 : Int} {x1 : List Int} (h1 : numV n xs e0 = m) (h2 : numX n xs e0 = x1) (h3 : numE n xs e0 = e1) :
    Calls Try.prog 15 #[.pointer (some ⟨br, 0, none⟩), .int .i64 n] w fun e w' => e = .returned (.int .i64 m) ∧ RdIs 30 w' br c x1 e1 ∧ w.grownBy w' (some br) := by
  subst h1 h2 h3
  exact refNumber_any br c xs e0 n w hR hB

theorem Bts.head {w : World} {ao : Option Addr} {cap n : Nat} {xs : List Int} (h : Bts w (.slice ao xs.length cap) xs) (hn : n ≤ xs.length) : Bts w (.slice ao n cap) (xs.take n) := by
  rcases h with ⟨h1, rfl⟩ | ⟨b, off, c, h1, h2, h3⟩
  · simp at h1 hn
    obtain ⟨rfl, rfl⟩ := h1
    subst hn
    exact .inl ⟨rfl, rfl⟩
  · simp at h1
    obtain ⟨rfl, rfl⟩ := h1
    have hl : (xs.take n).length = n := by simp; omega
    refine .inr ⟨b, off, cap, by rw [hl], by rw [hl]; omega, fun i hi => ?_⟩
    rw [hl] at hi
    rw [h3 i (by omega)]
    simp [hi]

theorem Bts.tail {w : World} {ao : Option Addr} {cap n : Nat} {xs : List Int} (h : Bts w (.slice ao xs.length cap) xs) (hn : n ≤ xs.length) : Bts w (.slice (ao.map fun x => x.add n) (xs.length - n) (cap - n)) (xs.drop n) := by
  rcases h with ⟨h1, rfl⟩ | ⟨b, off, c, h1, h2, h3⟩
  · simp at h1 hn
    obtain ⟨rfl, rfl⟩ := h1
    subst hn
    exact .inl ⟨rfl, rfl⟩
  · simp at h1
    obtain ⟨rfl, rfl⟩ := h1
    simp only [Option.map_some, addr_add]
    exact Bts.drop h2 h3 hn

theorem Bts.over {w : World} {ao : Option Addr} {cap n : Nat} {xs : List Int} (h : Bts w (.slice ao xs.length cap) xs) (hn : xs.length ≤ n) : Bts w (.slice ao 0 0) (xs.drop n) := by
  rw [List.drop_eq_nil_of_le hn]
  rcases h with ⟨h1, rfl⟩ | ⟨b, off, c, h1, h2, h3⟩
  · simp at h1
    obtain ⟨rfl, rfl⟩ := h1
    exact .inl ⟨rfl, rfl⟩
  · simp at h1
    obtain ⟨rfl, rfl⟩ := h1
    exact .inr ⟨b, off, 0, rfl, Nat.le_refl _, fun i hi => by simp at hi⟩

theorem own_map (ao : Option Addr) (m a b c d : Nat) : (Value.slice (ao.map fun x => x.add m) a b).ownBlock = (Value.slice ao c d).ownBlock := by
  cases ao with
  | none => rfl
  | some a => simp [Value.ownBlock, Addr.add]; split <;> rfl
theorem own_same (ao : Option Addr) (a b c d : Nat) : (Value.slice ao a b).ownBlock = (Value.slice ao c d).ownBlock := by
  cases ao <;> rfl

set_option maxRecDepth 100000 in
set_option maxHeartbeats 400000 in
theorem refText_good (br c : Nat) (xs : List Int) (e0 most : Int) (w : World) (hR : RdIs 30 w br c xs e0) (hB : Byts xs) {m : Nat} {x1 : List Int} (h1 : numV 2 xs e0 = (m : Int)) (h2 : numX 2 xs e0 = x1) (h3 : numE 2 xs e0 = 0) (hle : (m : Int) ≤ most) (hlen : m ≤ x1.length) (hm9 : m ≤ 65535) :
    Calls Try.prog 17 #[.pointer (some ⟨br, 0, none⟩), .int .i64 most] w fun e w' => e = .returned (.string (strOfNums (x1.take m))) ∧ RdIs 30 w' br c (x1.drop m) 0 ∧ w.grownBy w' (some br) := by
  have H1 := Lib.hid h1
  have H2 := Lib.hid h2
  have H3 := Lib.hid h3
  clear h1 h2 h3
  have hdec : decide ((x1.length : Int) < (m : Int)) = false := by simp; omega
  go_enter Try.func17, Try.ntmps17
  go_wp2_with (first | (go_at_call 15; refine (refNumber_is hR hB H1.out H2.out H3.out).mono ?_; rintro e w1 ⟨rfl, ⟨v1, hr1, hv1, hc1, hne1⟩, hgr1⟩; obtain ⟨ao, cap, rfl⟩ := hv1.shape; have q0 := two_cell0 hr1; have q1 := two_cell1 hr1; have qf := fun o => two_free (o := o) hr1; have hcv := convert_bts (hv1.head hlen); have hle1 := hv1.le.2))
  all_goals
    go_ret
    have hg := fun u => grown_set w1 ⟨br, 0, none⟩ u
    have hk0 : ∀ k, (Value.slice ao x1.length cap).ownBlock = some k → some k ≠ some br := fun k hk e => hne1 (by rw [← hc1 k hk]; simpa using e)
    first
    | exact ⟨rfl, ⟨_, two_set0 hr1, (hv1.tail hlen).kept (hg _) (fun k hk => hk0 k (by rw [← hk]; exact (own_map _ _ _ _ _ _).symm)), fun k hk => hc1 k (by rw [← hk]; exact (own_map _ _ _ _ _ _).symm), hne1⟩, grown_twice hgr1 (hg _)⟩
    | exact ⟨rfl, ⟨_, two_set0 hr1, by simpa [show x1.length = m by omega] using (hv1.over (n := m) (by omega)).kept (hg _) (fun k hk => hk0 k (by rw [← hk]; exact own_same _ _ _ _ _)), fun k hk => hc1 k (by rw [← hk]; exact own_same _ _ _ _ _), hne1⟩, grown_twice hgr1 (hg _)⟩

set_option maxRecDepth 100000 in
set_option maxHeartbeats 400000 in
theorem refText_any' (br c : Nat) (xs : List Int) (e0 most : Int) (w : World) (hR : RdIs 30 w br c xs e0) (hB : Byts xs) :
    Calls Try.prog 17 #[.pointer (some ⟨br, 0, none⟩), .int .i64 most] w (TxtPost 30 w br c xs e0 most) := by
  obtain ⟨m, hm⟩ : ∃ m : Nat, numV 2 xs e0 = (m : Int) := ⟨(numV 2 xs e0).toNat, by have := numV_bd xs hB e0; omega⟩
  have hm9 : m ≤ 65535 := by have := numV_bd xs hB e0; omega
  obtain ⟨x1, hx1⟩ : ∃ x, numX 2 xs e0 = x := ⟨_, rfl⟩
  obtain ⟨e1, he1⟩ : ∃ x, numE 2 xs e0 = x := ⟨_, rfl⟩
  have Hm := Lib.hid hm
  have Hx := Lib.hid hx1
  have He := Lib.hid he1
  clear hm hx1 he1
  by_cases h1 : e1 = 0
  · subst h1
    by_cases h2 : (m : Int) ≤ most
    · by_cases h3 : m ≤ x1.length
      · have fS : txtS most xs e0 = strOfNums (x1.take m) := by unfold txtS; rw [if_pos ⟨He.out, by rw [Hm.out]; exact h2, by rw [Hm.out, Hx.out]; omega⟩, Hx.out, Hm.out]; rfl
        have fX : txtX most xs e0 = x1.drop m := by unfold txtX; rw [if_pos ⟨He.out, by rw [Hm.out]; exact h2, by rw [Hm.out, Hx.out]; omega⟩, Hx.out, Hm.out]; rfl
        have fE : txtE most xs e0 = 0 := by unfold txtE; rw [if_pos He.out, if_pos (by rw [Hm.out]; exact h2), if_pos (by rw [Hm.out, Hx.out]; omega)]
        refine (refText_good br c xs e0 most w hR hB Hm.out Hx.out He.out h2 h3 hm9).mono fun e w' h => ?_
        unfold TxtPost
        rw [fS, fX, fE]
        exact h
      · have nOk : ¬ txtOk most xs e0 := fun h => h3 (by have := h.2.2; rw [Hm.out, Hx.out] at this; omega)
        have fS : txtS most xs e0 = ByteArray.empty := if_neg nOk
        have fX : txtX most xs e0 = x1 := by unfold txtX; rw [if_neg nOk, Hx.out]
        have fE : txtE most xs e0 = 2 := by unfold txtE; rw [if_pos He.out, if_pos (by rw [Hm.out]; exact h2), if_neg (by rw [Hm.out, Hx.out]; omega)]
        have HF := Lib.hid (And.intro fS (And.intro fX fE))
        clear fS fX fE nOk
        go_enter Try.func17, Try.ntmps17
        go_wp2_with (first | (go_at_call 15; refine (refNumber_is hR hB Hm.out Hx.out He.out).mono ?_; rintro e w1 ⟨rfl, ⟨v1, hr1, hv1, hc1, hne1⟩, hgr1⟩; obtain ⟨ao, cap, rfl⟩ := hv1.shape; have q0 := two_cell0 hr1; have q1 := two_cell1 hr1; have qf := fun o => two_free (o := o) hr1))
        go_ret
        obtain ⟨fS, fX, fE⟩ := HF.out
        have hg := grown_set w1 ⟨br, 1, none⟩ (.int .i64 2)
        exact ⟨ret_str fS.symm, by rw [fX, fE]; exact ⟨_, two_set1 hr1, hv1.kept hg (fun k hk e => hne1 (by rw [← hc1 k hk]; simpa using e)), hc1, hne1⟩, grown_twice hgr1 hg⟩
    · have nOk : ¬ txtOk most xs e0 := fun h => h2 (by have := h.2.1; rw [Hm.out] at this; omega)
      have fS : txtS most xs e0 = ByteArray.empty := if_neg nOk
      have fX : txtX most xs e0 = x1 := by unfold txtX; rw [if_neg nOk, Hx.out]
      have fE : txtE most xs e0 = 3 := by unfold txtE; rw [if_pos He.out, if_neg (by rw [Hm.out]; exact h2)]
      have HF := Lib.hid (And.intro fS (And.intro fX fE))
      have hlt : most < (m : Int) := by omega
      clear fS fX fE nOk
      go_enter Try.func17, Try.ntmps17
      go_wp2_with (first | (go_at_call 15; refine (refNumber_is hR hB Hm.out Hx.out He.out).mono ?_; rintro e w1 ⟨rfl, ⟨v1, hr1, hv1, hc1, hne1⟩, hgr1⟩; obtain ⟨ao, cap, rfl⟩ := hv1.shape; have q0 := two_cell0 hr1; have q1 := two_cell1 hr1; have qf := fun o => two_free (o := o) hr1))
      go_ret
      obtain ⟨fS, fX, fE⟩ := HF.out
      have hg := grown_set w1 ⟨br, 1, none⟩ (.int .i64 3)
      exact ⟨ret_str fS.symm, by rw [fX, fE]; exact ⟨_, two_set1 hr1, hv1.kept hg (fun k hk e => hne1 (by rw [← hc1 k hk]; simpa using e)), hc1, hne1⟩, grown_twice hgr1 hg⟩
  · have nOk : ¬ txtOk most xs e0 := fun h => h1 (by rw [← He.out]; exact h.1)
    have fS : txtS most xs e0 = ByteArray.empty := if_neg nOk
    have fX : txtX most xs e0 = x1 := by unfold txtX; rw [if_neg nOk, Hx.out]
    have fE : txtE most xs e0 = e1 := by unfold txtE; rw [if_neg (by rw [He.out]; exact h1), He.out]
    have HF := Lib.hid (And.intro fS (And.intro fX fE))
    have hne0 : (e1 != 0) = true := by simpa using h1
    clear fS fX fE nOk
    go_enter Try.func17, Try.ntmps17
    go_wp2_with (first | (go_at_call 15; refine (refNumber_is hR hB Hm.out Hx.out He.out).mono ?_; rintro e w1 ⟨rfl, ⟨v1, hr1, hv1, hc1, hne1⟩, hgr1⟩; have q1 := two_cell1 hr1))
    go_ret
    obtain ⟨fS, fX, fE⟩ := HF.out
    exact ⟨ret_str fS.symm, by rw [fX, fE]; exact ⟨v1, hr1, hv1, hc1, hne1⟩, hgr1⟩

set_option maxRecDepth 100000 in
set_option maxHeartbeats 400000 in
theorem refFlag_any (br c : Nat) (xs : List Int) (e0 : Int) (w : World) (hR : RdIs 30 w br c xs e0) (hB : Byts xs) :
    Calls Try.prog 19 #[.pointer (some ⟨br, 0, none⟩)] w (FlagPost 30 w br c xs e0) := by
  obtain ⟨m, hm⟩ : ∃ m, numV 1 xs e0 = m := ⟨_, rfl⟩
  obtain ⟨x1, hx1⟩ : ∃ x, numX 1 xs e0 = x := ⟨_, rfl⟩
  obtain ⟨e1, he1⟩ : ∃ x, numE 1 xs e0 = x := ⟨_, rfl⟩
  have fB : flagB xs e0 = (m == 1) := by unfold flagB; rw [hm]; rfl
  have fE : flagE xs e0 = if 1 < m then 2 else e1 := by unfold flagE; rw [hm, he1]
  have HF := Lib.hid (And.intro fB fE)
  have hz : ¬ e1 = 0 → m = 0 := fun h => by rw [← hm]; exact numV_zero (by rw [he1]; exact h)
  have Hm := Lib.hid hm
  have Hx := Lib.hid hx1
  have He := Lib.hid he1
  clear hm hx1 he1 fB fE
  by_cases h0 : e1 = 0
  · subst h0
    by_cases h1 : 1 < m
    · have hm1 : (m == 1) = false := by simp; omega
      clear hz
      go_enter Try.func19, Try.ntmps19
      go_wp2_with (first | (go_at_call 15; refine (refNumber_is hR hB Hm.out Hx.out He.out).mono ?_; rintro e w1 ⟨rfl, ⟨v1, hr1, hv1, hc1, hne1⟩, hgr1⟩; have q1 := two_cell1 hr1; have qf := two_free (o := 1) hr1))
      go_ret
      obtain ⟨fB, fE⟩ := HF.out
      have hg := grown_set w1 ⟨br, 1, none⟩ (.int .i64 2)
      exact ⟨ret_bool (by rw [fB, hm1]), by rw [fE, if_pos h1, Hx.out]; exact ⟨v1, two_set1 hr1, hv1.kept hg (fun k hk e => hne1 (by rw [← hc1 k hk]; simpa using e)), hc1, hne1⟩, grown_twice hgr1 hg⟩
    · clear hz
      go_enter Try.func19, Try.ntmps19
      go_wp2_with (first | (go_at_call 15; refine (refNumber_is hR hB Hm.out Hx.out He.out).mono ?_; rintro e w1 ⟨rfl, ⟨v1, hr1, hv1, hc1, hne1⟩, hgr1⟩; have q1 := two_cell1 hr1; have qf := two_free (o := 1) hr1))
      go_ret
      obtain ⟨fB, fE⟩ := HF.out
      exact ⟨ret_bool (by rw [fB]), by rw [fE, if_neg (by omega), Hx.out]; exact ⟨v1, hr1, hv1, hc1, hne1⟩, hgr1⟩
  · obtain rfl : m = 0 := hz h0
    have hne0 : (e1 == 0) = false := by simpa using h0
    clear hz
    go_enter Try.func19, Try.ntmps19
    go_wp2_with (first | (go_at_call 15; refine (refNumber_is hR hB Hm.out Hx.out He.out).mono ?_; rintro e w1 ⟨rfl, ⟨v1, hr1, hv1, hc1, hne1⟩, hgr1⟩; have q1 := two_cell1 hr1; have qf := two_free (o := 1) hr1))
    go_ret
    obtain ⟨fB, fE⟩ := HF.out
    exact ⟨ret_bool (by rw [fB]; rfl), by rw [fE, if_neg (by omega), Hx.out]; exact ⟨v1, hr1, hv1, hc1, hne1⟩, hgr1⟩

set_option maxRecDepth 100000 in
set_option maxHeartbeats 400000 in
theorem refDone_any (br c : Nat) (xs : List Int) (e0 : Int) (w : World) (hR : RdIs 30 w br c xs e0) :
    Calls Try.prog 21 #[.pointer (some ⟨br, 0, none⟩)] w (DonePost 30 w br c xs e0) := by
  obtain ⟨v, hr, hv, hc, hne⟩ := hR
  obtain ⟨ao, cap, rfl⟩ := hv.shape
  have h0 := two_cell0 hr
  have h1 := two_cell1 hr
  have hf := two_free (o := 1) hr
  have hg := grown_set w ⟨br, 1, none⟩ (.int .i64 2)
  have hset := two_set1 (u := .int .i64 2) hr
  have HP := Lib.hid (And.intro hg hset)
  clear hg hset
  by_cases he : e0 = 0
  · subst he
    by_cases hl : 0 < xs.length
    · have fE : doneE xs 0 = 2 := if_pos ⟨rfl, hl⟩
      have HF := Lib.hid fE
      clear fE
      go_enter Try.func21, Try.ntmps21
      go_wp2
      go_ret
      obtain ⟨hg, hset⟩ := HP.out
      exact ⟨ret_int HF.out.symm, by rw [HF.out]; exact ⟨_, hset, hv.kept hg (fun k hk e => hne (by rw [← hc k hk]; simpa using e)), hc, hne⟩, hg⟩
    · have fE : doneE xs 0 = 0 := if_neg (fun h => hl h.2)
      have HF := Lib.hid fE
      clear fE
      go_enter Try.func21, Try.ntmps21
      go_wp2
      go_ret
      exact ⟨ret_int HF.out.symm, by rw [HF.out]; exact ⟨_, hr, hv, hc, hne⟩, World.grownBy.refl _ _⟩
  · have fE : doneE xs e0 = e0 := if_neg (fun h => he h.1)
    have HF := Lib.hid fE
    have hne0 : (e0 == 0) = false := by simpa using he
    clear fE
    go_enter Try.func21, Try.ntmps21
    go_wp2
    go_ret
    exact ⟨ret_int HF.out.symm, by rw [HF.out]; exact ⟨_, hr, hv, hc, hne⟩, World.grownBy.refl _ _⟩

end Go.Proofs.Ytdfcfjncflfppaa
