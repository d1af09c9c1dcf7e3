/-
  Layer 13: the program's buffer: check, Drop, Put, New, and of nil.
-/
import Derived.Test.YtdnjpoioojahkaaQH
namespace Go.Proofs.Ytdnjpoioojahkaa
set_option linter.unusedVariables false
set_option linter.unusedSimpArgs false
set_option maxRecDepth 100000
open Go.RowKit

theorem decl {a b : Int} (h : a < b) : decide (a < b) = true := decide_eq_true h
theorem decn {a b : Int} (h : ¬ a < b) : decide (a < b) = false := decide_eq_false h

set_option maxHeartbeats 800000 in
theorem chk_is (pl kd : Int) (dt : ByteArray) (w : World) (hd : dt.size ≤ 9223372036854775807) :
    Calls Try.prog 31 #[.agg (chgC ⟨pl, kd, dt⟩)] w fun e w' => e = .returned (.int .i64 (chkE pl kd dt)) ∧ w.grownBy w' none := by
  have hz := str_none (s := dt)
  obtain ⟨r, hr⟩ : ∃ r, chkE pl kd dt = r := ⟨_, rfl⟩
  rw [hr]
  unfold chkE at hr
  have HE := Lib.hid (World.grownBy_alloc w (.cells (chgC ⟨pl, kd, dt⟩) 28) none)
  have hb := Blk.new w 28 (chgC ⟨pl, kd, dt⟩)
  have c0 := (hb.cell 0).trans (show (chgC ⟨pl, kd, dt⟩)[0]? = some (.int .i64 pl) from rfl)
  have c1 := (hb.cell 1).trans (show (chgC ⟨pl, kd, dt⟩)[1]? = some (.int .i64 kd) from rfl)
  have c2 := (hb.cell 2).trans (show (chgC ⟨pl, kd, dt⟩)[2]? = some (.string dt) from rfl)
  clear hb
  obtain ⟨n, hn⟩ : ∃ n, dt.size = n := ⟨_, rfl⟩
  have HD := Lib.hid (show (dt.size : Int) = n by rw [hn])
  rw [hn] at hz hd hr
  have HR := Lib.hid hr
  clear hr
  by_cases kk : kd ≠ 1 ∧ kd ≠ 2
  · have b1 : (kd != 1) = true := by simp [kk.1]
    have b2 : (kd != 2) = true := by simp [kk.2]
    have HK := Lib.hid kk
    clear kk hz
    go_enter Try.func31, Try.ntmps31
    go_wp2
    go_ret
    exact ⟨ret_int13 (by rw [← HR.out, if_pos (.inl HK.out)]), HE.out⟩
  by_cases k1 : kd = 1
  · have b1 : (kd != 1) = false := by simp [k1]
    have b2 : (kd == 2) = false := by simp [k1]
    have HK := Lib.hid (And.intro k1 kk)
    clear k1 kk hz
    by_cases hp : pl < 0
    · have b3 : decide (pl < 0) = true := by simpa using hp
      have HP := Lib.hid hp
      clear hp
      go_enter Try.func31, Try.ntmps31
      go_wp2
      go_ret
      exact ⟨ret_int13 (by rw [← HR.out, if_pos (.inr (.inl HP.out))]), HE.out⟩
    · have b3 : decide (pl < 0) = false := by simpa using hp
      have HP := Lib.hid hp
      clear hp
      by_cases hq : 63 < pl
      · have b4 : decide (64 ≤ pl) = true := by simpa using (show (64 : Int) ≤ pl by omega)
        have HQ := Lib.hid hq
        clear hq
        go_enter Try.func31, Try.ntmps31
        go_wp2
        go_ret
        exact ⟨ret_int13 (by rw [← HR.out, if_pos (.inr (.inr (.inl HQ.out)))]), HE.out⟩
      · have b4 : decide (64 ≤ pl) = false := by simpa using (show ¬ (64 : Int) ≤ pl by omega)
        have HQ := Lib.hid hq
        clear hq
        have HN := Lib.hid (show ¬ ((kd ≠ 1 ∧ kd ≠ 2) ∨ pl < 0 ∨ 63 < pl ∨ (kd = 2 ∧ n ≠ 0)) from fun h => by
          have h1 := HK.out.1; have h2 := HK.out.2; have h3 := HP.out; have h4 := HQ.out
          rcases h with h | h | h | h
          · exact h2 h
          · exact h3 h
          · exact h4 h
          · omega)
        by_cases hl : 16 < n
        · have b5 : (16 : Int) < n := by omega
          have HL := Lib.hid hl
          clear hl
          go_enter Try.func31, Try.ntmps31
          go_wp2
          go_ret
          exact ⟨ret_int13 (by rw [← HR.out, if_neg HN.out, if_pos HL.out]), HE.out⟩
        · have b5 : ¬ (16 : Int) < n := by omega
          have HL := Lib.hid hl
          clear hl
          go_enter Try.func31, Try.ntmps31
          go_wp2
          go_ret
          exact ⟨ret_int13 (by rw [← HR.out, if_neg HN.out, if_neg HL.out]), HE.out⟩
  · have k2 : kd = 2 := by omega
    have b1 : (kd != 1) = true := by simp [k2]
    have b2 : (kd != 2) = false := by simp [k2]
    have b22 : (kd == 2) = true := by simp [k2]
    have HK := Lib.hid (And.intro k2 kk)
    clear k1 kk k2
    by_cases hp : pl < 0
    · have b3 : decide (pl < 0) = true := by simpa using hp
      have HP := Lib.hid hp
      clear hp hz
      go_enter Try.func31, Try.ntmps31
      go_wp2
      go_ret
      exact ⟨ret_int13 (by rw [← HR.out, if_pos (.inr (.inl HP.out))]), HE.out⟩
    · have b3 : decide (pl < 0) = false := by simpa using hp
      have HP := Lib.hid hp
      clear hp
      by_cases hq : 63 < pl
      · have b4 : decide (64 ≤ pl) = true := by simpa using (show (64 : Int) ≤ pl by omega)
        have HQ := Lib.hid hq
        clear hq hz
        go_enter Try.func31, Try.ntmps31
        go_wp2
        go_ret
        exact ⟨ret_int13 (by rw [← HR.out, if_pos (.inr (.inr (.inl HQ.out)))]), HE.out⟩
      · have b4 : decide (64 ≤ pl) = false := by simpa using (show ¬ (64 : Int) ≤ pl by omega)
        have HQ := Lib.hid hq
        clear hq
        by_cases hl : n = 0
        · rw [decide_eq_true hl] at hz
          have HN := Lib.hid (show ¬ ((kd ≠ 1 ∧ kd ≠ 2) ∨ pl < 0 ∨ 63 < pl ∨ (kd = 2 ∧ n ≠ 0)) from fun h => by
            have h1 := HK.out.1; have h2 := HK.out.2; have h3 := HP.out; have h4 := HQ.out
            rcases h with h | h | h | h
            · exact h2 h
            · exact h3 h
            · exact h4 h
            · omega)
          have b5 : ¬ (16 : Int) < n := by omega
          have HL := Lib.hid (show ¬ 16 < n by omega)
          clear hl
          go_enter Try.func31, Try.ntmps31
          go_wp2
          go_ret
          exact ⟨ret_int13 (by rw [← HR.out, if_neg HN.out, if_neg HL.out]), HE.out⟩
        · rw [decide_eq_false hl] at hz
          have HL := Lib.hid hl
          clear hl
          go_enter Try.func31, Try.ntmps31
          go_wp2
          go_ret
          exact ⟨ret_int13 (by rw [← HR.out, if_pos (.inr (.inr (.inr ⟨HK.out.1, HL.out⟩)))]), HE.out⟩

theorem new13_is (w : World) : Calls Try.prog 8 #[] w fun e w' => ∃ b, e = .returned (.pointer (some ⟨b, 0, none⟩)) ∧ BufA w' b [] ∧ w.heap.size ≤ b ∧ w.grownBy w' none := by
  go_enter Try.func8, Try.ntmps8
  go_wp2
  go_ret
  exact ⟨_, rfl, ⟨[noChg, noChg, noChg, noChg], 0, 0, ⟨rfl, by omega, by omega, Blk.new w _ _⟩, rfl⟩, Nat.le_refl _, World.grownBy_alloc w _ none⟩

section
variable {ops : Array Oper} {rest : List Oper} {o : Oper} {a : Act} {w : World} {Q : Exit → Act → World → Prop}
/-- A change is laid into the ring. -/
theorem ring_store (x y : Operand) (ho : o.op = .store 28 x y) {b k : Nat} {rs : List Chg} {f n : Nat} (hk : k < 4) (hx : a.eval x = .pointer (some ⟨b, k * 3, none⟩)) {c : Chg} (hy : a.eval y = .agg (chgC c)) (hs : BufS w b rs f n) (hwt : Region.wanted o (yielded ops a.tmps) = true)
    (h : ∀ w', BufS w' b (rs.set k c) f n → w.grownBy w' (some b) → wpList Try.prog ops Q rest (a.put o.dst undef) w') : wpList Try.prog ops Q (o :: rest) a w :=
  wpList_store_part hwt _ x y ho b (k * 3) 3 _ hx hy _ _ _ hs.blk rfl Try.sizeChg (by rw [bufC_size hs.four]; omega) (by simp [chgC, Value.oneCell']) (bufC_set hs.four _ _ hk c) fun w' h1 h2 _ => h w' ⟨by rw [List.length_set]; exact hs.four, hs.fl, hs.cl, h1⟩ h2
end

section
variable {w : World} {b : Nat} {rs : List Chg} {f c : Nat}
theorem BufS.setFirst (h : BufS w b rs f c) {g : Nat} (hg : g < 4) : BufS (w.setCell ⟨b, 12, none⟩ (.int .i64 g)) b rs g c :=
  ⟨h.four, hg, h.cl, by have := h.blk.set 12 (.int .i64 g); rw [bufC_setFirst h.four] at this; exact this⟩
theorem BufS.setCount (h : BufS w b rs f c) {g : Nat} (hg : g ≤ 4) : BufS (w.setCell ⟨b, 13, none⟩ (.int .i64 g)) b rs f g :=
  ⟨h.four, h.fl, hg, by have := h.blk.set 13 (.int .i64 g); rw [bufC_setCount h.four] at this; exact this⟩

theorem drop_none (h : BufS w b rs f 0) : Calls Try.prog 11 #[.pointer (some ⟨b, 0, none⟩)] w fun e w' => e = .returned (.bool false) ∧ w = w' := by
  have LEN := len_is h
  obtain ⟨z0, hz0⟩ : ∃ z : Int, z = ((0 : Nat) : Int) := ⟨_, rfl⟩
  rw [← hz0] at LEN
  have hz : (z0 == 0) = true := by rw [hz0]; rfl
  clear hz0 h
  go_enter Try.func11, Try.ntmps11
  go_wp2_with (first
    | (go_at_call 14; refine LEN.mono ?_; rintro e w2 ⟨rfl, rfl⟩))
  go_ret
  exact ⟨rfl, rfl⟩

set_option maxHeartbeats 800000 in
theorem drop_some (h : BufS w b rs f c) (hc : 0 < c) : Calls Try.prog 11 #[.pointer (some ⟨b, 0, none⟩)] w fun e w' => e = .returned (.bool true) ∧ BufS w' b (rs.set f noChg) ((f + 1) % 4) (c - 1) ∧ w.grownBy w' (some b) := by
  have LEN := len_is h
  obtain ⟨z0, hz0⟩ : ∃ z : Int, z = (c : Int) := ⟨_, rfl⟩
  rw [← hz0] at LEN
  have hz : (z0 == 0) = false := by rw [beq_eq_false_iff_ne]; omega
  have hfl := h.fl
  have hcl := Lib.hid h.cl
  have hc := Lib.hid hc
  have hS : BufS w.drew b rs f c := h.ext (Ext.drew w)
  obtain ⟨g, hg⟩ : ∃ g, (f + 1) % 4 = g := ⟨_, rfl⟩
  rw [hg]
  have hg4 : g < 4 := by omega
  have hg := Lib.hid hg
  clear hz0 h
  go_enter Try.func11, Try.ntmps11
  go_wp2_with (first
    | (go_at_call 14; refine LEN.mono ?_; rintro e w2 ⟨rfl, rfl⟩))
  clear LEN
  refine region_line [(0, true), (1, true), (2, true), (3, true), (4, true), (6, true), (7, true), (5, false), (8, true), (9, false)] (fun x => ∃ rs', BufS x b rs' f c) (by kernel_rfl) (by kernel_rfl) (fun _ _ _ d _ h => by cases d <;> exact h) ⟨_, hS⟩ ?_
  iterate 7 (refine line_read (a' := ?_) rfl (by kernel_rfl) (by kernel_rfl) ⟨_, hS⟩ (fun x hx K hK => ?_) ?_; rotate_left; · obtain ⟨rs', hx⟩ := hx; have c1 := hx.first; clear hx; go_wp2; exact hK)
  refine line_act (by rfl) (fun K hK => ?_)
  go_wp2
  refine hK _ _ _ (⟨_, hS⟩ : ∃ rs', BufS w.drew b rs' f c) (fun x hx => hx) ?_
  clear hK K
  refine line_read (a' := ?_) rfl (by kernel_rfl) (by kernel_rfl) ⟨_, hS⟩ (fun x hx K hK => ?_) ?_
  rotate_left
  · clear hx
    go_wp2
    exact hK
  refine line_act (by rfl) (fun K hK => ?_)
  go_wp2_with (first
    | (refine ring_store (c := noChg) _ _ rfl hfl rfl rfl hS rfl ?_; intro w6 hs6 hg6))
  refine hK _ _ _ (⟨_, hs6⟩ : ∃ rs', BufS w6 b rs' f c) (fun x hx => hx) ?_
  clear hK K
  refine line_end ?_
  have AT := at_is hs6 (i := 1) (by omega)
  rw [hg.out] at AT
  have c12 := hs6.first
  have c13 := hs6.count
  have f12 := hs6.blk.free 12
  have f13 := hs6.blk.free 13
  have HG := Lib.hid (grown_of_drew13 hg6)
  have HF := Lib.hid ((hs6.setFirst hg4).setCount (g := c - 1) (by have := hcl.out; omega))
  have hcc : wrap64 ((c : Int) - 1) = ((c - 1 : Nat) : Int) := by have := hc.out; have := hcl.out; unfold wrap64; omega
  clear hs6 hg6 hS
  go_wp2_with (first
    | (go_at_call 32; refine AT.mono ?_; rintro e w7 ⟨rfl, rfl⟩))
  go_ret
  refine ⟨rfl, ?_, ?_⟩
  · exact HF.out
  · exact gb_set (gb_set HG.out _ _) _ _
end

end Go.Proofs.Ytdnjpoioojahkaa
