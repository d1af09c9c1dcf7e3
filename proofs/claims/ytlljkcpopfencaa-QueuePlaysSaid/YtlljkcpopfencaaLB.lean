/-
  Layer 20 (queue): Check, New, Len, cut, Clear, All.
-/
import Derived.Test.YtlljkcpopfencaaLA
namespace Go.Proofs.Ytlljkcpopfencaa
set_option linter.unusedVariables false
set_option linter.unusedSimpArgs false
set_option maxRecDepth 100000
open Go.RowKit

def chkQ (o p : Int) (dt : ByteArray) : Int := if (o ≠ 1 ∧ o ≠ 2 ∧ o ≠ 3 ∧ o ≠ 4) ∨ (o ≠ 2 ∧ dt.size ≠ 0) ∨ (o = 4 ∧ p ≠ 0) then 1 else 0

set_option maxHeartbeats 800000 in
theorem check20_any (o p : Int) (dt : ByteArray) (w : World) : Calls Try.prog 9 #[.agg (chgC ⟨o, p, dt⟩)] w fun e w' => e = .returned (.int .i64 (chkQ o p dt)) ∧ w.grownBy w' none := by
  have hz := str_none (s := dt)
  obtain ⟨r, hr⟩ : ∃ r, chkQ o p dt = r := ⟨_, rfl⟩
  rw [hr]
  unfold chkQ at hr
  have HE := Lib.hid (World.grownBy_alloc w (.cells (chgC ⟨o, p, dt⟩) 29) none)
  have hb := Blk.new w 29 (chgC ⟨o, p, dt⟩)
  have c0 := (hb.cell 0).trans (show (chgC ⟨o, p, dt⟩)[0]? = some (.int .i64 o) from rfl)
  have c1 := (hb.cell 1).trans (show (chgC ⟨o, p, dt⟩)[1]? = some (.int .i64 p) from rfl)
  have c2 := (hb.cell 2).trans (show (chgC ⟨o, p, dt⟩)[2]? = some (.string dt) from rfl)
  clear hb
  obtain ⟨n, hn⟩ : ∃ n, dt.size = n := ⟨_, rfl⟩
  rw [hn] at hz hr
  have HR := Lib.hid hr
  clear hr hn
  by_cases h2 : o = 2
  · have b1 : (o != 1) = true := by simp [h2]
    have b2 : (o != 2) = false := by simp [h2]
    have b4 : (o == 4) = false := by simp [h2]
    have HK := Lib.hid h2
    clear h2 hz
    go_enter Try.func9, Try.ntmps9
    go_wp2
    go_ret
    exact ⟨ret_int13 (by have := HK.out; rw [← HR.out, if_neg (by omega)]), HE.out⟩
  have b2 : (o != 2) = true := by simpa using h2
  by_cases hk : o = 1 ∨ o = 3
  · have b4 : (o == 4) = false := by rcases hk with rfl | rfl <;> rfl
    have b13 : ((o != 1) = false) ∨ ((o != 1) = true ∧ (o != 3) = false) := by rcases hk with rfl | rfl; exact .inl rfl; exact .inr ⟨rfl, rfl⟩
    have HK := Lib.hid (And.intro h2 hk)
    clear h2 hk
    rcases b13 with b1 | ⟨b1, b3⟩
    · by_cases hl : n = 0
      · rw [decide_eq_true hl] at hz
        have HL := Lib.hid hl
        clear hl
        go_enter Try.func9, Try.ntmps9
        go_wp2
        go_ret
        exact ⟨ret_int13 (by have h1 := HK.out; have h2 := HL.out; rw [← HR.out, if_neg (by omega)]), HE.out⟩
      · rw [decide_eq_false hl] at hz
        have HL := Lib.hid hl
        clear hl
        go_enter Try.func9, Try.ntmps9
        go_wp2
        go_ret
        exact ⟨ret_int13 (by have h1 := HK.out; have h2 := HL.out; rw [← HR.out, if_pos (by omega)]), HE.out⟩
    · by_cases hl : n = 0
      · rw [decide_eq_true hl] at hz
        have HL := Lib.hid hl
        clear hl
        go_enter Try.func9, Try.ntmps9
        go_wp2
        go_ret
        exact ⟨ret_int13 (by have h1 := HK.out; have h2 := HL.out; rw [← HR.out, if_neg (by omega)]), HE.out⟩
      · rw [decide_eq_false hl] at hz
        have HL := Lib.hid hl
        clear hl
        go_enter Try.func9, Try.ntmps9
        go_wp2
        go_ret
        exact ⟨ret_int13 (by have h1 := HK.out; have h2 := HL.out; rw [← HR.out, if_pos (by omega)]), HE.out⟩
  have b1 : (o != 1) = true := by simpa using (by omega : ¬ o = 1)
  have b3 : (o != 3) = true := by simpa using (by omega : ¬ o = 3)
  by_cases h4 : o = 4
  · have b4 : (o != 4) = false := by simp [h4]
    have b4' : (o == 4) = true := by simp [h4]
    have HK := Lib.hid (And.intro h2 h4)
    clear h2 hk h4
    by_cases hl : n = 0
    · rw [decide_eq_true hl] at hz
      have HL := Lib.hid hl
      clear hl
      by_cases hp : p = 0
      · have bp : (p != 0) = false := by simp [hp]
        have HP := Lib.hid hp
        clear hp
        go_enter Try.func9, Try.ntmps9
        go_wp2
        go_ret
        exact ⟨ret_int13 (by have h1 := HK.out; have h2 := HL.out; have h3 := HP.out; rw [← HR.out, if_neg (by omega)]), HE.out⟩
      · have bp : (p != 0) = true := by simpa using hp
        have HP := Lib.hid hp
        clear hp
        go_enter Try.func9, Try.ntmps9
        go_wp2
        go_ret
        exact ⟨ret_int13 (by have h1 := HK.out; have h2 := HL.out; have h3 := HP.out; rw [← HR.out, if_pos (by omega)]), HE.out⟩
    · rw [decide_eq_false hl] at hz
      have HL := Lib.hid hl
      clear hl
      go_enter Try.func9, Try.ntmps9
      go_wp2
      go_ret
      exact ⟨ret_int13 (by have h1 := HK.out; have h2 := HL.out; rw [← HR.out, if_pos (by omega)]), HE.out⟩
  · have b4 : (o != 4) = true := by simpa using h4
    have HK := Lib.hid (show o ≠ 1 ∧ o ≠ 2 ∧ o ≠ 3 ∧ o ≠ 4 by omega)
    clear h2 hk h4 hz
    go_enter Try.func9, Try.ntmps9
    go_wp2
    go_ret
    exact ⟨ret_int13 (by have h1 := HK.out; rw [← HR.out, if_pos (by omega)]), HE.out⟩

theorem new20 (w : World) : Calls Try.prog 6 #[] w fun e w' => ∃ b, e = .returned (.pointer (some ⟨b, 0, none⟩)) ∧ QS w' b (.slice none 0 0) (.slice none 0 0) [] [] ∧ w.heap.size ≤ b ∧ w.grownBy w' none := by
  go_enter Try.func6, Try.ntmps6
  go_wp2
  go_ret
  exact ⟨_, rfl, ⟨Blk.new w _ _, TailRow.nil _ _ _ _, ⟨by simp [chgsL], .inl ⟨rfl, rfl⟩⟩, Ne2.nil _, by decide, fun _ => rfl⟩, Nat.le_refl _, World.grownBy_alloc w _ none⟩

section
variable {w w' : World} {b : Nat} {vw vd : Value} {ws ds : List Chg}
theorem len20 (h : QS w b vw vd ws ds) : Calls Try.prog 14 #[.pointer (some ⟨b, 0, none⟩)] w fun e w' => e = .returned (.int .i64 ws.length) ∧ w = w' := by
  have c0 := h.c0
  obtain ⟨ao, cap, hv⟩ := h.wa.form20
  rw [hv] at c0
  clear h hv
  go_enter Try.func14, Try.ntmps14
  go_wp2
  go_ret
  exact ⟨rfl, rfl⟩

theorem Try.infoCmd : (Try.prog.info? 29).map (fun i => (i.zero, i.size, i.bytes)) = some (some (.agg #[.int .i64 0, .int .i64 0, .string ⟨#[]⟩]), 3, 32) := by kernel_rfl
theorem zeroCmd (w : World) : (zeroValue 29).run Try.prog w = .ok (.agg #[.int .i64 0, .int .i64 0, .string ⟨#[]⟩]) w := by kernel_rfl

/-- What a cut leaves. -/
def CutP (w : World) (b : Nat) (vw vd : Value) (ws ds : List Chg) (e : Ending) (w' : World) : Prop :=
  e = .returned (.tuple #[]) ∧ ∃ vw', QS w' b vw' vd ws ds ∧ KpF (fpQ b vw vd) w w' ∧ ∀ k, vw'.ownBlock = some k → vw.ownBlock = some k
theorem cut_fin {w1 : World} {g off cap k m : Nat} (hs : QS w b (.slice (some ⟨g, off, none⟩) ws.length cap) vd ws ds) (hg : w.grownBy w1 (some g)) (hb1 : Blk w1 b 45 #[.slice (some ⟨g, off, none⟩) ws.length cap, vd]) {v' : Value} (hT : TailRow w1 (b + 1) 29 3 v' m (chgsL (ws.drop k))) (hm : m = (ws.drop k).length) (ho : ∀ x, v'.ownBlock = some x → x = g) :
    CutP w b (.slice (some ⟨g, off, none⟩) ws.length cap) vd (ws.drop k) ds (.returned (.tuple #[])) (w1.setCell ⟨b, 0, none⟩ v') := by
  subst hm
  have hG : w1.grownBy (w1.setCell ⟨b, 0, none⟩ v') (some b) := gb_set (gb_refl w1 _) _ _
  have hgv : (Value.slice (some ⟨g, off, none⟩) ws.length cap).ownBlock = some g := rfl
  have h1 := hs.wa.lt g hgv
  refine ⟨rfl, v', ⟨hb1.set 0 v', hT.kept hG (fun x hx e => by have := ho x hx; injection e with e; omega), (hs.dn.kept hg (.inr fun e => hs.ne g hgv e)).kept hG (.inr fun e => by have := (hs.dn.lt _ e).1; omega), fun x hx hy => ?_, by have := hs.wl; rw [List.length_drop]; omega, hs.d0⟩,
    (KpF.of_grown hg (fun x hx => by injection hx with hx; subst hx; exact .inr (.inl hgv))).trans (KpF.of_grown hG (fun x hx => by injection hx with hx; exact .inl hx.symm)), fun x hx => by rw [ho x hx]; exact hgv⟩
  rw [ho x hx] at hy
  exact hs.ne g hgv hy
theorem cut20 (h : QS w b vw vd ws ds) (k : Nat) (hk : k ≤ ws.length) : Calls Try.prog 15 #[.pointer (some ⟨b, 0, none⟩), .int .i64 k] w (CutP w b vw vd (ws.drop k) ds) := by
  have c0 := h.c0
  have f0 := h.blk.free 0
  obtain ⟨n, hn⟩ : ∃ n, ws.length = n := ⟨_, rfl⟩
  rcases h.wa.shape with ⟨rfl, h0⟩ | ⟨g, off, cap, rfl, hle, hmx, hgl, hgb, _⟩
  · obtain rfl : k = 0 := by omega
    have hw0 : ws = [] := List.eq_nil_of_length_eq_zero h0
    have hcl : ∀ ty, (Builtin.clear_ #[26] ty #[.slice none 0 0]).run Try.prog w = .ok (.tuple #[]) w := fun ty => by
      simp [Builtin.clear_, run_underlying Try.underlying26]
    have hbk := h.blk.set 0 (.slice none 0 0)
    have HH := Lib.hid (And.intro h hbk)
    clear h hk hn h0 hbk
    go_enter Try.func15, Try.ntmps15
    go_wp2_with (simp only [hcl])
    go_end0
    have hg : w.grownBy (w.setCell ⟨b, 0, none⟩ (.slice none 0 0)) (some b) := gb_set (gb_refl w _) _ _
    refine ⟨rfl, _, ⟨HH.out.2, ?_, ?_, HH.out.1.ne, by rw [hw0]; decide, HH.out.1.d0⟩, KpF.of_grown hg (fun k hk => by injection hk with hk; exact .inl hk.symm), fun _ h => h⟩
    · rw [hw0]; exact TailRow.nil _ _ _ _
    · exact HH.out.1.dn.kept hg (.inr fun e => by have := (HH.out.1.dn.lt _ e).1; omega)
  · have hle' : ws.length ≤ cap := hle
    have HW := h.wa
    have hsl := Lib.hid (And.intro h (And.intro hle' hmx))
    obtain ⟨g', off', cap', cur, hv, h2, h3, h4, h5, h6, h7⟩ : ∃ g' off' cap' cur, Value.slice (some ⟨g, off, none⟩) ws.length cap = .slice (some ⟨g', off', none⟩) ws.length cap' ∧ b + 1 ≤ g' ∧ w.heap[g']? = some (.cells cur 29 (0, 0)) ∧ ws.length ≤ cap' ∧ cap' ≤ maxLen ∧ off' + cap' * 3 ≤ cur.size ∧ (cur.toList.drop off').take (ws.length * 3) = chgsL ws := by
      rcases HW.2 with ⟨h0, _⟩ | h0
      · cases h0
      · exact h0
    simp only [Value.slice.injEq, Option.some.injEq, Addr.mk.injEq, true_and, and_true] at hv
    obtain ⟨⟨rfl, rfl⟩, rfl⟩ := hv
    by_cases hk0 : k = 0
    · subst hk0
      have hcl : ∀ ty, (Builtin.clear_ #[26] ty #[.slice (some ⟨g, off, none⟩) 0 cap]).run Try.prog w = .ok (.tuple #[]) w := fun ty => by
        simp [Builtin.clear_, run_underlying Try.underlying26]
      clear h hk HW h2 h3 h5 h6 h7 hgl hgb
      have HB := Lib.hid (hsl.out.1.blk.set 0 (.slice (some ⟨g, off, none⟩) ws.length cap))
      rw [hn] at c0 hle
      have HN := Lib.hid hn
      clear hn hle' h4
      go_enter Try.func15, Try.ntmps15
      go_wp2_with (simp only [hcl])
      go_end0
      have hn := HN.out
      subst hn
      have hg : w.grownBy (w.setCell ⟨b, 0, none⟩ (.slice (some ⟨g, off, none⟩) ws.length cap)) (some b) := gb_set (gb_refl w _) _ _
      have hs := hsl.out.1
      refine ⟨rfl, _, ⟨HB.out, hs.wa.kept hg (fun k hk e => by have := (hs.wa.lt k hk).1; injection e with e; omega), hs.dn.kept hg (.inr fun e => by have := (hs.dn.lt _ e).1; omega), hs.ne, hs.wl, hs.d0⟩, KpF.of_grown hg (fun k hk => by injection hk with hk; exact .inl hk.symm), fun _ h => h⟩
    · have hkn : k ≤ n := by omega
      obtain ⟨w1, cur', hcl, r1, r2, r3, r4, r5⟩ := clear_rows w 26 29 _ Try.underlying26 zeroCmd (by simp [Value.cells, Value.oneCell']) (size := 3) rfl (by decide) g off k cap cur h3 (by omega) (by omega)
      have hb1 : Blk w1 b 45 #[.slice (some ⟨g, off, none⟩) ws.length cap, vd] := h.blk.kept r4 (fun e => by injection e with e; omega)
      have hT := hsl.out.1.wa.headSet hk h3 r1 r2 r3
      have c0 := (hb1.cell 0).trans (show _ = some (Value.slice (some ⟨g, off, none⟩) ws.length cap) from rfl)
      have f0 := hb1.free 0
      have HX := Lib.hid (And.intro r4 (And.intro hT hb1))
      clear h HW h2 h3 h5 h6 h7 hgl hgb r1 r2 r3 r4 r5 hT hb1 hle' h4
      rw [hn] at c0 hle
      have HN := Lib.hid hn
      have c0w := hsl.out.1.c0
      rw [hn] at c0w
      clear hn hk
      go_enter Try.func15, Try.ntmps15
      by_cases hcap : cap = k
      · subst hcap
        have hck : n = cap := by omega
        subst hck
        go_wp2_with (simp only [hcl])
        go_end0
        obtain ⟨x1, x2, x3⟩ := HX.out
        rw [if_pos trivial, HN.out, Nat.sub_self, ← tri_drop] at x2
        exact cut_fin hsl.out.1 x1 x3 x2 (by rw [List.length_drop, HN.out]; omega) (fun x hx => by simpa [Value.ownBlock] using hx.symm)
      · go_wp2_with (simp only [hcl])
        go_end0
        obtain ⟨x1, x2, x3⟩ := HX.out
        rw [if_neg hcap, HN.out, ← tri_drop] at x2
        exact cut_fin hsl.out.1 x1 x3 x2 (by rw [List.length_drop, HN.out]) (fun x hx => by simpa [Value.ownBlock] using hx.symm)

theorem clear20 (h : QS w b vw vd ws ds) : Calls Try.prog 12 #[.pointer (some ⟨b, 0, none⟩)] w (CutP w b vw vd [] ds) := by
  have LEN := len20 h
  have CUT := cut20 h ws.length (Nat.le_refl _)
  rw [List.drop_length] at CUT
  clear h
  go_enter Try.func12, Try.ntmps12
  go_wp2_with (first
    | (go_at_call 14; refine LEN.mono ?_; rintro e w2 ⟨rfl, rfl⟩)
    | (go_at_call 15; refine CUT.mono ?_; rintro e w2 ⟨rfl, hC⟩))
  go_end0
  exact ⟨rfl, hC⟩

end

end Go.Proofs.Ytlljkcpopfencaa
