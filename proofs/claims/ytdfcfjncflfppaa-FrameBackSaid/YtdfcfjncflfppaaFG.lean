/-
  The law FrameBack: the walk.
-/
import Derived.Test.YtdfcfjncflfppaaFF
namespace Go.Proofs.Ytdfcfjncflfppaa
open Go.RowKit

theorem Bts.setAt {w : World} {g n cap i : Nat} {xs : List Int} {z : Int} (h : Bts w (.slice (some ⟨g, 0, none⟩) n cap) xs) (hi : i < xs.length) : Bts (w.setCell ⟨g, i, none⟩ (.int .u8 z)) (.slice (some ⟨g, 0, none⟩) n cap) (xs.set i z) := by
  rcases h with ⟨h, _⟩ | ⟨b, off, c, h, h2, h3⟩
  · simp at h
  · simp only [Value.slice.injEq, Option.some.injEq, Addr.mk.injEq, and_true] at h
    obtain ⟨⟨rfl, rfl⟩, rfl, rfl⟩ := h
    refine .inr ⟨g, 0, cap, by simp, by simpa using h2, fun j hj => ?_⟩
    have hj' : j < xs.length := by simpa using hj
    rw [getD_set hi, Nat.zero_add]
    by_cases e : j = i
    · subst e
      rw [if_pos rfl]
      have := h3 j hi
      rw [Nat.zero_add] at this
      exact World.cell?_setCell_same _ _ _ this
    · rw [if_neg e, World.cell?_setCell_other _ _ _ _ (fun he => e (by simpa using (congrArg Addr.off he).symm))]
      have := h3 j hj'
      rwa [Nat.zero_add] at this

theorem frozen_kept {w w' : World} (h : Ext w w') {g j : Nat} (hg : g < w.heap.size) (hf : w.frozen? ⟨g, j, none⟩ = false) : w'.frozen? ⟨g, j, none⟩ = false :=
  (World.frozen?_of_block (h.block g hg (by simp))).trans hf

theorem bts_at {w : World} {g n cap i x : Nat} {xs : List Int} (h : Bts w (.slice (some ⟨g, 0, none⟩) n cap) xs) (hi : i < xs.length) (hx : xs.getD i 0 = (x : Int)) : w.cell? ⟨g, i, none⟩ = some (.int .u8 (x : Int)) := by
  rcases h with ⟨h, _⟩ | ⟨b, off, c, h, _, h3⟩
  · simp at h
  · simp only [Value.slice.injEq, Option.some.injEq, Addr.mk.injEq, and_true] at h
    obtain ⟨⟨rfl, rfl⟩, _, _⟩ := h
    have := h3 i hi
    rwa [Nat.zero_add, hx] at this

set_option maxRecDepth 100000 in
set_option maxHeartbeats 1600000 in
theorem frameBack_good (k at' d : Nat) (v u : Value) (body rest : List Int) (w : World) (hb : Bts w v body) (hB : Byts body) (hc : Bts w u rest) (hC : Byts rest) (hk : k ≤ 255) (hat : at' < 65536) (hd : d < 256)
    (h1 : body.length ≤ 500) (h2 : rest.length ≤ 500) :
    Calls Try.prog 8 #[.int .u8 (k : Int), v, u, .int .u16 (at' : Int), .int .u8 (d : Int)] w (TrueBelow w) := by
  obtain ⟨en, e0, ek, eb, em⟩ := open_back (k := (k : Int)) (body := body) (rest := rest) (by omega) (by omega) (by omega)
  have hfl := frL_len (k : Int) body
  have hfB := frL_byts (k := (k : Int)) hB
  have M := fun w' hb => make_any (k : Int) v body w' hb hB (by omega) (by omega)
  have mk : mkE (k : Int) body = 0 := by unfold mkE; rw [if_pos (by omega), if_pos (by omega)]
  have ml : mkL (k : Int) body = frL (k : Int) body := by unfold mkL; rw [if_pos mk]
  rw [mk, ml] at M
  generalize frL (k : Int) body = f at *
  obtain ⟨L, hL⟩ : ∃ L, f.length = L := ⟨_, rfl⟩
  have hxl : (f ++ rest).length = L + rest.length := by rw [List.length_append, hL]
  have hxB : Byts (f ++ rest) := byts_append hfB hC
  have hLb : L = body.length + 7 := by rw [← hL, hfl]
  have O1 := fun v w' hb => open_any v (f ++ rest) w' hb hxB (by rw [hxl]; omega)
  unfold OpenP at O1
  rw [ek, eb, em, e0, show ((body.length : Nat) : Int) + 7 = (L : Int) by omega] at O1
  obtain ⟨i, hi⟩ : ∃ i, at' % L = i := ⟨_, rfl⟩
  have hiL : i < L := by rw [← hi]; exact Nat.mod_lt _ (by omega)
  have hrem : (at' : Int).tmod (L : Int) = (i : Int) := by rw [Int.tmod_eq_emod_of_nonneg (by omega), ← hi]; exact (Int.natCast_emod _ _).symm
  obtain ⟨x, hx, hx8⟩ := getD_byte hxB (show i < (f ++ rest).length by omega)
  have hturn : d ≠ 0 → i ≠ 1 → i ≠ 2 → opE ((f ++ rest).set i ((x ^^^ d : Nat) : Int)) = 14 := fun a1 a2 a3 => open_turned hxB e0 (by rw [en]; omega) a2 a3 hx hd a1
  have hz8 : x ^^^ d < 256 := Nat.xor_lt_two_pow (n := 8) hx8 hd
  have hxB2 : Byts ((f ++ rest).set i ((x ^^^ d : Nat) : Int)) := fun y hy => by
    rcases List.mem_or_eq_of_mem_set hy with h | h
    · exact hxB y h
    · omega
  have hxor : bits .xor .u8 (x : Int) (d : Int) = ((x ^^^ d : Nat) : Int) := u8_xor_nat x d hx8 hd
  have O2 := fun v w' hb => open_any v ((f ++ rest).set i ((x ^^^ d : Nat) : Int)) w' hb hxB2 (by rw [List.length_set, hxl]; omega)
  have HX := Lib.hid hx
  have hst := fun (w' : World) (g c : Nat) (hbb : Bts w' (.slice (some ⟨g, 0, none⟩) (L + rest.length) c) (f ++ rest)) => hbb.setAt (i := i) (z := ((x ^^^ d : Nat) : Int)) (by omega)
  generalize x ^^^ d = z at *
  generalize hsb : strOfNums body = sb
  have HBt := Lib.hid hb
  have HCt := Lib.hid hc
  have HS := Lib.hid hsb
  have HL := Lib.hid hL
  have HXL := Lib.hid hxl
  have HST := Lib.hid hst
  have hL0 : 0 < L := by omega
  have hLr : L ≤ 507 := by omega
  have hl1 : ¬ (500 : Int) < body.length := by omega
  have hl2 : ¬ (500 : Int) < rest.length := by omega
  have hwk : IntKind.i64.wrap (k : Int) = (k : Int) := IntWalk.i64_in _ ⟨by omega, by omega⟩
  have hwa : IntKind.i64.wrap (at' : Int) = (at' : Int) := IntWalk.i64_in _ ⟨by omega, by omega⟩
  obtain ⟨ao, cap, b1, off1, rfl, _⟩ := hb.sform
  obtain ⟨co, cap2, b2, off2, rfl, _⟩ := hc.sform
  have hfresh := Lib.hid True.intro
  clear hb hc hB hC hfl hfB mk ml en e0 ek eb em hL hxl hxB hi hx hsb hst hxB2 hz8 hLb
  have part : d = 0 ∨ (d ≠ 0 ∧ i = 1) ∨ (d ≠ 0 ∧ i = 2) ∨ (d ≠ 0 ∧ i ≠ 1 ∧ i ≠ 2) := by omega
  have facts : (((d : Int) == 0) = true) ∨ (((d : Int) == 0) = false ∧ ((i : Int) == 1) = true) ∨ (((d : Int) == 0) = false ∧ ((i : Int) == 1) = false ∧ ((i : Int) == 2) = true) ∨ (((d : Int) == 0) = false ∧ ((i : Int) == 1) = false ∧ ((i : Int) == 2) = false ∧ opE ((f ++ rest).set i (z : Int)) = 14) := by
    rcases part with h | ⟨h, h'⟩ | ⟨h, h'⟩ | ⟨h, h', h''⟩
    · exact .inl (by simp [h])
    · exact .inr (.inl ⟨by simp; omega, by simp; omega⟩)
    · exact .inr (.inr (.inl ⟨by simp; omega, by simp; omega, by simp; omega⟩))
    · exact .inr (.inr (.inr ⟨by simp; omega, by simp; omega, by simp; omega, hturn h h' h''⟩))
  clear part hturn
  rcases facts with hz0 | ⟨hz0, hz1⟩ | ⟨hz0, hz1, hz2⟩ | ⟨hz0, hz1, hz2, ht⟩
  all_goals
    go_enter Try.func8, Try.ntmps8
    go_wp2_with (first
      | (go_at_call 29; refine (fixed3_any _).mono ?_; rintro e w1 ⟨rfl, hg1⟩)
      | (go_at_call 30; refine (M _ (HBt.out.kept hg1 (by simp))).mono ?_; rintro e w2 ⟨v2, rfl, hown2, hg2⟩; have hbf := Lib.hid (Owns.bts rfl hown2); have he2 := ext_trans hg1 hg2; rw [HL.out] at hown2; obtain ⟨ao2, cp2, rfl⟩ := owns_shape hown2)
      | (at_builtin; go_loud (refine wpList_append_bts rfl _ _ rfl w2.heap.size _ _ _ rfl (@owns_copy w2) _ f rfl (hbf.out.kept (World.grownBy_alloc w2 _ none) (by simp)) ?c1 ?c2 ?_)))
    case c1 => rw [HL.out]; omega
    case c2 => simp
    intro v3 w3 hown3 hg3
    have he3 : Ext w w3 := ext_trans he2 (grown_trans (World.grownBy_alloc w2 (.cells #[] 5) none) hg3 (fun k hk h => by simp [Value.ownBlock] at hk; omega))
    have hown3 : w3.ownsRow w2.heap.size 5 1 v3 L (f.map (Value.int .u8)) := by simpa [HL.out] using hown3
    have hlt3 := hown3.lt
    go_wp2_with (at_builtin; go_loud (refine wpList_append_bts rfl _ _ rfl w2.heap.size _ _ _ rfl hown3 _ rest rfl (HCt.out.kept he3 (by simp)) ?c3 ?c4 ?_))
    case c3 => omega
    case c4 => have := hg3.size; simp at this; omega
    intro v4 w4 hown4 hg4
    have he4 : Ext w w4 := grown_trans he3 hg4 (fun k hk h => by have := hlt3 k hk; have := he2.size; omega)
    rw [← List.map_append] at hown4
    obtain ⟨g, cp4, rfl⟩ := Joins.ownsRow_form hown4 (by omega)
    have hb4 := Owns.bts HXL.out.symm hown4
    have hgl := hown4.lt g rfl
    have hfr4 := hown4.frozenAt i
    have hgw : w.heap.size ≤ g := Nat.le_trans he2.size hgl.1
    go_wp2_with (go_at_call 32; clear hfresh; refine (O1 _ _ hb4).mono ?_; rintro e w5 ⟨v5, rfl, hown5, hg5⟩; have he5 := ext_trans he4 hg5; have hcv5 := convert_is (Owns.bts rfl hown5) HS.out; have hcv1 := convert_is (HBt.out.kept he5 (by simp)) HS.out; have hb5 := hb4.kept hg5 (by simp); have hfr5 := frozen_kept hg5 hgl.2 hfr4; have hc5 : w5.cell? ⟨g, i, none⟩ = some (.int .u8 (x : Int)) := bts_at hb5 (by rw [HXL.out]; omega) HX.out; have hb6 := Lib.hid (HST.out w5 g cp4 hb5); have he6 : Ext w (w5.setCell ⟨g, i, none⟩ (.int .u8 (z : Int))) := grown_trans he5 (grown_set w5 ⟨g, i, none⟩ _) (fun k hk h => absurd h (by have hk2 : g = k := (by simpa using hk); omega)); have HE6 := Lib.hid he6; clear he6 hb5)
    first
      | (go_ret; exact ⟨rfl, ext_below he5⟩)
      | skip
  unfold OpenP at O2
  rw [ht] at O2
  generalize opK ((f ++ rest).set i (z : Int)) = k2 at *
  generalize opM ((f ++ rest).set i (z : Int)) = m2 at *
  generalize opB ((f ++ rest).set i (z : Int)) = b2' at *
  clear ht
  go_wp2_with (go_at_call 32; refine (O2 _ _ hb6.out).mono ?_; rintro e w7 ⟨v7, rfl, hown7, hg7⟩)
  go_ret
  exact ⟨rfl, ext_below (ext_trans HE6.out hg7)⟩

set_option maxRecDepth 100000 in
theorem frameBack_any (k at' d : Nat) (v u : Value) (body rest : List Int) (w : World) (hb : Bts w v body) (hB : Byts body) (hc : Bts w u rest) (hC : Byts rest) (hk : k ≤ 255) (hat : at' < 65536) (hd : d < 256)
    (h1 : body.length ≤ 9223372036854775807) (h2 : rest.length ≤ 9223372036854775807) :
    Calls Try.prog 8 #[.int .u8 (k : Int), v, u, .int .u16 (at' : Int), .int .u8 (d : Int)] w (TrueBelow w) := by
  by_cases h : body.length ≤ 500 ∧ rest.length ≤ 500
  · exact frameBack_good k at' d v u body rest w hb hB hc hC hk hat hd h.1 h.2
  · obtain ⟨ao, cap, b1, off1, rfl, _⟩ := hb.sform
    obtain ⟨co, cap2, b2, off2, rfl, _⟩ := hc.sform
    have part : (500 : Int) < body.length ∨ (¬ (500 : Int) < body.length ∧ (500 : Int) < rest.length) := by omega
    clear hb hc hB hC h
    rcases part with h | ⟨h, h'⟩
    all_goals
      go_enter Try.func8, Try.ntmps8
      go_wp2_with (go_at_call 29; refine (fixed3_any _).mono ?_; rintro e w1 ⟨rfl, hg1⟩)
      go_ret
      exact ⟨rfl, ext_below hg1⟩

end Go.Proofs.Ytdfcfjncflfppaa
