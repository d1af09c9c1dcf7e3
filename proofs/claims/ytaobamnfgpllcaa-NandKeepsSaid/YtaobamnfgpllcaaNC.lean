/-
  Package nand: Clone of whatever bytes; Read.
-/
import Derived.Test.YtaobamnfgpllcaaNB
namespace Go.Proofs.Ytaobamnfgpllcaa
open Go.RowKit
attribute [local go_sem] Try.eqNil22

/-- Bytes, at whatever address. -/
def BtsA (w : World) (v : Value) (xs : List Int) : Prop :=
  (v = .slice none 0 0 ∧ xs = []) ∨ ∃ a cap, v = .slice (some a) xs.length cap ∧ xs.length ≤ cap ∧ ∀ i, i < xs.length → w.cell? (a.add i) = some (.int .u8 (xs.getD i 0))
theorem Bts.wide {w : World} {v : Value} {xs : List Int} (h : Bts w v xs) : BtsA w v xs := by
  rcases h with h | ⟨b, off, cap, h1, h2, h3⟩
  · exact .inl h
  · exact .inr ⟨_, cap, h1, h2, fun i hi => by rw [addr_add]; exact h3 i hi⟩
theorem BtsA.form {w : World} {v : Value} {xs : List Int} (h : BtsA w v xs) : ∃ ao cap, v = .slice ao xs.length cap := by
  rcases h with ⟨rfl, rfl⟩ | ⟨a, cap, h1, _⟩
  · exact ⟨none, 0, rfl⟩
  · exact ⟨_, cap, h1⟩
theorem BtsA.ext {w w' : World} {v : Value} {xs : List Int} (h : BtsA w v xs) (hg : w.grownBy w' none) : BtsA w' v xs := by
  rcases h with h | ⟨a, cap, h1, h2, h3⟩
  · exact .inl h
  · exact .inr ⟨a, cap, h1, h2, fun i hi => hg.cell (h3 i hi) (by simp)⟩

theorem owns7_bts {w : World} {B : Nat} {v : Value} {xs : List Int} {n : Nat} (hn : n = xs.length) (h : w.ownsRow B 5 1 v n (xs.map (Value.int .u8))) : Bts w v xs := by
  subst hn
  rcases h.2 with ⟨h2, h3⟩ | ⟨g, cap, cur, rfl, hg, hh, hc, _⟩
  · exact .inl ⟨h2, List.length_eq_zero_iff.1 h3⟩
  · refine .inr ⟨g, 0, cap, rfl, hc, fun i hi => ?_⟩
    rw [Nat.zero_add, h.cellAt i (by omega), List.getElem?_map, List.getElem?_eq_getElem hi, List.getD_eq_getElem?_getD, List.getElem?_eq_getElem hi]
    rfl

/-- A copy of bytes in new memory. -/
def Copied (w : World) (xs : List Int) (e : Ending) (w' : World) : Prop := ∃ ao cap, e = .returned (.slice ao xs.length cap) ∧ Bts w' (.slice ao xs.length cap) xs ∧ w.grownBy w' none ∧ ∀ k, (Value.slice ao xs.length cap).ownBlock = some k → w.heap.size ≤ k ∧ k < w'.heap.size

theorem copied_of {w w' : World} {v : Value} {xs : List Int} (h : w'.ownsRow w.heap.size 5 1 v xs.length (xs.map (Value.int .u8))) (hg : w.grownBy w' none) : Copied w xs (.returned v) w' := by
  have hb := owns7_bts rfl h
  obtain ⟨ao, cap, rfl⟩ := hb.wide.form
  exact ⟨ao, cap, rfl, hb, hg, h.lt⟩

set_option maxHeartbeats 400000 in
theorem clone_wide (v : Value) (xs : List Int) (w : World) (hb : BtsA w v xs) (hm : xs.length ≤ 140737488351232) :
    Calls Try.prog 23 #[v] w (Copied w xs) := by
  rcases hb with ⟨rfl, rfl⟩ | ⟨a, cap, rfl, hl, hc⟩
  · exact (clone_nil w).mono fun e w' ⟨he, hw⟩ => ⟨none, 0, he, .inl ⟨rfl, rfl⟩, hw ▸ Ext.refl w, fun k hk => by simp [Value.ownBlock] at hk⟩
  · obtain ⟨i0, hi, hz0, hz1, hz2⟩ := info_parts Try.infoU8
    have hown := World.ownsRow_made (base := w.heap.size) (e := 5) (size := 1) w #[] 0 (Nat.le_refl _) (Nat.zero_le _) rfl
    have HC := Lib.hid hc
    clear hc
    go_enter Try.func23, Try.ntmps23
    go_wp2_with (at_builtin; go_loud (refine wpList_append_own _ rfl _ _ 36 rfl w.heap.size 5 i0 (.int .u8 0) 1 1 Try.underlying36 hi hz0 hz1 hz2 rfl (by decide) _ _ _ rfl hown a xs.length cap (xs.map (Value.int .u8)) rfl (by simp) ?c1 ?c2 ?c3 ?c4 ?c5 ?_))
    case c1 =>
      intro j u hj
      rw [List.getElem?_map] at hj
      by_cases h : j < xs.length
      · rw [List.getElem?_eq_getElem h] at hj
        have h2 := HC.out j h
        rw [World.cell?_alloc_old _ _ _ (Nat.ne_of_lt (World.block_lt_of_cell? w _ h2)), h2, ← hj]
        simp [List.getElem?_eq_getElem h, List.getD_eq_getElem?_getD]
      · rw [List.getElem?_eq_none (by omega)] at hj
        cases hj
    case c2 => exact ints_oneCell _ _
    case c3 => unfold maxLen; omega
    case c4 => omega
    case c5 => simp
    · intro v' w1 hown' hgrow _
      go_wp2
      go_ret
      exact copied_of (by simpa using hown') (grown_trans (World.grownBy_alloc w _ none) hgrow (fun k hk h => by simp [Value.ownBlock] at hk; omega))

section
variable {w : World} {S : NShape} {V : Nat → Value} {zs : Nat → List Int} {s : NS}

/-- What a reading answers. -/
def readE (S : NShape) (s : NS) (n m : Int) : Int :=
  if lackE S n m = 0 then (if s.off then 12 else if (s.L n.toNat m.toNat).st = 0 then 6 else if (s.L n.toNat m.toNat).st = 2 then 11 else 0) else lackE S n m
def ReadsNot (x : Int) (w : World) (e : Ending) (w' : World) : Prop := e = .returned (.tuple #[.slice none 0 0, .string ⟨#[]⟩, .int .i64 x]) ∧ w.grownBy w' none
def ReadsPg (bs : List Int) (dt : ByteArray) (w : World) (e : Ending) (w' : World) : Prop :=
  ∃ ao cap, e = .returned (.tuple #[.slice ao bs.length cap, .string dt, .int .i64 0]) ∧ Bts w' (.slice ao bs.length cap) bs ∧ w.grownBy w' none ∧ ∀ k, (Value.slice ao bs.length cap).ownBlock = some k → w.heap.size ≤ k ∧ k < w'.heap.size
def Reads (S : NShape) (s : NS) (n m : Int) (w : World) (e : Ending) (w' : World) : Prop :=
  (readE S s n m ≠ 0 ∧ ReadsNot (readE S s n m) w e w') ∨ (readE S s n m = 0 ∧ ReadsPg (s.L n.toNat m.toNat).bs (s.L n.toNat m.toNat).dt w e w')

theorem lackE_zero {n m : Int} (h : lackE S n m = 0) : ∃ i j : Nat, n = i ∧ m = j ∧ i < S.all ∧ j < S.pg := by
  unfold lackE hasB at h
  split at h
  · rename_i h1
    have h1 := of_decide_eq_true h1
    split at h
    · exact ⟨n.toNat, m.toNat, by omega, by omega, by omega, by omega⟩
    · omega
  · omega

/-- A page that was boxed still stands. -/
def LeafIn (w : World) (b : Nat) (v : Value) (dt : ByteArray) (x : World) : Prop := w.grownBy x none ∧ x.cell? ⟨b, 1, none⟩ = some v ∧ x.cell? ⟨b, 2, none⟩ = some (.string dt)

set_option maxHeartbeats 800000 in
theorem read7_any (h : NandAt w S V zs s) (hR : Roles S) (n m : Int) (hbs : ∀ i j, (s.L i j).bs.length ≤ 140737488351232) :
    Calls Try.prog 9 #[.pointer (some ⟨S.nb, 0, none⟩), .int .i64 n, .int .i64 m] w (Reads S s n m w) := by
  have LK := lacks_is h.fix n m
  by_cases h0 : lackE S n m = 0
  · obtain ⟨i, j, rfl, rfl, hi, hj⟩ := lackE_zero h0
    rw [h0] at LK
    have G := gone_is S.pb s.px s.off s.po w h.pow
    have cp := h.fix.cp
    have cl := h.fix.cl
    have cr := h.fix.rows i hi
    have hw := h.row i hi
    have p0 := hw.st j hj
    obtain ⟨v, p1, hv, _⟩ := hw.bs j hj
    have p2 := hw.dt j hj
    have hE : readE S s i j = if s.off then 12 else if (s.L i j).st = 0 then 6 else if (s.L i j).st = 2 then 11 else 0 := by unfold readE; rw [if_pos h0]; rfl
    have hbl := hbs i j
    unfold Reads
    simp only [Int.toNat_natCast]
    generalize readE S s i j = re at *
    clear h0 hw hbs hR h
    generalize s.L i j = x at *
    obtain ⟨st, bs, dt⟩ := x
    simp only at *
    generalize s.off = off at *
    generalize S.row i = r at *
    generalize S.pg = pg at *
    generalize S.all = al at *
    have CL := fun w5 (hg : w.grownBy w5 none) => clone_wide v bs w5 (hv.wide.ext hg) hbl
    obtain ⟨ao, cp0, hvf⟩ := hv.wide.form
    subst hvf
    clear hv hbl
    cases off
    · by_cases z0 : st = 0
      · have hE2 : re = 6 := by rw [hE, if_neg (by simp), if_pos z0]
        clear hE
        subst hE2 z0
        refine Calls.mono (R := ReadsNot 6 w) ?_ (fun e w' h => .inl ⟨by decide, h⟩)
        go_enter Try.func9, Try.ntmps9
        go_wp2_with (first
          | (go_at_call 19; refine LK.mono ?_; rintro e w' ⟨rfl, rfl⟩)
          | (go_at_call 25; refine G.mono ?_; rintro e w' ⟨rfl, rfl⟩))
        refine bodyPost_ret (v := .tuple #[.slice none 0 0, .string ⟨#[]⟩, .int .i64 6]) (by simp [results, Try.results9, go_sem]) rfl ⟨rfl, World.grownBy_alloc w _ none⟩
      · by_cases z2 : st = 2
        · have hE2 : re = 11 := by rw [hE, if_neg (by simp), if_neg z0, if_pos z2]
          clear hE
          subst hE2 z2
          refine Calls.mono (R := ReadsNot 11 w) ?_ (fun e w' h => .inl ⟨by decide, h⟩)
          clear z0
          go_enter Try.func9, Try.ntmps9
          go_wp2_with (first
            | (go_at_call 19; refine LK.mono ?_; rintro e w' ⟨rfl, rfl⟩)
            | (go_at_call 25; refine G.mono ?_; rintro e w' ⟨rfl, rfl⟩))
          refine bodyPost_ret (v := .tuple #[.slice none 0 0, .string ⟨#[]⟩, .int .i64 11]) (by simp [results, Try.results9, go_sem]) rfl ⟨rfl, World.grownBy_alloc w _ none⟩
        · have hE2 : re = 0 := by rw [hE, if_neg (by simp), if_neg z0, if_neg z2]
          clear hE
          subst hE2
          have z0' : (st == 0) = false := by simpa using z0
          have z2' : (st == 2) = false := by simpa using z2
          clear z0 z2
          refine Calls.mono (R := ReadsPg bs dt w) ?_ (fun e w' h => .inr ⟨rfl, h⟩)
          go_enter Try.func9, Try.ntmps9
          go_wp2_with (first
            | (go_at_call 19; refine LK.mono ?_; rintro e w' ⟨rfl, rfl⟩)
            | (go_at_call 25; refine G.mono ?_; rintro e w' ⟨rfl, rfl⟩))
          have hS : LeafIn w w.heap.size (.slice ao bs.length cp0) dt (w.alloc (.cells #[.int .i64 st, .slice ao bs.length cp0, .string dt] 60)).drew :=
            ⟨grown_drew (World.grownBy_alloc w _ none), by simp, by simp⟩
          refine region_line [(0, true), (1, true), (3, true), (4, true), (2, false), (5, true), (6, true), (7, true)] (LeafIn w w.heap.size (.slice ao bs.length cp0) dt) (by kernel_rfl) (by kernel_rfl) (fun _ _ _ d _ h => by cases d <;> exact h) hS ?_
          repeat (refine line_read (a' := ?_) rfl (by kernel_rfl) (by kernel_rfl) hS (fun x hx K hK => ?_) ?_; rotate_left; · obtain ⟨_, hx1, hx2⟩ := hx; go_wp2; exact hK)
          refine line_act (by rfl) (fun K hK => ?_)
          go_wp2_with (go_at_call 23; refine (CL _ hS.1).mono ?_; rintro e w4 ⟨a4, c4, rfl, hb4, hg4, ho4⟩)
          have hE4 : w.grownBy w4 none := Ext.next hS.1 _ hg4
          refine hK _ _ (Ext w4) (Ext.refl w4) (fun x hx => ⟨Ext.next hE4 _ hx, hx.cell (hg4.cell hS.2.1 (by simp)) (by simp), hx.cell (hg4.cell hS.2.2 (by simp)) (by simp)⟩) ?_
          clear hK K
          repeat (refine line_read (a' := ?_) rfl (by kernel_rfl) (by kernel_rfl) (Ext.refl w4) (fun x hx K hK => ?_) ?_; rotate_left; · go_wp2; exact hK)
          refine line_end ?_
          go_wp2
          refine bodyPost_ret (v := .tuple #[.slice a4 bs.length c4, .string dt, .int .i64 0]) (by simp [results, Try.results9, go_sem]) rfl ⟨a4, c4, rfl, hb4, hE4, fun k hk => ?_⟩
          have h1 := ho4 k hk
          have h2 := hS.1.size
          omega
    · have hE2 : re = 12 := by rw [hE, if_pos rfl]
      clear hE
      subst hE2
      refine Calls.mono (R := ReadsNot 12 w) ?_ (fun e w' h => .inl ⟨by decide, h⟩)
      go_enter Try.func9, Try.ntmps9
      go_wp2_with (first
        | (go_at_call 19; refine LK.mono ?_; rintro e w' ⟨rfl, rfl⟩)
        | (go_at_call 25; refine G.mono ?_; rintro e w' ⟨rfl, rfl⟩))
      refine bodyPost_ret (v := .tuple #[.slice none 0 0, .string ⟨#[]⟩, .int .i64 12]) (by simp [results, Try.results9, go_sem]) rfl ⟨rfl, Ext.refl w⟩
  · have hE : readE S s n m = lackE S n m := by unfold readE; rw [if_neg h0]
    unfold Reads
    rw [hE]
    have h0' : (lackE S n m != 0) = true := by simpa using h0
    refine Calls.mono (R := ReadsNot (lackE S n m) w) ?_ (fun e w' h => .inl ⟨h0, h⟩)
    clear hE h0 h hR hbs
    generalize lackE S n m = x at *
    go_enter Try.func9, Try.ntmps9
    go_wp2_with (go_at_call 19; refine LK.mono ?_; rintro e w' ⟨rfl, rfl⟩)
    refine bodyPost_ret (v := .tuple #[.slice none 0 0, .string ⟨#[]⟩, .int .i64 x]) (by simp [results, Try.results9, go_sem]) rfl ⟨rfl, Ext.refl w⟩
end

end Go.Proofs.Ytaobamnfgpllcaa
