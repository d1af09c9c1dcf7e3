/-
  Layer 14: TablePlays.
-/
import Derived.Test.YtdnjpoioojahkaaOH
import Derived.Deep.CutBlock
namespace Go.Proofs.Ytdnjpoioojahkaa
set_option linter.unusedVariables false
set_option linter.unusedSimpArgs false
set_option maxRecDepth 100000
open Go.RowKit

/-- What stands between the acts: the program's table, the document's. -/
structure Ply14 (w0 w : World) (t q B P : Nat) (rs : List R14) (v : Value) : Prop where
  tab : TabA w t B P rs
  ref : Tab14 w q B P rs v
  t0 : w0.heap.size ≤ t
  tq : t < q
  ext : w0.grownBy w none
section
variable {w0 w w' : World} {t q B P : Nat} {rs rs' : List R14} {v v' : Value}
theorem Ply14.next (h : Ply14 w0 w t q B P rs v) (hE : w.grownBy w' none) : Ply14 w0 w' t q B P rs v := ⟨h.tab.ext hE, h.ref.next hE, h.t0, h.tq, g14_trans h.ext hE⟩
/-- The program's table is another one; the document's not yet. -/
structure Ply14b (w0 w : World) (t q B B0 P : Nat) (rs rs0 : List R14) (v : Value) : Prop where
  tab : TabA w t B P rs
  ref : Tab14 w q B0 P rs0 v
  t0 : w0.heap.size ≤ t
  tq : t < q
  ext : w0.grownBy w none
theorem Ply14b.next {B0 : Nat} {rs0 : List R14} (h : Ply14b w0 w t q B B0 P rs rs0 v) (hE : w.grownBy w' none) : Ply14b w0 w' t q B B0 P rs rs0 v := ⟨h.tab.ext hE, h.ref.next hE, h.t0, h.tq, g14_trans h.ext hE⟩
theorem Ply14.turn {B' : Nat} (h : Ply14 w0 w t q B P rs v) (hA : TabA w' t B' P rs') (hg : w.grownBy w' (some t)) : Ply14b w0 w' t q B' B P rs' rs v := by
  have := h.tq
  exact ⟨hA, ⟨h.ref.blk.kept hg (fun e => by injection e with e; omega), h.ref.row.kept hg (fun k hk e => by injection e with e; have := (h.ref.row.lt k hk).1; omega)⟩, h.t0, h.tq, g14_past h.ext hg h.t0⟩
theorem Ply14b.done {B0 : Nat} {rs0 : List R14} (h : Ply14b w0 w t q B B0 P rs rs0 v) (hA : Tab14 w' q B P rs v') (hg : w.grownBy w' (some q)) : Ply14 w0 w' t q B P rs v' := by
  have := h.tq
  have := h.t0
  exact ⟨h.tab.kept hg (fun e => by injection e with e; omega), hA, h.t0, h.tq, g14_past h.ext hg (by omega)⟩
end

/-- The act's cells. -/
def ActS (g : Nat) (x1 x2 x3 : Int) (w : World) : Prop := w.cell? ⟨g, 1, none⟩ = some (.int .i64 x1) ∧ w.cell? ⟨g, 2, none⟩ = some (.int .i64 x2) ∧ w.cell? ⟨g, 3, none⟩ = some (.int .i64 x3)
theorem ActS.kept {g : Nat} {x1 x2 x3 : Int} {w w' : World} {r : Option Nat} (h : ActS g x1 x2 x3 w) (hg : w.grownBy w' r) (hne : some g ≠ r) : ActS g x1 x2 x3 w' := ⟨hg.cell h.1 hne, hg.cell h.2.1 hne, hg.cell h.2.2 hne⟩
theorem ActS.of {g : Nat} {x : Act14} {w : World} (h : Blk w g 55 (act14C x)) : ActS g x.pl x.bk x.pg w := ⟨h.cell 1, h.cell 2, h.cell 3⟩

/-- What is read behind an act. -/
def PlyR (g : Nat) (x1 x2 x3 : Int) (q : Nat) (v : Value) (w : World) : Prop := ActS g x1 x2 x3 w ∧ w.cell? ⟨q, 2, none⟩ = some v
theorem PlyR.kept {g q : Nat} {x1 x2 x3 : Int} {v : Value} {w w' : World} {r : Option Nat} (h : PlyR g x1 x2 x3 q v w) (hg : w.grownBy w' r) (hne : some g ≠ r) (hne2 : some q ≠ r) : PlyR g x1 x2 x3 q v w' := ⟨h.1.kept hg hne, hg.cell h.2 hne2⟩

set_option maxHeartbeats 3200000 in
theorem tablePlays_any (b p : Int) (a : Option Addr) (len cap : Nat) (X : Nat → Act14) (w : World) (h : Acts14 w a len X) :
    Calls Try.prog 5 #[.int .i64 b, .int .i64 p, .slice a len cap] w fun e w' => e = .returned (.bool true) ∧ w.grownBy w' none := by
  have HH := Lib.hid h
  have hmax := h.1
  clear h
  by_cases hbig : (150 : Int) < len
  · go_enter Try.func5, Try.ntmps5
    go_wp2_with (go_at_call 17; refine (fix14_any _).mono ?_; rintro e w2 ⟨rfl, hE2⟩)
    go_ret
    exact ⟨rfl, hE2⟩
  by_cases hok : newOk b p
  · obtain ⟨b, rfl⟩ := Int.eq_ofNat_of_zero_le (show 0 ≤ b by unfold newOk at hok; omega)
    obtain ⟨p, rfl⟩ := Int.eq_ofNat_of_zero_le (show 0 ≤ p by unfold newOk at hok; omega)
    have HB := Lib.hid hbig
    have NEW := fun wx => new14_ok b p wx hok
    unfold newOk at hok
    have b1 : decide ((b : Int) < 1) = false := by simp; omega
    have b2 : decide (64 < (b : Int)) = false := by simp; omega
    have b3 : decide ((p : Int) < 2) = false := by simp; omega
    have b4 : decide (16 < (p : Int)) = false := by simp; omega
    have HOK := Lib.hid hok
    clear hok
    go_enter Try.func5, Try.ntmps5
    go_wp2_with (first
      | (go_at_call 17; refine (fix14_any _).mono ?_; rintro e w2 ⟨rfl, hE2⟩; have HE2 := Lib.hid hE2; clear hE2)
      | (go_at_call 18; refine (NEW _).mono ?_; rintro e w3 ⟨t, rfl, hA3, ht0, hE3⟩; have HA3 := Lib.hid hA3; have HT0 := Lib.hid (show w.heap.size ≤ t by have := HE2.out.size; omega); have HE3 := Lib.hid (g14_trans HE2.out hE3); clear hA3 ht0 hE3))
    have hbq := Blk.new w3 53 #[.int .i64 b, .int .i64 p, .slice none 0 0]
    have S4 := Lib.hid (show Ply14 w (w3.alloc (.cells #[.int .i64 b, .int .i64 p, .slice none 0 0] 53)) t w3.heap.size b p [] (.slice none 0 0) from ⟨HA3.out.ext (World.grownBy_alloc w3 _ none), ⟨hbq, TailRow.nil _ _ _ _⟩, HT0.out, HA3.out.lt, g14_trans HE3.out (World.grownBy_alloc w3 _ none)⟩)
    clear NEW hbig hbq HA3 HT0 HE3 HE2 b1 b2 b3 b4
    obtain ⟨q, hq⟩ : ∃ q, w3.heap.size = q := ⟨_, rfl⟩
    rw [hq] at S4 ⊢
    obtain ⟨w4, hw4⟩ : ∃ v, w3.alloc (.cells #[.int .i64 b, .int .i64 p, .slice none 0 0] 53) = v := ⟨_, rfl⟩
    rw [hw4] at S4 ⊢
    clear hw4 hq
    go_loopw [90] (fun i wr => ∃ (k B : Nat) (rs : List R14) (v : Value), k ≤ len ∧ i = .int .i64 k ∧ rs.length ≤ k ∧ Ply14 w wr t q B p rs v) (fun i _ => len - (intOf i).toNat)
    case atStart => exact ⟨0, b, [], _, by omega, rfl, Nat.le_refl _, S4.out⟩
    case round =>
      clear S4 HOK
      obtain ⟨k, B, rs, v, hk, rfl, hrl, hS⟩ := hrel
      obtain ⟨wo, rfl⟩ : ∃ wo : World, wo = wr := ⟨_, rfl⟩
      have HRL := Lib.hid hrl
      clear hrl
      by_cases hlt : k < len
      · obtain ⟨⟨ab, ao, rfl, hr, _⟩, hk8, hdt⟩ := HH.out.2 k hlt
        obtain ⟨x, hx⟩ : ∃ x, X k = x := ⟨_, rfl⟩
        rw [hx] at hr hk8 hdt
        have hr1 : wo.rangeAt ab (ao + k * 4) (act14C x).toList := fun j u hj => hS.ext.cell (hr j u hj) (by simp)
        have hBa := Blk.new wo 55 #[.int .u8 0, .int .i64 0, .int .i64 0, .int .i64 0]
        have HS := Lib.hid hS
        have HL6 := Lib.hid (show rs.length ≤ 1000 by have := HRL.out; have := HB.out; omega)
        obtain ⟨x0, hx0⟩ : ∃ z, x.k = z := ⟨_, rfl⟩
        obtain ⟨x1, hx1⟩ : ∃ z, x.pl = z := ⟨_, rfl⟩
        obtain ⟨x2, hx2⟩ : ∃ z, x.bk = z := ⟨_, rfl⟩
        obtain ⟨x3, hx3⟩ : ∃ z, x.pg = z := ⟨_, rfl⟩
        rw [hx0] at hk8
        rw [hx2] at hdt
        obtain ⟨h0, h255⟩ := hk8
        have HD := Lib.hid hdt
        clear hr hS hx hdt
        go_upto_block 2 with (first
          | (refine act14_load rfl _ rfl rfl hr1 ?_)
          | (refine act14_store _ _ rfl rfl rfl hBa rfl rfl ?_; intro w5 hb5 hg5 hs5; have HS5 := Lib.hid (HS.out.next (grown_trans14 (World.grownBy_alloc wo _ none) hg5)); have c0 := (hb5.cell 0).trans (show (act14C x)[0]? = some (.int .u8 x.k) from rfl); rw [hx0] at c0; have hAS := ActS.of hb5; rw [hx1, hx2, hx3] at hAS; have HAS := Lib.hid hAS; clear hBa hg5 hs5 hb5 hAS))
        have hne6 : wo.heap.size ≠ t ∧ wo.heap.size ≠ q := ⟨by have := HS.out.tab.lt; omega, by have := HS.out.ref.blk.lt; omega⟩
        obtain ⟨g, hg⟩ : ∃ g, wo.heap.size = g := ⟨_, rfl⟩
        rw [hg] at HAS hne6 ⊢
        have HNE := Lib.hid hne6
        clear hg hne6
        have hdisp : x0 % 3 = 0 ∨ x0 % 3 = 1 ∨ x0 % 3 = 2 := by omega
        go_cut [7] (fun s wx => s = .pointer (some ⟨t, 0, none⟩) ∧ ∃ B2 rs2 v2, rs2.length ≤ k + 1 ∧ Ply14 w wx t q B2 p rs2 v2 ∧ ActS g x1 x2 x3 wx)
        case first =>
          rcases hdisp with hd | hd | hd
          · have bd : (x0 % 3 == 0) = true := by simp [hd]
            clear hd
            obtain ⟨z, hz⟩ : ∃ z, setE (B : Int) (p : Int) rs x1 x2 x3 = z := ⟨_, rfl⟩
            obtain ⟨rs2, hrs2⟩ : ∃ z, setR (B : Int) (p : Int) rs x1 x2 x3 = z := ⟨_, rfl⟩
            have hl2 : rs2.length ≤ k + 1 := by rw [← hrs2]; have := setR_len (B : Int) (p : Int) rs x1 x2 x3; have := HRL.out; omega
            have SET := fun wx (h : TabA wx t B p rs) => tabSet h x1 x2 x3 (by have := HL6.out; omega)
            have RSET := fun wx (h : Tab14 wx q B p rs v) => set14_any h x1 x2 x3 (by have := HL6.out; omega)
            simp only [hz, hrs2] at SET RSET
            have HL2 := Lib.hid hl2
            clear hz hrs2 hl2
            go_upto_region 15 with fail
            have hS0 : ActS g x1 x2 x3 w5.drew := HAS.out.kept (Ext.drew w5) (by simp)
            refine region_line [(0, true), (1, true), (2, true), (3, true), (4, true), (5, true), (6, true), (8, true), (9, true), (10, true), (11, true), (12, true), (13, true), (14, true), (7, false), (15, false), (16, true)] (ActS g x1 x2 x3) (by kernel_rfl) (by kernel_rfl) (fun _ _ _ d _ h => by cases d <;> exact h) hS0 ?_
            iterate 14 (refine line_read (a' := ?_) rfl (by kernel_rfl) (by kernel_rfl) hS0 (fun x0 hx K hK => ?_) ?_; rotate_left; · (obtain ⟨d1, d2, d3⟩ := hx; go_wp2; exact hK))
            refine line_act (by rfl) (fun K hK => ?_)
            go_wp2_with (go_at_call 20; refine (SET _ (HS5.out.next (Ext.drew w5)).tab).mono ?_; rintro e w6 ⟨rfl, hA6, hg6⟩; have HS6 := Lib.hid ((HS5.out.next (Ext.drew w5)).turn hA6 hg6); have hS6 := hS0.kept hg6 (fun e => by injection e with e; exact HNE.out.1 e); clear hA6 hg6)
            refine hK _ _ (ActS g x1 x2 x3) hS6 (fun x hx => hx) ?_
            clear hK K hS0
            refine line_act (by rfl) (fun K hK => ?_)
            go_wp2_with (go_at_call 25; refine (RSET _ HS6.out.ref).mono ?_; rintro e w7 ⟨rfl, ⟨v2, hT7⟩, hg7⟩; have HS7 := Lib.hid (HS6.out.done hT7 hg7); have hS7 := hS6.kept hg7 (fun e => by injection e with e; exact HNE.out.2 e); clear hT7 hg7)
            refine hK _ _ (ActS g x1 x2 x3) hS7 (fun x hx => hx) ?_
            clear hK K hS6
            refine line_read (a' := ?_) rfl (by kernel_rfl) (by kernel_rfl) hS7 (fun x0 hx K hK => ?_) ?_
            rotate_left
            · clear hx
              go_wp2
              exact hK
            refine line_end ?_
            go_wp2
            go_meet
            exact ⟨rfl, B, rs2, v2, HL2.out, HS7.out, hS7⟩
          · have bd : (x0 % 3 == 0) = false := by simp [hd]
            have bd1 : (x0 % 3 == 1) = true := by simp [hd]
            clear hd
            obtain ⟨z, hz⟩ : ∃ z, decide ((clearN rs x1).length < rs.length) = z := ⟨_, rfl⟩
            obtain ⟨rs2, hrs2⟩ : ∃ z, clearN rs x1 = z := ⟨_, rfl⟩
            have hl2 : rs2.length ≤ k + 1 := by rw [← hrs2]; have : (clearN rs x1).length ≤ rs.length := List.length_filter_le _ _; have := HRL.out; omega
            have SET := fun wx (h : TabA wx t B p rs) => tabClear h x1 (by have := HL6.out; omega)
            have RSET := fun wx (h : Tab14 wx q B p rs v) => clear14_any h x1 (by have := HL6.out; omega)
            simp only [hz] at SET RSET
            simp only [hrs2] at SET RSET
            have HL2 := Lib.hid hl2
            clear hz hrs2 hl2
            go_upto_region 18 with fail
            have hS0 : ActS g x1 x2 x3 w5.drew := HAS.out.kept (Ext.drew w5) (by simp)
            refine region_line [(0, true), (1, true), (2, true), (4, true), (5, true), (6, true), (3, false), (7, false), (8, true)] (ActS g x1 x2 x3) (by kernel_rfl) (by kernel_rfl) (fun _ _ _ d _ h => by cases d <;> exact h) hS0 ?_
            iterate 6 (refine line_read (a' := ?_) rfl (by kernel_rfl) (by kernel_rfl) hS0 (fun x0 hx K hK => ?_) ?_; rotate_left; · (obtain ⟨d1, d2, d3⟩ := hx; go_wp2; exact hK))
            refine line_act (by rfl) (fun K hK => ?_)
            go_wp2_with (go_at_call 21; refine (SET _ (HS5.out.next (Ext.drew w5)).tab).mono ?_; rintro e w6 ⟨rfl, hA6, hg6⟩; have HS6 := Lib.hid ((HS5.out.next (Ext.drew w5)).turn hA6 hg6); have hS6 := hS0.kept hg6 (fun e => by injection e with e; exact HNE.out.1 e); clear hA6 hg6)
            refine hK _ _ (ActS g x1 x2 x3) hS6 (fun x hx => hx) ?_
            clear hK K hS0
            refine line_act (by rfl) (fun K hK => ?_)
            go_wp2_with (go_at_call 26; refine (RSET _ HS6.out.ref).mono ?_; rintro e w7 ⟨rfl, ⟨v2, hT7, _⟩, hg7⟩; have HS7 := Lib.hid (HS6.out.done hT7 hg7); have hS7 := hS6.kept hg7 (fun e => by injection e with e; exact HNE.out.2 e); clear hT7 hg7)
            refine hK _ _ (ActS g x1 x2 x3) hS7 (fun x hx => hx) ?_
            clear hK K hS6
            refine line_read (a' := ?_) rfl (by kernel_rfl) (by kernel_rfl) hS7 (fun x0 hx K hK => ?_) ?_
            rotate_left
            · clear hx
              go_wp2
              exact hK
            refine line_end ?_
            go_wp2
            go_meet
            exact ⟨rfl, B, rs2, v2, HL2.out, HS7.out, hS7⟩
          · have bd : (x0 % 3 == 0) = false := by simp [hd]
            have bd1 : (x0 % 3 == 1) = false := by simp [hd]
            have bd2 : (x0 % 3 == 2) = true := by simp [hd]
            clear hd
            have hbl := HS5.out.tab.bl
            obtain ⟨B2, hB2⟩ : ∃ z, B + (min x2 (64 - (B : Int))).toNat = z := ⟨_, rfl⟩
            have GROW := fun wx (h : TabA wx t B p rs) => tabGrow h x2 HD.out
            simp only [hB2] at GROW
            have HL2 := Lib.hid (show rs.length ≤ k + 1 by have := HRL.out; omega)
            have HB2 := Lib.hid hB2
            clear hB2
            obtain ⟨d1, d2, d3⟩ := HAS.out
            go_upto_region 22 with (go_at_call 27; refine (GROW _ HS5.out.tab).mono ?_; rintro e w6 ⟨rfl, hA6, hg6⟩; have HS6 := Lib.hid ((HS5.out.turn hA6 hg6).next (Ext.drew w6)); have HS6' := Lib.hid ((HAS.out.kept hg6 (fun e => by injection e with e; exact HNE.out.1 e)).kept (Ext.drew w6) (by simp)); clear hA6 hg6)
            clear d1 d2 d3
            have hcell := (HS6.out.ref.blk.cell 0).trans (show (#[.int .i64 (B : Int), .int .i64 (p : Int), v] : Array Value)[0]? = some (.int .i64 (B : Int)) from rfl)
            have hfr := HS6.out.ref.blk.free 0
            have hS0 := HS6'.out
            have HCE := Lib.hid (And.intro hcell hfr)
            have H7 := Lib.hid (show Tab14 (w6.drew.setCell ⟨q, 0, none⟩ (.int .i64 (B2 : Int))) q B2 p rs v from ⟨by have := HS6.out.ref.blk.set 0 (.int .i64 (B2 : Int)); exact this, HS6.out.ref.row.kept (g14_set1 w6.drew q 0 _) (fun k hk e => by injection e with e; have := (HS6.out.ref.row.lt k hk).1; omega)⟩)
            have HS7 := Lib.hid (HS6.out.done H7.out (g14_set1 w6.drew q 0 _))
            have HS8 := Lib.hid (hS0.kept (g14_set1 w6.drew q 0 (.int .i64 (B2 : Int))) (fun e => by injection e with e; exact HNE.out.2 e))
            clear hcell hfr
            have hcase : (x2 < 0 ∧ (B2 : Int) = B) ∨ (0 ≤ x2 ∧ x2 ≤ 64 - (B : Int) ∧ (B2 : Int) = B + x2) ∨ (0 ≤ x2 ∧ 64 - (B : Int) < x2 ∧ (B2 : Int) = 64) := by have := HB2.out; omega
            refine region_tree (.read 0 (.read 1 (.read 2 (.read 4 (.read 5 (.read 6 (.read 7 (.read 8 (.read 9 (.two 3 10 (.one 10 (.read 11 (.read 12 (.read 13 (.read 14 (.read 15 (.one 16 .done))))))) (.read 11 (.read 12 (.one 3 (.read 13 (.read 14 (.read 15 (.one 16 .done))))))))))))))))) (ActS g x1 x2 x3) (by kernel_rfl) (by kernel_rfl) (fun _ _ _ d _ h => by cases d <;> exact h) hS0 ?_
            iterate 5 (refine tree_read (a' := ?_) rfl (by kernel_rfl) (by kernel_rfl) hS0 (fun x0 hx K hK => ?_) ?_; rotate_left; · (obtain ⟨d1, d2, d3⟩ := hx; go_wp2; exact hK))
            rcases hcase with ⟨k1, k2⟩ | ⟨k1, k2, k3⟩ | ⟨k1, k2, k3⟩
            · iterate 4 (refine tree_read (a' := ?_) rfl (by kernel_rfl) (by kernel_rfl) hS0 (fun x0 hx K hK => ?_) ?_; rotate_left; · (obtain ⟨d1, d2, d3⟩ := hx; go_wp2; all_goals first | exact hK | (exfalso; omega)))
              refine tree_two ?_ ?_
              · refine tree_one (by rfl) (fun K hK => ?_)
                have cc := HCE.out.1
                go_wp2
                refine hK _ _ (ActS g x1 x2 x3) hS0 (fun x hx => hx) ?_
                clear hK K cc
                refine tree_one (by rfl) (fun K hK => ?_)
                have cc := HCE.out.1
                go_wp2
                refine hK _ _ (ActS g x1 x2 x3) hS0 (fun x hx => hx) ?_
                clear hK K cc
                iterate 5 (refine tree_read (a' := ?_) rfl (by kernel_rfl) (by kernel_rfl) hS0 (fun x0 hx K hK => ?_) ?_; rotate_left; · (obtain ⟨d1, d2, d3⟩ := hx; go_wp2; all_goals first | exact hK | (exfalso; omega)))
                refine tree_one (by rfl) (fun K hK => ?_)
                have cc := HCE.out.1
                have ff := HCE.out.2
                have h7 := HS7.out
                have h8 := HS8.out
                rw [k2] at h7 h8
                go_wp2
                refine hK _ _ (ActS g x1 x2 x3) h8 (fun x hx => hx) ?_
                clear hK K cc ff
                refine tree_end ?_
                go_wp2
                go_meet
                exact ⟨rfl, B2, rs, v, HL2.out, h7, h8⟩
              · refine tree_one (by rfl) (fun K hK => ?_)
                have cc := HCE.out.1
                go_wp2
                refine hK _ _ (ActS g x1 x2 x3) hS0 (fun x hx => hx) ?_
                clear hK K cc
                iterate 2 (refine tree_read (a' := ?_) rfl (by kernel_rfl) (by kernel_rfl) hS0 (fun x0 hx K hK => ?_) ?_; rotate_left; · (obtain ⟨d1, d2, d3⟩ := hx; go_wp2; all_goals first | exact hK | (exfalso; omega)))
                refine tree_one (by rfl) (fun K hK => ?_)
                have cc := HCE.out.1
                go_wp2
                refine hK _ _ (ActS g x1 x2 x3) hS0 (fun x hx => hx) ?_
                clear hK K cc
                iterate 3 (refine tree_read (a' := ?_) rfl (by kernel_rfl) (by kernel_rfl) hS0 (fun x0 hx K hK => ?_) ?_; rotate_left; · (obtain ⟨d1, d2, d3⟩ := hx; go_wp2; all_goals first | exact hK | (exfalso; omega)))
                refine tree_one (by rfl) (fun K hK => ?_)
                have cc := HCE.out.1
                have ff := HCE.out.2
                have h7 := HS7.out
                have h8 := HS8.out
                rw [k2] at h7 h8
                go_wp2
                refine hK _ _ (ActS g x1 x2 x3) h8 (fun x hx => hx) ?_
                clear hK K cc ff
                refine tree_end ?_
                go_wp2
                go_meet
                exact ⟨rfl, B2, rs, v, HL2.out, h7, h8⟩
            · iterate 4 (refine tree_read (a' := ?_) rfl (by kernel_rfl) (by kernel_rfl) hS0 (fun x0 hx K hK => ?_) ?_; rotate_left; · (obtain ⟨d1, d2, d3⟩ := hx; go_wp2; all_goals first | exact hK | (exfalso; omega)))
              refine tree_two ?_ ?_
              · refine tree_one (by rfl) (fun K hK => ?_)
                have cc := HCE.out.1
                go_wp2
                refine hK _ _ (ActS g x1 x2 x3) hS0 (fun x hx => hx) ?_
                clear hK K cc
                refine tree_one (by rfl) (fun K hK => ?_)
                have cc := HCE.out.1
                go_wp2
                refine hK _ _ (ActS g x1 x2 x3) hS0 (fun x hx => hx) ?_
                clear hK K cc
                iterate 5 (refine tree_read (a' := ?_) rfl (by kernel_rfl) (by kernel_rfl) hS0 (fun x0 hx K hK => ?_) ?_; rotate_left; · (obtain ⟨d1, d2, d3⟩ := hx; go_wp2; all_goals first | exact hK | (exfalso; omega)))
                refine tree_one (by rfl) (fun K hK => ?_)
                have cc := HCE.out.1
                have ff := HCE.out.2
                have h7 := HS7.out
                have h8 := HS8.out
                rw [k3] at h7 h8
                go_wp2
                refine hK _ _ (ActS g x1 x2 x3) h8 (fun x hx => hx) ?_
                clear hK K cc ff
                refine tree_end ?_
                go_wp2
                go_meet
                exact ⟨rfl, B2, rs, v, HL2.out, h7, h8⟩
              · refine tree_one (by rfl) (fun K hK => ?_)
                have cc := HCE.out.1
                go_wp2
                refine hK _ _ (ActS g x1 x2 x3) hS0 (fun x hx => hx) ?_
                clear hK K cc
                iterate 2 (refine tree_read (a' := ?_) rfl (by kernel_rfl) (by kernel_rfl) hS0 (fun x0 hx K hK => ?_) ?_; rotate_left; · (obtain ⟨d1, d2, d3⟩ := hx; go_wp2; all_goals first | exact hK | (exfalso; omega)))
                refine tree_one (by rfl) (fun K hK => ?_)
                have cc := HCE.out.1
                go_wp2
                refine hK _ _ (ActS g x1 x2 x3) hS0 (fun x hx => hx) ?_
                clear hK K cc
                iterate 3 (refine tree_read (a' := ?_) rfl (by kernel_rfl) (by kernel_rfl) hS0 (fun x0 hx K hK => ?_) ?_; rotate_left; · (obtain ⟨d1, d2, d3⟩ := hx; go_wp2; all_goals first | exact hK | (exfalso; omega)))
                refine tree_one (by rfl) (fun K hK => ?_)
                have cc := HCE.out.1
                have ff := HCE.out.2
                have h7 := HS7.out
                have h8 := HS8.out
                rw [k3] at h7 h8
                go_wp2
                refine hK _ _ (ActS g x1 x2 x3) h8 (fun x hx => hx) ?_
                clear hK K cc ff
                refine tree_end ?_
                go_wp2
                go_meet
                exact ⟨rfl, B2, rs, v, HL2.out, h7, h8⟩
            · iterate 4 (refine tree_read (a' := ?_) rfl (by kernel_rfl) (by kernel_rfl) hS0 (fun x0 hx K hK => ?_) ?_; rotate_left; · (obtain ⟨d1, d2, d3⟩ := hx; go_wp2; all_goals first | exact hK | (exfalso; omega)))
              refine tree_two ?_ ?_
              · refine tree_one (by rfl) (fun K hK => ?_)
                have cc := HCE.out.1
                go_wp2
                refine hK _ _ (ActS g x1 x2 x3) hS0 (fun x hx => hx) ?_
                clear hK K cc
                refine tree_one (by rfl) (fun K hK => ?_)
                have cc := HCE.out.1
                go_wp2
                refine hK _ _ (ActS g x1 x2 x3) hS0 (fun x hx => hx) ?_
                clear hK K cc
                iterate 5 (refine tree_read (a' := ?_) rfl (by kernel_rfl) (by kernel_rfl) hS0 (fun x0 hx K hK => ?_) ?_; rotate_left; · (obtain ⟨d1, d2, d3⟩ := hx; go_wp2; all_goals first | exact hK | (exfalso; omega)))
                refine tree_one (by rfl) (fun K hK => ?_)
                have cc := HCE.out.1
                have ff := HCE.out.2
                have h7 := HS7.out
                have h8 := HS8.out
                rw [show (B2 : Int) = (B : Int) + (64 - (B : Int)) by omega] at h7 h8
                go_wp2
                refine hK _ _ (ActS g x1 x2 x3) h8 (fun x hx => hx) ?_
                clear hK K cc ff
                refine tree_end ?_
                go_wp2
                go_meet
                exact ⟨rfl, B2, rs, v, HL2.out, h7, h8⟩
              · refine tree_one (by rfl) (fun K hK => ?_)
                have cc := HCE.out.1
                go_wp2
                refine hK _ _ (ActS g x1 x2 x3) hS0 (fun x hx => hx) ?_
                clear hK K cc
                iterate 2 (refine tree_read (a' := ?_) rfl (by kernel_rfl) (by kernel_rfl) hS0 (fun x0 hx K hK => ?_) ?_; rotate_left; · (obtain ⟨d1, d2, d3⟩ := hx; go_wp2; all_goals first | exact hK | (exfalso; omega)))
                refine tree_one (by rfl) (fun K hK => ?_)
                have cc := HCE.out.1
                go_wp2
                refine hK _ _ (ActS g x1 x2 x3) hS0 (fun x hx => hx) ?_
                clear hK K cc
                iterate 3 (refine tree_read (a' := ?_) rfl (by kernel_rfl) (by kernel_rfl) hS0 (fun x0 hx K hK => ?_) ?_; rotate_left; · (obtain ⟨d1, d2, d3⟩ := hx; go_wp2; all_goals first | exact hK | (exfalso; omega)))
                refine tree_one (by rfl) (fun K hK => ?_)
                have cc := HCE.out.1
                have ff := HCE.out.2
                have h7 := HS7.out
                have h8 := HS8.out
                rw [show (B2 : Int) = (B : Int) + (64 - (B : Int)) by omega] at h7 h8
                go_wp2
                refine hK _ _ (ActS g x1 x2 x3) h8 (fun x hx => hx) ?_
                clear hK K cc ff
                refine tree_end ?_
                go_wp2
                go_meet
                exact ⟨rfl, B2, rs, v, HL2.out, h7, h8⟩
        case rest =>
          obtain ⟨rfl, B2, rs2, v2, hl2, hS2, hA2⟩ := hcut
          have HL2 := Lib.hid hl2
          have HS2 := Lib.hid hS2
          have HA2 := Lib.hid hA2
          have hl3 : rs2.length ≤ 1000000 := by have := HB.out; omega
          have hl4 : rs2.length ≤ 9223372036854775807 := by omega
          obtain ⟨so, sc, hv⟩ := hS2.ref.row.form14
          obtain ⟨n2, hn2⟩ : ∃ n, rs2.length = n := ⟨_, rfl⟩
          rw [hn2] at hv hl3
          obtain ⟨⟨y1, y2, y3⟩, hat⟩ : ∃ z, atN rs2 x1 = z := ⟨_, rfl⟩
          obtain ⟨u1, hu1⟩ : ∃ z, placeN rs2 x2 x3 = z := ⟨_, rfl⟩
          obtain ⟨u2, hu2⟩ : ∃ z, worthN rs2 x2 = z := ⟨_, rfl⟩
          have AT := fun wx (h : TabA wx t B2 p rs2) => tabAt h x1
          have RAT := fun wx (h : Tab14 wx q B2 p rs2 v2) => at14_any h x1 (by rw [hn2]; exact hl3)
          have PLC := fun wx (h : TabA wx t B2 p rs2) => tabPlace h x2 x3
          have RPLC := fun wx (h : Tab14 wx q B2 p rs2 v2) => place14_any h x2 x3 hl4
          have WOR := fun wx (h : TabA wx t B2 p rs2) => tabWorth h x2
          have RWOR := fun wx (h : Tab14 wx q B2 p rs2 v2) => worth14_any h x2 (by rw [hn2]; exact hl3)
          have CNT := fun wx (h : TabA wx t B2 p rs2) => tabCount h (by rw [hn2]; exact hl3)
          simp only [hat] at AT RAT
          simp only [hu1] at PLC RPLC
          simp only [hu2] at WOR RWOR
          simp only [hn2] at CNT
          have HN2 := Lib.hid hn2
          clear hS2 hA2 hl2 hat hu1 hu2 hl4 hn2
          subst hv
          obtain ⟨d1, d2, d3⟩ := HA2.out
          go_upto_region 25 with (first
            | (go_at_call 19; refine (AT _ HS2.out.tab).mono ?_; rintro e w8 ⟨rfl, hE8⟩; have HS8 := Lib.hid (HS2.out.next hE8); have HA8 := Lib.hid (HA2.out.kept hE8 (by simp)); have d1 := HA8.out.1; clear hE8)
            | (go_at_call 28; refine (RAT _ HS8.out.ref).mono ?_; rintro e w9 ⟨rfl, hE9⟩; have HS9 := Lib.hid ((HS8.out.next hE9).next (Ext.drew w9)); have HA9 := Lib.hid ((HA8.out.kept hE9 (by simp)).kept (Ext.drew w9) (by simp)); clear hE9))
          clear d1 d2 d3 AT RAT
          have hS0 : PlyR g x1 x2 x3 q (.slice so n2 sc) w9.drew := ⟨HA9.out, HS9.out.ref.blk.cell 2⟩
          refine region_line [(0, true), (1, true), (2, true), (3, true), (4, true), (5, true), (6, true), (7, true), (8, true), (9, true), (10, true), (11, true), (12, true), (13, true), (14, true), (15, true), (16, true), (17, true), (18, true), (20, true), (21, true), (22, true), (23, true), (24, true), (19, false), (25, false), (26, true), (27, true), (28, true), (29, true), (30, true), (31, true), (33, true), (34, true), (35, true), (32, false), (36, false), (37, true), (38, true), (39, true), (40, true), (42, true), (43, true), (44, true), (45, true), (46, true), (41, false), (47, true), (48, true)] (PlyR g x1 x2 x3 q (.slice so n2 sc)) (by kernel_rfl) (by kernel_rfl) (fun _ _ _ d _ h => by cases d <;> exact h) hS0 ?_
          iterate 24 (refine line_read (a' := ?_) rfl (by kernel_rfl) (by kernel_rfl) hS0 (fun x0 hx K hK => ?_) ?_; rotate_left; · (obtain ⟨⟨d1, d2, d3⟩, d4⟩ := hx; go_wp2; exact hK))
          refine line_act (by rfl) (fun K hK => ?_)
          go_wp2_with (go_at_call 22; refine (PLC _ HS9.out.tab).mono ?_; rintro e wz ⟨rfl, rfl⟩)
          refine hK _ _ (PlyR g x1 x2 x3 q (.slice so n2 sc)) hS0 (fun x hx => hx) ?_
          clear hK K
          refine line_act (by rfl) (fun K hK => ?_)
          go_wp2_with (go_at_call 29; refine (RPLC _ HS9.out.ref).mono ?_; rintro e wa ⟨rfl, hEa⟩; have HSa := Lib.hid (HS9.out.next hEa); have hSa := hS0.kept hEa (by simp) (by simp); clear hEa)
          refine hK _ _ (PlyR g x1 x2 x3 q (.slice so n2 sc)) hSa (fun x hx => hx) ?_
          clear hK K
          iterate 9 (refine line_read (a' := ?_) rfl (by kernel_rfl) (by kernel_rfl) hSa (fun x0 hx K hK => ?_) ?_; rotate_left; · (obtain ⟨⟨d1, d2, d3⟩, d4⟩ := hx; go_wp2; exact hK))
          refine line_act (by rfl) (fun K hK => ?_)
          go_wp2_with (go_at_call 23; refine (WOR _ HSa.out.tab).mono ?_; rintro e wz ⟨rfl, rfl⟩)
          refine hK _ _ (PlyR g x1 x2 x3 q (.slice so n2 sc)) hSa (fun x hx => hx) ?_
          clear hK K
          refine line_act (by rfl) (fun K hK => ?_)
          go_wp2_with (go_at_call 30; refine (RWOR _ HSa.out.ref).mono ?_; rintro e wb ⟨rfl, hEb⟩; have HSb := Lib.hid (HSa.out.next hEb); have hSb := hSa.kept hEb (by simp) (by simp); clear hEb)
          refine hK _ _ (PlyR g x1 x2 x3 q (.slice so n2 sc)) hSb (fun x hx => hx) ?_
          clear hK K
          iterate 9 (refine line_read (a' := ?_) rfl (by kernel_rfl) (by kernel_rfl) hSb (fun x0 hx K hK => ?_) ?_; rotate_left; · (obtain ⟨⟨d1, d2, d3⟩, d4⟩ := hx; go_wp2; exact hK))
          refine line_act (by rfl) (fun K hK => ?_)
          go_wp2_with (go_at_call 24; refine (CNT _ HSb.out.tab).mono ?_; rintro e wz ⟨rfl, rfl⟩)
          refine hK _ _ (PlyR g x1 x2 x3 q (.slice so n2 sc)) hSb (fun x hx => hx) ?_
          clear hK K
          iterate 2 (refine line_read (a' := ?_) rfl (by kernel_rfl) (by kernel_rfl) hSb (fun x0 hx K hK => ?_) ?_; rotate_left; · (obtain ⟨⟨d1, d2, d3⟩, d4⟩ := hx; go_wp2; exact hK))
          refine line_end ?_
          clear hS0 hSa hSb
          go_wp2
          go_roundw
          case rel => exact ⟨k + 1, B2, rs2, _, by omega, by go_num, HL2.out, HSb.out⟩
          case measure => simp [intOf]; omega
      · have hl4 : rs.length ≤ 1000000 := by have := HRL.out; have := HB.out; omega
        have HS := Lib.hid hS
        have AT := fun wx (h : TabA wx t B p rs) (j : Nat) => tabAt h j
        have RAT := fun wx (h : Tab14 wx q B p rs v) (j : Nat) => at14_any h j hl4
        clear hS
        go_wp2
        go_loopw [215] (fun i wr => ∃ j : Nat, j ≤ 64 ∧ i = .int .i64 j ∧ Ply14 w wr t q B p rs v) (fun i _ => 64 - (intOf i).toNat)
        case atStart => exact ⟨0, by omega, rfl, HS.out⟩
        case round =>
          clear HS
          obtain ⟨j, hj, rfl, hS⟩ := hrel
          have HS := Lib.hid hS
          clear hS
          by_cases hlt64 : j < 64
          · obtain ⟨⟨y1, y2, y3⟩, hat⟩ : ∃ z, atN rs (j : Int) = z := ⟨_, rfl⟩
            have AT1 := fun wx h => AT wx h j
            have RAT1 := fun wx h => RAT wx h j
            simp only [hat] at AT1 RAT1
            clear hat AT RAT
            go_wp2_with (first
              | (go_at_call 19; refine (AT1 _ HS.out.tab).mono ?_; rintro e w8 ⟨rfl, hE8⟩; have HS8 := Lib.hid (HS.out.next hE8); clear hE8)
              | (go_at_call 28; refine (RAT1 _ HS8.out.ref).mono ?_; rintro e w9 ⟨rfl, hE9⟩; have HS9 := Lib.hid (HS8.out.next hE9); clear hE9))
            go_roundw
            case rel => exact ⟨j + 1, by omega, by go_num, HS9.out⟩
            case measure => simp [intOf]; omega
          · go_wp2
            go_ret
            exact ⟨rfl, HS.out.ext⟩
  · have NEW := fun wx => new14_no b p wx hok
    unfold newOk at hok
    by_cases h1 : b < 1
    · have b1 : decide (b < 1) = true := by simpa using h1
      clear hok h1
      go_enter Try.func5, Try.ntmps5
      go_wp2_with (first
        | (go_at_call 17; refine (fix14_any _).mono ?_; rintro e w2 ⟨rfl, hE2⟩; have HE2 := Lib.hid hE2; clear hE2)
        | (go_at_call 18; refine (NEW _).mono ?_; rintro e wz ⟨rfl, rfl⟩)
        | (go_at_call 19; refine (at_none _ _).mono ?_; rintro e wz ⟨rfl, rfl⟩)
        | (go_at_call 20; refine (set_none _ _ _ _).mono ?_; rintro e wz ⟨rfl, rfl⟩)
        | (go_at_call 21; refine (clear_none _ _).mono ?_; rintro e wz ⟨rfl, rfl⟩)
        | (go_at_call 22; refine (place_none14 _ _ _).mono ?_; rintro e wz ⟨rfl, rfl⟩)
        | (go_at_call 23; refine (worth_none14 _ _).mono ?_; rintro e wz ⟨rfl, rfl⟩)
        | (go_at_call 24; refine (count_none14 _).mono ?_; rintro e wz ⟨rfl, rfl⟩))
      go_ret
      exact ⟨rfl, HE2.out⟩
    · have b1 : decide (b < 1) = false := by simpa using h1
      by_cases h2 : 64 < b
      · have b2 : decide (64 < b) = true := by simpa using h2
        clear hok h1 h2
        go_enter Try.func5, Try.ntmps5
        go_wp2_with (first
          | (go_at_call 17; refine (fix14_any _).mono ?_; rintro e w2 ⟨rfl, hE2⟩; have HE2 := Lib.hid hE2; clear hE2)
          | (go_at_call 18; refine (NEW _).mono ?_; rintro e wz ⟨rfl, rfl⟩)
          | (go_at_call 19; refine (at_none _ _).mono ?_; rintro e wz ⟨rfl, rfl⟩)
          | (go_at_call 20; refine (set_none _ _ _ _).mono ?_; rintro e wz ⟨rfl, rfl⟩)
          | (go_at_call 21; refine (clear_none _ _).mono ?_; rintro e wz ⟨rfl, rfl⟩)
          | (go_at_call 22; refine (place_none14 _ _ _).mono ?_; rintro e wz ⟨rfl, rfl⟩)
          | (go_at_call 23; refine (worth_none14 _ _).mono ?_; rintro e wz ⟨rfl, rfl⟩)
          | (go_at_call 24; refine (count_none14 _).mono ?_; rintro e wz ⟨rfl, rfl⟩))
        go_ret
        exact ⟨rfl, HE2.out⟩
      · have b2 : decide (64 < b) = false := by simpa using h2
        by_cases h3 : p < 2
        · have b3 : decide (p < 2) = true := by simpa using h3
          clear hok h1 h2 h3
          go_enter Try.func5, Try.ntmps5
          go_wp2_with (first
            | (go_at_call 17; refine (fix14_any _).mono ?_; rintro e w2 ⟨rfl, hE2⟩; have HE2 := Lib.hid hE2; clear hE2)
            | (go_at_call 18; refine (NEW _).mono ?_; rintro e wz ⟨rfl, rfl⟩)
            | (go_at_call 19; refine (at_none _ _).mono ?_; rintro e wz ⟨rfl, rfl⟩)
            | (go_at_call 20; refine (set_none _ _ _ _).mono ?_; rintro e wz ⟨rfl, rfl⟩)
            | (go_at_call 21; refine (clear_none _ _).mono ?_; rintro e wz ⟨rfl, rfl⟩)
            | (go_at_call 22; refine (place_none14 _ _ _).mono ?_; rintro e wz ⟨rfl, rfl⟩)
            | (go_at_call 23; refine (worth_none14 _ _).mono ?_; rintro e wz ⟨rfl, rfl⟩)
            | (go_at_call 24; refine (count_none14 _).mono ?_; rintro e wz ⟨rfl, rfl⟩))
          go_ret
          exact ⟨rfl, HE2.out⟩
        · have b3 : decide (p < 2) = false := by simpa using h3
          have b4 : decide (16 < p) = true := by simp; omega
          clear hok h1 h2 h3
          go_enter Try.func5, Try.ntmps5
          go_wp2_with (first
            | (go_at_call 17; refine (fix14_any _).mono ?_; rintro e w2 ⟨rfl, hE2⟩; have HE2 := Lib.hid hE2; clear hE2)
            | (go_at_call 18; refine (NEW _).mono ?_; rintro e wz ⟨rfl, rfl⟩)
            | (go_at_call 19; refine (at_none _ _).mono ?_; rintro e wz ⟨rfl, rfl⟩)
            | (go_at_call 20; refine (set_none _ _ _ _).mono ?_; rintro e wz ⟨rfl, rfl⟩)
            | (go_at_call 21; refine (clear_none _ _).mono ?_; rintro e wz ⟨rfl, rfl⟩)
            | (go_at_call 22; refine (place_none14 _ _ _).mono ?_; rintro e wz ⟨rfl, rfl⟩)
            | (go_at_call 23; refine (worth_none14 _ _).mono ?_; rintro e wz ⟨rfl, rfl⟩)
            | (go_at_call 24; refine (count_none14 _).mono ?_; rintro e wz ⟨rfl, rfl⟩))
          go_ret
          exact ⟨rfl, HE2.out⟩

end Go.Proofs.Ytdnjpoioojahkaa
