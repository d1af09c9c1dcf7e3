/-
  Texts put together: VF KD KE KF KM.
-/
import Derived.Test.YteionppcjgggiaaM13
import Derived.Test.YteionppcjgggiaaM14
import Derived.Test.YteionppcjgggiaaM12
/-
  The document's bytes of a ledger.
-/
namespace Go.Proofs.Yteionppcjgggiaa
set_option linter.unusedVariables false
set_option linter.unusedSimpArgs false
set_option maxRecDepth 100000
open Go.RowKit

/-- The document's word for it, as the program's. -/
theorem right10_is (L : Led) (V : Nat → Value) (n p : Int) (w : World) (hL : LedIs w L V) (hG : GoodL L) (hn : -9223372036854775000 ≤ n) (hn1 : n ≤ 9223372036854775807) {b : Bool} (hb : rightL L n p = b) :
    Calls Try.prog 9 #[.agg (ledC L V), .int .i64 n, .int .i64 p] w fun e w' => e = .returned (.bool b) ∧ Ext w w' := by
  subst hb
  refine (right10_any L V n p w hL hG).mono ?_
  rintro e w' ⟨b, rfl, hb, hE⟩
  refine ⟨?_, hE⟩
  have h2 := rightL_iff (L := L) (n := n) (p := p) hn hn1
  cases b
  · cases hd : rightL L n p
    · rfl
    · exact absurd (hb.2 (h2.1 hd)) (by simp)
  · rw [h2.2 (hb.1 rfl)]

/-- What the document puts of one tenant that is there, ahead of its blocks. -/
def entH (x : Ten) : List Int := [1] ++ (leB x.ep 4 ++ [x.sz, x.sp, (x.bs.length : Int)])
theorem entL_there {x : Ten} (h : x.th = true) : entL x = entH x ++ x.bs := by simp [entL, entH, h]

end Go.Proofs.Yteionppcjgggiaa

/-
  Layer 12: what Load and Save answer (their contracts); the law AdlogKeeps over them.
-/
namespace Go.Proofs.Yteionppcjgggiaa
set_option linter.unusedVariables false
set_option linter.unusedSimpArgs false
set_option maxRecDepth 100000
open Go.RowKit

/-- What loading answers, while the power is there. -/
def LoadC : Prop := ∀ (S : NShape) (V : Nat → Value) (zs : Nat → List Int) (s : NS) (w : World), NandAt w S V zs s → Roles S → s.off = false → Small s →
  Calls Try.prog 10 #[.pointer (some ⟨S.nb, 0, none⟩)] w (ChangeP w (ledOf (newestN S.all S.p S.pg s.L), 0))
/-- What saving answers, and what it leaves. -/
def SaveC : Prop := ∀ (S : NShape) (V : Nat → Value) (zs : Nat → List Int) (s : NS) (x : Led) (VX : Nat → Value) (c : Int) (w : World), NandAt w S V zs s → Roles S → Cnt s c → c < 70000 → (∀ j, j < 4 → (zs j).length ≤ 64) → Small s → LedIs w x VX → GoodL x →
  Calls Try.prog 8 #[.pointer (some ⟨S.nb, 0, none⟩), .agg (ledC x VX)] w (Goes S V zs (.int .i64 (saveN S zs x S.all S.p s).2) (saveN S zs x S.all S.p s).1 w)
def FixC : Prop := ∀ w : World, Calls Try.prog 5 #[] w fun e w' => e = .returned (.bool true) ∧ Ext w w'

theorem bts_empty {w w' : World} {v : Value} (h : Bts w v []) : Bts w' v [] := by
  rcases h with h | ⟨b, off, cap, h1, h2, _⟩
  · exact .inl h
  · exact .inr ⟨b, off, cap, h1, h2, fun i hi => by simp at hi⟩
theorem ints_empty {w w' : World} {v : Value} (h : Ints w v []) : Ints w' v [] := by
  rcases h with h | ⟨b, off, cap, h1, h2, _⟩ | h
  · exact .inl h
  · exact .inr (.inl ⟨b, off, cap, h1, h2, fun i hi => by simp at hi⟩)
  · exact .inr (.inr h)
/-- A block without a role is turned: an array with nothing beside its pages, and no faults, stands. -/
theorem NandAt.other0 {w w' : World} {S : NShape} {V : Nat → Value} {s : NS} {NB : Nat} (h : NandAt w S V noZs s) (hR : Roles S) (hg : w.grownBy w' (some NB)) (ht : S.T NB = 0) (hb : Beside (· = []) s) : NandAt w' S V noZs s := by
  have e : ∀ k, S.T k ≠ 0 → w'.heap[k]? = w.heap[k]? := fun k hk => hg.block k (h.hi k hk) (fun e => by injection e with e; rw [e] at hk; exact hk ht)
  have e3 := e S.bm (by rw [hR.tm]; decide)
  have e4 := e S.be (by rw [hR.te]; decide)
  have e6 := e S.db (by rw [hR.td]; decide)
  refine ⟨h.fix.stays (e _ (by rw [hR.tn]; decide)) (e _ (by rw [hR.tl]; decide)), fun i hi => ?_, fun i hi => (World.cell?_of_block e3).trans (h.mks i hi), fun o => (World.frozen?_of_block e3).trans (h.mkf o),
    fun i hi => (World.cell?_of_block e4).trans (h.ers i hi), fun o => (World.frozen?_of_block e4).trans (h.erf o), h.pow.stays (e _ (by rw [hR.tp]; decide)), ?_, h.tv, fun k hk => Nat.lt_of_lt_of_le (h.hi k hk) hg.size⟩
  · have hr := h.row i hi
    have er := e (S.row i) (by rw [hR.tr i hi]; omega)
    refine ⟨fun j hj => (World.cell?_of_block er).trans (hr.st j hj), fun j hj => ?_, fun j hj => (World.cell?_of_block er).trans (hr.dt j hj), fun o => (World.frozen?_of_block er).trans (hr.free o)⟩
    obtain ⟨v, h1, h2, h3⟩ := hr.bs j hj
    have hbe : (s.L i j).bs = [] := (hb i j).1
    rw [hbe] at h2 ⊢
    exact ⟨v, (World.cell?_of_block er).trans h1, bts_empty h2, h3⟩
  · exact ⟨fun j hj => (World.cell?_of_block e6).trans (h.drs.row j hj), fun j hj => (World.cell?_of_block e6).trans (h.drs.ops j hj), fun j hj => (World.cell?_of_block e6).trans (h.drs.bad j hj), fun o => (World.frozen?_of_block e6).trans (h.drs.free o), fun j hj => ints_empty (h.drs.ints j hj), h.drs.apart⟩

/-- What stands while ledgers are saved. -/
structure Log12 (w0 w : World) (S : NShape) (V : Nat → Value) (s : NS) (NB : Nat) (now : Led) (Vn : Nat → Value) : Prop where
  nd : NandAt w S V noZs s
  tells : Tells S.all S.p S.pg s.L now
  mr : s.mr 0 = false ∧ s.mr 1 = false
  sm : Beside (· = []) s
  nb : Blk w NB 34 (ledC now Vn)
  is : LedIs w0 now Vn
  len : ∀ j, j < 4 → (now.t j).bs.length ≤ 40
  t0 : S.T NB = 0
  lo : ∀ k, S.T k ≠ 0 → w0.heap.size ≤ k
  ext : Ext w0 w
theorem Log12.next {w0 w w' : World} {S : NShape} {V : Nat → Value} {s : NS} {NB : Nat} {now : Led} {Vn : Nat → Value} (h : Log12 w0 w S V s NB now Vn) (hR : Roles S) (hE : Ext w w') : Log12 w0 w' S V s NB now Vn :=
  ⟨h.nd.ext hE hR, h.tells, h.mr, h.sm, h.nb.ext hE, h.is, h.len, h.t0, h.lo, ext_trans h.ext hE⟩
theorem Log12.goes {w0 w w' : World} {S : NShape} {V : Nat → Value} {s s' : NS} {NB : Nat} {now : Led} {Vn : Nat → Value} (h : Log12 w0 w S V s NB now Vn) (hN : NandAt w' S V noZs s') (hk : Keeps S.T w w')
    (hT : Tells S.all S.p S.pg s'.L now) (hm : s'.mr = s.mr) (hs : Beside (· = []) s') : Log12 w0 w' S V s' NB now Vn :=
  ⟨hN, hT, by rw [hm]; exact h.mr, hs, (hk.block NB h.nb.lt h.t0).trans h.nb, h.is, h.len, h.t0, h.lo, Keeps.grown h.ext hk h.lo⟩
/-- Another ledger is the newest. -/
structure Log12b (w0 w : World) (S : NShape) (V : Nat → Value) (s : NS) (NB : Nat) (now : Led) (Vn : Nat → Value) (x : Led) : Prop where
  nd : NandAt w S V noZs s
  tells : Tells S.all S.p S.pg s.L x
  mr : s.mr 0 = false ∧ s.mr 1 = false
  sm : Beside (· = []) s
  nb : Blk w NB 34 (ledC now Vn)
  t0 : S.T NB = 0
  lo : ∀ k, S.T k ≠ 0 → w0.heap.size ≤ k
  ext : Ext w0 w
theorem Log12.new {w0 w w' : World} {S : NShape} {V : Nat → Value} {s s' : NS} {NB : Nat} {now x : Led} {Vn : Nat → Value} (h : Log12 w0 w S V s NB now Vn) (hN : NandAt w' S V noZs s') (hk : Keeps S.T w w')
    (hT : Tells S.all S.p S.pg s'.L x) (hm : s'.mr = s.mr) (hs : Beside (· = []) s') : Log12b w0 w' S V s' NB now Vn x :=
  ⟨hN, hT, by rw [hm]; exact h.mr, hs, (hk.block NB h.nb.lt h.t0).trans h.nb, h.t0, h.lo, Keeps.grown h.ext hk h.lo⟩
theorem Log12b.put {w0 w w' : World} {S : NShape} {V : Nat → Value} {s : NS} {NB : Nat} {now x : Led} {Vn VX : Nat → Value} (h : Log12b w0 w S V s NB now Vn x) (hR : Roles S) (hb : Blk w' NB 34 (ledC x VX)) (hg : w.grownBy w' (some NB)) (hNB : w0.heap.size ≤ NB)
    (hi : LedIs w0 x VX) (hl : ∀ j, j < 4 → (x.t j).bs.length ≤ 40) : Log12 w0 w' S V s NB x VX := by
  exact ⟨h.nd.other0 hR hg h.t0 h.sm, h.tells, h.mr, h.sm, hb, hi, hl, h.t0, h.lo, grown_trans h.ext hg (fun p hp hlt => by injection hp with hp; omega)⟩
theorem Log12b.next {w0 w w' : World} {S : NShape} {V : Nat → Value} {s : NS} {NB : Nat} {now x : Led} {Vn : Nat → Value} (h : Log12b w0 w S V s NB now Vn x) (hR : Roles S) (hE : Ext w w') : Log12b w0 w' S V s NB now Vn x :=
  ⟨h.nd.ext hE hR, h.tells, h.mr, h.sm, h.nb.ext hE, h.t0, h.lo, ext_trans h.ext hE⟩

end Go.Proofs.Yteionppcjgggiaa

/-
  The law AdlogKeeps, over what Load and Save answer.
-/
namespace Go.Proofs.Yteionppcjgggiaa
set_option linter.unusedVariables false
set_option linter.unusedSimpArgs false
set_option maxRecDepth 100000
open Go.RowKit

theorem ChangeP.eqL {w w' : World} {A B : Led} {e : Int} {en : Ending} (h : ChangeP w (A, e) en w') (hE : EqL A B) : ChangeP w (B, e) en w' := by
  obtain ⟨V', h1, h2, h3, h4⟩ := h
  exact ⟨V', by rw [h1]; show Ending.returned (.tuple #[.agg (ledC A V'), .int .i64 e]) = .returned (.tuple #[.agg (ledC B V'), .int .i64 e]); rw [hE.cells], hE.is h2, h3, h4⟩
theorem CameL0.good {w : World} {L : Led} {V : Nat → Value} (h : CameL0 w L V) (hl : ∀ j, j < 4 → (L.t j).bs.length ≤ 40) : GoodL L := ⟨fun j hj => by have := hl j hj; omega, h.wf, h.ep⟩
theorem blank_tells (n p bud : Int) (pg : Nat) : Tells n p pg (blankS [] bud false 0 (fun _ => 0) (fun _ => 0)).L noLed := by
  have h : ∀ b j, pgLed n p ((blankS [] bud false 0 (fun _ => 0) (fun _ => 0)).L b j) = none := fun b j => pgLed_blank (show (0 : Int) ≠ 1 by decide)
  exact ⟨fun b _ j _ m hm => (by rw [h b j] at hm; cases hm), .inl ⟨fun b _ j _ => h b j, EqL.refl _⟩⟩

set_option maxHeartbeats 6400000 in
theorem adlogKeeps_any (LD : LoadC) (SV : SaveC) (FX : FixC) (pb : Int) (a : Option Addr) (len cap : Nat) (Ls : Nat → Led) (Vs : Nat → Nat → Value) (w : World) (h0 : 0 ≤ pb) (h1 : pb ≤ 255) (h : IsLeds w a len cap Ls Vs) :
    Calls Try.prog 3 #[.int .u8 pb, .slice a len cap] w fun e w' => e = .returned (.bool true) ∧ Ext w w' := by
  have HI := Lib.hid h
  have hmax := h.1
  unfold maxLen at hmax
  have FW := fun w2 (hE : Ext w w2) => few12_any a len cap Ls Vs w2 ⟨h.1, fun i hi => by
    obtain ⟨⟨b, off, e1, e2, e3⟩, hC⟩ := h.2 i hi
    exact ⟨⟨b, off, e1, range_ext e2 hE, Nat.lt_of_lt_of_le e3 hE.size⟩, hC.is.ext hE, fun j hj h0 q hq => Nat.lt_of_lt_of_le (hC.low j hj h0 q hq) hE.size, hC.len, hC.wf, hC.ep⟩⟩
  clear h
  go_enter Try.func3, Try.ntmps3
  go_upto_if 19 with (first
    | (go_at_call 5; refine (FX _).mono ?_; rintro e w2 ⟨rfl, hE2⟩)
    | (go_at_call 6; refine (FW w2 hE2).mono ?_; rintro e w3 ⟨fb, rfl, hfew, hE3⟩; have HE3 := Lib.hid (ext_trans hE2 hE3)))
  clear hE2 hE3 FW
  cases fb
  · go_wp2
    go_ret
    exact ⟨rfl, HE3.out⟩
  · obtain ⟨hl40, hall⟩ := hfew.1 rfl
    have HALL := Lib.hid hall
    clear hall hfew
    go_upto_region 6 with fail
    obtain ⟨pg, hpg⟩ : ∃ pg : Nat, 2 + pb % 15 = (pg : Int) := ⟨(2 + pb % 15).toNat, by omega⟩
    have hpg2 : 2 ≤ pg ∧ pg ≤ 16 := by omega
    rw [hpg]
    clear hpg h0 h1
    go_wp2_with (first
      | (go_at_call 7; refine (array12_any pg (-1) _ hpg2).mono ?_; rintro e w4 ⟨S, V, hR, ⟨q1, q2, q3, q4, q5, q6⟩, rfl, hN, hE4, hT⟩; have hBn := Blk.new w4 34 zeroC)
      | (refine led_build0 rfl rfl ?_)
      | (refine led_store (L := noLed) (V := fun _ => nilS) _ _ rfl rfl rfl hBn rfl (fun _ _ => ⟨_, _, _, rfl⟩) rfl ?_; intro w5 hb5 hg5 hs5))
    have hE5 : Ext w4 w5 := grown_trans (World.grownBy_alloc w4 (.cells zeroC 34) none) hg5 (fun p hp hlt => by injection hp with hp; omega)
    have S5 : Log12 w3 w5 S V (blankS [] (-1) false 0 (fun _ => 0) (fun _ => 0)) w4.heap.size noLed (fun _ => nilS) :=
      ⟨hN.ext hE5 hR, blank_tells _ _ _ _, ⟨rfl, rfl⟩, fun _ _ => ⟨rfl, pgOk_none (.inl rfl)⟩, hb5, noLed_is _, fun _ _ => by simp [noLed, noTen], hN.fresh (Nat.le_refl _), hT, ext_trans hE4 hE5⟩
    have HS5 := Lib.hid S5
    have HR := Lib.hid (And.intro hR (And.intro q5 (And.intro q6 q4)))
    have HNB := Lib.hid (show w3.heap.size ≤ w4.heap.size from hE4.size)
    clear S5 hb5 hg5 hs5 hE5 hN hE4 hT hBn hR q1 q2 q3 q4 q5 q6
    obtain ⟨NB, hNB⟩ : ∃ n, w4.heap.size = n := ⟨_, rfl⟩
    rw [hNB] at HS5 HNB ⊢
    clear hNB
    go_loopw [32] (fun i wr => ∃ (k : Nat) (s : NS) (now : Led) (Vn : Nat → Value), k ≤ len ∧ i = .int .i64 k ∧ Calm s (5 * k) ∧ Log12 w3 wr S V s NB now Vn) (fun i _ => len - (intOf i).toNat)
    case atStart => exact ⟨0, _, _, _, by omega, rfl, blank_calm [], HS5.out⟩
    case round =>
      obtain ⟨k, s, now, Vn, hk, rfl, hC, hL⟩ := hrel
      obtain ⟨wo, rfl⟩ : ∃ wo : World, wo = wr := ⟨_, rfl⟩
      by_cases hlt : k < len
      · obtain ⟨⟨b, off, rfl, hr, _⟩, hX⟩ := HI.out.2 k hlt
        have hlx := HALL.out k hlt
        obtain ⟨x, hx⟩ : ∃ L, Ls k = L := ⟨_, rfl⟩
        obtain ⟨VX, hVX⟩ : ∃ V, Vs k = V := ⟨_, rfl⟩
        rw [hx, hVX] at hr hX
        rw [hx] at hlx
        have HEo := Lib.hid (ext_trans HE3.out hL.ext)
        have hr1 := range_ext hr HEo.out
        have hsl := hX.is.slices
        have hBx := Blk.new wo 34 zeroC
        have HX := Lib.hid (And.intro hX (And.intro (hX.good hlx) hlx))
        have HL := Lib.hid hL
        have HC := Lib.hid hC
        clear hr hX hx hVX hL hC hlx
        go_upto_region 11 with (first
          | (refine leds_load rfl _ rfl rfl hr1 ?_)
          | (refine led_store (L := x) (V := VX) _ _ rfl rfl rfl hBx rfl hsl rfl ?_; intro w6 hb6 hg6 hs6; have HE6 := Lib.hid (grown_trans (World.grownBy_alloc wo (.cells zeroC 34) none) hg6 (fun p hp hlt => by injection hp with hp; omega)); clear hBx hg6 hs6))
        have HL6 := Lib.hid (HL.out.next HR.out.1 HE6.out)
        have hx0 : S.T wo.heap.size = 0 := HL.out.nd.fresh (Nat.le_refl _)
        obtain ⟨XB, hXB⟩ : ∃ n, wo.heap.size = n := ⟨_, rfl⟩
        rw [hXB] at hb6 hx0 ⊢
        have HX0 := Lib.hid hx0
        have e30 : (S.all : Int) = 30 := by rw [HR.out.2.1]; rfl
        have eP : S.p = (pg : Int) := HR.out.2.2.2
        have hall : 2 ≤ S.all := by rw [HR.out.2.1]; decide
        have hpos : 0 < S.pg := by rw [HR.out.2.2.1]; omega
        have SAVE := SV S V noZs s x VX (5 * k) w6 HL6.out.nd HR.out.1 HC.out.cnt (by omega) (fun _ _ => by simp [noZs]) HL.out.sm.small (HX.out.1.is.ext (ext_trans HE3.out HL6.out.ext)) HX.out.2.1
        have R10 := fun {b : Bool} (hb : rightL x 30 pg = b) w7 (hE : Ext w3 w7) => right10_is x VX 30 pg w7 (HX.out.1.is.ext (ext_trans HE3.out hE)) HX.out.2.1 (by decide) (by decide) hb
        have hT := HL.out.tells
        obtain ⟨gx, hgx⟩ : ∃ g, x.gen = g := ⟨_, rfl⟩
        obtain ⟨gn, hgn⟩ : ∃ g, now.gen = g := ⟨_, rfl⟩
        have HGX := Lib.hid hgx
        have HGN := Lib.hid hgn
        clear hr1 hx0 hXB
        by_cases hcase : RightP x S.all S.p ∧ now.gen < x.gen
        · obtain ⟨sv1, sv2⟩ := save_calm (zs := noZs) HC.out hT hall hpos HL.out.mr hcase.1 hcase.2 (by omega) (by omega)
          obtain ⟨st1, st2⟩ := save_tells (zs := noZs) hT hall hpos HL.out.mr hcase.1 hcase.2 (by omega) (by omega)
          have st3 := (save_small (zs := noZs) (P := (· = [])) HL.out.sm rfl HC.out.cnt hT hall hpos HL.out.mr hcase.1 hcase.2 (by omega) (by omega)).1
          have hrl : rightL x 30 pg = true := by rw [← e30, ← eP]; exact (rightL_iff (by omega) (by omega)).2 hcase.1
          replace R10 := R10 hrl
          obtain ⟨s2, hs2⟩ : ∃ z, (saveN S noZs x S.all S.p s).1 = z := ⟨_, rfl⟩
          rw [sv1, hs2] at SAVE
          rw [hs2] at sv2 st2 st3
          have st4 : Tells S.all S.p S.pg s2.L x := by
            rcases st1 with ⟨_, h⟩ | ⟨h, _⟩
            · rw [hs2] at h; exact h
            · rw [sv1] at h; exact absurd h (by decide)
          have HSV := Lib.hid (And.intro sv2 (And.intro st4 (And.intro st2 st3)))
          have hgt : ¬ gx ≤ gn := by have := hcase.2; omega
          have hgtb : decide (gx ≤ gn) = false := by simpa using hgt
          clear hT sv1 sv2 st1 st2 st3 st4 hs2 hrl hcase e30 eP hall hpos hgx hgn
          go_wp2_with (first
          | (refine led_load _ rfl rfl hb6 rfl ?_)
          | (go_at_call 8; refine SAVE.mono ?_; rintro e w7 ⟨rfl, hN7, hk7⟩; have HB7 := Lib.hid (HL6.out.new hN7 hk7 HSV.out.2.1 HSV.out.2.2.1 HSV.out.2.2.2); have hb7 : Blk w7 XB 34 (ledC x VX) := (hk7.block XB hb6.lt HX0.out).trans hb6; clear hN7 hk7 hb6 SAVE)
          | (refine led_load _ rfl rfl hb7 rfl ?_)
          | (go_at_call 9; refine (R10 w7 HB7.out.ext).mono ?_; rintro e w8 ⟨rfl, hE8⟩; have HB8 := Lib.hid (HB7.out.next HR.out.1 hE8); have hb8 := hb7.ext hE8; have cx := (hb8.cell 0).trans (led_gen _ _); rw [HGX.out] at cx; have cn := (HB8.out.nb.cell 0).trans (led_gen _ _); rw [HGN.out] at cn; have hnb8 := HB8.out.nb; clear hE8 hb7 R10)
          | (refine led_load _ rfl rfl hb8 rfl ?_)
          | (refine led_store (L := x) (V := VX) _ _ rfl rfl rfl hnb8 (ledC_size _ _) hsl rfl ?_; intro w9 hb9 hg9 hs9; have HL9 := Lib.hid (HB8.out.put HR.out.1 hb9 hg9 HNB.out (HX.out.1.is.ext HE3.out) HX.out.2.2); clear hb9 hg9 hs9 hnb8 hb8 cx cn)
          | (go_at_call 10; refine ((LD S V noZs s2 _ HL9.out.nd HR.out.1 HSV.out.1.off HL9.out.sm.small).mono (fun e w' h => ChangeP.eqL h HL9.out.tells.newest.1)).mono ?_; rintro e w10 ⟨Vg, rfl, hI, _, hE10⟩; have HL10 := Lib.hid (HL9.out.next HR.out.1 hE10); have hBg := Blk.new w10 34 zeroC; clear hE10)
          | (refine led_store (L := x) (V := Vg) _ _ rfl rfl rfl hBg rfl hI.slices rfl ?_; intro w11 hb11 hg11 hs11; have hE11 := grown_trans (World.grownBy_alloc w10 (.cells zeroC 34) none) hg11 (fun p hp hlt => by injection hp with hp; omega); have HL11 := Lib.hid (HL10.out.next HR.out.1 hE11); have hnb11 := HL11.out.nb; have HI11 := Lib.hid (hI.ext hE11); clear hBg hg11 hs11 hE11 hI)
          | (refine led_load _ rfl rfl hb11 rfl ?_)
          | (refine led_load _ rfl rfl hnb11 rfl ?_)
          | (go_at_call 11; refine (same10_eq x Vg VX w11 HI11.out (HL11.out.is.ext HL11.out.ext) (fun j hj => by have := HL11.out.len j hj; omega)).mono ?_; rintro e w12 ⟨rfl, hE12⟩; have HL12 := Lib.hid (HL11.out.next HR.out.1 hE12); clear hE12))
          go_roundw
          case rel => exact ⟨k + 1, s2, x, VX, by omega, by go_num, by have := HSV.out.1; rw [show (5 : Int) * ((k + 1 : Nat) : Int) = 5 * k + 5 by omega]; exact this, HL12.out⟩
          case measure => simp [intOf]; omega
        · have hor : ¬ RightP x S.all S.p ∨ x.gen ≤ now.gen := by
            by_cases hr : RightP x S.all S.p
            · exact .inr (by have : ¬ now.gen < x.gen := fun h => hcase ⟨hr, h⟩; omega)
            · exact .inl hr
          rw [save_refused hT HC.out.off (by omega) (by omega) hor] at SAVE
          cases hrl : rightL x 30 pg
          · replace R10 := R10 hrl
            clear hT hor hrl hcase e30 eP hall hpos hgx hgn
            go_wp2_with (first
            | (refine led_load _ rfl rfl hb6 rfl ?_)
            | (go_at_call 8; refine SAVE.mono ?_; rintro e w7 ⟨rfl, hN7, hk7⟩; have HL7 := Lib.hid (HL6.out.goes hN7 hk7 HL6.out.tells rfl HL6.out.sm); have hb7 : Blk w7 XB 34 (ledC x VX) := (hk7.block XB hb6.lt HX0.out).trans hb6; clear hN7 hk7 hb6 SAVE)
            | (refine led_load _ rfl rfl hb7 rfl ?_)
            | (refine wpList_pass rfl ?_ ?_; (simp only [Act.put, List.setIfInBounds_toArray, List.set_cons_succ, List.set_cons_zero]; rfl))
            | (go_at_call 9; refine (R10 w7 HL7.out.ext).mono ?_; rintro e w8 ⟨rfl, hE8⟩; have HL8 := Lib.hid (HL7.out.next HR.out.1 hE8); clear hE8 hb7 R10)
            | (go_at_call 10; refine ((LD S V noZs s _ HL8.out.nd HR.out.1 HC.out.off HL8.out.sm.small).mono (fun e w' h => ChangeP.eqL h HL8.out.tells.newest.1)).mono ?_; rintro e w10 ⟨Vg, rfl, hI, _, hE10⟩; have HL10 := Lib.hid (HL8.out.next HR.out.1 hE10); have hBg := Blk.new w10 34 zeroC; clear hE10)
            | (refine led_store (L := now) (V := Vg) _ _ rfl rfl rfl hBg rfl hI.slices rfl ?_; intro w11 hb11 hg11 hs11; have hE11 := grown_trans (World.grownBy_alloc w10 (.cells zeroC 34) none) hg11 (fun p hp hlt => by injection hp with hp; omega); have HL11 := Lib.hid (HL10.out.next HR.out.1 hE11); have hnb11 := HL11.out.nb; have HI11 := Lib.hid (hI.ext hE11); clear hBg hg11 hs11 hE11 hI)
            | (refine led_load _ rfl rfl hb11 rfl ?_)
            | (refine led_load _ rfl rfl hnb11 rfl ?_)
            | (go_at_call 11; refine (same10_eq now Vg Vn w11 HI11.out (HL11.out.is.ext HL11.out.ext) (fun j hj => by have := HL11.out.len j hj; omega)).mono ?_; rintro e w12 ⟨rfl, hE12⟩; have HL12 := Lib.hid (HL11.out.next HR.out.1 hE12); clear hE12))
            go_roundw
            case rel => exact ⟨k + 1, s, now, Vn, by omega, by go_num, HC.out.mono (by omega), HL12.out⟩
            case measure => simp [intOf]; omega
          · replace R10 := R10 hrl
            have hgt : gx ≤ gn := by
              have hR2 : RightP x S.all S.p := by rw [e30, eP]; exact (rightL_iff (by omega) (by omega)).1 hrl
              rcases hor with h | h
              · exact absurd hR2 h
              · omega
            have hgtb : decide (gx ≤ gn) = true := by simpa using hgt
            clear hT hor hrl hcase e30 eP hall hpos hgx hgn
            go_wp2_with (first
            | (refine led_load _ rfl rfl hb6 rfl ?_)
            | (go_at_call 8; refine SAVE.mono ?_; rintro e w7 ⟨rfl, hN7, hk7⟩; have HL7 := Lib.hid (HL6.out.goes hN7 hk7 HL6.out.tells rfl HL6.out.sm); have hb7 : Blk w7 XB 34 (ledC x VX) := (hk7.block XB hb6.lt HX0.out).trans hb6; clear hN7 hk7 hb6 SAVE)
            | (refine led_load _ rfl rfl hb7 rfl ?_)
            | (go_at_call 9; refine (R10 w7 HL7.out.ext).mono ?_; rintro e w8 ⟨rfl, hE8⟩; have HL8 := Lib.hid (HL7.out.next HR.out.1 hE8); have hb8 := hb7.ext hE8; have cx := (hb8.cell 0).trans (led_gen _ _); rw [HGX.out] at cx; have cn := (HL8.out.nb.cell 0).trans (led_gen _ _); rw [HGN.out] at cn; clear hE8 hb7 R10)
            | (go_at_call 10; refine ((LD S V noZs s _ HL8.out.nd HR.out.1 HC.out.off HL8.out.sm.small).mono (fun e w' h => ChangeP.eqL h HL8.out.tells.newest.1)).mono ?_; rintro e w10 ⟨Vg, rfl, hI, _, hE10⟩; have HL10 := Lib.hid (HL8.out.next HR.out.1 hE10); have hBg := Blk.new w10 34 zeroC; clear hE10)
            | (refine led_store (L := now) (V := Vg) _ _ rfl rfl rfl hBg rfl hI.slices rfl ?_; intro w11 hb11 hg11 hs11; have hE11 := grown_trans (World.grownBy_alloc w10 (.cells zeroC 34) none) hg11 (fun p hp hlt => by injection hp with hp; omega); have HL11 := Lib.hid (HL10.out.next HR.out.1 hE11); have hnb11 := HL11.out.nb; have HI11 := Lib.hid (hI.ext hE11); clear hBg hg11 hs11 hE11 hI)
            | (refine led_load _ rfl rfl hb11 rfl ?_)
            | (refine led_load _ rfl rfl hnb11 rfl ?_)
            | (go_at_call 11; refine (same10_eq now Vg Vn w11 HI11.out (HL11.out.is.ext HL11.out.ext) (fun j hj => by have := HL11.out.len j hj; omega)).mono ?_; rintro e w12 ⟨rfl, hE12⟩; have HL12 := Lib.hid (HL11.out.next HR.out.1 hE12); clear hE12))
            go_roundw
            case rel => exact ⟨k + 1, s, now, Vn, by omega, by go_num, HC.out.mono (by omega), HL12.out⟩
            case measure => simp [intOf]; omega
      · have HL := Lib.hid hL
        obtain rfl : k = len := by omega
        clear hL
        go_wp2
        go_ret
        exact ⟨rfl, ext_trans HE3.out HL.out.ext⟩

end Go.Proofs.Yteionppcjgggiaa

/-
  Layer 12's fixed, over what Load and Save answer.
-/
namespace Go.Proofs.Yteionppcjgggiaa
set_option linter.unusedVariables false
set_option linter.unusedSimpArgs false
set_option maxRecDepth 100000
open Go.RowKit

/-- Loading from a nil array. -/
def LoadN : Prop := ∀ w : World, Calls Try.prog 10 #[.pointer none] w (ChangeP w (noLed, 1))

theorem led_build1V (g : Int) (w : World) : (Instr.build 34 #[(0, .int .i64 g)]).run Try.prog w = .ok (.agg (ledC ⟨g, 0, fun _ => noTen⟩ (fun _ => nilS))) w := by kernel_rfl
theorem led_build1 {ops : Array Oper} {rest : List Oper} {o : Oper} {a : Act} {w : World} {Q : Exit → Act → World → Prop} (hgd : o.guard = none) (x : Operand) (ho : o.op = .build 34 #[(0, x)]) {g : Int} (hx : a.eval x = .int .i64 g)
    (h : wpList Try.prog ops Q rest (a.put o.dst (.agg (ledC ⟨g, 0, fun _ => noTen⟩ (fun _ => nilS)))) w) : wpList Try.prog ops Q (o :: rest) a w := by
  refine wpList_plain hgd fun K hK => ?_
  have hm : (#[((0 : Nat), x)].map fun (q : Nat × Operand) => (q.1, a.eval q.2)) = #[(0, .int .i64 g)] := by simp [hx]
  unfold Oper.wp execOp
  simp only [ho, hm, Sem.run_bind, led_build1V, Result.andThen_ok, Sem.run_pure]
  exact hK _ _ h
/-- The same, where it is asked for under a guard. -/
theorem led_build0w {ops : Array Oper} {rest : List Oper} {o : Oper} {a : Act} {w : World} {Q : Exit → Act → World → Prop} (hw : Region.wanted o (yielded ops a.tmps) = true) (ho : o.op = .build 34 #[])
    (h : wpList Try.prog ops Q rest (a.put o.dst (.agg (ledC noLed (fun _ => nilS)))) w) : wpList Try.prog ops Q (o :: rest) a w := by
  refine wpList_want hw fun K hK => ?_
  have hm : ((#[] : Array (Nat × Operand)).map fun (q : Nat × Operand) => (q.1, a.eval q.2)) = #[] := by simp
  unfold Oper.wp execOp
  simp only [ho, hm, Sem.run_bind, led_build0V, Result.andThen_ok, Sem.run_pure]
  exact hK _ _ h

def led3 : Led := ⟨3, 0, fun _ => noTen⟩
theorem led3_right (n p : Int) : RightP led3 n p :=
  ⟨by decide, by decide, fun j _ => ⟨fun h => by simp [led3, noTen] at h, fun _ => ⟨rfl, rfl, rfl, rfl⟩⟩, by show (takenTo led3 4).Nodup; simp [takenTo, led3, noTen], by show (epochsTo led3 4).Nodup; simp [epochsTo, led3, noTen]⟩
theorem led3_good : GoodL led3 := ⟨fun j _ => by simp [led3, noTen], fun j _ b hb => by simp [led3, noTen] at hb, fun j _ => (show (Lit.int .i64 0).wf = true by decide)⟩
theorem led3_is (w : World) : LedIs w led3 (fun _ => nilS) := fun _ _ => .inl ⟨rfl, rfl⟩

set_option maxHeartbeats 3200000 in
theorem fix12_any (LD : LoadC) (SV : SaveC) (LN : LoadN) : FixC := by
  intro w
  go_enter Try.func5, Try.ntmps5
  go_upto_region 2 with (go_at_call 7; refine (array12_any 4 (-1) _ (by decide)).mono ?_; rintro e w1 ⟨S, V, hR, ⟨q1, q2, q3, q4, q5, q6⟩, rfl, hN, hE1, hT⟩)
  have hall : 2 ≤ S.all := by rw [q5]; decide
  have hpos : 0 < S.pg := by rw [q6]; decide
  have h64 : (S.all : Int) ≤ 64 := by rw [q5]; decide
  have C0 : Calm (blankS [] (-1) false 0 (fun _ => 0) (fun _ => 0)) 0 := blank_calm []
  have T0 := blank_tells S.all S.p (-1) S.pg
  have M0 : (blankS [] (-1) false 0 (fun _ => 0) (fun _ => 0)).mr 0 = false ∧ (blankS [] (-1) false 0 (fun _ => 0) (fun _ => 0)).mr 1 = false := ⟨rfl, rfl⟩
  have B0 : Beside (· = []) (blankS [] (-1) false 0 (fun _ => 0) (fun _ => 0)) := fun _ _ => ⟨rfl, pgOk_none (.inl rfl)⟩
  generalize blankS [] (-1) false 0 (fun _ => 0) (fun _ => 0) = s0 at *
  obtain ⟨sv1, C1⟩ := save_calm (zs := noZs) C0 T0 hall hpos M0 (led3_right _ _) (show (0 : Int) < 3 by decide) (by omega) h64
  obtain ⟨st1, M1⟩ := save_tells (zs := noZs) T0 hall hpos M0 (led3_right _ _) (show (0 : Int) < 3 by decide) (by omega) h64
  have B1 := (save_small (zs := noZs) (P := (· = [])) B0 rfl C0.cnt T0 hall hpos M0 (led3_right _ _) (show (0 : Int) < 3 by decide) (by omega) h64).1
  have T1 : Tells S.all S.p S.pg (saveN S noZs led3 S.all S.p s0).1.L led3 := by
    rcases st1 with ⟨_, h⟩ | ⟨h, _⟩
    · exact h
    · rw [sv1] at h; exact absurd h (by decide)
  have RF := save_refused (zs := noZs) (x := led3) T1 C1.off (by omega) h64 (.inr (Int.le_refl _))
  have SV1 := fun wx (hN : NandAt wx S V noZs s0) => SV S V noZs s0 led3 (fun _ => nilS) 0 wx hN hR C0.cnt (by decide) (fun _ _ => by simp [noZs]) B0.small (led3_is _) led3_good
  obtain ⟨s1, hs1⟩ : ∃ z, (saveN S noZs led3 S.all S.p s0).1 = z := ⟨_, rfl⟩
  rw [sv1, hs1] at SV1
  rw [hs1] at C1 B1 T1 RF
  have SV2 := fun wx (hN : NandAt wx S V noZs s1) => SV S V noZs s1 led3 (fun _ => nilS) (0 + 5) wx hN hR C1.cnt (by decide) (fun _ _ => by simp [noZs]) B1.small (led3_is _) led3_good
  rw [RF] at SV2
  have LD0 := fun wx (hN : NandAt wx S V noZs s0) => (LD S V noZs s0 wx hN hR C0.off B0.small).mono (fun e w' h => ChangeP.eqL h T0.newest.1)
  have LD1 := fun wx (hN : NandAt wx S V noZs s1) => (LD S V noZs s1 wx hN hR C1.off B1.small).mono (fun e w' h => ChangeP.eqL h T1.newest.1)
  have HR := Lib.hid (And.intro hR hT)
  have HN := Lib.hid hN
  have HE1 := Lib.hid hE1
  clear C0 C1 T0 T1 M0 B0 B1 sv1 st1 M1 hs1 RF q1 q2 q3 q4 q5 q6 hall hpos h64 hR hT hN hE1
  go_wp2_with (first
    | (go_at_call 10; refine (LN w7).mono ?_; rintro e w8 ⟨Vc, rfl, hIc, _, hE8⟩; have hBc := Blk.new w8 34 zeroC; have HE8 := Lib.hid (ext_trans HE7.out hE8); have ha8 := ha7.ext hE8; have hb8 := hb7.ext hE8; clear hE8 ha7 hb7)
    | (refine led_store (L := noLed) (V := Vc) _ _ rfl rfl rfl hBc rfl hIc.slices rfl ?_; intro w9 hc9 hg9 hs9; have hE9 := grown_trans (World.grownBy_alloc w8 (.cells zeroC 34) none) hg9 (fun p hp hlt => by injection hp with hp; omega); have HE9 := Lib.hid (ext_trans HE8.out hE9); have ha9 := ha8.ext hE9; have hb9 := hb8.ext hE9; have cb := (hb9.cell 0).trans (led_gen _ _); clear hBc hg9 hs9 hE9 ha8 hb8 hc9 hIc)
    | (refine led_load _ rfl rfl ha9 rfl ?_)
    | (refine led_build0w rfl rfl ?_)
    | (go_at_call 11; refine (same10_eq noLed Va (fun _ => nilS) w9 (fun j hj => ints_empty (HIa.out j hj)) (noLed_is _) (fun _ _ => by simp [noLed, noTen])).mono ?_; rintro e w10 ⟨rfl, hE10⟩; have HE10 := Lib.hid (ext_trans HE9.out hE10); have cb10 := hE10.cell cb (by simp); clear hE10 cb ha9 hb9)
    | (go_at_call 8; refine (SV2 w6 HN6.out).mono ?_; rintro e w7 ⟨rfl, hN7, hk7⟩; have HE7 := Lib.hid (Keeps.grown HE6.out hk7 HR.out.2); have ha7 : Blk w7 w2.heap.size 34 (ledC noLed Va) := (hk7.block _ ha6.lt TA.out).trans ha6; have hb7 : Blk w7 w5.heap.size 34 (ledC led3 Vb) := (hk7.block _ hb6.lt TB.out).trans hb6; clear hN7 hk7 ha6 hb6 SV2)
    | (go_at_call 10; refine (LD1 w4 HN4.out).mono ?_; rintro e w5 ⟨Vb, rfl, hIb, _, hE5⟩; have hBb := Blk.new w5 34 zeroC; have HN5 := Lib.hid (HN4.out.ext hE5 HR.out.1); have HE5 := Lib.hid (ext_trans HE4.out hE5); have ha5 := ha4.ext hE5; clear hE5 ha4 LD1)
    | (refine led_store (L := led3) (V := Vb) _ _ rfl rfl rfl hBb rfl hIb.slices rfl ?_; intro w6 hb6 hg6 hs6; have hE6 := grown_trans (World.grownBy_alloc w5 (.cells zeroC 34) none) hg6 (fun p hp hlt => by injection hp with hp; omega); have HN6 := Lib.hid (HN5.out.ext hE6 HR.out.1); have HE6 := Lib.hid (ext_trans HE5.out hE6); have ha6 := ha5.ext hE6; have TB := Lib.hid (HN5.out.fresh (Nat.le_refl _)); clear hBb hg6 hs6 hE6 ha5 hIb)
    | (go_at_call 8; refine (SV1 w3 HN3.out).mono ?_; rintro e w4 ⟨rfl, hN4, hk4⟩; have HN4 := Lib.hid hN4; have HE4 := Lib.hid (Keeps.grown HE3.out hk4 HR.out.2); have ha4 : Blk w4 w2.heap.size 34 (ledC noLed Va) := (hk4.block _ ha3.lt TA.out).trans ha3; clear hN4 hk4 ha3 SV1)
    | (go_at_call 10; refine (LD0 w1 HN.out).mono ?_; rintro e w2 ⟨Va, rfl, hIa, _, hE2⟩; have hBa := Blk.new w2 34 zeroC; have HN2 := Lib.hid (HN.out.ext hE2 HR.out.1); have HE2 := Lib.hid (ext_trans HE1.out hE2); have HIa := Lib.hid hIa; have hsa := hIa.slices; clear hE2 hIa LD0)
    | (refine led_store (L := noLed) (V := Va) _ _ rfl rfl rfl hBa rfl hsa rfl ?_; intro w3 ha3 hg3 hs3; have hE3 := grown_trans (World.grownBy_alloc w2 (.cells zeroC 34) none) hg3 (fun p hp hlt => by injection hp with hp; omega); have HN3 := Lib.hid (HN2.out.ext hE3 HR.out.1); have HE3 := Lib.hid (ext_trans HE2.out hE3); have TA := Lib.hid (HN2.out.fresh (Nat.le_refl _)); clear hBa hg3 hs3 hE3 hsa)
    | (refine led_build1 rfl _ rfl rfl ?_))
  go_ret
  exact ⟨rfl, HE10.out⟩

end Go.Proofs.Yteionppcjgggiaa

/-
  Package adlog: Load, Save.
-/
namespace Go.Proofs.Yteionppcjgggiaa
set_option linter.unusedVariables false
set_option linter.unusedSimpArgs false
set_option maxRecDepth 100000
open Go.RowKit

/-! ### Load -/
theorem adLoad_is {w : World} {a : Value} {L : Led} {b : Nat} {er : Int} (NW : ∀ wx, Ext w wx → Calls Try.prog 16 #[a] wx (NewestP wx L b er)) :
    Calls Try.prog 10 #[a] w (ChangeP w (L, er)) := by
  have hres := Blk.new w 34 zeroC
  have ha := World.grownBy_alloc w (.cells zeroC 34) none
  obtain ⟨w1, hw1⟩ : ∃ x, w.alloc (.cells zeroC 34) = x := ⟨_, rfl⟩
  rw [hw1] at hres ha
  have hsz : w.heap.size < w1.heap.size := by rw [← hw1]; simp
  have NW1 := NW w1 ha
  have HA := Lib.hid (And.intro ha hsz)
  clear NW ha hsz
  go_enter Try.func10, Try.ntmps10
  go_wp2_with (first
    | (go_at_call 16; refine NW1.mono ?_; rintro e w2 ⟨V2, rfl, hI2, hl2, hg2⟩; have hr2 := hres.ext hg2; have hB2 := Blk.new w2 34 zeroC; have hsl := hI2.slices; have HI2 := Lib.hid (And.intro hI2 (And.intro hl2 hg2)); clear hres NW1 hI2 hl2 hg2)
    | (refine led_store (L := L) (V := V2) _ _ rfl rfl rfl hr3 rfl hsl rfl ?_; intro w4 hb4 hg4 hs4)
    | (refine led_store (L := L) (V := V2) _ _ rfl rfl rfl hB2 rfl hsl rfl ?_; intro w3 hb3 hg3 hs3; have hE3 := grown_trans (World.grownBy_alloc w2 (.cells zeroC 34) none) hg3 (fun p hp hlt => by injection hp with hp; omega); have hr3 := hr2.ext hE3; have HE3 := Lib.hid hE3; clear hB2 hr2 hg3 hs3 hE3)
    | (refine led_load _ rfl rfl hb3 rfl ?_))
  refine bodyPost_ret (v := .tuple #[.agg (ledC L V2), .int .i64 er]) (results_cell_row2 (fn := Try.f10) rfl rfl rfl hb4 Try.underlying34 rfl Try.sizeLed) rfl ?_
  obtain ⟨hI2, hl2, hg2⟩ := HI2.out
  obtain ⟨ha, hsz⟩ := HA.out
  have q := HE3.out.size
  have q2 := hg4.size
  exact ⟨_, rfl, (hI2.ext HE3.out).kept hg4 (fun j hj p hp e => by injection e with e; have := hl2 j hj p hp; omega), fun j hj p hp => by have := hl2 j hj p hp; omega, grown_trans (ext_trans ha (ext_trans hg2 HE3.out)) hg4 (fun p hp hlt => by injection hp with hp; omega)⟩

theorem adLoad_any : LoadC := by
  intro S V zs s w h hR ho hs
  refine adLoad_is (b := blkOf (newestN S.all S.p S.pg s.L)) (fun wx hE => ?_)
  have := adNewest_any (h.ext hE hR) hR hs
  rw [ho] at this
  exact this

/-- A nil array. -/
theorem adNewest_nil (w : World) : Calls Try.prog 16 #[.pointer none] w (NewestP w noLed 0 1) := by
  have hres := Blk.new w 34 zeroC
  go_enter Try.func16, Try.ntmps16
  go_wp2_with (first
    | (refine led_build0 rfl rfl ?_)
    | (refine led_store (L := noLed) (V := fun _ => nilS) _ _ rfl rfl rfl hres rfl (fun _ _ => ⟨_, _, _, rfl⟩) rfl ?_; intro w3 hb3 hg3 hs3))
  refine bodyPost_ret (v := .tuple #[.agg (ledC noLed fun _ => nilS), .int .i64 ((0 : Nat) : Int), .int .i64 1]) (results_cell_row3 (fn := Try.f16) rfl rfl rfl rfl hb3 Try.underlying34 rfl Try.sizeLed) rfl ?_
  exact ⟨_, rfl, noLed_is _, fun j _ q hq => by simp [Value.ownBlock] at hq, grown_trans (World.grownBy_alloc w _ none) hg3 (fun p hp hlt => by injection hp with hp; omega)⟩
theorem adLoad_nil : LoadN := fun w => adLoad_is (b := 0) (fun wx _ => adNewest_nil wx)

/-! ### Save -/
theorem hiGen_led (r : Option (Led × Nat)) : hiGen r = (ledOf r).gen := by cases r <;> rfl
section
variable {S : NShape} {zs : Nat → List Int} {s : NS} {n p : Int} {x : Led}
theorem save_off (ho : s.off = true) : saveN S zs x n p s = (s, 12) := if_pos ho
theorem save_bad (ho : s.off = false) (he : snE x n p ≠ 0) : saveN S zs x n p s = (s, snE x n p) := by
  unfold saveN
  rw [if_neg (by rw [ho]; decide), if_pos he]
theorem save_old (ho : s.off = false) (he : snE x n p = 0) (hg : x.gen ≤ (ledOf (newestN n p S.pg s.L)).gen) : saveN S zs x n p s = (s, 2) := by
  unfold saveN
  rw [if_neg (by rw [ho]; decide), if_neg (by rw [he]; decide), if_pos (by rw [hiGen_led]; exact hg)]
theorem save_new (ho : s.off = false) (he : snE x n p = 0) (hg : ¬ x.gen ≤ (ledOf (newestN n p S.pg s.L)).gen) : saveN S zs x n p s =
    if (roomN S zs (blkOf (newestN n p S.pg s.L)) s).2.2 ≠ 0 then ((roomN S zs (blkOf (newestN n p S.pg s.L)) s).1, (roomN S zs (blkOf (newestN n p S.pg s.L)) s).2.2) else progAt S zs x n p (roomN S zs (blkOf (newestN n p S.pg s.L)) s).2.1 (roomN S zs (blkOf (newestN n p S.pg s.L)) s).1 := by
  unfold saveN roomN
  rw [if_neg (by rw [ho]; decide), if_neg (by rw [he]; decide), if_neg (by rw [hiGen_led]; exact hg)]
  split
  · simp
  · split
    · simp
    · rfl
theorem roomN_cnt {c : Int} (hc : Cnt s c) {b : Nat} (hb : 1 - b < S.all) : Cnt (roomN S zs b s).1 (c + 2) := by
  unfold roomN
  split
  · exact cnt_mono hc (by omega)
  · split
    · exact cnt_mono hc (by omega)
    · cases hm : s.mr (1 - b)
      · exact ersS_cnt hc hb hm
      · have : ersS S zs s 4 ((1 - b : Nat) : Int) = s := by unfold ersS; simp [hm]
        show Cnt (ersS S zs s 4 ((1 - b : Nat) : Int)) (c + 2)
        rw [this]
        exact cnt_mono hc (by omega)
theorem roomN_lt {b : Nat} (hb : b < 2) : (roomN S zs b s).2.1 < 2 := by
  unfold roomN
  split
  · exact hb
  · split <;> (show 1 - b < 2; omega)
end

/-- What is read while a page is written. -/
def SavS (LB : Nat) (cs : Array Value) (x : World) : Prop := Blk x LB 34 cs
def SavT (v : Value) (st : ByteArray) (x : World) : Prop := (convert 42 9 v).run Try.prog x = .ok (.string st) x
theorem goes_ret {S : NShape} {V : Nat → Value} {zs : Nat → List Int} {r : NS × Int} {s2 : NS} {er : Int} {w w' : World} (hr : r = (s2, er)) (hN : NandAt w' S V zs s2) (hk : Keeps S.T w w') : Goes S V zs (.int .i64 r.2) r.1 w (.returned (.int .i64 er)) w' := by
  subst hr
  exact ⟨rfl, hN, hk⟩

set_option maxHeartbeats 3200000 in
theorem adSave_any : SaveC := by
  intro S V zs s x VX c w h hR hc hcn hz hs hL hG
  obtain ⟨r, hr⟩ : ∃ r, saveN S zs x S.all S.p s = r := ⟨_, rfl⟩
  rw [hr]
  have hbd := hR.bds
  have hpg := hR.pgs
  have hfld := geo_pages S.c S.d S.b S.p
  have hbl := Blk.new w 34 (ledC x VX)
  have ha := World.grownBy_alloc w (.cells (ledC x VX) 34) none
  obtain ⟨LB, hLB⟩ : ∃ z, w.heap.size = z := ⟨_, rfl⟩
  obtain ⟨w1, hw1⟩ : ∃ y, w.alloc (.cells (ledC x VX) 34) = y := ⟨_, rfl⟩
  rw [hw1] at hbl ha
  have NW := adNewest_any (h.ext ha hR) hR hs
  obtain ⟨fL, hfL⟩ : ∃ z, (if s.off then noLed else ledOf (newestN S.all S.p S.pg s.L)) = z := ⟨_, rfl⟩
  obtain ⟨fb, hfb⟩ : ∃ z, (if s.off then 0 else blkOf (newestN S.all S.p S.pg s.L)) = z := ⟨_, rfl⟩
  obtain ⟨fe, hfe⟩ : ∃ z, (if s.off then (12 : Int) else 0) = z := ⟨_, rfl⟩
  rw [hfL, hfb, hfe] at NW
  rw [hLB] at hbl
  have HF := Lib.hid (And.intro hfL (And.intro hfb hfe))
  have HH := Lib.hid (And.intro h (And.intro hR (And.intro hc (And.intro hcn (And.intro hz (And.intro hL (And.intro hG hs)))))))
  have HRR := Lib.hid hr
  have HA := Lib.hid ha
  have hsl := hL.slices
  have HLB := Lib.hid hLB
  clear hfL hfb hfe h hR hc hcn hz hL hG hs hr ha
  go_enter Try.func8, Try.ntmps8
  go_upto_region 1 with fail
  clear hLB hw1
  go_upto_if 16 with (first
    | (go_at_call 16; refine NW.mono ?_; rintro e w2 ⟨V2, rfl, hI2, _, hg2⟩; have hB2 := Blk.new w2 34 zeroC; have hbl2 := hbl.ext hg2; have hs2 := hI2.slices; have HE2 := Lib.hid (ext_trans HA.out hg2); clear hI2 hg2 hbl NW)
    | (refine led_store (L := fL) (V := V2) _ _ rfl rfl rfl hB2 rfl hs2 rfl ?_; intro w3 hb3 hg3 hs3; have hE3 := grown_trans (World.grownBy_alloc w2 (.cells zeroC 34) none) hg3 (fun p hp hlt => by injection hp with hp; omega); have hbl3 := hbl2.ext hE3; have HE3 := Lib.hid (ext_trans HE2.out hE3); clear hB2 hg3 hs3 hE3 hbl2 hs2))
  cases ho : s.off
  case true =>
    have hfe : fe = 12 := by rw [← HF.out.2.2, ho]; rfl
    have hb : (fe != 0) = true := by rw [hfe]; rfl
    have HX := Lib.hid (And.intro ho hfe)
    clear ho hfe hbl3 hb3 hsl
    go_wp2
    go_ret
    exact goes_ret (by rw [← HRR.out, save_off HX.out.1, HX.out.2]) (HH.out.1.ext HE3.out HH.out.2.1) (.ext HE3.out)
  case false =>
    have hfe : fe = 0 := by rw [← HF.out.2.2, ho]; rfl
    have hb : (fe != 0) = false := by rw [hfe]; rfl
    have hfL : ledOf (newestN S.all S.p S.pg s.L) = fL := by rw [← HF.out.1, ho]; rfl
    have hfb : blkOf (newestN S.all S.p S.pg s.L) = fb := by rw [← HF.out.2.1, ho]; rfl
    obtain ⟨ye, hye⟩ : ∃ z, snE x S.all S.p = z := ⟨_, rfl⟩
    obtain ⟨ys, hys⟩ : ∃ z, snL x S.all S.p = z := ⟨_, rfl⟩
    obtain ⟨st, hst⟩ : ∃ z, strOfNums ys = z := ⟨_, rfl⟩
    have HX := Lib.hid (And.intro ho (And.intro hfL (And.intro hfb (And.intro hye (And.intro hys hst)))))
    have FXd := HH.out.1.ext (ext_trans HE3.out (Ext.drew w3)) HH.out.2.1
    have BK := blocks7_is FXd.fix
    have GE := geometry7_is FXd.fix
    clear ho hfe hfL hfb hye hys hst FXd
    have hZ3 := HE3.out.size
    rw [HLB.out] at hZ3
    go_upto_region 4 with fail
    have hS0 : SavS LB (ledC x VX) w3.drew := hbl3
    refine region_line [(0, true), (1, true), (3, true), (2, false), (4, false), (5, true), (6, false), (7, true), (8, true), (9, true), (10, true), (11, true)] (SavS LB (ledC x VX)) (by kernel_rfl) (by kernel_rfl) (fun _ _ _ d _ h => by cases d <;> exact h) hS0 ?_
    repeat (refine line_read (a' := ?_) rfl (by kernel_rfl) (by kernel_rfl) hS0 (fun y hy K hK => ?_) ?_; rotate_left; · unfold SavS at hy; go_wp2_with (refine led_load _ rfl rfl hy rfl ?_); exact hK)
    refine line_act (by rfl) (fun K hK => ?_)
    go_wp2_with (go_at_call 18; refine BK.mono ?_; rintro e w' ⟨rfl, rfl⟩)
    refine hK _ _ _ hS0 (fun y hy => hy) ?_
    clear hK K
    refine line_act (by rfl) (fun K hK => ?_)
    go_wp2_with (go_at_call 19; refine GE.mono ?_; rintro e w4 ⟨rfl, hg4⟩)
    have hS4 : SavS LB (ledC x VX) w4 := Blk.ext hS0 hg4
    refine hK _ _ _ hS4 (fun y hy => hy) ?_
    clear hK K
    repeat (refine line_read (a' := ?_) rfl (by kernel_rfl) (by kernel_rfl) hS4 (fun y hy K hK => ?_) ?_; rotate_left; · unfold SavS at hy; go_wp2; exact hK)
    have hE4 := ext_trans (ext_trans HE3.out (Ext.drew w3)) hg4
    have BY := snapBytes_any x VX S.all S.p w4 (HH.out.2.2.2.2.2.1.ext hE4) HH.out.2.2.2.2.2.2.1 (by omega) (by omega)
    rw [HX.out.2.2.2.1, HX.out.2.2.2.2.1] at BY
    refine line_act (by rfl) (fun K hK => ?_)
    go_wp2_with (go_at_call 17; refine BY.mono ?_; rintro e w5 ⟨v5, rfl, hown5, hg5⟩)
    have hS5 : SavS LB (ledC x VX) w5 := Blk.ext hS4 hg5
    refine hK _ _ _ hS5 (fun y hy => hy) ?_
    clear hK K
    repeat (refine line_read (a' := ?_) rfl (by kernel_rfl) (by kernel_rfl) hS5 (fun y hy K hK => ?_) ?_; rotate_left; · unfold SavS at hy; go_wp2; exact hK)
    refine line_end ?_
    have HE5 := Lib.hid (ext_trans hE4 hg5)
    have hb5 := hb3.ext (ext_trans (ext_trans (Ext.drew w3) hg4) hg5)
    have HB5 := Lib.hid (And.intro (Owns.bts rfl hown5) (show ∀ q, v5.ownBlock = some q → S.T q = 0 from fun q hq => HH.out.1.fresh (by have := (hown5.lt q hq).1; have := hE4.size; omega)))
    have hbl5 : Blk w5 LB 34 (ledC x VX) := hS5
    clear hS0 hS4 hS5 BK GE BY hE4 hg4 hg5 hown5 hbl3 hb3 hb hZ3
    by_cases hy0 : ye = 0
    case neg =>
      have hb : (ye != 0) = true := by simpa using hy0
      have HY := Lib.hid hy0
      clear hy0 hb5 hbl5 hsl
      go_wp2
      go_ret
      obtain ⟨ho, hfL, hfb, hye, hys, hst⟩ := HX.out
      exact goes_ret (by rw [← HRR.out, save_bad ho (by rw [hye]; exact HY.out), hye]) (HH.out.1.ext HE5.out HH.out.2.1) (.ext HE5.out)
    case pos =>
      have hb : (ye != 0) = false := by rw [hy0]; rfl
      have cx := (hbl5.cell 0).trans (led_gen _ _)
      have cl := (hb5.cell 0).trans (led_gen _ _)
      obtain ⟨gx, hgx⟩ : ∃ z, x.gen = z := ⟨_, rfl⟩
      obtain ⟨gl, hgl⟩ : ∃ z, fL.gen = z := ⟨_, rfl⟩
      rw [hgx] at cx
      rw [hgl] at cl
      have HG := Lib.hid (And.intro hgx (And.intro hgl hy0))
      clear hgx hgl hy0 hb5 hbl5 hsl
      by_cases hg : gx ≤ gl
      · have hgb : decide (gx ≤ gl) = true := by simpa using hg
        go_wp2
        go_ret
        obtain ⟨ho, hfL, hfb, hye, hys, hst⟩ := HX.out
        exact goes_ret (by rw [← HRR.out, save_old ho (by rw [hye]; exact HG.out.2.2) (by rw [hfL, HG.out.1, HG.out.2.1]; exact hg)]) (HH.out.1.ext HE5.out HH.out.2.1) (.ext HE5.out)
      · have hgb : decide (gx ≤ gl) = false := by simpa using hg
        have hN5 := HH.out.1.ext HE5.out HH.out.2.1
        have hfb2 : fb < 2 := by
          have h1 := HX.out.2.2.1
          rw [← h1]
          cases hn : newestN S.all S.p S.pg s.L with
          | none => decide
          | some q => exact (newest_some (l := q.1) (b := q.2) hn).1
        have RM := adRoom_any hN5 HH.out.2.1 HH.out.2.2.1 (by have := HH.out.2.2.2.1; omega) HH.out.2.2.2.2.1 hfb2
        have RC := roomN_cnt (S := S) (zs := zs) (b := fb) HH.out.2.2.1 (by omega)
        have RL := roomN_lt (S := S) (zs := zs) (s := s) hfb2
        have HSV : saveN S zs x S.all S.p s = if (roomN S zs fb s).2.2 ≠ 0 then ((roomN S zs fb s).1, (roomN S zs fb s).2.2) else progAt S zs x S.all S.p (roomN S zs fb s).2.1 (roomN S zs fb s).1 := by
          obtain ⟨ho, hfL, hfb, hye, hys, hst⟩ := HX.out
          rw [save_new ho (by rw [hye]; exact HG.out.2.2) (by rw [hfL, HG.out.1, HG.out.2.1]; exact hg), hfb]
        rw [HRR.out] at HSV
        obtain ⟨⟨s2, bb, re⟩, hrm⟩ : ∃ z, roomN S zs fb s = z := ⟨_, rfl⟩
        rw [hrm] at RM RC RL HSV
        simp only at RM RC RL HSV
        have HV := Lib.hid (And.intro HSV (And.intro RC RL))
        clear HSV RC RL hrm hN5 hfb2 hg
        go_upto_if 43 with (go_at_call 20; refine RM.mono ?_; rintro e w6 ⟨rfl, hN6, hk6⟩; have HN6 := Lib.hid (And.intro hN6 hk6); clear hN6 hk6 RM)
        clear cx cl hgb hb
        by_cases hr0 : re = 0
        case neg =>
          have hb : (re != 0) = true := by simpa using hr0
          have HR0 := Lib.hid hr0
          clear hr0
          go_wp2
          go_ret
          exact goes_ret (by rw [HV.out.1, if_pos HR0.out]) HN6.out.1 ((Keeps.ext HE5.out).trans HN6.out.2)
        case pos =>
          have hb : (re != 0) = false := by rw [hr0]; rfl
          have HR0 := Lib.hid hr0
          clear hr0
          go_upto_region 12 with fail
          have hN6d := HN6.out.1.ext (Ext.drew w6) HH.out.2.1
          have hcv : SavT v5 st w6.drew := convert_is ((Keeps.trans HN6.out.2 (.ext (Ext.drew w6))).bts HB5.out.1 HB5.out.2) HX.out.2.2.2.2.2
          have NX := next7_is hN6d.fix (i := bb) (by have := HV.out.2.2; omega) (hN6d.row bb (by have := HV.out.2.2; omega)) HH.out.2.1
          have hsz : st.size ≤ 160 := by
            obtain ⟨ho, hfL, hfb, hye, hys, hst⟩ := HX.out
            have hall : min (S.all : Int) 256 = S.all := by omega
            have hrl : rightL x S.all S.p = true := by
              have h1 := hye
              rw [HG.out.2.2] at h1
              unfold snE at h1
              rw [hall] at h1
              split at h1
              · assumption
              · exact absurd h1 (by decide)
            have := page_fits ((rightL_iff (by omega) (by omega)).1 hrl) (n := S.all) (p := S.p) (by omega) (by omega)
            rw [hys, hst] at this
            exact this
          have PG := program_any (bs := []) (dt := st) (v := .slice none 0 0) hN6d HH.out.2.1 HV.out.2.1 (by have := HH.out.2.2.2.1; omega) HH.out.2.2.2.2.1 4 (bb : Int) ((nextN (s2.L bb) S.pg : Nat) : Int) (.inl ⟨rfl, rfl⟩) (fun hh => absurd hh (by decide)) (by decide) (by omega)
          have hpa : progAt S zs x S.all S.p bb s2 = (progS S zs s2 4 bb (nextN (s2.L bb) S.pg : Nat) [] st, progE S zs s2 4 bb (nextN (s2.L bb) S.pg : Nat) 0 st.size) := by
            obtain ⟨ho, hfL, hfb, hye, hys, hst⟩ := HX.out
            unfold progAt
            rw [hys, hst]
          have HP := Lib.hid (show r = _ by rw [HV.out.1, if_neg (by rw [HR0.out]; decide), hpa])
          clear hpa hsz hN6d
          refine region_line [(0, true), (1, true), (2, true), (3, true), (5, true), (6, true), (4, false), (7, false), (8, true)] (SavT v5 st) (by kernel_rfl) (by kernel_rfl) (fun _ _ _ d _ h => by cases d <;> exact h) hcv ?_
          repeat (refine line_read (a' := ?_) rfl (by kernel_rfl) (by kernel_rfl) hcv (fun y hy K hK => ?_) ?_; rotate_left; · unfold SavT at hy; go_wp2; exact hK)
          refine line_act (by rfl) (fun K hK => ?_)
          go_wp2_with (go_at_call 22; refine NX.mono ?_; rintro e w' ⟨rfl, rfl⟩)
          refine hK _ _ _ hcv (fun y hy => hy) ?_
          clear hK K
          refine line_act (by rfl) (fun K hK => ?_)
          go_wp2_with (go_at_call 21; refine PG.mono ?_; rintro e w9 ⟨rfl, hN9, hk9⟩)
          have hcv9 : SavT v5 st w9 := convert_is ((Keeps.trans (Keeps.trans HN6.out.2 (.ext (Ext.drew w6))) hk9).bts HB5.out.1 HB5.out.2) HX.out.2.2.2.2.2
          refine hK _ _ _ hcv9 (fun y hy => hy) ?_
          clear hK K
          repeat (refine line_read (a' := ?_) rfl (by kernel_rfl) (by kernel_rfl) hcv9 (fun y hy K hK => ?_) ?_; rotate_left; · unfold SavT at hy; go_wp2; exact hK)
          refine line_end ?_
          go_wp2
          go_ret
          exact goes_ret HP.out hN9 (((Keeps.ext HE5.out).trans HN6.out.2).trans ((Keeps.ext (Ext.drew w6)).trans hk9))

end Go.Proofs.Yteionppcjgggiaa
