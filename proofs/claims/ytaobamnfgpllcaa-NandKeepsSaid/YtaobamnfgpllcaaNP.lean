/-
  Layer 7's law: fixed.
-/
import Derived.Test.YtaobamnfgpllcaaNO
import Derived.Lib.SmallJoins
namespace Go.Proofs.Ytaobamnfgpllcaa
open Go.RowKit

theorem convert7 {w : World} {v : Value} {xs : List Int} {s : ByteArray} (h : Bts w v xs) (hs : strOfNums xs = s) : (convert 36 9 v).run Try.prog w = .ok (.string s) w := by
  subst hs
  rcases h with ⟨rfl, rfl⟩ | ⟨b, off, cap, rfl, h2, h3⟩
  · exact run_convert_bytes_nil w 36 5 Try.underlying36 Try.underlying5 0 0 9 Try.underlying9
  · exact run_convert_bytes_arg w 36 5 Try.underlying36 Try.underlying5 b off xs.length cap xs rfl h3 9 Try.underlying9

section
variable {w : World} {S : NShape} {V : Nat → Value} {zs : Nat → List Int} {s : NS}

theorem read_good (h : NandAt w S V zs s) (hR : Roles S) {i j : Nat} (hi : i < S.all) (hj : j < S.pg) (ho : s.off = false) (hbs : ∀ i j, (s.L i j).bs.length ≤ 140737488351232) {bs : List Int} {dt : ByteArray} (hx : s.L i j = ⟨1, bs, dt⟩) :
    Calls Try.prog 9 #[.pointer (some ⟨S.nb, 0, none⟩), .int .i64 i, .int .i64 j] w (ReadsPg bs dt w) := by
  have e0 : lackE S i j = 0 := by unfold lackE hasB; rw [if_pos (by simp; omega), if_pos (by omega)]
  have e1 : readE S s i j = 0 := by unfold readE; rw [if_pos e0, ho, Int.toNat_natCast, Int.toNat_natCast, hx]; rfl
  refine (read7_any h hR i j hbs).mono fun e w' hr => ?_
  rcases hr with ⟨h1, _⟩ | ⟨_, h2⟩
  · exact absurd e1 h1
  · rw [Int.toNat_natCast, Int.toNat_natCast, hx] at h2; exact h2
theorem read_blank (h : NandAt w S V zs s) (hR : Roles S) {i j : Nat} (hi : i < S.all) (hj : j < S.pg) (ho : s.off = false) (hbs : ∀ i j, (s.L i j).bs.length ≤ 140737488351232) (hx : (s.L i j).st = 0) :
    Calls Try.prog 9 #[.pointer (some ⟨S.nb, 0, none⟩), .int .i64 i, .int .i64 j] w (ReadsNot 6 w) := by
  have e0 : lackE S i j = 0 := by unfold lackE hasB; rw [if_pos (by simp; omega), if_pos (by omega)]
  have e1 : readE S s i j = 6 := by unfold readE; rw [if_pos e0, ho, Int.toNat_natCast, Int.toNat_natCast, hx]; rfl
  refine (read7_any h hR i j hbs).mono fun e w' hr => ?_
  rcases hr with ⟨_, h2⟩ | ⟨h1, _⟩
  · rw [e1] at h2; exact h2
  · rw [e1] at h1; cases h1
theorem erase_good {n who : Int} {i : Nat} (h : NandAt w S V noZs s) (hR : Roles S) (hc : Calm s n) (hn : n < 80000) (hi : i < S.all) (hm : s.mr i = false) :
    Calls Try.prog 10 #[.pointer (some ⟨S.nb, 0, none⟩), .int .i64 who, .int .i64 i] w (Goes S V noZs (.int .i64 0) (eraseDone i S.pg s who) w) := by
  have P := erase_any h hR hc.cnt hn (fun _ _ => by simp [noZs]) who i
  have e0 : hasB S i = true := by unfold hasB; simp; omega
  have e1 : ersE S noZs s who i = 0 := by unfold ersE; rw [e0, if_pos rfl, Int.toNat_natCast, hm, if_neg (by decide), calm_E hc]
  have e2 : ersS S noZs s who i = eraseDone i S.pg s who := by unfold ersS; rw [e0, Int.toNat_natCast, hm, if_pos (by decide), calm_S hc]; rfl
  rw [e1, e2] at P
  exact P
theorem erase_marked {n who : Int} {i : Nat} (h : NandAt w S V noZs s) (hR : Roles S) (hc : Calm s n) (hn : n < 80000) (hi : i < S.all) (hm : s.mr i = true) :
    Calls Try.prog 10 #[.pointer (some ⟨S.nb, 0, none⟩), .int .i64 who, .int .i64 i] w (Goes S V noZs (.int .i64 10) s w) := by
  have P := erase_any h hR hc.cnt hn (fun _ _ => by simp [noZs]) who i
  have e0 : hasB S i = true := by unfold hasB; simp; omega
  have e1 : ersE S noZs s who i = 10 := by unfold ersE; rw [e0, if_pos rfl, Int.toNat_natCast, hm, if_pos rfl]
  have e2 : ersS S noZs s who i = s := by unfold ersS; rw [e0, Int.toNat_natCast, hm, if_neg (by decide)]
  rw [e1, e2] at P
  exact P
end

theorem nextN_blank : ∀ n : Nat, nextN (fun _ => Pg.none 0) n = 0
  | 0 => rfl
  | n + 1 => by unfold nextN; rw [if_pos (show (Pg.none 0).st = 0 from rfl)]; exact nextN_blank n
theorem blank_calm (ms : List Int) : Calm (blankS ms (-1) false 0 (fun _ => 0) (fun _ => 0)) 0 :=
  ⟨rfl, rfl, ⟨⟨Int.le_refl _, Int.le_refl _⟩, fun _ => ⟨Int.le_refl _, Int.le_refl _⟩, fun _ => ⟨Int.le_refl _, Int.le_refl _⟩, fun _ => ⟨Int.le_refl _, Int.le_refl _⟩, by show -9223372036854775808 ≤ (-1 : Int) ∧ (-1 : Int) ≤ 9223372036854775807; omega⟩⟩

def fS0 : NS := blankS [3] (-1) false 0 (fun _ => 0) (fun _ => 0)
def fS1 : NS := progDone 2 0 ⟨1, [116], ⟨#[120]⟩⟩ fS0 0
def fS2 : NS := eraseDone 2 2 fS1 0
theorem fC0 : Calm fS0 0 := blank_calm _
theorem fC1 : Calm fS1 2 := progDone_calm _ _ _ _ fC0
theorem fC2 : Calm fS2 5 := eraseDone_calm _ _ _ fC1
theorem fL1 : fS1.L = updL (fun _ _ => Pg.none 0) 2 0 ⟨1, [116], ⟨#[120]⟩⟩ := progDone_L _ _ _ _ _
theorem fL1_bs (i j : Nat) : (fS1.L i j).bs.length ≤ 140737488351232 := by
  rw [fL1]; unfold updL
  split
  · simp only; split <;> simp [Pg.none]
  · simp [Pg.none]
theorem fL2 (i j : Nat) : (fS2.L i j).bs.length ≤ 140737488351232 := by
  unfold fS2
  rw [eraseDone_L]
  simp only
  split
  · simp only
    split
    · simp [Pg.none]
    · exact fL1_bs _ _
  · exact fL1_bs _ _

theorem one_ints (x : World) (n : Int) (T : TypeId) : Ints (x.alloc (.cells #[.int .i64 n] T)) (.slice (some ⟨x.heap.size, 0, none⟩) 1 1) [n] := by
  refine .inr ⟨_, 0, 1, rfl, Nat.le_refl _, fun i hi => ?_⟩
  have : i = 0 := by simp at hi; omega
  subst this
  rw [Nat.zero_add, World.cell?_alloc_at _ _ _ _ rfl]
  rfl
theorem one_btsA {x : World} {g : Nat} {n : Int} (h : x.cell? ⟨g, 0, none⟩ = some (.int .u8 n)) : BtsA x (.slice (some ⟨g, 0, none⟩) 1 1) [n] := by
  refine .inr ⟨_, 1, rfl, Nat.le_refl _, fun i hi => ?_⟩
  have : i = 0 := by simp at hi; omega
  subst this
  rw [addr_add]
  exact h

def TrueB7 (w : World) (e : Ending) (w' : World) : Prop := e = .returned (.bool true) ∧ w.grownBy w' none

theorem Keeps.grown {T : Nat → Nat} {w0 w w' : World} (h : w0.grownBy w none) (hk : Keeps T w w') (hT : ∀ k, T k ≠ 0 → w0.heap.size ≤ k) : w0.grownBy w' none :=
  ⟨hk.os.trans h.os, hk.tape.trans h.tape, hk.output.trans h.output, Nat.le_trans h.size hk.size, fun k hk2 _ => (hk.block k (Nat.lt_of_lt_of_le hk2 h.size) (Classical.byContradiction fun hne => by have := hT k hne; omega)).trans (h.block k hk2 (by simp))⟩

set_option maxRecDepth 100000 in
set_option maxHeartbeats 1600000 in
theorem fixed7_any (w : World) : Calls Try.prog 4 #[] w (TrueB7 w) := by
  have MD : ∀ x : World, Calls Try.prog 6 #[.agg #[.int .i64 1, .int .i64 1, .int .i64 4, .int .i64 2], .int .i64 (-1), .agg #[.slice none 0 0, .slice none 0 0, .slice none 0 0, .slice none 0 0], .slice (some ⟨x.heap.size, 0, none⟩) 1 1] (x.alloc (.cells #[.int .i64 3] 3)) (MadeP 1 1 4 2 4 [3] (x.alloc (.cells #[.int .i64 3] 3))) := fun x =>
    made_good 2 4 1 1 4 (.slice (some ⟨x.heap.size, 0, none⟩) 1 1) [3] _ (by decide) (by decide) (one_ints _ _ _) (by decide) (by decide)
  have PA : ∀ (S : NShape) (V : Nat → Value) (x : World), Roles S → S.all = 4 → S.pg = 2 → NandAt x S V noZs fS0 → Calls Try.prog 7 #[.pointer (some ⟨S.nb, 0, none⟩), .int .i64 0, .int .i64 2, .int .i64 1, .slice none 0 0, .string ⟨#[120]⟩] x (Goes S V noZs (.int .i64 9) fS0 x) :=
    fun S V x hR h4 h2 hN => prog_order (i := 2) (j := 1) (bs := []) hN hR fC0 (by omega) (by omega) (by omega) (by decide) (by show 1 ≠ nextN (fun _ => Pg.none 0) S.pg; rw [nextN_blank]; omega) (.inl ⟨rfl, rfl⟩) (fun _ k hk => by simp [Value.ownBlock] at hk) (by decide) (by decide)
  have PB : ∀ (S : NShape) (V : Nat → Value) (x : World) (g : Nat), Roles S → S.all = 4 → S.pg = 2 → NandAt x S V noZs fS0 → S.T g = 0 → x.cell? ⟨g, 0, none⟩ = some (.int .u8 116) → Calls Try.prog 7 #[.pointer (some ⟨S.nb, 0, none⟩), .int .i64 0, .int .i64 2, .int .i64 0, .slice (some ⟨g, 0, none⟩) 1 1, .string ⟨#[120]⟩] x (Goes S V noZs (.int .i64 0) fS1 x) :=
    fun S V x g hR h4 h2 hN hg hc => prog_good (i := 2) (j := 0) (bs := [116]) hN hR fC0 (by omega) (by omega) (by omega) (by decide) (by show 0 = nextN (fun _ => Pg.none 0) S.pg; rw [nextN_blank]) (one_btsA hc) (fun _ k hk => by simp [Value.ownBlock] at hk; subst hk; exact hg) (by decide) (by decide)
  have RC : ∀ (S : NShape) (V : Nat → Value) (x : World), Roles S → S.all = 4 → S.pg = 2 → NandAt x S V noZs fS1 → Calls Try.prog 9 #[.pointer (some ⟨S.nb, 0, none⟩), .int .i64 2, .int .i64 0] x (ReadsPg [116] ⟨#[120]⟩ x) :=
    fun S V x hR h4 h2 hN => read_good (i := 2) (j := 0) hN hR (by omega) (by omega) fC1.off fL1_bs (by rw [fL1]; rfl)
  have ED : ∀ (S : NShape) (V : Nat → Value) (x : World), Roles S → S.all = 4 → S.pg = 2 → NandAt x S V noZs fS1 → Calls Try.prog 10 #[.pointer (some ⟨S.nb, 0, none⟩), .int .i64 0, .int .i64 2] x (Goes S V noZs (.int .i64 0) fS2 x) :=
    fun S V x hR h4 h2 hN => by have := erase_good (i := 2) (who := 0) hN hR fC1 (by omega) (by omega) (by unfold fS1; rw [progDone_mr]; decide); rw [h2] at this; exact this
  have RF : ∀ (S : NShape) (V : Nat → Value) (x : World), Roles S → S.all = 4 → S.pg = 2 → NandAt x S V noZs fS2 → Calls Try.prog 9 #[.pointer (some ⟨S.nb, 0, none⟩), .int .i64 2, .int .i64 0] x (ReadsNot 6 x) :=
    fun S V x hR h4 h2 hN => read_blank (i := 2) (j := 0) hN hR (by omega) (by omega) fC2.off fL2 (by unfold fS2; rw [eraseDone_L]; rfl)
  have EE : ∀ (S : NShape) (V : Nat → Value) (x : World), S.all = 4 → NandAt x S V noZs fS2 → Calls Try.prog 13 #[.pointer (some ⟨S.nb, 0, none⟩), .int .i64 2] x (fun e w' => e = .returned (.int .i64 1) ∧ x = w') :=
    fun S V x h4 hN => by have := erases7_is (i := 2) hN (by omega); rw [show fS2.er 2 = 1 from by unfold fS2; rw [eraseDone_er]; unfold fS1; rw [progDone_er]; rfl] at this; exact this
  have BB : ∀ (S : NShape) (V : Nat → Value) (x : World), S.all = 4 → NandAt x S V noZs fS2 → Calls Try.prog 14 #[.pointer (some ⟨S.nb, 0, none⟩), .int .i64 3] x (fun e w' => e = .returned (.bool true) ∧ x = w') :=
    fun S V x h4 hN => by have := bad7_is (i := 3) hN (by omega); rw [show fS2.mr 3 = true from by unfold fS2; rw [eraseDone_mr]; unfold fS1; rw [progDone_mr]; decide] at this; exact this
  have E3 : ∀ (S : NShape) (V : Nat → Value) (x : World), Roles S → S.all = 4 → NandAt x S V noZs fS2 → Calls Try.prog 10 #[.pointer (some ⟨S.nb, 0, none⟩), .int .i64 0, .int .i64 3] x (Goes S V noZs (.int .i64 10) fS2 x) :=
    fun S V x hR h4 hN => erase_marked (i := 3) (who := 0) hN hR fC2 (by omega) (by omega) (by unfold fS2; rw [eraseDone_mr]; unfold fS1; rw [progDone_mr]; decide)
  have BL : ∀ (S : NShape) (V : Nat → Value) (x : World), S.all = 4 → NandAt x S V noZs fS2 → Calls Try.prog 15 #[.pointer (some ⟨S.nb, 0, none⟩)] x (fun e w' => e = .returned (.int .i64 4) ∧ x = w') :=
    fun S V x h4 hN => by have := blocks7_is hN.fix; rw [h4] at this; exact this
  have kc : ∀ v : World, (convert 36 36 (.slice (some ⟨v.heap.size, 0, none⟩) 1 1)).run Try.prog (v.alloc (.cells #[.int .u8 116] 5)) = .ok (.slice (some ⟨v.heap.size, 0, none⟩) 1 1) (v.alloc (.cells #[.int .u8 116] 5 (1, 2))) := fun v => Joins.run_convert_bytes_const_at v 36 5 #[.int .u8 116] 1 1 (v.heap.size) rfl Try.underlying36 Try.underlying5
  go_enter Try.func4, Try.ntmps4
  go_wp2_with (first
    | (go_at_call 6; refine (MD _).mono ?_; rintro e w1 ⟨S, V, hR, ⟨_, _, _, _, h4, h2⟩, rfl, hN1, hg1, hT⟩; have HS := Lib.hid (And.intro h4 (And.intro h2 hT)); clear h4 h2 hT)
    | (go_at_call 7; refine (PB S V _ w2.heap.size hR HS.out.1 HS.out.2.1 (hN2.ext (World.grownBy_alloc w2 (.cells #[.int .u8 116] 5 (1, 2)) none) hR) (hN2.fresh (Nat.le_refl _)) (World.cell?_alloc_mark w2 #[.int .u8 116] 5 (1, 2) 0)).mono ?_; rintro e w3 ⟨rfl, hN3, hk3⟩)
    | (go_at_call 7; refine (PA S V _ hR HS.out.1 HS.out.2.1 hN1).mono ?_; rintro e w2 ⟨rfl, hN2, hk2⟩)
    | (go_at_call 9; refine (RF S V _ hR HS.out.1 HS.out.2.1 hN5).mono ?_; rintro e w6 ⟨rfl, hg6⟩; have hN6 := hN5.ext hg6 hR; have hcv : (convert 36 9 (.slice a4 1 c4)).run Try.prog w6 = .ok (.string ⟨#[116]⟩) w6 := convert7 (xs := [116]) ((Keeps.ext (T := S.T) hg6).bts (hk5.bts hb4 (fun q hq => hN3.fresh (ho4 q hq).1)) (fun q hq => hN3.fresh (ho4 q hq).1)) (by decide))
    | (go_at_call 9; refine (RC S V _ hR HS.out.1 HS.out.2.1 hN3).mono ?_; rintro e w4 ⟨a4, c4, rfl, hb4, hg4, ho4⟩; have hN4 := hN3.ext hg4 hR)
    | (go_at_call 10; refine (E3 S V _ hR HS.out.1 hN6).mono ?_; rintro e w7 ⟨rfl, hN7, hk7⟩)
    | (go_at_call 10; refine (ED S V _ hR HS.out.1 HS.out.2.1 hN4).mono ?_; rintro e w5 ⟨rfl, hN5, hk5⟩)
    | (go_at_call 13; refine (EE S V _ HS.out.1 hN6).mono ?_; rintro e w' ⟨rfl, rfl⟩)
    | (go_at_call 14; refine (BB S V _ HS.out.1 hN6).mono ?_; rintro e w' ⟨rfl, rfl⟩)
    | (go_at_call 15; refine (BL S V _ HS.out.1 hN7).mono ?_; rintro e w' ⟨rfl, rfl⟩))
  go_ret
  have g0 := gb_trans7 (World.grownBy_alloc w _ none) hg1
  have hT : ∀ k, S.T k ≠ 0 → w.heap.size ≤ k := fun k hk => by have := HS.out.2.2 k hk; simp at this; omega
  have g2 := Keeps.grown g0 hk2 hT
  have g3 := Keeps.grown (gb_trans7 g2 (World.grownBy_alloc w2 _ none)) hk3 hT
  have g5 := Keeps.grown (gb_trans7 g3 hg4) hk5 hT
  exact ⟨rfl, Keeps.grown (gb_trans7 g5 hg6) hk7 hT⟩

end Go.Proofs.Ytaobamnfgpllcaa
