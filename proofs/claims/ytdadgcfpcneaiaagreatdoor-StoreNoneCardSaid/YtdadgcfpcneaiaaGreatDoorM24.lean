/-
  Texts put together: JP JQ JR JS TL.
-/
import Derived.Test.YtdadgcfpcneaiaaGreatDoorM23
import Derived.Test.YtdadgcfpcneaiaaGreatDoorM07
import Derived.Test.YtdadgcfpcneaiaaGreatDoorM21
import Derived.Test.YtdadgcfpcneaiaaGreatDoorM02
import Derived.Test.YtdadgcfpcneaiaaGreatDoorTie
import Derived.ProofKit
import Derived.LaidMore
import Derived.OpenShut
import Derived.Stop.Joined
/-
  Layer 18's law: fixed.
-/
namespace Go.Proofs.YtdadgcfpcneaiaaGreatDoor
set_option linter.unusedVariables false
set_option linter.unusedSimpArgs false
set_option linter.unusedVariables false
set_option linter.unusedSimpArgs false
set_option maxRecDepth 100000
open Go.RowKit

def hiB : ByteArray := ⟨#[104, 105]⟩
def x1F : Chg := ⟨2, 1, hiB⟩
def x2F : Chg := ⟨2, 2, ⟨#[]⟩⟩
def b0F : NS := blankS [] (-1) false 0 (fun _ => 0) (fun _ => 0)
def tgF : List Int := frL 84 (tagL 1 1 2 0 1 false)
def n1F : NS := progDone 2 0 ⟨1, tgF, hiB⟩ b0F 1
def cF (S : NShape) : SC := ⟨S, zsO [], 1, 1, 4, 1, blO 4⟩
def m0F : SM := ⟨b0F, [], [], 0, -1, false⟩
def m1F : SM := ⟨b0F, [], [x1F], 0, -1, false⟩
def m2F : SM := ⟨n1F, [⟨2, 0, 0⟩], [], 1, 0, false⟩
def m3F : SM := ⟨n1F, [⟨2, 0, 0⟩], [x2F], 1, 0, false⟩
theorem zsO_none : zsO [] = noZs := by
  funext j
  unfold zsO noZs
  split <;> rfl
theorem tgF_len : tgF.length = 19 := by unfold tgF; rw [frL_len, tagL_len]
theorem n1F_L : n1F.L = updL (fun _ _ => Pg.none 0) 2 0 ⟨1, tgF, hiB⟩ := progDone_L _ _ _ _ _
theorem calmF : Calm b0F 0 := blank_calm _
theorem calm1F : Calm n1F 2 := progDone_calm _ _ _ _ calmF

section
variable {S : NShape} (hp : S.pg = 4) (ha : S.all = 6)
set_option linter.unusedSectionVars false
include hp ha
theorem free0F : freeL (cF S) m1F = [0, 1, 2, 3] := by
  have h : ∀ b, freeB (cF S) m1F b = true := fun b => by
    have h1 : nextB (cF S) m1F b = 0 := nextN_blank _
    have h2 : badB (cF S) m1F b = false := rfl
    unfold freeB
    rw [h1, h2]
    have h3 : decide ((b : Int) ≠ m1F.fr) = true := by
      have : m1F.fr = -1 := rfl
      rw [this]
      exact decide_eq_true (by omega)
    rw [h3]
    rfl
  unfold freeL
  rw [List.filter_eq_self.2 (fun b _ => h b)]
  rfl
theorem spr0F : sprN (cF S) m1F = 1 := by
  have h : badN (cF S) m1F = 0 := by
    unfold badN
    rw [List.length_eq_zero_iff, List.filter_eq_nil_iff]
    intro b _
    show ¬ (false = true)
    decide
  unfold sprN
  rw [h]
  rfl
theorem room0F (k : Nat) : roomR (cF S) m1F k = some (0, { m1F with fr := 0 }) := by
  unfold roomR
  have h1 : hasS (cF S) m1F.fr = false := by unfold hasS; exact decide_eq_false (by show ¬ ((0 : Int) ≤ -1 ∧ _); omega)
  rw [h1, Bool.false_and, if_neg (by decide), free0F hp ha, spr0F hp ha, if_pos (by decide)]
  rfl
theorem lack0F : lackE S 2 0 = 0 := by unfold lackE hasB; rw [ha, hp, if_pos (by decide), if_pos (by decide)]
theorem prg0F : prgE (cF S) b0F 0 0 2 0 1 1 1 false hiB = 0 ∧ prgS (cF S) b0F 0 0 2 0 1 1 1 false hiB = n1F := by
  have hok : okB 1 1 2 0 1 = true := by decide
  have htb : tagBL 1 1 2 0 1 false = tgF := by unfold tagBL; rw [if_pos hok]; rfl
  have hph : (cF S).ph 0 = 2 := rfl
  have hl := lack0F hp ha
  have hnx : nextN (b0F.L 2) S.pg = 0 := nextN_blank _
  unfold prgE prgS
  rw [if_pos hok, if_pos hok, htb, tgF_len, hph]
  show progE S (zsO []) b0F 1 2 0 19 hiB.size = 0 ∧ progS S (zsO []) b0F 1 2 0 tgF hiB = n1F
  rw [zsO_none]
  constructor
  · unfold progE
    rw [if_pos hl, if_neg (by decide), if_neg (by decide), show (2 : Int).toNat = 2 from rfl, hnx, if_pos (show (0 : Int) = ((0 : Nat) : Int) from rfl), calm_E calmF]
  · unfold progS
    rw [show (2 : Int).toNat = 2 from rfl, show (0 : Int).toNat = 0 from rfl, hnx, if_pos ⟨hl, by rw [tgF_len]; decide, rfl, rfl⟩, calm_S calmF]
    rfl
theorem put0F : putE18 (cF S) { m1F with fr := 0 } x1F = 0 ∧ putM (cF S) { m1F with fr := 0 } x1F = { m2F with q := [x1F] } := by
  have hn : nextB (cF S) { m1F with fr := 0 } 0 = 0 := nextN_blank _
  obtain ⟨p1, p2⟩ := prg0F hp ha
  have s1 : setE (cF S).bl.length (cF S).S.pg [] 2 0 0 = 0 := by
    show setE 4 (S.pg : Int) [] 2 0 0 = 0
    rw [hp]
    decide
  have e1 : prgE (cF S) b0F 0 (nextB (cF S) { m1F with fr := 0 } (0 : Int).toNat) 2 0 1 1 1 false hiB = 0 := by
    rw [show (0 : Int).toNat = 0 from rfl, hn]; exact p1
  have e2 : prgS (cF S) b0F 0 (nextB (cF S) { m1F with fr := 0 } (0 : Int).toNat) 2 0 1 1 1 false hiB = n1F := by
    rw [show (0 : Int).toNat = 0 from rfl, hn]; exact p2
  constructor
  · show (if prgE (cF S) b0F 0 (nextB (cF S) { m1F with fr := 0 } (0 : Int).toNat) 2 0 1 1 1 false hiB = 0 then setE (cF S).bl.length (cF S).S.pg [] 2 0 (nextB (cF S) { m1F with fr := 0 } (0 : Int).toNat) else prgE (cF S) b0F 0 (nextB (cF S) { m1F with fr := 0 } (0 : Int).toNat) 2 0 1 1 1 false hiB) = 0
    rw [if_pos e1, show (0 : Int).toNat = 0 from rfl, hn]
    exact s1
  · have r1 : setR (cF S).bl.length (cF S).S.pg [] 2 0 0 = [⟨2, 0, 0⟩] := by
      unfold setR
      rw [s1, if_pos rfl]
      rfl
    show (if prgE (cF S) b0F 0 (nextB (cF S) { m1F with fr := 0 } (0 : Int).toNat) 2 0 1 1 1 false hiB = 0 then (⟨prgS (cF S) b0F 0 (nextB (cF S) { m1F with fr := 0 } (0 : Int).toNat) 2 0 1 1 1 false hiB, setR (cF S).bl.length (cF S).S.pg [] 2 0 (nextB (cF S) { m1F with fr := 0 } (0 : Int).toNat), [x1F], 0 + 1, 0, false⟩ : SM) else _) = _
    rw [if_pos e1, e2, show (0 : Int).toNat = 0 from rfl, hn]
    show (⟨n1F, setR (cF S).bl.length (cF S).S.pg [] 2 0 0, [x1F], 0 + 1, 0, false⟩ : SM) = _
    rw [r1]
    rfl
theorem flu0F : fluR (cF S) 100 m1F = some (0, m2F) := by
  have hc : chgR (cF S) x1F 100 100 m1F = some (0, { m2F with q := [x1F] }) := by
    rw [show (100 : Nat) = 99 + 1 from rfl]
    conv => lhs; unfold chgR
    rw [show (99 + 1 : Nat) = 100 from rfl, room0F hp ha 100]
    obtain ⟨p1, p2⟩ := put0F hp ha
    simp only [p1, p2]
    rfl
  have hf : firR (cF S) 100 m1F = some (0, m2F) := by
    unfold firR
    rw [if_neg (by decide), show firstC m1F.q = x1F from rfl, hc]
    rfl
  unfold fluR
  rw [if_neg (by decide), show m1F.q.length = 0 + 1 from rfl]
  unfold fluF
  rw [hf]
  rfl
theorem find0F : fdF (cF S) n1F 0 0 = ⟨0, 0, false, 1, 1, 2, 0, 1, false, hiB⟩ ∧ fdE (cF S) n1F 0 0 = 0 := by
  have hL : n1F.L 2 0 = ⟨1, tgF, hiB⟩ := by rw [n1F_L]; rfl
  have hr : readE S n1F 2 0 = 0 := by
    unfold readE
    rw [if_pos (lack0F hp ha), calm1F.off]
    show (if (n1F.L 2 0).st = 0 then (6 : Int) else if (n1F.L 2 0).st = 2 then 11 else 0) = 0
    rw [hL]
    decide
  have hph : (cF S).ph 0 = 2 := rfl
  have ho : oneF (cF S) n1F 0 0 = ⟨0, 0, false, 1, 1, 2, 0, 1, false, hiB⟩ := by
    unfold oneF
    rw [if_pos (show (0 : Int) ≤ 0 ∧ (0 : Int) < (((cF S).bl.length : Nat) : Int) from ⟨Int.le_refl _, by show (0 : Int) < ((blO 4).length : Int); rw [blO_len]; decide⟩), hph]
    show findF S n1F 2 0 0 = _
    unfold findF
    rw [hr, if_neg (by decide), if_pos rfl]
    show fndOf 0 0 (n1F.L 2 0).bs (n1F.L 2 0).dt = _
    rw [hL]
    obtain ⟨q0, q1, q2, q3, q4, q5, q6⟩ := ps_back (a := 1) (b := 1) (c := 2) (d := 0) (k := 1) (p := false) (by decide)
    unfold fndOf tgF
    rw [if_pos q0, q1, q2, q3, q4, q5, q6]
  have he : oneE (cF S) n1F 0 0 = 0 := by
    unfold oneE
    rw [if_pos (show (0 : Int) ≤ 0 ∧ (0 : Int) < (((cF S).bl.length : Nat) : Int) from ⟨Int.le_refl _, by show (0 : Int) < ((blO 4).length : Int); rw [blO_len]; decide⟩), hph]
    show findE S n1F 2 0 = 0
    unfold findE
    rw [hr]
    decide
  unfold fdF fdE
  rw [ho, he]
  exact ⟨if_neg (by simp), if_neg (by simp)⟩
theorem rea0F : reaE (cF S) m2F 2 = 0 ∧ reaD (cF S) m2F 2 = hiB := by
  obtain ⟨h1, h2⟩ := find0F hp ha
  have hl : lacE (cF S) 2 = 0 := rfl
  constructor
  · unfold reaE
    rw [hl, if_neg (by decide), if_neg (by decide), if_pos (by decide)]
    exact h2
  · unfold reaD
    rw [hl, if_neg (by decide), if_neg (by decide), if_pos (by decide)]
    show (if (fdF (cF S) n1F 0 0).kd = 2 then _ else (fdF (cF S) n1F 0 0).dt) = _
    rw [h1]
    rfl
end
theorem wai0F (S : NShape) : waiR (cF S) 100 m0F x1F = some (0, m1F) := by
  unfold waiR
  rw [if_neg (by show ¬ (lacE (cF S) 2 ≠ 0); rw [show lacE (cF S) 2 = 0 from rfl]; decide), if_neg (by decide), if_neg (by decide), if_neg (by decide)]
  rfl
theorem wai1F (S : NShape) : waiR (cF S) 100 m2F x2F = some (0, m3F) := by
  unfold waiR
  rw [if_neg (by show ¬ (lacE (cF S) 2 ≠ 0); rw [show lacE (cF S) 2 = 0 from rfl]; decide), if_neg (by decide), if_neg (by decide), if_neg (by decide)]
  rfl
theorem rea1F (S : NShape) : reaE (cF S) m3F 2 = 0 ∧ reaD (cF S) m3F 2 = ⟨#[]⟩ := by
  have hl : lacE (cF S) 2 = 0 := rfl
  constructor
  · unfold reaE
    rw [hl, if_neg (by decide), if_pos (by decide)]
  · unfold reaD
    rw [hl, if_neg (by decide), if_pos (by decide)]
    rfl
theorem rea2F (S : NShape) : reaE (cF S) m3F 4 = 5 ∧ reaD (cF S) m3F 4 = ⟨#[]⟩ := by
  have hl : lacE (cF S) 4 = 5 := rfl
  constructor
  · unfold reaE
    rw [hl, if_pos (by decide)]
  · unfold reaD
    rw [hl, if_pos (by decide)]
theorem wf0F (S : NShape) : Wf (cF S) m0F 0 := by
  refine Wf.mk' calmF.cnt ⟨fun i j => ?_, fun i j => ?_, fun i j => ?_⟩ ⟨Int.le_refl _, Int.le_refl _⟩ (by decide) (fun x hx => by cases hx) (by
    show (-1 : Int) ≤ -1 ∧ (-1 : Int) < ((blO 4).length : Int)
    rw [blO_len]
    omega)
  · intro x hx; cases hx
  · exact Nat.zero_le _
  · exact Nat.zero_le _
theorem szF : szO 3 = 4 := by decide
theorem prF : prO 1 = 1 := by decide
theorem pgF : pgO 2 = 4 := by decide
theorem toF : (toO 3 1 2 0).toNat = 4 := by decide

def Fix18 : Prop := ∀ w : World, Flds w → Calls Tryz.prog 8 #[] w fun e w' => e = .returned (.bool true) ∧ w.grownBy w' none

end Go.Proofs.YtdadgcfpcneaiaaGreatDoor

/-
  Layer 18 (store): a nil store.
-/
namespace Go.Proofs.YtdadgcfpcneaiaaGreatDoor
set_option linter.unusedVariables false
set_option linter.unusedSimpArgs false
set_option linter.unusedVariables false
set_option linter.unusedSimpArgs false
set_option maxRecDepth 100000
open Go.RowKit

theorem lacks_nil18 (q : Int) (w : World) : Calls Tryz.prog 38 #[.pointer none, .int .i64 q] w fun e w' => e = .returned (.int .i64 1) ∧ w = w' := by
  go_enter Tryz.func38, Tryz.ntmps38
  go_wp2
  go_ret
  exact ⟨rfl, rfl⟩
theorem has_nil18 (q : Int) (w : World) : Calls Tryz.prog 44 #[.pointer none, .int .i64 q] w fun e w' => e = .returned (.bool false) ∧ w = w' := by
  go_enter Tryz.func44, Tryz.ntmps44
  go_wp2
  go_ret
  exact ⟨rfl, rfl⟩
theorem wait_nil18 (x : Chg) (w : World) : Calls Tryz.prog 37 #[.pointer none, .agg (chgC x)] w fun e w' => e = .returned (.int .i64 1) ∧ w.grownBy w' none := by
  have LK := lacks_nil18 x.pl
  obtain ⟨z, hz, hzb⟩ : ∃ z : Int, (1 : Int) = z ∧ (z != 0) = true := ⟨1, rfl, rfl⟩
  rw [hz] at LK ⊢
  have hb := Blk.new w 84 (chgC x)
  have HE := Lib.hid (World.grownBy_alloc w (.cells (chgC x) 84) none)
  obtain ⟨cb, hcb⟩ : ∃ y, w.heap.size = y := ⟨_, rfl⟩
  obtain ⟨w1, hw1⟩ : ∃ y, w.alloc (.cells (chgC x) 84) = y := ⟨_, rfl⟩
  rw [hw1] at hb HE
  rw [hcb] at hb
  have d0 : w1.cell? ⟨cb, 0, none⟩ = some (.int .i64 x.pl) := hb.cell 0
  clear hz hb
  go_enter Tryz.func37, Tryz.ntmps37
  go_upto_region 1 with fail
  clear hw1 hcb
  go_wp2_with (go_at_call 38; refine (LK _).mono ?_; rintro e1 w2 ⟨rfl, rfl⟩)
  go_ret
  exact ⟨rfl, HE.out⟩
theorem write_nil18 (pl : Int) (dt : ByteArray) (w : World) : Calls Tryz.prog 13 #[.pointer none, .int .i64 pl, .string dt] w fun e w' => e = .returned (.int .i64 1) ∧ w.grownBy w' none := by
  have W := wait_nil18 ⟨pl, 1, dt⟩ w
  rw [show (chgC ⟨pl, 1, dt⟩) = #[.int .i64 pl, .int .i64 1, .string dt] from rfl] at W
  go_enter Tryz.func13, Tryz.ntmps13
  go_wp2_with (go_at_call 37; refine W.mono ?_; rintro e1 w1 ⟨rfl, hg⟩)
  go_ret
  exact ⟨rfl, hg⟩
theorem trim_nil18 (pl : Int) (w : World) : Calls Tryz.prog 12 #[.pointer none, .int .i64 pl] w fun e w' => e = .returned (.int .i64 1) ∧ w.grownBy w' none := by
  have W := wait_nil18 ⟨pl, 2, ⟨#[]⟩⟩ w
  rw [show (chgC ⟨pl, 2, ⟨#[]⟩⟩) = #[.int .i64 pl, .int .i64 2, .string ⟨#[]⟩] from rfl] at W
  go_enter Tryz.func12, Tryz.ntmps12
  go_wp2_with (go_at_call 37; refine W.mono ?_; rintro e1 w1 ⟨rfl, hg⟩)
  go_ret
  exact ⟨rfl, hg⟩
theorem flush_nil18 (w : World) : Calls Tryz.prog 15 #[.pointer none] w fun e w' => e = .returned (.int .i64 1) ∧ w = w' := by
  go_enter Tryz.func15, Tryz.ntmps15
  go_wp2
  go_ret
  exact ⟨rfl, rfl⟩
theorem coll_nil18 (b : Int) (w : World) : Calls Tryz.prog 17 #[.pointer none, .int .i64 b] w fun e w' => e = .returned (.int .i64 1) ∧ w = w' := by
  go_enter Tryz.func17, Tryz.ntmps17
  go_wp2
  go_ret
  exact ⟨rfl, rfl⟩
theorem purge_nil18 (b : Int) (w : World) : Calls Tryz.prog 28 #[.pointer none, .int .i64 b] w fun e w' => e = .returned (.int .i64 1) ∧ w = w' := by
  go_enter Tryz.func28, Tryz.ntmps28
  go_wp2
  go_ret
  exact ⟨rfl, rfl⟩
theorem restore_nil18 (w : World) : Calls Tryz.prog 29 #[.pointer none, .agg #[.slice none 0 0, .slice none 0 0, .int .i64 0]] w fun e w' => e = .returned (.int .i64 1) ∧ w.grownBy w' none := by
  have HE := Lib.hid (World.grownBy_alloc w (.cells #[.slice none 0 0, .slice none 0 0, .int .i64 0] 68) none)
  go_enter Tryz.func29, Tryz.ntmps29
  go_wp2
  go_ret
  exact ⟨rfl, HE.out⟩
theorem readOnly_nil18 (w : World) : Calls Tryz.prog 11 #[.pointer none] w fun e w' => e = .returned (.bool true) ∧ w = w' := by
  go_enter Tryz.func11, Tryz.ntmps11
  go_wp2
  go_ret
  exact ⟨rfl, rfl⟩
theorem free_nil18 (w : World) : Calls Tryz.prog 23 #[.pointer none] w fun e w' => e = .returned (.slice none 0 0) ∧ w = w' := by
  go_enter Tryz.func23, Tryz.ntmps23
  go_wp2
  go_ret
  exact ⟨rfl, rfl⟩
theorem give_nil18 (w : World) : Calls Tryz.prog 24 #[.pointer none] w fun e w' => e = .returned (.tuple #[.int .i64 0, .bool false]) ∧ w = w' := by
  have F := free_nil18 w
  go_enter Tryz.func24, Tryz.ntmps24
  go_wp2_with (go_at_call 23; refine F.mono ?_; rintro e1 w1 ⟨rfl, rfl⟩)
  go_returns
  exact ⟨rfl, rfl⟩
theorem bad_nil18 (w : World) : Calls Tryz.prog 19 #[.pointer none] w fun e w' => e = .returned (.int .i64 0) ∧ w = w' := by
  go_enter Tryz.func19, Tryz.ntmps19
  go_wp2
  go_ret
  exact ⟨rfl, rfl⟩
theorem waiting_nil18 (w : World) : Calls Tryz.prog 16 #[.pointer none] w fun e w' => e = .returned (.int .i64 0) ∧ w = w' := by
  go_enter Tryz.func16, Tryz.ntmps16
  go_wp2
  go_ret
  exact ⟨rfl, rfl⟩
theorem size_nil18 (w : World) : Calls Tryz.prog 30 #[.pointer none] w fun e w' => e = .returned (.int .i64 0) ∧ w = w' := by
  go_enter Tryz.func30, Tryz.ntmps30
  go_wp2
  go_ret
  exact ⟨rfl, rfl⟩
theorem blocks_nil18 (w : World) : Calls Tryz.prog 31 #[.pointer none] w fun e w' => e = .returned (.slice none 0 0) ∧ w = w' := by
  go_enter Tryz.func31, Tryz.ntmps31
  go_wp2
  go_ret
  exact ⟨rfl, rfl⟩
theorem resize_nil18 (s : Int) (w : World) : Calls Tryz.prog 25 #[.pointer none, .int .i64 s, .slice none 0 0] w fun e w' => e = .returned (.tuple #[]) ∧ w = w' := by
  go_enter Tryz.func25, Tryz.ntmps25
  go_wp2
  refine bodyPost_ret (v := .tuple #[]) (results_none rfl _ _ _) rfl ?_
  exact ⟨rfl, rfl⟩
theorem take_nil18 (i b : Int) (w : World) : Calls Tryz.prog 26 #[.pointer none, .int .i64 i, .int .i64 b] w fun e w' => e = .returned (.tuple #[]) ∧ w = w' := by
  have H := has_nil18 i w
  go_enter Tryz.func26, Tryz.ntmps26
  go_wp2_with (go_at_call 44; refine H.mono ?_; rintro e1 w1 ⟨rfl, rfl⟩)
  go_end0
  exact ⟨rfl, rfl⟩
theorem read_nil18 (q : Int) (w : World) : Calls Tryz.prog 14 #[.pointer none, .int .i64 q] w fun e w' => e = .returned (.tuple #[.string ⟨#[]⟩, .int .i64 1]) ∧ w = w' := by
  have LK := lacks_nil18 q w
  obtain ⟨z, hz, hzb⟩ : ∃ z : Int, (1 : Int) = z ∧ (z != 0) = true := ⟨1, rfl, rfl⟩
  rw [hz] at LK ⊢
  clear hz
  go_enter Tryz.func14, Tryz.ntmps14
  go_wp2_with (go_at_call 38; refine LK.mono ?_; rintro e1 w1 ⟨rfl, rfl⟩)
  go_returns
  exact ⟨rfl, rfl⟩
theorem new_nil18 (who ep sz sp : Int) (v : Value) (t : Bool) (w : World) : Calls Tryz.prog 27 #[.pointer none, .int .i64 who, .agg #[.bool t, .int .i64 ep, .int .i64 sz, .int .i64 sp, v]] w fun e w' => e = .returned (.tuple #[.pointer none, .int .i64 1]) ∧ w.grownBy w' none := by
  have HE := Lib.hid (World.grownBy_alloc w (.cells #[.bool t, .int .i64 ep, .int .i64 sz, .int .i64 sp, v] 33) none)
  go_enter Tryz.func27, Tryz.ntmps27
  go_wp2
  go_returns
  exact ⟨rfl, HE.out⟩

end Go.Proofs.YtdadgcfpcneaiaaGreatDoor

/-
  Layer 18's law: fixed, StoreNone.
-/
namespace Go.Proofs.YtdadgcfpcneaiaaGreatDoor
set_option linter.unusedVariables false
set_option linter.unusedSimpArgs false
set_option linter.unusedVariables false
set_option linter.unusedSimpArgs false
set_option maxRecDepth 100000
open Go.RowKit

theorem sp_ok18 : (-9223372036854775000 : Int) ≤ 1 ∧ (1 : Int) ≤ 9223372036854775000 := ⟨by decide, by decide⟩
theorem newE_none : newE (zsO []) = 0 := by rw [zsO_none]; decide
/-- Of the store's own memory only; all of it is new. -/
theorem keeps_new18 {w0 w w' : World} {p : SP} {c : SC} (hE : w0.grownBy w none) (hk : Keeps (tS p c) w w') (hlo : ∀ k, c.S.T k ≠ 0 → w0.heap.size ≤ k) (hb : w0.heap.size ≤ p.sb ∧ w0.heap.size ≤ p.tb ∧ w0.heap.size ≤ p.bb) : w0.grownBy w' none :=
  Keeps.grown hE hk (fun k hk2 => by
    unfold tS at hk2
    split at hk2
    · omega
    · exact hlo k hk2)

set_option maxHeartbeats 6400000 in
theorem fixed18_any : Fix18 := by
  intro w hF
  have OP := fun (wx : World) (hE : w.grownBy wx none) => open18 3 1 2 0 (.slice none 0 0) [] wx (hF.ext hE) (.inl ⟨rfl, rfl⟩) (fun k hk => by simp [Value.ownBlock] at hk) (by decide)
  rw [szF, prF, pgF, toF] at OP
  have OP1 := OP w (Ext.refl w)
  clear OP
  obtain ⟨z0, hz0, h00⟩ : ∃ z : Int, (0 : Int) = z ∧ (z == 0) = true := ⟨0, rfl, rfl⟩
  obtain ⟨z5, hz5, h55⟩ : ∃ z : Int, (5 : Int) = z ∧ (z == 5) = true := ⟨5, rfl, rfl⟩
  obtain ⟨z4, hz4, h44⟩ : ∃ z : Int, (4 : Int) = z ∧ (z == 4) = true := ⟨4, rfl, rfl⟩
  obtain ⟨z1, hz1, h11⟩ : ∃ z : Int, (1 : Int) = z ∧ (z == 1) = true := ⟨1, rfl, rfl⟩
  have W1 := Lib.hid (fun (wx : World) p (S : NShape) (hp : S.pg = 4) (ha : S.all = 6) (hx : StAt wx p (cF S) m0F) (ok : StOk p (cF S)) => (hz0 ▸ write18 hx ok (wf0F S) sp_ok18 (by decide) 2 hiB (by decide) (wai0F S) : Calls Tryz.prog 13 #[.pointer (some ⟨p.sb, 0, none⟩), .int .i64 2, .string hiB] wx (Gs p (cF S) (.int .i64 z0) m1F wx)))
  have w1 : ∀ S : NShape, S.pg = 4 → Wf (cF S) m1F 4002000 := fun S hp => wf_wai (by show S.pg ≤ 16; omega) (wf0F S) (wai0F S)
  have F1 := Lib.hid (fun (wx : World) p (S : NShape) (hp : S.pg = 4) (ha : S.all = 6) (hx : StAt wx p (cF S) m1F) (ok : StOk p (cF S)) => (hz0 ▸ flush18 hx ok (w1 S hp) sp_ok18 (by decide) (flu0F hp ha) : Calls Tryz.prog 15 #[.pointer (some ⟨p.sb, 0, none⟩)] wx (Gs p (cF S) (.int .i64 z0) m2F wx)))
  have w2 : ∀ S : NShape, S.pg = 4 → S.all = 6 → Wf (cF S) m2F 8004000 := fun S hp ha => by
    have h := wf_flu (c := cF S) (by show S.pg ≤ 16; omega) 1 m1F 4002000 0 m2F (w1 S hp) (by have := flu0F hp ha; unfold fluR at this; rw [if_neg (by decide)] at this; exact this)
    exact h.mono (by decide)
  have R1 := Lib.hid (fun (wx : World) p (S : NShape) (hp : S.pg = 4) (ha : S.all = 6) (hx : StAt wx p (cF S) m2F) (ok : StOk p (cF S)) => (show Calls Tryz.prog 14 #[.pointer (some ⟨p.sb, 0, none⟩), .int .i64 2] wx (ReadP hiB z0 wx) from by
    have h := read18 hx ok (w2 S hp ha) 2
    rw [(rea0F hp ha).1, (rea0F hp ha).2, hz0] at h
    exact h))
  have T1 := Lib.hid (fun (wx : World) p (S : NShape) (hp : S.pg = 4) (ha : S.all = 6) (hx : StAt wx p (cF S) m2F) (ok : StOk p (cF S)) => (hz0 ▸ trim18 hx ok (w2 S hp ha) sp_ok18 (by decide) 2 (wai1F S) : Calls Tryz.prog 12 #[.pointer (some ⟨p.sb, 0, none⟩), .int .i64 2] wx (Gs p (cF S) (.int .i64 z0) m3F wx)))
  have w3 : ∀ S : NShape, S.pg = 4 → S.all = 6 → Wf (cF S) m3F 12006000 := fun S hp ha => (wf_wai (by show S.pg ≤ 16; omega) (w2 S hp ha) (wai1F S)).mono (by decide)
  have R2 := Lib.hid (fun (wx : World) p (S : NShape) (hp : S.pg = 4) (ha : S.all = 6) (hx : StAt wx p (cF S) m3F) (ok : StOk p (cF S)) => (show Calls Tryz.prog 14 #[.pointer (some ⟨p.sb, 0, none⟩), .int .i64 2] wx (ReadP ⟨#[]⟩ z0 wx) from by
    have h := read18 hx ok (w3 S hp ha) 2
    rw [(rea1F S).1, (rea1F S).2, hz0] at h
    exact h))
  have R3 := Lib.hid (fun (wx : World) p (S : NShape) (hp : S.pg = 4) (ha : S.all = 6) (hx : StAt wx p (cF S) m3F) (ok : StOk p (cF S)) => (show Calls Tryz.prog 14 #[.pointer (some ⟨p.sb, 0, none⟩), .int .i64 4] wx (ReadP ⟨#[]⟩ z5 wx) from by
    have h := read18 hx ok (w3 S hp ha) 4
    rw [(rea2F S).1, (rea2F S).2, hz5] at h
    exact h))
  have SZ := Lib.hid (fun (wx : World) p (S : NShape) (hx : StAt wx p (cF S) m3F) => (hz4 ▸ size18 hx : Calls Tryz.prog 30 #[.pointer (some ⟨p.sb, 0, none⟩)] wx fun e w' => e = .returned (.int .i64 z4) ∧ wx = w'))
  have RO := Lib.hid (fun (wx : World) p (S : NShape) (hx : StAt wx p (cF S) m3F) => (readOnly18 hx : Calls Tryz.prog 11 #[.pointer (some ⟨p.sb, 0, none⟩)] wx fun e w' => e = .returned (.bool false) ∧ wx = w'))
  have WA := Lib.hid (fun (wx : World) p (S : NShape) (hx : StAt wx p (cF S) m3F) => (show Calls Tryz.prog 16 #[.pointer (some ⟨p.sb, 0, none⟩)] wx fun e w' => e = .returned (.int .i64 z1) ∧ wx.grownBy w' none from by
    have h := waiting18 hx (by decide)
    rw [show ((m3F.q.length : Nat) : Int) = z1 from hz1] at h
    exact h))
  clear w1 w2 w3 hz0 hz5 hz4 hz1
  go_enter Tryz.func8, Tryz.ntmps8
  go_upto_region 2 with (first
    | (go_at_call 10; refine OP1.mono ?_; rintro e w1 hop; obtain ⟨_, p, S, v, rfl, hO⟩ := hop.resolve_left (fun h => h.1 newE_none); have HO := Lib.hid hO; obtain ⟨vo, vn, vc, rfl⟩ := hO.vf; have hBn := Blk.new w1 33 (teC false 0 0 0 (.slice none 0 0)); clear hop hO)
    | (refine ten_store18 _ _ rfl rfl rfl hBn rfl rfl ?_; intro w2 hb2 hg2 hs2))
  have hE12 := g17_new (World.grownBy_alloc w1 (.cells (teC false 0 0 0 (.slice none 0 0)) 33) none) hg2 (Nat.le_refl _)
  have hp : S.pg = 4 := by have := HO.out.pgs; omega
  have ha : S.all = 6 := by have := HO.out.all; omega
  have hA2 : StAt w2 p (cF S) m0F := HO.out.st.ext HO.out.ok hE12
  have H2 := Lib.hid (And.intro (ext_trans HO.out.ext hE12) (And.intro hp ha))
  have W2 := W1.out w2 p S hp ha hA2 HO.out.ok
  clear hBn hb2 hg2 hs2 hE12 hp ha hA2 OP1
  have HI := Lib.hid (show hiB = ⟨#[104, 105]⟩ from rfl)
  rw [HI.out] at W2
  go_upto_region 10 with (first
    | (go_at_call 13; refine W2.mono ?_; rintro e w3 ⟨rfl, hA3, hk3⟩; have F3 := F1.out w3 p S H2.out.2.1 H2.out.2.2 hA3 HO.out.ok; have HK3 := Lib.hid hk3; clear hA3 hk3)
    | (go_at_call 15; refine F3.mono ?_; rintro e w4 ⟨rfl, hA4, hk4⟩; have R4 := R1.out w4 p S H2.out.2.1 H2.out.2.2 hA4 HO.out.ok; rw [HI.out] at R4; have HK4 := Lib.hid (And.intro hA4 (HK3.out.trans hk4)); clear hA4 hk4)
    | (go_at_call 14; refine R7.mono ?_; rintro e w8 ⟨rfl, hg8⟩; have HK8 := Lib.hid (And.intro (HK7.out.1.ext HO.out.ok hg8) (HK7.out.2.trans (Keeps.ext hg8))); clear hg8)
    | (go_at_call 14; refine R6.mono ?_; rintro e w7 ⟨rfl, hg7⟩; have HK7 := Lib.hid (And.intro (HK6.out.1.ext HO.out.ok hg7) (HK6.out.2.trans (Keeps.ext hg7))); have R7 := R3.out w7 p S H2.out.2.1 H2.out.2.2 HK7.out.1 HO.out.ok; clear hg7)
    | (go_at_call 14; refine R4.mono ?_; rintro e w5 ⟨rfl, hg5⟩; have HK5 := Lib.hid (And.intro (HK4.out.1.ext HO.out.ok hg5) (HK4.out.2.trans (Keeps.ext hg5))); have T5 := T1.out w5 p S H2.out.2.1 H2.out.2.2 HK5.out.1 HO.out.ok; clear hg5)
    | (go_at_call 12; refine T5.mono ?_; rintro e w6 ⟨rfl, hA6, hk6⟩; have R6 := R2.out w6 p S H2.out.2.1 H2.out.2.2 hA6 HO.out.ok; have HK6 := Lib.hid (And.intro hA6 (HK5.out.2.trans hk6)); clear hA6 hk6))
  clear W2 F3 R4 T5 R6 R7
  have S8 := SZ.out w8 p S HK8.out.1
  have O8 := RO.out w8 p S HK8.out.1
  have A8 := WA.out w8 p S HK8.out.1
  go_wp2_with (first
    | (go_at_call 30; refine S8.mono ?_; rintro e w9 ⟨rfl, rfl⟩)
    | (go_at_call 11; refine O8.mono ?_; rintro e w10 ⟨rfl, rfl⟩)
    | (go_at_call 16; refine A8.mono ?_; rintro e w11 ⟨rfl, hg11⟩))
  go_ret
  exact ⟨rfl, keeps_new18 H2.out.1 (HK8.out.2.trans (Keeps.ext hg11)) HO.out.lo HO.out.lb⟩

end Go.Proofs.YtdadgcfpcneaiaaGreatDoor

/-
  Layer 18's law: StoreNone.
-/
namespace Go.Proofs.YtdadgcfpcneaiaaGreatDoor
set_option linter.unusedVariables false
set_option linter.unusedSimpArgs false
set_option linter.unusedVariables false
set_option linter.unusedSimpArgs false
set_option maxRecDepth 100000
open Go.RowKit

theorem new_nilz18 (z : Int) (hz : (1 : Int) = z) (v : Value) (w : World) : Calls Tryz.prog 27 #[.pointer none, .int .i64 1, .agg #[.bool true, .int .i64 0, .int .i64 0, .int .i64 0, v]] w fun e w' => e = .returned (.tuple #[.pointer none, .int .i64 z]) ∧ w.grownBy w' none := by
  subst hz
  exact new_nil18 1 0 0 0 v true w

set_option maxHeartbeats 6400000 in
theorem storeNone18_any (q : Int) (dt : ByteArray) (w : World) (hF : Flds w) : Calls Tryz.prog 7 #[.int .i64 q, .string dt] w fun e w' => e = .returned (.bool true) ∧ w.grownBy w' none := by
  have FX := fixed18_any w hF
  obtain ⟨z1, hz1, h11⟩ : ∃ z : Int, (1 : Int) = z ∧ (z == 1) = true := ⟨1, rfl, rfl⟩
  have RD := read_nil18 q
  have GV := give_nil18
  have RSZ := resize_nil18 q
  have TK := take_nil18 q 3
  have NW := new_nilz18 z1 hz1
  have WR := write_nil18 q dt
  have TR := trim_nil18 q
  have FL := flush_nil18
  have CO := coll_nil18 q
  have PU := purge_nil18 q
  have RE := restore_nil18
  rw [hz1] at RD WR TR FL CO PU RE
  have RO := readOnly_nil18
  have FR := free_nil18
  have BA := bad_nil18
  have WA := waiting_nil18
  have SI := size_nil18
  have BL := blocks_nil18
  clear hz1
  go_enter Tryz.func7, Tryz.ntmps7
  go_upto_region 9 with (first
    | (go_at_call 8; refine FX.mono ?_; rintro e w1 ⟨rfl, hg1⟩; have HG1 := Lib.hid hg1; clear hg1)
    | (go_at_call 14; refine (RD _).mono ?_; rintro e w2 ⟨rfl, rfl⟩)
    | (go_at_call 24; refine (GV _).mono ?_; rintro e w2 ⟨rfl, rfl⟩)
    | (go_at_call 25; refine (RSZ _).mono ?_; rintro e w2 ⟨rfl, rfl⟩)
    | (go_at_call 26; refine (TK _).mono ?_; rintro e w2 ⟨rfl, rfl⟩)
    | (go_at_call 27; refine (NW _ _).mono ?_; rintro e w3 ⟨rfl, hg3⟩; have HG3 := Lib.hid (ext_trans (ext_trans HG1.out (World.grownBy_alloc w1 _ none)) hg3); clear hg3))
  clear RD GV RSZ TK NW FX
  go_wp2_with (first
    | (go_at_call 13; refine (WR _).mono ?_; rintro e w4 ⟨rfl, hg4⟩; have HG4 := Lib.hid (ext_trans HG3.out hg4); clear hg4)
    | (go_at_call 12; refine (TR _).mono ?_; rintro e w5 ⟨rfl, hg5⟩; have HG5 := Lib.hid (ext_trans HG4.out hg5); clear hg5)
    | (go_at_call 15; refine (FL _).mono ?_; rintro e w6 ⟨rfl, rfl⟩)
    | (go_at_call 17; refine (CO _).mono ?_; rintro e w6 ⟨rfl, rfl⟩)
    | (go_at_call 28; refine (PU _).mono ?_; rintro e w6 ⟨rfl, rfl⟩)
    | (go_at_call 29; refine (RE _).mono ?_; rintro e w6 ⟨rfl, hg6⟩; have HG6 := Lib.hid (ext_trans HG5.out hg6); clear hg6)
    | (go_at_call 11; refine (RO _).mono ?_; rintro e w7 ⟨rfl, rfl⟩)
    | (go_at_call 23; refine (FR _).mono ?_; rintro e w7 ⟨rfl, rfl⟩)
    | (go_at_call 19; refine (BA _).mono ?_; rintro e w7 ⟨rfl, rfl⟩)
    | (go_at_call 16; refine (WA _).mono ?_; rintro e w7 ⟨rfl, rfl⟩)
    | (go_at_call 30; refine (SI _).mono ?_; rintro e w7 ⟨rfl, rfl⟩)
    | (go_at_call 31; refine (BL _).mono ?_; rintro e w7 ⟨rfl, rfl⟩))
  go_ret
  exact ⟨rfl, HG6.out⟩

end Go.Proofs.YtdadgcfpcneaiaaGreatDoor

/-
  Where start-up lays package tag's table of fields: what the rows' condition gives the walks.
-/
namespace Go.Proofs.YtdadgcfpcneaiaaGreatDoor
set_option linter.unusedVariables false
set_option linter.unusedSimpArgs false
set_option linter.unusedVariables false
set_option linter.unusedSimpArgs false
set_option maxRecDepth 100000
open Go.ChangeShapes Go.WideShapes Go.ChangeAt Go.WideMaps Go.WideElems Go.RowKit

def laidTag : List (String × DataW Unit) := [("almshouse/tag.fields", Rows.laid_almshouse_tag_fields)]
theorem gFields : Tryz.prog.globalNamed "almshouse/tag.fields" = some 0 := by kernel_rfl
theorem tFields : (Tryz.prog.globals[0]?).map (·.type) = some 186 := by kernel_rfl

/-- The door's own heap meets the condition: three closed facts. -/
theorem door_met (os : Os) (args : Array Value) : laidMetH Tryz.prog laidTag ((World.doorLaid Tryz.prog 19 os).forCall (fun _ _ => 0) ⟨#[], args, []⟩).memory :=
  laidMetH_of_parts3 (fuel := 8) (laidMet_of_run' 8 (by kernel_rfl) (by kernel_rfl)) (by kernel_rfl) (by kernel_rfl)

theorem one_of {H : Type} {enc : TypeId × Value → H} {W : World} {base : Nat} {sp : Nat → Bool} {held : Bool} {fuel : Nat} {cs : List Value} {x : DataW H × List MemPlace} {a b c : Int}
    (h : DataW.trod enc Tryz.prog W base sp held fuel 185 cs = some x) (hx : x.1 = .agg [.lit (.int .i64 a), .lit (.int .i64 b), .lit (.int .i64 c)]) :
    cs.take 1 = [.int .i64 a] ∧ (cs.drop 1).take 1 = [.int .i64 b] ∧ (cs.drop 2).take 1 = [.int .i64 c] := by
  obtain ⟨ys, n, _, rfl, hlen, hn, hel⟩ := DataW.trod_struct Tryz.underlying185 h
  have c3 : Tryz.prog.cellsOf 3 = 1 := by kernel_rfl
  have h0 : DataW.trod enc Tryz.prog W base sp held n 3 ((cs.drop 0).take (Tryz.prog.cellsOf 3)) = ys[0]? := hel 0 _ rfl
  have h1 : DataW.trod enc Tryz.prog W base sp held n 3 ((cs.drop 1).take (Tryz.prog.cellsOf 3)) = ys[1]? := hel 1 _ rfl
  have h2 : DataW.trod enc Tryz.prog W base sp held n 3 ((cs.drop 2).take (Tryz.prog.cellsOf 3)) = ys[2]? := hel 2 _ rfl
  rw [c3] at h0 h1 h2
  match ys, hn, hx, h0, h1, h2 with
  | [y0, y1, y2], _, hx, h0, h1, h2 =>
    obtain ⟨k0, e0, f0, _⟩ := DataW.trod_int Tryz.underlying3 (show DataW.trod _ Tryz.prog W base sp held n 3 _ = some y0 from h0)
    obtain ⟨k1, e1, f1, _⟩ := DataW.trod_int Tryz.underlying3 (show DataW.trod _ Tryz.prog W base sp held n 3 _ = some y1 from h1)
    obtain ⟨k2, e2, f2, _⟩ := DataW.trod_int Tryz.underlying3 (show DataW.trod _ Tryz.prog W base sp held n 3 _ = some y2 from h2)
    simp only [List.map_cons, List.map_nil, DataW.agg.injEq, List.cons.injEq, f0, f1, f2, DataW.lit.injEq, Lit.int.injEq, true_and, and_true] at hx
    obtain ⟨rfl, rfl, rfl⟩ := hx
    exact ⟨by simpa using e0, e1, e2⟩

theorem cell_at {l : List Value} {i : Nat} {u : Value} (h : (l.drop i).take 1 = [u]) : l[i]? = some u := by
  have : ((l.drop i).take 1)[0]? = some u := by rw [h]; rfl
  simpa using this

/-- WHAT THE CONDITION GIVES THE WALKS. -/
theorem flds_of {W : World} (h : laidMetH Tryz.prog laidTag W) : Flds W := by
  rw [MakeChecks.laidMetH_plain _ _ _ (by kernel_rfl)] at h
  obtain ⟨ps, ⟨g0, t0, cs0, f0, p0, q0, hg0, ht0, hv0, hd0, _, _⟩, _, _⟩ := h
  obtain rfl := Option.some.inj (gFields.symm.trans hg0)
  obtain rfl := Option.some.inj (tFields.symm.trans ht0)
  have c40 : Tryz.prog.cellsOf 185 = 3 := by kernel_rfl
  obtain ⟨xs, m1, rfl, hx1, hlen, hn, hel⟩ := DataW.trod_array Tryz.underlying186 hd0
  simp only [c40] at hel
  have hcell : ∀ i u, cs0.toList[i]? = some u → W.cell? ⟨0, i, none⟩ = some u := fun i u hu => by
    rw [World.var?_cell hg0 hv0 i]
    simpa using hu
  simp only [Prod.mk.injEq, Rows.laid_almshouse_tag_fields, DataW.agg.injEq] at hx1
  match xs, hn, hx1, hel with
  | [x0, x1, x2, x3, x4], _, hx1, hel =>
    simp only [List.map_cons, List.map_nil, List.cons.injEq, and_true] at hx1
    obtain ⟨⟨e0, e1, e2, e3, e4⟩, _⟩ := hx1
    have get : ∀ (i : Nat) (a b c : Int), (((cs0.toList.drop (i * 3)).take 3).take 1 = [.int .i64 a] ∧ (((cs0.toList.drop (i * 3)).take 3).drop 1).take 1 = [.int .i64 b] ∧ (((cs0.toList.drop (i * 3)).take 3).drop 2).take 1 = [.int .i64 c]) →
        W.cell? ⟨0, i * 3, none⟩ = some (.int .i64 a) ∧ W.cell? ⟨0, i * 3 + 1, none⟩ = some (.int .i64 b) ∧ W.cell? ⟨0, i * 3 + 2, none⟩ = some (.int .i64 c) := fun i a b c ⟨h0, h1, h2⟩ => by
      refine ⟨hcell _ _ (cell_at ?_), hcell _ _ (cell_at ?_), hcell _ _ (cell_at ?_)⟩
      · simpa [List.take_take] using h0
      · rw [← List.drop_drop]; simpa [List.drop_take, List.take_take] using h1
      · rw [← List.drop_drop]; simpa [List.drop_take, List.take_take] using h2
    intro j hj
    have : j = 0 ∨ j = 1 ∨ j = 2 ∨ j = 3 ∨ j = 4 := by omega
    rcases this with rfl | rfl | rfl | rfl | rfl
    · exact get 0 1 0 3 (one_of (show DataW.trod _ Tryz.prog W 0 _ _ m1 185 _ = some x0 from hel 0 (by decide)) e0.symm)
    · exact get 1 4 0 2147483647 (one_of (show DataW.trod _ Tryz.prog W 0 _ _ m1 185 _ = some x1 from hel 1 (by decide)) e1.symm)
    · exact get 2 1 0 63 (one_of (show DataW.trod _ Tryz.prog W 0 _ _ m1 185 _ = some x2 from hel 2 (by decide)) e2.symm)
    · exact get 3 4 0 2147483647 (one_of (show DataW.trod _ Tryz.prog W 0 _ _ m1 185 _ = some x3 from hel 3 (by decide)) e3.symm)
    · exact get 4 1 1 2 (one_of (show DataW.trod _ Tryz.prog W 0 _ _ m1 185 _ = some x4 from hel 4 (by decide)) e4.symm)

end Go.Proofs.YtdadgcfpcneaiaaGreatDoor
