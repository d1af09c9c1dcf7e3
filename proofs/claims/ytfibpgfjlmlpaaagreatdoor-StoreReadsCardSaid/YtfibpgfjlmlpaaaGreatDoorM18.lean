/-
  Texts put together: JP JQ JR ZA ZB ZC ZD ZE ZF.
-/
import Derived.Test.YtfibpgfjlmlpaaaGreatDoorM17
import Derived.Test.YtfibpgfjlmlpaaaGreatDoorM06
import Derived.Test.YtfibpgfjlmlpaaaGreatDoorM16
import Derived.Test.YtfibpgfjlmlpaaaGreatDoorM15
import Derived.Test.YtfibpgfjlmlpaaaGreatDoorM11
/-
  Layer 18's law: fixed.
-/
namespace Go.Proofs.YtfibpgfjlmlpaaaGreatDoor
set_option linter.unusedVariables false
set_option linter.unusedSimpArgs false
set_option linter.unusedVariables false
set_option linter.unusedSimpArgs false
set_option maxRecDepth 100000
open Go.RowKit

def hiB : ByteArray := ⟨#[104, 105]⟩
def x1F : Chg := ⟨2, 1, hiB⟩
def x2F : Chg := ⟨2, 2, ⟨#[]⟩⟩
def b0F : NS := blankS [] (-1) false 0 (fun _ => 0) (fun _ => 0)
def tgF : List Int := frL 84 (tagL 1 1 2 0 1 false)
def n1F : NS := progDone 2 0 ⟨1, tgF, hiB⟩ b0F 1
def cF (S : NShape) : SC := ⟨S, zsO [], 1, 1, 4, 1, blO 4⟩
def m0F : SM := ⟨b0F, [], [], 0, -1, false⟩
def m1F : SM := ⟨b0F, [], [x1F], 0, -1, false⟩
def m2F : SM := ⟨n1F, [⟨2, 0, 0⟩], [], 1, 0, false⟩
def m3F : SM := ⟨n1F, [⟨2, 0, 0⟩], [x2F], 1, 0, false⟩
theorem zsO_none : zsO [] = noZs := by
  funext j
  unfold zsO noZs
  split <;> rfl
theorem tgF_len : tgF.length = 19 := by unfold tgF; rw [frL_len, tagL_len]
theorem n1F_L : n1F.L = updL (fun _ _ => Pg.none 0) 2 0 ⟨1, tgF, hiB⟩ := progDone_L _ _ _ _ _
theorem calmF : Calm b0F 0 := blank_calm _
theorem calm1F : Calm n1F 2 := progDone_calm _ _ _ _ calmF

section
variable {S : NShape} (hp : S.pg = 4) (ha : S.all = 6)
set_option linter.unusedSectionVars false
include hp ha
theorem free0F : freeL (cF S) m1F = [0, 1, 2, 3] := by
  have h : ∀ b, freeB (cF S) m1F b = true := fun b => by
    have h1 : nextB (cF S) m1F b = 0 := nextN_blank _
    have h2 : badB (cF S) m1F b = false := rfl
    unfold freeB
    rw [h1, h2]
    have h3 : decide ((b : Int) ≠ m1F.fr) = true := by
      have : m1F.fr = -1 := rfl
      rw [this]
      exact decide_eq_true (by omega)
    rw [h3]
    rfl
  unfold freeL
  rw [List.filter_eq_self.2 (fun b _ => h b)]
  rfl
theorem spr0F : sprN (cF S) m1F = 1 := by
  have h : badN (cF S) m1F = 0 := by
    unfold badN
    rw [List.length_eq_zero_iff, List.filter_eq_nil_iff]
    intro b _
    show ¬ (false = true)
    decide
  unfold sprN
  rw [h]
  rfl
theorem room0F (k : Nat) : roomR (cF S) m1F k = some (0, { m1F with fr := 0 }) := by
  unfold roomR
  have h1 : hasS (cF S) m1F.fr = false := by unfold hasS; exact decide_eq_false (by show ¬ ((0 : Int) ≤ -1 ∧ _); omega)
  rw [h1, Bool.false_and, if_neg (by decide), free0F hp ha, spr0F hp ha, if_pos (by decide)]
  rfl
theorem lack0F : lackE S 2 0 = 0 := by unfold lackE hasB; rw [ha, hp, if_pos (by decide), if_pos (by decide)]
theorem prg0F : prgE (cF S) b0F 0 0 2 0 1 1 1 false hiB = 0 ∧ prgS (cF S) b0F 0 0 2 0 1 1 1 false hiB = n1F := by
  have hok : okB 1 1 2 0 1 = true := by decide
  have htb : tagBL 1 1 2 0 1 false = tgF := by unfold tagBL; rw [if_pos hok]; rfl
  have hph : (cF S).ph 0 = 2 := rfl
  have hl := lack0F hp ha
  have hnx : nextN (b0F.L 2) S.pg = 0 := nextN_blank _
  unfold prgE prgS
  rw [if_pos hok, if_pos hok, htb, tgF_len, hph]
  show progE S (zsO []) b0F 1 2 0 19 hiB.size = 0 ∧ progS S (zsO []) b0F 1 2 0 tgF hiB = n1F
  rw [zsO_none]
  constructor
  · unfold progE
    rw [if_pos hl, if_neg (by decide), if_neg (by decide), show (2 : Int).toNat = 2 from rfl, hnx, if_pos (show (0 : Int) = ((0 : Nat) : Int) from rfl), calm_E calmF]
  · unfold progS
    rw [show (2 : Int).toNat = 2 from rfl, show (0 : Int).toNat = 0 from rfl, hnx, if_pos ⟨hl, by rw [tgF_len]; decide, rfl, rfl⟩, calm_S calmF]
    rfl
theorem put0F : putE18 (cF S) { m1F with fr := 0 } x1F = 0 ∧ putM (cF S) { m1F with fr := 0 } x1F = { m2F with q := [x1F] } := by
  have hn : nextB (cF S) { m1F with fr := 0 } 0 = 0 := nextN_blank _
  obtain ⟨p1, p2⟩ := prg0F hp ha
  have s1 : setE (cF S).bl.length (cF S).S.pg [] 2 0 0 = 0 := by
    show setE 4 (S.pg : Int) [] 2 0 0 = 0
    rw [hp]
    decide
  have e1 : prgE (cF S) b0F 0 (nextB (cF S) { m1F with fr := 0 } (0 : Int).toNat) 2 0 1 1 1 false hiB = 0 := by
    rw [show (0 : Int).toNat = 0 from rfl, hn]; exact p1
  have e2 : prgS (cF S) b0F 0 (nextB (cF S) { m1F with fr := 0 } (0 : Int).toNat) 2 0 1 1 1 false hiB = n1F := by
    rw [show (0 : Int).toNat = 0 from rfl, hn]; exact p2
  constructor
  · show (if prgE (cF S) b0F 0 (nextB (cF S) { m1F with fr := 0 } (0 : Int).toNat) 2 0 1 1 1 false hiB = 0 then setE (cF S).bl.length (cF S).S.pg [] 2 0 (nextB (cF S) { m1F with fr := 0 } (0 : Int).toNat) else prgE (cF S) b0F 0 (nextB (cF S) { m1F with fr := 0 } (0 : Int).toNat) 2 0 1 1 1 false hiB) = 0
    rw [if_pos e1, show (0 : Int).toNat = 0 from rfl, hn]
    exact s1
  · have r1 : setR (cF S).bl.length (cF S).S.pg [] 2 0 0 = [⟨2, 0, 0⟩] := by
      unfold setR
      rw [s1, if_pos rfl]
      rfl
    show (if prgE (cF S) b0F 0 (nextB (cF S) { m1F with fr := 0 } (0 : Int).toNat) 2 0 1 1 1 false hiB = 0 then (⟨prgS (cF S) b0F 0 (nextB (cF S) { m1F with fr := 0 } (0 : Int).toNat) 2 0 1 1 1 false hiB, setR (cF S).bl.length (cF S).S.pg [] 2 0 (nextB (cF S) { m1F with fr := 0 } (0 : Int).toNat), [x1F], 0 + 1, 0, false⟩ : SM) else _) = _
    rw [if_pos e1, e2, show (0 : Int).toNat = 0 from rfl, hn]
    show (⟨n1F, setR (cF S).bl.length (cF S).S.pg [] 2 0 0, [x1F], 0 + 1, 0, false⟩ : SM) = _
    rw [r1]
    rfl
theorem flu0F : fluR (cF S) 100 m1F = some (0, m2F) := by
  have hc : chgR (cF S) x1F 100 100 m1F = some (0, { m2F with q := [x1F] }) := by
    rw [show (100 : Nat) = 99 + 1 from rfl]
    conv => lhs; unfold chgR
    rw [show (99 + 1 : Nat) = 100 from rfl, room0F hp ha 100]
    obtain ⟨p1, p2⟩ := put0F hp ha
    simp only [p1, p2]
    rfl
  have hf : firR (cF S) 100 m1F = some (0, m2F) := by
    unfold firR
    rw [if_neg (by decide), show firstC m1F.q = x1F from rfl, hc]
    rfl
  unfold fluR
  rw [if_neg (by decide), show m1F.q.length = 0 + 1 from rfl]
  unfold fluF
  rw [hf]
  rfl
theorem find0F : fdF (cF S) n1F 0 0 = ⟨0, 0, false, 1, 1, 2, 0, 1, false, hiB⟩ ∧ fdE (cF S) n1F 0 0 = 0 := by
  have hL : n1F.L 2 0 = ⟨1, tgF, hiB⟩ := by rw [n1F_L]; rfl
  have hr : readE S n1F 2 0 = 0 := by
    unfold readE
    rw [if_pos (lack0F hp ha), calm1F.off]
    show (if (n1F.L 2 0).st = 0 then (6 : Int) else if (n1F.L 2 0).st = 2 then 11 else 0) = 0
    rw [hL]
    decide
  have hph : (cF S).ph 0 = 2 := rfl
  have ho : oneF (cF S) n1F 0 0 = ⟨0, 0, false, 1, 1, 2, 0, 1, false, hiB⟩ := by
    unfold oneF
    rw [if_pos (show (0 : Int) ≤ 0 ∧ (0 : Int) < (((cF S).bl.length : Nat) : Int) from ⟨Int.le_refl _, by show (0 : Int) < ((blO 4).length : Int); rw [blO_len]; decide⟩), hph]
    show findF S n1F 2 0 0 = _
    unfold findF
    rw [hr, if_neg (by decide), if_pos rfl]
    show fndOf 0 0 (n1F.L 2 0).bs (n1F.L 2 0).dt = _
    rw [hL]
    obtain ⟨q0, q1, q2, q3, q4, q5, q6⟩ := ps_back (a := 1) (b := 1) (c := 2) (d := 0) (k := 1) (p := false) (by decide)
    unfold fndOf tgF
    rw [if_pos q0, q1, q2, q3, q4, q5, q6]
  have he : oneE (cF S) n1F 0 0 = 0 := by
    unfold oneE
    rw [if_pos (show (0 : Int) ≤ 0 ∧ (0 : Int) < (((cF S).bl.length : Nat) : Int) from ⟨Int.le_refl _, by show (0 : Int) < ((blO 4).length : Int); rw [blO_len]; decide⟩), hph]
    show findE S n1F 2 0 = 0
    unfold findE
    rw [hr]
    decide
  unfold fdF fdE
  rw [ho, he]
  exact ⟨if_neg (by simp), if_neg (by simp)⟩
theorem rea0F : reaE (cF S) m2F 2 = 0 ∧ reaD (cF S) m2F 2 = hiB := by
  obtain ⟨h1, h2⟩ := find0F hp ha
  have hl : lacE (cF S) 2 = 0 := rfl
  constructor
  · unfold reaE
    rw [hl, if_neg (by decide), if_neg (by decide), if_pos (by decide)]
    exact h2
  · unfold reaD
    rw [hl, if_neg (by decide), if_neg (by decide), if_pos (by decide)]
    show (if (fdF (cF S) n1F 0 0).kd = 2 then _ else (fdF (cF S) n1F 0 0).dt) = _
    rw [h1]
    rfl
end
theorem wai0F (S : NShape) : waiR (cF S) 100 m0F x1F = some (0, m1F) := by
  unfold waiR
  rw [if_neg (by show ¬ (lacE (cF S) 2 ≠ 0); rw [show lacE (cF S) 2 = 0 from rfl]; decide), if_neg (by decide), if_neg (by decide), if_neg (by decide)]
  rfl
theorem wai1F (S : NShape) : waiR (cF S) 100 m2F x2F = some (0, m3F) := by
  unfold waiR
  rw [if_neg (by show ¬ (lacE (cF S) 2 ≠ 0); rw [show lacE (cF S) 2 = 0 from rfl]; decide), if_neg (by decide), if_neg (by decide), if_neg (by decide)]
  rfl
theorem rea1F (S : NShape) : reaE (cF S) m3F 2 = 0 ∧ reaD (cF S) m3F 2 = ⟨#[]⟩ := by
  have hl : lacE (cF S) 2 = 0 := rfl
  constructor
  · unfold reaE
    rw [hl, if_neg (by decide), if_pos (by decide)]
  · unfold reaD
    rw [hl, if_neg (by decide), if_pos (by decide)]
    rfl
theorem rea2F (S : NShape) : reaE (cF S) m3F 4 = 5 ∧ reaD (cF S) m3F 4 = ⟨#[]⟩ := by
  have hl : lacE (cF S) 4 = 5 := rfl
  constructor
  · unfold reaE
    rw [hl, if_pos (by decide)]
  · unfold reaD
    rw [hl, if_pos (by decide)]
theorem wf0F (S : NShape) : Wf (cF S) m0F 0 := by
  refine Wf.mk' calmF.cnt ⟨fun i j => ?_, fun i j => ?_, fun i j => ?_⟩ ⟨Int.le_refl _, Int.le_refl _⟩ (by decide) (fun x hx => by cases hx) (by
    show (-1 : Int) ≤ -1 ∧ (-1 : Int) < ((blO 4).length : Int)
    rw [blO_len]
    omega)
  · intro x hx; cases hx
  · exact Nat.zero_le _
  · exact Nat.zero_le _
theorem szF : szO 3 = 4 := by decide
theorem prF : prO 1 = 1 := by decide
theorem pgF : pgO 2 = 4 := by decide
theorem toF : (toO 3 1 2 0).toNat = 4 := by decide

def Fix18 : Prop := ∀ w : World, Flds w → Calls Tryz.prog 10 #[] w fun e w' => e = .returned (.bool true) ∧ w.grownBy w' none

end Go.Proofs.YtfibpgfjlmlpaaaGreatDoor

/-
  Layer 18 (store): a nil store.
-/
namespace Go.Proofs.YtfibpgfjlmlpaaaGreatDoor
set_option linter.unusedVariables false
set_option linter.unusedSimpArgs false
set_option linter.unusedVariables false
set_option linter.unusedSimpArgs false
set_option maxRecDepth 100000
open Go.RowKit

theorem lacks_nil18 (q : Int) (w : World) : Calls Tryz.prog 43 #[.pointer none, .int .i64 q] w fun e w' => e = .returned (.int .i64 1) ∧ w = w' := by
  go_enter Tryz.func43, Tryz.ntmps43
  go_wp2
  go_ret
  exact ⟨rfl, rfl⟩
theorem has_nil18 (q : Int) (w : World) : Calls Tryz.prog 49 #[.pointer none, .int .i64 q] w fun e w' => e = .returned (.bool false) ∧ w = w' := by
  go_enter Tryz.func49, Tryz.ntmps49
  go_wp2
  go_ret
  exact ⟨rfl, rfl⟩
theorem wait_nil18 (x : Chg) (w : World) : Calls Tryz.prog 42 #[.pointer none, .agg (chgC x)] w fun e w' => e = .returned (.int .i64 1) ∧ w.grownBy w' none := by
  have LK := lacks_nil18 x.pl
  obtain ⟨z, hz, hzb⟩ : ∃ z : Int, (1 : Int) = z ∧ (z != 0) = true := ⟨1, rfl, rfl⟩
  rw [hz] at LK ⊢
  have hb := Blk.new w 89 (chgC x)
  have HE := Lib.hid (World.grownBy_alloc w (.cells (chgC x) 89) none)
  obtain ⟨cb, hcb⟩ : ∃ y, w.heap.size = y := ⟨_, rfl⟩
  obtain ⟨w1, hw1⟩ : ∃ y, w.alloc (.cells (chgC x) 89) = y := ⟨_, rfl⟩
  rw [hw1] at hb HE
  rw [hcb] at hb
  have d0 : w1.cell? ⟨cb, 0, none⟩ = some (.int .i64 x.pl) := hb.cell 0
  clear hz hb
  go_enter Tryz.func42, Tryz.ntmps42
  go_upto_region 1 with fail
  clear hw1 hcb
  go_wp2_with (go_at_call 43; refine (LK _).mono ?_; rintro e1 w2 ⟨rfl, rfl⟩)
  go_ret
  exact ⟨rfl, HE.out⟩
theorem write_nil18 (pl : Int) (dt : ByteArray) (w : World) : Calls Tryz.prog 15 #[.pointer none, .int .i64 pl, .string dt] w fun e w' => e = .returned (.int .i64 1) ∧ w.grownBy w' none := by
  have W := wait_nil18 ⟨pl, 1, dt⟩ w
  rw [show (chgC ⟨pl, 1, dt⟩) = #[.int .i64 pl, .int .i64 1, .string dt] from rfl] at W
  go_enter Tryz.func15, Tryz.ntmps15
  go_wp2_with (go_at_call 42; refine W.mono ?_; rintro e1 w1 ⟨rfl, hg⟩)
  go_ret
  exact ⟨rfl, hg⟩
theorem trim_nil18 (pl : Int) (w : World) : Calls Tryz.prog 14 #[.pointer none, .int .i64 pl] w fun e w' => e = .returned (.int .i64 1) ∧ w.grownBy w' none := by
  have W := wait_nil18 ⟨pl, 2, ⟨#[]⟩⟩ w
  rw [show (chgC ⟨pl, 2, ⟨#[]⟩⟩) = #[.int .i64 pl, .int .i64 2, .string ⟨#[]⟩] from rfl] at W
  go_enter Tryz.func14, Tryz.ntmps14
  go_wp2_with (go_at_call 42; refine W.mono ?_; rintro e1 w1 ⟨rfl, hg⟩)
  go_ret
  exact ⟨rfl, hg⟩
theorem flush_nil18 (w : World) : Calls Tryz.prog 17 #[.pointer none] w fun e w' => e = .returned (.int .i64 1) ∧ w = w' := by
  go_enter Tryz.func17, Tryz.ntmps17
  go_wp2
  go_ret
  exact ⟨rfl, rfl⟩
theorem coll_nil18 (b : Int) (w : World) : Calls Tryz.prog 19 #[.pointer none, .int .i64 b] w fun e w' => e = .returned (.int .i64 1) ∧ w = w' := by
  go_enter Tryz.func19, Tryz.ntmps19
  go_wp2
  go_ret
  exact ⟨rfl, rfl⟩
theorem restore_nil18 (w : World) : Calls Tryz.prog 62 #[.pointer none, .agg #[.slice none 0 0, .slice none 0 0, .int .i64 0]] w fun e w' => e = .returned (.int .i64 1) ∧ w.grownBy w' none := by
  have HE := Lib.hid (World.grownBy_alloc w (.cells #[.slice none 0 0, .slice none 0 0, .int .i64 0] 127) none)
  go_enter Tryz.func62, Tryz.ntmps62
  go_wp2
  go_ret
  exact ⟨rfl, HE.out⟩
theorem readOnly_nil18 (w : World) : Calls Tryz.prog 13 #[.pointer none] w fun e w' => e = .returned (.bool true) ∧ w = w' := by
  go_enter Tryz.func13, Tryz.ntmps13
  go_wp2
  go_ret
  exact ⟨rfl, rfl⟩
theorem free_nil18 (w : World) : Calls Tryz.prog 25 #[.pointer none] w fun e w' => e = .returned (.slice none 0 0) ∧ w = w' := by
  go_enter Tryz.func25, Tryz.ntmps25
  go_wp2
  go_ret
  exact ⟨rfl, rfl⟩
theorem give_nil18 (w : World) : Calls Tryz.prog 118 #[.pointer none] w fun e w' => e = .returned (.tuple #[.int .i64 0, .bool false]) ∧ w = w' := by
  have F := free_nil18 w
  go_enter Tryz.func118, Tryz.ntmps118
  go_wp2_with (go_at_call 25; refine F.mono ?_; rintro e1 w1 ⟨rfl, rfl⟩)
  go_returns
  exact ⟨rfl, rfl⟩
theorem bad_nil18 (w : World) : Calls Tryz.prog 21 #[.pointer none] w fun e w' => e = .returned (.int .i64 0) ∧ w = w' := by
  go_enter Tryz.func21, Tryz.ntmps21
  go_wp2
  go_ret
  exact ⟨rfl, rfl⟩
theorem waiting_nil18 (w : World) : Calls Tryz.prog 18 #[.pointer none] w fun e w' => e = .returned (.int .i64 0) ∧ w = w' := by
  go_enter Tryz.func18, Tryz.ntmps18
  go_wp2
  go_ret
  exact ⟨rfl, rfl⟩
theorem size_nil18 (w : World) : Calls Tryz.prog 35 #[.pointer none] w fun e w' => e = .returned (.int .i64 0) ∧ w = w' := by
  go_enter Tryz.func35, Tryz.ntmps35
  go_wp2
  go_ret
  exact ⟨rfl, rfl⟩
theorem read_nil18 (q : Int) (w : World) : Calls Tryz.prog 16 #[.pointer none, .int .i64 q] w fun e w' => e = .returned (.tuple #[.string ⟨#[]⟩, .int .i64 1]) ∧ w = w' := by
  have LK := lacks_nil18 q w
  obtain ⟨z, hz, hzb⟩ : ∃ z : Int, (1 : Int) = z ∧ (z != 0) = true := ⟨1, rfl, rfl⟩
  rw [hz] at LK ⊢
  clear hz
  go_enter Tryz.func16, Tryz.ntmps16
  go_wp2_with (go_at_call 43; refine LK.mono ?_; rintro e1 w1 ⟨rfl, rfl⟩)
  go_returns
  exact ⟨rfl, rfl⟩
theorem new_nil18 (who ep sz sp : Int) (v : Value) (t : Bool) (w : World) : Calls Tryz.prog 41 #[.pointer none, .int .i64 who, .agg #[.bool t, .int .i64 ep, .int .i64 sz, .int .i64 sp, v]] w fun e w' => e = .returned (.tuple #[.pointer none, .int .i64 1]) ∧ w.grownBy w' none := by
  have HE := Lib.hid (World.grownBy_alloc w (.cells #[.bool t, .int .i64 ep, .int .i64 sz, .int .i64 sp, v] 33) none)
  go_enter Tryz.func41, Tryz.ntmps41
  go_wp2
  go_returns
  exact ⟨rfl, HE.out⟩

end Go.Proofs.YtfibpgfjlmlpaaaGreatDoor

/-
  Layer 18's law: fixed, StoreNone.
-/
namespace Go.Proofs.YtfibpgfjlmlpaaaGreatDoor
set_option linter.unusedVariables false
set_option linter.unusedSimpArgs false
set_option linter.unusedVariables false
set_option linter.unusedSimpArgs false
set_option maxRecDepth 100000
open Go.RowKit

theorem sp_ok18 : (-9223372036854775000 : Int) ≤ 1 ∧ (1 : Int) ≤ 9223372036854775000 := ⟨by decide, by decide⟩
theorem newE_none : newE (zsO []) = 0 := by rw [zsO_none]; decide
/-- Of the store's own memory only; all of it is new. -/
theorem keeps_new18 {w0 w w' : World} {p : SP} {c : SC} (hE : w0.grownBy w none) (hk : Keeps (tS p c) w w') (hlo : ∀ k, c.S.T k ≠ 0 → w0.heap.size ≤ k) (hb : w0.heap.size ≤ p.sb ∧ w0.heap.size ≤ p.tb ∧ w0.heap.size ≤ p.bb) : w0.grownBy w' none :=
  Keeps.grown hE hk (fun k hk2 => by
    unfold tS at hk2
    split at hk2
    · omega
    · exact hlo k hk2)

set_option maxHeartbeats 6400000 in
theorem fixed18_any : Fix18 := by
  intro w hF
  have OP := fun (wx : World) (hE : w.grownBy wx none) => open18 3 1 2 0 (.slice none 0 0) [] wx (hF.ext hE) (.inl ⟨rfl, rfl⟩) (fun k hk => by simp [Value.ownBlock] at hk) (by decide)
  rw [szF, prF, pgF, toF] at OP
  have OP1 := OP w (Ext.refl w)
  clear OP
  obtain ⟨z0, hz0, h00⟩ : ∃ z : Int, (0 : Int) = z ∧ (z == 0) = true := ⟨0, rfl, rfl⟩
  obtain ⟨z5, hz5, h55⟩ : ∃ z : Int, (5 : Int) = z ∧ (z == 5) = true := ⟨5, rfl, rfl⟩
  obtain ⟨z4, hz4, h44⟩ : ∃ z : Int, (4 : Int) = z ∧ (z == 4) = true := ⟨4, rfl, rfl⟩
  obtain ⟨z1, hz1, h11⟩ : ∃ z : Int, (1 : Int) = z ∧ (z == 1) = true := ⟨1, rfl, rfl⟩
  have W1 := Lib.hid (fun (wx : World) p (S : NShape) (hp : S.pg = 4) (ha : S.all = 6) (hx : StAt wx p (cF S) m0F) (ok : StOk p (cF S)) => (hz0 ▸ write18 hx ok (wf0F S) sp_ok18 (by decide) 2 hiB (by decide) (wai0F S) : Calls Tryz.prog 15 #[.pointer (some ⟨p.sb, 0, none⟩), .int .i64 2, .string hiB] wx (Gs p (cF S) (.int .i64 z0) m1F wx)))
  have w1 : ∀ S : NShape, S.pg = 4 → Wf (cF S) m1F 4002000 := fun S hp => wf_wai (by show S.pg ≤ 16; omega) (wf0F S) (wai0F S)
  have F1 := Lib.hid (fun (wx : World) p (S : NShape) (hp : S.pg = 4) (ha : S.all = 6) (hx : StAt wx p (cF S) m1F) (ok : StOk p (cF S)) => (hz0 ▸ flush18 hx ok (w1 S hp) sp_ok18 (by decide) (flu0F hp ha) : Calls Tryz.prog 17 #[.pointer (some ⟨p.sb, 0, none⟩)] wx (Gs p (cF S) (.int .i64 z0) m2F wx)))
  have w2 : ∀ S : NShape, S.pg = 4 → S.all = 6 → Wf (cF S) m2F 8004000 := fun S hp ha => by
    have h := wf_flu (c := cF S) (by show S.pg ≤ 16; omega) 1 m1F 4002000 0 m2F (w1 S hp) (by have := flu0F hp ha; unfold fluR at this; rw [if_neg (by decide)] at this; exact this)
    exact h.mono (by decide)
  have R1 := Lib.hid (fun (wx : World) p (S : NShape) (hp : S.pg = 4) (ha : S.all = 6) (hx : StAt wx p (cF S) m2F) (ok : StOk p (cF S)) => (show Calls Tryz.prog 16 #[.pointer (some ⟨p.sb, 0, none⟩), .int .i64 2] wx (ReadP hiB z0 wx) from by
    have h := read18 hx ok (w2 S hp ha) 2
    rw [(rea0F hp ha).1, (rea0F hp ha).2, hz0] at h
    exact h))
  have T1 := Lib.hid (fun (wx : World) p (S : NShape) (hp : S.pg = 4) (ha : S.all = 6) (hx : StAt wx p (cF S) m2F) (ok : StOk p (cF S)) => (hz0 ▸ trim18 hx ok (w2 S hp ha) sp_ok18 (by decide) 2 (wai1F S) : Calls Tryz.prog 14 #[.pointer (some ⟨p.sb, 0, none⟩), .int .i64 2] wx (Gs p (cF S) (.int .i64 z0) m3F wx)))
  have w3 : ∀ S : NShape, S.pg = 4 → S.all = 6 → Wf (cF S) m3F 12006000 := fun S hp ha => (wf_wai (by show S.pg ≤ 16; omega) (w2 S hp ha) (wai1F S)).mono (by decide)
  have R2 := Lib.hid (fun (wx : World) p (S : NShape) (hp : S.pg = 4) (ha : S.all = 6) (hx : StAt wx p (cF S) m3F) (ok : StOk p (cF S)) => (show Calls Tryz.prog 16 #[.pointer (some ⟨p.sb, 0, none⟩), .int .i64 2] wx (ReadP ⟨#[]⟩ z0 wx) from by
    have h := read18 hx ok (w3 S hp ha) 2
    rw [(rea1F S).1, (rea1F S).2, hz0] at h
    exact h))
  have R3 := Lib.hid (fun (wx : World) p (S : NShape) (hp : S.pg = 4) (ha : S.all = 6) (hx : StAt wx p (cF S) m3F) (ok : StOk p (cF S)) => (show Calls Tryz.prog 16 #[.pointer (some ⟨p.sb, 0, none⟩), .int .i64 4] wx (ReadP ⟨#[]⟩ z5 wx) from by
    have h := read18 hx ok (w3 S hp ha) 4
    rw [(rea2F S).1, (rea2F S).2, hz5] at h
    exact h))
  have SZ := Lib.hid (fun (wx : World) p (S : NShape) (hx : StAt wx p (cF S) m3F) => (hz4 ▸ size18 hx : Calls Tryz.prog 35 #[.pointer (some ⟨p.sb, 0, none⟩)] wx fun e w' => e = .returned (.int .i64 z4) ∧ wx = w'))
  have RO := Lib.hid (fun (wx : World) p (S : NShape) (hx : StAt wx p (cF S) m3F) => (readOnly18 hx : Calls Tryz.prog 13 #[.pointer (some ⟨p.sb, 0, none⟩)] wx fun e w' => e = .returned (.bool false) ∧ wx = w'))
  have WA := Lib.hid (fun (wx : World) p (S : NShape) (hx : StAt wx p (cF S) m3F) => (show Calls Tryz.prog 18 #[.pointer (some ⟨p.sb, 0, none⟩)] wx fun e w' => e = .returned (.int .i64 z1) ∧ wx.grownBy w' none from by
    have h := waiting18 hx (by decide)
    rw [show ((m3F.q.length : Nat) : Int) = z1 from hz1] at h
    exact h))
  clear w1 w2 w3 hz0 hz5 hz4 hz1
  go_enter Tryz.func10, Tryz.ntmps10
  go_upto_region 2 with (first
    | (go_at_call 12; refine OP1.mono ?_; rintro e w1 hop; obtain ⟨_, p, S, v, rfl, hO⟩ := hop.resolve_left (fun h => h.1 newE_none); have HO := Lib.hid hO; obtain ⟨vo, vn, vc, rfl⟩ := hO.vf; have hBn := Blk.new w1 33 (teC false 0 0 0 (.slice none 0 0)); clear hop hO)
    | (refine ten_store18 _ _ rfl rfl rfl hBn rfl rfl ?_; intro w2 hb2 hg2 hs2))
  have hE12 := g17_new (World.grownBy_alloc w1 (.cells (teC false 0 0 0 (.slice none 0 0)) 33) none) hg2 (Nat.le_refl _)
  have hp : S.pg = 4 := by have := HO.out.pgs; omega
  have ha : S.all = 6 := by have := HO.out.all; omega
  have hA2 : StAt w2 p (cF S) m0F := HO.out.st.ext HO.out.ok hE12
  have H2 := Lib.hid (And.intro (ext_trans HO.out.ext hE12) (And.intro hp ha))
  have W2 := W1.out w2 p S hp ha hA2 HO.out.ok
  clear hBn hb2 hg2 hs2 hE12 hp ha hA2 OP1
  have HI := Lib.hid (show hiB = ⟨#[104, 105]⟩ from rfl)
  rw [HI.out] at W2
  go_upto_region 10 with (first
    | (go_at_call 15; refine W2.mono ?_; rintro e w3 ⟨rfl, hA3, hk3⟩; have F3 := F1.out w3 p S H2.out.2.1 H2.out.2.2 hA3 HO.out.ok; have HK3 := Lib.hid hk3; clear hA3 hk3)
    | (go_at_call 17; refine F3.mono ?_; rintro e w4 ⟨rfl, hA4, hk4⟩; have R4 := R1.out w4 p S H2.out.2.1 H2.out.2.2 hA4 HO.out.ok; rw [HI.out] at R4; have HK4 := Lib.hid (And.intro hA4 (HK3.out.trans hk4)); clear hA4 hk4)
    | (go_at_call 16; refine R7.mono ?_; rintro e w8 ⟨rfl, hg8⟩; have HK8 := Lib.hid (And.intro (HK7.out.1.ext HO.out.ok hg8) (HK7.out.2.trans (Keeps.ext hg8))); clear hg8)
    | (go_at_call 16; refine R6.mono ?_; rintro e w7 ⟨rfl, hg7⟩; have HK7 := Lib.hid (And.intro (HK6.out.1.ext HO.out.ok hg7) (HK6.out.2.trans (Keeps.ext hg7))); have R7 := R3.out w7 p S H2.out.2.1 H2.out.2.2 HK7.out.1 HO.out.ok; clear hg7)
    | (go_at_call 16; refine R4.mono ?_; rintro e w5 ⟨rfl, hg5⟩; have HK5 := Lib.hid (And.intro (HK4.out.1.ext HO.out.ok hg5) (HK4.out.2.trans (Keeps.ext hg5))); have T5 := T1.out w5 p S H2.out.2.1 H2.out.2.2 HK5.out.1 HO.out.ok; clear hg5)
    | (go_at_call 14; refine T5.mono ?_; rintro e w6 ⟨rfl, hA6, hk6⟩; have R6 := R2.out w6 p S H2.out.2.1 H2.out.2.2 hA6 HO.out.ok; have HK6 := Lib.hid (And.intro hA6 (HK5.out.2.trans hk6)); clear hA6 hk6))
  clear W2 F3 R4 T5 R6 R7
  have S8 := SZ.out w8 p S HK8.out.1
  have O8 := RO.out w8 p S HK8.out.1
  have A8 := WA.out w8 p S HK8.out.1
  go_wp2_with (first
    | (go_at_call 35; refine S8.mono ?_; rintro e w9 ⟨rfl, rfl⟩)
    | (go_at_call 13; refine O8.mono ?_; rintro e w10 ⟨rfl, rfl⟩)
    | (go_at_call 18; refine A8.mono ?_; rintro e w11 ⟨rfl, hg11⟩))
  go_ret
  exact ⟨rfl, keeps_new18 H2.out.1 (HK8.out.2.trans (Keeps.ext hg11)) HO.out.lo HO.out.lb⟩

end Go.Proofs.YtfibpgfjlmlpaaaGreatDoor

/-
  Layer 18, pure: what an operation comes to while the power lasts.
-/
namespace Go.Proofs.YtfibpgfjlmlpaaaGreatDoor
set_option linter.unusedVariables false
set_option linter.unusedSimpArgs false
set_option linter.unusedVariables false
set_option linter.unusedSimpArgs false
set_option maxRecDepth 100000
open Go.RowKit

/-- The power lasts. -/
structure LitS (s : NS) : Prop where
  px : s.px = -1
  off : s.off = false

/-- What an operation of who's comes to, but for the pages: its counts. -/
def opS (zs : Nat → List Int) (s : NS) (who : Int) : NS := drawS zs (spendS s) who
theorem opS_lit {zs : Nat → List Int} {s : NS} (h : LitS s) (who : Int) : LitS (opS zs s who) := by
  have h1 : (spendS s).px = -1 := by simp only [spendS, h.px, h.off]; rfl
  have h2 : (spendS s).off = false := by simp only [spendS, h.px, h.off]; rfl
  unfold opS drawS
  split
  · exact ⟨h1, h2⟩
  · exact ⟨h1, h2⟩
theorem opS_L (zs : Nat → List Int) (s : NS) (who : Int) : (opS zs s who).L = s.L := draw_L _ _ _
theorem opS_mr (zs : Nat → List Int) (s : NS) (who : Int) : (opS zs s who).mr = s.mr := by
  show (drawS zs (spendS s) who).mr = s.mr
  unfold drawS
  split <;> rfl
theorem opS_po {zs : Nat → List Int} {s : NS} (h : LitS s) (who : Int) : (opS zs s who).po = s.po + 1 := by
  have h1 : (spendS s).po = s.po + 1 := by simp only [spendS, h.off]; rfl
  show (drawS zs (spendS s) who).po = _
  unfold drawS
  split <;> exact h1
/-- The faults of one tenant. -/
theorem opS_M {zs : Nat → List Int} {s : NS} {who : Int} (hw : 0 ≤ who ∧ who < 4) : (opS zs s who).M who.toNat = if drawB zs s who then s.M who.toNat + 1 else s.M who.toNat := by
  show (drawS zs (spendS s) who).M who.toNat = _
  unfold drawS drawB
  rw [if_pos hw, if_pos hw]
  show nextM zs s.N s.M who.toNat who.toNat = _
  simp only [nextM, upd, if_true]
theorem operE_lit {zs : Nat → List Int} {s : NS} (h : LitS s) (who : Int) : operE zs s who = if drawB zs s who then 10 else 0 := by
  unfold operE
  rw [h.px, h.off, if_pos (by decide)]
theorem operS_lit {zs : Nat → List Int} {s : NS} (h : LitS s) (who : Int) (sp dn : NS → NS) : operS zs s who sp dn = if drawB zs s who then sp (opS zs s who) else dn (opS zs s who) := by
  unfold operS
  rw [h.px, h.off, if_neg (by decide), if_neg (by decide)]
  rfl

/-- What programming a page comes to: it fails, and the page is torn, or it is written. -/
structure PrgP (c : SC) (s : NS) (x pg : Nat) (p : Pg) (e : Int) (s' : NS) : Prop where
  lit : LitS s'
  mr : s'.mr = s.mr
  po : s'.po = s.po + 1
  other : ∀ i, i ≠ x → s'.L i = s.L i
  below : ∀ j, j ≠ pg → s'.L x j = s.L x j
  res : (e = 0 ∧ s'.L x pg = p ∧ s'.M c.who.toNat = s.M c.who.toNat) ∨ (e = 10 ∧ s'.L x pg = { s.L x pg with st := 2 } ∧ s'.M c.who.toNat = s.M c.who.toNat + 1)
theorem prg_lit {c : SC} {s : NS} (h : LitS s) (hw : 0 ≤ c.who ∧ c.who < 4) {b : Int} {x pg : Nat} (hx : c.ph b = x) (hxa : x < c.S.all) (hpg : pg < c.S.pg) (hm : s.mr x = false) (hn : nextN (s.L x) c.S.pg = pg) {te ep pl sq kd : Int} (hok : okB te ep pl sq kd = true) (cp : Bool) (dt : ByteArray) (hd : dt.size ≤ 160) :
    PrgP c s x pg ⟨1, tagBL te ep pl sq kd cp, dt⟩ (prgE c s b pg pl sq kd te ep cp dt) (prgS c s b pg pl sq kd te ep cp dt) := by
  have hl : lackE c.S (x : Int) (pg : Int) = 0 := by unfold lackE hasB; rw [if_pos (by simp; omega), if_pos (by omega)]
  have hlen : (tagBL te ep pl sq kd cp).length = 19 := by unfold tagBL; rw [if_pos hok, frL_len, tagL_len]
  unfold prgE prgS
  rw [if_pos hok, if_pos hok, hx]
  have he : progE c.S c.zs s c.who x pg (tagBL te ep pl sq kd cp).length dt.size = operE c.zs s c.who := by
    unfold progE
    rw [if_pos hl, hlen, if_neg (by omega), Int.toNat_natCast, hm, if_neg (by decide), hn, if_pos rfl]
  have hs : progS c.S c.zs s c.who x pg (tagBL te ep pl sq kd cp) dt = operS c.zs s c.who (tornPg x pg) (turnPg x pg ⟨1, tagBL te ep pl sq kd cp, dt⟩) := by
    unfold progS
    rw [Int.toNat_natCast, Int.toNat_natCast, if_pos ⟨hl, by rw [hlen]; omega, hm, by rw [hn]⟩]
  rw [he, hs, operE_lit h, operS_lit h]
  have hM := opS_M (zs := c.zs) (s := s) hw
  have hL := opS_L c.zs s c.who
  have hl2 := opS_lit (zs := c.zs) h c.who
  cases hd2 : drawB c.zs s c.who
  · rw [hd2] at hM
    simp only [Bool.false_eq_true, if_false] at hM ⊢
    refine ⟨⟨hl2.px, hl2.off⟩, opS_mr _ _ _, opS_po h _, fun i hi => ?_, fun j hj => ?_, .inl ⟨rfl, ?_, hM⟩⟩
    · simp only [turnPg, hL]; rw [if_neg hi]
    · simp only [turnPg, hL]; rw [if_pos trivial, if_neg hj]
    · simp only [turnPg]; rw [if_pos trivial, if_pos rfl]
  · rw [hd2] at hM
    simp only [if_true] at hM ⊢
    refine ⟨⟨hl2.px, hl2.off⟩, opS_mr _ _ _, opS_po h _, fun i hi => ?_, fun j hj => ?_, .inr ⟨rfl, ?_, hM⟩⟩
    · simp only [tornPg, turnPg, hL]; rw [if_neg hi]
    · simp only [tornPg, turnPg, hL]; rw [if_pos trivial, if_neg hj]
    · simp only [tornPg, turnPg, hL]; rw [if_pos trivial, if_pos rfl]

/-- What erasing comes to: it fails, and all pages are torn, or all are blank. -/
structure ErsP (c : SC) (s : NS) (x : Nat) (e : Int) (s' : NS) : Prop where
  lit : LitS s'
  mr : s'.mr = s.mr
  po : s'.po = s.po + 1
  other : ∀ i, i ≠ x → s'.L i = s.L i
  res : (e = 0 ∧ (∀ j, j < c.S.pg → s'.L x j = Pg.none 0) ∧ s'.M c.who.toNat = s.M c.who.toNat) ∨ (e = 10 ∧ (∀ j, j < c.S.pg → s'.L x j = Pg.none 2) ∧ s'.M c.who.toNat = s.M c.who.toNat + 1)
theorem ers_lit {c : SC} {s : NS} (h : LitS s) (hw : 0 ≤ c.who ∧ c.who < 4) {x : Nat} (hxa : x < c.S.all) (hm : s.mr x = false) : ErsP c s x (ersE c.S c.zs s c.who x) (ersS c.S c.zs s c.who x) := by
  have hb : hasB c.S (x : Int) = true := by unfold hasB; simp; omega
  have he : ersE c.S c.zs s c.who x = operE c.zs s c.who := by unfold ersE; rw [hb, if_pos rfl, Int.toNat_natCast, hm, if_neg (by decide)]
  have hs : ersS c.S c.zs s c.who x = operS c.zs s c.who (fillPg x c.S.pg 2) (eraseS x c.S.pg) := by unfold ersS; rw [hb, Int.toNat_natCast, hm, if_pos (by decide)]
  rw [he, hs, operE_lit h, operS_lit h]
  have hM := opS_M (zs := c.zs) (s := s) hw
  have hL := opS_L c.zs s c.who
  have hl2 := opS_lit (zs := c.zs) h c.who
  cases hd2 : drawB c.zs s c.who
  · rw [hd2] at hM
    simp only [Bool.false_eq_true, if_false] at hM ⊢
    refine ⟨⟨hl2.px, hl2.off⟩, opS_mr _ _ _, opS_po h _, fun i hi => ?_, .inl ⟨rfl, fun j hj => ?_, hM⟩⟩
    · show (fillTo x c.S.pg 0 (opS c.zs s c.who)).L i = _
      simp only [fillTo, hL]; rw [if_neg hi]
    · show (fillTo x c.S.pg 0 (opS c.zs s c.who)).L x j = _
      simp only [fillTo]; rw [if_pos trivial, if_pos hj]
  · rw [hd2] at hM
    simp only [if_true] at hM ⊢
    refine ⟨⟨hl2.px, hl2.off⟩, opS_mr _ _ _, opS_po h _, fun i hi => ?_, .inr ⟨rfl, fun j hj => ?_, hM⟩⟩
    · show (fillTo x c.S.pg 2 (opS c.zs s c.who)).L i = _
      simp only [fillTo, hL]; rw [if_neg hi]
    · show (fillTo x c.S.pg 2 (opS c.zs s c.who)).L x j = _
      simp only [fillTo]; rw [if_pos trivial, if_pos hj]

/-- What marking comes to. -/
theorem mark_lit {S : NShape} {s : NS} (h : LitS s) {x : Nat} (hxa : x < S.all) (h2 : 2 ≤ x) : markE S s x = 0 ∧ LitS (markS S s x) ∧ (markS S s x).L = s.L ∧ (markS S s x).M = s.M ∧ (markS S s x).N = s.N ∧ (markS S s x).po = s.po + 1 ∧ (markS S s x).mr = fun i => if i = x then true else s.mr i := by
  have hb : hasB S (x : Int) = true := by unfold hasB; simp; omega
  have hE : spE s.px s.off = 0 := by rw [h.px, h.off]; decide
  have hE1 : markE S s x = 0 := by unfold markE; rw [hb, if_pos rfl, if_neg (by omega), if_pos hE]
  have hS1 : markS S s x = { spendS s with mr := fun i => if i = x then true else s.mr i } := by
    unfold markS
    rw [hb, if_pos (by simp; omega), if_pos hE]
    simp only [Int.toNat_natCast]
  rw [hS1]
  refine ⟨hE1, ⟨?_, ?_⟩, rfl, rfl, rfl, ?_, rfl⟩
  · simp only [spendS, h.px, h.off]; rfl
  · simp only [spendS, h.px, h.off]; rfl
  · simp only [spendS, h.off]; rfl

end Go.Proofs.YtfibpgfjlmlpaaaGreatDoor

/-
  Layer 18, pure: what copying pages to a block comes to while the power lasts.
-/
namespace Go.Proofs.YtfibpgfjlmlpaaaGreatDoor
set_option linter.unusedVariables false
set_option linter.unusedSimpArgs false
set_option linter.unusedVariables false
set_option linter.unusedSimpArgs false
set_option maxRecDepth 100000
open Go.RowKit

theorem nextN_above {f : Nat → Pg} : ∀ {n j : Nat}, nextN f n ≤ j → j < n → (f j).st = 0
  | 0, j, _, h => absurd h (by omega)
  | n + 1, j, h, hj => by
    unfold nextN at h
    split at h
    · rename_i h0
      by_cases e : j = n
      · rw [e]; exact h0
      · exact nextN_above h (by omega)
    · omega
theorem nextN_eq {f : Nat → Pg} {k : Nat} : ∀ {n : Nat}, k < n → (f k).st ≠ 0 → (∀ j, k < j → j < n → (f j).st = 0) → nextN f n = k + 1
  | 0, h, _, _ => absurd h (by omega)
  | n + 1, h, h1, h2 => by
    unfold nextN
    by_cases e : k = n
    · subst e; rw [if_neg h1]
    · rw [if_pos (h2 n (by omega) (by omega))]
      exact nextN_eq (by omega) h1 (fun j a b => h2 j a (by omega))
theorem nextN_congr {f g : Nat → Pg} : ∀ {n : Nat}, (∀ j, j < n → f j = g j) → nextN f n = nextN g n
  | 0, _ => rfl
  | n + 1, h => by
    unfold nextN
    rw [h n (by omega), nextN_congr (n := n) (fun j hj => h j (by omega))]
theorem nextN_over {f : Nat → Pg} : ∀ {n j : Nat}, j < n → (f j).st ≠ 0 → j < nextN f n
  | 0, j, h, _ => absurd h (by omega)
  | n + 1, j, h, h1 => by
    unfold nextN
    split
    · rename_i h0
      have : j ≠ n := fun e => by subst e; exact h1 h0
      exact nextN_over (by omega) h1
    · exact h

theorem PrgP.next {c : SC} {s s' : NS} {x pg : Nat} {p : Pg} {e : Int} (h : PrgP c s x pg p e s') (hp : p.st ≠ 0) (hn : nextN (s.L x) c.S.pg = pg) (hpg : pg < c.S.pg) : nextN (s'.L x) c.S.pg = pg + 1 := by
  refine nextN_eq hpg ?_ (fun j a b => ?_)
  · rcases h.res with ⟨_, h1, _⟩ | ⟨_, h1, _⟩
    · rw [h1]; exact hp
    · rw [h1]; exact fun e => by cases e
  · rw [h.below j (by omega)]
    exact nextN_above (n := c.S.pg) (by omega) b

/-- The page that a copy of a found one is. -/
def cpyPg (f : Fnd) : Pg := ⟨1, tagBL f.te f.ep f.pl f.sq f.kd true, f.dt⟩
/-- What may be copied. -/
def FndOk (f : Fnd) : Prop := okB f.te f.ep f.pl f.sq f.kd = true ∧ f.dt.size ≤ 160
structure CpyP (c : SC) (s : NS) (x i : Nat) (row : List Fnd) (e : Int) (s' : NS) : Prop where
  lit : LitS s'
  mr : s'.mr = s.mr
  po : s.po ≤ s'.po ∧ s'.po ≤ s.po + row.length
  other : ∀ b, b ≠ x → s'.L b = s.L b
  below : ∀ j, j < i → s'.L x j = s.L x j
  res : (e = 0 ∧ (∀ k (hk : k < row.length), s'.L x (i + k) = cpyPg row[k]) ∧ s'.M c.who.toNat = s.M c.who.toNat ∧ nextN (s'.L x) c.S.pg = i + row.length) ∨ (e = 10 ∧ s'.M c.who.toNat = s.M c.who.toNat + 1 ∧ i < nextN (s'.L x) c.S.pg)
theorem copy_lit {c : SC} (hw : 0 ≤ c.who ∧ c.who < 4) {b : Int} {x : Nat} (hx : c.ph b = x) (hxa : x < c.S.all) : ∀ (row : List Fnd) (i : Nat) (s : NS), LitS s → s.mr x = false → i + row.length ≤ c.S.pg → nextN (s.L x) c.S.pg = i → (∀ f ∈ row, FndOk f) → CpyP c s x i row (copyR c b row i s).1 (copyR c b row i s).2
  | [], i, s, h, hm, hi, hn, ha => ⟨h, rfl, by simp [copyR], fun _ _ => rfl, fun _ _ => rfl, .inl ⟨rfl, fun k hk => absurd hk (by simp), rfl, by simpa [copyR] using hn⟩⟩
  | f :: l, i, s, h, hm, hi, hn, ha => by
    obtain ⟨hok, hd⟩ := ha f (by simp)
    have hi' : i + 1 + l.length ≤ c.S.pg := by simp only [List.length_cons] at hi; omega
    have P := prg_lit (b := b) h hw hx hxa (by omega) hm hn hok true f.dt hd
    simp only [copyR]
    generalize prgE c s b (i : Int) f.pl f.sq f.kd f.te f.ep true f.dt = e1 at *
    generalize prgS c s b (i : Int) f.pl f.sq f.kd f.te f.ep true f.dt = s1 at *
    have hnx := P.next (by show (1 : Int) ≠ 0; decide) hn (by omega)
    rcases P.res with ⟨h0, h1, h2⟩ | ⟨h0, h1, h2⟩
    · rw [if_pos h0]
      have Q := copy_lit hw hx hxa l (i + 1) s1 P.lit (by rw [P.mr]; exact hm) hi' hnx (fun g hg => ha g (by simp [hg]))
      refine ⟨Q.lit, Q.mr.trans P.mr, ?_, fun a hb => (Q.other a hb).trans (P.other a hb), fun j hj => (Q.below j (by omega)).trans (P.below j (by omega)), ?_⟩
      · have := Q.po; have := P.po; simp only [List.length_cons]; omega
      · rcases Q.res with ⟨a0, a1, a2, a3⟩ | ⟨a0, a2, a3⟩
        · refine .inl ⟨a0, fun k hk => ?_, a2.trans h2, by rw [a3]; simp only [List.length_cons]; omega⟩
          cases k with
          | zero => exact (Q.below i (by omega)).trans h1
          | succ k =>
            rw [show i + (k + 1) = i + 1 + k by omega]
            exact a1 k (by simp only [List.length_cons] at hk; omega)
        · exact .inr ⟨a0, by rw [a2, h2], by omega⟩
    · rw [if_neg (by rw [h0]; decide)]
      refine ⟨P.lit, P.mr, ?_, P.other, fun j hj => P.below j (by omega),   .inr ⟨h0, h2, by show i < nextN (s1.L x) c.S.pg; omega⟩⟩
      have := P.po; simp only [List.length_cons]; omega

end Go.Proofs.YtfibpgfjlmlpaaaGreatDoor

/-
  Layer 18, pure: what the table's rows tell of pages; a block's needed pages.
-/
namespace Go.Proofs.YtfibpgfjlmlpaaaGreatDoor
set_option linter.unusedVariables false
set_option linter.unusedSimpArgs false
set_option linter.unusedVariables false
set_option linter.unusedSimpArgs false
set_option maxRecDepth 100000
open Go.RowKit

/-- A page that tells a found one. -/
structure PgIs (c : SC) (s : NS) (b pg : Int) (f : Fnd) : Prop where
  bk : f.bk = b
  at' : f.pg = pg
  torn : f.torn = false
  ok : FndOk f
  is : s.L (c.ph b).toNat pg.toNat = ⟨1, tagBL f.te f.ep f.pl f.sq f.kd f.cp, f.dt⟩
/-- The blocks of a store are the array's. -/
def BlOk (c : SC) : Prop := ∀ i, i < c.bl.length → 2 ≤ c.bl.getD i 0 ∧ c.bl.getD i 0 < c.S.all
theorem BlOk.ph {c : SC} (h : BlOk c) {b : Int} (hb : 0 ≤ b ∧ b < c.bl.length) : 2 ≤ c.ph b ∧ c.ph b < c.S.all := h b.toNat (by omega)
theorem fd_is {c : SC} {s : NS} {b pg : Int} {f : Fnd} (h : LitS s) (hB : BlOk c) (hb : 0 ≤ b ∧ b < c.bl.length) (hp : 0 ≤ pg ∧ pg < c.S.pg) (hf : PgIs c s b pg f) : fdE c s b pg = 0 ∧ fdF c s b pg = f := by
  have hph := hB.ph hb
  have hl : lackE c.S (c.ph b) pg = 0 := by unfold lackE hasB; rw [if_pos (by simp; omega), if_pos (by omega)]
  have hr : readE c.S s (c.ph b) pg = 0 := by
    unfold readE
    rw [hl, if_pos rfl, h.off, if_neg (by decide), hf.is, if_neg (by show ¬ (1 : Int) = 0; decide), if_neg (by show ¬ (1 : Int) = 2; decide)]
  have hE : oneE c s b pg = 0 := by unfold oneE findE; rw [if_pos hb, hr]; rfl
  have hT : tagBL f.te f.ep f.pl f.sq f.kd f.cp = frL 84 (tagL f.te f.ep f.pl f.sq f.kd f.cp) := by unfold tagBL; rw [if_pos hf.ok.1]
  obtain ⟨p0, p1, p2, p3, p4, p5, p6⟩ := ps_back (p := f.cp) hf.ok.1
  have hF : oneF c s b pg = f := by
    unfold oneF findF
    rw [if_pos hb, hr, if_neg (by decide), if_pos rfl, hf.is]
    show fndOf b pg (tagBL f.te f.ep f.pl f.sq f.kd f.cp) f.dt = f
    rw [hT]
    unfold fndOf
    rw [if_pos p0, p1, p2, p3, p4, p5, p6, ← hf.bk, ← hf.at', ← hf.torn]
  have hn : ¬ (oneE c s b pg = 0 ∧ (oneF c s b pg).torn = true) := by
    rw [hF, hf.torn]
    exact fun e => by cases e.2
  exact ⟨by unfold fdE; rw [if_neg hn, hE], by unfold fdF; rw [if_neg hn, hF]⟩

/-- The table's rows: each tells a page that is written, in a block that is not marked. -/
structure RsOk (c : SC) (s : NS) (rs : List R14) : Prop where
  ok : ∀ r ∈ rs, 0 ≤ r.pl ∧ r.pl < c.sz ∧ 0 ≤ r.bk ∧ r.bk < c.bl.length ∧ 0 ≤ r.pg ∧ r.pg < c.S.pg
  pls : (rs.map (·.pl)).Nodup
  pgs : (rs.map fun r => (r.bk, r.pg)).Nodup
  mr : ∀ r ∈ rs, s.mr (c.ph r.bk).toNat = false
  pg : ∀ r ∈ rs, ∃ f, PgIs c s r.bk r.pg f ∧ f.pl = r.pl
theorem placeN_ex {rs : List R14} {b p : Int} (h : 0 ≤ placeN rs b p) : ∃ r ∈ rs, r.bk = b ∧ r.pg = p ∧ placeN rs b p = r.pl := by
  unfold placeN at h ⊢
  cases hf : rs.find? (fun s => s.bk == b && s.pg == p) with
  | none => rw [hf] at h; exact absurd h (by decide)
  | some s =>
    have h1 := List.mem_of_find?_eq_some hf
    have h2 := List.find?_some hf
    simp at h2
    exact ⟨s, h1, h2.1, h2.2, rfl⟩

/-- The needed pages of a block's first k. -/
structure NeedP (c : SC) (s : NS) (rs : List R14) (b : Int) (k : Nat) (L : List Fnd) : Prop where
  is : ∀ f ∈ L, ∃ r ∈ rs, r.bk = b ∧ r.pg < k ∧ r.pl = f.pl ∧ r.pg = f.pg ∧ PgIs c s r.bk r.pg f
  all : ∀ r ∈ rs, r.bk = b → r.pg < k → ∃ f ∈ L, f.pg = r.pg
  nd : (L.map (·.pg)).Nodup
theorem need_is {c : SC} {m : SM} (h : LitS m.n) (hB : BlOk c) (R : RsOk c m.n m.rs) (b : Int) : ∀ k : Nat, k ≤ c.S.pg → (needR c m b k).2 = 0 ∧ NeedP c m.n m.rs b k (needR c m b k).1
  | 0, _ => ⟨rfl, ⟨fun f hf => by simp [needR] at hf, fun r hr _ hk => by have := (R.ok r hr).2.2.2.2.1; omega, List.nodup_nil⟩⟩
  | k + 1, hk => by
    obtain ⟨h0, N⟩ := need_is h hB R b k (by omega)
    rw [needR, if_neg (by rw [h0]; decide)]
    by_cases hp : placeN m.rs b k < 0
    · rw [if_pos hp]
      refine ⟨h0, ⟨fun f hf => ?_, fun r hr hb hl => ?_, N.nd⟩⟩
      · obtain ⟨r, h1, h2, h3, h4⟩ := N.is f hf
        exact ⟨r, h1, h2, by omega, h4⟩
      · refine N.all r hr hb ?_
        have : r.pg ≠ k := fun e => by
          have h1 := placeN_some R.pgs hr
          rw [hb, e] at h1
          have := (R.ok r hr).1
          omega
        omega
    · rw [if_neg hp]
      obtain ⟨r, hr, hb, hpg, hpl⟩ := placeN_ex (rs := m.rs) (b := b) (p := k) (by omega)
      obtain ⟨f, hf, hfl⟩ := R.pg r hr
      have hk' := R.ok r hr
      have F := fd_is h hB ⟨hk'.2.2.1, hk'.2.2.2.1⟩ ⟨hk'.2.2.2.2.1, hk'.2.2.2.2.2⟩ hf
      have Fb := F
      rw [hb, hpg] at Fb
      rw [Fb.1, if_pos rfl, Fb.2]
      refine ⟨rfl, ⟨fun g hg => ?_, fun r' hr' hb' hl => ?_, ?_⟩⟩
      · rcases List.mem_append.1 hg with hg | hg
        · obtain ⟨r2, h1, h2, h3, h4⟩ := N.is g hg
          exact ⟨r2, h1, h2, by omega, h4⟩
        · obtain rfl := List.mem_singleton.1 hg
          exact ⟨r, hr, hb, by omega, hfl.symm, hf.at'.symm, hf⟩
      · by_cases e : r'.pg < k
        · obtain ⟨g, hg, hgp⟩ := N.all r' hr' hb' e
          exact ⟨g, List.mem_append.2 (.inl hg), hgp⟩
        · exact ⟨f, List.mem_append.2 (.inr (List.mem_singleton.2 rfl)), by rw [hf.at']; omega⟩
      · rw [List.map_append, List.nodup_append]
        refine ⟨N.nd, by simp, fun x hx y hy => ?_⟩
        obtain ⟨g, hg, rfl⟩ := List.mem_map.1 hx
        simp at hy
        subst hy
        obtain ⟨r2, h1, h2, h3, h4, h5, _⟩ := N.is g hg
        have := hf.at'
        omega

end Go.Proofs.YtfibpgfjlmlpaaaGreatDoor

/-
  Layer 18, pure: rows move to a block that has none.
-/
namespace Go.Proofs.YtfibpgfjlmlpaaaGreatDoor
set_option linter.unusedVariables false
set_option linter.unusedSimpArgs false
set_option linter.unusedVariables false
set_option linter.unusedSimpArgs false
set_option maxRecDepth 100000
open Go.RowKit

/-- Rows within bounds, places and pages different. -/
structure RsB (c : SC) (rs : List R14) : Prop where
  ok : ∀ r ∈ rs, 0 ≤ r.pl ∧ r.pl < c.sz ∧ 0 ≤ r.bk ∧ r.bk < c.bl.length ∧ 0 ≤ r.pg ∧ r.pg < c.S.pg
  pls : (rs.map (·.pl)).Nodup
  pgs : (rs.map fun r => (r.bk, r.pg)).Nodup
theorem RsOk.b {c : SC} {s : NS} {rs : List R14} (h : RsOk c s rs) : RsB c rs := ⟨h.ok, h.pls, h.pgs⟩
/-- A place's row becomes another. -/
theorem set_is {c : SC} (hsz : c.sz ≤ 64) {rs : List R14} (R : RsB c rs) {pl tg : Int} {i : Nat} (hpl : 0 ≤ pl ∧ pl < c.sz) (htg : 0 ≤ tg ∧ tg < c.bl.length) (hi : i < c.S.pg) (hf : ∀ r ∈ rs, ¬ (r.bk = tg ∧ r.pg = i)) :
    setE c.bl.length c.S.pg rs pl tg i = 0 ∧ setR c.bl.length c.S.pg rs pl tg i = clearN rs pl ++ [⟨pl, tg, i⟩] ∧ RsB c (clearN rs pl ++ [⟨pl, tg, i⟩]) := by
  have hE : setE c.bl.length c.S.pg rs pl tg i = 0 := by
    unfold setE
    rw [placeN_none hf, if_neg (by omega), if_neg (by omega)]
  refine ⟨hE, by unfold setR; rw [if_pos hE], fun r hr => ?_, ?_, ?_⟩
  · rcases List.mem_append.1 hr with hr | hr
    · exact R.ok r (mem_clear.1 hr).1
    · obtain rfl := List.mem_singleton.1 hr
      simp only
      omega
  · rw [List.map_append, List.nodup_append]
    refine ⟨nodup_clear R.pls _, by simp, fun x hx y hy => ?_⟩
    obtain ⟨s, hs, rfl⟩ := List.mem_map.1 hx
    simp at hy
    subst hy
    exact (mem_clear.1 hs).2
  · rw [List.map_append, List.nodup_append]
    refine ⟨nodup_clear R.pgs _, by simp, fun x hx y hy => ?_⟩
    obtain ⟨s, hs, rfl⟩ := List.mem_map.1 hx
    simp at hy
    subst hy
    intro e
    injection e with e1 e2
    exact hf s (mem_clear.1 hs).1 ⟨e1, e2⟩
theorem setl_is {c : SC} (hsz : c.sz ≤ 64) {tg b : Int} (htg : 0 ≤ tg ∧ tg < c.bl.length) (hb : b ≠ tg) : ∀ (L : List Fnd) (i : Nat) (rs : List R14), RsB c rs → i + L.length ≤ c.S.pg → (∀ r ∈ rs, r.bk = tg → r.pg < i) → (∀ f ∈ L, f.bk = b ∧ ∃ r ∈ rs, r.bk = b ∧ r.pg = f.pg ∧ r.pl = f.pl) → (L.map (·.pl)).Nodup →
    (setlR c tg L i rs).1 = 0 ∧ RsB c (setlR c tg L i rs).2 ∧ ∀ r, r ∈ (setlR c tg L i rs).2 ↔ (r ∈ rs ∧ ∀ f ∈ L, r.pl ≠ f.pl) ∨ ∃ k f, L[k]? = some f ∧ r = ⟨f.pl, tg, ((i + k : Nat) : Int)⟩
  | [], i, rs, R, _, _, _, _ => ⟨rfl, R, fun r => by simp [setlR]⟩
  | f :: l, i, rs, R, hi, ht, hL, hn => by
    obtain ⟨hfb, r, hr, hrb, hrp, hrl⟩ := hL f (by simp)
    have hi' : i + 1 + l.length ≤ c.S.pg := by simp only [List.length_cons] at hi; omega
    have hP : placeN rs f.bk f.pg = f.pl := by
      have := placeN_some R.pgs hr
      rw [hrb, hrp, hrl] at this
      rw [hfb]; exact this
    have hk := R.ok r hr
    obtain ⟨e0, e1, e2⟩ := set_is hsz R (pl := f.pl) (by rw [← hrl]; exact ⟨hk.1, hk.2.1⟩) htg (i := i) (by omega) (fun s hs h => by have := ht s hs h.1; omega)
    rw [List.map_cons, List.nodup_cons] at hn
    have hne : ∀ g ∈ l, f.pl ≠ g.pl := fun g hg e => hn.1 (List.mem_map.2 ⟨g, hg, e.symm⟩)
    obtain ⟨q0, q1, q2⟩ := setl_is hsz htg hb l (i + 1) (clearN rs f.pl ++ [⟨f.pl, tg, i⟩]) e2 hi' (fun s hs h => by
        rcases List.mem_append.1 hs with hs | hs
        · have := ht s (mem_clear.1 hs).1 h; omega
        · obtain rfl := List.mem_singleton.1 hs; simp only; omega)
      (fun g hg => by
        obtain ⟨a, s, h1, h2, h3, h4⟩ := hL g (by simp [hg])
        exact ⟨a, s, List.mem_append.2 (.inl (mem_clear.2 ⟨h1, by rw [h4]; exact (hne g hg).symm⟩)), h2, h3, h4⟩) hn.2
    rw [setlR, hP, if_pos e0, e1]
    refine ⟨q0, q1, fun s => (q2 s).trans ?_⟩
    constructor
    · rintro (⟨h1, h2⟩ | ⟨k, g, h1, h2⟩)
      · rcases List.mem_append.1 h1 with h1 | h1
        · obtain ⟨h3, h4⟩ := mem_clear.1 h1
          refine .inl ⟨h3, fun g hg => ?_⟩
          rcases List.mem_cons.1 hg with rfl | hg
          · exact h4
          · exact h2 g hg
        · exact .inr ⟨0, f, rfl, List.mem_singleton.1 h1⟩
      · exact .inr ⟨k + 1, g, h1, by rw [h2, show i + 1 + k = i + (k + 1) by omega]⟩
    · rintro (⟨h1, h2⟩ | ⟨k, g, h1, h2⟩)
      · exact .inl ⟨List.mem_append.2 (.inl (mem_clear.2 ⟨h1, h2 f (by simp)⟩)), fun g hg => h2 g (by simp [hg])⟩
      · cases k with
        | zero =>
          injection h1 with h1
          subst h1
          exact .inl ⟨List.mem_append.2 (.inr (List.mem_singleton.2 h2)), fun g hg => by rw [h2]; exact hne g hg⟩
        | succ k => exact .inr ⟨k, g, h1, by rw [h2, show i + 1 + k = i + (k + 1) by omega]⟩

end Go.Proofs.YtfibpgfjlmlpaaaGreatDoor

/-
  Layer 18, pure: a block's needed pages, copied to another: rows and values stand.
-/
namespace Go.Proofs.YtfibpgfjlmlpaaaGreatDoor
set_option linter.unusedVariables false
set_option linter.unusedSimpArgs false
set_option linter.unusedVariables false
set_option linter.unusedSimpArgs false
set_option maxRecDepth 100000
open Go.RowKit

/-- A place's page holds such a kind and such bytes. -/
def Hold (c : SC) (s : NS) (rs : List R14) (q k : Int) (d : ByteArray) : Prop := ∃ r ∈ rs, r.pl = q ∧ ∃ f, PgIs c s r.bk r.pg f ∧ f.pl = q ∧ f.kd = k ∧ f.dt = d
theorem PgIs.keep {c : SC} {s s' : NS} {b pg : Int} {f : Fnd} (h : PgIs c s b pg f) (he : s'.L (c.ph b).toNat = s.L (c.ph b).toNat) : PgIs c s' b pg f := ⟨h.bk, h.at', h.torn, h.ok, by rw [he]; exact h.is⟩
theorem RsOk.keep {c : SC} {s s' : NS} {rs : List R14} (R : RsOk c s rs) (hL : ∀ r ∈ rs, s'.L (c.ph r.bk).toNat = s.L (c.ph r.bk).toNat) (hm : ∀ r ∈ rs, s'.mr (c.ph r.bk).toNat = s.mr (c.ph r.bk).toNat) : RsOk c s' rs :=
  ⟨R.ok, R.pls, R.pgs, fun r hr => (hm r hr).trans (R.mr r hr), fun r hr => by
    obtain ⟨f, h1, h2⟩ := R.pg r hr
    exact ⟨f, h1.keep (hL r hr), h2⟩⟩
theorem Hold.keep {c : SC} {s s' : NS} {rs : List R14} {q k : Int} {d : ByteArray} (h : Hold c s rs q k d) (hL : ∀ r ∈ rs, s'.L (c.ph r.bk).toNat = s.L (c.ph r.bk).toNat) : Hold c s' rs q k d := by
  obtain ⟨r, hr, h1, f, h2, h3⟩ := h
  exact ⟨r, hr, h1, f, h2.keep (hL r hr), h3⟩
theorem ph_inj {c : SC} (hN : c.bl.Nodup) {a b : Int} (ha : 0 ≤ a ∧ a < c.bl.length) (hb : 0 ≤ b ∧ b < c.bl.length) (h : c.ph a = c.ph b) : a = b := by
  have h1 : a.toNat < c.bl.length := by omega
  have h2 : b.toNat < c.bl.length := by omega
  unfold SC.ph at h
  rw [List.getD_eq_getElem?_getD, List.getD_eq_getElem?_getD, List.getElem?_eq_getElem h1, List.getElem?_eq_getElem h2, Option.getD_some, Option.getD_some] at h
  have := (List.getElem_inj hN).1 h
  omega
/-- No row is in a block that is blank. -/
theorem blank_no {c : SC} {s : NS} {rs : List R14} (R : RsOk c s rs) {tg : Int} (h : nextN (s.L (c.ph tg).toNat) c.S.pg = 0) : ∀ r ∈ rs, r.bk ≠ tg := fun r hr e => by
  obtain ⟨f, hf, _⟩ := R.pg r hr
  have hk := R.ok r hr
  have h1 := hf.is
  rw [e] at h1
  have h2 := nextN_above (f := s.L (c.ph tg).toNat) (n := c.S.pg) (j := r.pg.toNat) (by omega) (by omega)
  rw [h1] at h2
  cases h2
/-- What is in another block stands. -/
theorem other_L {c : SC} {s s' : NS} {rs : List R14} (R : RsOk c s rs) (hB : BlOk c) (hN : c.bl.Nodup) {tg : Int} (ht : 0 ≤ tg ∧ tg < c.bl.length) (hO : ∀ b, b ≠ (c.ph tg).toNat → s'.L b = s.L b) : ∀ r ∈ rs, r.bk ≠ tg → s'.L (c.ph r.bk).toNat = s.L (c.ph r.bk).toNat := fun r hr hne => by
  have hk := R.ok r hr
  refine hO _ (fun e => hne (ph_inj hN ⟨hk.2.2.1, hk.2.2.2.1⟩ ht ?_))
  have := hB.ph (b := r.bk) ⟨hk.2.2.1, hk.2.2.2.1⟩
  have := hB.ph ht
  omega

theorem need_pls {c : SC} {s : NS} {rs : List R14} (R : RsOk c s rs) {b : Int} {k : Nat} {L : List Fnd} (N : NeedP c s rs b k L) : (L.map (·.pl)).Nodup := by
  have h : ∀ M : List Fnd, (∀ f ∈ M, ∃ r ∈ rs, r.pl = f.pl ∧ r.pg = f.pg) → (M.map (·.pg)).Nodup → (M.map (·.pl)).Nodup := by
    intro M
    induction M with
    | nil => intro _ _; exact List.nodup_nil
    | cons f l ih =>
      intro h1 h2
      rw [List.map_cons, List.nodup_cons] at h2 ⊢
      refine ⟨fun hm => ?_, ih (fun g hg => h1 g (by simp [hg])) h2.2⟩
      obtain ⟨g, hg, e⟩ := List.mem_map.1 hm
      obtain ⟨r, hr, a1, a2⟩ := h1 f (by simp)
      obtain ⟨r2, hr2, b1, b2⟩ := h1 g (by simp [hg])
      obtain rfl := nodup_inj R.pls hr hr2 (by show r.pl = r2.pl; rw [a1, b1]; exact e.symm)
      exact h2.1 (List.mem_map.2 ⟨g, hg, by show g.pg = f.pg; rw [← b2, a2]⟩)
  exact h L (fun f hf => by obtain ⟨r, h1, _, _, h4, h5, _⟩ := N.is f hf; exact ⟨r, h1, h4, h5⟩) N.nd

/-- All needed pages are copied: the rows are the copies', the values stand. -/
structure CpdP (c : SC) (s : NS) (rs : List R14) (b : Int) (s' : NS) (rs' : List R14) : Prop where
  ok : RsOk c s' rs'
  no : ∀ r ∈ rs', r.bk ≠ b
  hold : ∀ q k d, Hold c s rs q k d → Hold c s' rs' q k d
  back : ∀ r ∈ rs', ∃ r0 ∈ rs, r0.pl = r.pl
theorem copied {c : SC} (hsz : c.sz ≤ 64) (hB : BlOk c) (hN : c.bl.Nodup) {s s' : NS} (hs : LitS s) {rs : List R14} (R : RsOk c s rs) {b tg : Int} {row : List Fnd} (N : NeedP c s rs b c.S.pg row) (ht : 0 ≤ tg ∧ tg < c.bl.length) (hb : b ≠ tg) (h0 : nextN (s.L (c.ph tg).toNat) c.S.pg = 0) (hm : s.mr (c.ph tg).toNat = false) (hl : row.length ≤ c.S.pg) {e : Int}
    (Q : CpyP c s (c.ph tg).toNat 0 row e s') (he : e = 0) : (setlR c tg row 0 rs).1 = 0 ∧ CpdP c s rs b s' (setlR c tg row 0 rs).2 := by
  have hno := blank_no R h0
  have hO := other_L R hB hN ht Q.other
  obtain ⟨q0, q1, q2⟩ := setl_is hsz ht hb row 0 rs R.b (by omega) (fun r hr h => absurd h (hno r hr)) (fun f hf => by
    obtain ⟨r, h1, h2, _, h4, h5, h6⟩ := N.is f hf
    exact ⟨h6.bk.trans h2, r, h1, h2, h5, h4⟩) (need_pls R N)
  have hpg : ∀ k f, row[k]? = some f → s'.L (c.ph tg).toNat k = cpyPg f := by
    intro k f hk
    obtain ⟨hlt, rfl⟩ := List.getElem?_eq_some_iff.1 hk
    rcases Q.res with ⟨_, h1, _⟩ | ⟨h1, _⟩
    · have := h1 k hlt
      rwa [Nat.zero_add] at this
    · rw [h1] at he; cases he
  have hcp : ∀ (k : Nat) f, row[k]? = some f → PgIs c s' tg ((0 + k : Nat) : Int) { f with bk := tg, pg := ((0 + k : Nat) : Int), torn := false, cp := true } := by
    intro k f hk
    obtain ⟨r, _, _, _, _, _, h6⟩ := N.is f (List.mem_of_getElem? hk)
    refine ⟨rfl, rfl, rfl, h6.ok, ?_⟩
    rw [Int.toNat_natCast, Nat.zero_add, hpg k f hk]
    rfl
  refine ⟨q0, ⟨q1.ok, q1.pls, q1.pgs, fun r hr => ?_, fun r hr => ?_⟩, fun r hr => ?_, fun q k d hd => ?_, fun r hr => ?_⟩
  · rw [Q.mr]
    rcases (q2 r).1 hr with ⟨h1, _⟩ | ⟨k, f, _, rfl⟩
    · exact R.mr r h1
    · exact hm
  · rcases (q2 r).1 hr with ⟨h1, _⟩ | ⟨k, f, hk, rfl⟩
    · obtain ⟨f, hf, hfl⟩ := R.pg r h1
      exact ⟨f, hf.keep (hO r h1 (hno r h1)), hfl⟩
    · exact ⟨_, hcp k f hk, rfl⟩
  · rcases (q2 r).1 hr with ⟨h1, h2⟩ | ⟨k, f, hk, rfl⟩
    · intro hrb
      have hk := R.ok r h1
      obtain ⟨f, hf, hfp⟩ := N.all r h1 hrb (by omega)
      obtain ⟨r2, a1, a2, _, a4, a5, _⟩ := N.is f hf
      obtain rfl := nodup_inj R.pgs h1 a1 (by show (r.bk, r.pg) = (r2.bk, r2.pg); rw [hrb, a2, a5, hfp])
      exact h2 f hf a4
    · exact fun e => hb e.symm
  · obtain ⟨r, hr, h1, f, h2, h3, h4, h5⟩ := hd
    by_cases hrb : r.bk = b
    · have hk := R.ok r hr
      obtain ⟨g, hg, hgp⟩ := N.all r hr hrb (by omega)
      obtain ⟨r2, a1, a2, _, a4, a5, a6⟩ := N.is g hg
      obtain rfl := nodup_inj R.pgs hr a1 (by show (r.bk, r.pg) = (r2.bk, r2.pg); rw [hrb, a2, a5, hgp])
      have hfg : f = g := by
        have F1 := fd_is hs hB ⟨hk.2.2.1, hk.2.2.2.1⟩ ⟨hk.2.2.2.2.1, hk.2.2.2.2.2⟩ h2
        have F2 := fd_is hs hB ⟨hk.2.2.1, hk.2.2.2.1⟩ ⟨hk.2.2.2.2.1, hk.2.2.2.2.2⟩ a6
        exact F1.2.symm.trans F2.2
      subst hfg
      obtain ⟨j, hj⟩ := List.getElem?_of_mem hg
      exact ⟨⟨f.pl, tg, ((0 + j : Nat) : Int)⟩, (q2 _).2 (.inr ⟨j, f, hj, rfl⟩), h3, _, hcp j f hj, h3, h4, h5⟩
    · refine ⟨r, (q2 r).2 (.inl ⟨hr, fun g hg e => ?_⟩), h1, f, h2.keep (hO r hr (hno r hr)), h3, h4, h5⟩
      obtain ⟨r2, a1, a2, _, a4, _⟩ := N.is g hg
      obtain rfl := nodup_inj R.pls hr a1 (by show r.pl = r2.pl; rw [a4]; exact e)
      exact hrb a2
  · rcases (q2 r).1 hr with ⟨h1, _⟩ | ⟨k, f, hk, rfl⟩
    · exact ⟨r, h1, rfl⟩
    · obtain ⟨r2, a1, _, _, a4, _⟩ := N.is f (List.mem_of_getElem? hk)
      exact ⟨r2, a1, a4⟩

end Go.Proofs.YtfibpgfjlmlpaaaGreatDoor

/-
  Layer 18, pure: blocks that are free and blocks that are marked, counted; a copy that fails, its block marked.
-/
namespace Go.Proofs.YtfibpgfjlmlpaaaGreatDoor
set_option linter.unusedVariables false
set_option linter.unusedSimpArgs false
set_option linter.unusedVariables false
set_option linter.unusedSimpArgs false
set_option maxRecDepth 100000
open Go.RowKit

theorem filter_one {t : Nat} {p q : Nat → Bool} (hp : p t = true) (hq : q t = false) : ∀ {n : Nat}, t < n → (∀ x, x < n → x ≠ t → q x = p x) → ((List.range n).filter q).length + 1 = ((List.range n).filter p).length
  | 0, ht, _ => absurd ht (by omega)
  | n + 1, ht, h => by
    rw [List.range_succ, List.filter_append, List.filter_append, List.length_append, List.length_append]
    by_cases e : t = n
    · subst e
      have h1 : (List.range t).filter q = (List.range t).filter p := List.filter_congr fun x hx => h x (by have := List.mem_range.1 hx; omega) (by have := List.mem_range.1 hx; omega)
      rw [h1, List.filter_cons, List.filter_cons, hp, hq]
      simp
    · have h1 := filter_one hp hq (n := n) (by omega) (fun x hx => h x (by omega))
      have h2 : q n = p n := h n (by omega) (fun a => e a.symm)
      have h3 : ([n].filter q).length = ([n].filter p).length := by rw [List.filter_cons, List.filter_cons, h2]; split <;> rfl
      omega
theorem filter_same {p q : Nat → Bool} {n : Nat} (h : ∀ x, x < n → q x = p x) : ((List.range n).filter q).length = ((List.range n).filter p).length := by
  rw [List.filter_congr fun x hx => h x (List.mem_range.1 hx)]
theorem freeL_len (c : SC) (m : SM) : (freeL c m).length = ((List.range c.bl.length).filter (freeB c m)).length := by unfold freeL; rw [List.length_map]
theorem freeL_iff {c : SC} {m : SM} {b : Nat} : (b : Int) ∈ freeL c m ↔ b < c.bl.length ∧ freeB c m b = true := by
  unfold freeL
  rw [List.mem_map]
  constructor
  · rintro ⟨a, ha, e⟩
    obtain rfl : a = b := by omega
    have := List.mem_filter.1 ha
    exact ⟨List.mem_range.1 this.1, this.2⟩
  · rintro ⟨h1, h2⟩
    exact ⟨b, List.mem_filter.2 ⟨List.mem_range.2 h1, h2⟩, rfl⟩
theorem freeB_iff {c : SC} {m : SM} {b : Nat} : freeB c m b = true ↔ (b : Int) ≠ m.fr ∧ nextB c m b = 0 ∧ badB c m b = false := by
  unfold freeB
  simp

/-- Only one block's pages are other, and maybe it is marked. -/
structure OneB (c : SC) (t : Nat) (m m' : SM) : Prop where
  L : ∀ x, x ≠ (c.ph t).toNat → m'.n.L x = m.n.L x
  mr : ∀ x, x ≠ (c.ph t).toNat → m'.n.mr x = m.n.mr x
theorem ph_ne {c : SC} (hB : BlOk c) (hN : c.bl.Nodup) {t b : Nat} (ht : t < c.bl.length) (hb : b < c.bl.length) (h : b ≠ t) : (c.ph b).toNat ≠ (c.ph t).toNat := fun e => h (by
  have h1 := hB.ph (b := b) (by omega)
  have h2 := hB.ph (b := t) (by omega)
  have := ph_inj hN (a := (b : Int)) (b := (t : Int)) (by omega) (by omega) (by omega)
  omega)
theorem OneB.bad {c : SC} {t : Nat} {m m' : SM} (h : OneB c t m m') (hB : BlOk c) (hN : c.bl.Nodup) (ht : t < c.bl.length) {b : Nat} (hb : b < c.bl.length) (hne : b ≠ t) : badB c m' b = badB c m b := h.mr _ (ph_ne hB hN ht hb hne)
theorem OneB.next {c : SC} {t : Nat} {m m' : SM} (h : OneB c t m m') (hB : BlOk c) (hN : c.bl.Nodup) (ht : t < c.bl.length) {b : Nat} (hb : b < c.bl.length) (hne : b ≠ t) : nextB c m' b = nextB c m b := by
  unfold nextB
  rw [h.L _ (ph_ne hB hN ht hb hne)]
/-- One more is marked. -/
theorem bad_one {c : SC} {t : Nat} {m m' : SM} (h : OneB c t m m') (hB : BlOk c) (hN : c.bl.Nodup) (ht : t < c.bl.length) (h0 : badB c m t = false) (h1 : badB c m' t = true) : badN c m' = badN c m + 1 :=
  (filter_one h1 h0 ht (fun x hx hne => (h.bad hB hN ht hx hne).symm)).symm
theorem bad_same {c : SC} {t : Nat} {m m' : SM} (h : OneB c t m m') (hB : BlOk c) (hN : c.bl.Nodup) (ht : t < c.bl.length) (h0 : badB c m' t = badB c m t) : badN c m' = badN c m :=
  filter_same (fun x hx => by
    by_cases e : x = t
    · rw [e]; exact h0
    · exact h.bad hB hN ht hx e)
/-- One less is free. -/
theorem free_one {c : SC} {t : Nat} {m m' : SM} (h : OneB c t m m') (hB : BlOk c) (hN : c.bl.Nodup) (hf : m'.fr = m.fr) (ht : t < c.bl.length) (h0 : freeB c m t = true) (h1 : freeB c m' t = false) : (freeL c m').length + 1 = (freeL c m).length := by
  rw [freeL_len, freeL_len]
  refine filter_one h0 h1 ht (fun x hx hne => ?_)
  unfold freeB
  rw [hf, h.next hB hN ht hx hne, h.bad hB hN ht hx hne]
/-- The spares that are left, when one more is marked. -/
theorem spr_one {c : SC} {m m' : SM} (h : badN c m' = badN c m + 1) (hs : 0 < sprN c m) : sprN c m' = sprN c m - 1 := by
  unfold sprN at hs ⊢
  rw [h]
  split at hs <;> split <;> omega
theorem spr_same {c : SC} {m m' : SM} (h : badN c m' = badN c m) : sprN c m' = sprN c m := by unfold sprN; rw [h]
theorem spr_nn (c : SC) (m : SM) : 0 ≤ sprN c m := by unfold sprN; split <;> omega
theorem spr_low {c : SC} {m : SM} {k : Int} (hk : 0 ≤ k) (h : ¬ sprN c m > k) : c.sp ≤ badN c m + k := by
  unfold sprN at h
  split at h <;> omega

theorem NeedP.keep {c : SC} {s s' : NS} {rs : List R14} {b : Int} {k : Nat} {L : List Fnd} (N : NeedP c s rs b k L) (hL : ∀ r ∈ rs, s'.L (c.ph r.bk).toNat = s.L (c.ph r.bk).toNat) : NeedP c s' rs b k L :=
  ⟨fun f hf => by
    obtain ⟨r, h1, h2, h3, h4, h5, h6⟩ := N.is f hf
    exact ⟨r, h1, h2, h3, h4, h5, h6.keep (hL r h1)⟩, N.all, N.nd⟩

end Go.Proofs.YtfibpgfjlmlpaaaGreatDoor
