/-
  Texts put together: LE LF LG EB EC ED EE.
-/
import Derived.Test.YtfgifgglcafadaaGreatDoorM08
import Derived.Outline
import Derived.Deep.DeepCutAuto
import Derived.Deep.Cut
import Derived.Deep.LoopGhost
import Derived.Test.YtfgifgglcafadaaGreatDoorM01
import Derived.Test.YtfgifgglcafadaaGreatDoorM07
import Derived.Test.YtfgifgglcafadaaGreatDoorM02
import Derived.Maps.AppendAt
import Derived.Deep.AppendLies
import Derived.Test.YtfgifgglcafadaaGreatDoorM06
namespace Go.Proofs.YtfgifgglcafadaaGreatDoor
set_option linter.unusedVariables false
set_option linter.unusedSimpArgs false
set_option linter.unusedVariables false
set_option linter.unusedSimpArgs false
set_option maxRecDepth 100000
open Go.RowKit
theorem results_ct20 {P : Program} {fn : Func} {p t : Tmp} {ty : TypeId} {tmps : Array Value} {w : World} {g : Nat} {bt : TypeId} {cs : Array Value} {v : Value} {d : TypeDesc} (h : fn.results = #[.cell p ty, .tmp t])
   (hp : tmps.getD p undef = .pointer (some ⟨g, 0, none⟩)) (hv : tmps.getD t undef = v) (hg : w.heap[g]? = some (.cells cs bt (0, 0)))
   (hu : P.underlying ty = some d) (hd : (match d with | .struct _ | .array _ _ => true | _ => false) = true) (hi : (P.info? ty).map (·.size) = some cs.size) :
   (results fn tmps).run P w = .ok (.tuple #[.agg cs, v]) w := by
 have hp' : tmps[p]?.getD undef = .pointer (some ⟨g, 0, none⟩) := by simpa using hp
 have hv' : tmps[t]?.getD undef = v := by simpa using hv
 simp [results, h, hp', hv', asAddr, run_loadVar_row w g bt ty cs (0, 0) d hg hu hd hi]
theorem Tryz.sizeCmd : (Tryz.prog.info? 30).map (·.size) = some 3 := by kernel_rfl
theorem Tryz.sizeDne : (Tryz.prog.info? 81).map (·.size) = some 3 := by kernel_rfl
section
variable {ops : Array Oper} {rest : List Oper} {o : Oper} {a : Act} {w : World} {Q : Exit → Act → World → Prop}
theorem cmd_load (hwt : Region.wanted o (yielded ops a.tmps) = true) (x : Operand) (ho : o.op = .load 30 x) {b off : Nat} (hx : a.eval x = .pointer (some ⟨b, off, none⟩)) {c : Chg} (hr : w.rangeAt b off (chgC c).toList)
   (h : wpList Tryz.prog ops Q rest (a.put o.dst (.agg #[.int .i64 c.pl, .int .i64 c.kd, .string c.dt])) w) : wpList Tryz.prog ops Q (o :: rest) a w :=
 wpList_want hwt fun K hK => wp_load_mid _ x ho b off hx _ _ hr Tryz.underlying30 rfl (by rw [Tryz.sizeCmd]; rfl) (hK _ _ (by simpa [chgC] using h))
theorem cmd_loadC (hwt : Region.wanted o (yielded ops a.tmps) = true) (x : Operand) (ho : o.op = .load 30 x) {b off : Nat} (hx : a.eval x = .pointer (some ⟨b, off, none⟩)) {c : Chg} (hr : w.rangeAt b off (chgC c).toList)
   (h : wpList Tryz.prog ops Q rest (a.put o.dst (.agg (chgC c))) w) : wpList Tryz.prog ops Q (o :: rest) a w :=
 wpList_want hwt fun K hK => wp_load_mid _ x ho b off hx _ _ hr Tryz.underlying30 rfl (by rw [Tryz.sizeCmd]; rfl) (hK _ _ (by simpa using h))
theorem dne_load (hwt : Region.wanted o (yielded ops a.tmps) = true) (x : Operand) (ho : o.op = .load 81 x) {b off : Nat} (hx : a.eval x = .pointer (some ⟨b, off, none⟩)) {c : Chg} (hr : w.rangeAt b off (chgC c).toList)
   (h : wpList Tryz.prog ops Q rest (a.put o.dst (.agg #[.int .i64 c.pl, .int .i64 c.kd, .string c.dt])) w) : wpList Tryz.prog ops Q (o :: rest) a w :=
 wpList_want hwt fun K hK => wp_load_mid _ x ho b off hx _ _ hr Tryz.underlying81 rfl (by rw [Tryz.sizeDne]; rfl) (hK _ _ (by simpa [chgC] using h))
theorem cmd_store (x y : Operand) (ho : o.op = .store 30 x y) {g : Nat} (hx : a.eval x = .pointer (some ⟨g, 0, none⟩)) {c : Chg} (hy : a.eval y = .agg (chgC c)) {old : Array Value} (hg : Blk w g 30 old) (hold : old.size = 3) (hwt : Region.wanted o (yielded ops a.tmps) = true)
   (h : ∀ w', Blk w' g 30 (chgC c) → w.grownBy w' (some g) → w'.heap.size = w.heap.size → wpList Tryz.prog ops Q rest (a.put o.dst undef) w') : wpList Tryz.prog ops Q (o :: rest) a w :=
 wpList_store_part hwt _ x y ho g 0 3 _ hx hy _ old _ hg rfl Tryz.sizeCmd (by omega) (by simp [chgC, Value.oneCell']) (by
   have h1 : (chgC c).toList.length = 3 := rfl
   rw [h1, List.drop_of_length_le (by simp; omega)]
   simp) h
end
section
variable {w w' : World} {b : Nat} {vw vd : Value} {ws ds : List Chg}
theorem next20_none (h : QS w b vw vd [] ds) : Calls Tryz.prog 68 #[.pointer (some ⟨b, 0, none⟩)] w fun e w' => e = .returned (.tuple #[chgV noChg, .bool false]) ∧ w.grownBy w' none := by
 have hs1 := h.ext (World.grownBy_alloc w (.cells #[.int .i64 0, .int .i64 0, .string ⟨#[]⟩] 30) none)
 have hb1 := Blk.new w 30 #[.int .i64 0, .int .i64 0, .string ⟨#[]⟩]
 have LEN := len20 hs1
 have hE := World.grownBy_alloc w (.cells #[.int .i64 0, .int .i64 0, .string ⟨#[]⟩] 30) none
 clear hs1
 obtain ⟨z0, hz0⟩ : ∃ z : Int, z = (([] : List Chg).length : Int) := ⟨_, rfl⟩
 rw [← hz0] at LEN
 have hz : (z0 == 0) = true := by rw [hz0]; rfl
 have HE := Lib.hid hE
 clear hz0 hE h
 go_enter Tryz.func68, Tryz.ntmps68
 go_wp2_with (first
   | (go_at_call 55; refine LEN.mono ?_; rintro e w2 ⟨rfl, rfl⟩)
   | (refine cmd_store (c := noChg) _ _ rfl rfl rfl hb1 rfl rfl ?_; intro w6 hb6 hg6 hs6))
 refine bodyPost_ret (v := .tuple #[.agg (chgC noChg), .bool false]) (results_ct20 (fn := Tryz.f68) rfl rfl rfl hb6 Tryz.underlying30 rfl Tryz.sizeCmd) rfl ?_
 exact ⟨rfl, grown_past13 HE.out hg6 (Nat.le_refl _)⟩
def QwP (w : World) (b : Nat) (vw vd : Value) (ws ds : List Chg) (w' : World) : Prop :=
 ∃ vw', QS w' b vw' vd ws ds ∧ KpF (fpQ b vw vd) w w' ∧ ∀ k, vw'.ownBlock = some k → vw.ownBlock = some k ∨ w.heap.size ≤ k
def QdP (w : World) (b : Nat) (vw vd : Value) (ws ds : List Chg) (w' : World) : Prop :=
 ∃ vd', QS w' b vw vd' ws ds ∧ KpF (fpQ b vw vd) w w' ∧ ∀ k, vd'.ownBlock = some k → vd.ownBlock = some k ∨ w.heap.size ≤ k
set_option maxHeartbeats 800000 in
theorem next20_some (h : QS w b vw vd ws ds) {c : Chg} {r : List Chg} (hr : ws = c :: r) :
   Calls Tryz.prog 68 #[.pointer (some ⟨b, 0, none⟩)] w fun e w' => e = .returned (.tuple #[chgV c, .bool true]) ∧ QwP w b vw vd r ds w' := by
 have hE := World.grownBy_alloc w (.cells #[.int .i64 0, .int .i64 0, .string ⟨#[]⟩] 30) none
 have hs1 := h.ext hE
 have hb1 := Blk.new w 30 #[.int .i64 0, .int .i64 0, .string ⟨#[]⟩]
 have LEN := len20 hs1
 have CUT : ∀ wx, QS wx b vw vd ws ds → Calls Tryz.prog 119 #[.pointer (some ⟨b, 0, none⟩), .int .i64 1] wx (CutP wx b vw vd r ds) := fun wx hx => by
   have := cut20 hx 1 (by rw [hr]; simp)
   rw [hr] at this
   exact this
 have c0 := hs1.c0
 obtain ⟨n, hn⟩ : ∃ n, ws.length = n := ⟨_, rfl⟩
 have hn0 : 0 < n := by rw [← hn, hr]; simp
 obtain ⟨g, off, cap, hvw, hrg⟩ : ∃ g off cap, vw = .slice (some ⟨g, off, none⟩) n cap ∧ ∀ wx, QS wx b vw vd ws ds → wx.rangeAt g off (chgC c).toList := by
   rcases h.wa.shape with ⟨_, h0⟩ | ⟨g, off, cap, h1, _⟩
   · omega
   · rw [hn] at h1
     refine ⟨g, off, cap, h1, fun wx hx => ?_⟩
     have hT := hx.wa
     rw [h1] at hT
     obtain ⟨g', off', e1, e2⟩ := tri_row hT (j := 0) (cj := c) (by rw [hn]; exact hn0) (by rw [hr]; rfl)
     simp only [Option.some.injEq, Addr.mk.injEq, and_true] at e1
     obtain ⟨rfl, rfl⟩ := e1
     simpa using e2
 have hlt := h.lt
 rw [hn] at LEN
 obtain ⟨z0, hz0⟩ : ∃ z : Int, z = (n : Int) := ⟨_, rfl⟩
 rw [← hz0] at LEN
 have hz : (z0 == 0) = false := by rw [beq_eq_false_iff_ne]; omega
 have HH := Lib.hid (And.intro hE (And.intro hs1 hlt))
 have RNG := Lib.hid hrg
 rw [hvw] at c0
 obtain ⟨L, hL⟩ : ∃ z, w.heap.size = z := ⟨_, rfl⟩
 obtain ⟨w1, hw1⟩ : ∃ v, w.alloc (.cells #[.int .i64 0, .int .i64 0, .string ⟨#[]⟩] 30) = v := ⟨_, rfl⟩
 have hsz : w1.heap.size = L + 1 := by rw [← hw1, ← hL]; simp
 rw [hw1] at HH LEN hb1 c0
 rw [hL] at hb1
 have hrg1 := hrg w1 HH.out.2.1
 have hb2 := Blk.new w1 30 #[.int .i64 0, .int .i64 0, .string ⟨#[]⟩]
 have HSZ := Lib.hid (And.intro hsz hL)
 clear hz0 hE h hs1 hn hlt hrg hsz hvw
 go_enter Tryz.func68, Tryz.ntmps68
 go_upto_region 1 with fail
 clear hL hw1
 go_wp2_with (first
   | (go_at_call 55; refine LEN.mono ?_; rintro e w2 ⟨rfl, rfl⟩)
   | (go_at_call 119; refine (CUT _ hs3).mono ?_; rintro e w4 ⟨rfl, hC⟩; obtain ⟨vw', hq4, hk4, ho4⟩ := hC; have hb4 := (hk4.block _ hb3.lt (fun e => by have h1 := HH.out.2.2 _ e; have h2 := HSZ.out; omega)).trans hb3; have hb04 := (hk4.block _ hb03.lt (fun e => by have h1 := HH.out.2.2 _ e; have h2 := HSZ.out; omega)).trans hb03; have H4 := Lib.hid (And.intro hq4 (And.intro hk4 ho4)); clear hq4 hk4 ho4 hs3 hb3 hb03)
   | (refine cmd_loadC rfl _ rfl rfl (Blk.range hb4 0 3 rfl) ?_)
   | (refine cmd_store (c := c) _ _ rfl rfl rfl hb04 rfl rfl ?_; intro w6 hb6 hg6 hs6)
   | (refine cmd_loadC rfl _ rfl rfl hrg1 ?_)
   | (refine cmd_store (c := c) _ _ rfl rfl rfl hb2 rfl rfl ?_; intro w3 hb3 hg3 hs3z; have hE3 : w1.grownBy w3 none := grown_past13 (World.grownBy_alloc w1 _ none) hg3 (Nat.le_refl _); have hs3 := HH.out.2.1.ext hE3; have hb03 := hb1.ext hE3; have HE3 := Lib.hid hE3; clear hg3 hs3z hE3 hb2 hrg1 c0))
 refine bodyPost_ret (v := .tuple #[.agg (chgC c), .bool true]) (results_ct20 (fn := Tryz.f68) rfl rfl rfl hb6 Tryz.underlying30 rfl Tryz.sizeCmd) rfl ?_
 obtain ⟨q1, q2, q3⟩ := H4.out
 have hne : ¬ fpQ b vw' vd L := fun e => by
   have h2 := HSZ.out
   rcases e with e | e | e
   · have := (HH.out.2.2 L (.inl e)).2; omega
   · have := (HH.out.2.2 L (.inr (.inl (q3 L e)))).2; omega
   · have := (HH.out.2.2 L (.inr (.inr e))).2; omega
 have hF : ∀ k, fpQ b vw' vd k → (k = L → False) := fun k hk e => hne (e ▸ hk)
 refine ⟨rfl, vw', q1.kept (F := fun k => k = L) (KpF.of_grown hg6 (fun k hk => by injection hk with hk; exact hk.symm)) (hF b (.inl rfl)) (fun k hk => hF k (.inr (.inl hk))) (fun k hk => hF k (.inr (.inr hk))), ?_, fun k hk => .inl (q3 k hk)⟩
 have hk := ((KpF.of_grown (ext_trans HH.out.1 HE3.out) (by simp)).trans q2)
 exact ⟨hg6.os.trans hk.os, hg6.tape.trans hk.tape, hg6.output.trans hk.output, Nat.le_trans hk.size hg6.size, fun k h1 h2 => (hg6.block k (Nat.lt_of_lt_of_le h1 hk.size) (fun e => by injection e with e; have := HSZ.out.2; omega)).trans (hk.block k h1 h2)⟩
end
end Go.Proofs.YtfgifgglcafadaaGreatDoor

namespace Go.Proofs.YtfgifgglcafadaaGreatDoor
set_option linter.unusedVariables false
set_option linter.unusedSimpArgs false
set_option linter.unusedVariables false
set_option linter.unusedSimpArgs false
set_option maxRecDepth 100000
open Go.RowKit
section
variable {ops : Array Oper} {rest : List Oper} {o : Oper} {a : Act} {w : World} {Q : Exit → Act → World → Prop}
end
def subE (ws : List Chg) (c : Chg) : Int := if chkQ c.pl c.kd c.dt ≠ 0 then chkQ c.pl c.kd c.dt else if ws.length = 8 then 8 else 0
def subR (ws : List Chg) (c : Chg) : List Chg := if subE ws c = 0 then ws ++ [c] else ws
section
variable {w w1 w5 w7 w' : World} {b n : Nat} {vw vd v7 : Value} {ws ws' ds ds' : List Chg} {c : Chg}
theorem QwP.back (h : w.grownBy w1 none) (h2 : QwP w1 b vw vd ws ds w') : QwP w b vw vd ws ds w' := by
 obtain ⟨v, a1, a2, a3⟩ := h2
 exact ⟨v, a1, (KpF.of_grown h (by simp)).trans a2, fun k hk => by rcases a3 k hk with e | e; exact .inl e; exact .inr (Nat.le_trans h.size e)⟩
theorem QdP.back (h : w.grownBy w1 none) (h2 : QdP w1 b vw vd ws ds w') : QdP w b vw vd ws ds w' := by
 obtain ⟨v, a1, a2, a3⟩ := h2
 exact ⟨v, a1, (KpF.of_grown h (by simp)).trans a2, fun k hk => by rcases a3 k hk with e | e; exact .inl e; exact .inr (Nat.le_trans h.size e)⟩
theorem sub_fin (hs : QS w5 b vw vd ws ds) (hn : ws.length = n ∧ n < 8) (hr : TailRow w7 (b + 1) 30 3 v7 (n + 1) (chgsL ws ++ (chgC c).toList)) (hg : w5.grownBy w7 vw.ownBlock) (ho : ∀ k, v7.ownBlock = some k → vw.ownBlock = some k ∨ w5.heap.size ≤ k) :
   QwP w5 b vw vd (ws ++ [c]) ds (w7.setCell ⟨b, 0, none⟩ v7) := by
 have hb7 := hs.blk.kept hg (fun e => by have := (hs.wa.lt b e.symm).1; omega)
 have hG : w7.grownBy (w7.setCell ⟨b, 0, none⟩ v7) (some b) := gb_set (gb_refl w7 _) _ _
 have hd7 : ∀ k, vd.ownBlock = some k → v7.ownBlock = some k → False := fun k h1 h2 => by
   rcases ho k h2 with e | e
   · exact hs.ne k e h1
   · have := (hs.dn.lt k h1).2; omega
 refine ⟨v7, ⟨hb7.set 0 v7, ?_, ((hs.dn.kept hg ?_).kept hG (.inr fun e => by have := (hs.dn.lt _ e).1; omega)), fun k h1 h2 => hd7 k h2 h1, by rw [List.length_append, hn.1]; simp; omega, hs.d0⟩, (KpF.of_grown hg (fun k hk => .inr (.inl hk))).trans (KpF.of_grown hG (fun k hk => by injection hk with hk; exact .inl hk.symm)), ho⟩
 · rw [tri_snoc, List.length_append, hn.1]
   exact hr.kept hG (fun k hk e => by have := (hr.lt k hk).1; injection e with e; omega)
 · cases hv : vd.ownBlock with
   | none => exact .inl rfl
   | some k => exact .inr fun e => hs.ne k e.symm hv
theorem dne_fin (hs : QS w5 b vw vd ws ds) (hn : ds.length = n) (hr : w7.ownsRow (b + 1) 81 3 v7 (n + 1) (chgsL ds ++ (chgC c).toList)) (hg : w5.grownBy w7 vd.ownBlock) (ho : v7.ownBlock = vd.ownBlock ∨ v7.ownBlock = some w5.heap.size) :
   QdP w5 b vw vd ws (ds ++ [c]) (w7.setCell ⟨b, 1, none⟩ v7) := by
 have hb7 := hs.blk.kept hg (fun e => by have := (hs.dn.lt b e.symm).1; omega)
 have hG : w7.grownBy (w7.setCell ⟨b, 1, none⟩ v7) (some b) := gb_set (gb_refl w7 _) _ _
 have ho2 : ∀ k, v7.ownBlock = some k → vd.ownBlock = some k ∨ w5.heap.size ≤ k := fun k hk => by
   rcases ho with e | e
   · exact .inl (e ▸ hk)
   · rw [e] at hk; injection hk with hk; exact .inr (Nat.le_of_eq hk)
 have hd7 : ∀ k, vw.ownBlock = some k → v7.ownBlock = some k → False := fun k h1 h2 => by
   rcases ho2 k h2 with e | e
   · exact hs.ne k h1 e
   · have := (hs.wa.lt k h1).2; omega
 refine ⟨v7, ⟨hb7.set 1 v7, ((hs.wa.kept hg (fun k hk e => hs.ne k hk e.symm)).kept hG (fun k hk e => by have := (hs.wa.lt k hk).1; injection e with e; omega)), ?_, hd7, hs.wl, fun e => by simp at e⟩, (KpF.of_grown hg (fun k hk => .inr (.inr hk))).trans (KpF.of_grown hG (fun k hk => by injection hk with hk; exact .inl hk.symm)), ho2⟩
 rw [tri_snoc, List.length_append, hn]
 exact hr.kept hG (.inr fun e => by have := (hr.lt _ e).1; omega)
theorem submit_bad (h : QS w b vw vd ws ds) (c : Chg) (hne : chkQ c.pl c.kd c.dt ≠ 0) :
   Calls Tryz.prog 66 #[.pointer (some ⟨b, 0, none⟩), chgV c] w fun e w' => e = .returned (.int .i64 (chkQ c.pl c.kd c.dt)) ∧ w.grownBy w' none := by
 obtain ⟨r, hr⟩ : ∃ r, chkQ c.pl c.kd c.dt = r := ⟨_, rfl⟩
 have CHK := fun wx => check20_any c.pl c.kd c.dt wx
 rw [hr] at CHK hne
 rw [hr, chgV_is]
 have hne2 : (r != 0) = true := by simpa using hne
 have HE := Lib.hid (World.grownBy_alloc w (.cells (chgC c) 30) none)
 have hb1 := Blk.new w 30 (chgC c)
 clear hne hr h
 go_enter Tryz.func66, Tryz.ntmps66
 go_upto_region 1 with fail
 go_wp2_with (first
   | (refine cmd_loadC rfl _ rfl rfl (Blk.range hb1 0 3 rfl) ?_)
   | (go_at_call 118; refine (CHK _).mono ?_; rintro e w2 ⟨rfl, hE2⟩; have HE2 := Lib.hid hE2; clear hE2))
 go_ret
 exact ⟨rfl, ext_trans HE.out HE2.out⟩
theorem submit_full (h : QS w b vw vd ws ds) (c : Chg) (hne : chkQ c.pl c.kd c.dt = 0) (h8 : ws.length = 8) :
   Calls Tryz.prog 66 #[.pointer (some ⟨b, 0, none⟩), chgV c] w fun e w' => e = .returned (.int .i64 8) ∧ w.grownBy w' none := by
 obtain ⟨r, hr⟩ : ∃ r, chkQ c.pl c.kd c.dt = r := ⟨_, rfl⟩
 have CHK := fun wx => check20_any c.pl c.kd c.dt wx
 rw [hr] at CHK hne
 rw [chgV_is]
 have hne2 : (r != 0) = false := by simpa using hne
 have HE := Lib.hid (World.grownBy_alloc w (.cells (chgC c) 30) none)
 have hb1 := Blk.new w 30 (chgC c)
 have hs1 := h.ext HE.out
 obtain ⟨z, hz⟩ : ∃ z : Int, z = (ws.length : Int) := ⟨_, rfl⟩
 have LEN := fun wx (hx : QS wx b vw vd ws ds) => len20 hx
 rw [← hz] at LEN
 have hz8 : decide (8 ≤ z) = true := by rw [hz, h8]; rfl
 clear hne hr h hz h8
 go_enter Tryz.func66, Tryz.ntmps66
 go_upto_region 1 with fail
 go_wp2_with (first
   | (refine cmd_loadC rfl _ rfl rfl (Blk.range hb1 0 3 rfl) ?_)
   | (go_at_call 118; refine (CHK _).mono ?_; rintro e w2 ⟨rfl, hE2⟩; have hs2 := hs1.ext hE2; have HE2 := Lib.hid hE2; clear hE2 hs1)
   | (go_at_call 55; refine (LEN _ hs2).mono ?_; rintro e w3 ⟨rfl, rfl⟩))
 go_ret
 exact ⟨rfl, ext_trans HE.out HE2.out⟩
set_option maxHeartbeats 1600000 in
theorem submit_ok (h : QS w b vw vd ws ds) (c : Chg) (hne : chkQ c.pl c.kd c.dt = 0) (h8 : ws.length < 8) :
   Calls Tryz.prog 66 #[.pointer (some ⟨b, 0, none⟩), chgV c] w fun e w' => e = .returned (.int .i64 0) ∧ QwP w b vw vd (ws ++ [c]) ds w' := by
 obtain ⟨r, hr⟩ : ∃ r, chkQ c.pl c.kd c.dt = r := ⟨_, rfl⟩
 have CHK := fun wx => check20_any c.pl c.kd c.dt wx
 rw [hr] at CHK hne
 rw [chgV_is]
 have hne2 : (r != 0) = false := by simpa using hne
 have hE := World.grownBy_alloc w (.cells (chgC c) 30) none
 have hb1 := Blk.new w 30 (chgC c)
 have hs1 := h.ext hE
 have hlt := h.lt
 obtain ⟨n, hn⟩ : ∃ n, ws.length = n := ⟨_, rfl⟩
 obtain ⟨z, hz⟩ : ∃ z : Int, z = (ws.length : Int) := ⟨_, rfl⟩
 have LEN := fun wx (hx : QS wx b vw vd ws ds) => len20 hx
 rw [← hz] at LEN
 have hz8 : decide (8 ≤ z) = false := by rw [hz]; exact decide_eq_false (by omega)
 have HN := Lib.hid (show ws.length = n ∧ n < 8 from ⟨hn, by omega⟩)
 obtain ⟨so, sc, hv⟩ := h.wa.form20
 rw [hn] at hv
 obtain ⟨i0, hi, hz0, hz1, hz2⟩ := info_parts Tryz.infoCmd
 have hn8 : n < 8 := by omega
 have HLB2 := Lib.hid (show b < w.heap.size ∧ b < w.heap.size ∧ ∀ k, fpQ b vw vd k → k < w.heap.size from ⟨h.blk.lt, h.blk.lt, fun k hk => (hlt k hk).2⟩)
 subst hv
 have HE := Lib.hid hE
 clear hne hr h hz h8 hn hlt hE
 obtain ⟨L, hL⟩ : ∃ z, w.heap.size = z := ⟨_, rfl⟩
 obtain ⟨w1, hw1⟩ : ∃ v, w.alloc (.cells (chgC c) 30) = v := ⟨_, rfl⟩
 rw [hw1] at HE hb1 hs1
 rw [hL] at hb1 HLB2
 go_enter Tryz.func66, Tryz.ntmps66
 go_upto_region 1 with fail
 clear hL hw1
 go_wp2_with (first
   | (refine cmd_loadC rfl _ rfl rfl (Blk.range hb1 0 3 rfl) ?_)
   | (go_at_call 118; refine (CHK _).mono ?_; rintro e w2 ⟨rfl, hE2⟩; have hs2 := hs1.ext hE2; have hb2 := hb1.ext hE2; have HE2 := Lib.hid (ext_trans HE.out hE2); clear hE2 hs1 hb1)
   | (go_at_call 55; refine (LEN _ hs2).mono ?_; rintro e w3 ⟨rfl, rfl⟩))
 clear CHK LEN
 have hSd : Blk w2.drew L 30 (chgC c) := hb2.ext (Ext.drew w2)
 have hQd : QS w2.drew b (.slice so n sc) vd ws ds := hs2.ext (Ext.drew w2)
 have HEd := Lib.hid (ext_trans HE2.out (Ext.drew w2))
 clear hs2 hb2 
 refine region_tree (.read 0 (.read 1 (.read 2 (.read 3 (.read 5 (.two 4 6 (.one 6 (.one 7 (.read 8 (.read 9 (.one 10 .done))))) (.one 4 (.one 7 (.read 8 (.read 9 (.one 10 .done))))))))))) (fun x => Blk x L 30 (chgC c)) (by kernel_rfl) (by kernel_rfl) (fun _ _ _ d _ h => by cases d <;> exact h) hSd ?_
 obtain ⟨wd, hwd⟩ : ∃ y, w2.drew = y := ⟨_, rfl⟩
 rw [hwd] at hSd hQd HEd ⊢
 have c0 := hQd.c0
 have hE5 := World.grownBy_alloc wd (.cells #[.int .i64 c.pl, .int .i64 c.kd, .string c.dt] 30) none
 have hS5 : Blk (wd.alloc (.cells #[.int .i64 c.pl, .int .i64 c.kd, .string c.dt] 30)) L 30 (chgC c) := hSd.ext hE5
 have hQ5 := hQd.ext hE5
 have c05 := hQ5.c0
 have hT5 := hQ5.wa
 rw [HN.out.1] at hT5
 have HT5 := Lib.hid hT5
 have HQ5 := Lib.hid hQ5
 have HQd := Lib.hid hQd
 have HLB := Lib.hid hQd.blk.lt
 have HE5 := Lib.hid (ext_trans HEd.out hE5)
 clear hE5 hQ5 hT5 hQd
 refine tree_read (a' := ?_) rfl (by kernel_rfl) (by kernel_rfl) hSd (fun x0 hx K hK => ?_) ?_
 rotate_left
 · clear hx
   go_wp2
   exact hK
 refine tree_read (a' := ?_) rfl (by kernel_rfl) (by kernel_rfl) hSd (fun x0 hx K hK => ?_) ?_
 rotate_left
 · clear hx
   go_wp2
   exact hK
 refine tree_read (a' := ?_) rfl (by kernel_rfl) (by kernel_rfl) hSd (fun x0 hx K hK => ?_) ?_
 rotate_left
 · clear hx
   go_wp2
   exact hK
 refine tree_read (a' := ?_) rfl (by kernel_rfl) (by kernel_rfl) hSd (fun x0 hx K hK => ?_) ?_
 rotate_left
 · clear hx
   go_wp2
   exact hK
 refine tree_read (a' := ?_) rfl (by kernel_rfl) (by kernel_rfl) hSd (fun x0 hx K hK => ?_) ?_
 rotate_left
 · refine cmd_load rfl _ rfl rfl (Blk.range hx 0 3 rfl) ?_
   clear hx
   go_wp2
   exact hK
 refine tree_two ?_ ?_
 · refine tree_one (by rfl) (fun K hK => ?_)
   go_wp2
   refine hK _ _ (fun x => Blk x L 30 (chgC c)) hSd (fun x hx => hx) ?_
   clear hK K
   refine tree_one (by rfl) (fun K hK => ?_)
   go_wp2
   refine hK _ _ (fun x => Blk x L 30 (chgC c)) hS5 (fun x hx => hx) ?_
   clear hK K
   refine tree_one (by rfl) (fun K hK => ?_)
   refine append_tail rfl _ _ 135 rfl (b + 1) 30 i0 _ 3 32 Tryz.underlying135 hi hz0 hz1 hz2 rfl (by decide) rfl HT5.out ⟨wd.heap.size, 0, none⟩ 1 (chgC c).toList rfl rfl (tri_new wd _ c) (by simp [chgC, Value.oneCell']) (by unfold maxLen; omega) (by omega) (by have := HLB.out; simp; omega) ?_
   intro v7 w7 hr7 hg7 hn7
   have HF := Lib.hid (sub_fin HQ5.out HN.out hr7 hg7 hn7)
   have hb7 := HQ5.out.blk.kept hg7 (fun e => by have := (HQ5.out.wa.lt b e.symm).1; omega)
   have hS7 : Blk w7 L 30 (chgC c) := hS5.kept hg7 (fun e => by have h1 := (HQd.out.wa.lt L e.symm); have h2 := HLB2.out.2.2 L (.inr (.inl e.symm)); omega)
   obtain ⟨a7, c7, rfl⟩ := hr7.form20
   refine hK _ _ (fun x => Blk x L 30 (chgC c)) hS7 (fun x hx => hx) ?_
   clear hK K
   have c7 := (hb7.cell 0).trans (show _ = some _ from rfl)
   have f7 := hb7.free 0
   clear hr7 hg7 hn7
   iterate 2 (refine tree_read (a' := ?_) rfl (by kernel_rfl) (by kernel_rfl) hS7 (fun x0 hx K hK => ?_) ?_; rotate_left; · clear hx; go_wp2; exact hK)
   refine tree_one (by rfl) (fun K hK => ?_)
   go_wp2
   refine hK _ _ (fun x => Blk x L 30 (chgC c)) (hS7.far (by have := HLB2.out; simp; omega) _) (fun x hx => hx) ?_
   clear hK K hb7 hS7 c7 f7
   refine tree_end ?_
   go_wp2
   go_ret
   exact ⟨rfl, QwP.back HE5.out HF.out⟩
 · refine tree_one (by rfl) (fun K hK => ?_)
   go_wp2
   refine hK _ _ (fun x => Blk x L 30 (chgC c)) hS5 (fun x hx => hx) ?_
   clear hK K
   refine tree_one (by rfl) (fun K hK => ?_)
   go_wp2
   refine hK _ _ (fun x => Blk x L 30 (chgC c)) hS5 (fun x hx => hx) ?_
   clear hK K
   refine tree_one (by rfl) (fun K hK => ?_)
   refine append_tail rfl _ _ 135 rfl (b + 1) 30 i0 _ 3 32 Tryz.underlying135 hi hz0 hz1 hz2 rfl (by decide) rfl HT5.out ⟨wd.heap.size, 0, none⟩ 1 (chgC c).toList rfl rfl (tri_new wd _ c) (by simp [chgC, Value.oneCell']) (by unfold maxLen; omega) (by omega) (by have := HLB.out; simp; omega) ?_
   intro v7 w7 hr7 hg7 hn7
   have HF := Lib.hid (sub_fin HQ5.out HN.out hr7 hg7 hn7)
   have hb7 := HQ5.out.blk.kept hg7 (fun e => by have := (HQ5.out.wa.lt b e.symm).1; omega)
   have hS7 : Blk w7 L 30 (chgC c) := hS5.kept hg7 (fun e => by have h1 := (HQd.out.wa.lt L e.symm); have h2 := HLB2.out.2.2 L (.inr (.inl e.symm)); omega)
   obtain ⟨a7, c7, rfl⟩ := hr7.form20
   refine hK _ _ (fun x => Blk x L 30 (chgC c)) hS7 (fun x hx => hx) ?_
   clear hK K
   have c7 := (hb7.cell 0).trans (show _ = some _ from rfl)
   have f7 := hb7.free 0
   clear hr7 hg7 hn7
   iterate 2 (refine tree_read (a' := ?_) rfl (by kernel_rfl) (by kernel_rfl) hS7 (fun x0 hx K hK => ?_) ?_; rotate_left; · clear hx; go_wp2; exact hK)
   refine tree_one (by rfl) (fun K hK => ?_)
   go_wp2
   refine hK _ _ (fun x => Blk x L 30 (chgC c)) (hS7.far (by have := HLB2.out; simp; omega) _) (fun x hx => hx) ?_
   clear hK K hb7 hS7 c7 f7
   refine tree_end ?_
   go_wp2
   go_ret
   exact ⟨rfl, QwP.back HE5.out HF.out⟩
set_option maxHeartbeats 1600000 in
theorem done20 (h : QS w b vw vd ws ds) (c : Chg) (h8 : ds.length ≤ 100000) :
   Calls Tryz.prog 70 #[.pointer (some ⟨b, 0, none⟩), chgV c] w fun e w' => e = .returned (.tuple #[]) ∧ QdP w b vw vd ws (ds ++ [c]) w' := by
 rw [chgV_is]
 have hE := World.grownBy_alloc w (.cells (chgC c) 81) none
 have hb1 := Blk.new w 81 (chgC c)
 have hs1 := h.ext hE
 have hlt := h.lt
 obtain ⟨n, hn⟩ : ∃ n, ds.length = n := ⟨_, rfl⟩
 have HN := Lib.hid hn
 obtain ⟨so, sc, hv⟩ := owns_shape13 h.dn
 rw [hn] at hv
 obtain ⟨i0, hi, hz0, hz1, hz2⟩ := info_parts Tryz.infoDne
 have hn8 : n ≤ 100000 := by omega
 have HLB2 := Lib.hid (show b < w.heap.size ∧ b < w.heap.size ∧ ∀ k, fpQ b vw vd k → k < w.heap.size from ⟨h.blk.lt, h.blk.lt, fun k hk => (hlt k hk).2⟩)
 subst hv
 have HE := Lib.hid hE
 clear h h8 hn hlt hE
 obtain ⟨L, hL⟩ : ∃ z, w.heap.size = z := ⟨_, rfl⟩
 obtain ⟨w2, hw1⟩ : ∃ v, w.alloc (.cells (chgC c) 81) = v := ⟨_, rfl⟩
 rw [hw1] at HE hb1 hs1
 rw [hL] at hb1 HLB2
 go_enter Tryz.func70, Tryz.ntmps70
 go_upto_region 1 with fail
 clear hL hw1
 go_wp2
 have hSd : Blk w2.drew L 81 (chgC c) := hb1.ext (Ext.drew w2)
 have hQd : QS w2.drew b vw (.slice so n sc) ws ds := hs1.ext (Ext.drew w2)
 have HEd := Lib.hid (ext_trans HE.out (Ext.drew w2))
 clear hs1 hb1
 refine region_tree (.read 0 (.read 1 (.read 2 (.read 3 (.read 5 (.two 4 6 (.one 6 (.one 7 (.read 8 (.read 9 (.one 10 .done))))) (.one 4 (.one 7 (.read 8 (.read 9 (.one 10 .done))))))))))) (fun x => Blk x L 81 (chgC c)) (by kernel_rfl) (by kernel_rfl) (fun _ _ _ d _ h => by cases d <;> exact h) hSd ?_
 obtain ⟨wd, hwd⟩ : ∃ y, w2.drew = y := ⟨_, rfl⟩
 rw [hwd] at hSd hQd HEd ⊢
 have c0 := hQd.c1
 have hE5 := World.grownBy_alloc wd (.cells #[.int .i64 c.pl, .int .i64 c.kd, .string c.dt] 81) none
 have hS5 : Blk (wd.alloc (.cells #[.int .i64 c.pl, .int .i64 c.kd, .string c.dt] 81)) L 81 (chgC c) := hSd.ext hE5
 have hQ5 := hQd.ext hE5
 have c05 := hQ5.c1
 have hT5 := hQ5.dn
 rw [HN.out] at hT5
 have HT5 := Lib.hid hT5
 have HQ5 := Lib.hid hQ5
 have HQd := Lib.hid hQd
 have HLB := Lib.hid hQd.blk.lt
 have HE5 := Lib.hid (ext_trans HEd.out hE5)
 clear hE5 hQ5 hT5 hQd
 refine tree_read (a' := ?_) rfl (by kernel_rfl) (by kernel_rfl) hSd (fun x0 hx K hK => ?_) ?_
 rotate_left
 · clear hx
   go_wp2
   exact hK
 refine tree_read (a' := ?_) rfl (by kernel_rfl) (by kernel_rfl) hSd (fun x0 hx K hK => ?_) ?_
 rotate_left
 · clear hx
   go_wp2
   exact hK
 refine tree_read (a' := ?_) rfl (by kernel_rfl) (by kernel_rfl) hSd (fun x0 hx K hK => ?_) ?_
 rotate_left
 · clear hx
   go_wp2
   exact hK
 refine tree_read (a' := ?_) rfl (by kernel_rfl) (by kernel_rfl) hSd (fun x0 hx K hK => ?_) ?_
 rotate_left
 · clear hx
   go_wp2
   exact hK
 refine tree_read (a' := ?_) rfl (by kernel_rfl) (by kernel_rfl) hSd (fun x0 hx K hK => ?_) ?_
 rotate_left
 · refine dne_load rfl _ rfl rfl (Blk.range hx 0 3 rfl) ?_
   clear hx
   go_wp2
   exact hK
 refine tree_two ?_ ?_
 · refine tree_one (by rfl) (fun K hK => ?_)
   go_wp2
   refine hK _ _ (fun x => Blk x L 81 (chgC c)) hSd (fun x hx => hx) ?_
   clear hK K
   refine tree_one (by rfl) (fun K hK => ?_)
   go_wp2
   refine hK _ _ (fun x => Blk x L 81 (chgC c)) hS5 (fun x hx => hx) ?_
   clear hK K
   refine tree_one (by rfl) (fun K hK => ?_)
   refine wpList_append_own_at (wd.alloc (.cells #[.int .i64 c.pl, .int .i64 c.kd, .string c.dt] 81)) rfl _ _ 76 rfl (b + 1) 81 i0 _ 3 32 Tryz.underlying76 hi hz0 hz1 hz2 rfl (by decide) _ n _ rfl HT5.out ⟨wd.heap.size, 0, none⟩ 1 1 (chgC c).toList rfl rfl (tri_new wd _ c) (by simp [chgC, Value.oneCell']) (by unfold maxLen; omega) (by omega) (by have := HLB.out; simp; omega) ?_
   intro v7 w7 hr7 hg7 _ hn7
   have HF := Lib.hid (dne_fin HQ5.out HN.out hr7 hg7 hn7)
   have hb7 := HQ5.out.blk.kept hg7 (fun e => by have := (HQ5.out.dn.lt b e.symm).1; omega)
   have hS7 : Blk w7 L 81 (chgC c) := hS5.kept hg7 (fun e => by have h2 := HLB2.out.2.2 L (.inr (.inr e.symm)); omega)
   obtain ⟨a7, c7, rfl⟩ := owns_shape13 hr7
   refine hK _ _ (fun x => Blk x L 81 (chgC c)) hS7 (fun x hx => hx) ?_
   clear hK K
   have c7 := (hb7.cell 1).trans (show _ = some _ from rfl)
   have f7 := hb7.free 1
   clear hr7 hg7 hn7
   iterate 2 (refine tree_read (a' := ?_) rfl (by kernel_rfl) (by kernel_rfl) hS7 (fun x0 hx K hK => ?_) ?_; rotate_left; · clear hx; go_wp2; exact hK)
   refine tree_one (by rfl) (fun K hK => ?_)
   go_wp2
   refine hK _ _ (fun x => Blk x L 81 (chgC c)) (hS7.far (by have := HLB2.out; simp; omega) _) (fun x hx => hx) ?_
   clear hK K hb7 hS7 c7 f7
   refine tree_end ?_
   go_wp2
   go_end0
   exact ⟨rfl, QdP.back HE5.out HF.out⟩
 · refine tree_one (by rfl) (fun K hK => ?_)
   go_wp2
   refine hK _ _ (fun x => Blk x L 81 (chgC c)) hS5 (fun x hx => hx) ?_
   clear hK K
   refine tree_one (by rfl) (fun K hK => ?_)
   go_wp2
   refine hK _ _ (fun x => Blk x L 81 (chgC c)) hS5 (fun x hx => hx) ?_
   clear hK K
   refine tree_one (by rfl) (fun K hK => ?_)
   refine wpList_append_own_at (wd.alloc (.cells #[.int .i64 c.pl, .int .i64 c.kd, .string c.dt] 81)) rfl _ _ 76 rfl (b + 1) 81 i0 _ 3 32 Tryz.underlying76 hi hz0 hz1 hz2 rfl (by decide) _ n _ rfl HT5.out ⟨wd.heap.size, 0, none⟩ 1 1 (chgC c).toList rfl rfl (tri_new wd _ c) (by simp [chgC, Value.oneCell']) (by unfold maxLen; omega) (by omega) (by have := HLB.out; simp; omega) ?_
   intro v7 w7 hr7 hg7 _ hn7
   have HF := Lib.hid (dne_fin HQ5.out HN.out hr7 hg7 hn7)
   have hb7 := HQ5.out.blk.kept hg7 (fun e => by have := (HQ5.out.dn.lt b e.symm).1; omega)
   have hS7 : Blk w7 L 81 (chgC c) := hS5.kept hg7 (fun e => by have h2 := HLB2.out.2.2 L (.inr (.inr e.symm)); omega)
   obtain ⟨a7, c7, rfl⟩ := owns_shape13 hr7
   refine hK _ _ (fun x => Blk x L 81 (chgC c)) hS7 (fun x hx => hx) ?_
   clear hK K
   have c7 := (hb7.cell 1).trans (show _ = some _ from rfl)
   have f7 := hb7.free 1
   clear hr7 hg7 hn7
   iterate 2 (refine tree_read (a' := ?_) rfl (by kernel_rfl) (by kernel_rfl) hS7 (fun x0 hx K hK => ?_) ?_; rotate_left; · clear hx; go_wp2; exact hK)
   refine tree_one (by rfl) (fun K hK => ?_)
   go_wp2
   refine hK _ _ (fun x => Blk x L 81 (chgC c)) (hS7.far (by have := HLB2.out; simp; omega) _) (fun x hx => hx) ?_
   clear hK K hb7 hS7 c7 f7
   refine tree_end ?_
   go_wp2
   go_end0
   exact ⟨rfl, QdP.back HE5.out HF.out⟩
end
end Go.Proofs.YtfgifgglcafadaaGreatDoor

namespace Go.Proofs.YtfgifgglcafadaaGreatDoor
set_option linter.unusedVariables false
set_option linter.unusedSimpArgs false
set_option linter.unusedVariables false
set_option linter.unusedSimpArgs false
set_option maxRecDepth 100000
open Go.RowKit
section
variable {w w' : World} {b : Nat} {vw vd : Value} {ws ds : List Chg}
theorem QwP.same (h : QS w b vw vd ws ds) (hg : w.grownBy w' none) : QwP w b vw vd ws ds w' :=
 ⟨vw, h.ext hg, KpF.of_grown hg (by simp), fun k hk => .inl hk⟩
theorem submit20 (h : QS w b vw vd ws ds) (c : Chg) :
   Calls Tryz.prog 66 #[.pointer (some ⟨b, 0, none⟩), chgV c] w fun e w' => e = .returned (.int .i64 (subE ws c)) ∧ QwP w b vw vd (subR ws c) ds w' := by
 unfold subR subE
 by_cases hc : chkQ c.pl c.kd c.dt = 0
 · rw [if_neg (by simpa using hc)]
   by_cases h8 : ws.length = 8
   · rw [if_pos h8, if_neg (by decide)]
     exact (submit_full h c hc h8).mono fun e w' ⟨a, g⟩ => ⟨a, QwP.same h g⟩
   · rw [if_neg h8, if_pos rfl]
     exact submit_ok h c hc (by have := h.wl; omega)
 · rw [if_pos hc, if_neg hc]
   exact (submit_bad h c hc).mono fun e w' ⟨a, g⟩ => ⟨a, QwP.same h g⟩
end
end Go.Proofs.YtfgifgglcafadaaGreatDoor

namespace Go.Proofs.YtfgifgglcafadaaGreatDoor
set_option linter.unusedVariables false
set_option linter.unusedSimpArgs false
set_option linter.unusedVariables false
set_option linter.unusedSimpArgs false
set_option maxRecDepth 100000
open Go.RowKit
set_option maxHeartbeats 400000 in
theorem within10_any (v l m : Int) (w : World) :
   Calls Tryz.prog 165 #[.int .i64 v, .int .i64 l, .int .i64 m] w fun e w' => e = .returned (.bool (inB v l m)) ∧ w = w' := by
 by_cases h0 : l ≤ v
 · have e0 : decide (l ≤ v) = true := by simpa using h0
   go_enter Tryz.func165, Tryz.ntmps165
   go_wp2
   go_ret
   exact ⟨ret_bool (by simp [inB, h0]), rfl⟩
 · have e0 : decide (l ≤ v) = false := by simpa using h0
   go_enter Tryz.func165, Tryz.ntmps165
   go_wp2
   go_ret
   exact ⟨ret_bool (by simp [inB]; omega), rfl⟩
theorem isTenant_any (t : Int) (w : World) :
   Calls Tryz.prog 135 #[.int .i64 t] w fun e w' => e = .returned (.bool (inB t 0 3)) ∧ w = w' := by
 go_enter Tryz.func135, Tryz.ntmps135
 go_wp2_with (go_at_call 165; refine (within10_any _ _ _ _).mono ?_; rintro e w' ⟨rfl, rfl⟩)
 go_ret
 exact ⟨rfl, rfl⟩
def missT (L : Led) (t : Int) : Int := if inB t 0 3 = true then (if (L.t t.toNat).th = true then 0 else 6) else 5
def rightB (s r p : Int) : Bool := inB s 1 64 && inB r 0 8 && inB p 2 16
end Go.Proofs.YtfgifgglcafadaaGreatDoor

namespace Go.Proofs.YtfgifgglcafadaaGreatDoor
set_option linter.unusedVariables false
set_option linter.unusedSimpArgs false
set_option linter.unusedVariables false
set_option linter.unusedSimpArgs false
set_option maxRecDepth 100000
open Go.RowKit
attribute [local go_sem] Tryz.eqNilInts
@[reducible] def zeroC : Array Value :=
 #[.int .i64 0, .int .i64 0, .bool false, .int .i64 0, .int .i64 0, .int .i64 0, .slice none 0 0, .bool false, .int .i64 0, .int .i64 0, .int .i64 0, .slice none 0 0,
   .bool false, .int .i64 0, .int .i64 0, .int .i64 0, .slice none 0 0, .bool false, .int .i64 0, .int .i64 0, .int .i64 0, .slice none 0 0]
abbrev OwnI (B : Nat) (w : World) (v : Value) (xs : List Int) : Prop := w.ownsRow B 3 1 v xs.length (xs.map (Value.int .i64))
theorem ints_one (w : World) (x : Int) (T : TypeId) : Ints (w.alloc (.cells #[.int .i64 x] T)) (.slice (some ⟨w.heap.size, 0, none⟩) 1 1) [x] :=
 .inr (.inl ⟨w.heap.size, 0, 1, rfl, by simp, fun i hi => by
   obtain rfl : i = 0 := by simp at hi; exact hi
   simp⟩)
theorem append_ints {w : World} {ops : Array Oper} {rest : List Oper} {o : Oper} {a : Act} {Q : Exit → Act → World → Prop} (hgd : o.guard = none) (s x : Operand)
   (ho : o.op = .call { callee := .builtin .append, args := #[s, x], argTypes := #[24, 24] }) (base : Nat)
   (v : Value) (xs : List Int) (hs : a.eval s = v) (hown : OwnI base w v xs) (src : Value) (ys : List Int) (hx : a.eval x = src) (hb : Ints w src ys)
   (h63 : xs.length + ys.length ≤ 16777216) (hbase : base ≤ w.heap.size)
   (h : ∀ v' w', OwnI base w' v' (xs ++ ys) → w.grownBy w' v.ownBlock → (v'.ownBlock = v.ownBlock ∨ v'.ownBlock = some w.heap.size) → wpList Tryz.prog ops Q rest (a.put o.dst v') w') : wpList Tryz.prog ops Q (o :: rest) a w := by
 obtain ⟨i0, hi, hz0, hz1, hz2⟩ := info_parts Tryz.infoInt
 rcases hb.two with ⟨rfl, rfl⟩ | ⟨sa, cap, rfl, _, hc⟩
 · refine wpList_append_own_none hgd s x 24 ho base 3 i0 1 Tryz.underlying24 hi v _ _ hs hown hx ?_
   exact h v w (by simpa using hown) ⟨rfl, rfl, rfl, Nat.le_refl _, fun _ _ _ => rfl⟩ (.inl rfl)
 · refine wpList_append_own_at w hgd s x 24 ho base 3 i0 (.int .i64 0) 1 8 Tryz.underlying24 hi hz0 hz1 hz2 rfl (by decide) v _ _ hs hown sa ys.length cap (ys.map (Value.int .i64)) hx (by simp) ?_ (ints_oneCell _ _) (by unfold maxLen; omega) (by omega) hbase ?_
   · intro j u hj
     rw [List.getElem?_map] at hj
     by_cases h : j < ys.length
     · rw [List.getElem?_eq_getElem h] at hj
       rw [hc j h, ← hj]
       simp [List.getElem?_eq_getElem h, List.getD_eq_getElem?_getD]
     · rw [List.getElem?_eq_none (by omega)] at hj
       cases hj
   · intro v' w' h1 h2 _ h4
     refine h v' w' ?_ h2 h4
     unfold OwnI
     rw [List.length_append, List.map_append]
     exact h1
def ClonedO (w : World) (xs : List Int) (e : Ending) (w' : World) : Prop := ∃ v', e = .returned v' ∧ OwnI w.heap.size w' v' xs ∧ w.grownBy w' none
theorem cloneO_any (v : Value) (xs : List Int) (w : World) (hb : Ints w v xs) (hm : xs.length ≤ 1048576) :
   Calls Tryz.prog 87 #[v] w (ClonedO w xs) := by
 obtain ⟨i0, hi, hz0, hz1, hz2⟩ := info_parts Tryz.infoInt
 rcases hb.two with ⟨rfl, rfl⟩ | ⟨sa, cap, rfl, _, hc⟩
 · go_enter Tryz.func87, Tryz.ntmps87
   go_wp2
   go_ret
   exact ⟨_, rfl, ⟨rfl, .inl ⟨rfl, rfl⟩⟩, ⟨rfl, rfl, rfl, Nat.le_refl _, fun _ _ _ => rfl⟩⟩
 · have hown := World.ownsRow_made (base := w.heap.size) (e := 3) (size := 1) w #[] 0 (Nat.le_refl _) (Nat.zero_le _) rfl
   have HC := Lib.hid hc
   clear hc
   go_enter Tryz.func87, Tryz.ntmps87
   go_wp2_with (at_builtin; go_loud (refine wpList_append_own _ rfl _ _ 24 rfl w.heap.size 3 i0 (.int .i64 0) 1 8 Tryz.underlying24 hi hz0 hz1 hz2 rfl (by decide) _ _ _ rfl hown sa xs.length cap (xs.map (Value.int .i64)) rfl (by simp) ?c1 ?c2 ?c3 ?c4 ?c5 ?_))
   case c1 =>
     intro j u hj
     rw [List.getElem?_map] at hj
     by_cases h : j < xs.length
     · rw [List.getElem?_eq_getElem h] at hj
       have h2 := HC.out j h
       rw [World.cell?_alloc_old _ _ _ (Nat.ne_of_lt (World.block_lt_of_cell? w _ h2)), h2, ← hj]
       simp [List.getElem?_eq_getElem h, List.getD_eq_getElem?_getD]
     · rw [List.getElem?_eq_none (by omega)] at hj
       cases hj
   case c2 => exact ints_oneCell _ _
   case c3 => unfold maxLen; omega
   case c4 => omega
   case c5 => simp
   intro v' w1 hown' hgrow _
   have hown2 : w1.ownsRow w.heap.size 3 1 v' xs.length (xs.map (Value.int .i64)) := by simpa using hown'
   go_wp2
   go_ret
   exact ⟨v', rfl, hown2, grown_trans (World.grownBy_alloc w _ none) hgrow (fun k hk h => by simp [Value.ownBlock] at hk; omega)⟩
theorem own_lt {B : Nat} {w : World} {v : Value} {xs : List Int} (h : OwnI B w v xs) : ∀ p, v.ownBlock = some p → B ≤ p ∧ p < w.heap.size := h.lt
theorem ext_own {w w1 w2 : World} {B : Nat} {v : Value} {xs : List Int} (h1 : w.grownBy w1 none) (ho : OwnI B w1 v xs) (hB : w.heap.size ≤ B) (h2 : w1.grownBy w2 v.ownBlock) : w.grownBy w2 none :=
 grown_trans h1 h2 (fun p hp hlt => by have := own_lt ho p hp; omega)
structure Owned (B : Nat) (w : World) (L : Led) (V : Nat → Value) (k : Nat) : Prop where
 own : ∀ j, j < k → OwnI B w (V j) (L.t j).bs
 apart : ∀ i j, i < k → j < k → i ≠ j → ∀ p, (V i).ownBlock = some p → (V j).ownBlock ≠ some p
theorem own_kept {B : Nat} {w w' : World} {v : Value} {xs : List Int} {r : Option Nat} (h : OwnI B w v xs) (hg : w.grownBy w' r) (hne : ∀ p, v.ownBlock = some p → some p ≠ r) : OwnI B w' v xs := by
 obtain ⟨h1, h2⟩ := h
 refine ⟨h1, ?_⟩
 rcases h2 with h2 | ⟨g, cap, cur, rfl, hB, hh, hc, hr⟩
 · exact .inl h2
 · have hlt : g < w.heap.size := (Array.getElem?_eq_some_iff.1 hh).1
   exact .inr ⟨g, cap, cur, rfl, hB, (hg.block g hlt (hne g rfl)).trans hh, hc, hr⟩
theorem Owned.is {B : Nat} {w : World} {L : Led} {V : Nat → Value} (h : Owned B w L V 4) : LedIs w L V := fun j hj => owns_ints rfl (h.own j hj)
theorem Owned.kept {B k : Nat} {w w' : World} {L : Led} {V : Nat → Value} {r : Option Nat} (h : Owned B w L V k) (hg : w.grownBy w' r) (hne : ∀ j, j < k → ∀ p, (V j).ownBlock = some p → some p ≠ r) : Owned B w' L V k :=
 ⟨fun j hj => own_kept (h.own j hj) hg (hne j hj), h.apart⟩
theorem Owned.le {B B' k : Nat} {w : World} {L : Led} {V : Nat → Value} (h : Owned B w L V k) (hB : B' ≤ B) : Owned B' w L V k :=
 ⟨fun j hj => ownsRow_le (h.own j hj) hB, h.apart⟩
theorem Owned.next {B k : Nat} {w w1 : World} {L : Led} {V : Nat → Value} {v : Value} (h : Owned B w L V k) (hB : B ≤ w.heap.size) (hg : w.grownBy w1 none) (ho : OwnI w.heap.size w1 v (L.t k).bs) {g : Nat} (hgB : g < B) (o : Nat) (u : Value) :
   Owned B (w1.setCell ⟨g, o, none⟩ u) L (updV V k v) (k + 1) := by
 have hs : w1.grownBy (w1.setCell ⟨g, o, none⟩ u) (some g) := gb_set (gb_refl w1 (some g)) o u
 refine ⟨fun j hj => ?_, fun i j hi hj hij p hp hq => ?_⟩
 · unfold updV
   by_cases e : j = k
   · subst e
     rw [if_pos rfl]
     exact own_kept (ownsRow_le ho hB) hs (fun p hp e => by have := own_lt ho p hp; injection e with e; omega)
   · rw [if_neg e]
     have h1 := own_kept (h.own j (by omega)) hg (by simp)
     exact own_kept h1 hs (fun p hp e => by have := own_lt h1 p hp; injection e with e; omega)
 · unfold updV at hp hq
   by_cases ei : i = k
   · subst ei
     rw [if_pos rfl] at hp
     rw [if_neg (Ne.symm hij)] at hq
     have := own_lt ho p hp
     have := own_lt (h.own j (by omega)) p hq
     omega
   · rw [if_neg ei] at hp
     by_cases ej : j = k
     · subst ej
       rw [if_pos rfl] at hq
       have := own_lt ho p hq
       have := own_lt (h.own i (by omega)) p hp
       omega
     · rw [if_neg ej] at hq
       exact h.apart i j (by omega) (by omega) hij p hp hq
def TwinP (w : World) (L : Led) (e : Ending) (w' : World) : Prop := ∃ V', e = .returned (.agg (ledC L V')) ∧ Owned w.heap.size w' L V' 4 ∧ Ext w w'
structure Twining (w : World) (g : Nat) (L : Led) (V V' : Nat → Value) (k : Nat) (wr : World) : Prop where
 blk : Blk wr g 56 (ledC L V')
 rest : ∀ j, k ≤ j → V' j = V j
 own : Owned (g + 2) wr L V' k
 ext : Ext w wr
 out : ∃ C, Blk wr (g + 1) 56 C ∧ C.size = 22
 at_ : g = w.heap.size
theorem Twining.next {w wr w1 : World} {g k : Nat} {L : Led} {V V' : Nat → Value} {v : Value} (h : Twining w g L V V' k wr) (hk : k < 4) (hg : wr.grownBy w1 none) (ho : OwnI wr.heap.size w1 v (L.t k).bs) :
   Twining w g L V (updV V' k v) (k + 1) (w1.setCell ⟨g, 2 + k * 5 + 4, none⟩ v) := by
 obtain ⟨C, hC, hCs⟩ := h.out
 have hlt := h.blk.lt
 have hlt2 := hC.lt
 have hsz := hg.size
 have hs : w1.grownBy (w1.setCell ⟨g, 2 + k * 5 + 4, none⟩ v) (some g) := gb_set (gb_refl w1 (some g)) _ v
 refine ⟨?_, fun j hj => ?_, ?_, ?_, ⟨C, ?_, hCs⟩, h.at_⟩
 · have := (h.blk.ext hg).set (2 + k * 5 + 4) v
   rw [led_setV L V' hk] at this
   exact this
 · unfold updV
   rw [if_neg (by omega)]
   exact h.rest j (by omega)
 · exact h.own.next (by omega) hg ho (by omega) _ _
 · exact grown_trans (ext_trans h.ext hg) hs (fun p hp hlt3 => by injection hp with hp; have := h.at_; omega)
 · exact (hC.ext hg).far (by show g + 1 ≠ g; omega) v
theorem results_cell_row2 {P : Program} {fn : Func} {p t : Tmp} {ty : TypeId} {tmps : Array Value} {w : World} {g : Nat} {bt : TypeId} {cs : Array Value} {v : Value} {d : TypeDesc} (h : fn.results = #[.cell p ty, .tmp t])
   (hp : tmps.getD p undef = .pointer (some ⟨g, 0, none⟩)) (hv : tmps.getD t undef = v) (hg : w.heap[g]? = some (.cells cs bt (0, 0)))
   (hu : P.underlying ty = some d) (hd : (match d with | .struct _ | .array _ _ => true | _ => false) = true) (hi : (P.info? ty).map (·.size) = some cs.size) :
   (results fn tmps).run P w = .ok (.tuple #[.agg cs, v]) w := by
 have hp' : tmps[p]?.getD undef = .pointer (some ⟨g, 0, none⟩) := by simpa using hp
 have hv' : tmps[t]?.getD undef = v := by simpa using hv
 simp [results, h, hp', hv', asAddr, run_loadVar_row w g bt ty cs (0, 0) d hg hu hd hi]
set_option maxHeartbeats 800000 in
theorem twin10_any (L : Led) (V : Nat → Value) (w : World) (hL : LedIs w L V) (hm : ∀ j, j < 4 → (L.t j).bs.length ≤ 1048576) :
   Calls Tryz.prog 71 #[.agg (ledC L V)] w (TwinP w L) := by
 have hE := grown_alloc (World.grownBy_alloc w (.cells (ledC L V) 56) none) (.cells zeroC 56)
 have hT : Twining w w.heap.size L V V 0 ((w.alloc (.cells (ledC L V) 56)).alloc (.cells zeroC 56)) :=
   ⟨(Blk.new w _ _).alloc _, fun _ _ => rfl, ⟨fun j hj => absurd hj (by omega), fun i _ hi => absurd hi (by omega)⟩, hE, ⟨_, Blk.newAt _ _ (by simp) _ _, rfl⟩, rfl⟩
 have HL := Lib.hid hL
 have HM := Lib.hid hm
 clear hL hm hE
 go_enter Tryz.func71, Tryz.ntmps71
 go_wp2
 obtain ⟨w1, hw1⟩ : ∃ v, (w.alloc (.cells (ledC L V) 56)).alloc (.cells zeroC 56) = v := ⟨_, rfl⟩
 rw [hw1] at hT ⊢
 obtain ⟨g, hg⟩ : ∃ g, w.heap.size = g := ⟨_, rfl⟩
 rw [hg] at hT ⊢
 have HT := Lib.hid hT
 clear hw1 hT hg
 go_loopw [4] (fun i wr => ∃ k : Nat, k ≤ 4 ∧ i = .int .i64 k ∧ ∃ V', Twining w g L V V' k wr) (fun i _ => 4 - (intOf i).toNat)
 case atStart => exact ⟨0, by omega, rfl, V, HT.out⟩
 case round =>
   obtain ⟨k, hk, rfl, V', hT⟩ := hrel
   have HT := Lib.hid hT
   by_cases hlt : k < 4
   · have hV := hT.rest k (Nat.le_refl _)
     have hI : Ints wr (V' k) (L.t k).bs := by rw [hV]; exact (HL.out k hlt).kept hT.ext (by simp)
     have C := cloneO_any (V' k) (L.t k).bs wr hI (HM.out k hlt)
     have c := (hT.blk.cell _).trans (led_bs L V' hlt)
     obtain ⟨ao, cp, _, _, hv, _⟩ := hI.form
     rw [hv] at C c
     clear hV hI hv hT
     go_wp2_with (go_at_call 87; refine C.mono ?_; rintro e w4 ⟨v4, rfl, ho4, hg4⟩; have hc4 := (hg4.cell c (by simp)); have hf4 := (HT.out.blk.ext hg4).free (2 + k * 5 + 4); have HT2 := Lib.hid (HT.out.next hlt hg4 ho4); obtain ⟨_, _, _, rfl⟩ := (owns_ints rfl ho4).slice; clear ho4 hg4 c)
     go_roundw
     case rel => exact ⟨k + 1, by omega, by go_num, _, HT2.out⟩
     case measure => simp [intOf]; omega
   · obtain rfl : k = 4 := by omega
     obtain ⟨C, hC, hCs⟩ := hT.out
     have hb := hT.blk
     have hat := hT.at_
     clear hT
     have hS : ∀ j, j < 4 → SliceV (V' j) := HT.out.own.is.slices
     go_wp2_with (first
       | (refine led_load _ rfl rfl hb rfl ?_)
       | (refine led_store _ _ rfl rfl rfl hC hCs hS rfl ?_; intro w5 hb5 hg5 hs5))
     refine bodyPost_ret (v := .agg (ledC L V')) (results_cell_row rfl _ _ (g + 1) _ _ (0, 0) _ rfl hb5 Tryz.underlying56 rfl Tryz.sizeLed) rfl ⟨V', rfl, ?_, ?_⟩
     · rw [← hat]
       exact (HT.out.own.kept hg5 (fun j hj p hp e => by have := own_lt (HT.out.own.own j hj) p hp; injection e with e; omega)).le (by omega)
     · exact grown_trans HT.out.ext hg5 (fun p hp hlt3 => by injection hp with hp; omega)
end Go.Proofs.YtfgifgglcafadaaGreatDoor

namespace Go.Proofs.YtfgifgglcafadaaGreatDoor
set_option linter.unusedVariables false
set_option linter.unusedSimpArgs false
set_option linter.unusedVariables false
set_option linter.unusedSimpArgs false
set_option maxRecDepth 100000
open Go.RowKit
def inc (n : Int) : Int := wrap64 (n + 1)
theorem gb_weak10 {w w' : World} (h : w.grownBy w' none) (r : Option Nat) : w.grownBy w' r := ⟨h.os, h.tape, h.output, h.size, fun k hk _ => h.block k hk (by simp)⟩
def CreatedP (w : World) (b : Nat) (L : Led) (V : Nat → Value) (k : Nat) (s r : Int) (xs : List Int) (e : Ending) (w' : World) : Prop :=
 e = .returned (.tuple #[]) ∧ ∃ v', Blk w' b 56 (ledC (updT { L with eps := inc L.eps } k ⟨true, inc L.eps, s, r, xs⟩) (updV V k v')) ∧ Ints w' v' xs ∧ (∀ p, v'.ownBlock = some p → w.heap.size ≤ p ∧ p < w'.heap.size) ∧ w.grownBy w' (some b)
set_option maxHeartbeats 1600000 in
theorem createDo_is (w : World) (b sb rb gb tb : Nat) (L : Led) (V : Nat → Value) (k : Nat) (s r : Int) (gv : Value) (xs : List Int) (hb : Blk w b 56 (ledC L V))
   (hs : w.cell? ⟨sb, 0, none⟩ = some (.int .i64 s)) (hr : w.cell? ⟨rb, 0, none⟩ = some (.int .i64 r)) (hg : w.cell? ⟨gb, 0, none⟩ = some gv) (ht : w.cell? ⟨tb, 0, none⟩ = some (.int .i64 k))
   (ns : sb ≠ b) (nr : rb ≠ b) (ng : gb ≠ b) (nt : tb ≠ b) (hI : Ints w gv xs) (hx : xs.length ≤ 1048576) (hk : k < 4) (hgo : ∀ p, gv.ownBlock = some p → p ≠ b) :
   Calls Tryz.prog 138 #[.pointer (some ⟨b, 0, none⟩), .pointer (some ⟨sb, 0, none⟩), .pointer (some ⟨rb, 0, none⟩), .pointer (some ⟨gb, 0, none⟩), .pointer (some ⟨tb, 0, none⟩)] w (CreatedP w b L V k s r xs) := by
 have c0 := (hb.cell 1).trans (led_eps L V)
 have f0 := hb.free 1
 have hb1 := hb.set 1 (.int .i64 (inc L.eps))
 rw [led_setEps] at hb1
 have far : ∀ {p : Nat} {u : Value}, p ≠ b → w.cell? ⟨p, 0, none⟩ = some u → (w.setCell ⟨b, 1, none⟩ (.int .i64 (inc L.eps))).cell? ⟨p, 0, none⟩ = some u := fun hne h => by
   rw [World.cell?_setCell_other _ _ _ _ (fun e => hne (by injection e with e _; exact e.symm))]; exact h
 have s1 := far ns hs
 have r1 := far nr hr
 have g1 := far ng hg
 have t1 := far nt ht
 have hE1 : w.grownBy (w.setCell ⟨b, 1, none⟩ (.int .i64 (inc L.eps))) (some b) := gb_set (gb_refl w (some b)) _ _
 have hI1 := hI.kept hE1 (fun p hp e => by injection e with e; exact hgo p hp e)
 have hz1 : (w.setCell ⟨b, 1, none⟩ (.int .i64 (inc L.eps))).heap.size = w.heap.size := by simp [World.setCell]
 obtain ⟨n1, hn1⟩ : ∃ n, wrap64 (L.eps + 1) = n := ⟨_, rfl⟩
 unfold CreatedP inc
 unfold inc at hb1 s1 r1 g1 t1 hE1 hI1 hz1
 rw [hn1] at hb1 s1 r1 g1 t1 hE1 hI1 hz1 ⊢
 obtain ⟨w1, hw1⟩ : ∃ v, w.setCell ⟨b, 1, none⟩ (.int .i64 n1) = v := ⟨_, rfl⟩
 rw [hw1] at hb1 s1 r1 g1 t1 hE1 hI1 hz1
 clear hs hr hg ht hI far
 have HI := Lib.hid hI1
 have HB := Lib.hid hb1
 have HE := Lib.hid hE1
 have HZ := Lib.hid hz1
 have e1 := (hb1.cell 1).trans (led_eps _ _)
 obtain ⟨ga, gc, _, _, rfl, _⟩ := hI1.form
 clear hI1 hb1 hE1 hz1
 go_enter Tryz.func138, Tryz.ntmps138
 go_wp2
 clear hw1 hn1 c0 f0
 let S : World → Prop := fun x => x.cell? ⟨b, 1, none⟩ = some (.int .i64 n1) ∧ x.cell? ⟨sb, 0, none⟩ = some (.int .i64 s) ∧ x.cell? ⟨rb, 0, none⟩ = some (.int .i64 r) ∧ x.cell? ⟨gb, 0, none⟩ = some (.slice ga xs.length gc) ∧ x.cell? ⟨tb, 0, none⟩ = some (.int .i64 k)
 have hS : S w1.drew := ⟨e1, s1, r1, g1, t1⟩
 refine region_line [(0, true), (1, true), (2, true), (3, true), (4, true), (5, true), (6, true), (7, true), (8, true), (11, true), (12, true), (9, false), (10, false), (13, true), (14, false)] S (by kernel_rfl) (by kernel_rfl) (fun _ _ _ d _ h => by cases d <;> exact h) hS ?_
 have CL := cloneO_any _ xs w1.drew (HI.out.kept (gb_drew (gb_refl w1 none)) (by simp)) hx
 clear e1 s1 r1 g1 t1
 repeat (refine line_read (a' := ?_) rfl (by kernel_rfl) (by kernel_rfl) hS (fun x hx K hK => ?_) ?_; rotate_left; · (obtain ⟨x1, x2, x3, x4, x5⟩ := hx; go_wp2; exact hK))
 refine line_act (by rfl) (fun K hK => ?_)
 go_wp2_with (go_at_call 87; refine CL.mono ?_; rintro e w4 ⟨v4, rfl, ho4, hg4⟩)
 have hS4 : S w4 := ⟨hg4.cell hS.1 (by simp), hg4.cell hS.2.1 (by simp), hg4.cell hS.2.2.1 (by simp), hg4.cell hS.2.2.2.1 (by simp), hg4.cell hS.2.2.2.2 (by simp)⟩
 refine hK _ _ S hS4 (fun x hx => hx) ?_
 clear hK K
 have hI4 : Ints w4 v4 xs := owns_ints rfl ho4
 have hlt4 := own_lt ho4
 obtain ⟨a4, n4, c4, rfl⟩ := hI4.slice
 refine line_act (by rfl) (fun K hK => ?_)
 go_wp2
 refine hK _ _ S hS4 (fun x hx => hx) ?_
 clear hK K
 repeat (refine line_read (a' := ?_) rfl (by kernel_rfl) (by kernel_rfl) hS4 (fun x hx K hK => ?_) ?_; rotate_left; · (obtain ⟨x1, x2, x3, x4, x5⟩ := hx; go_wp2; exact hK))
 refine line_act (by rfl) (fun K hK => ?_)
 have hb4 : Blk w4 b 56 _ := HB.out.drew.ext hg4
 refine ten_store_in _ _ rfl hk rfl (z := ⟨true, n1, s, r, xs⟩) (v := .slice a4 n4 c4) rfl hb4 ⟨_, _, _, rfl⟩ rfl ?_
 intro w5 hb5 hg5 hs5
 have hS5 : S w5 := ⟨(hb5.cell 1).trans (led_eps _ _), hg5.cell hS4.2.1 (fun e => ns (by injection e)), hg5.cell hS4.2.2.1 (fun e => nr (by injection e)), hg5.cell hS4.2.2.2.1 (fun e => ng (by injection e)), hg5.cell hS4.2.2.2.2 (fun e => nt (by injection e))⟩
 refine hK _ _ S hS5 (fun x hx => hx) ?_
 clear hK K
 refine line_end ?_
 have hz : w.heap.size ≤ w4.heap.size := by have := hg4.size; have := HZ.out; have h3 : w1.drew.heap.size = w1.heap.size := rfl; omega
 have hb0 : b < w1.heap.size := HB.out.lt
 have hge : ∀ p, (Value.slice a4 n4 c4).ownBlock = some p → w1.heap.size ≤ p ∧ p < w4.heap.size := fun p hp => by have := hlt4 p hp; exact this
 go_wp2
 go_end0
 refine ⟨rfl, _, hb5, hI4.kept hg5 (fun p hp e => by have := hge p hp; injection e with e; omega), fun p hp => by have := hge p hp; have := HZ.out; omega, ?_⟩
 exact grown_trans (gb_trans (gb_trans HE.out (gb_drew (gb_refl w1 (some b)))) (gb_weak10 hg4 _)) hg5 (fun p hp _ => hp.symm)
structure Ready (B : Nat) (w : World) (b : Nat) (L : Led) (V : Nat → Value) : Prop where
 blk : Blk w b 56 (ledC L V)
 own : Owned B w L V 4
 far : ∀ j, j < 4 → ∀ p, (V j).ownBlock = some p → p ≠ b
 lo : B ≤ b
def DoneP (B b : Nat) (L2 : Led) (w : World) (e : Ending) (w' : World) : Prop :=
 e = .returned (.tuple #[]) ∧ ∃ V2, Blk w' b 56 (ledC L2 V2) ∧ LedIs w' L2 V2 ∧ (∀ j, j < 4 → ∀ p, (V2 j).ownBlock = some p → B ≤ p ∧ p < w'.heap.size) ∧ Below B w w'
theorem below_gb {w w' : World} {b B : Nat} (h : w.grownBy w' (some b)) (hB : B ≤ b) (hw : B ≤ w.heap.size) : Below B w w' :=
 ⟨h.os, h.tape, h.output, h.size, fun k hk => h.block k (by omega) (fun e => by injection e with e; omega)⟩
theorem Ready.lows {B b : Nat} {w : World} {L : Led} {V : Nat → Value} (h : Ready B w b L V) : B ≤ w.heap.size := by have := h.blk.lt; have := h.lo; omega
theorem Ready.done {B b : Nat} {w w' : World} {L L2 : Led} {V : Nat → Value} {k : Nat} {v : Value} (h : Ready B w b L V) (hb : Blk w' b 56 (ledC L2 (updV V k v))) (hL : ∀ j, j < 4 → j ≠ k → (L2.t j).bs = (L.t j).bs) (hI : Ints w' v (L2.t k).bs)
   (hv : ∀ p, v.ownBlock = some p → B ≤ p ∧ p < w'.heap.size) (hg : w.grownBy w' (some b)) : DoneP B b L2 w (.returned (.tuple #[])) w' := by
 refine ⟨rfl, _, hb, fun j hj => ?_, fun j hj p hp => ?_, below_gb hg h.lo h.lows⟩
 · unfold updV
   by_cases e : j = k
   · subst e; rw [if_pos rfl]; exact hI
   · rw [if_neg e, hL j hj e]
     exact (h.own.is j hj).kept hg (fun p hp e2 => h.far j hj p hp (by injection e2))
 · unfold updV at hp
   by_cases e : j = k
   · rw [if_pos e] at hp; exact hv p hp
   · rw [if_neg e] at hp
     have h1 := own_lt (h.own.own j hj) p hp
     have := hg.size
     omega
def createL (L : Led) (k : Nat) (s r : Int) (xs : List Int) : Led := updT { L with eps := inc L.eps } k ⟨true, inc L.eps, s, r, xs⟩
theorem createDo_done {B w b} (sb rb gb tb : Nat) {L : Led} {V : Nat → Value} (k : Nat) (s r : Int) (gv : Value) (xs : List Int) (hR : Ready B w b L V)
   (hs : w.cell? ⟨sb, 0, none⟩ = some (.int .i64 s)) (hr : w.cell? ⟨rb, 0, none⟩ = some (.int .i64 r)) (hg : w.cell? ⟨gb, 0, none⟩ = some gv) (ht : w.cell? ⟨tb, 0, none⟩ = some (.int .i64 k))
   (ns : sb < B) (nr : rb < B) (ng : gb < B) (nt : tb < B) (hI : Ints w gv xs) (hx : xs.length ≤ 1048576) (hk : k < 4) (hgo : ∀ p, gv.ownBlock = some p → p < B) :
   Calls Tryz.prog 138 #[.pointer (some ⟨b, 0, none⟩), .pointer (some ⟨sb, 0, none⟩), .pointer (some ⟨rb, 0, none⟩), .pointer (some ⟨gb, 0, none⟩), .pointer (some ⟨tb, 0, none⟩)] w (DoneP B b (createL L k s r xs) w) := by
 have hlo := hR.lo
 refine (createDo_is w b sb rb gb tb L V k s r gv xs hR.blk hs hr hg ht (by omega) (by omega) (by omega) (by omega) hI hx hk (fun p hp => by have := hgo p hp; omega)).mono fun e w' h => ?_
 obtain ⟨rfl, v', hb', hI', ho', hgr⟩ := h
 refine hR.done hb' (fun j _ hne => by simp [createL, updT, hne]) (by simpa [createL, updT] using hI') (fun p hp => ?_) hgr
 have := ho' p hp
 have := hR.lows
 omega
end Go.Proofs.YtfgifgglcafadaaGreatDoor

namespace Go.Proofs.YtfgifgglcafadaaGreatDoor
set_option linter.unusedVariables false
set_option linter.unusedSimpArgs false
set_option linter.unusedVariables false
set_option linter.unusedSimpArgs false
set_option maxRecDepth 100000
open Go.RowKit
end Go.Proofs.YtfgifgglcafadaaGreatDoor
