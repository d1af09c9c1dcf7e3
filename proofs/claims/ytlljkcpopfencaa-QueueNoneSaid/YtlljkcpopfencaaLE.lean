/-
  Layer 20 (queue): Next, Submit, Done; of nil.
-/
import Derived.Test.YtlljkcpopfencaaLC
namespace Go.Proofs.Ytlljkcpopfencaa
set_option linter.unusedVariables false
set_option linter.unusedSimpArgs false
set_option maxRecDepth 100000
open Go.RowKit

theorem results_ct20 {P : Program} {fn : Func} {p t : Tmp} {ty : TypeId} {tmps : Array Value} {w : World} {g : Nat} {bt : TypeId} {cs : Array Value} {v : Value} {d : TypeDesc} (h : fn.results = #[.cell p ty, .tmp t])
    (hp : tmps.getD p undef = .pointer (some ⟨g, 0, none⟩)) (hv : tmps.getD t undef = v) (hg : w.heap[g]? = some (.cells cs bt (0, 0)))
    (hu : P.underlying ty = some d) (hd : (match d with | .struct _ | .array _ _ => true | _ => false) = true) (hi : (P.info? ty).map (·.size) = some cs.size) :
    (results fn tmps).run P w = .ok (.tuple #[.agg cs, v]) w := by
  have hp' : tmps[p]?.getD undef = .pointer (some ⟨g, 0, none⟩) := by simpa using hp
  have hv' : tmps[t]?.getD undef = v := by simpa using hv
  simp [results, h, hp', hv', asAddr, run_loadVar_row w g bt ty cs (0, 0) d hg hu hd hi]

theorem Try.sizeCmd : (Try.prog.info? 29).map (·.size) = some 3 := by kernel_rfl
theorem Try.sizeDne : (Try.prog.info? 32).map (·.size) = some 3 := by kernel_rfl
section
variable {ops : Array Oper} {rest : List Oper} {o : Oper} {a : Act} {w : World} {Q : Exit → Act → World → Prop}
theorem cmd_load (hwt : Region.wanted o (yielded ops a.tmps) = true) (x : Operand) (ho : o.op = .load 29 x) {b off : Nat} (hx : a.eval x = .pointer (some ⟨b, off, none⟩)) {c : Chg} (hr : w.rangeAt b off (chgC c).toList)
    (h : wpList Try.prog ops Q rest (a.put o.dst (.agg #[.int .i64 c.pl, .int .i64 c.kd, .string c.dt])) w) : wpList Try.prog ops Q (o :: rest) a w :=
  wpList_want hwt fun K hK => wp_load_mid _ x ho b off hx _ _ hr Try.underlying29 rfl (by rw [Try.sizeCmd]; rfl) (hK _ _ (by simpa [chgC] using h))
theorem cmd_loadC (hwt : Region.wanted o (yielded ops a.tmps) = true) (x : Operand) (ho : o.op = .load 29 x) {b off : Nat} (hx : a.eval x = .pointer (some ⟨b, off, none⟩)) {c : Chg} (hr : w.rangeAt b off (chgC c).toList)
    (h : wpList Try.prog ops Q rest (a.put o.dst (.agg (chgC c))) w) : wpList Try.prog ops Q (o :: rest) a w :=
  wpList_want hwt fun K hK => wp_load_mid _ x ho b off hx _ _ hr Try.underlying29 rfl (by rw [Try.sizeCmd]; rfl) (hK _ _ (by simpa using h))
theorem dne_load (hwt : Region.wanted o (yielded ops a.tmps) = true) (x : Operand) (ho : o.op = .load 32 x) {b off : Nat} (hx : a.eval x = .pointer (some ⟨b, off, none⟩)) {c : Chg} (hr : w.rangeAt b off (chgC c).toList)
    (h : wpList Try.prog ops Q rest (a.put o.dst (.agg #[.int .i64 c.pl, .int .i64 c.kd, .string c.dt])) w) : wpList Try.prog ops Q (o :: rest) a w :=
  wpList_want hwt fun K hK => wp_load_mid _ x ho b off hx _ _ hr Try.underlying32 rfl (by rw [Try.sizeDne]; rfl) (hK _ _ (by simpa [chgC] using h))
theorem cmd_store (x y : Operand) (ho : o.op = .store 29 x y) {g : Nat} (hx : a.eval x = .pointer (some ⟨g, 0, none⟩)) {c : Chg} (hy : a.eval y = .agg (chgC c)) {old : Array Value} (hg : Blk w g 29 old) (hold : old.size = 3) (hwt : Region.wanted o (yielded ops a.tmps) = true)
    (h : ∀ w', Blk w' g 29 (chgC c) → w.grownBy w' (some g) → w'.heap.size = w.heap.size → wpList Try.prog ops Q rest (a.put o.dst undef) w') : wpList Try.prog ops Q (o :: rest) a w :=
  wpList_store_part hwt _ x y ho g 0 3 _ hx hy _ old _ hg rfl Try.sizeCmd (by omega) (by simp [chgC, Value.oneCell']) (by
    have h1 : (chgC c).toList.length = 3 := rfl
    rw [h1, List.drop_of_length_le (by simp; omega)]
    simp) h
end

section
variable {w w' : World} {b : Nat} {vw vd : Value} {ws ds : List Chg}
theorem next20_none (h : QS w b vw vd [] ds) : Calls Try.prog 10 #[.pointer (some ⟨b, 0, none⟩)] w fun e w' => e = .returned (.tuple #[chgV noChg, .bool false]) ∧ w.grownBy w' none := by
  have hs1 := h.ext (World.grownBy_alloc w (.cells #[.int .i64 0, .int .i64 0, .string ⟨#[]⟩] 29) none)
  have hb1 := Blk.new w 29 #[.int .i64 0, .int .i64 0, .string ⟨#[]⟩]
  have LEN := len20 hs1
  have hE := World.grownBy_alloc w (.cells #[.int .i64 0, .int .i64 0, .string ⟨#[]⟩] 29) none
  clear hs1
  obtain ⟨z0, hz0⟩ : ∃ z : Int, z = (([] : List Chg).length : Int) := ⟨_, rfl⟩
  rw [← hz0] at LEN
  have hz : (z0 == 0) = true := by rw [hz0]; rfl
  have HE := Lib.hid hE
  clear hz0 hE h
  go_enter Try.func10, Try.ntmps10
  go_wp2_with (first
    | (go_at_call 14; refine LEN.mono ?_; rintro e w2 ⟨rfl, rfl⟩)
    | (refine cmd_store (c := noChg) _ _ rfl rfl rfl hb1 rfl rfl ?_; intro w6 hb6 hg6 hs6))
  refine bodyPost_ret (v := .tuple #[.agg (chgC noChg), .bool false]) (results_ct20 (fn := Try.f10) rfl rfl rfl hb6 Try.underlying29 rfl Try.sizeCmd) rfl ?_
  exact ⟨rfl, grown_past13 HE.out hg6 (Nat.le_refl _)⟩

/-- The queue goes on, its commands' row turned. -/
def QwP (w : World) (b : Nat) (vw vd : Value) (ws ds : List Chg) (w' : World) : Prop :=
  ∃ vw', QS w' b vw' vd ws ds ∧ KpF (fpQ b vw vd) w w' ∧ ∀ k, vw'.ownBlock = some k → vw.ownBlock = some k ∨ w.heap.size ≤ k
/-- .. what was done turned. -/
def QdP (w : World) (b : Nat) (vw vd : Value) (ws ds : List Chg) (w' : World) : Prop :=
  ∃ vd', QS w' b vw vd' ws ds ∧ KpF (fpQ b vw vd) w w' ∧ ∀ k, vd'.ownBlock = some k → vd.ownBlock = some k ∨ w.heap.size ≤ k

set_option maxHeartbeats 800000 in
theorem next20_some (h : QS w b vw vd ws ds) {c : Chg} {r : List Chg} (hr : ws = c :: r) :
    Calls Try.prog 10 #[.pointer (some ⟨b, 0, none⟩)] w fun e w' => e = .returned (.tuple #[chgV c, .bool true]) ∧ QwP w b vw vd r ds w' := by
  have hE := World.grownBy_alloc w (.cells #[.int .i64 0, .int .i64 0, .string ⟨#[]⟩] 29) none
  have hs1 := h.ext hE
  have hb1 := Blk.new w 29 #[.int .i64 0, .int .i64 0, .string ⟨#[]⟩]
  have LEN := len20 hs1
  have CUT : ∀ wx, QS wx b vw vd ws ds → Calls Try.prog 15 #[.pointer (some ⟨b, 0, none⟩), .int .i64 1] wx (CutP wx b vw vd r ds) := fun wx hx => by
    have := cut20 hx 1 (by rw [hr]; simp)
    rw [hr] at this
    exact this
  have c0 := hs1.c0
  obtain ⟨n, hn⟩ : ∃ n, ws.length = n := ⟨_, rfl⟩
  have hn0 : 0 < n := by rw [← hn, hr]; simp
  obtain ⟨g, off, cap, hvw, hrg⟩ : ∃ g off cap, vw = .slice (some ⟨g, off, none⟩) n cap ∧ ∀ wx, QS wx b vw vd ws ds → wx.rangeAt g off (chgC c).toList := by
    rcases h.wa.shape with ⟨_, h0⟩ | ⟨g, off, cap, h1, _⟩
    · omega
    · rw [hn] at h1
      refine ⟨g, off, cap, h1, fun wx hx => ?_⟩
      have hT := hx.wa
      rw [h1] at hT
      obtain ⟨g', off', e1, e2⟩ := tri_row hT (j := 0) (cj := c) (by rw [hn]; exact hn0) (by rw [hr]; rfl)
      simp only [Option.some.injEq, Addr.mk.injEq, and_true] at e1
      obtain ⟨rfl, rfl⟩ := e1
      simpa using e2
  have hlt := h.lt
  rw [hn] at LEN
  obtain ⟨z0, hz0⟩ : ∃ z : Int, z = (n : Int) := ⟨_, rfl⟩
  rw [← hz0] at LEN
  have hz : (z0 == 0) = false := by rw [beq_eq_false_iff_ne]; omega
  have HH := Lib.hid (And.intro hE (And.intro hs1 hlt))
  have RNG := Lib.hid hrg
  rw [hvw] at c0
  obtain ⟨L, hL⟩ : ∃ z, w.heap.size = z := ⟨_, rfl⟩
  obtain ⟨w1, hw1⟩ : ∃ v, w.alloc (.cells #[.int .i64 0, .int .i64 0, .string ⟨#[]⟩] 29) = v := ⟨_, rfl⟩
  have hsz : w1.heap.size = L + 1 := by rw [← hw1, ← hL]; simp
  rw [hw1] at HH LEN hb1 c0
  rw [hL] at hb1
  have hrg1 := hrg w1 HH.out.2.1
  have hb2 := Blk.new w1 29 #[.int .i64 0, .int .i64 0, .string ⟨#[]⟩]
  have HSZ := Lib.hid (And.intro hsz hL)
  clear hz0 hE h hs1 hn hlt hrg hsz hvw
  go_enter Try.func10, Try.ntmps10
  go_upto_region 1 with fail
  clear hL hw1
  go_wp2_with (first
    | (go_at_call 14; refine LEN.mono ?_; rintro e w2 ⟨rfl, rfl⟩)
    | (go_at_call 15; refine (CUT _ hs3).mono ?_; rintro e w4 ⟨rfl, hC⟩; obtain ⟨vw', hq4, hk4, ho4⟩ := hC; have hb4 := (hk4.block _ hb3.lt (fun e => by have h1 := HH.out.2.2 _ e; have h2 := HSZ.out; omega)).trans hb3; have hb04 := (hk4.block _ hb03.lt (fun e => by have h1 := HH.out.2.2 _ e; have h2 := HSZ.out; omega)).trans hb03; have H4 := Lib.hid (And.intro hq4 (And.intro hk4 ho4)); clear hq4 hk4 ho4 hs3 hb3 hb03)
    | (refine cmd_loadC rfl _ rfl rfl (Blk.range hb4 0 3 rfl) ?_)
    | (refine cmd_store (c := c) _ _ rfl rfl rfl hb04 rfl rfl ?_; intro w6 hb6 hg6 hs6)
    | (refine cmd_loadC rfl _ rfl rfl hrg1 ?_)
    | (refine cmd_store (c := c) _ _ rfl rfl rfl hb2 rfl rfl ?_; intro w3 hb3 hg3 hs3z; have hE3 : w1.grownBy w3 none := grown_past13 (World.grownBy_alloc w1 _ none) hg3 (Nat.le_refl _); have hs3 := HH.out.2.1.ext hE3; have hb03 := hb1.ext hE3; have HE3 := Lib.hid hE3; clear hg3 hs3z hE3 hb2 hrg1 c0))
  refine bodyPost_ret (v := .tuple #[.agg (chgC c), .bool true]) (results_ct20 (fn := Try.f10) rfl rfl rfl hb6 Try.underlying29 rfl Try.sizeCmd) rfl ?_
  obtain ⟨q1, q2, q3⟩ := H4.out
  have hne : ¬ fpQ b vw' vd L := fun e => by
    have h2 := HSZ.out
    rcases e with e | e | e
    · have := (HH.out.2.2 L (.inl e)).2; omega
    · have := (HH.out.2.2 L (.inr (.inl (q3 L e)))).2; omega
    · have := (HH.out.2.2 L (.inr (.inr e))).2; omega
  have hF : ∀ k, fpQ b vw' vd k → (k = L → False) := fun k hk e => hne (e ▸ hk)
  refine ⟨rfl, vw', q1.kept (F := fun k => k = L) (KpF.of_grown hg6 (fun k hk => by injection hk with hk; exact hk.symm)) (hF b (.inl rfl)) (fun k hk => hF k (.inr (.inl hk))) (fun k hk => hF k (.inr (.inr hk))), ?_, fun k hk => .inl (q3 k hk)⟩
  have hk := ((KpF.of_grown (ext_trans HH.out.1 HE3.out) (by simp)).trans q2)
  exact ⟨hg6.os.trans hk.os, hg6.tape.trans hk.tape, hg6.output.trans hk.output, Nat.le_trans hk.size hg6.size, fun k h1 h2 => (hg6.block k (Nat.lt_of_lt_of_le h1 hk.size) (fun e => by injection e with e; have := HSZ.out.2; omega)).trans (hk.block k h1 h2)⟩
end

end Go.Proofs.Ytlljkcpopfencaa
