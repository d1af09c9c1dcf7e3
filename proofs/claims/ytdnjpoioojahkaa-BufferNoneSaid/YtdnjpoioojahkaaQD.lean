/-
  Layer 13: BufferPlays over what a buffer answers.
-/
import Derived.Test.YtdnjpoioojahkaaQC
import Derived.Test.YtdnjpoioojahkaaDA
import Derived.Test.YtdnjpoioojahkaaRY
namespace Go.Proofs.Ytdnjpoioojahkaa
set_option linter.unusedVariables false
set_option linter.unusedSimpArgs false
set_option maxRecDepth 100000
open Go.RowKit

def actC (k8 : Int) (c : Chg) : Array Value := #[.int .u8 k8, .int .i64 c.pl, .int .i64 c.kd, .string c.dt]
/-- The acts that came in. -/
def Acts13 (w : World) (a : Option Addr) (len : Nat) (K : Nat → Int) (C : Nat → Chg) : Prop :=
  len ≤ 9223372036854775807 ∧ ∀ i, i < len → (∃ b off, a = some ⟨b, off, none⟩ ∧ w.rangeAt b (off + i * 4) (actC (K i) (C i)).toList ∧ b < w.heap.size) ∧ (0 ≤ K i ∧ K i ≤ 255) ∧ (C i).dt.size ≤ 9223372036854775807

theorem Try.sizeAct13 : (Try.prog.info? 30).map (·.size) = some 4 := by kernel_rfl
section
variable {ops : Array Oper} {rest : List Oper} {o : Oper} {a : Act} {w : World} {Q : Exit → Act → World → Prop}
theorem act_load (hgd : o.guard = none) (x : Operand) (ho : o.op = .load 30 x) {b off : Nat} (hx : a.eval x = .pointer (some ⟨b, off, none⟩)) {k8 : Int} {c : Chg} (hr : w.rangeAt b off (actC k8 c).toList)
    (h : wpList Try.prog ops Q rest (a.put o.dst (.agg (actC k8 c))) w) : wpList Try.prog ops Q (o :: rest) a w :=
  wpList_load_mid hgd _ x ho b off hx _ _ hr Try.underlying30 rfl (by rw [Try.sizeAct13]; rfl) (by simpa using h)
theorem act_store (x y : Operand) (ho : o.op = .store 30 x y) {g : Nat} (hx : a.eval x = .pointer (some ⟨g, 0, none⟩)) {k8 : Int} {c : Chg} (hy : a.eval y = .agg (actC k8 c)) {old : Array Value} (hg : Blk w g 30 old) (hold : old.size = 4) (hwt : Region.wanted o (yielded ops a.tmps) = true)
    (h : ∀ w', Blk w' g 30 (actC k8 c) → w.grownBy w' (some g) → w'.heap.size = w.heap.size → wpList Try.prog ops Q rest (a.put o.dst undef) w') : wpList Try.prog ops Q (o :: rest) a w :=
  wpList_store_part hwt _ x y ho g 0 4 _ hx hy _ old _ hg rfl Try.sizeAct13 (by omega) (by simp [actC, Value.oneCell']) (by
    have h1 : (actC k8 c).toList.length = 4 := rfl
    rw [h1, List.drop_of_length_le (by simp; omega)]
    simp) h
end

/-- What stands between the acts. -/
structure Buf13 (BA : World → Nat → List Chg → Prop) (w0 w : World) (b : Nat) (row : List Chg) (v : Value) : Prop where
  ba : BA w b row
  rw_ : TailRow w (b + 1) 28 3 v row.length (chgsL row)
  len : row.length ≤ 4
  b0 : w0.heap.size ≤ b
  ext : w0.grownBy w none
section
variable {BA : World → Nat → List Chg → Prop} (BC : BufC BA) {w0 w w' : World} {b : Nat} {row row' : List Chg} {v v' : Value}
include BC
theorem Buf13.next (h : Buf13 BA w0 w b row v) (hE : w.grownBy w' none) : Buf13 BA w0 w' b row v :=
  ⟨BC.stays _ _ _ _ h.ba (hE.block _ (BC.lt _ _ _ h.ba) (by simp)), h.rw_.kept hE (by simp), h.len, h.b0, ext13_trans h.ext hE⟩
/-- The buffer is another one; the row is not yet. -/
structure Buf13b (BA : World → Nat → List Chg → Prop) (w0 w : World) (b : Nat) (row : List Chg) (old : List Chg) (v : Value) : Prop where
  ba : BA w b row
  rw_ : TailRow w (b + 1) 28 3 v old.length (chgsL old)
  len : row.length ≤ 4
  b0 : w0.heap.size ≤ b
  ext : w0.grownBy w none
theorem Buf13b.next13 {old : List Chg} (h : Buf13b BA w0 w b row old v) (hE : w.grownBy w' none) : Buf13b BA w0 w' b row old v :=
  ⟨BC.stays _ _ _ _ h.ba (hE.block _ (BC.lt _ _ _ h.ba) (by simp)), h.rw_.kept hE (by simp), h.len, h.b0, ext13_trans h.ext hE⟩
/-- Another block of the law's own is turned. -/
theorem Buf13.past {g : Nat} (h : Buf13 BA w0 w b row v) (hg : w.grownBy w' (some g)) (hn : g ≠ b ∧ w0.heap.size ≤ g ∧ ∀ k, v.ownBlock = some k → k ≠ g) : Buf13 BA w0 w' b row v :=
  ⟨BC.stays _ _ _ _ h.ba (hg.block _ (BC.lt _ _ _ h.ba) (fun e => hn.1 (by injection e with e; exact e.symm))), h.rw_.kept hg (fun k hk e => by injection e with e; exact hn.2.2 k hk e), h.len, h.b0, grown_past13 h.ext hg hn.2.1⟩
omit BC in
theorem Buf13.turn (h : Buf13 BA w0 w b row v) (hb : BA w' b row') (hg : w.grownBy w' (some b)) (hl : row'.length ≤ 4) : Buf13b BA w0 w' b row' row v :=
  ⟨hb, h.rw_.kept hg (fun k hk e => by injection e with e; have := h.rw_.lt k hk; omega), hl, h.b0, grown_past13 h.ext hg h.b0⟩
/-- The row follows. -/
theorem Buf13b.done {old : List Chg} (h : Buf13b BA w0 w b row' old v) (hg : w.grownBy w' v.ownBlock) (hr : TailRow w' (b + 1) 28 3 v' row'.length (chgsL row')) : Buf13 BA w0 w' b row' v' := by
  have hlt := h.rw_.lt
  have hne : ∀ k, v.ownBlock = some k → b < k := fun k hk => (hlt k hk).1
  refine ⟨BC.stays _ _ _ _ h.ba (hg.block _ (BC.lt _ _ _ h.ba) (fun e => by have := hne b e.symm; omega)), hr, h.len, h.b0, ?_⟩
  exact ⟨hg.os.trans h.ext.os, hg.tape.trans h.ext.tape, hg.output.trans h.ext.output, Nat.le_trans h.ext.size hg.size, fun k hk hn => (hg.block k (Nat.lt_of_lt_of_le hk h.ext.size) (fun e => by have := hne k e.symm; have := h.b0; omega)).trans (h.ext.block k hk hn)⟩
end

theorem chg_new (w : World) (c : Chg) : ∀ j u, (chgC c).toList[j]? = some u → (w.alloc (.cells #[.int .i64 c.pl, .int .i64 c.kd, .string c.dt] 28)).cell? ((⟨w.heap.size, 0, none⟩ : Addr).add j) = some u := by
  intro j u hj
  match j, hj with
  | 0, hj => simp [chgC] at hj; subst hj; simp [Addr.add]
  | 1, hj => simp [chgC] at hj; subst hj; simp [Addr.add]
  | 2, hj => simp [chgC] at hj; subst hj; simp [Addr.add]
  | j + 3, hj => simp [chgC] at hj
theorem chgsL_snoc (row : List Chg) (c : Chg) : chgsL (row ++ [c]) = chgsL row ++ (chgC c).toList := by simp [chgsL]
theorem chgsL_drop (row : List Chg) : chgsL (row.drop 1) = (chgsL row).drop 3 := by cases row <;> simp [chgsL, chgC]
theorem row_first13 {w : World} {B g off n cap : Nat} {c1 : Chg} {row r1 : List Chg} (h : TailRow w B 28 3 (.slice (some ⟨g, off, none⟩) n cap) row.length (chgsL row)) (hr : row = c1 :: r1) : w.rangeAt g off (chgC c1).toList := by
  intro j u hj
  rcases h.shape with ⟨h1, _⟩ | ⟨g', off', cap', h1, _, _, _, _, h2⟩
  · cases h1
  · simp only [Value.slice.injEq, Option.some.injEq, Addr.mk.injEq, and_true] at h1
    obtain ⟨⟨rfl, rfl⟩, h3, rfl⟩ := h1
    have hl : (chgC c1).toList.length = 3 := rfl
    have hj3 : j < 3 := by rw [← hl]; exact (List.getElem?_eq_some_iff.1 hj).1
    have hrl : 0 < row.length := by rw [hr]; simp
    rw [h2 j (by omega), hr]
    show (((chgC c1).toList ++ chgsL r1))[j]? = some u
    rw [List.getElem?_append_left (by rw [hl]; exact hj3)]
    exact hj
theorem chg_build0V (w : World) : (Instr.build 28 #[]).run Try.prog w = .ok (.agg (chgC noChg)) w := by kernel_rfl
theorem chg_build0 {ops : Array Oper} {rest : List Oper} {o : Oper} {a : Act} {w : World} {Q : Exit → Act → World → Prop} (hgd : o.guard = none) (ho : o.op = .build 28 #[])
    (h : wpList Try.prog ops Q rest (a.put o.dst (.agg (chgC noChg))) w) : wpList Try.prog ops Q (o :: rest) a w := by
  refine wpList_plain hgd fun K hK => ?_
  have hm : ((#[] : Array (Nat × Operand)).map fun (q : Nat × Operand) => (q.1, a.eval q.2)) = #[] := by simp
  unfold Oper.wp execOp
  simp only [ho, hm, Sem.run_bind, chg_build0V, Result.andThen_ok, Sem.run_pure]
  exact hK _ _ h
theorem lastN_snoc (row : List Chg) (c : Chg) (p : Int) : lastN (row ++ [c]) p = if c.pl = p then (c, true) else lastN row p := by simp [lastN]
theorem chgsL_at : ∀ (row : List Chg) (j i : Nat), i < 3 → j < row.length → (chgsL row)[j * 3 + i]? = (chgC (row.getD j noChg)).toList[i]?
  | [], j, i, _, h => by simp at h
  | c :: r, 0, i, hi, _ => by
    show ((chgC c).toList ++ chgsL r)[0 * 3 + i]? = _
    rw [Nat.zero_mul, Nat.zero_add, List.getElem?_append_left (by show i < 3; exact hi)]
    rfl
  | c :: r, j + 1, i, hi, h => by
    show ((chgC c).toList ++ chgsL r)[(j + 1) * 3 + i]? = _
    have hl : (chgC c).toList.length = 3 := rfl
    rw [List.getElem?_append_right (by omega), hl, show (j + 1) * 3 + i - 3 = j * 3 + i by omega, chgsL_at r j i hi (by simpa using h)]
    simp
theorem row_at13 {w : World} {B n cap j : Nat} {so : Option Addr} {cj : Chg} {row : List Chg} (h : TailRow w B 28 3 (.slice so n cap) row.length (chgsL row)) (hj : j < row.length) (hc : row.getD j noChg = cj) :
    ∃ g off, so = some ⟨g, off, none⟩ ∧ w.rangeAt g (off + j * 3) (chgC cj).toList := by
  rcases h.shape with ⟨_, h1⟩ | ⟨g, off, cap', h1, _, _, _, _, h2⟩
  · omega
  · simp only [Value.slice.injEq] at h1
    refine ⟨g, off, h1.1, fun i u hi => ?_⟩
    have hl : (chgC cj).toList.length = 3 := rfl
    have hi3 : i < 3 := by rw [← hl]; exact (List.getElem?_eq_some_iff.1 hi).1
    rw [Nat.add_assoc, h2 _ (by omega), chgsL_at row j i hi3 hj, hc]
    exact hi
theorem take_snoc13 {row : List Chg} {j : Nat} {c : Chg} (hj : j < row.length) (hc : row.getD j noChg = c) : row.take (j + 1) = row.take j ++ [c] := by
  rw [List.take_add_one, List.getElem?_eq_getElem hj]
  rw [List.getD_eq_getElem?_getD, List.getElem?_eq_getElem hj] at hc
  have hc2 : row[j] = c := hc
  rw [hc2]
  rfl
theorem nat_pos13 (n : Nat) : decide (0 < n) = decide ((0 : Int) < (n : Int)) := by by_cases h : 0 < n <;> simp [h] <;> omega
theorem nat_four13 (n : Nat) : decide (n = 4) = ((n : Int) == 4) := by
  by_cases h : n = 4
  · subst h; rfl
  · rw [decide_eq_false h]; symm; simpa using (by omega : ¬ (n : Int) = 4)
/-- What is read while the row is held against the buffer. -/
def PlyS (L g off : Nat) (c : Chg) (x : World) : Prop := Blk x L 28 (chgC c) ∧ x.rangeAt g off (chgC c).toList
theorem Try.infoChg : (Try.prog.info? 28).map (fun i => (i.zero, i.size, i.bytes)) = some (some (.agg #[.int .i64 0, .int .i64 0, .string ⟨#[]⟩]), 3, 32) := by kernel_rfl
theorem TailRow.form {w : World} {base : Nat} {e : TypeId} {size : Nat} {v : Value} {n : Nat} {xs : List Value} (h : TailRow w base e size v n xs) : ∃ ao cap, v = .slice ao n cap := by
  rcases h.2 with ⟨rfl, rfl⟩ | ⟨g, off, cap, cur, rfl, _⟩
  · exact ⟨none, 0, rfl⟩
  · exact ⟨_, cap, rfl⟩

set_option maxHeartbeats 3200000 in
theorem bufferPlays_any {BA : World → Nat → List Chg → Prop} (BC : BufC BA) (FX : Fix13) (a : Option Addr) (len cap : Nat) (p : Int) (K : Nat → Int) (C : Nat → Chg) (w : World) (h : Acts13 w a len K C) :
    Calls Try.prog 3 #[.slice a len cap, .int .i64 p] w fun e w' => e = .returned (.bool true) ∧ w.grownBy w' none := by
  have HH := Lib.hid h
  have hmax := h.1
  clear h
  have NEW := BC.new
  have HBC := Lib.hid BC
  by_cases hbig : (200 : Int) < len
  · go_enter Try.func3, Try.ntmps3
    go_wp2_with (go_at_call 7; refine (FX _).mono ?_; rintro e w2 ⟨rfl, hE2⟩)
    go_ret
    exact ⟨rfl, hE2⟩
  · go_enter Try.func3, Try.ntmps3
    go_wp2_with (first
      | (go_at_call 7; refine (FX _).mono ?_; rintro e w2 ⟨rfl, hE2⟩; have HE2 := Lib.hid hE2; clear hE2)
      | (go_at_call 8; refine (NEW _).mono ?_; rintro e w3 ⟨b, rfl, hA3, hb0, hE3⟩; have S3 := Lib.hid (show Buf13 BA w2 w3 b [] (.slice none 0 0) from ⟨hA3, TailRow.nil _ _ _ _, by decide, hb0, hE3⟩); clear hA3 hb0 hE3))
    clear NEW FX
    go_loopw [6, 27] (fun r i wr => ∃ (k : Nat) (row : List Chg) (v : Value), k ≤ len ∧ r = v ∧ i = .int .i64 k ∧ Buf13 BA w2 wr b row v) (fun _ i _ => len - (intOf i).toNat)
    case atStart => exact ⟨0, [], _, by omega, rfl, rfl, S3.out⟩
    case round =>
      obtain ⟨k, row, v, hk, rfl, rfl, hS⟩ := hrel
      obtain ⟨wo, rfl⟩ : ∃ wo : World, wo = wr := ⟨_, rfl⟩
      by_cases hlt : k < len
      · obtain ⟨⟨ab, ao, rfl, hr, _⟩, hk8, hdt⟩ := HH.out.2 k hlt
        obtain ⟨c, hc⟩ : ∃ c, C k = c := ⟨_, rfl⟩
        obtain ⟨k8, hk8e⟩ : ∃ x, K k = x := ⟨_, rfl⟩
        rw [hc, hk8e] at hr
        rw [hc] at hdt
        rw [hk8e] at hk8
        have hr1 : wo.rangeAt ab (ao + k * 4) (actC k8 c).toList := fun j u hj => (ext13_trans HE2.out hS.ext).cell (hr j u hj) (by simp)
        have hBa := Blk.new wo 30 #[.int .u8 0, .int .i64 0, .int .i64 0, .string ⟨#[]⟩]
        have HS := Lib.hid hS
        have HD := Lib.hid hdt
        obtain ⟨h0, h255⟩ := hk8
        have HAB := Lib.hid (BC.lt _ _ _ HS.out.ba)
        clear hr hc hk8e hS hdt
        go_upto_if 34 with (first
          | (refine act_load rfl _ rfl rfl hr1 ?_)
          | (refine act_store _ _ rfl rfl rfl hBa rfl rfl ?_; intro w4 hb4 hg4 hs4; have HS4 := Lib.hid (Buf13.next HBC.out HS.out (grown_trans13 (World.grownBy_alloc wo _ none) hg4)); have c0 := (hb4.cell 0).trans (show (actC k8 c)[0]? = some (.int .u8 k8) from rfl); clear hBa hg4 hs4))
        have CE := check13_any c.pl c.kd c.dt
        obtain ⟨n, hn⟩ : ∃ n, row.length = n := ⟨_, rfl⟩
        go_cut [6] (fun r wx => ∃ row2 v2, r = v2 ∧ Buf13 BA w2 wx b row2 v2)
        case first =>
          have hsh := HS4.out.rw_.shape
          rw [hn] at hsh
          by_cases hpar : k8 % 2 = 0
          · have hpb : (k8 % 2 == 0) = true := by simpa using hpar
            have c1 := (hb4.cell 1).trans (show (actC k8 c)[1]? = some (.int .i64 c.pl) from rfl)
            have c2 := (hb4.cell 2).trans (show (actC k8 c)[2]? = some (.int .i64 c.kd) from rfl)
            have c3 := (hb4.cell 3).trans (show (actC k8 c)[3]? = some (.string c.dt) from rfl)
            clear hpar
            obtain ⟨ce, hce⟩ : ∃ z, chkE c.pl c.kd c.dt = z := ⟨_, rfl⟩
            rw [hce] at CE
            have PUT := fun wx hA => HBC.out.put wx b row c hA HS4.out.len HD.out
            rw [chgV_is] at PUT
            have HCE := Lib.hid hce
            have HN := Lib.hid hn
            by_cases hz : ce = 0
            · have hzb : (ce == 0) = true := by simp [hz]
              obtain ⟨so, sc, hv⟩ := HS4.out.rw_.form
              rw [hn] at hv
              subst hv
              by_cases hfull : n = 4
              · have hpe : putE row c = 8 := by unfold putE; rw [hce, if_pos hz, hn, if_pos hfull]
                have hpr : putR row c = row := by unfold putR; rw [hpe, if_neg (by decide)]
                have hnb : ((n : Int) == 4) = true := by simp [hfull]
                rw [hpe, hpr] at PUT
                clear hz hpe hpr hce hn hfull hsh
                go_wp2_with (first
                  | (go_at_call 9; refine (CE _ HD.out).mono ?_; rintro e w' ⟨rfl, rfl⟩)
                  | (refine chg_load_want rfl _ rfl rfl (hb4.range 1 3 rfl) ?_)
                  | (go_at_call 10; refine (PUT _ HS4.out.ba).mono ?_; rintro e w5 ⟨rfl, hA5, hg5⟩; have HS5 := Lib.hid (HS4.out.turn hA5 hg5 HS4.out.len); clear hA5 hg5))
                go_meet
                exact ⟨row, _, rfl, HS5.out.ba, HS5.out.rw_, HS5.out.len, HS5.out.b0, HS5.out.ext⟩
              · have hl4 := HS4.out.len
                have hpe : putE row c = ce := by unfold putE; rw [hce, if_pos hz, hn, if_neg hfull, hz]
                have hpr : putR row c = row ++ [c] := by unfold putR; rw [hpe, if_pos hz]
                have hnb : ((n : Int) == 4) = false := by simpa using (by omega : ¬ (n : Int) = 4)
                have hl5 : (row ++ [c]).length ≤ 4 := by rw [List.length_append, hn]; simp; omega
                have hn3 : n ≤ 3 := by omega
                rw [hpe, hpr] at PUT
                obtain ⟨i0, hi, hz0, hz1, hz2⟩ := info_parts Try.infoChg
                clear hz hpe hpr hce hn hfull hsh hl4
                go_wp2_with (first
                  | (go_at_call 9; refine (CE _ HD.out).mono ?_; rintro e w' ⟨rfl, rfl⟩)
                  | (refine chg_load_lit rfl _ rfl rfl (hb5.range 1 3 rfl) ?_; have HTR := (HS5.out.rw_.kept (World.grownBy_alloc w5 (.cells #[.int .i64 c.pl, .int .i64 c.kd, .string c.dt] 28) none) (by simp)); rw [HN.out] at HTR; clear hb5)
                  | (at_builtin; refine append_tail rfl _ _ 26 rfl (b + 1) 28 i0 _ 3 32 Try.underlying26 hi hz0 hz1 hz2 rfl (by decide) rfl HTR ⟨w5.heap.size, 0, none⟩ 1 (chgC c).toList rfl rfl (chg_new w5 c) (by simp [chgC, Value.oneCell']) (by unfold maxLen; omega) (by omega) (by have := HBC.out.lt _ _ _ HS5.out.ba; simp; omega) ?_; intro v7 w7 hr7 hg7 _; have HS7 := Lib.hid (show Buf13 BA w2 w7 b (row ++ [c]) v7 from Buf13b.done HBC.out (Buf13b.next13 HBC.out HS5.out (World.grownBy_alloc w5 _ none)) hg7 (by rw [chgsL_snoc, List.length_append, HN.out]; exact hr7)); clear hr7 hg7 HTR)
                  | (refine chg_load_want rfl _ rfl rfl (hb4.range 1 3 rfl) ?_)
                  | (go_at_call 10; refine (PUT _ HS4.out.ba).mono ?_; rintro e w5 ⟨rfl, hA5, hg5⟩; have HS5 := Lib.hid (HS4.out.turn hA5 hg5 hl5); have hb5 := hb4.kept hg5 (by have := HAB.out; simp; omega); clear hA5 hg5))
                go_meet
                exact ⟨_, _, rfl, HS7.out⟩
            · have hzb : (ce == 0) = false := by simpa using hz
              have hpe : putE row c = ce := by unfold putE; rw [hce, if_neg hz]
              have hpr : putR row c = row := by unfold putR; rw [hpe, if_neg hz]
              rw [hpe, hpr] at PUT
              clear hz hpe hpr hce hn
              go_wp2_with (first
                | (go_at_call 9; refine (CE _ HD.out).mono ?_; rintro e w' ⟨rfl, rfl⟩)
                | (refine chg_load_want rfl _ rfl rfl (hb4.range 1 3 rfl) ?_)
                | (go_at_call 10; refine (PUT _ HS4.out.ba).mono ?_; rintro e w5 ⟨rfl, hA5, hg5⟩; have HS5 := Lib.hid (HS4.out.turn hA5 hg5 HS4.out.len); clear hA5 hg5))
              go_meet
              exact ⟨row, _, rfl, HS5.out.ba, HS5.out.rw_, HS5.out.len, HS5.out.b0, HS5.out.ext⟩
          · have hpb : (k8 % 2 == 0) = false := by simpa using hpar
            have HN := Lib.hid hn
            have DROP := HBC.out.drop w4 b row HS4.out.ba HS4.out.len
            rw [hn] at DROP
            clear CE c0
            have c0 := (hb4.cell 0).trans (show (actC k8 c)[0]? = some (.int .u8 k8) from rfl)
            rcases hsh with ⟨rfl, h00⟩ | ⟨g, off, sc, rfl, hle, hmx, _, _, _⟩
            · rw [h00, decide_eq_false (Nat.lt_irrefl 0)] at DROP
              have hrow : row = [] := List.eq_nil_of_length_eq_zero (by rw [hn, h00])
              clear hpar hn
              go_wp2_with (go_at_call 11; refine DROP.mono ?_; rintro e w5 ⟨rfl, hA5, hg5⟩; have HS5 := Lib.hid (HS4.out.turn hA5 hg5 (by rw [hrow]; decide)); clear hA5 hg5)
              go_meet
              exact ⟨[], _, rfl, by have h := HS5.out.ba; rw [hrow] at h; exact h, by have h := HS5.out.rw_; rw [hrow] at h; exact h, by decide, HS5.out.b0, HS5.out.ext⟩
            · by_cases h00 : n = 0
              · rw [h00, decide_eq_false (Nat.lt_irrefl 0)] at DROP
                subst h00
                have hrow : row = [] := List.eq_nil_of_length_eq_zero hn
                clear hpar hn
                go_wp2_with (go_at_call 11; refine DROP.mono ?_; rintro e w5 ⟨rfl, hA5, hg5⟩; have HS5 := Lib.hid (HS4.out.turn hA5 hg5 (by rw [hrow]; decide)); clear hA5 hg5)
                go_meet
                exact ⟨[], _, rfl, by have h := HS5.out.ba; rw [hrow] at h; exact h, by have h := HS5.out.rw_; rw [hrow] at h; exact h, by decide, HS5.out.b0, HS5.out.ext⟩
              · obtain ⟨m, rfl⟩ : ∃ m, n = m + 1 := ⟨n - 1, by omega⟩
                rw [decide_eq_true (Nat.succ_pos m)] at DROP
                have hdl : (row.drop 1).length = m := by rw [List.length_drop, hn]; rfl
                have HDL := Lib.hid (And.intro hdl (show chgsL (row.drop 1) = (chgsL row).drop 3 from chgsL_drop row))
                clear hpar hn h00 hdl
                by_cases hsc : sc = 1
                · obtain rfl : m = 0 := by omega
                  subst hsc
                  go_wp2_with (go_at_call 11; refine DROP.mono ?_; rintro e w5 ⟨rfl, hA5, hg5⟩; have HS5 := Lib.hid (HS4.out.turn hA5 hg5 (by have := HS4.out.len; rw [List.length_drop]; omega)); clear hA5 hg5)
                  go_meet
                  have h5 := HS5.out.rw_
                  rw [HN.out] at h5
                  have h6 := h5.cut
                  rw [if_pos rfl] at h6
                  exact ⟨row.drop 1, _, rfl, Buf13b.done HBC.out HS5.out ⟨rfl, rfl, rfl, Nat.le_refl _, fun _ _ _ => rfl⟩ (by rw [HDL.out.1, HDL.out.2]; exact h6)⟩
                · by_cases hm : m = 0
                  · subst hm
                    go_wp2_with (go_at_call 11; refine DROP.mono ?_; rintro e w5 ⟨rfl, hA5, hg5⟩; have HS5 := Lib.hid (HS4.out.turn hA5 hg5 (by have := HS4.out.len; rw [List.length_drop]; omega)); clear hA5 hg5)
                    go_meet
                    have h5 := HS5.out.rw_
                    rw [HN.out] at h5
                    have h6 := h5.cut
                    rw [if_neg hsc] at h6
                    exact ⟨row.drop 1, _, rfl, Buf13b.done HBC.out HS5.out ⟨rfl, rfl, rfl, Nat.le_refl _, fun _ _ _ => rfl⟩ (by rw [HDL.out.1, HDL.out.2]; exact h6)⟩
                  · have hm1 : ¬ ((m + 1 : Nat) : Int) ≤ 1 := by omega
                    go_wp2_with (go_at_call 11; refine DROP.mono ?_; rintro e w5 ⟨rfl, hA5, hg5⟩; have HS5 := Lib.hid (HS4.out.turn hA5 hg5 (by have := HS4.out.len; rw [List.length_drop]; omega)); clear hA5 hg5)
                    go_meet
                    have h5 := HS5.out.rw_
                    rw [HN.out] at h5
                    have h6 := h5.cut
                    rw [if_neg hsc] at h6
                    exact ⟨row.drop 1, _, rfl, Buf13b.done HBC.out HS5.out ⟨rfl, rfl, rfl, Nat.le_refl _, fun _ _ _ => rfl⟩ (by rw [HDL.out.1, HDL.out.2]; exact h6)⟩
        case rest =>
          obtain ⟨row2, v2, rfl, hS2⟩ := hcut
          clear CE hr1 c0 hn hb4
          obtain ⟨n2, hn2⟩ : ∃ n, row2.length = n := ⟨_, rfl⟩
          have FST := fun wx hA => HBC.out.first wx b row2 hA hS2.len
          have ALL := fun wx hA => HBC.out.all wx b row2 hA hS2.len
          have LEN := fun wx hA => HBC.out.len wx b row2 hA hS2.len
          have FUL := fun wx hA => HBC.out.full wx b row2 hA hS2.len
          have LST := fun wx hA => HBC.out.last wx b row2 p hA hS2.len
          rw [chgV_is, hn2] at FST
          rw [chgV_is] at LST
          rw [hn2] at ALL LEN FUL
          rw [nat_four13] at FUL
          obtain ⟨so, sc, hv⟩ := hS2.rw_.form
          rw [hn2] at hv
          subst hv
          have HS2 := Lib.hid hS2
          have HN2 := Lib.hid hn2
          have hl4 : n2 ≤ 4 := by rw [← hn2]; exact hS2.len
          clear hS2 hn2
          go_upto_region 23 with (first
            | (go_at_call 12; refine (FST _ HS2.out.ba).mono ?_; rintro e w5 ⟨rfl, hE5⟩; have HS5 := Lib.hid (HS2.out.next HBC.out hE5); have hB5 := Blk.new w5 28 #[.int .i64 0, .int .i64 0, .string ⟨#[]⟩]; clear hE5)
            | (refine chg_store (c := firstC row2) _ _ rfl rfl rfl hB5 rfl rfl ?_; intro w6 hb6 hg6 hs6; have HS6 := Lib.hid (HS5.out.next HBC.out (grown_trans13 (World.grownBy_alloc w5 _ none) hg6)); clear hB5 hg6 hs6)
            | (go_at_call 13; refine (ALL _ HS6.out.ba).mono ?_; rintro e w7 ⟨v7, rfl, hown7, hE7⟩; obtain ⟨lo, lc, rfl⟩ := owns_shape13 hown7; have HS7 := Lib.hid (HS6.out.next HBC.out hE7); have hb7 := hb6.ext hE7; have HO7 := Lib.hid hown7; clear hE7 hb6 hown7))
          go_cut [11, 119] (fun _ s wx => s = .bool false ∧ Buf13 BA w2 wx b row2 (.slice so n2 sc) ∧ w7.grownBy wx none)
          case first =>
            by_cases hpos : n2 = 0
            · have hpb : decide (0 < n2) = false := by simp [hpos]
              have HP := Lib.hid hpos
              clear hpos
              have HSd := Lib.hid (HS7.out.next HBC.out (w' := w7.drew) ⟨rfl, rfl, rfl, Nat.le_refl _, fun _ _ _ => rfl⟩)
              have LENd := LEN _ HSd.out.ba
              refine region_line [(0, true), (2, true), (3, true), (1, false), (4, true), (5, true), (6, true), (8, true), (9, true), (10, true), (7, false), (11, true), (12, true), (13, true), (14, true), (15, true), (16, true), (17, true), (18, true), (19, true), (20, true), (21, true), (22, true), (23, true), (24, true), (25, true), (26, true), (27, true), (28, true), (29, true), (30, true), (31, true), (32, true), (33, true), (34, true), (35, true), (36, true)] (fun _ => True) (by kernel_rfl) (by kernel_rfl) (fun _ _ _ d _ h => by cases d <;> exact h) trivial ?_
              iterate 3 (refine line_read (a' := ?_) rfl (by kernel_rfl) (by kernel_rfl) trivial (fun y hy Kx hKx => ?_) ?_; rotate_left; · clear hy; go_wp2; exact hKx)
              refine line_act (by rfl) (fun Kx hKx => ?_)
              go_wp2_with (go_at_call 14; refine LENd.mono ?_; rintro e w8 ⟨rfl, hE8⟩)
              refine hKx _ _ (fun _ => True) trivial (fun y hy => hy) ?_
              clear hKx Kx
              have HS8 := Lib.hid (HSd.out.next HBC.out hE8)
              have HO8 := Lib.hid (ext13_trans (⟨rfl, rfl, rfl, Nat.le_refl _, fun _ _ _ => rfl⟩ : w7.grownBy w7.drew none) hE8)
              have FUL8 := FUL _ HS8.out.ba
              clear hE8 LENd
              iterate 6 (refine line_read (a' := ?_) rfl (by kernel_rfl) (by kernel_rfl) trivial (fun y hy Kx hKx => ?_) ?_; rotate_left; · clear hy; go_wp2; exact hKx)
              refine line_act (by rfl) (fun Kx hKx => ?_)
              go_wp2_with (go_at_call 15; refine FUL8.mono ?_; rintro e w9 ⟨rfl, hE9⟩)
              refine hKx _ _ (fun _ => True) trivial (fun y hy => hy) ?_
              clear hKx Kx
              have HS9 := Lib.hid (HS8.out.next HBC.out hE9)
              have HO9 := Lib.hid (ext13_trans HO8.out hE9)
              clear hE9 FUL8
              iterate 12 (refine line_read (a' := ?_) rfl (by kernel_rfl) (by kernel_rfl) trivial (fun y hy Kx hKx => ?_) ?_; rotate_left; · clear hy; go_wp2; exact hKx)
              iterate 5 (refine line_read (a' := ?_) rfl (by kernel_rfl) (by kernel_rfl) trivial (fun y hy Kx hKx => ?_) ?_; rotate_left; · clear hy; refine wpList_pass (a' := ?_) (by kernel_rfl) ?_ ?_; rotate_left; (simp only [Act.put, List.getElem_toArray, List.getElem_cons_succ, List.getElem_cons_zero, List.setIfInBounds_toArray, List.set_cons_succ, List.set_cons_zero]; rfl); exact hKx)
              iterate 9 (refine line_read (a' := ?_) rfl (by kernel_rfl) (by kernel_rfl) trivial (fun y hy Kx hKx => ?_) ?_; rotate_left; · clear hy; go_wp2; exact hKx)
              refine line_end ?_
              go_wp2
              go_meet
              exact ⟨rfl, HS9.out, HO9.out⟩
            · have hpb : decide (0 < n2) = true := by simpa using (by omega : 0 < n2)
              obtain ⟨c1, r1, hrow⟩ : ∃ c1 r1, row2 = c1 :: r1 := by
                have hn := HN2.out
                cases hq : row2 with
                | nil => rw [hq] at hn; exact absurd hn.symm hpos
                | cons c1 r1 => exact ⟨c1, r1, rfl⟩
              obtain ⟨g, off, hso⟩ : ∃ g off, so = some ⟨g, off, none⟩ := by
                have hsh := HS2.out.rw_.shape
                rw [HN2.out] at hsh
                rcases hsh with ⟨_, h0⟩ | ⟨g, off, sc', h1, _⟩
                · exact absurd h0 hpos
                · simp only [Value.slice.injEq] at h1; exact ⟨g, off, h1.1⟩
              subst hso
              have hfc : firstC row2 = c1 := by rw [hrow]; rfl
              rw [hfc] at hb7
              have RNG := fun wx (hB : Buf13 BA w2 wx b row2 (.slice (some ⟨g, off, none⟩) n2 sc)) => (show wx.rangeAt g off (chgC c1).toList from row_first13 hB.rw_ hrow)
              have HP := Lib.hid hpos
              have hp1 : 0 < n2 := by omega
              clear hpos hfc
              have HSd := Lib.hid (HS7.out.next HBC.out (w' := w7.drew) ⟨rfl, rfl, rfl, Nat.le_refl _, fun _ _ _ => rfl⟩)
              have LENd := LEN _ HSd.out.ba
              have hP0 : PlyS w5.heap.size g off c1 w7.drew := ⟨hb7, RNG _ HSd.out⟩
              refine region_line [(0, true), (2, true), (3, true), (1, false), (4, true), (5, true), (6, true), (8, true), (9, true), (10, true), (7, false), (11, true), (12, true), (13, true), (14, true), (15, true), (16, true), (17, true), (18, true), (19, true), (20, true), (21, true), (22, true), (23, true), (24, true), (25, true), (26, true), (27, true), (28, true), (29, true), (30, true), (31, true), (32, true), (33, true), (34, true), (35, true), (36, true)] (PlyS w5.heap.size g off c1) (by kernel_rfl) (by kernel_rfl) (fun _ _ _ d _ h => by cases d <;> exact h) hP0 ?_
              iterate 3 (refine line_read (a' := ?_) rfl (by kernel_rfl) (by kernel_rfl) hP0 (fun y hy Kx hKx => ?_) ?_; rotate_left; · clear hy; go_wp2; exact hKx)
              refine line_act (by rfl) (fun Kx hKx => ?_)
              go_wp2_with (go_at_call 14; refine LENd.mono ?_; rintro e w8 ⟨rfl, hE8⟩)
              have hP8 : PlyS w5.heap.size g off c1 w8 := ⟨hP0.1.ext hE8, RNG _ (HSd.out.next HBC.out hE8)⟩
              refine hKx _ _ _ hP8 (fun y hy => hy) ?_
              clear hKx Kx
              have HS8 := Lib.hid (HSd.out.next HBC.out hE8)
              have HO8 := Lib.hid (ext13_trans (⟨rfl, rfl, rfl, Nat.le_refl _, fun _ _ _ => rfl⟩ : w7.grownBy w7.drew none) hE8)
              have FUL8 := FUL _ HS8.out.ba
              clear hE8 LENd
              iterate 6 (refine line_read (a' := ?_) rfl (by kernel_rfl) (by kernel_rfl) hP8 (fun y hy Kx hKx => ?_) ?_; rotate_left; · clear hy; go_wp2; exact hKx)
              refine line_act (by rfl) (fun Kx hKx => ?_)
              go_wp2_with (go_at_call 15; refine FUL8.mono ?_; rintro e w9 ⟨rfl, hE9⟩)
              have hP9 : PlyS w5.heap.size g off c1 w9 := ⟨hP8.1.ext hE9, RNG _ (HS8.out.next HBC.out hE9)⟩
              refine hKx _ _ _ hP9 (fun y hy => hy) ?_
              clear hKx Kx
              have HS9 := Lib.hid (HS8.out.next HBC.out hE9)
              have HO9 := Lib.hid (ext13_trans HO8.out hE9)
              clear hE9 FUL8
              iterate 12 (refine line_read (a' := ?_) rfl (by kernel_rfl) (by kernel_rfl) hP9 (fun y hy Kx hKx => ?_) ?_; rotate_left; · clear hy; go_wp2; exact hKx)
              iterate 14 (refine line_read (a' := ?_) rfl (by kernel_rfl) (by kernel_rfl) hP9 (fun y hy Kx hKx => ?_) ?_; rotate_left; · obtain ⟨hy1, hy2⟩ := hy; go_wp2_with (first | (refine chg_load_lit rfl _ rfl rfl hy2 ?_) | (refine chg_load_lit rfl _ rfl rfl (hy1.range 0 3 rfl) ?_)); exact hKx)
              refine line_end ?_
              go_wp2
              go_meet
              exact ⟨rfl, HS9.out, HO9.out⟩
          case rest =>
            obtain ⟨rfl, hSx, hOx⟩ := hcut
            have HSx := Lib.hid hSx
            have HOx := Lib.hid hOx
            have hBl := Blk.new wc 28 #[.int .i64 0, .int .i64 0, .string ⟨#[]⟩]
            clear hSx hOx hb7
            go_wp2_with (first
              | (refine chg_build0 rfl rfl ?_)
              | (refine chg_store (c := noChg) _ _ rfl rfl rfl hBl rfl rfl ?_; intro w8 hb8 hg8 hs8; have hE8 := grown_trans13 (World.grownBy_alloc wc _ none) hg8; have HS8 := Lib.hid (HSx.out.next HBC.out hE8); have HO8 := Lib.hid (ext13_trans HOx.out hE8); have HB8 := Lib.hid hb8; have HLB := Lib.hid HOx.out.size; clear hBl hg8 hs8 hE8 hb8))
            have HLB3 := Lib.hid (show wc.heap.size ≠ b ∧ w2.heap.size ≤ wc.heap.size ∧ ∀ k, (Value.slice so n2 sc).ownBlock = some k → k ≠ wc.heap.size from ⟨by have := HBC.out.lt _ _ _ HSx.out.ba; omega, HSx.out.ext.size, fun k hk => by have := (HSx.out.rw_.lt k hk).2; omega⟩)
            obtain ⟨LB, hLB⟩ : ∃ z, wc.heap.size = z := ⟨_, rfl⟩
            rw [hLB] at HB8 HLB HLB3 ⊢
            clear hLB
            go_loopw [14, 123] (fun hs i wr => ∃ j : Nat, j ≤ n2 ∧ i = .int .i64 j ∧ hs = .bool (lastN (row2.take j) p).2 ∧ Blk wr LB 28 (chgC (lastN (row2.take j) p).1) ∧ Buf13 BA w2 wr b row2 (.slice so n2 sc) ∧ w7.grownBy wr none) (fun _ i _ => n2 - (intOf i).toNat)
            case atStart => exact ⟨0, by omega, rfl, rfl, HB8.out, HS8.out, HO8.out⟩
            case round =>
              obtain ⟨j, hj, rfl, rfl, hbl, hSj, hOj⟩ := hrel
              obtain ⟨wi, rfl⟩ : ∃ wi : World, wi = wr := ⟨_, rfl⟩
              by_cases hlt2 : j < n2
              · obtain ⟨cj, hcj⟩ : ∃ c, row2.getD j noChg = c := ⟨_, rfl⟩
                obtain ⟨g, off, hso, hrg⟩ := row_at13 hSj.rw_ (by rw [HN2.out]; exact hlt2) hcj
                have hal := (TailRow.of_owns HO7.out).kept hOj (by simp)
                obtain ⟨gl, ol, hlo, hra⟩ := row_at13 (row := row2) (by rw [HN2.out]; exact hal) (by rw [HN2.out]; exact hlt2) hcj
                subst hso hlo
                have hBx := Blk.new wi 28 #[.int .i64 0, .int .i64 0, .string ⟨#[]⟩]
                have HSj := Lib.hid hSj
                have HOj := Lib.hid hOj
                have HRA := Lib.hid hra
                have hstep : lastN (row2.take (j + 1)) p = if cj.pl = p then (cj, true) else lastN (row2.take j) p := by rw [take_snoc13 (by rw [HN2.out]; exact hlt2) hcj, lastN_snoc]
                have HST := Lib.hid hstep
                obtain ⟨⟨cl, hb0⟩, hln⟩ : ∃ z, lastN (row2.take j) p = z := ⟨_, rfl⟩
                rw [hln] at hbl ⊢
                have HLN := Lib.hid hln
                clear hSj hOj hra hcj hal hstep hln
                go_upto_region 29 with (first
                  | (refine chg_load_want rfl _ rfl rfl hrg ?_)
                  | (refine chg_store (c := cj) _ _ rfl rfl rfl hBx rfl rfl ?_; intro w10 hb10 hg10 hs10; have hE10 := grown_trans13 (World.grownBy_alloc wi _ none) hg10; have hbl10 := hbl.ext hE10; have HSa := Lib.hid (HSj.out.next HBC.out hE10); have HOa := Lib.hid (ext13_trans HOj.out hE10); have hra10 : w10.rangeAt gl (ol + j * 3) (chgC cj).toList := fun q u hq => hE10.cell (HRA.out q u hq) (by simp); clear hBx hg10 hs10 hE10 hrg hbl))
                have hP : PlyS wi.heap.size gl (ol + j * 3) cj w10.drew := ⟨hb10, hra10⟩
                refine region_line [(0, true), (1, true), (2, true), (3, true), (4, true), (5, true)] (PlyS wi.heap.size gl (ol + j * 3) cj) (by kernel_rfl) (by kernel_rfl) (fun _ _ _ d _ h => by cases d <;> exact h) hP ?_
                iterate 6 (refine line_read (a' := ?_) rfl (by kernel_rfl) (by kernel_rfl) hP (fun y hy Kx hKx => ?_) ?_; rotate_left; · obtain ⟨hy1, hy2⟩ := hy; go_wp2_with (first | (refine chg_load_lit rfl _ rfl rfl hy2 ?_) | (refine chg_load_lit rfl _ rfl rfl (hy1.range 0 3 rfl) ?_)); exact hKx)
                refine line_end ?_
                have hE11 : w10.grownBy w10.drew none := ⟨rfl, rfl, rfl, Nat.le_refl _, fun _ _ _ => rfl⟩
                have HSb := Lib.hid (HSa.out.next HBC.out hE11)
                have HOb := Lib.hid (ext13_trans HOa.out hE11)
                have hbx : Blk w10.drew wi.heap.size 28 (chgC cj) := hP.1
                have hbL : Blk w10.drew LB 28 (chgC cl) := hbl10
                have cx := (hbx.cell 0).trans (show (chgC cj)[0]? = some (.int .i64 cj.pl) from rfl)
                obtain ⟨q, hq⟩ : ∃ z, cj.pl = z := ⟨_, rfl⟩
                rw [hq] at cx
                have HQ := Lib.hid hq
                have HLB2 := Lib.hid hbL.lt
                clear hP hra10 hb10 hbl10 hE11 hq
                by_cases hpl : q = p
                · have hqb : (q == p) = true := by simpa using hpl
                  have HPL := Lib.hid hpl
                  clear hpl
                  go_wp2_with (first
                    | (refine chg_load_want rfl _ rfl rfl (hbx.range 0 3 rfl) ?_)
                    | (refine chg_store (c := cj) _ _ rfl rfl rfl hbL rfl rfl ?_; intro w11 hb11 hg11 hs11; have HS11 := Lib.hid (HSb.out.past HBC.out hg11 HLB3.out); have HO11 := Lib.hid (grown_past13 HOb.out hg11 HLB.out); clear hg11 hs11 hbL))
                  go_roundw
                  case rel => exact ⟨j + 1, by omega, by go_num, by rw [HST.out, if_pos (by rw [HQ.out]; exact HPL.out)], by rw [HST.out, if_pos (by rw [HQ.out]; exact HPL.out)]; exact hb11, HS11.out, HO11.out⟩
                  case measure => simp [intOf]; omega
                · have hqb : (q == p) = false := by simpa using hpl
                  have HPL := Lib.hid hpl
                  clear hpl
                  go_wp2
                  go_roundw
                  case rel => exact ⟨j + 1, by omega, by go_num, by rw [HST.out, if_neg (by rw [HQ.out]; exact HPL.out), HLN.out], by rw [HST.out, if_neg (by rw [HQ.out]; exact HPL.out), HLN.out]; exact hbL, HSb.out, HOb.out⟩
                  case measure => simp [intOf]; omega
              · obtain rfl : j = n2 := by omega
                have htk : row2.take j = row2 := List.take_of_length_le (by rw [HN2.out]; exact Nat.le_refl _)
                rw [htk] at hbl ⊢
                have HSj := Lib.hid hSj
                obtain ⟨⟨cl, hb0⟩, hln⟩ : ∃ z, lastN row2 p = z := ⟨_, rfl⟩
                rw [hln] at hbl LST ⊢
                clear hSj hOj hln htk
                go_wp2_with (first
                  | (go_at_call 16; refine (LST _ HSj.out.ba).mono ?_; rintro e w10 ⟨rfl, hE10⟩; have HSa := Lib.hid (HSj.out.next HBC.out hE10); have hB10 := Blk.new w10 28 #[.int .i64 0, .int .i64 0, .string ⟨#[]⟩]; have hbl10 := hbl.ext hE10; clear hE10 hbl)
                  | (refine chg_store (c := cl) _ _ rfl rfl rfl hB10 rfl rfl ?_; intro w11 hb11 hg11 hs11; have hE11 := grown_trans13 (World.grownBy_alloc w10 _ none) hg11; have HSb := Lib.hid (HSa.out.next HBC.out hE11); have hbl11 := hbl10.ext hE11; clear hB10 hg11 hs11 hE11 hbl10)
                  | (refine chg_load_lit rfl _ rfl rfl (hbl11.range 0 3 rfl) ?_)
                  | (refine chg_load_lit rfl _ rfl rfl (hb11.range 0 3 rfl) ?_))
                go_roundw
                case rel => exact ⟨k + 1, row2, _, by omega, rfl, by go_num, HSb.out⟩
                case measure => simp [intOf]; omega
      · have HS := Lib.hid hS
        clear hS
        go_wp2
        go_ret
        exact ⟨rfl, ext13_trans HE2.out HS.out.ext⟩

end Go.Proofs.Ytdnjpoioojahkaa
