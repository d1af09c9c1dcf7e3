/-
  Layer 13: the program's buffer: Last, All; all contracts kept; the laws over the program's own.
-/
import Derived.Test.YtdnjpoioojahkaaQJ
namespace Go.Proofs.Ytdnjpoioojahkaa
set_option linter.unusedVariables false
set_option linter.unusedSimpArgs false
set_option maxRecDepth 100000
open Go.RowKit

section
variable {w : World} {b : Nat} {rs : List Chg} {f c : Nat}
theorem grown_of_drew_alloc {w w' : World} {o : Obj} {r : Option Nat} (h : (w.drew.alloc o).grownBy w' r) : (w.alloc o).grownBy w' r := ⟨h.os, h.tape, h.output, h.size, h.block⟩
/-- What stands while the changes are gone through. -/
structure LastS (w0 wr : World) (b : Nat) (rs : List Chg) (f c : Nat) (x : Chg) : Prop where
  buf : BufS wr b rs f c
  res : Blk wr w0.heap.size 28 (chgC noChg)
  lst : Blk wr (w0.heap.size + 1) 28 (chgC x)
  ext : w0.grownBy wr none
theorem LastS.next {w0 wr w6 : World} {b : Nat} {rs : List Chg} {f c : Nat} {x : Chg} (h : LastS w0 wr b rs f c x) (hg : wr.grownBy w6 none) : LastS w0 w6 b rs f c x :=
  ⟨h.buf.ext hg, h.res.ext hg, h.lst.ext hg, ext13_trans h.ext hg⟩
theorem LastS.put {w0 wr w6 : World} {b : Nat} {rs : List Chg} {f c : Nat} {x y : Chg} (h : LastS w0 wr b rs f c x) (hb : b < w0.heap.size) (h6 : Blk w6 (w0.heap.size + 1) 28 (chgC y)) (hg : wr.grownBy w6 (some (w0.heap.size + 1))) : LastS w0 w6 b rs f c y :=
  ⟨⟨h.buf.four, h.buf.fl, h.buf.cl, h.buf.blk.kept hg (fun e => by injection e with e; omega)⟩, h.res.kept hg (fun e => by injection e with e; omega), h6, g13_new h.ext hg (by omega)⟩

set_option maxHeartbeats 1600000 in
theorem last_is (h : BufS w b rs f c) (p : Int) : Calls Try.prog 16 #[.pointer (some ⟨b, 0, none⟩), .int .i64 p] w fun e w' => e = .returned (.tuple #[chgV (lastN (ringL rs f c) p).1, .bool (lastN (ringL rs f c) p).2]) ∧ w.grownBy w' none := by
  have hE1 := World.grownBy_alloc w (.cells #[.int .i64 0, .int .i64 0, .string ⟨#[]⟩] 28) none
  have hb1 := (Blk.new w 28 (chgC noChg)).alloc (.cells #[.int .i64 0, .int .i64 0, .string ⟨#[]⟩] 28)
  have hb2 := Blk.newAt (w.alloc (.cells #[.int .i64 0, .int .i64 0, .string ⟨#[]⟩] 28)) (w.heap.size + 1) (by simp) 28 (chgC noChg)
  have hE := ext13_trans hE1 (World.grownBy_alloc (w.alloc (.cells #[.int .i64 0, .int .i64 0, .string ⟨#[]⟩] 28)) (.cells #[.int .i64 0, .int .i64 0, .string ⟨#[]⟩] 28) none)
  have hB := h.ext hE
  have hbl := Lib.hid h.blk.lt
  obtain ⟨w2, hw2⟩ : ∃ v, (w.alloc (.cells #[.int .i64 0, .int .i64 0, .string ⟨#[]⟩] 28)).alloc (.cells #[.int .i64 0, .int .i64 0, .string ⟨#[]⟩] 28) = v := ⟨_, rfl⟩
  rw [show (w.alloc (.cells (chgC noChg) 28)).alloc (.cells #[.int .i64 0, .int .i64 0, .string ⟨#[]⟩] 28) = w2 from hw2] at hb1
  rw [show (w.alloc (.cells #[.int .i64 0, .int .i64 0, .string ⟨#[]⟩] 28)).alloc (.cells (chgC noChg) 28) = w2 from hw2] at hb2
  rw [hw2] at hE hB
  have LEN := len_is hB
  have HS := Lib.hid (show LastS w w2 b rs f c (lastN (ringL rs f 0) p).1 from ⟨hB, hb1, hb2, hE⟩)
  have hcl := h.cl
  clear hE hE1 hb1 hb2 hB h
  go_enter Try.func16, Try.ntmps16
  go_wp2_with (first
    | (go_at_call 14; refine LEN.mono ?_; rintro e w3 ⟨rfl, rfl⟩))
  clear LEN hw2
  go_loopw [7, 12] (fun s i wr => ∃ k : Nat, k ≤ c ∧ i = .int .i64 k ∧ s = .bool (lastN (ringL rs f k) p).2 ∧ LastS w wr b rs f c (lastN (ringL rs f k) p).1) (fun _ i _ => c - (intOf i).toNat)
  case atStart => exact ⟨0, by omega, rfl, rfl, HS.out⟩
  case round =>
    clear HS
    obtain ⟨k, hk, rfl, rfl, hS⟩ := hrel
    obtain ⟨lx, hlx⟩ : ∃ q, lastN (ringL rs f k) p = q := ⟨_, rfl⟩
    obtain ⟨lc, lf⟩ := lx
    rw [hlx] at hS
    have HL := Lib.hid hlx
    have HSR := Lib.hid hS
    clear hS
    rw [hlx]
    clear hlx
    by_cases hlt : k < c
    · obtain ⟨x, hx⟩ : ∃ x, rs.getD ((f + k) % 4) noChg = x := ⟨_, rfl⟩
      have HX := Lib.hid hx
      clear hx
      obtain ⟨g, hg⟩ : ∃ g, (f + k) % 4 = g := ⟨_, rfl⟩
      have hg4 : g < 4 := by omega
      rw [hg] at HX
      have HG := Lib.hid hg
      clear hg
      have hB := HSR.out.buf.ext (Ext.drew wr)
      have hBN := hB.ext (World.grownBy_alloc wr.drew (.cells #[.int .i64 0, .int .i64 0, .string ⟨#[]⟩] 28) none)
      have hbN : Blk (wr.drew.alloc (.cells #[.int .i64 0, .int .i64 0, .string ⟨#[]⟩] 28)) wr.heap.size 28 #[.int .i64 0, .int .i64 0, .string ⟨#[]⟩] := Blk.new wr.drew _ _
      go_wp2
      go_cut [9] (fun s9 wx => s9 = .pointer (some ⟨wr.heap.size, 0, none⟩) ∧ Blk wx wr.heap.size 28 (chgC x) ∧ LastS w wx b rs f c lc)
      case first =>
        refine region_tree (.read 0 (.read 1 (.read 2 (.read 4 (.read 5 (.two 3 8 (.read 6 (.read 7 (.one 8 (.one 9 .done)))) (.one 3 (.read 6 (.read 7 (.one 9 .done)))))))))) (fun x0 : World => BufS x0 b rs f c) (by kernel_rfl) (by kernel_rfl) (fun _ _ _ d _ h => by cases d <;> exact h) hB ?_
        iterate 5 (refine tree_read (a' := ?_) rfl (by kernel_rfl) (by kernel_rfl) hB (fun x0 hx K hK => ?_) ?_; rotate_left; · clear hx; go_wp2; exact hK)
        refine tree_two ?_ ?_
        · refine tree_one (by rfl) (fun K hK => ?_)
          have AT := at_is hB (i := k) (by omega)
          rw [HG.out] at AT
          go_wp2_with (go_at_call 32; refine AT.mono ?_; rintro e w7 ⟨rfl, rfl⟩)
          clear AT
          refine hK _ _ _ hB (fun x hx => hx) ?_
          clear hK K
          refine tree_read (a' := ?_) rfl (by kernel_rfl) (by kernel_rfl) hB (fun x0 hx K hK => ?_) ?_
          rotate_left
          · clear hx; go_wp2; exact hK
          refine tree_read (a' := ?_) rfl (by kernel_rfl) (by kernel_rfl) hB (fun x0 hx K hK => ?_) ?_
          rotate_left
          · have hr := hx.range hg4 HX.out
            clear hx
            refine chg_load_want rfl _ rfl rfl hr ?_
            go_wp2
            exact hK
          refine tree_one (by rfl) (fun K hK => ?_)
          go_wp2
          refine hK _ _ _ hBN (fun x hx => hx) ?_
          clear hK K
          refine tree_one (by rfl) (fun K hK => ?_)
          go_wp2_with (first
            | (refine chg_store (c := x) _ _ rfl rfl rfl hbN rfl rfl ?_; intro w6 hb6 hg6 hs6))
          have hE6 : wr.grownBy w6 none := g13_new (World.grownBy_alloc wr _ none) (grown_of_drew_alloc hg6) (Nat.le_refl _)
          have HN := Lib.hid (HSR.out.next hE6)
          refine hK _ _ _ HN.out.buf (fun x hx => hx) ?_
          clear hK K hg6 hs6 hE6 hbN hBN hB HSR
          refine tree_end ?_
          go_wp2
          go_meet
          exact ⟨rfl, hb6, HN.out⟩
        · refine tree_one (by rfl) (fun K hK => ?_)
          go_wp2
          refine hK _ _ _ hBN (fun x hx => hx) ?_
          clear hK K
          refine tree_one (by rfl) (fun K hK => ?_)
          have AT := at_is hBN (i := k) (by omega)
          rw [HG.out] at AT
          go_wp2_with (go_at_call 32; refine AT.mono ?_; rintro e w7 ⟨rfl, rfl⟩)
          clear AT
          refine hK _ _ _ hBN (fun x hx => hx) ?_
          clear hK K
          refine tree_read (a' := ?_) rfl (by kernel_rfl) (by kernel_rfl) hBN (fun x0 hx K hK => ?_) ?_
          rotate_left
          · clear hx; go_wp2; exact hK
          refine tree_read (a' := ?_) rfl (by kernel_rfl) (by kernel_rfl) hBN (fun x0 hx K hK => ?_) ?_
          rotate_left
          · have hr := hx.range hg4 HX.out
            clear hx
            refine chg_load_want rfl _ rfl rfl hr ?_
            go_wp2
            exact hK
          refine tree_one (by rfl) (fun K hK => ?_)
          go_wp2_with (first
            | (refine chg_store (c := x) _ _ rfl rfl rfl hbN rfl rfl ?_; intro w6 hb6 hg6 hs6))
          have hE6 : wr.grownBy w6 none := g13_new (World.grownBy_alloc wr _ none) (grown_of_drew_alloc hg6) (Nat.le_refl _)
          have HN := Lib.hid (HSR.out.next hE6)
          refine hK _ _ _ HN.out.buf (fun x hx => hx) ?_
          clear hK K hg6 hs6 hE6 hbN hBN hB HSR
          refine tree_end ?_
          go_wp2
          go_meet
          exact ⟨rfl, hb6, HN.out⟩
      case rest =>
        obtain ⟨rfl, hb6, hN6⟩ := hcut
        have HN := Lib.hid hN6
        have c0 := (hb6.cell 0).trans (show (chgC x)[0]? = some (.int .i64 x.pl) from rfl)
        clear hN6 hB hBN hbN
        by_cases hp : x.pl = p
        · have hpb : (x.pl == p) = true := by simpa using hp
          have HP := Lib.hid hp
          have hl := HN.out.lst
          clear hp
          go_wp2_with (first
            | (refine chg_load_want rfl _ rfl rfl (hb6.range 0 3 rfl) ?_)
            | (refine chg_store (c := x) _ _ rfl rfl rfl hl rfl rfl ?_; intro w8 hb8 hg8 hs8))
          have HN8 := Lib.hid (HN.out.put hbl.out hb8 hg8)
          clear hl hb6 hb8 hg8 hs8 HN
          go_wp2
          go_roundw
          case rel =>
            refine ⟨k + 1, by omega, by go_num, ?_⟩
            have hs := lastN_snoc (ringL rs f k) x p
            rw [if_pos HP.out] at hs
            rw [ringL_snoc, HG.out, HX.out, hs]
            exact ⟨rfl, HN8.out⟩
          case measure => simp [intOf]; omega
        · have hpb : (x.pl == p) = false := by simpa using hp
          have HP := Lib.hid hp
          clear hp hb6
          go_wp2
          go_roundw
          case rel =>
            refine ⟨k + 1, by omega, by go_num, ?_⟩
            have hs := lastN_snoc (ringL rs f k) x p
            rw [if_neg HP.out] at hs
            rw [ringL_snoc, HG.out, HX.out, hs, HL.out]
            exact ⟨rfl, HN.out⟩
          case measure => simp [intOf]; omega
    · obtain rfl : k = c := by omega
      have hl := HSR.out.lst
      have hr := HSR.out.res
      go_wp2_with (first
        | (refine chg_load_want rfl _ rfl rfl (hl.range 0 3 rfl) ?_)
        | (refine chg_store (c := lc) _ _ rfl rfl rfl hr rfl rfl ?_; intro w6 hb6 hg6 hs6))
      refine bodyPost_ret (v := .tuple #[.agg (chgC lc), .bool lf]) (results_cell_two (fn := Try.f16) rfl rfl rfl hb6 Try.underlying28 rfl Try.sizeChg) rfl ?_
      rw [HL.out]
      exact ⟨rfl, g13_new HSR.out.ext hg6 (Nat.le_refl _)⟩
end

section
variable {ops : Array Oper} {rest : List Oper} {o : Oper} {a : Act} {w : World} {Q : Exit → Act → World → Prop}
/-- A change more. -/
theorem append_chg (hgd : o.guard = none) (s x : Operand) (ho : o.op = .call { callee := .builtin .append, args := #[s, x], argTypes := #[26, 26] }) (base : Nat) (v : Value) (row : List Chg) (n : Nat) (hn : row.length = n) (hs : a.eval s = v) (hown : w.ownsRow base 28 3 v n (chgsL row))
    (ad : Addr) (cap : Nat) (c : Chg) (hx : a.eval x = .slice (some ad) 1 cap) (hc : ∀ j u, (chgC c).toList[j]? = some u → w.cell? (ad.add j) = some u) (h63 : n ≤ 1000000) (hbase : base ≤ w.heap.size)
    (h : ∀ v' w', w'.ownsRow base 28 3 v' (n + 1) (chgsL (row ++ [c])) → w.grownBy w' v.ownBlock → wpList Try.prog ops Q rest (a.put o.dst v') w') : wpList Try.prog ops Q (o :: rest) a w := by
  obtain ⟨i0, hi, hz0, hz1, hz2⟩ := info_parts Try.infoChg
  refine wpList_append_own w hgd s x 26 ho base 28 i0 _ 3 32 Try.underlying26 hi hz0 hz1 hz2 rfl (by decide) v n _ hs hown ad 1 cap (chgC c).toList hx rfl hc (by simp [chgC, Value.oneCell']) (by unfold maxLen; omega) (by omega) hbase ?_
  intro v' w' h1 h2 _
  exact h v' w' (by rw [chgsL_snoc]; exact h1) h2
end

section
variable {w : World} {b : Nat} {rs : List Chg} {f c : Nat}
/-- What stands while all are put in a row. -/
structure AllS (w0 wr : World) (b : Nat) (rs : List Chg) (f c k : Nat) (v : Value) : Prop where
  buf : BufS wr b rs f c
  row : wr.ownsRow w0.heap.size 28 3 v k (chgsL (ringL rs f k))
  ext : w0.grownBy wr none
theorem owns_slice13 {w : World} {B : Nat} {e : TypeId} {sz : Nat} {v : Value} {n : Nat} {xs : List Value} (h : w.ownsRow B e sz v n xs) : ∃ ao cap, v = .slice ao n cap := owns_shape13 h

set_option maxHeartbeats 1600000 in
theorem all_is (h : BufS w b rs f c) : Calls Try.prog 13 #[.pointer (some ⟨b, 0, none⟩)] w fun e w' => ∃ v, e = .returned v ∧ w'.ownsRow w.heap.size 28 3 v c (chgsL (ringL rs f c)) ∧ w.grownBy w' none := by
  have LEN := len_is h
  have hbl := Lib.hid h.blk.lt
  have hcl := h.cl
  have HS := Lib.hid (show AllS w w b rs f c 0 (.slice none 0 0) from ⟨h, ⟨by simp [ringL, chgsL], .inl ⟨rfl, rfl⟩⟩, Ext.refl w⟩)
  clear h
  go_enter Try.func13, Try.ntmps13
  go_wp2_with (first
    | (go_at_call 14; refine LEN.mono ?_; rintro e w3 ⟨rfl, rfl⟩))
  clear LEN
  go_loopw [3, 7] (fun s i wr => ∃ (k : Nat) (v : Value), k ≤ c ∧ i = .int .i64 k ∧ s = v ∧ AllS w wr b rs f c k v) (fun _ i _ => c - (intOf i).toNat)
  case atStart => exact ⟨0, _, by omega, rfl, rfl, HS.out⟩
  case round =>
    clear HS
    obtain ⟨k, v, hk, rfl, rfl, hS⟩ := hrel
    obtain ⟨ao, cap, rfl⟩ := owns_slice13 hS.row
    have HSR := Lib.hid hS
    clear hS
    by_cases hlt : k < c
    · obtain ⟨x, hx⟩ : ∃ x, rs.getD ((f + k) % 4) noChg = x := ⟨_, rfl⟩
      have HX := Lib.hid hx
      clear hx
      obtain ⟨g, hg⟩ : ∃ g, (f + k) % 4 = g := ⟨_, rfl⟩
      have hg4 : g < 4 := by omega
      rw [hg] at HX
      have HG := Lib.hid hg
      clear hg
      have hB := HSR.out.buf.ext (Ext.drew wr)
      go_wp2
      refine region_line [(0, true), (1, true), (2, true), (3, true), (5, true), (6, true), (4, false), (7, true), (8, true), (9, false), (10, false), (11, true)] (fun x0 => BufS x0 b rs f c) (by kernel_rfl) (by kernel_rfl) (fun _ _ _ d _ h => by cases d <;> exact h) hB ?_
      iterate 6 (refine line_read (a' := ?_) rfl (by kernel_rfl) (by kernel_rfl) hB (fun x0 hx K hK => ?_) ?_; rotate_left; · clear hx; go_wp2; exact hK)
      refine line_act (by rfl) (fun K hK => ?_)
      have AT := at_is hB (i := k) (by omega)
      rw [HG.out] at AT
      go_wp2_with (go_at_call 32; refine AT.mono ?_; rintro e w7 ⟨rfl, rfl⟩)
      clear AT
      refine hK _ _ (fun x0 => BufS x0 b rs f c) hB (fun x hx => hx) ?_
      clear hK K
      refine line_read (a' := ?_) rfl (by kernel_rfl) (by kernel_rfl) hB (fun x0 hx K hK => ?_) ?_
      rotate_left
      · clear hx; go_wp2; exact hK
      refine line_read (a' := ?_) rfl (by kernel_rfl) (by kernel_rfl) hB (fun x0 hx K hK => ?_) ?_
      rotate_left
      · have hr := hx.range hg4 HX.out
        clear hx
        refine chg_load_lit rfl _ rfl rfl hr ?_
        go_wp2
        exact hK
      refine line_act (by rfl) (fun K hK => ?_)
      go_wp2
      have hBN := hB.ext (World.grownBy_alloc wr.drew (.cells #[.int .i64 x.pl, .int .i64 x.kd, .string x.dt] 28) none)
      refine hK _ _ (fun x0 => BufS x0 b rs f c) hBN (fun x hx => hx) ?_
      clear hK K
      refine line_act (by rfl) (fun K hK => ?_)
      refine append_chg rfl _ _ rfl w.heap.size (.slice ao k cap) (ringL rs f k) k (ringL_len rs f k) rfl ((HSR.out.row.kept (Ext.drew wr) (Classical.em _)).alloc _) ⟨wr.heap.size, 0, none⟩ 1 x rfl (chg_new wr.drew x) (by omega) (by have := HSR.out.ext.size; simp; omega) ?_
      intro v' w' hrow' hg'
      have hE6 : wr.grownBy w' (Value.slice ao k cap).ownBlock := ⟨hg'.os, hg'.tape, hg'.output, Nat.le_trans (by simp) hg'.size, fun p hp hne => (hg'.block p (by simp; omega) hne).trans ((World.grownBy_alloc wr.drew _ none).block p hp (by simp))⟩
      have hlow := HSR.out.row.lt
      have hE : w.grownBy w' none := grown_trans HSR.out.ext hE6 (fun p hp hlt => by have := (hlow p hp).1; omega)
      have hB6 : BufS w' b rs f c := ⟨hB.four, hB.fl, hB.cl, (hE6.block b (by have := hbl.out; have := HSR.out.ext.size; omega) (fun e => by have := (hlow b e.symm).1; have := hbl.out; omega)).trans HSR.out.buf.blk⟩
      have hrow2 : w'.ownsRow w.heap.size 28 3 v' (k + 1) (chgsL (ringL rs f (k + 1))) := by rw [ringL_snoc, HG.out, HX.out]; exact hrow'
      have HN := Lib.hid (show AllS w w' b rs f c (k + 1) v' from ⟨hB6, hrow2, hE⟩)
      obtain ⟨ao2, cap2, rfl⟩ := owns_slice13 hrow'
      clear hE6 hlow hE hrow2 hrow' hg' hB hBN HSR
      refine hK _ _ (fun x0 => BufS x0 b rs f c) hB6 (fun x hx => hx) ?_
      clear hK K
      refine line_read (a' := ?_) rfl (by kernel_rfl) (by kernel_rfl) hB6 (fun x0 hx K hK => ?_) ?_
      rotate_left
      · clear hx; go_wp2; exact hK
      refine line_end ?_
      clear hB6
      go_wp2
      go_roundw
      case rel => exact ⟨k + 1, _, by omega, by go_num, rfl, HN.out⟩
      case measure => simp [intOf]; omega
    · obtain rfl : k = c := by omega
      go_wp2
      go_ret
      exact ⟨_, rfl, HSR.out.row, HSR.out.ext⟩
end

theorem buf_c : BufC BufA where
  stays := bufStays
  lt := bufLt
  new := new13_is
  put := by
    intro w b row x hA hl hd
    obtain ⟨rs, f, c, hS, rfl⟩ := hA
    have hlen := ringL_len rs f c
    have hf := hS.fl
    unfold putR putE
    by_cases h0 : chkE x.pl x.kd x.dt = 0
    · rw [if_pos h0]
      by_cases h4 : (ringL rs f c).length = 4
      · rw [if_pos h4, if_neg (by decide)]
        have hc4 : c = 4 := by omega
        subst hc4
        exact (put_full hS x hd h0).mono fun e w' ⟨h1, h2⟩ => ⟨h1, ⟨rs, f, 4, hS.ext h2, rfl⟩, grown_any13 h2⟩
      · rw [if_neg h4, if_pos rfl]
        have hcl := hS.cl
        exact (put_ok hS (by omega) x hd h0).mono fun e w' ⟨h1, h2, h3⟩ => ⟨h1, ⟨_, f, c + 1, h2, (ringL_put hS.four f c (by omega) x).symm⟩, h3⟩
    · rw [if_neg h0, if_neg h0]
      exact (put_bad hS x hd h0).mono fun e w' ⟨h1, h2⟩ => ⟨h1, ⟨rs, f, c, hS.ext h2, rfl⟩, grown_any13 h2⟩
  first := by
    intro w b row hA _
    obtain ⟨rs, f, c, hS, rfl⟩ := hA
    rw [ringL_len]
    by_cases hc : 0 < c
    · rw [decide_eq_true hc]
      exact first_some hS hc (ringL_first rs hS.fl hc).symm
    · obtain rfl : c = 0 := by omega
      exact first_none hS
  drop := by
    intro w b row hA _
    obtain ⟨rs, f, c, hS, rfl⟩ := hA
    rw [ringL_len]
    by_cases hc : 0 < c
    · rw [decide_eq_true hc]
      refine (drop_some hS hc).mono fun e w' ⟨h1, h2, h3⟩ => ⟨h1, ⟨_, _, _, h2, ?_⟩, h3⟩
      have := ringL_drop (rs := rs) f c noChg hc hS.cl
      rw [Nat.mod_eq_of_lt hS.fl] at this
      exact this.symm
    · obtain rfl : c = 0 := by omega
      exact (drop_none hS).mono fun e w' ⟨h1, h2⟩ => ⟨h1, ⟨rs, f, 0, h2 ▸ hS, rfl⟩, by subst h2; exact grown_any13 (Ext.refl w)⟩
  last := by
    intro w b row p hA _
    obtain ⟨rs, f, c, hS, rfl⟩ := hA
    exact last_is hS p
  len := by
    intro w b row hA _
    obtain ⟨rs, f, c, hS, rfl⟩ := hA
    rw [ringL_len]
    exact (len_is hS).mono fun e w' ⟨h1, h2⟩ => ⟨h1, by subst h2; exact Ext.refl w⟩
  full := by
    intro w b row hA _
    obtain ⟨rs, f, c, hS, rfl⟩ := hA
    rw [ringL_len]
    exact (full_is hS).mono fun e w' ⟨h1, h2⟩ => ⟨h1, by subst h2; exact Ext.refl w⟩
  all := by
    intro w b row hA _
    obtain ⟨rs, f, c, hS, rfl⟩ := hA
    rw [ringL_len]
    exact all_is hS
theorem buf_n : BufN where
  put := none_put
  first := none_first
  drop := fun w => (none_drop w)
  last := none_last
  len := fun w => (none_len w).mono fun e w' ⟨h1, h2⟩ => ⟨h1, by subst h2; exact Ext.refl w⟩
  full := none_full
  all := none_all
theorem fix_13 : Fix13 := fix13_any buf_c

end Go.Proofs.Ytdnjpoioojahkaa
