/-
  Layer 20 (queue): QueuePlays over the program's own.
-/
import Derived.Test.YtlljkcpopfencaaLG
import Derived.Test.YtlljkcpopfencaaRY
import Derived.Below
import Derived.Deep.CutBlock
namespace Go.Proofs.Ytlljkcpopfencaa
set_option linter.unusedVariables false
set_option linter.unusedSimpArgs false
set_option maxRecDepth 100000
open Go.RowKit

def actQ (k8 : Int) (c d : Chg) : Array Value := #[.int .u8 k8, .int .i64 c.pl, .int .i64 c.kd, .string c.dt, .int .i64 d.pl, .int .i64 d.kd, .string d.dt]
/-- The acts that came in. -/
def Acts20 (w : World) (a : Option Addr) (len : Nat) (K : Nat → Int) (C D : Nat → Chg) : Prop :=
  len ≤ 9223372036854775807 ∧ ∀ i, i < len → (∃ b off, a = some ⟨b, off, none⟩ ∧ w.rangeAt b (off + i * 7) (actQ (K i) (C i) (D i)).toList ∧ b < w.heap.size) ∧ (0 ≤ K i ∧ K i ≤ 255)
theorem Try.sizeAct20 : (Try.prog.info? 34).map (·.size) = some 7 := by kernel_rfl
section
variable {ops : Array Oper} {rest : List Oper} {o : Oper} {a : Act} {w : World} {Q : Exit → Act → World → Prop}
theorem actq_load (hgd : o.guard = none) (x : Operand) (ho : o.op = .load 34 x) {b off : Nat} (hx : a.eval x = .pointer (some ⟨b, off, none⟩)) {k8 : Int} {c d : Chg} (hr : w.rangeAt b off (actQ k8 c d).toList)
    (h : wpList Try.prog ops Q rest (a.put o.dst (.agg (actQ k8 c d))) w) : wpList Try.prog ops Q (o :: rest) a w :=
  wpList_load_mid hgd _ x ho b off hx _ _ hr Try.underlying34 rfl (by rw [Try.sizeAct20]; rfl) (by simpa using h)
theorem actq_store (x y : Operand) (ho : o.op = .store 34 x y) {g : Nat} (hx : a.eval x = .pointer (some ⟨g, 0, none⟩)) {k8 : Int} {c d : Chg} (hy : a.eval y = .agg (actQ k8 c d)) {old : Array Value} (hg : Blk w g 34 old) (hold : old.size = 7) (hwt : Region.wanted o (yielded ops a.tmps) = true)
    (h : ∀ w', Blk w' g 34 (actQ k8 c d) → w.grownBy w' (some g) → w'.heap.size = w.heap.size → wpList Try.prog ops Q rest (a.put o.dst undef) w') : wpList Try.prog ops Q (o :: rest) a w :=
  wpList_store_part hwt _ x y ho g 0 7 _ hx hy _ old _ hg rfl Try.sizeAct20 (by omega) (by simp [actQ, Value.oneCell']) (by
    have h1 : (actQ k8 c d).toList.length = 7 := rfl
    rw [h1, List.drop_of_length_le (by simp; omega)]
    simp) h
end

/-- What stands between the acts: the queue's commands and what was done there; the law's own rows. -/
structure PlS (w0 w : World) (b : Nat) (vw vd vW vD : Value) (wq dq wl dl : List Chg) : Prop where
  q : QS w b vw vd wq dq
  wW : TailRow w w0.heap.size 29 3 vW wl.length (chgsL wl)
  wD : w.ownsRow w0.heap.size 32 3 vD dl.length (chgsL dl)
  nW : ∀ k, vW.ownBlock = some k → ¬ fpQ b vw vd k
  nD : ∀ k, vD.ownBlock = some k → ¬ fpQ b vw vd k
  nn : Ne2 vW vD
  b0 : w0.heap.size ≤ b
  ext : w0.grownBy w none
theorem TailRow.kpf {w w' : World} {F : Nat → Prop} {base : Nat} {e : TypeId} {size : Nat} {v : Value} {n : Nat} {xs : List Value} (h : TailRow w base e size v n xs) (hk : KpF F w w') (hn : ∀ k, v.ownBlock = some k → ¬ F k) : TailRow w' base e size v n xs := by
  refine ⟨h.1, ?_⟩
  rcases h.2 with h2 | ⟨g, off, cap, cur, rfl, h2, h3, h4⟩
  · exact .inl h2
  · exact .inr ⟨g, off, cap, cur, rfl, h2, (hk.block g (Array.getElem?_eq_some_iff.1 h3).1 (hn g rfl)).trans h3, h4⟩
theorem owns_kpf {w w' : World} {F : Nat → Prop} {base : Nat} {e : TypeId} {size : Nat} {v : Value} {n : Nat} {xs : List Value} (h : w.ownsRow base e size v n xs) (hk : KpF F w w') (hn : ∀ k, v.ownBlock = some k → ¬ F k) : w'.ownsRow base e size v n xs := by
  refine ⟨h.1, ?_⟩
  rcases h.2 with h2 | ⟨g, cap, cur, rfl, h2, h3, h4⟩
  · exact .inl h2
  · exact .inr ⟨g, cap, cur, rfl, h2, (hk.block g (Array.getElem?_eq_some_iff.1 h3).1 (hn g rfl)).trans h3, h4⟩
section
variable {w0 w w' : World} {b : Nat} {vw vd vW vD vW' vD' : Value} {wq dq wl dl wq' dq' wl' dl' : List Chg}
theorem PlS.next (h : PlS w0 w b vw vd vW vD wq dq wl dl) (hE : w.grownBy w' none) : PlS w0 w' b vw vd vW vD wq dq wl dl :=
  ⟨h.q.ext hE, h.wW.kept hE (by simp), h.wD.kept hE (Classical.em _), h.nW, h.nD, h.nn, h.b0, ext_trans h.ext hE⟩
theorem PlS.turnW (h : PlS w0 w b vw vd vW vD wq dq wl dl) (hQ : QwP w b vw vd wq' dq w') : ∃ vw', PlS w0 w' b vw' vd vW vD wq' dq wl dl ∧ ∀ L, L < w.heap.size → ¬ fpQ b vw vd L → ¬ fpQ b vw' vd L ∧ w'.heap[L]? = w.heap[L]? := by
  obtain ⟨vw', q, k, o⟩ := hQ
  exact ⟨vw', ⟨q, h.wW.kpf k h.nW, owns_kpf h.wD k h.nD, fun x hx => fpQ_not_w (h.nW x hx) (h.wW.lt x hx).2 o, fun x hx => fpQ_not_w (h.nD x hx) (h.wD.lt x hx).2 o, h.nn, h.b0, grown_kpf h.ext k (fpQ_up h.q h.b0)⟩,
    fun L hL hn => ⟨fpQ_not_w hn hL o, k.block L hL hn⟩⟩
theorem PlS.turnD (h : PlS w0 w b vw vd vW vD wq dq wl dl) (hQ : QdP w b vw vd wq dq' w') : ∃ vd', PlS w0 w' b vw vd' vW vD wq dq' wl dl ∧ ∀ L, L < w.heap.size → ¬ fpQ b vw vd L → ¬ fpQ b vw vd' L ∧ w'.heap[L]? = w.heap[L]? := by
  obtain ⟨vd', q, k, o⟩ := hQ
  exact ⟨vd', ⟨q, h.wW.kpf k h.nW, owns_kpf h.wD k h.nD, fun x hx => fpQ_not_d (h.nW x hx) (h.wW.lt x hx).2 o, fun x hx => fpQ_not_d (h.nD x hx) (h.wD.lt x hx).2 o, h.nn, h.b0, grown_kpf h.ext k (fpQ_up h.q h.b0)⟩,
    fun L hL hn => ⟨fpQ_not_d hn hL o, k.block L hL hn⟩⟩
theorem PlS.rowW (h : PlS w0 w b vw vd vW vD wq dq wl dl) (hg : w.grownBy w' vW.ownBlock) (hr : TailRow w' w0.heap.size 29 3 vW' wl'.length (chgsL wl')) (ho : ∀ k, vW'.ownBlock = some k → vW.ownBlock = some k ∨ w.heap.size ≤ k) : PlS w0 w' b vw vd vW' vD wq dq wl' dl := by
  have hk : KpF (fun k => vW.ownBlock = some k) w w' := KpF.of_grown hg (fun k hk => hk)
  refine ⟨h.q.kept hk (fun e => h.nW b e (.inl rfl)) (fun k hk e => h.nW k e (.inr (.inl hk))) (fun k hk e => h.nW k e (.inr (.inr hk))), hr, owns_kpf h.wD hk (fun k h1 h2 => h.nn k h2 h1), fun k h1 h2 => ?_, h.nD, fun k h1 h2 => ?_, h.b0, grown_kpf h.ext hk (fun k hk => (h.wW.lt k hk).1)⟩
  · rcases ho k h1 with e | e
    · exact h.nW k e h2
    · have := (h.q.lt k h2).2; omega
  · rcases ho k h1 with e | e
    · exact h.nn k e h2
    · have := (h.wD.lt k h2).2; omega
theorem PlS.rowD (h : PlS w0 w b vw vd vW vD wq dq wl dl) (hg : w.grownBy w' vD.ownBlock) (hr : w'.ownsRow w0.heap.size 32 3 vD' dl'.length (chgsL dl')) (ho : ∀ k, vD'.ownBlock = some k → vD.ownBlock = some k ∨ w.heap.size ≤ k) : PlS w0 w' b vw vd vW vD' wq dq wl dl' := by
  have hk : KpF (fun k => vD.ownBlock = some k) w w' := KpF.of_grown hg (fun k hk => hk)
  refine ⟨h.q.kept hk (fun e => h.nD b e (.inl rfl)) (fun k hk e => h.nD k e (.inr (.inl hk))) (fun k hk e => h.nD k e (.inr (.inr hk))), h.wW.kpf hk (fun k h1 h2 => h.nn k h1 h2), hr, h.nW, fun k h1 h2 => ?_, fun k h1 h2 => ?_, h.b0, grown_kpf h.ext hk (fun k hk => (h.wD.lt k hk).1)⟩
  · rcases ho k h1 with e | e
    · exact h.nD k e h2
    · have := (h.q.lt k h2).2; omega
  · rcases ho k h2 with e | e
    · exact h.nn k h1 e
    · have := (h.wW.lt k h1).2; omega
theorem PlS.cutW (h : PlS w0 w b vw vd vW vD wq dq wl dl) (hr : TailRow w w0.heap.size 29 3 vW' wl'.length (chgsL wl')) (ho : ∀ k, vW'.ownBlock = some k → vW.ownBlock = some k) : PlS w0 w b vw vd vW' vD wq dq wl' dl :=
  ⟨h.q, hr, h.wD, fun k hk => h.nW k (ho k hk), h.nD, fun k h1 h2 => h.nn k (ho k h1) h2, h.b0, h.ext⟩
theorem PlS.nilW (h : PlS w0 w b vw vd vW vD wq dq wl dl) : PlS w0 w b vw vd (.slice none 0 0) vD wq dq [] dl :=
  h.cutW (TailRow.nil _ _ _ _) (fun k hk => by simp [Value.ownBlock] at hk)
end
theorem tri_take {row : List Chg} {j : Nat} {c : Chg} (hj : j < row.length) (hc : row.getD j noChg = c) : row.take (j + 1) = row.take j ++ [c] := by
  rw [List.take_add_one, List.getElem?_eq_getElem hj]
  rw [List.getD_eq_getElem?_getD, List.getElem?_eq_getElem hj] at hc
  have hc2 : row[j] = c := hc
  rw [hc2]
  rfl

set_option maxHeartbeats 3200000 in
theorem queuePlays_any (a : Option Addr) (len cap : Nat) (K : Nat → Int) (C D : Nat → Chg) (w : World) (h : Acts20 w a len K C D) :
    Calls Try.prog 3 #[.slice a len cap] w fun e w' => e = .returned (.bool true) ∧ w.grownBy w' none := by
  have HH := Lib.hid h
  have hmax := h.1
  clear h
  by_cases hbig : (200 : Int) < len
  · go_enter Try.func3, Try.ntmps3
    go_wp2_with (go_at_call 5; refine (fix20 _).mono ?_; rintro e w2 ⟨rfl, hE2⟩)
    go_ret
    exact ⟨rfl, hE2⟩
  · go_enter Try.func3, Try.ntmps3
    go_wp2_with (first
      | (go_at_call 5; refine (fix20 _).mono ?_; rintro e w2 ⟨rfl, hE2⟩; have HE2 := Lib.hid hE2; clear hE2)
      | (go_at_call 6; refine (new20 _).mono ?_; rintro e w3 ⟨b, rfl, hA3, hb0, hE3⟩; have S3 := Lib.hid (show PlS w2 w3 b (.slice none 0 0) (.slice none 0 0) (.slice none 0 0) (.slice none 0 0) [] [] [] [] from ⟨hA3, TailRow.nil _ _ _ _, ⟨by simp [chgsL], .inl ⟨rfl, rfl⟩⟩, fun k hk => by simp [Value.ownBlock] at hk, fun k hk => by simp [Value.ownBlock] at hk, Ne2.nil _, hb0, hE3⟩); clear hA3 hb0 hE3))
    go_loopw [4, 5, 21] (fun r dd i wr => ∃ (k : Nat) (wl dl : List Chg) (vW vD vw vd : Value), k ≤ len ∧ r = vW ∧ dd = vD ∧ i = .int .i64 k ∧ PlS w2 wr b vw vd vW vD wl dl wl dl ∧ dl.length ≤ k) (fun _ _ i _ => len - (intOf i).toNat)
    case atStart => exact ⟨0, [], [], _, _, _, _, by omega, rfl, rfl, rfl, S3.out, by simp⟩
    case round =>
      obtain ⟨k, wl, dl, vW, vD, vw, vd, hk, rfl, rfl, rfl, hS, hdl⟩ := hrel
      obtain ⟨wo, rfl⟩ : ∃ wo : World, wo = wr := ⟨_, rfl⟩
      by_cases hlt : k < len
      · obtain ⟨⟨ab, ao, rfl, hr, _⟩, hk8⟩ := HH.out.2 k hlt
        obtain ⟨c, hc⟩ : ∃ c, C k = c := ⟨_, rfl⟩
        obtain ⟨d, hd⟩ : ∃ d, D k = d := ⟨_, rfl⟩
        obtain ⟨k8, hk8e⟩ : ∃ x, K k = x := ⟨_, rfl⟩
        rw [hc, hd, hk8e] at hr
        rw [hk8e] at hk8
        have hr1 : wo.rangeAt ab (ao + k * 7) (actQ k8 c d).toList := fun j u hj => (ext_trans HE2.out hS.ext).cell (hr j u hj) (by simp)
        have hBa := Blk.new wo 34 #[.int .u8 0, .int .i64 0, .int .i64 0, .string ⟨#[]⟩, .int .i64 0, .int .i64 0, .string ⟨#[]⟩]
        have HS := Lib.hid hS
        have HDL := Lib.hid (And.intro hdl hbig)
        obtain ⟨h0, h255⟩ := hk8
        obtain ⟨L, hL⟩ : ∃ z, wo.heap.size = z := ⟨_, rfl⟩
        rw [hL] at hBa
        have HL := Lib.hid hL
        clear hr hc hd hk8e hS hdl
        go_upto_block 2 with (first
          | (refine actq_load rfl _ rfl rfl hr1 ?_)
          | (refine actq_store _ _ rfl rfl rfl hBa rfl rfl ?_; intro w4 hb4 hg4 hs4; have hE4 : wo.grownBy w4 none := grown_past13 (World.grownBy_alloc wo _ none) hg4 (by have := HL.out; omega); have HS4 := Lib.hid (HS.out.next hE4); have c0 := (hb4.cell 0).trans (show (actQ k8 c d)[0]? = some (.int .u8 k8) from rfl); clear hBa hg4 hs4 hE4))
        clear hL hr1
        have HSL := Lib.hid (show (∀ x, fpQ b vw vd x → x < L) ∧ L < w4.heap.size ∧ w2.heap.size ≤ L from ⟨fun x hx => by have := (HS.out.q.lt x hx).2; have := HL.out; omega, hb4.lt, by have h1 := HS.out.ext.size; have := HL.out; omega⟩)
        have SUB := fun wx vwx vdx (hx : QS wx b vwx vdx wl dl) => submit20 hx c
        have CHK := fun wx => check20_any c.pl c.kd c.dt wx
        have RGT := fun wx => right20 c.pl c.kd c.dt wx
        obtain ⟨so, sc, hvW⟩ := HS4.out.wW.form20
        obtain ⟨so2, sc2, hvD⟩ := owns_shape13 HS4.out.wD
        obtain ⟨n, hn⟩ : ∃ n, wl.length = n := ⟨_, rfl⟩
        obtain ⟨nd, hnd⟩ : ∃ n, dl.length = n := ⟨_, rfl⟩
        rw [hn] at hvW
        rw [hnd] at hvD
        have HN := Lib.hid (And.intro hn hnd)
        subst hvW hvD
        clear hn hnd
        go_cut [4, 5] (fun r dd wx => ∃ (wl2 dl2 : List Chg) (vW2 vD2 vw2 vd2 : Value), r = vW2 ∧ dd = vD2 ∧ PlS w2 wx b vw2 vd2 vW2 vD2 wl2 dl2 wl2 dl2 ∧ dl2.length ≤ k + 1)
        case first =>
          by_cases m0 : k8 % 4 = 0
          · have b0 : (k8 % 4 == 0) = true := by simpa using m0
            obtain ⟨ck, hck⟩ : ∃ z, chkQ c.pl c.kd c.dt = z := ⟨_, rfl⟩
            rw [hck] at CHK
            obtain ⟨er, her⟩ : ∃ z, subE wl c = z := ⟨_, rfl⟩
            rw [her, chgV_is] at SUB
            by_cases hz : ck = 0
            · have e1 : decide (chkQ c.pl c.kd c.dt = 0) = true := decide_eq_true (hck.trans hz)
              rw [e1] at RGT
              have b1 : (ck == 0) = true := by simpa using hz
              by_cases h8 : n = 8
              · have e2 : er = 8 := by rw [← her]; unfold subE; rw [hck, if_neg (by simpa using hz), HN.out.1, if_pos h8]
                have e3 : subR wl c = wl := by unfold subR; rw [her, e2, if_neg (by decide)]
                have b2 : (er != 8) = false := by simp [e2]
                have b3 : ((n : Int) == 8) = true := by simp [h8]
                rw [e3] at SUB
                clear m0 hck her hz e1 h8 e2 e3
                go_upto_region 19 with (first
                  | (refine cmd_load rfl _ rfl rfl (Blk.range hb4 1 3 rfl) ?_)
                  | (go_at_call 7; refine (RGT _).mono ?_; rintro e w5 ⟨rfl, hE5⟩; have HS5 := Lib.hid (HS4.out.next hE5); have hb5 := hb4.ext hE5; clear hE5 hb4))
                have hP0 : Blk w5.drew L 34 (actQ k8 c d) := Blk.ext hb5 (Ext.drew w5)
                have HSd := Lib.hid (HS5.out.next (Ext.drew w5))
                clear hb5
                refine region_line [(0, true), (1, true), (2, true), (4, true), (3, false), (5, true), (6, true), (7, true), (8, true), (11, true), (12, true), (9, false), (10, true), (13, false), (14, true), (15, true)] (fun x => Blk x L 34 (actQ k8 c d)) (by kernel_rfl) (by kernel_rfl) (fun _ _ _ d _ h => by cases d <;> exact h) hP0 ?_
                iterate 2 (refine line_read (a' := ?_) rfl (by kernel_rfl) (by kernel_rfl) hP0 (fun y hy Kx hKx => ?_) ?_; rotate_left; · clear hy; go_wp2; exact hKx)
                (refine line_read (a' := ?_) rfl (by kernel_rfl) (by kernel_rfl) hP0 (fun y hy Kx hKx => ?_) ?_; rotate_left; · refine cmd_load rfl _ rfl rfl (Blk.range hy 1 3 rfl) ?_; clear hy; go_wp2; exact hKx)
                (refine line_read (a' := ?_) rfl (by kernel_rfl) (by kernel_rfl) hP0 (fun y hy Kx hKx => ?_) ?_; rotate_left; · clear hy; go_wp2; exact hKx)
                refine line_act (by rfl) (fun Kx hKx => ?_)
                go_wp2_with (go_at_call 8; refine (SUB _ _ _ HSd.out.q).mono ?_; rintro e w6 ⟨rfl, hQ6⟩)
                obtain ⟨vw6, hS6, hT6⟩ := HSd.out.turnW hQ6
                have hn6 : ¬ fpQ b vw vd L := fun e => Nat.lt_irrefl _ (HSL.out.1 _ e)
                have hP6 : Blk w6 L 34 (actQ k8 c d) := (hT6 L hP0.lt hn6).2.trans hP0
                have HS6 := Lib.hid hS6
                refine hKx _ _ _ hP6 (fun y hy => hy) ?_
                clear hKx Kx hQ6 hS6 hT6 hn6
                iterate 3 (refine line_read (a' := ?_) rfl (by kernel_rfl) (by kernel_rfl) hP6 (fun y hy Kx hKx => ?_) ?_; rotate_left; · clear hy; go_wp2; exact hKx)
                (refine line_read (a' := ?_) rfl (by kernel_rfl) (by kernel_rfl) hP6 (fun y hy Kx hKx => ?_) ?_; rotate_left; · refine cmd_load rfl _ rfl rfl (Blk.range hy 1 3 rfl) ?_; clear hy; go_wp2; exact hKx)
                (refine line_read (a' := ?_) rfl (by kernel_rfl) (by kernel_rfl) hP6 (fun y hy Kx hKx => ?_) ?_; rotate_left; · clear hy; go_wp2; exact hKx)
                (refine line_read (a' := ?_) rfl (by kernel_rfl) (by kernel_rfl) hP6 (fun y hy Kx hKx => ?_) ?_; rotate_left; · refine cmd_load rfl _ rfl rfl (Blk.range hy 1 3 rfl) ?_; clear hy; go_wp2; exact hKx)
                refine line_act (by rfl) (fun Kx hKx => ?_)
                go_wp2_with (go_at_call 9; refine (CHK _).mono ?_; rintro e w7 ⟨rfl, hE7⟩)
                have hP7 : Blk w7 L 34 (actQ k8 c d) := hP6.ext hE7
                have HS7 := Lib.hid (HS6.out.next hE7)
                refine hKx _ _ _ hP7 (fun y hy => hy) ?_
                clear hKx Kx hE7
                (refine line_read (a' := ?_) rfl (by kernel_rfl) (by kernel_rfl) hP7 (fun y hy Kx hKx => ?_) ?_; rotate_left; · clear hy; go_wp2; exact hKx)
                refine line_act (by rfl) (fun Kx hKx => ?_)
                go_wp2_with (go_at_call 7; refine (RGT _).mono ?_; rintro e w8 ⟨rfl, hE8⟩)
                have hP8 : Blk w8 L 34 (actQ k8 c d) := hP7.ext hE8
                have HS8 := Lib.hid (HS7.out.next hE8)
                refine hKx _ _ _ hP8 (fun y hy => hy) ?_
                clear hKx Kx hE8
                iterate 2 (refine line_read (a' := ?_) rfl (by kernel_rfl) (by kernel_rfl) hP8 (fun y hy Kx hKx => ?_) ?_; rotate_left; · clear hy; go_wp2; exact hKx)
                refine line_end ?_
                go_wp2
                go_meet
                exact ⟨wl, dl, _, _, _, _, rfl, rfl, HS8.out, by have := HDL.out.1; omega⟩
              · have e2 : er = 0 := by rw [← her]; unfold subE; rw [hck, if_neg (by simpa using hz), HN.out.1, if_neg h8]
                have e3 : subR wl c = wl ++ [c] := by unfold subR; rw [her, e2, if_pos rfl]
                have b2 : (er != 0) = false := by simp [e2]
                have b3 : ((n : Int) == 8) = false := by simpa using (by omega : ¬ (n : Int) = 8)
                rw [e3] at SUB
                have hn8 : n < 8 := by have := HS4.out.q.wl; have := HN.out.1; omega
                obtain ⟨i0, hi, hz0, hz1, hz2⟩ := info_parts Try.infoCmd
                clear m0 hck her hz e1 h8 e2 e3
                go_upto_region 18 with (first
                  | (refine cmd_load rfl _ rfl rfl (Blk.range hb4 1 3 rfl) ?_)
                  | (go_at_call 7; refine (RGT _).mono ?_; rintro e w5 ⟨rfl, hE5⟩; have HS5 := Lib.hid (HS4.out.next hE5); have hb5 := hb4.ext hE5; clear hE5 hb4))
                have hE6 := World.grownBy_alloc w5 (.cells #[.int .i64 c.pl, .int .i64 c.kd, .string c.dt] 29) none
                have HTR := HS5.out.wW.kept hE6 (by simp)
                rw [HN.out.1] at HTR
                have HHT := Lib.hid HTR
                have HS6 := Lib.hid (HS5.out.next hE6)
                have hb6 := hb5.ext hE6
                clear hE6 HTR
                go_upto_region 19 with (first
                  | (refine cmd_load rfl _ rfl rfl (Blk.range hb5 1 3 rfl) ?_)
                  | (at_builtin; refine append_tail rfl _ _ 26 rfl w2.heap.size 29 i0 _ 3 32 Try.underlying26 hi hz0 hz1 hz2 rfl (by decide) rfl HHT.out ⟨w5.heap.size, 0, none⟩ 1 (chgC c).toList rfl rfl (tri_new w5 _ c) (by simp [chgC, Value.oneCell']) (by unfold maxLen; omega) (by omega) (by have := HS6.out.ext.size; exact this) ?_; intro v7 w7 hr7 hg7 ho7; have HS7 := Lib.hid (HS6.out.rowW hg7 (by rw [tri_snoc, List.length_append, HN.out.1]; exact hr7) ho7); have hb7 : Blk w7 L 34 (actQ k8 c d) := hb6.kept hg7 (fun e => by have h1 := (HS4.out.wW.lt L e.symm).2; have h2 := HS.out.wW.lt L e.symm; have := HL.out; omega); obtain ⟨so7, sc7, rfl⟩ := hr7.form20; clear hr7 hg7 ho7 hb6 hb5))
                have hb5 := hb7
                clear hb7
                have hP0 : Blk w7.drew L 34 (actQ k8 c d) := Blk.ext hb5 (Ext.drew w7)
                have HSd := Lib.hid (HS7.out.next (Ext.drew w7))
                clear hb5
                refine region_line [(0, true), (1, true), (2, true), (4, true), (3, false), (5, true), (6, true), (7, true), (8, true), (11, true), (12, true), (9, false), (10, true), (13, false), (14, true), (15, true)] (fun x => Blk x L 34 (actQ k8 c d)) (by kernel_rfl) (by kernel_rfl) (fun _ _ _ d _ h => by cases d <;> exact h) hP0 ?_
                iterate 2 (refine line_read (a' := ?_) rfl (by kernel_rfl) (by kernel_rfl) hP0 (fun y hy Kx hKx => ?_) ?_; rotate_left; · clear hy; go_wp2; exact hKx)
                (refine line_read (a' := ?_) rfl (by kernel_rfl) (by kernel_rfl) hP0 (fun y hy Kx hKx => ?_) ?_; rotate_left; · refine cmd_load rfl _ rfl rfl (Blk.range hy 1 3 rfl) ?_; clear hy; go_wp2; exact hKx)
                (refine line_read (a' := ?_) rfl (by kernel_rfl) (by kernel_rfl) hP0 (fun y hy Kx hKx => ?_) ?_; rotate_left; · clear hy; go_wp2; exact hKx)
                refine line_act (by rfl) (fun Kx hKx => ?_)
                go_wp2_with (go_at_call 8; refine (SUB _ _ _ HSd.out.q).mono ?_; rintro e w6 ⟨rfl, hQ6⟩)
                obtain ⟨vw6, hS6, hT6⟩ := HSd.out.turnW hQ6
                have hn6 : ¬ fpQ b vw vd L := fun e => Nat.lt_irrefl _ (HSL.out.1 _ e)
                have hP6 : Blk w6 L 34 (actQ k8 c d) := (hT6 L hP0.lt hn6).2.trans hP0
                have HS6 := Lib.hid hS6
                refine hKx _ _ _ hP6 (fun y hy => hy) ?_
                clear hKx Kx hQ6 hS6 hT6 hn6
                iterate 3 (refine line_read (a' := ?_) rfl (by kernel_rfl) (by kernel_rfl) hP6 (fun y hy Kx hKx => ?_) ?_; rotate_left; · clear hy; go_wp2; exact hKx)
                (refine line_read (a' := ?_) rfl (by kernel_rfl) (by kernel_rfl) hP6 (fun y hy Kx hKx => ?_) ?_; rotate_left; · refine cmd_load rfl _ rfl rfl (Blk.range hy 1 3 rfl) ?_; clear hy; go_wp2; exact hKx)
                (refine line_read (a' := ?_) rfl (by kernel_rfl) (by kernel_rfl) hP6 (fun y hy Kx hKx => ?_) ?_; rotate_left; · clear hy; go_wp2; exact hKx)
                (refine line_read (a' := ?_) rfl (by kernel_rfl) (by kernel_rfl) hP6 (fun y hy Kx hKx => ?_) ?_; rotate_left; · refine cmd_load rfl _ rfl rfl (Blk.range hy 1 3 rfl) ?_; clear hy; go_wp2; exact hKx)
                refine line_act (by rfl) (fun Kx hKx => ?_)
                go_wp2_with (go_at_call 9; refine (CHK _).mono ?_; rintro e w7 ⟨rfl, hE7⟩)
                have hP7 : Blk w7 L 34 (actQ k8 c d) := hP6.ext hE7
                have HS7 := Lib.hid (HS6.out.next hE7)
                refine hKx _ _ _ hP7 (fun y hy => hy) ?_
                clear hKx Kx hE7
                (refine line_read (a' := ?_) rfl (by kernel_rfl) (by kernel_rfl) hP7 (fun y hy Kx hKx => ?_) ?_; rotate_left; · clear hy; go_wp2; exact hKx)
                refine line_act (by rfl) (fun Kx hKx => ?_)
                go_wp2_with (go_at_call 7; refine (RGT _).mono ?_; rintro e w8 ⟨rfl, hE8⟩)
                have hP8 : Blk w8 L 34 (actQ k8 c d) := hP7.ext hE8
                have HS8 := Lib.hid (HS7.out.next hE8)
                refine hKx _ _ _ hP8 (fun y hy => hy) ?_
                clear hKx Kx hE8
                iterate 2 (refine line_read (a' := ?_) rfl (by kernel_rfl) (by kernel_rfl) hP8 (fun y hy Kx hKx => ?_) ?_; rotate_left; · clear hy; go_wp2; exact hKx)
                refine line_end ?_
                go_wp2
                go_meet
                exact ⟨wl ++ [c], dl, _, _, _, _, rfl, rfl, HS8.out, by have := HDL.out.1; omega⟩
            · have e1 : decide (chkQ c.pl c.kd c.dt = 0) = false := decide_eq_false (by rw [hck]; exact hz)
              rw [e1] at RGT
              have b1 : (ck == 0) = false := by simpa using hz
              have e2 : er = ck := by rw [← her]; unfold subE; rw [hck, if_pos (by simpa using hz)]
              have e4 : ck = 1 := by
                unfold chkQ at hck
                split at hck
                · exact hck.symm
                · exact absurd hck.symm hz
              have e3 : subR wl c = wl := by unfold subR; rw [her, e2, if_neg hz]
              have b2 : (er != 1) = false := by simp [e2, e4]
              rw [e3] at SUB
              clear m0 hck her hz e1 e2 e3 e4
              go_upto_region 19 with (first
                | (refine cmd_load rfl _ rfl rfl (Blk.range hb4 1 3 rfl) ?_)
                | (go_at_call 7; refine (RGT _).mono ?_; rintro e w5 ⟨rfl, hE5⟩; have HS5 := Lib.hid (HS4.out.next hE5); have hb5 := hb4.ext hE5; clear hE5 hb4))
              have hP0 : Blk w5.drew L 34 (actQ k8 c d) := Blk.ext hb5 (Ext.drew w5)
              have HSd := Lib.hid (HS5.out.next (Ext.drew w5))
              clear hb5
              refine region_line [(0, true), (1, true), (2, true), (4, true), (3, false), (5, true), (6, true), (7, true), (8, true), (11, true), (12, true), (9, false), (10, true), (13, false), (14, true), (15, true)] (fun x => Blk x L 34 (actQ k8 c d)) (by kernel_rfl) (by kernel_rfl) (fun _ _ _ d _ h => by cases d <;> exact h) hP0 ?_
              iterate 2 (refine line_read (a' := ?_) rfl (by kernel_rfl) (by kernel_rfl) hP0 (fun y hy Kx hKx => ?_) ?_; rotate_left; · clear hy; go_wp2; exact hKx)
              (refine line_read (a' := ?_) rfl (by kernel_rfl) (by kernel_rfl) hP0 (fun y hy Kx hKx => ?_) ?_; rotate_left; · refine cmd_load rfl _ rfl rfl (Blk.range hy 1 3 rfl) ?_; clear hy; go_wp2; exact hKx)
              (refine line_read (a' := ?_) rfl (by kernel_rfl) (by kernel_rfl) hP0 (fun y hy Kx hKx => ?_) ?_; rotate_left; · clear hy; go_wp2; exact hKx)
              refine line_act (by rfl) (fun Kx hKx => ?_)
              go_wp2_with (go_at_call 8; refine (SUB _ _ _ HSd.out.q).mono ?_; rintro e w6 ⟨rfl, hQ6⟩)
              obtain ⟨vw6, hS6, hT6⟩ := HSd.out.turnW hQ6
              have hn6 : ¬ fpQ b vw vd L := fun e => Nat.lt_irrefl _ (HSL.out.1 _ e)
              have hP6 : Blk w6 L 34 (actQ k8 c d) := (hT6 L hP0.lt hn6).2.trans hP0
              have HS6 := Lib.hid hS6
              refine hKx _ _ _ hP6 (fun y hy => hy) ?_
              clear hKx Kx hQ6 hS6 hT6 hn6
              iterate 3 (refine line_read (a' := ?_) rfl (by kernel_rfl) (by kernel_rfl) hP6 (fun y hy Kx hKx => ?_) ?_; rotate_left; · clear hy; go_wp2; exact hKx)
              (refine line_read (a' := ?_) rfl (by kernel_rfl) (by kernel_rfl) hP6 (fun y hy Kx hKx => ?_) ?_; rotate_left; · refine cmd_load rfl _ rfl rfl (Blk.range hy 1 3 rfl) ?_; clear hy; go_wp2; exact hKx)
              (refine line_read (a' := ?_) rfl (by kernel_rfl) (by kernel_rfl) hP6 (fun y hy Kx hKx => ?_) ?_; rotate_left; · clear hy; go_wp2; exact hKx)
              (refine line_read (a' := ?_) rfl (by kernel_rfl) (by kernel_rfl) hP6 (fun y hy Kx hKx => ?_) ?_; rotate_left; · refine cmd_load rfl _ rfl rfl (Blk.range hy 1 3 rfl) ?_; clear hy; go_wp2; exact hKx)
              refine line_act (by rfl) (fun Kx hKx => ?_)
              go_wp2_with (go_at_call 9; refine (CHK _).mono ?_; rintro e w7 ⟨rfl, hE7⟩)
              have hP7 : Blk w7 L 34 (actQ k8 c d) := hP6.ext hE7
              have HS7 := Lib.hid (HS6.out.next hE7)
              refine hKx _ _ _ hP7 (fun y hy => hy) ?_
              clear hKx Kx hE7
              (refine line_read (a' := ?_) rfl (by kernel_rfl) (by kernel_rfl) hP7 (fun y hy Kx hKx => ?_) ?_; rotate_left; · clear hy; go_wp2; exact hKx)
              refine line_act (by rfl) (fun Kx hKx => ?_)
              go_wp2_with (go_at_call 7; refine (RGT _).mono ?_; rintro e w8 ⟨rfl, hE8⟩)
              have hP8 : Blk w8 L 34 (actQ k8 c d) := hP7.ext hE8
              have HS8 := Lib.hid (HS7.out.next hE8)
              refine hKx _ _ _ hP8 (fun y hy => hy) ?_
              clear hKx Kx hE8
              iterate 2 (refine line_read (a' := ?_) rfl (by kernel_rfl) (by kernel_rfl) hP8 (fun y hy Kx hKx => ?_) ?_; rotate_left; · clear hy; go_wp2; exact hKx)
              refine line_end ?_
              go_wp2
              go_meet
              exact ⟨wl, dl, _, _, _, _, rfl, rfl, HS8.out, by have := HDL.out.1; omega⟩
          by_cases m1 : k8 % 4 = 1
          · have b0 : (k8 % 4 == 0) = false := by simpa using m0
            have b1 : (k8 % 4 == 1) = true := by simpa using m1
            have NXT := fun wx vwx vdx (hx : QS wx b vwx vdx wl dl) => next20 hx
            clear SUB CHK RGT m0 m1
            have hsh := HS4.out.wW.shape
            rw [HN.out.1] at hsh
            by_cases hpos : n = 0
            · have hwl : wl = [] := List.eq_nil_of_length_eq_zero (by rw [HN.out.1, hpos])
              have hpb : decide (0 < n) = false := by simp [hpos]
              rw [hwl, show nextF [] = (noChg, false) from rfl, show ([] : List Chg).drop 1 = [] from rfl, chgV_is] at NXT
              have HP := Lib.hid (And.intro hpos hwl)
              clear hpos
              go_upto_region 23 with (first
                | (go_at_call 10; refine (NXT _ _ _ (by rw [← hwl]; exact HS4.out.q)).mono ?_; rintro e w5 ⟨rfl, hQ5⟩; obtain ⟨vw5, hS5, _⟩ := HS4.out.turnW hQ5; have HS5 := Lib.hid hS5; have hB5 := Blk.new w5 29 #[.int .i64 0, .int .i64 0, .string ⟨#[]⟩]; clear hQ5 hS5 hb4)
                | (refine cmd_store (c := noChg) _ _ rfl rfl rfl hB5 rfl rfl ?_; intro w6 hb6 hg6 hs6; have HS6 := Lib.hid (HS5.out.next (grown_past13 (World.grownBy_alloc w5 _ none) hg6 (Nat.le_refl _))); clear hB5 hg6 hs6))
              clear NXT hwl
              refine region_line [(0, true), (1, true), (2, true), (3, true), (4, true), (5, true), (6, true), (7, true), (8, true), (9, true), (10, true), (11, true), (12, true), (13, true), (14, true)] (fun _ => True) (by kernel_rfl) (by kernel_rfl) (fun _ _ _ d _ h => by cases d <;> exact h) trivial ?_
              iterate 8 (refine line_read (a' := ?_) rfl (by kernel_rfl) (by kernel_rfl) trivial (fun y hy Kx hKx => ?_) ?_; rotate_left; · clear hy; go_wp2; exact hKx)
              iterate 5 (refine line_read (a' := ?_) rfl (by kernel_rfl) (by kernel_rfl) trivial (fun y hy Kx hKx => ?_) ?_; rotate_left; · clear hy; refine wpList_pass (a' := ?_) (by kernel_rfl) ?_ ?_; rotate_left; (simp only [Act.put, List.getElem_toArray, List.getElem_cons_succ, List.getElem_cons_zero, List.setIfInBounds_toArray, List.set_cons_succ, List.set_cons_zero]; rfl); exact hKx)
              iterate 2 (refine line_read (a' := ?_) rfl (by kernel_rfl) (by kernel_rfl) trivial (fun y hy Kx hKx => ?_) ?_; rotate_left; · clear hy; go_wp2; exact hKx)
              refine line_end ?_
              have HSd := Lib.hid (HS6.out.next (Ext.drew w6))
              rcases hsh with ⟨hv, h00⟩ | ⟨g, off, sc', hv, hle, hmx, _, _, _⟩
              · simp only [Value.slice.injEq] at hv
                obtain ⟨rfl, rfl, rfl⟩ := hv
                clear h00
                go_wp2
                go_meet
                exact ⟨[], dl, _, _, _, _, rfl, rfl, HSd.out.cutW (TailRow.nil _ _ _ _) (fun k hk => by simp [Value.ownBlock] at hk), by have := HDL.out.1; omega⟩
              · simp only [Value.slice.injEq] at hv
                obtain ⟨rfl, _, rfl⟩ := hv
                have hn0 := HP.out.1
                subst hn0
                go_wp2
                go_meet
                exact ⟨[], dl, _, _, _, _, rfl, rfl, HSd.out.cutW (by have h := HSd.out.wW; rw [HP.out.2] at h; exact h) (fun k hk => hk), by have := HDL.out.1; omega⟩
            · obtain ⟨c1, r1, hrow⟩ : ∃ c1 r1, wl = c1 :: r1 := by
                cases hq : wl with
                | nil => exact absurd (by rw [← HN.out.1, hq]; rfl) hpos
                | cons c1 r1 => exact ⟨c1, r1, rfl⟩
              have hpb : decide (0 < n) = true := by simpa using (by omega : 0 < n)
              rw [hrow, show nextF (c1 :: r1) = (c1, true) from rfl, show (c1 :: r1).drop 1 = r1 from rfl, chgV_is] at NXT
              obtain ⟨g, off, hso, hle, hmx⟩ : ∃ g off, so = some ⟨g, off, none⟩ ∧ n ≤ sc ∧ sc ≤ maxLen := by
                rcases hsh with ⟨_, h00⟩ | ⟨g, off, sc', hv, hle, hmx, _, _, _⟩
                · exact absurd h00 hpos
                · simp only [Value.slice.injEq] at hv
                  exact ⟨g, off, hv.1, by omega, by omega⟩
              subst hso
              have RNG := fun wx vwx vdx vDx wqx dqx (hB : PlS w2 wx b vwx vdx (.slice (some ⟨g, off, none⟩) n sc) vDx wqx dqx wl dl) => (show wx.rangeAt g off (chgC c1).toList from by
                obtain ⟨g', off', e1, e2⟩ := tri_row hB.wW (j := 0) (cj := c1) (by rw [HN.out.1]; omega) (by rw [hrow]; rfl)
                simp only [Option.some.injEq, Addr.mk.injEq, and_true] at e1
                obtain ⟨rfl, rfl⟩ := e1
                simpa using e2)
              have HP := Lib.hid (And.intro hpos hrow)
              have hp1 : 0 < n := by omega
              clear hpos hsh
              go_upto_region 23 with (first
                | (go_at_call 10; refine (NXT _ _ _ (by rw [← hrow]; exact HS4.out.q)).mono ?_; rintro e w5 ⟨rfl, hQ5⟩; obtain ⟨vw5, hS5, _⟩ := HS4.out.turnW hQ5; have HS5 := Lib.hid hS5; have hB5 := Blk.new w5 29 #[.int .i64 0, .int .i64 0, .string ⟨#[]⟩]; clear hQ5 hS5 hb4)
                | (refine cmd_store (c := c1) _ _ rfl rfl rfl hB5 rfl rfl ?_; intro w6 hb6 hg6 hs6; have HS6 := Lib.hid (HS5.out.next (grown_past13 (World.grownBy_alloc w5 _ none) hg6 (Nat.le_refl _))); clear hB5 hg6 hs6))
              have HSd := Lib.hid (HS6.out.next (Ext.drew w6))
              have hrg6 := RNG _ _ _ _ _ _ HSd.out
              clear NXT hrow RNG
              have hP : Blk w6.drew w5.heap.size 29 (chgC c1) ∧ w6.drew.rangeAt g off (chgC c1).toList := ⟨hb6.ext (Ext.drew w6), hrg6⟩
              refine region_line [(0, true), (1, true), (2, true), (3, true), (4, true), (5, true), (6, true), (7, true), (8, true), (9, true), (10, true), (11, true), (12, true), (13, true), (14, true)] (fun x => Blk x w5.heap.size 29 (chgC c1) ∧ x.rangeAt g off (chgC c1).toList) (by kernel_rfl) (by kernel_rfl) (fun _ _ _ d _ h => by cases d <;> exact h) hP ?_
              iterate 8 (refine line_read (a' := ?_) rfl (by kernel_rfl) (by kernel_rfl) hP (fun y hy Kx hKx => ?_) ?_; rotate_left; · clear hy; go_wp2; exact hKx)
              iterate 7 (refine line_read (a' := ?_) rfl (by kernel_rfl) (by kernel_rfl) hP (fun y hy Kx hKx => ?_) ?_; rotate_left; · obtain ⟨hy1, hy2⟩ := hy; go_wp2_with (first | (refine cmd_load rfl _ rfl rfl hy2 ?_) | (refine cmd_load rfl _ rfl rfl (hy1.range 0 3 rfl) ?_)); exact hKx)
              refine line_end ?_
              clear hP hrg6 hb6
              obtain ⟨mm, rfl⟩ : ∃ m, n = m + 1 := ⟨n - 1, by omega⟩
              have h6 := HSd.out.wW
              rw [HN.out.1] at h6
              have h6 := h6.cut
              have hdl : wl.drop 1 = r1 := by rw [HP.out.2]; rfl
              have h7 : chgsL r1 = (chgsL wl).drop 3 := by rw [← hdl]; exact tri_drop wl 1
              have h8 : r1.length = mm := by rw [← hdl, List.length_drop, HN.out.1]; rfl
              rw [← h7] at h6
              have H6 := Lib.hid (And.intro h6 h8)
              clear h6 h7 h8 hdl
              by_cases hsc : sc = 1
              · obtain rfl : mm = 0 := by omega
                subst hsc
                go_wp2
                go_meet
                obtain ⟨x1, x2⟩ := H6.out
                rw [if_pos trivial] at x1
                exact ⟨r1, dl, _, _, _, _, rfl, rfl, HSd.out.cutW (by rw [x2]; exact x1) (fun k hk => hk), by have := HDL.out.1; omega⟩
              · by_cases hm : mm = 0
                · subst hm
                  go_wp2
                  go_meet
                  obtain ⟨x1, x2⟩ := H6.out
                  rw [if_neg hsc] at x1
                  exact ⟨r1, dl, _, _, _, _, rfl, rfl, HSd.out.cutW (by rw [x2]; exact x1) (fun k hk => hk), by have := HDL.out.1; omega⟩
                · have hm1 : ¬ ((mm + 1 : Nat) : Int) ≤ 1 := by omega
                  go_wp2
                  go_meet
                  obtain ⟨x1, x2⟩ := H6.out
                  rw [if_neg hsc] at x1
                  exact ⟨r1, dl, _, _, _, _, rfl, rfl, HSd.out.cutW (by rw [x2]; exact x1) (fun k hk => hk), by have := HDL.out.1; omega⟩
          by_cases m2 : k8 % 4 = 2
          · have b0 : (k8 % 4 == 0) = false := by simpa using m0
            have b1 : (k8 % 4 == 1) = false := by simpa using m1
            have b2 : (k8 % 4 == 2) = true := by simpa using m2
            have DON := fun wx vwx vdx (hx : QS wx b vwx vdx wl dl) => done20 hx d (by have h1 := HDL.out.1; have h2 := HDL.out.2; omega)
            rw [chgV_is] at DON
            obtain ⟨i0, hi, hz0, hz1, hz2⟩ := info_parts Try.infoDne
            have hnd : nd ≤ 200 := by have h1 := HDL.out.1; have h2 := HDL.out.2; have := HN.out.2; omega
            clear SUB CHK RGT m0 m1 m2
            go_upto_region 28 with (first
              | (refine dne_loadC rfl _ rfl rfl (Blk.range hb4 4 3 rfl) ?_)
              | (go_at_call 11; refine (DON _ _ _ HS4.out.q).mono ?_; rintro e w5 ⟨rfl, hQ5⟩; obtain ⟨vd5, hS5, hT5⟩ := HS4.out.turnD hQ5; have HS5 := Lib.hid hS5; have hb5 : Blk w5 L 34 (actQ k8 c d) := (hT5 L hb4.lt (fun e => Nat.lt_irrefl _ (HSL.out.1 _ e))).2.trans hb4; clear hQ5 hS5 hT5 hb4))
            have hE6 := World.grownBy_alloc w5 (.cells #[.int .i64 d.pl, .int .i64 d.kd, .string d.dt] 32) none
            have HTR := HS5.out.wD.kept hE6 (Classical.em _)
            rw [HN.out.2] at HTR
            have HHT := Lib.hid HTR
            have HS6 := Lib.hid (HS5.out.next hE6)
            clear hE6 HTR DON
            go_wp2_with (first
              | (refine dne_load rfl _ rfl rfl (Blk.range hb5 4 3 rfl) ?_; clear hb5)
              | (at_builtin; refine wpList_append_own_at (w5.alloc (.cells #[.int .i64 d.pl, .int .i64 d.kd, .string d.dt] 32)) rfl _ _ 27 rfl w2.heap.size 32 i0 _ 3 32 Try.underlying27 hi hz0 hz1 hz2 rfl (by decide) _ nd _ rfl HHT.out ⟨w5.heap.size, 0, none⟩ 1 1 (chgC d).toList rfl rfl (tri_new w5 _ d) (by simp [chgC, Value.oneCell']) (by unfold maxLen; omega) (by omega) (by have := HS6.out.ext.size; exact this) ?_; intro v7 w7 hr7 hg7 _ ho7; have HS7 := Lib.hid (HS6.out.rowD hg7 (by rw [tri_snoc, List.length_append, HN.out.2]; exact hr7) (fun k hk => by rcases ho7 with e | e; exact .inl (e ▸ hk); rw [e] at hk; injection hk with hk; exact .inr (Nat.le_of_eq hk))); obtain ⟨so7, sc7, rfl⟩ := owns_shape13 hr7; clear hr7 hg7 ho7))
            go_meet
            exact ⟨wl, dl ++ [d], _, _, _, _, rfl, rfl, HS7.out, by have := HDL.out.1; rw [List.length_append]; simp; omega⟩
          · have b0 : (k8 % 4 == 0) = false := by simpa using m0
            have b1 : (k8 % 4 == 1) = false := by simpa using m1
            have b2 : (k8 % 4 == 2) = false := by simpa using m2
            have b3 : (k8 % 4 == 3) = true := by simpa using (by omega : k8 % 4 = 3)
            have CLR := fun wx vwx vdx (hx : QS wx b vwx vdx wl dl) => clear20w hx
            clear SUB CHK RGT m0 m1 m2
            go_wp2_with (go_at_call 12; refine (CLR _ _ _ HS4.out.q).mono ?_; rintro e w5 ⟨rfl, hQ5⟩; obtain ⟨vw5, hS5, _⟩ := HS4.out.turnW hQ5; have HS5 := Lib.hid hS5; clear hQ5 hS5 hb4)
            go_meet
            exact ⟨[], dl, _, _, _, _, rfl, rfl, HS5.out.nilW, by have := HDL.out.1; omega⟩
        case rest =>
          obtain ⟨wl2, dl2, vW2, vD2, vw2, vd2, rfl, rfl, hS2, hd2⟩ := hcut
          clear c0 SUB CHK RGT hb4
          have ALL := fun wx vwx vdx (hx : QS wx b vwx vdx wl2 dl2) => all20 hx (by have := HDL.out.2; omega)
          have LEN := fun wx vwx vdx (hx : QS wx b vwx vdx wl2 dl2) => len20 hx
          obtain ⟨n2, hn2⟩ : ∃ n, wl2.length = n := ⟨_, rfl⟩
          obtain ⟨nd2, hnd2⟩ : ∃ n, dl2.length = n := ⟨_, rfl⟩
          rw [hnd2] at ALL
          rw [hn2] at LEN
          obtain ⟨so3, sc3, hv3⟩ := hS2.wW.form20
          obtain ⟨so4, sc4, hv4⟩ := owns_shape13 hS2.wD
          rw [hn2] at hv3
          rw [hnd2] at hv4
          subst hv3 hv4
          have HS2 := Lib.hid hS2
          have HN2 := Lib.hid (And.intro hn2 (And.intro hnd2 hd2))
          have hnb : nd2 ≤ 1000 := by have := HDL.out.2; omega
          clear hS2 hn2 hnd2 hd2
          go_wp2_with (first
            | (go_at_call 13; refine (ALL _ _ _ HS2.out.q).mono ?_; rintro e w7 ⟨v7, rfl, hO7, hE7⟩; obtain ⟨lo, lc, rfl⟩ := owns_shape13 hO7; have HS7 := Lib.hid (HS2.out.next hE7); have HO7 := Lib.hid hO7; clear hE7 hO7)
            | (go_at_call 14; refine (LEN _ _ _ HS7.out.q).mono ?_; rintro e w8 ⟨rfl, rfl⟩))
          clear ALL LEN
          go_loopw [116] (fun i wr => ∃ j : Nat, j ≤ nd2 ∧ i = .int .i64 j ∧ PlS w2 wr b vw2 vd2 (.slice so3 n2 sc3) (.slice so4 nd2 sc4) wl2 dl2 wl2 dl2 ∧ w7.grownBy wr none) (fun i _ => nd2 - (intOf i).toNat)
          case atStart => exact ⟨0, by omega, rfl, HS7.out, Ext.refl w7⟩
          case round =>
            obtain ⟨j, hj, rfl, hSj, hOj⟩ := hrel
            by_cases hlt2 : j < nd2
            · obtain ⟨cj, hcj⟩ : ∃ c, dl2.getD j noChg = c := ⟨_, rfl⟩
              have hal := (TailRow.of_owns HO7.out).kept hOj (by simp)
              have hal2 := TailRow.of_owns hSj.wD
              obtain ⟨g, off, hso, hrg⟩ := tri_row (by rw [HN2.out.2.1]; exact hal) (by rw [HN2.out.2.1]; exact hlt2) hcj
              obtain ⟨g2, off2, hso2, hrg2⟩ := tri_row hal2 (by rw [HN2.out.2.1]; exact hlt2) hcj
              subst hso hso2
              have HSj := Lib.hid (hSj.next (Ext.drew wr))
              have HOj := Lib.hid (ext_trans hOj (Ext.drew wr))
              have hP : wr.drew.rangeAt g (off + j * 3) (chgC cj).toList ∧ wr.drew.rangeAt g2 (off2 + j * 3) (chgC cj).toList := ⟨hrg, hrg2⟩
              clear hSj hOj hal hal2 hrg hrg2 hcj
              go_upto_region 38 with fail
              refine region_line [(0, true), (1, true), (2, true), (3, true), (4, true), (5, true), (6, true), (7, true), (8, true)] (fun x => x.rangeAt g (off + j * 3) (chgC cj).toList ∧ x.rangeAt g2 (off2 + j * 3) (chgC cj).toList) (by kernel_rfl) (by kernel_rfl) (fun _ _ _ d _ h => by cases d <;> exact h) hP ?_
              iterate 9 (refine line_read (a' := ?_) rfl (by kernel_rfl) (by kernel_rfl) hP (fun y hy Kx hKx => ?_) ?_; rotate_left; · obtain ⟨hy1, hy2⟩ := hy; go_wp2_with (first | (refine dne_load rfl _ rfl rfl hy1 ?_) | (refine dne_load rfl _ rfl rfl hy2 ?_)); exact hKx)
              refine line_end ?_
              clear hP
              go_wp2
              go_roundw
              case rel => exact ⟨j + 1, by omega, by go_num, HSj.out, HOj.out⟩
              case measure => simp [intOf]; omega
            · obtain rfl : j = nd2 := by omega
              have HSj := Lib.hid hSj
              clear hSj hOj
              go_wp2
              go_roundw
              case rel => exact ⟨k + 1, wl2, dl2, _, _, _, _, by omega, rfl, rfl, by go_num, HSj.out, by rw [HN2.out.2.1]; have := HN2.out.2.2; rw [HN2.out.2.1] at this; exact this⟩
              case measure => simp [intOf]; omega
      · have HS := Lib.hid hS
        clear hS
        go_wp2
        go_ret
        exact ⟨rfl, ext_trans HE2.out HS.out.ext⟩

theorem below20 {w w' : World} (h : w.grownBy w' none) : Below w.heap.size w w' := ⟨h.os, h.tape, h.output, h.size, fun k hk => h.block k hk (by simp)⟩
theorem acts20_of {w : World} {a : Option Addr} {len cap : Nat} (h : IsRecX [.int .u8, .int .i64, .int .i64, .str, .int .i64, .int .i64, .str] w a len cap) (hs : ∀ x, a = some x → x.spot = none ∧ x.block < w.heap.size) : ∃ K C D, Acts20 w a len K C D := by
  rcases h with ⟨rfl, rfl, rfl⟩ | ⟨x, rfl, hl, hm, hz⟩
  · exact ⟨fun _ => 0, fun _ => noChg, fun _ => noChg, by omega, fun i hi => by omega⟩
  · obtain ⟨hsp, hblk⟩ := hs x rfl
    obtain ⟨b, off, sp⟩ := x
    simp only at hsp hblk
    subst hsp
    unfold maxLen at hm
    have key : ∀ i, ∃ q : Int × Chg × Chg, i < len → w.rangeAt b (off + i * 7) (actQ q.1 q.2.1 q.2.2).toList ∧ (0 ≤ q.1 ∧ q.1 ≤ 255) := by
      intro i
      by_cases hi : i < len
      · obtain ⟨v0, g0, k, rfl, hk⟩ := hz i hi 0 _ rfl
        obtain ⟨v1, g1, pl, rfl, _⟩ := hz i hi 1 _ rfl
        obtain ⟨v2, g2, kd, rfl, _⟩ := hz i hi 2 _ rfl
        obtain ⟨v3, g3, dt, rfl, _⟩ := hz i hi 3 _ rfl
        obtain ⟨v4, g4, pl2, rfl, _⟩ := hz i hi 4 _ rfl
        obtain ⟨v5, g5, kd2, rfl, _⟩ := hz i hi 5 _ rfl
        obtain ⟨v6, g6, dt2, rfl, _⟩ := hz i hi 6 _ rfl
        refine ⟨⟨k, ⟨pl, kd, dt⟩, ⟨pl2, kd2, dt2⟩⟩, fun _ => ⟨fun j u hj => ?_, ?_⟩⟩
        · rw [addr_add] at g0 g1 g2 g3 g4 g5 g6
          match j, hj with
          | 0, hj => simp [actQ] at hj; subst hj; simpa [Nat.add_assoc] using g0
          | 1, hj => simp [actQ] at hj; subst hj; simpa [Nat.add_assoc] using g1
          | 2, hj => simp [actQ] at hj; subst hj; simpa [Nat.add_assoc] using g2
          | 3, hj => simp [actQ] at hj; subst hj; simpa [Nat.add_assoc] using g3
          | 4, hj => simp [actQ] at hj; subst hj; simpa [Nat.add_assoc] using g4
          | 5, hj => simp [actQ] at hj; subst hj; simpa [Nat.add_assoc] using g5
          | 6, hj => simp [actQ] at hj; subst hj; simpa [Nat.add_assoc] using g6
          | j + 7, hj => simp [actQ] at hj
        · simpa [Lit.wf, IntKind.min, IntKind.max, IntKind.bits, IntKind.signed] using hk
      · exact ⟨⟨0, noChg, noChg⟩, fun h => absurd h hi⟩
    refine ⟨fun i => (Classical.choose (key i)).1, fun i => (Classical.choose (key i)).2.1, fun i => (Classical.choose (key i)).2.2, by omega, fun i hi => ?_⟩
    obtain ⟨h1, h2⟩ := Classical.choose_spec (key i) hi
    exact ⟨⟨b, off, rfl, h1, hblk⟩, h2⟩
theorem queuePlays_own (a : Option Addr) (len cap : Nat) (w : World) (h : IsRecX [.int .u8, .int .i64, .int .i64, .str, .int .i64, .int .i64, .str] w a len cap) (hs : ∀ x, a = some x → x.spot = none ∧ x.block < w.heap.size) :
    Calls Try.prog 3 #[.slice a len cap] w fun e w' => e = .returned (.bool true) ∧ Below w.heap.size w w' := by
  obtain ⟨K, C, D, hA⟩ := acts20_of h hs
  exact (queuePlays_any a len cap K C D w hA).mono fun e w' h => ⟨h.1, below20 h.2⟩
theorem queueNone_own (c d : Chg) (w : World) :
    Calls Try.prog 4 #[chgV c, chgV d] w fun e w' => e = .returned (.bool true) ∧ Below w.heap.size w w' :=
  (queueNone_any c d w).mono fun e w' h => ⟨h.1, below20 h.2⟩

end Go.Proofs.Ytlljkcpopfencaa
