/-
  Texts put together: YD JI JJ JE.
-/
import Derived.Test.YtfibpgfjlmlpaaaGreatDoorM14
import Derived.Deep.LoopGhost
import Derived.Test.YtfibpgfjlmlpaaaGreatDoorM13
/-
  Layer 18 (store): the model stays within bounds.
-/
namespace Go.Proofs.YtfibpgfjlmlpaaaGreatDoor
set_option linter.unusedVariables false
set_option linter.unusedSimpArgs false
set_option linter.unusedVariables false
set_option linter.unusedSimpArgs false
set_option maxRecDepth 100000
open Go.RowKit

/-- Pages hold what they may. -/
structure PgOk (s : NS) : Prop where
  bs : ∀ i j, Byts (s.L i j).bs
  bn : ∀ i j, (s.L i j).bs.length ≤ 32
  dn : ∀ i j, (s.L i j).dt.size ≤ 160
theorem PgOk.of {s s' : NS} (h : PgOk s) (he : s'.L = s.L) : PgOk s' := ⟨fun i j => by rw [he]; exact h.bs i j, fun i j => by rw [he]; exact h.bn i j, fun i j => by rw [he]; exact h.dn i j⟩
theorem PgOk.turn {s : NS} (h : PgOk s) (i j : Nat) (x : Pg) (h1 : Byts x.bs) (h2 : x.bs.length ≤ 32) (h3 : x.dt.size ≤ 160) : PgOk (turnPg i j x s) := by
  refine ⟨fun a b => ?_, fun a b => ?_, fun a b => ?_⟩
  all_goals
    show _
    simp only [turnPg]
    split
    · simp only
      split
      · assumption
      · first | exact h.bs _ _ | exact h.bn _ _ | exact h.dn _ _
    · first | exact h.bs _ _ | exact h.bn _ _ | exact h.dn _ _
theorem PgOk.fill {s : NS} (h : PgOk s) (i k : Nat) (x : Int) : PgOk (fillTo i k x s) := by
  refine ⟨fun a b => ?_, fun a b => ?_, fun a b => ?_⟩
  all_goals
    simp only [fillTo]
    split
    · simp only
      split
      · first | (intro y hy; simp [Pg.none] at hy; done) | (simp [Pg.none]; done) | (show (0 : Nat) ≤ 160; omega)
      · first | exact h.bs _ _ | exact h.bn _ _ | exact h.dn _ _
    · first | exact h.bs _ _ | exact h.bn _ _ | exact h.dn _ _
theorem pg_oper {zs : Nat → List Int} {s : NS} {who : Int} {sp dn : NS → NS} (h : PgOk s) (hsp : ∀ s, PgOk s → PgOk (sp s)) (hdn : ∀ s, PgOk s → PgOk (dn s)) : PgOk (operS zs s who sp dn) := by
  have h1 : PgOk (spendS s) := h.of rfl
  have h2 : PgOk (drawS zs (spendS s) who) := h1.of (draw_L _ _ _)
  unfold operS
  split
  · exact h1
  · split
    · exact hsp _ h1
    · split
      · exact hsp _ h2
      · exact hdn _ h2
theorem pg_prog {S : NShape} {zs : Nat → List Int} {s : NS} (h : PgOk s) (who i j : Int) (bs : List Int) (dt : ByteArray) (hb : Byts bs) : PgOk (progS S zs s who i j bs dt) := by
  unfold progS
  split
  · rename_i hc
    exact pg_oper h (fun s hs => hs.turn _ _ _ (hs.bs _ _) (hs.bn _ _) (hs.dn _ _)) (fun s hs => hs.turn _ _ _ hb (by have := hc.2.1; simp only; omega) (by have := hc.2.1; simp only; omega))
  · exact h
theorem pg_prg {c : SC} {s : NS} (h : PgOk s) (b pg pl sq kd te ep : Int) (cp : Bool) (dt : ByteArray) : PgOk (prgS c s b pg pl sq kd te ep cp dt) := by
  unfold prgS
  split
  · rename_i hk
    exact pg_prog h _ _ _ _ _ (by
      unfold tagBL
      rw [if_pos hk]
      exact frL_byts (tagL_byts _ _ _ _ _ _))
  · exact h
theorem pg_ers {S : NShape} {zs : Nat → List Int} {s : NS} (h : PgOk s) (who i : Int) : PgOk (ersS S zs s who i) := by
  unfold ersS
  split
  · exact pg_oper h (fun s hs => hs.fill _ _ _) (fun s hs => (hs.fill _ _ _).of rfl)
  · exact h
theorem pg_mark {S : NShape} {s : NS} (h : PgOk s) (i : Int) : PgOk (markS S s i) := by
  unfold markS
  split
  · split
    · exact h.of rfl
    · exact h.of rfl
  · exact h
theorem pg_copy {c : SC} {tg : Int} : ∀ (L : List Fnd) (i : Nat) (s : NS), PgOk s → PgOk (copyR c tg L i s).2
  | [], i, s, h => h
  | f :: l, i, s, h => by
    have h1 := pg_prg (c := c) h tg i f.pl f.sq f.kd f.te f.ep true f.dt
    unfold copyR
    split
    · exact pg_copy l (i + 1) _ h1
    · exact h1

theorem Wf.pg {c : SC} {m : SM} {k : Int} (h : Wf c m k) : PgOk m.n := ⟨h.bs, h.bn, h.dn⟩
theorem Wf.mk' {c : SC} {m : SM} {k : Int} (hc : Cnt m.n k) (hp : PgOk m.n) (h1 : 0 ≤ m.sq ∧ m.sq ≤ k) (h2 : m.q.length ≤ 4) (h3 : ∀ x ∈ m.q, x.dt.size ≤ 16) (h4 : -1 ≤ m.fr ∧ m.fr < c.bl.length) : Wf c m k := ⟨hc, h1, h2, h3, h4, hp.bs, hp.bn, hp.dn⟩
/-- The array is another one. -/
theorem Wf.nand {c : SC} {m : SM} {k k' : Int} (h : Wf c m k) {s : NS} (hc : Cnt s k') (hp : PgOk s) (hk : k ≤ k') : Wf c { m with n := s } k' :=
  Wf.mk' hc hp ⟨h.sq.1, Int.le_trans h.sq.2 hk⟩ h.ql h.qd h.fr
theorem Wf.mono {c : SC} {m : SM} {k k' : Int} (h : Wf c m k) (hk : k ≤ k') : Wf c m k' := Wf.mk' (h.cn.mono18 hk) h.pg ⟨h.sq.1, Int.le_trans h.sq.2 hk⟩ h.ql h.qd h.fr
theorem wf_give {c : SC} {m : SM} {k : Int} (h : Wf c m k) (b spoken : Int) : Wf c (giveM c m b spoken) (k + 3) := by
  unfold giveM
  split
  · exact h.nand (cnt_mark h.cn _) (pg_mark h.pg _) (by omega)
  · exact Wf.mk' (h.cn.mono18 (by omega)) h.pg ⟨h.sq.1, by have := h.sq.2; simp only; omega⟩ h.ql h.qd h.fr
theorem wf_aff {c : SC} {m : SM} {k : Int} (h : Wf c m k) (spoken : Int) : Wf c (affM c m spoken) k := by
  unfold affM
  split
  · exact h
  · exact Wf.mk' h.cn h.pg h.sq h.ql h.qd h.fr
theorem wf_era {c : SC} {m : SM} {k : Int} (h : Wf c m k) (b : Int) : Wf c (eraM c m b) (k + 6) := by
  have h1 : Wf c { m with n := ersS c.S c.zs m.n c.who (c.ph b) } (k + 3) := h.nand (cnt_ers h.cn _ _) (pg_ers h.pg _ _) (by omega)
  unfold eraM
  split
  · exact h1.mono (by omega)
  · exact (wf_give h1 b 0).mono (by omega)
theorem free_in {c : SC} {m : SM} {x : Int} (h : x ∈ freeL c m) : ∃ b : Nat, x = b ∧ b < c.bl.length ∧ freeB c m b = true := by
  unfold freeL at h
  obtain ⟨b, hb, rfl⟩ := List.mem_map.1 h
  have h1 := List.mem_filter.1 hb
  exact ⟨b, rfl, List.mem_range.1 h1.1, h1.2⟩
theorem wf_move {c : SC} {row : List Fnd} {spoken : Int} (hl : row.length ≤ 64) : ∀ (j : Nat) (m : SM) (k : Int) (e : Int) (m' : SM), Wf c m k → moveF c row spoken j m = some (e, m') → Wf c m' (k + 200 * j)
  | 0, m, k, e, m', h, hm => by simp [moveF] at hm
  | j + 1, m, k, e, m', h, hm => by
    unfold moveF at hm
    cases hf : freeL c m with
    | nil =>
      rw [hf] at hm
      simp only [Option.some.injEq, Prod.mk.injEq] at hm
      rw [← hm.2]; exact h.mono (by omega)
    | cons tg l =>
      rw [hf] at hm
      simp only at hm
      obtain ⟨b, hb, hbl, _⟩ := free_in (c := c) (m := m) (x := tg) (by rw [hf]; simp)
      have hc1 := (cnt_copy (c := c) (tg := tg) row 0 m.n k h.cn).mono18 (m := k + 192) (by omega)
      have h1 : Wf c { m with n := (copyR c tg row 0 m.n).2 } (k + 192) := h.nand hc1 (pg_copy _ _ _ h.pg) (by omega)
      have h2 := wf_give h1 tg spoken
      split at hm
      · simp only [Option.some.injEq, Prod.mk.injEq] at hm
        rw [← hm.2]
        have h3 : Wf c { m with n := (copyR c tg row 0 m.n).2, fr := tg, rs := (setlR c tg row 0 m.rs).2 } (k + 192) := Wf.mk' h1.cn h1.pg h1.sq h1.ql h1.qd ⟨by simp only; omega, by simp only; omega⟩
        exact h3.mono (by omega)
      · split at hm
        · simp only [Option.some.injEq, Prod.mk.injEq] at hm
          rw [← hm.2]; exact h1.mono (by omega)
        · split at hm
          · simp only [Option.some.injEq, Prod.mk.injEq] at hm
            rw [← hm.2]; exact h2.mono (by omega)
          · exact (wf_move hl j _ _ e m' h2 hm).mono (by omega)
theorem wf_moveR {c : SC} {m : SM} {b spoken : Int} {j : Nat} {k : Int} {e : Int} {m' : SM} (hp : c.S.pg ≤ 16) (h : Wf c m k) (hm : moveR c m b spoken j = some (e, m')) : Wf c m' (k + 200 * j) := by
  unfold moveR at hm
  split at hm
  · simp only [Option.some.injEq, Prod.mk.injEq] at hm
    rw [← hm.2]; exact h.mono (by omega)
  · exact wf_move (by have := needR_len (c := c) (m := m) (b := b) c.S.pg; omega) j m k e m' h hm
theorem wf_coll {c : SC} {m : SM} {b : Int} {j : Nat} {k : Int} {e : Int} {m' : SM} (hp : c.S.pg ≤ 16) (h : Wf c m k) (hm : collR c m b j = some (e, m')) : Wf c m' (k + 200 * j + 6) := by
  unfold collR at hm
  split at hm
  · cases hm
  · rename_i e1 m1 h1
    have hw := wf_moveR hp h h1
    split at hm
    · simp only [Option.some.injEq, Prod.mk.injEq] at hm
      rw [← hm.2]; exact hw.mono (by omega)
    · simp only [Option.some.injEq, Prod.mk.injEq] at hm
      rw [← hm.2]; exact wf_era hw b
theorem wf_room {c : SC} {m : SM} {j : Nat} {k : Int} {e : Int} {m' : SM} (hp : c.S.pg ≤ 16) (h : Wf c m k) (hm : roomR c m j = some (e, m')) : Wf c m' (k + 200 * j + 6) := by
  unfold roomR at hm
  split at hm
  · simp only [Option.some.injEq, Prod.mk.injEq] at hm
    rw [← hm.2]; exact h.mono (by omega)
  · split at hm
    · rename_i hf
      simp only [Option.some.injEq, Prod.mk.injEq] at hm
      rw [← hm.2]
      refine Wf.mono (k := k) (Wf.mk' h.cn h.pg h.sq h.ql h.qd ?_) (by omega)
      cases hl : freeL c m with
      | nil =>
        rw [hl] at hf
        have : (0 : Int) ≤ sprN c m := by unfold sprN; split <;> omega
        simp at hf
        omega
      | cons x l =>
        obtain ⟨b, hb, hbl, _⟩ := free_in (c := c) (m := m) (x := x) (by rw [hl]; simp)
        simp only [List.headD_cons]
        omega
    · split at hm
      · simp only [Option.some.injEq, Prod.mk.injEq] at hm
        rw [← hm.2]; exact h.mono (by omega)
      · exact wf_coll hp h hm
theorem wf_put {c : SC} {m : SM} {k : Int} (h : Wf c m k) (x : Chg) : Wf c (putM c m x) (k + 4) := by
  unfold putM
  split
  · exact Wf.mk' ((cnt_prg h.cn _ _ _ _ _ _ _ _ _).mono18 (by omega)) (pg_prg h.pg _ _ _ _ _ _ _ _ _) ⟨by have := h.sq; simp only; omega, by have := h.sq; simp only; omega⟩ h.ql h.qd h.fr
  · exact (h.nand (cnt_prg h.cn _ _ _ _ _ _ _ _ _) (pg_prg h.pg _ _ _ _ _ _ _ _ _) (by omega)).mono (by omega)
theorem wf_leav {c : SC} {m : SM} {j : Nat} {k : Int} {e : Int} {m' : SM} (hp : c.S.pg ≤ 16) (h : Wf c m k) (hm : leavR c m j = some (e, m')) : Wf c m' (k + 200 * j + 3) := by
  unfold leavR at hm
  split at hm
  · split at hm
    · cases hm
    · rename_i e1 m1 h1
      have hw := wf_moveR hp h h1
      split at hm
      · simp only [Option.some.injEq, Prod.mk.injEq] at hm
        rw [← hm.2]; exact hw.mono (by omega)
      · simp only [Option.some.injEq, Prod.mk.injEq] at hm
        rw [← hm.2]; exact hw.nand (cnt_mark hw.cn _) (pg_mark hw.pg _) (by omega)
  · simp only [Option.some.injEq, Prod.mk.injEq] at hm
    rw [← hm.2]
    exact Wf.mono (k := k) (Wf.mk' h.cn h.pg h.sq h.ql h.qd h.fr) (by omega)
theorem wf_chg {c : SC} {x : Chg} {k : Nat} (hp : c.S.pg ≤ 16) : ∀ (j : Nat) (m : SM) (n : Int) (e : Int) (m' : SM), Wf c m n → chgR c x k j m = some (e, m') → Wf c m' (n + (400 * k + 20) * j)
  | 0, m, n, e, m', h, hm => by simp [chgR] at hm
  | j + 1, m, n, e, m', h, hm => by
    unfold chgR at hm
    have hmul : (400 * (k : Int) + 20) * ((j + 1 : Nat) : Int) = (400 * (k : Int) + 20) * (j : Int) + (400 * (k : Int) + 20) := by rw [Int.natCast_add, Int.mul_add]; simp
    have hpos : 0 ≤ (400 * (k : Int) + 20) * (j : Int) := Int.mul_nonneg (by omega) (by omega)
    split at hm
    · cases hm
    · rename_i e1 m1 h1
      have hw := wf_room hp h h1
      have hw2 := wf_put hw x
      split at hm
      · simp only [Option.some.injEq, Prod.mk.injEq] at hm
        rw [← hm.2]; exact hw.mono (by omega)
      · split at hm
        · simp only [Option.some.injEq, Prod.mk.injEq] at hm
          rw [← hm.2]; exact hw2.mono (by omega)
        · split at hm
          · cases hm
          · rename_i e2 m2 h2
            have hw3 := wf_leav hp hw2 h2
            split at hm
            · simp only [Option.some.injEq, Prod.mk.injEq] at hm
              rw [← hm.2]; exact hw3.mono (by omega)
            · exact (wf_chg hp j m2 _ e m' hw3 hm).mono (by omega)
theorem wf_fir {c : SC} {k : Nat} {m : SM} {n : Int} {e : Int} {m' : SM} (hp : c.S.pg ≤ 16) (h : Wf c m n) (hm : firR c k m = some (e, m')) : Wf c m' (n + (400 * k + 20) * k) := by
  have hpos : 0 ≤ (400 * (k : Int) + 20) * (k : Int) := Int.mul_nonneg (by omega) (by omega)
  unfold firR at hm
  split at hm
  · simp only [Option.some.injEq, Prod.mk.injEq] at hm
    rw [← hm.2]; exact h.mono (by omega)
  · split at hm
    · cases hm
    · rename_i e1 m1 h1
      have hw := wf_chg hp k m n e1 m1 h h1
      split at hm
      · simp only [Option.some.injEq, Prod.mk.injEq] at hm
        rw [← hm.2]; exact hw
      · simp only [Option.some.injEq, Prod.mk.injEq] at hm
        rw [← hm.2]
        exact Wf.mk' hw.cn hw.pg hw.sq (by have := hw.ql; simp only [List.length_drop]; omega) (fun y hy => hw.qd y (List.mem_of_mem_drop hy)) hw.fr

end Go.Proofs.YtfibpgfjlmlpaaaGreatDoor

/-
  Layer 18 (store): move.
-/
namespace Go.Proofs.YtfibpgfjlmlpaaaGreatDoor
set_option linter.unusedVariables false
set_option linter.unusedSimpArgs false
set_option linter.unusedVariables false
set_option linter.unusedSimpArgs false
set_option maxRecDepth 100000
open Go.RowKit

theorem fdF_dt {c : SC} {n : NS} (h : PgOk n) (b pg : Int) : (fdF c n b pg).dt.size ≤ 160 := by
  have h0 : noF.dt.size ≤ 160 := by show (0 : Nat) ≤ 160; omega
  have ht : ∀ x y, (tornF x y).dt.size ≤ 160 := fun _ _ => by show (0 : Nat) ≤ 160; omega
  have h1 : (oneF c n b pg).dt.size ≤ 160 := by
    unfold oneF
    split
    · unfold findF
      split
      · exact ht _ _
      · split
        · unfold fndOf
          split
          · exact h.dn _ _
          · exact ht _ _
        · exact h0
    · exact h0
  unfold fdF
  split
  · exact h0
  · exact h1
theorem needR_dt {c : SC} {m : SM} (h : PgOk m.n) (b : Int) : ∀ k, ∀ f ∈ (needR c m b k).1, f.dt.size ≤ 160
  | 0, f, hf => by simp [needR] at hf
  | k + 1, f, hf => by
    rw [needR] at hf
    split at hf
    · exact needR_dt h b k f hf
    · split at hf
      · exact needR_dt h b k f hf
      · split at hf
        · rcases List.mem_append.1 hf with hf | hf
          · exact needR_dt h b k f hf
          · simp at hf
            rw [hf]
            exact fdF_dt h b k
        · simp at hf

/-- What stands between the tries of a move. -/
structure MovS (p : SP) (c : SC) (w0 wr : World) (v : Value) (row : List Fnd) (spoken : Int) (k0 : Int) (j g : Nat) (e : Int) (m' m : SM) : Prop where
  st : StAt wr p c m
  wf : Wf c m (k0 + 200 * ((j : Int) - g))
  rw_ : RowF wr v row
  kp : Keeps (tS p c) w0 wr
  eq : moveF c row spoken g m = some (e, m')
  le : g ≤ j

section
variable {w w' : World} {p : SP} {c : SC} {m : SM}

set_option maxHeartbeats 3200000 in
theorem move18 (h : StAt w p c m) (ok : StOk p c) {k : Int} (wf : Wf c m k) (hs : -9223372036854775000 ≤ c.sp ∧ c.sp ≤ 9223372036854775000) (b spoken : Int) (j : Nat) (hk : k + 200 * j < 1152921504606840000) {e : Int} {m' : SM} (hm : moveR c m b spoken j = some (e, m')) :
    Calls Tryz.prog 84 #[.pointer (some ⟨p.sb, 0, none⟩), .int .i64 b, .int .i64 spoken] w (Gs p c (.int .i64 e) m' w) := by
  have ND := needed18 h ok wf b
  have hpg := ok.R.bds.2.2.2
  have hdt := needR_dt (c := c) wf.pg b c.S.pg
  have hlen := needR_len (c := c) (m := m) (b := b) c.S.pg
  have FR := Lib.hid (fun q (hq : w.heap.size ≤ q) => h.fresh hq)
  have SA := Lib.hid (fun (wx : World) (hE : w.grownBy wx none) => h.ext ok hE)
  have GV := Lib.hid (fun (wx : World) (mx : SM) (hx : StAt wx p c mx) => give18 hx ok)
  have CP := Lib.hid (fun (wx : World) (mx : SM) (hx : StAt wx p c mx) (kk : Int) (hc : Cnt mx.n kk) (hk : kk < 1152921504606846000) (tb : Nat) (hb : tb < c.bl.length) (v : Value) (L : List Fnd) (hv : RowF wx v L) (hvo : ∀ q, v.ownBlock = some q → tS p c q = 0) (hl : L.length ≤ 64) (hd : ∀ f ∈ L, f.dt.size ≤ 160) => copyTo18 hx ok hc hk hb v L hv hvo hl hd)
  have SL := Lib.hid (fun (wx : World) (mx : SM) (hx : StAt wx p c mx) (tg : Int) (v : Value) (L : List Fnd) (hv : RowF wx v L) (hvo : ∀ q, v.ownBlock = some q → tS p c q = 0) (hl : L.length ≤ 64) => settle18 hx ok tg v L hv hvo hl)
  have GU := Lib.hid (fun (wx : World) (mx : SM) (hx : StAt wx p c mx) (kk : Int) (hc : Cnt mx.n kk) (hk : kk < 1152921504606846976) (tb : Nat) (hb : tb < c.bl.length) => giveUp18 hx ok hc hk hs hb spoken)
  unfold moveR at hm
  obtain ⟨row, hrow⟩ : ∃ z, (needR c m b c.S.pg).1 = z := ⟨_, rfl⟩
  obtain ⟨er, her⟩ : ∃ z, (needR c m b c.S.pg).2 = z := ⟨_, rfl⟩
  rw [hrow] at ND hdt hlen hm
  rw [her] at ND hm
  have WF := Lib.hid (And.intro wf (And.intro hdt hlen))
  clear h wf hrow her hdt hlen
  unfold PagesP at ND
  by_cases h0 : er = 0
  · rw [if_neg (by simp [h0])] at hm
    have h0' : (er != 0) = false := by simp [h0]
    have HM := Lib.hid hm
    clear h0 hm
    obtain ⟨nr, hnr⟩ : ∃ z, row.length = z := ⟨_, rfl⟩
    rw [hnr] at ND
    have HNR := Lib.hid hnr
    clear hnr
    go_enter Tryz.func84, Tryz.ntmps84
    go_wp2_with (go_at_call 117; refine ND.mono ?_; rintro e1 w1 ⟨v1, rfl, hown, hg1⟩; have HW := Lib.hid (And.intro hown hg1); obtain ⟨ao1, cp1, hv1⟩ := owns_slice17 hown; subst hv1; clear hown hg1)
    clear ND
    have HS := Lib.hid (show MovS p c w w1 (.slice ao1 nr cp1) row spoken k j j e m' m from ⟨SA.out _ HW.out.2, WF.out.1.mono (by omega), RowF.owns (by rw [HNR.out]; exact HW.out.1), Keeps.ext HW.out.2, HM.out, Nat.le_refl _⟩)
    have HV := Lib.hid (show ∀ q, (Value.slice ao1 nr cp1).ownBlock = some q → tS p c q = 0 from fun q hq => FR.out q (HW.out.1.lt q hq).1)
    clear HW HM
    go_loopg [9] j (fun g _ wr => ∃ mx, MovS p c w wr (.slice ao1 nr cp1) row spoken k j g e m' mx)
    case atStart => exact ⟨m, HS.out⟩
    case round =>
      clear HS
      obtain ⟨mx, hS⟩ := hrel
      match gk, hS with
      | 0, hS => exact absurd hS.eq (by simp [moveF])
      | g + 1, hS =>
        obtain ⟨wo, rfl⟩ : ∃ wo : World, wo = wr := ⟨_, rfl⟩
        have G := GV.out wo mx hS.st
        have heq := hS.eq
        unfold moveF at heq
        cases hf : freeL c mx with
        | nil =>
          rw [hf] at heq G
          simp only [Option.some.injEq, Prod.mk.injEq, List.headD_nil, List.isEmpty_nil, Bool.not_true] at heq G
          obtain ⟨rfl, rfl⟩ := heq
          have HS := Lib.hid hS
          clear hS hf
          go_wp2_with (go_at_call 118; refine G.mono ?_; rintro e2 w2 ⟨rfl, hg2⟩)
          go_ret
          exact ⟨rfl, HS.out.st.ext ok hg2, HS.out.kp.trans (Keeps.ext hg2)⟩
        | cons tg l =>
          rw [hf] at heq G
          simp only [List.headD_cons, List.isEmpty_cons, Bool.not_false] at heq G
          obtain ⟨tb, htb, htl, _⟩ := free_in (c := c) (m := mx) (x := tg) (by rw [hf]; simp)
          subst htb
          have HS := Lib.hid hS
          have HTL := Lib.hid htl
          clear hf htl
          have hle := hS.le
          have hwf := hS.wf
          have hcl := (cnt_copy (c := c) (tg := (tb : Int)) row 0 mx.n _ hwf.cn)
          have hpc := pg_copy (c := c) (tg := (tb : Int)) row 0 mx.n hwf.pg
          have hrl := WF.out.2.2
          have hwf1 : Wf c { mx with n := (copyR c tb row 0 mx.n).2 } (k + 200 * ((j : Int) - (g + 1 : Nat)) + 192) := hwf.nand (hcl.mono18 (by omega)) hpc (by omega)
          have hkk : k + 200 * ((j : Int) - (g + 1 : Nat)) + 192 < 1152921504606846000 := by omega
          have C1 := fun wx (hx : wo.grownBy wx none) => CP.out wx mx (HS.out.st.ext ok hx) _ hwf.cn (by omega) tb HTL.out _ row (HS.out.rw_.ext hx) HV.out (by omega) WF.out.2.1
          have S1 := fun wx (hx : StAt wx p c { mx with n := (copyR c tb row 0 mx.n).2 }) (hr : RowF wx (.slice ao1 nr cp1) row) => SL.out wx _ hx (tb : Int) _ row hr HV.out (by omega)
          have U1 := fun wx (hx : StAt wx p c { mx with n := (copyR c tb row 0 mx.n).2 }) => GU.out wx _ hx _ hwf1.cn (by omega) tb HTL.out
          have hwf2 := wf_give hwf1 (tb : Int) spoken
          generalize (copyR c tb row 0 mx.n).1 = e1 at *
          generalize (copyR c tb row 0 mx.n).2 = n1 at *
          simp only at S1
          generalize (setlR c tb row 0 mx.rs).1 = e3 at *
          generalize (setlR c tb row 0 mx.rs).2 = r3 at *
          generalize giveE c { mx with n := n1 } tb spoken = e2 at *
          obtain ⟨m2, hm2⟩ : ∃ z, giveM c { mx with n := n1 } tb spoken = z := ⟨_, rfl⟩
          rw [hm2] at heq U1 hwf2
          have HW2 := Lib.hid (And.intro hwf2 (And.intro hle hkk))
          clear hS hle hwf hcl hpc hrl hwf1 hwf2 hkk hm2
          by_cases a0 : e1 = 0
          · rw [if_pos a0] at heq
            simp only [Option.some.injEq, Prod.mk.injEq] at heq
            obtain ⟨rfl, rfl⟩ := heq
            have a0' : (e1 == 0) = true := by simpa using a0
            clear a0 U1
            go_wp2_with (first
              | (go_at_call 118; refine G.mono ?_; rintro e2 w2 ⟨rfl, hg2⟩; have C2 := C1 _ hg2; have HG2 := Lib.hid hg2; clear hg2)
              | (go_at_call 119; refine C2.mono ?_; rintro e2 w3 ⟨rfl, hA3, hk3⟩; have S2 := S1 _ hA3 (HS.out.rw_.keeps ((Keeps.ext HG2.out).trans hk3) HV.out); have HK3 := Lib.hid (HS.out.kp.trans ((Keeps.ext HG2.out).trans hk3)); clear hA3 hk3)
              | (go_at_call 120; refine S2.mono ?_; rintro e2 w4 ⟨rfl, hA4, hk4⟩))
            go_ret
            exact ⟨rfl, hA4, HK3.out.trans hk4⟩
          · rw [if_neg a0] at heq
            have a0' : (e1 == 0) = false := by simpa using a0
            clear a0 S1
            by_cases a1 : e1 = 10
            · rw [if_neg (by simp [a1])] at heq
              have a1' : (e1 != 10) = false := by simp [a1]
              clear a1
              by_cases a2 : e2 = 0
              · rw [if_neg (by simp [a2])] at heq
                have a2' : (e2 != 0) = false := by simp [a2]
                have HEQ := Lib.hid heq
                clear a2 heq
                go_wp2_with (first
                  | (go_at_call 118; refine G.mono ?_; rintro e2 w2 ⟨rfl, hg2⟩; have C2 := C1 _ hg2; have HG2 := Lib.hid hg2; clear hg2)
                  | (go_at_call 119; refine C2.mono ?_; rintro e2 w3 ⟨rfl, hA3, hk3⟩; have U2 := U1 _ hA3; have HK3 := Lib.hid ((Keeps.ext (T := tS p c) HG2.out).trans hk3); clear hA3 hk3)
                  | (go_at_call 121; refine U2.mono ?_; rintro e2 w4 ⟨rfl, hA4, hk4⟩))
                go_roundg g
                case measure => omega
                case rel =>
                  have hkk := HK3.out.trans hk4
                  exact ⟨m2, hA4, HW2.out.1.mono (by have := HW2.out.2.1; omega), HS.out.rw_.keeps hkk HV.out, HS.out.kp.trans hkk, HEQ.out, by have := HW2.out.2.1; omega⟩
              · rw [if_pos a2] at heq
                simp only [Option.some.injEq, Prod.mk.injEq] at heq
                obtain ⟨rfl, rfl⟩ := heq
                have a2' : (e2 != 0) = true := by simpa using a2
                clear a2
                go_wp2_with (first
                  | (go_at_call 118; refine G.mono ?_; rintro e2 w2 ⟨rfl, hg2⟩; have C2 := C1 _ hg2; have HG2 := Lib.hid hg2; clear hg2)
                  | (go_at_call 119; refine C2.mono ?_; rintro e2 w3 ⟨rfl, hA3, hk3⟩; have U2 := U1 _ hA3; have HK3 := Lib.hid (HS.out.kp.trans ((Keeps.ext HG2.out).trans hk3)); clear hA3 hk3)
                  | (go_at_call 121; refine U2.mono ?_; rintro e2 w4 ⟨rfl, hA4, hk4⟩))
                go_ret
                exact ⟨rfl, hA4, HK3.out.trans hk4⟩
            · rw [if_pos a1] at heq
              simp only [Option.some.injEq, Prod.mk.injEq] at heq
              obtain ⟨rfl, rfl⟩ := heq
              have a1' : (e1 != 10) = true := by simpa using a1
              clear a1 U1
              go_wp2_with (first
                | (go_at_call 118; refine G.mono ?_; rintro e2 w2 ⟨rfl, hg2⟩; have C2 := C1 _ hg2; have HG2 := Lib.hid hg2; clear hg2)
                | (go_at_call 119; refine C2.mono ?_; rintro e2 w3 ⟨rfl, hA3, hk3⟩))
              go_ret
              exact ⟨rfl, hA3, HS.out.kp.trans ((Keeps.ext HG2.out).trans hk3)⟩
  · rw [if_pos h0] at hm
    simp only [Option.some.injEq, Prod.mk.injEq] at hm
    obtain ⟨rfl, rfl⟩ := hm
    have h0' : (er != 0) = true := by simpa using h0
    clear h0
    go_enter Tryz.func84, Tryz.ntmps84
    go_wp2_with (go_at_call 117; refine ND.mono ?_; rintro e1 w1 ⟨v1, rfl, hown, hg1⟩; obtain ⟨ao1, cp1, hv1⟩ := owns_slice17 hown; subst hv1)
    go_ret
    exact ⟨rfl, SA.out _ hg1, Keeps.ext hg1⟩
end

end Go.Proofs.YtfibpgfjlmlpaaaGreatDoor

/-
  Layer 18 (store): collect, leaveFront, makeRoom.
-/
namespace Go.Proofs.YtfibpgfjlmlpaaaGreatDoor
set_option linter.unusedVariables false
set_option linter.unusedSimpArgs false
set_option linter.unusedVariables false
set_option linter.unusedSimpArgs false
set_option maxRecDepth 100000
open Go.RowKit

section
variable {w w' : World} {p : SP} {c : SC} {m : SM}

theorem collect18 (h : StAt w p c m) (ok : StOk p c) {k : Int} (wf : Wf c m k) (hs : -9223372036854775000 ≤ c.sp ∧ c.sp ≤ 9223372036854775000) {b : Nat} (hb : b < c.bl.length) (hk : k < 1152921504606800000) {e : Int} {m' : SM} (hm : collR c m b 100 = some (e, m')) :
    Calls Tryz.prog 51 #[.pointer (some ⟨p.sb, 0, none⟩), .int .i64 (b : Int)] w (Gs p c (.int .i64 e) m' w) := by
  unfold collR at hm
  have hpg := ok.R.bds.2.2.2
  cases hmv : moveR c m b 0 100 with
  | none => rw [hmv] at hm; simp at hm
  | some r =>
    obtain ⟨e1, m1⟩ := r
    rw [hmv] at hm
    simp only at hm
    have MV := move18 h ok wf hs b 0 100 (by omega) hmv
    have hw1 := wf_moveR hpg wf hmv
    have ER := fun wx (hx : StAt wx p c m1) => erase18 hx ok hw1.cn ((cnt_ers hw1.cn c.who (c.ph b)).mono18 (by omega)) (by omega) hs hb
    clear h wf hmv hw1
    by_cases h0 : e1 = 0
    · rw [if_neg (by simp [h0])] at hm
      simp only [Option.some.injEq, Prod.mk.injEq] at hm
      obtain ⟨rfl, rfl⟩ := hm
      have h0' : (e1 != 0) = false := by simp [h0]
      clear h0
      generalize eraE c m1 b = e2 at *
      generalize eraM c m1 b = m2 at *
      go_enter Tryz.func51, Tryz.ntmps51
      go_wp2_with (first
        | (go_at_call 84; refine MV.mono ?_; rintro e w1 ⟨rfl, hA1, hk1⟩; have E2 := ER _ hA1; have HK1 := Lib.hid hk1; clear hA1 hk1)
        | (go_at_call 85; refine E2.mono ?_; rintro e w2 ⟨rfl, hA2, hk2⟩))
      go_ret
      exact ⟨rfl, hA2, HK1.out.trans hk2⟩
    · rw [if_pos h0] at hm
      simp only [Option.some.injEq, Prod.mk.injEq] at hm
      obtain ⟨rfl, rfl⟩ := hm
      have h0' : (e1 != 0) = true := by simpa using h0
      clear h0 ER
      go_enter Tryz.func51, Tryz.ntmps51
      go_wp2_with (go_at_call 84; refine MV.mono ?_; rintro e w1 ⟨rfl, hA1, hk1⟩)
      go_ret
      exact ⟨rfl, hA1, hk1⟩

set_option maxHeartbeats 1600000 in
theorem leaveFront18 (h : StAt w p c m) (ok : StOk p c) {k : Int} (wf : Wf c m k) (hs : -9223372036854775000 ≤ c.sp ∧ c.sp ≤ 9223372036854775000) {b : Nat} (hb : b < c.bl.length) (hf : m.fr = b) (hk : k < 1152921504606800000) {e : Int} {m' : SM} (hm : leavR c m 100 = some (e, m')) :
    Calls Tryz.prog 115 #[.pointer (some ⟨p.sb, 0, none⟩)] w (Gs p c (.int .i64 e) m' w) := by
  have AF := afford18 h ok hs 0
  have hpg := ok.R.bds.2.2.2
  unfold affE affM at AF
  unfold leavR at hm
  by_cases hsp : sprN c m > 0
  · rw [if_pos hsp] at hm
    rw [if_pos hsp, if_pos hsp] at AF
    rw [hf] at hm
    cases hmv : moveR c m b 1 100 with
    | none => rw [hmv] at hm; simp at hm
    | some r =>
      obtain ⟨e1, m1⟩ := r
      rw [hmv] at hm
      simp only at hm
      have C10 := Lib.hid (fun wx (hx : StAt wx p c m) => (show wx.cell? ⟨p.sb, 10, none⟩ = some (.int .i64 (b : Int)) from by rw [← hf]; exact hx.cells.2.2.2.2.2.2.2.2.2.1))
      have MV := fun wx (hx : StAt wx p c m) => move18 hx ok wf hs b 1 100 (by omega) hmv
      have hw1 := wf_moveR hpg wf hmv
      obtain ⟨x, hx, _, hxa, hx2, hx3⟩ := ok.phys hb
      have MK := fun (wx : World) (hx : StAt wx p c m1) => mark18 hx ok hw1.cn (by omega) x
      have SS := fun (wx : World) (hx : StAt wx p c m1) => hx.see ok hb hx2
      rw [hx] at hm
      obtain ⟨n, hn⟩ : ∃ z, c.bl.length = z := ⟨_, rfl⟩
      rw [hn] at SS hb
      clear h wf hmv hw1 hf hx hx2 hx3 hsp hn
      by_cases h0 : e1 = 0
      · rw [if_neg (by simp [h0])] at hm
        simp only [Option.some.injEq, Prod.mk.injEq] at hm
        obtain ⟨rfl, rfl⟩ := hm
        have h0' : (e1 != 0) = false := by simp [h0]
        clear h0
        go_enter Tryz.func115, Tryz.ntmps115
        go_upto_region 8 with (first
          | (go_at_call 147; refine AF.mono ?_; rintro e w1 ⟨rfl, hA1, hk1⟩; have M2 := MV _ hA1; have c10 := C10.out _ hA1; have HK1 := Lib.hid hk1; clear hA1 hk1)
          | (go_at_call 84; refine M2.mono ?_; rintro e w2 ⟨rfl, hA2, hk2⟩))
        obtain ⟨g, off, cap, hC, hSE, hSK⟩ := SS _ hA2
        have HC := Lib.hid hC
        have HA2 := Lib.hid (And.intro hA2 (And.intro (HK1.out.trans hk2) (And.intro hSE hSK)))
        clear hC hA2 hk2 hSE hSK c10
        have hA3 := HA2.out.1.ext ok (Ext.drew w2)
        have hS := HA2.out.2.2.1 _ (Ext.drew w2)
        refine region_line [(0, true), (1, true), (2, true), (3, true), (4, true), (5, true), (6, true), (7, true), (8, true), (9, true), (10, true), (11, true), (12, false), (13, true)] (SeeB w2 [p.sb, g]) (by kernel_rfl) (by kernel_rfl) (fun _ _ _ d _ h => by cases d <;> exact h) hS ?_
        repeat (refine line_read (a' := ?_) rfl (by kernel_rfl) (by kernel_rfl) hS (fun y hy K hK => ?_) ?_; rotate_left; · obtain ⟨c0, c1, c6, ci⟩ := HC.out y hy; go_wp2; exact hK)
        refine line_act (by rfl) (fun K hK => ?_)
        go_wp2_with (go_at_call 148; refine (MK _ hA3).mono ?_; rintro e w3 ⟨⟨rfl, hN, hK3⟩, hK4⟩)
        have hS3 : SeeB w2 [p.sb, g] w3 := HA2.out.2.2.2 w3 ⟨hK4.os, hK4.tape, hK4.output, hK4.size, hK4.block⟩
        refine hK _ _ (SeeB w2 [p.sb, g]) hS3 (fun _ h => h) ?_
        clear hK K
        repeat (refine line_read (a' := ?_) rfl (by kernel_rfl) (by kernel_rfl) hS3 (fun y hy K hK => ?_) ?_; rotate_left; · go_wp2; exact hK)
        refine line_end ?_
        go_wp2
        go_ret
        exact ⟨rfl, hN, (HA2.out.2.1.trans (Keeps.ext (Ext.drew w2))).trans hK3⟩
      · rw [if_pos h0] at hm
        simp only [Option.some.injEq, Prod.mk.injEq] at hm
        obtain ⟨rfl, rfl⟩ := hm
        have h0' : (e1 != 0) = true := by simpa using h0
        clear h0 MK SS
        go_enter Tryz.func115, Tryz.ntmps115
        go_wp2_with (first
          | (go_at_call 147; refine AF.mono ?_; rintro e w1 ⟨rfl, hA1, hk1⟩; have M2 := MV _ hA1; have c10 := C10.out _ hA1; have HK1 := Lib.hid hk1; clear hA1 hk1)
          | (go_at_call 84; refine M2.mono ?_; rintro e w2 ⟨rfl, hA2, hk2⟩))
        go_ret
        exact ⟨rfl, hA2, HK1.out.trans hk2⟩
  · rw [if_neg hsp] at hm
    rw [if_neg hsp, if_neg hsp] at AF
    simp only [Option.some.injEq, Prod.mk.injEq] at hm
    obtain ⟨rfl, rfl⟩ := hm
    obtain ⟨er, her, hen⟩ : ∃ er : Int, (13 : Int) = er ∧ (er != 0) = true := ⟨13, rfl, rfl⟩
    rw [her] at AF ⊢
    clear her h wf hf hsp
    go_enter Tryz.func115, Tryz.ntmps115
    go_wp2_with (go_at_call 147; refine AF.mono ?_; rintro e w1 ⟨rfl, hA1, hk1⟩; have HA1 := Lib.hid (And.intro hA1 hk1); clear hA1 hk1)
    go_ret
    exact ⟨rfl, HA1.out⟩

theorem greedy18 (wx : World) (v : Value) (ws : List Int) (hi : Ints wx v ws) (hl : ws.length ≤ 64) : Calls Tryz.prog 144 #[v] wx fun e w' => e = .returned (.int .i64 (grdN ws)) ∧ wx.grownBy w' none := by
  obtain ⟨r, hr, hc⟩ := vicGreedy_any v ws wx hi (by omega)
  rw [(grdN_is ws).eq hr]
  exact hc

set_option maxHeartbeats 3200000 in
theorem makeRoom18 (h : StAt w p c m) (ok : StOk p c) {k : Int} (wf : Wf c m k) (hs : -9223372036854775000 ≤ c.sp ∧ c.sp ≤ 9223372036854775000) (hk : k < 1152921504606800000) {e : Int} {m' : SM} (hm : roomR c m 100 = some (e, m')) :
    Calls Tryz.prog 113 #[.pointer (some ⟨p.sb, 0, none⟩)] w (Gs p c (.int .i64 e) m' w) := by
  have H0 := Lib.hid h
  have SA := Lib.hid (fun (wx : World) (hE : w.grownBy wx none) => h.ext ok hE)
  have HS := has18 h m.fr
  have PG := fun (wx : World) (hE : w.grownBy wx none) => pages18 (h.ext ok hE) ok
  have c10 := h.cells.2.2.2.2.2.2.2.2.2.1
  have WF := Lib.hid wf
  obtain ⟨g, hg⟩ : ∃ z, (hasS c m.fr && decide (nextB c m m.fr.toNat < c.S.pg)) = z := ⟨_, rfl⟩
  have HG := Lib.hid hg
  go_enter Tryz.func113, Tryz.ntmps113
  go_upto_region 1 with fail
  go_cut [21] (fun s21 wx => s21 = .bool g ∧ w.grownBy wx none)
  case first =>
    clear hm
    cases hh : hasS c m.fr
    · rw [hh] at HS hg
      rw [Bool.false_and] at hg
      subst hg
      generalize m.fr = fr at *
      go_wp2_with (go_at_call 49; refine HS.mono ?_; rintro e w1 ⟨rfl, rfl⟩)
      go_meet
      exact ⟨rfl, Ext.refl w⟩
    · have hin : 0 ≤ m.fr ∧ m.fr < c.bl.length := by unfold hasS at hh; simpa using hh
      obtain ⟨b, hb⟩ : ∃ b : Nat, m.fr = b := ⟨m.fr.toNat, by omega⟩
      have NX := next18 h ok (b := b) (by omega)
      rw [hh] at HS hg
      rw [Bool.true_and, hb, Int.toNat_natCast] at hg
      rw [hb] at HS c10
      generalize nextB c m b = nx at *
      generalize c.S.pg = pg at *
      clear h hh hin hb wf
      by_cases hlt : nx < pg
      · rw [decide_eq_true hlt] at hg
        subst hg
        have hlt' : (nx : Int) < pg := by omega
        go_wp2_with (first
          | (go_at_call 49; refine HS.mono ?_; rintro e w1 ⟨rfl, rfl⟩)
          | (go_at_call 129; refine NX.mono ?_; rintro e w2 ⟨rfl, hg2⟩; have P2 := PG _ hg2; have HG2 := Lib.hid hg2; clear hg2)
          | (go_at_call 83; refine P2.mono ?_; rintro e w3 ⟨rfl, hg3⟩))
        go_meet
        exact ⟨rfl, ext_trans HG2.out hg3⟩
      · rw [decide_eq_false hlt] at hg
        subst hg
        have hlt' : ¬ (nx : Int) < pg := by omega
        go_wp2_with (first
          | (go_at_call 49; refine HS.mono ?_; rintro e w1 ⟨rfl, rfl⟩)
          | (go_at_call 129; refine NX.mono ?_; rintro e w2 ⟨rfl, hg2⟩; have P2 := PG _ hg2; have HG2 := Lib.hid hg2; clear hg2)
          | (go_at_call 83; refine P2.mono ?_; rintro e w3 ⟨rfl, hg3⟩))
        go_meet
        exact ⟨rfl, ext_trans HG2.out hg3⟩
  case rest =>
    obtain ⟨rfl, hE1⟩ := hcut
    have HE1 := Lib.hid hE1
    have h1 := SA.out _ hE1
    unfold roomR at hm
    rw [hg] at hm
    clear h c10 HS PG hg hE1
    cases g
    · simp only [Bool.false_eq_true, if_false] at hm
      have FR := free18 h1 ok
      have SP := fun wx (hE : wc.grownBy wx none) => spares18 (h1.ext ok hE) ok hs
      have WO := fun wx (hE : wc.grownBy wx none) => worths18 (h1.ext ok hE) ok
      have hfl := freeK_len c m c.bl.length
      have hbl := ok.bl
      have hfe : freeL c m = freeK c m c.bl.length := rfl
      rw [← hfe] at hfl
      have hwl : (worthL c m).length = c.bl.length := worthK_len c m _
      have hsn : (0 : Int) ≤ sprN c m := by unfold sprN; split <;> omega
      have SA1 := Lib.hid (fun (wx : World) (hE : wc.grownBy wx none) => h1.ext ok hE)
      have C10 := Lib.hid (fun (wx : World) (hE : wc.grownBy wx none) => (show wx.cell? ⟨p.sb, 10, none⟩ = some (.int .i64 m.fr) ∧ wx.frozen? ⟨p.sb, 10, none⟩ = false from ⟨(h1.ext ok hE).cells.2.2.2.2.2.2.2.2.2.1, (h1.ext ok hE).bk.free 10⟩))
      have GR := grdN_is (worthL c m)
      have CL := fun (b : Nat) (hb : b < c.bl.length) (hc : collR c m b 100 = some (e, m')) wx (hx : StAt wx p c m) => collect18 hx ok WF.out hs hb hk hc
      have hsu : sprN c m ≤ 9223372036854775000 := by unfold sprN; split <;> omega
      generalize hfl' : freeL c m = F at *
      generalize hwl' : worthL c m = W at *
      have GW := Lib.hid (fun wx (v : Value) (hi : Ints wx v W) => greedy18 wx v W hi (by omega))
      generalize grdN W = gr at *
      generalize sprN c m = sn at *
      obtain ⟨fl, hfll⟩ : ∃ z, F.length = z := ⟨_, rfl⟩
      obtain ⟨wl, hwll⟩ : ∃ z, W.length = z := ⟨_, rfl⟩
      unfold RowI at FR WO
      rw [hfll] at FR hm hfl
      rw [hwll] at WO hwl
      have HWL := Lib.hid hwll
      by_cases hsp : (fl : Int) - 1 > sn
      · rw [if_pos hsp] at hm
        simp only [Option.some.injEq, Prod.mk.injEq] at hm
        obtain ⟨rfl, rfl⟩ := hm
        obtain ⟨x, F', hF⟩ : ∃ x F', F = x :: F' := by
          cases F with
          | nil => simp at hfll; omega
          | cons x F' => exact ⟨x, F', rfl⟩
        have hh : F.headD 0 = x := by rw [hF]; rfl
        have HL := Lib.hid (show (List.map (Value.int .i64) F)[0]? = some (.int .i64 x) by rw [hF]; rfl)
        have hp : 0 < fl := by omega
        have HN := Lib.hid (And.intro h1 (And.intro hF hh))
        clear WO GW CL GR hfll hwll hfl' hwl' hF hh hwl hfe h1
        go_upto_region 5 with (first
          | (go_at_call 25; refine FR.mono ?_; rintro e w1 ⟨⟨v, rfl, hown⟩, hg1⟩; have S2 := SP _ hg1; have HO := Lib.hid (And.intro hown hg1); obtain ⟨gg, cp, rfl⟩ := owns_some18 hown hp; clear hown hg1)
          | (go_at_call 143; refine S2.mono ?_; rintro e w2 ⟨rfl, hg2⟩))
        have hown2 := HO.out.1.kept hg2 (Classical.em _)
        have cx : w2.cell? ⟨gg, 0, none⟩ = some (.int .i64 x) := (show w2.cell? ⟨gg, 0 + 0, none⟩ = _ from by have h5 := hown2.cells (g := gg) rfl 0 _ HL.out; rwa [addr_add] at h5)
        have hE2 := ext_trans HO.out.2 hg2
        obtain ⟨c10, f10⟩ := C10.out _ hE2
        have HE2 := Lib.hid hE2
        clear hown2 hg2 S2 hE2
        go_wp2
        go_ret
        rw [HN.out.2.2]
        exact ⟨rfl, (SA1.out _ HE2.out).setFr ok x, (Keeps.ext (ext_trans HE1.out HE2.out)).trans (Keeps.own18 (gb_set (gb_refl w2 _) _ _) (.inl rfl))⟩
      · rw [if_neg hsp] at hm
        by_cases hgr : gr = -1
        · rw [if_pos hgr] at hm
          simp only [Option.some.injEq, Prod.mk.injEq] at hm
          obtain ⟨rfl, rfl⟩ := hm
          have hgr' : (gr == -1) = true := by simpa using hgr
          clear CL GR hfll hwll hfl' hwl' hgr hfe hwl
          go_wp2_with (first
            | (go_at_call 25; refine FR.mono ?_; rintro e w1 ⟨⟨v, rfl, hown⟩, hg1⟩; have S2 := SP _ hg1; have HO := Lib.hid hg1; obtain ⟨ao1, cp1, rfl⟩ := owns_slice17 hown; clear hown hg1)
            | (go_at_call 143; refine S2.mono ?_; rintro e w2 ⟨rfl, hg2⟩; have hE2 := ext_trans HO.out hg2; have W2 := WO _ hE2; have HE2 := Lib.hid hE2; clear hE2 hg2)
            | (go_at_call 145; refine W2.mono ?_; rintro e w3 ⟨⟨v3, rfl, hown3⟩, hg3⟩; have G3 := GW.out _ v3 (owns_ints HWL.out.symm hown3); have HE3 := Lib.hid (ext_trans HE2.out hg3); obtain ⟨ao3, cp3, rfl⟩ := owns_slice17 hown3; clear hown3 hg3)
            | (go_at_call 144; refine G3.mono ?_; rintro e w4 ⟨rfl, hg4⟩; have HE4 := Lib.hid (ext_trans HE3.out hg4); clear hg4))
          go_ret
          exact ⟨rfl, SA1.out _ HE4.out, Keeps.ext (ext_trans HE1.out HE4.out)⟩
        · rw [if_neg hgr] at hm
          have hgr' : (gr == -1) = false := by simpa using hgr
          obtain ⟨b, rfl, hbl2⟩ : ∃ b : Nat, gr = b ∧ b < c.bl.length := by
            rcases GR with ⟨h5, _⟩ | ⟨i, h5, h6, _⟩
            · exact absurd h5 hgr
            · exact ⟨i, h5, by omega⟩
          have C2 := CL b hbl2 hm
          clear CL GR hfll hwll hfl' hwl' hgr hfe hwl hm hbl2
          go_wp2_with (first
            | (go_at_call 25; refine FR.mono ?_; rintro e w1 ⟨⟨v, rfl, hown⟩, hg1⟩; have S2 := SP _ hg1; have HO := Lib.hid hg1; obtain ⟨ao1, cp1, rfl⟩ := owns_slice17 hown; clear hown hg1)
            | (go_at_call 143; refine S2.mono ?_; rintro e w2 ⟨rfl, hg2⟩; have hE2 := ext_trans HO.out hg2; have W2 := WO _ hE2; have HE2 := Lib.hid hE2; clear hE2 hg2)
            | (go_at_call 145; refine W2.mono ?_; rintro e w3 ⟨⟨v3, rfl, hown3⟩, hg3⟩; have G3 := GW.out _ v3 (owns_ints HWL.out.symm hown3); have HE3 := Lib.hid (ext_trans HE2.out hg3); obtain ⟨ao3, cp3, rfl⟩ := owns_slice17 hown3; clear hown3 hg3)
            | (go_at_call 144; refine G3.mono ?_; rintro e w4 ⟨rfl, hg4⟩; have C4 := C2 _ (SA1.out _ (ext_trans HE3.out hg4)); have HE4 := Lib.hid (ext_trans HE3.out hg4); clear hg4)
            | (go_at_call 51; refine C4.mono ?_; rintro e w5 ⟨rfl, hA5, hk5⟩))
          go_ret
          exact ⟨rfl, hA5, (Keeps.ext (ext_trans HE1.out HE4.out)).trans hk5⟩
    · simp only [if_true, Option.some.injEq, Prod.mk.injEq] at hm
      obtain ⟨rfl, rfl⟩ := hm
      have H1 := Lib.hid h1
      clear h1
      go_wp2
      go_ret
      exact ⟨rfl, H1.out, Keeps.ext HE1.out⟩
end

end Go.Proofs.YtfibpgfjlmlpaaaGreatDoor

/-
  Layer 18 (store): put, needed, copyTo, settle.
-/
namespace Go.Proofs.YtfibpgfjlmlpaaaGreatDoor
set_option linter.unusedVariables false
set_option linter.unusedSimpArgs false
set_option linter.unusedVariables false
set_option linter.unusedSimpArgs false
set_option maxRecDepth 100000
open Go.RowKit

section
variable {w w' : World} {p : SP} {c : SC} {m : SM}

/-- What put puts behind: the cells of the tag's block, and of the change's. -/
structure PutS (x : Chg) (cb tb : Nat) (te ep sq : Int) (y : World) : Prop where
  c0 : y.cell? ⟨cb, 0, none⟩ = some (.int .i64 x.pl)
  c2 : y.cell? ⟨cb, 2, none⟩ = some (.string x.dt)
  t0 : y.cell? ⟨tb, 0, none⟩ = some (.int .i64 te)
  t1 : y.cell? ⟨tb, 1, none⟩ = some (.int .i64 ep)
  t2 : y.cell? ⟨tb, 2, none⟩ = some (.int .i64 x.pl)
  t3 : y.cell? ⟨tb, 3, none⟩ = some (.int .i64 sq)
  t4 : y.cell? ⟨tb, 4, none⟩ = some (.int .i64 x.kd)
  t5 : y.cell? ⟨tb, 5, none⟩ = some (.bool false)

theorem PutS.keeps {y z : World} {T : Nat → Nat} {x : Chg} {cb tb : Nat} {te ep sq : Int} (h : PutS x cb tb te ep sq y) (hk : Keeps T y z) (h1 : T cb = 0) (h2 : T tb = 0) : PutS x cb tb te ep sq z := by
  have e1 := hk.block cb (World.block_lt_of_cell? y _ h.c0) h1
  have e2 := hk.block tb (World.block_lt_of_cell? y _ h.t0) h2
  exact ⟨(World.cell?_of_block e1).trans h.c0, (World.cell?_of_block e1).trans h.c2, (World.cell?_of_block e2).trans h.t0, (World.cell?_of_block e2).trans h.t1, (World.cell?_of_block e2).trans h.t2, (World.cell?_of_block e2).trans h.t3, (World.cell?_of_block e2).trans h.t4, (World.cell?_of_block e2).trans h.t5⟩

set_option maxHeartbeats 3200000 in
theorem put18 (h : StAt w p c m) (ok : StOk p c) {k : Int} (hcn : Cnt m.n k) (hk : k < 1152921504606846900) (hsq : 0 ≤ m.sq ∧ m.sq ≤ k) {b : Nat} (hb : b < c.bl.length) (hf : m.fr = b) (x : Chg) (hd : x.dt.size ≤ 9223372036854775807) :
    Calls Tryz.prog 114 #[.pointer (some ⟨p.sb, 0, none⟩), .agg (chgC x)] w (Gs p c (.int .i64 (putE18 c m x)) (putM c m x) w) := by
  obtain ⟨n0, rs0, q0, sq0, fr0, ro0⟩ := m
  simp only at hf hsq hcn
  subst hf
  have NX := fun (wx : World) (hx : StAt wx p c ⟨n0, rs0, q0, sq0, (b : Int), ro0⟩) => next18 hx ok hb
  have PR := fun (wx : World) (hx : StAt wx p c ⟨n0, rs0, q0, sq0, (b : Int), ro0⟩) => program18 hx ok hcn (by omega) hb (nextB c ⟨n0, rs0, q0, sq0, (b : Int), ro0⟩ b) c.who c.ep x.pl sq0 x.kd false x.dt hd
  have ST := Lib.hid (fun (wx : World) (s2 : NS) (hx : StAt wx p c ⟨s2, rs0, q0, sq0 + 1, (b : Int), ro0⟩) => tabSet hx.tb x.pl (b : Int) (nextB c ⟨n0, rs0, q0, sq0, (b : Int), ro0⟩ b) (by have := hx.tb.len; omega))
  unfold putE18 putM
  simp only [Int.toNat_natCast]
  simp only at PR ST
  obtain ⟨nx, hnx⟩ : ∃ z, nextB c ⟨n0, rs0, q0, sq0, (b : Int), ro0⟩ b = z := ⟨_, rfl⟩
  rw [hnx] at NX PR ST ⊢
  obtain ⟨er, her⟩ : ∃ z, prgE c n0 (b : Int) nx x.pl sq0 x.kd c.who c.ep false x.dt = z := ⟨_, rfl⟩
  obtain ⟨s2, hs2⟩ : ∃ z, prgS c n0 (b : Int) nx x.pl sq0 x.kd c.who c.ep false x.dt = z := ⟨_, rfl⟩
  rw [her, hs2] at PR ⊢
  obtain ⟨E, hE⟩ : ∃ z, (if er = 0 then setE c.bl.length c.S.pg rs0 x.pl (b : Int) nx else er) = z := ⟨_, rfl⟩
  obtain ⟨M, hM⟩ : ∃ z : SM, (if er = 0 then ⟨s2, setR c.bl.length c.S.pg rs0 x.pl (b : Int) nx, q0, sq0 + 1, (b : Int), ro0⟩ else ⟨s2, rs0, q0, sq0, (b : Int), ro0⟩) = z := ⟨_, rfl⟩
  rw [hE, hM]
  have HEM := Lib.hid (And.intro hE hM)
  clear hE hM
  have hEb := World.grownBy_alloc w (.cells (chgC x) 89) none
  have HCB := Lib.hid (And.intro (h.ext ok hEb) (And.intro hEb (Blk.new w 89 (chgC x))))
  have FR := Lib.hid (fun k (hk : w.heap.size ≤ k) => h.fresh hk)
  clear h hEb hnx her hs2 hb
  obtain ⟨cb, hcb⟩ : ∃ z, w.heap.size = z := ⟨_, rfl⟩
  have HCBE := Lib.hid hcb
  go_enter Tryz.func114, Tryz.ntmps114
  go_upto_region 1 with fail
  obtain ⟨w1, hw1⟩ : ∃ y, w.alloc (.cells (chgC x) 89) = y := ⟨_, rfl⟩
  rw [hw1]
  have h1 : StAt w1 p c ⟨n0, rs0, q0, sq0, (b : Int), ro0⟩ := by rw [← hw1]; exact HCB.out.1
  have hE1 : w.grownBy w1 none := by rw [← hw1]; exact HCB.out.2.1
  have hB1 : Blk w1 cb 89 (chgC x) := by rw [← hw1, ← hcb]; exact HCB.out.2.2
  have H1 := Lib.hid (And.intro h1 (And.intro hE1 hB1))
  have c10 : w1.cell? ⟨p.sb, 10, none⟩ = some (.int .i64 (b : Int)) := h1.cells.2.2.2.2.2.2.2.2.2.1
  clear hw1 hE1 hB1 hcb HCB
  go_upto_region 2 with (go_at_call 129; refine (NX _ h1).mono ?_; rintro e w2 ⟨rfl, hg2⟩)
  have H2 := Lib.hid (And.intro (H1.out.1.ext ok hg2) (And.intro (ext_trans H1.out.2.1 hg2) (H1.out.2.2.ext hg2)))
  clear h1 c10 H1 hg2 NX
  go_cut [6] (fun s6 wx => ∃ tb, s6 = .pointer (some ⟨tb, 0, none⟩) ∧ Blk wx tb 95 #[.int .i64 c.who, .int .i64 c.ep, .int .i64 x.pl, .int .i64 sq0, .int .i64 x.kd, .bool false] ∧ w2.grownBy wx none ∧ w2.heap.size ≤ tb)
  case first =>
    obtain ⟨c0, c1, c3, c4, c5, c6, c7, c8, c9, c10, c11⟩ := H2.out.1.cells
    have d0 : w2.cell? ⟨cb, 0, none⟩ = some (.int .i64 x.pl) := H2.out.2.2.cell 0
    have d1 : w2.cell? ⟨cb, 1, none⟩ = some (.int .i64 x.kd) := H2.out.2.2.cell 1
    have hl1 := H2.out.1.bk.lt
    have hl2 := H2.out.2.2.lt
    clear c0 c4 c5 c6 c7 c8 c10 c11
    go_region
    all_goals (go_wp2_with fail; go_meet)
    all_goals exact ⟨_, rfl, Blk.new _ _ _, ext_trans (World.grownBy_alloc _ _ none) (Ext.drew _), Nat.le_refl _⟩
  case rest =>
    obtain ⟨tb, rfl, hT, hg3, htb⟩ := hcut
    have h3 := H2.out.1.ext ok hg3
    have hE3 := ext_trans H2.out.2.1 hg3
    have hB3 := H2.out.2.2.ext hg3
    have htl := hT.lt
    have hcl := hB3.lt
    have hsl := h3.bk.lt
    have hcc := h3.cells.2.2.2.2.2.2.2.2.2.1
    have hS : wc.drew.cell? ⟨p.sb, 10, none⟩ = some (.int .i64 (b : Int)) ∧ PutS x cb tb c.who c.ep sq0 wc.drew := ⟨hcc, hB3.cell 0, hB3.cell 2, hT.cell 0, hT.cell 1, hT.cell 2, hT.cell 3, hT.cell 4, hT.cell 5⟩
    have H3 := Lib.hid (And.intro h3 hE3)
    have f1 := FR.out cb (by have := HCBE.out; omega)
    have f2 := FR.out tb (by have := H2.out.2.1.size; omega)
    clear h3 hE3 hT hg3 hcc hsl htl htb hB3 hcl H2
    go_upto_region 3 with fail
    refine region_line [(0, true), (1, true), (2, true), (3, true), (4, true), (5, true), (6, true), (7, true), (8, true), (9, false), (10, true)] (fun y => y.cell? ⟨p.sb, 10, none⟩ = some (.int .i64 (b : Int)) ∧ PutS x cb tb c.who c.ep sq0 y) (by kernel_rfl) (by kernel_rfl) (fun _ _ _ d _ h => by cases d <;> exact h) hS ?_
    repeat (refine line_read (a' := ?_) rfl (by kernel_rfl) (by kernel_rfl) hS (fun y hy K hK => ?_) ?_; rotate_left; · obtain ⟨c10, d0, d2, t0, t1, t2, t3, t4, t5⟩ := hy; go_wp2; exact hK)
    refine line_act (by rfl) (fun K hK => ?_)
    go_wp2_with (go_at_call 146; refine (PR _ (H3.out.1.ext ok (Ext.drew wc))).mono ?_; rintro e w4 ⟨rfl, hA4, hk4⟩)
    have hS4 : w4.cell? ⟨p.sb, 10, none⟩ = some (.int .i64 (b : Int)) ∧ PutS x cb tb c.who c.ep sq0 w4 := ⟨hA4.cells.2.2.2.2.2.2.2.2.2.1, hS.2.keeps hk4 f1 f2⟩
    refine hK _ _ (fun y => y.cell? ⟨p.sb, 10, none⟩ = some (.int .i64 (b : Int)) ∧ PutS x cb tb c.who c.ep sq0 y) hS4 (fun _ h => h) ?_
    clear hK K
    repeat (refine line_read (a' := ?_) rfl (by kernel_rfl) (by kernel_rfl) hS4 (fun y hy K hK => ?_) ?_; rotate_left; · go_wp2; exact hK)
    refine line_end ?_
    have hkk : Keeps (tS p c) w w4 := (Keeps.ext (ext_trans H3.out.2 (Ext.drew wc))).trans hk4
    have H4 := Lib.hid (And.intro hA4 (And.intro hkk hS4.2))
    clear hA4 hk4 hkk hS hS4 H3 PR
    by_cases h0 : er = 0
    · have h0' : (er != 0) = false := by simp [h0]
      have c9 := H4.out.1.cells.2.2.2.2.2.2.2.2.1
      have f9 := H4.out.1.bk.free 9
      have H5 := Lib.hid (H4.out.1.setSq ok (sq0 + 1))
      have hq := HEM.out
      rw [if_pos h0, if_pos h0] at hq
      obtain ⟨rfl, rfl⟩ := hq
      clear h0
      go_upto_region 7 with fail
      clear c9 f9
      obtain ⟨w5, hw5⟩ : ∃ y, w4.setCell ⟨p.sb, 9, none⟩ (.int .i64 (sq0 + 1)) = y := ⟨_, rfl⟩
      rw [hw5] at H5 ⊢
      have hk5 : Keeps (tS p c) w4 w5 := by rw [← hw5]; exact Keeps.own18 (gb_set (gb_refl w4 _) _ _) (.inl rfl)
      have hP5 := H4.out.2.2.keeps hk5 f1 f2
      have HK5 := Lib.hid (H4.out.2.1.trans hk5)
      clear hw5 hk5
      have hd5 := H5.out.ext ok (Ext.drew w5)
      have hS5 : w5.drew.cell? ⟨p.sb, 10, none⟩ = some (.int .i64 (b : Int)) ∧ w5.drew.cell? ⟨p.sb, 7, none⟩ = some (.pointer (some ⟨p.tb, 0, none⟩)) ∧ w5.drew.cell? ⟨cb, 0, none⟩ = some (.int .i64 x.pl) := ⟨hd5.cells.2.2.2.2.2.2.2.2.2.1, hd5.cells.2.2.2.2.2.2.1, hP5.c0⟩
      clear hP5
      refine region_line [(0, true), (1, true), (2, true), (3, true), (4, true), (5, true), (6, true), (7, true), (8, true), (9, true), (10, true), (11, false), (12, true)] (fun y => y.cell? ⟨p.sb, 10, none⟩ = some (.int .i64 (b : Int)) ∧ y.cell? ⟨p.sb, 7, none⟩ = some (.pointer (some ⟨p.tb, 0, none⟩)) ∧ y.cell? ⟨cb, 0, none⟩ = some (.int .i64 x.pl)) (by kernel_rfl) (by kernel_rfl) (fun _ _ _ d _ h => by cases d <;> exact h) hS5 ?_
      repeat (refine line_read (a' := ?_) rfl (by kernel_rfl) (by kernel_rfl) hS5 (fun y hy K hK => ?_) ?_; rotate_left; · obtain ⟨c10, c7, d0⟩ := hy; go_wp2; exact hK)
      refine line_act (by rfl) (fun K hK => ?_)
      go_wp2_with (go_at_call 98; refine (ST.out _ _ hd5).mono ?_; rintro e w6 ⟨rfl, hA6, hg6⟩)
      have h6 := hd5.tab ok hA6 hg6
      have hk6 : Keeps (tS p c) w5 w6 := (Keeps.ext (Ext.drew w5)).trans (Keeps.own18 hg6 (.inr (.inl rfl)))
      have hS6 : w6.cell? ⟨p.sb, 10, none⟩ = some (.int .i64 (b : Int)) ∧ w6.cell? ⟨p.sb, 7, none⟩ = some (.pointer (some ⟨p.tb, 0, none⟩)) ∧ w6.cell? ⟨cb, 0, none⟩ = some (.int .i64 x.pl) := ⟨h6.cells.2.2.2.2.2.2.2.2.2.1, h6.cells.2.2.2.2.2.2.1, (World.cell?_of_block (hk6.block cb (World.block_lt_of_cell? w5 _ hS5.2.2) f1)).trans hS5.2.2⟩
      refine hK _ _ (fun y => y.cell? ⟨p.sb, 10, none⟩ = some (.int .i64 (b : Int)) ∧ y.cell? ⟨p.sb, 7, none⟩ = some (.pointer (some ⟨p.tb, 0, none⟩)) ∧ y.cell? ⟨cb, 0, none⟩ = some (.int .i64 x.pl)) hS6 (fun _ h => h) ?_
      clear hK K
      repeat (refine line_read (a' := ?_) rfl (by kernel_rfl) (by kernel_rfl) hS6 (fun y hy K hK => ?_) ?_; rotate_left; · go_wp2; exact hK)
      refine line_end ?_
      go_wp2
      go_ret
      exact ⟨rfl, h6, HK5.out.trans hk6⟩
    · have h0' : (er != 0) = true := by simpa using h0
      have hq := HEM.out
      rw [if_neg h0, if_neg h0] at hq
      obtain ⟨rfl, rfl⟩ := hq
      clear h0
      go_wp2
      go_ret
      exact ⟨rfl, H4.out.1, H4.out.2.1⟩
end

end Go.Proofs.YtfibpgfjlmlpaaaGreatDoor
