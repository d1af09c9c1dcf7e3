/-
  Texts put together: CC YC JF JD JG JH.
-/
import Derived.Test.YtfibpgfjlmlpaaaGreatDoorM09
import Derived.Test.YtfibpgfjlmlpaaaGreatDoorM13
/-
  Package scan: Pages.
-/
namespace Go.Proofs.YtfibpgfjlmlpaaaGreatDoor
set_option linter.unusedVariables false
set_option linter.unusedSimpArgs false
set_option linter.unusedVariables false
set_option linter.unusedSimpArgs false
set_option maxRecDepth 100000
open Go.RowKit

/-- What Pages answers. -/
def pagesR (S : NShape) (s : NS) (bl : List Int) : List Fnd × Int := if bl.any (offB S.all) then ([], 5) else blksN S s bl bl.length
def PagesP (w : World) (L : List Fnd) (er : Int) (e : Ending) (w' : World) : Prop := ∃ v, e = .returned (.tuple #[v, .int .i64 er]) ∧ w'.ownsRow w.heap.size 97 10 v L.length (fndsL L) ∧ w.grownBy w' none
structure PgS (w wr : World) (v : Value) (L : List Fnd) : Prop where
  own : wr.ownsRow w.heap.size 97 10 v L.length (fndsL L)
  ext : w.grownBy wr none
theorem PgS.later {w x y : World} {v : Value} {L : List Fnd} (h : PgS w x v L) (hg : x.grownBy y none) : PgS w y v L := ⟨h.own.kept hg (Classical.em _), ext_trans h.ext hg⟩
theorem pgS_nil {w x : World} (h : w.grownBy x none) : PgS w x (.slice none 0 0) [] := ⟨⟨by simp [fndsL], .inl ⟨rfl, rfl⟩⟩, h⟩

section
variable {w : World} {S : NShape} {V : Nat → Value} {zs : Nat → List Int} {s : NS}

set_option maxHeartbeats 3200000 in
theorem pages16_any (h : NandAt w S V zs s) (hR : Roles S) (hF : Flds w) (hB : ∀ i j, Byts (s.L i j).bs) (hbs : ∀ i j, (s.L i j).bs.length ≤ 140737488351232) (v : Value) (bl : List Int) (hv : Ints w v bl) (hvb : ∀ k, v.ownBlock = some k → k < w.heap.size) (hl : bl.length ≤ 60000) :
    Calls Tryz.prog 61 #[.pointer (some ⟨S.nb, 0, none⟩), v] w (PagesP w (pagesR S s bl).1 (pagesR S s bl).2) := by
  have BK := fun wx (hE : w.grownBy wx none) => blocks7_is (h.ext hE hR).fix
  have BD := Lib.hid (fun wx (hE : w.grownBy wx none) (n : Nat) (hn : n < S.all) => bad7_is (i := n) (h.ext hE hR) hn)
  have NX := Lib.hid (fun wx (hE : w.grownBy wx none) (n : Nat) (hn : n < S.all) => next7_is (i := n) (h.ext hE hR).fix hn ((h.ext hE hR).row n hn) hR)
  have FN := Lib.hid (fun wx (hE : w.grownBy wx none) (k : Nat) (hk : k < bl.length) (m : Int) => find16_any (h.ext hE hR) hR (hF.ext hE) hB hbs v bl (hv.kept hE (by simp)) (by omega) k hk m)
  have CO := fun wx (xb : Nat) (hE : w.grownBy wx none) (hx : wx.cell? ⟨xb, 0, none⟩ = some (.int .i64 (S.all : Int))) => containsOff_any v bl S.all xb wx (hv.kept hE (by simp)) (by omega) hx
  have hpg := hR.bds.2.2.2
  have hal := hR.bds.2.1
  have NB := Lib.hid (fun n : Nat => nextN_le (s.L n) S.pg)
  have HL := Lib.hid (fun k : Nat => blksN_len (S := S) (s := s) (bl := bl) hpg k)
  obtain ⟨ao, cap, b, off, rfl, hc⟩ := hv.form
  have HI := Lib.hid (fun wx (hE : w.grownBy wx none) k (hk : k < bl.length) => (hv.kept hE (by simp)).form)
  have HC := Lib.hid hc
  clear h hF hB hbs hv hc
  unfold pagesR
  have hE1 := World.grownBy_alloc w (.cells #[.int .i64 (S.all : Int)] 3) none
  have hc1 : (w.alloc (.cells #[.int .i64 (S.all : Int)] 3)).cell? ⟨w.heap.size, 0, none⟩ = some (.int .i64 (S.all : Int)) := by simp
  have HE1 := Lib.hid (And.intro hE1 hc1)
  clear hE1 hc1
  obtain ⟨nl, hnl⟩ : ∃ z, bl.length = z := ⟨_, rfl⟩
  rw [hnl] at hl HC FN HI CO ⊢
  obtain ⟨ob, hob⟩ : ∃ z, bl.any (offB S.all) = z := ⟨_, rfl⟩
  rw [hob] at CO ⊢
  have CO1 := CO _ w.heap.size HE1.out.1 HE1.out.2
  have hPS := pgS_nil HE1.out.1
  have HPS := Lib.hid hPS
  clear CO hPS
  cases ob
  · have HOB := Lib.hid hob
    clear hob
    rw [if_neg (by simp)]
    go_enter Tryz.func61, Tryz.ntmps61
    go_wp2_with (first
      | (go_at_call 93; refine (BK _ (Ext.refl w)).mono ?_; rintro e w' ⟨rfl, rfl⟩)
      | (go_at_call 66; refine CO1.mono ?_; rintro e w1 ⟨rfl, rfl⟩))
    clear CO1 BK
    go_loopw [7, 22] (fun v i wr => ∃ (k : Nat) (R : List Fnd), k ≤ nl ∧ i = .int .i64 k ∧ blksN S s bl k = (R, 0) ∧ PgS w wr v R) (fun _ i _ => nl - (intOf i).toNat)
    case atStart => exact ⟨0, [], by omega, rfl, rfl, HPS.out⟩
    case round =>
      obtain ⟨k, R, hk, rfl, hR1, hP⟩ := hrel
      have HR1 := Lib.hid hR1
      obtain ⟨ro, rc, rfl⟩ := owns_slice17 hP.own
      obtain ⟨rn, hrn⟩ : ∃ z, R.length = z := ⟨_, rfl⟩
      have hrl := HL.out k
      rw [hR1] at hrl
      simp only at hrl
      rw [hrn] at hrl hP ⊢
      have HP := Lib.hid hP
      have HRN := Lib.hid hrn
      clear hR1 hP hrn
      obtain ⟨wo, rfl⟩ : ∃ wo : World, wo = wr := ⟨_, rfl⟩
      by_cases hlt : k < nl
      · obtain ⟨rfl, hcell0⟩ := HC.out k hlt
        have hcell := HP.out.ext.cell hcell0 (by simp)
        have hin : offB S.all (bl.getD k 0) = false := by
          have h1 := HOB.out
          rw [List.any_eq_false] at h1
          have h2 := h1 (bl.getD k 0) (by rw [List.getD_eq_getElem?_getD, List.getElem?_eq_getElem (by omega)]; exact List.getElem_mem _)
          simpa using h2
        have hnb : 0 ≤ bl.getD k 0 ∧ bl.getD k 0 < S.all := by
          unfold offB at hin
          simp only [decide_eq_false_iff_not] at hin
          omega
        have FK := fun wx hE => FN.out wx hE k hlt
        have hstep : blksN S s bl (k + 1) = (if s.mr (bl.getD k 0).toNat then (R, 0) else (if (pgsN S s (bl.getD k 0) k (nextN (s.L (bl.getD k 0).toNat) S.pg)).2 = 0 then (R ++ (pgsN S s (bl.getD k 0) k (nextN (s.L (bl.getD k 0).toNat) S.pg)).1, 0) else ([], (pgsN S s (bl.getD k 0) k (nextN (s.L (bl.getD k 0).toNat) S.pg)).2))) := by
          rw [blksN, HR1.out]
          rfl
        obtain ⟨n0, hn0⟩ : ∃ z, bl.getD k 0 = z := ⟨_, rfl⟩
        rw [hn0] at hcell hnb FK hstep
        obtain ⟨n, rfl⟩ : ∃ n : Nat, n0 = n := ⟨n0.toNat, by omega⟩
        rw [Int.toNat_natCast] at hstep
        have hn : n < S.all := by omega
        have B1 := BD.out wo HP.out.ext n hn
        have N1 := fun wx hE => NX.out wx hE n hn
        have hnx := NB.out n
        obtain ⟨mr, hmr⟩ : ∃ z, s.mr n = z := ⟨_, rfl⟩
        obtain ⟨nx, hnxe⟩ : ∃ z, nextN (s.L n) S.pg = z := ⟨_, rfl⟩
        rw [hmr] at B1 hstep
        rw [hnxe] at N1 hstep hnx
        have HST := Lib.hid hstep
        have HFK := Lib.hid FK
        clear hcell0 hin hnb hn0 hn hmr hnxe hstep FK
        cases mr
        · have N2 := N1 wo HP.out.ext
          go_wp2_with (first
            | (go_at_call 87; refine B1.mono ?_; rintro e w' ⟨rfl, rfl⟩)
            | (go_at_call 95; refine N2.mono ?_; rintro e w' ⟨rfl, rfl⟩))
          clear B1 N1 N2
          go_loopw [7, 33] (fun v j wr => ∃ (q : Nat) (T : List Fnd), q ≤ nx ∧ j = .int .i64 q ∧ pgsN S s n k q = (T, 0) ∧ PgS w wr v (R ++ T)) (fun _ j _ => nx - (intOf j).toNat)
          case atStart => exact ⟨0, [], by omega, rfl, rfl, by rw [List.append_nil]; exact HP.out⟩
          case round =>
            obtain ⟨q, T, hq, rfl, hT, hP2⟩ := hrel
            have HT := Lib.hid hT
            obtain ⟨ta, tc, rfl⟩ := owns_slice17 hP2.own
            obtain ⟨tn, htn⟩ : ∃ z, (R ++ T).length = z := ⟨_, rfl⟩
            have htl := pgsN_len (S := S) (s := s) (n := (n : Int)) (bk := k) q
            rw [hT] at htl
            simp only at htl
            have htb : tn ≤ 1000000 := by rw [← htn, List.length_append, HRN.out]; omega
            rw [htn] at hP2 ⊢
            have HP2 := Lib.hid hP2
            have HTN := Lib.hid htn
            clear hT hP2 htn htl
            obtain ⟨wi, rfl⟩ : ∃ wi : World, wi = wr := ⟨_, rfl⟩
            by_cases hlq : q < nx
            · have F1 := HFK.out wi HP2.out.ext q
              obtain ⟨f, hf⟩ : ∃ z, findF S s n q k = z := ⟨_, rfl⟩
              obtain ⟨er, her⟩ : ∃ z, findE S s n q = z := ⟨_, rfl⟩
              have hnext : pgsN S s n k (q + 1) = if er = 0 then (T ++ [f], 0) else ([], er) := by
                rw [pgsN, HT.out, hf, her]
                rfl
              rw [hf, her] at F1
              unfold FoundP at F1
              have HNX := Lib.hid hnext
              clear hf her hnext
              by_cases he : er = 0
              · subst he
                go_upto_region 17 with (first
                  | (go_at_call 96; refine F1.mono ?_; rintro e w3 ⟨rfl, hg3⟩; have hBn := Blk.new w3 97 (fndC noF))
                  | (refine fnd_store (f := f) _ _ rfl rfl rfl hBn rfl rfl ?_; intro w4 hb4 hg4 hs4; have HG4 := Lib.hid (g17_new (ext_trans hg3 (World.grownBy_alloc w3 (.cells (fndC noF) 97) none)) hg4 (by have := hg3.size; omega)); clear hBn hg4 hs4))
                have hown := (HP2.out.own.kept HG4.out (Classical.em _)).alloc (.cells #[.int .i64 f.bk, .int .i64 f.pg, .bool f.torn, .int .i64 f.te, .int .i64 f.ep, .int .i64 f.pl, .int .i64 f.sq, .int .i64 f.kd, .bool f.cp, .string f.dt] 97)
                rw [HTN.out] at hown
                go_wp2_with (first
                  | (refine fnd_load_lit rfl _ rfl rfl hb4.range17 ?_)
                  | (at_builtin; go_loud (refine append_fnd rfl _ _ rfl w.heap.size (.slice ta tn tc) (R ++ T) tn HTN.out rfl hown ⟨w4.heap.size, 0, none⟩ 1 f rfl (fnd_new w4 f _) htb (by have := HP2.out.ext.size; have := HG4.out.size; simp; omega) ?_; intro v' w5 hrow' hg'; have hE5 := Lib.hid (own_alloc17 HG4.out hg'); obtain ⟨ao4, cap4, hv4⟩ := owns_slice17 hrow'; subst hv4)))
                case roundEnd =>
                  refine ⟨⟨q + 1, T ++ [f], by omega, by go_num, by rw [HNX.out]; simp, ⟨?_, own_ext17 HP2.out.own HP2.out.ext hE5.out (Nat.le_refl _)⟩⟩, by simp [intOf]; omega⟩
                  rw [← List.append_assoc, List.length_append, HTN.out]
                  exact hrow'
              · have hne : (er != 0) = true := by simpa using he
                have HNE := Lib.hid he
                clear he
                go_wp2_with (first
                  | (go_at_call 96; refine F1.mono ?_; rintro e w3 ⟨rfl, hg3⟩; have hBn := Blk.new w3 97 (fndC noF))
                  | (refine fnd_store (f := f) _ _ rfl rfl rfl hBn rfl rfl ?_; intro w4 hb4 hg4 hs4; have HG4 := Lib.hid (g17_new (ext_trans hg3 (World.grownBy_alloc w3 (.cells (fndC noF) 97) none)) hg4 (by have := hg3.size; omega)); clear hBn hg4 hs4))
                go_returns
                have h1 : pgsN S s n k nx = ([], er) := by rw [pgsN_stay (j := q + 1) (by rw [HNX.out, if_neg HNE.out]; exact HNE.out) nx (by omega), HNX.out, if_neg HNE.out]
                have h2 : blksN S s bl (k + 1) = ([], er) := by rw [HST.out, h1]; simp [HNE.out]
                have h3 : blksN S s bl nl = ([], er) := by rw [blksN_stay (j := k + 1) (by rw [h2]; exact HNE.out) nl (by omega), h2]
                rw [h3]
                exact ⟨_, rfl, (pgS_nil (ext_trans HP2.out.ext HG4.out)).own, ext_trans HP2.out.ext HG4.out⟩
            · obtain rfl : q = nx := by omega
              go_wp2
              case roundEnd =>
                refine ⟨⟨k + 1, R ++ T, by omega, rfl, ?_, HP2.out⟩, by simp [intOf]; omega⟩
                rw [HST.out, if_neg (by simp), HT.out]
                rfl
        · clear N1
          go_wp2_with (go_at_call 87; refine B1.mono ?_; rintro e w' ⟨rfl, rfl⟩)
          go_roundw
          case rel => exact ⟨k + 1, R, by omega, by go_num, by rw [HST.out]; simp, HP.out⟩
          case measure => simp [intOf]; omega
      · obtain rfl : k = nl := by omega
        go_wp2
        go_returns
        rw [HR1.out]
        refine ⟨_, rfl, ?_, HP.out.ext⟩
        have := HP.out.own
        rw [HRN.out] at this
        show wo.ownsRow w.heap.size _ 10 _ R.length (fndsL R)
        rw [HRN.out]
        exact this
  · clear hob
    rw [if_pos rfl]
    go_enter Tryz.func61, Tryz.ntmps61
    go_wp2_with (first
      | (go_at_call 93; refine (BK _ (Ext.refl w)).mono ?_; rintro e w' ⟨rfl, rfl⟩)
      | (go_at_call 66; refine CO1.mono ?_; rintro e w1 ⟨rfl, rfl⟩))
    go_returns
    exact ⟨_, rfl, HPS.out.own, HPS.out.ext⟩
end

end Go.Proofs.YtfibpgfjlmlpaaaGreatDoor

/-
  Layer 18 (store): counts stay within bounds; rows of pages stand.
-/
namespace Go.Proofs.YtfibpgfjlmlpaaaGreatDoor
set_option linter.unusedVariables false
set_option linter.unusedSimpArgs false
set_option linter.unusedVariables false
set_option linter.unusedSimpArgs false
set_option maxRecDepth 100000
open Go.RowKit

theorem Cnt.mono18 {s : NS} {n m : Int} (h : Cnt s n) (hm : n ≤ m) : Cnt s m := by
  obtain ⟨h1, h2, h3, h4, h5⟩ := h
  exact ⟨by omega, fun j => by have := h2 j; omega, fun j => by have := h3 j; omega, fun j => by have := h4 j; omega, h5⟩
theorem cnt_turn {s : NS} {n : Int} (h : Cnt s n) (i j : Nat) (x : Pg) : Cnt (turnPg i j x s) n := ⟨h.po, h.N, h.M, h.er, h.px⟩
theorem cnt_oper {zs : Nat → List Int} {s : NS} {n : Int} {who : Int} {sp dn : NS → NS} (h : Cnt s n) (hsp : ∀ s k, Cnt s k → Cnt (sp s) (k + 1)) (hdn : ∀ s k, Cnt s k → Cnt (dn s) (k + 1)) : Cnt (operS zs s who sp dn) (n + 3) := by
  unfold operS
  split
  · exact h.spend.mono18 (by omega)
  · split
    · exact (hsp _ _ h.spend).mono18 (by omega)
    · split
      · exact (hsp _ _ (h.spend.draw zs who)).mono18 (by omega)
      · exact (hdn _ _ (h.spend.draw zs who)).mono18 (by omega)
theorem cnt_prog {S : NShape} {zs : Nat → List Int} {s : NS} {n : Int} (h : Cnt s n) (who i j : Int) (bs : List Int) (dt : ByteArray) : Cnt (progS S zs s who i j bs dt) (n + 3) := by
  unfold progS
  split
  · exact cnt_oper h (fun s k hk => (cnt_turn hk _ _ _).mono18 (by omega)) (fun s k hk => (cnt_turn hk _ _ _).mono18 (by omega))
  · exact h.mono18 (by omega)
theorem cnt_prg {c : SC} {s : NS} {n : Int} (h : Cnt s n) (b pg pl sq kd te ep : Int) (cp : Bool) (dt : ByteArray) : Cnt (prgS c s b pg pl sq kd te ep cp dt) (n + 3) := by
  unfold prgS
  split
  · exact cnt_prog h _ _ _ _ _
  · exact h.mono18 (by omega)
theorem cnt_ers {S : NShape} {zs : Nat → List Int} {s : NS} {n : Int} (h : Cnt s n) (who i : Int) : Cnt (ersS S zs s who i) (n + 3) := by
  unfold ersS
  split
  · refine cnt_oper h (fun s k hk => ?_) (fun s k hk => ?_)
    · exact (show Cnt (fillTo i.toNat S.pg 2 s) k from ⟨hk.po, hk.N, hk.M, hk.er, hk.px⟩).mono18 (by omega)
    · refine ⟨by have := hk.po; show 0 ≤ s.po ∧ s.po ≤ k + 1; omega, fun j => by have := hk.N j; show 0 ≤ s.N j ∧ s.N j ≤ k + 1; omega, fun j => by have := hk.M j; show 0 ≤ s.M j ∧ s.M j ≤ k + 1; omega, fun j => ?_, hk.px⟩
      show 0 ≤ (if j = i.toNat then s.er i.toNat + 1 else s.er j) ∧ (if j = i.toNat then s.er i.toNat + 1 else s.er j) ≤ k + 1
      have h1 := hk.er j
      have h2 := hk.er i.toNat
      split <;> omega
  · exact h.mono18 (by omega)
theorem cnt_mark {S : NShape} {s : NS} {n : Int} (h : Cnt s n) (i : Int) : Cnt (markS S s i) (n + 3) := by
  unfold markS
  have hs := h.spend
  split
  · split
    · exact Cnt.mono18 (n := n + 1) ⟨hs.po, hs.N, hs.M, hs.er, hs.px⟩ (by omega)
    · exact hs.mono18 (by omega)
  · exact h.mono18 (by omega)
theorem cnt_copy {c : SC} {tg : Int} : ∀ (L : List Fnd) (i : Nat) (s : NS) (n : Int), Cnt s n → Cnt (copyR c tg L i s).2 (n + 3 * L.length)
  | [], i, s, n, h => by simpa [copyR] using h
  | f :: l, i, s, n, h => by
    have h1 := cnt_prg h tg i f.pl f.sq f.kd f.te f.ep true f.dt (c := c)
    unfold copyR
    split
    · exact (cnt_copy l (i + 1) _ _ h1).mono18 (by simp only [List.length_cons]; omega)
    · exact h1.mono18 (by simp only [List.length_cons]; omega)

/-- A list of different numbers below n is no longer than n. -/
theorem nodup_len : ∀ (n : Nat) (l : List Int), l.Nodup → (∀ x ∈ l, 0 ≤ x ∧ x < n) → l.length ≤ n
  | 0, l, _, h => by
    cases l with
    | nil => exact Nat.le_refl _
    | cons x l => have := h x (by simp); omega
  | n + 1, l, hd, h => by
    by_cases hm : (n : Int) ∈ l
    · have h1 := List.length_erase_of_mem hm
      have h2 := nodup_len n (l.erase (n : Int)) (hd.erase _) (fun x hx => by
        have h3 := h x (List.mem_of_mem_erase hx)
        have h4 : x ≠ n := fun e => by subst e; exact (List.Nodup.not_mem_erase hd) hx
        omega)
      omega
    · have h2 := nodup_len n l hd (fun x hx => by
        have h3 := h x hx
        have h4 : x ≠ n := fun e => by subst e; exact hm hx
        omega)
      omega
theorem TabA.len {w : World} {t B P : Nat} {rs : List R14} (h : TabA w t B P rs) : rs.length ≤ 64 := by
  obtain ⟨R, W, S, _, hI⟩ := h
  have := nodup_len 64 (rs.map (·.pl)) hI.pls (fun x hx => by
    obtain ⟨r, hr, rfl⟩ := List.mem_map.1 hx
    have := hI.ok r hr
    omega)
  simpa using this

theorem RowF.keeps {w w' : World} {T : Nat → Nat} {v : Value} {L : List Fnd} (h : RowF w v L) (hk : Keeps T w w') (hv : ∀ q, v.ownBlock = some q → T q = 0) : RowF w' v L := by
  obtain ⟨ao, cap, rfl, hc⟩ := h
  refine ⟨ao, cap, rfl, fun i hi => ?_⟩
  obtain ⟨b, off, rfl, hr⟩ := hc i hi
  exact ⟨b, off, rfl, fun j u hj => (World.cell?_of_block (hk.block b (World.block_lt_of_cell? w _ (hr j u hj)) (hv b rfl))).trans (hr j u hj)⟩
/-- What is new has no role, and is none of the store's. -/
theorem StAt.fresh {w : World} {p : SP} {c : SC} {m : SM} (h : StAt w p c m) {k : Nat} (hk : w.heap.size ≤ k) : tS p c k = 0 := by
  have h1 := h.bk.lt
  have h2 := h.tb.lt
  have h3 := bufLt _ _ _ h.bf
  unfold tS
  rw [if_neg (by omega)]
  exact h.nd.fresh hk
theorem needR_stay {c : SC} {m : SM} {b : Int} {j : Nat} (h : (needR c m b j).2 ≠ 0) : ∀ k, j ≤ k → needR c m b k = needR c m b j := fun k hk => by
  induction k with
  | zero => rw [show j = 0 by omega]
  | succ k ih =>
    by_cases e : j = k + 1
    · rw [e]
    · have h1 := ih (by omega)
      rw [needR, h1, if_pos h]
theorem needR_len {c : SC} {m : SM} {b : Int} : ∀ k, (needR c m b k).1.length ≤ k
  | 0 => Nat.le_refl _
  | k + 1 => by
    have := needR_len (c := c) (m := m) (b := b) k
    rw [needR]
    split
    · omega
    · split
      · omega
      · split
        · simp; omega
        · simp

end Go.Proofs.YtfibpgfjlmlpaaaGreatDoor

/-
  Layer 18 (store): needed.
-/
namespace Go.Proofs.YtfibpgfjlmlpaaaGreatDoor
set_option linter.unusedVariables false
set_option linter.unusedSimpArgs false
set_option linter.unusedVariables false
set_option linter.unusedSimpArgs false
set_option maxRecDepth 100000
open Go.RowKit

section
variable {w w' : World} {p : SP} {c : SC} {m : SM}

set_option maxHeartbeats 3200000 in
theorem needed18 (h : StAt w p c m) (ok : StOk p c) {k : Int} (wf : Wf c m k) (b : Int) :
    Calls Tryz.prog 117 #[.pointer (some ⟨p.sb, 0, none⟩), .int .i64 b] w (PagesP w (needR c m b c.S.pg).1 (needR c m b c.S.pg).2) := by
  have PG := pages18 h ok
  have PL := Lib.hid (fun (wx : World) (hE : w.grownBy wx none) (j : Nat) => tabPlace (h.ext ok hE).tb b (j : Int))
  have FN := Lib.hid (fun (wx : World) (hE : w.grownBy wx none) (j : Nat) => find18 (h.ext ok hE) ok wf b (j : Int))
  have C7 := Lib.hid (fun (wx : World) (hE : w.grownBy wx none) => (h.ext ok hE).cells.2.2.2.2.2.2.1)
  have hpg := ok.R.bds.2.2.2
  have ND := Lib.hid (fun j : Nat => (show needR c m b (j + 1) = if (needR c m b j).2 ≠ 0 then needR c m b j else if placeN m.rs b j < 0 then needR c m b j else if fdE c m.n b j = 0 then ((needR c m b j).1 ++ [fdF c m.n b j], 0) else ([], fdE c m.n b j) from by rw [needR]))
  have NS := Lib.hid (fun j (hj : (needR c m b j).2 ≠ 0) => needR_stay hj)
  have NL := Lib.hid (fun j => needR_len (c := c) (m := m) (b := b) j)
  generalize c.S.pg = pg at *
  clear h ok wf
  go_enter Tryz.func117, Tryz.ntmps117
  go_wp2_with (go_at_call 83; refine PG.mono ?_; rintro e w1 ⟨rfl, hg1⟩; have HG1 := Lib.hid hg1; clear hg1)
  clear PG
  go_loopw [6, 12] (fun v i wr => ∃ (j : Nat) (R : List Fnd), j ≤ pg ∧ i = .int .i64 j ∧ needR c m b j = (R, 0) ∧ PgS w wr v R) (fun _ i _ => pg - (intOf i).toNat)
  case atStart => exact ⟨0, [], by omega, rfl, rfl, pgS_nil HG1.out⟩
  case round =>
    obtain ⟨j, R, hj, rfl, hR, hP⟩ := hrel
    have HR := Lib.hid hR
    obtain ⟨ro, rc, hv6⟩ := owns_slice17 hP.own
    obtain ⟨rn, hrn⟩ : ∃ z, R.length = z := ⟨_, rfl⟩
    have hrl := NL.out j
    rw [hR] at hrl
    simp only at hrl
    rw [hrn] at hv6 hrl
    subst hv6
    have HP := Lib.hid hP
    have HRN := Lib.hid hrn
    clear hR hP hrn
    obtain ⟨wo, rfl⟩ : ∃ wo : World, wo = wr := ⟨_, rfl⟩
    by_cases hlt : j < pg
    · have P1 := PL.out wo HP.out.ext j
      have F1 := FN.out wo HP.out.ext j
      have c7 := C7.out wo HP.out.ext
      have hstep := ND.out j
      rw [HR.out] at hstep
      simp only [ne_eq, not_true_eq_false, if_false] at hstep
      generalize placeN m.rs b j = y at *
      generalize fdF c m.n b j = f at *
      generalize fdE c m.n b j = er at *
      unfold FoundP at F1
      have HST := Lib.hid hstep
      clear hstep
      by_cases hy : y < 0
      · have HY := Lib.hid hy
        go_wp2_with (go_at_call 127; refine P1.mono ?_; rintro e w3 ⟨rfl, rfl⟩)
        case roundEnd => exact ⟨⟨j + 1, R, by omega, by go_num, by rw [HST.out, if_pos (by have := HY.out; omega)], HP.out⟩, by simp [intOf]; omega⟩
      · have HY := Lib.hid hy
        by_cases he : er = 0
        · subst he
          go_upto_region 9 with (first
            | (go_at_call 127; refine P1.mono ?_; rintro e w3 ⟨rfl, rfl⟩)
            | (go_at_call 46; refine F1.mono ?_; rintro e w3 ⟨rfl, hg3⟩; have hBn := Blk.new w3 97 (fndC noF))
            | (refine fnd_store (f := f) _ _ rfl rfl rfl hBn rfl rfl ?_; intro w4 hb4 hg4 hs4; have HG4 := Lib.hid (g17_new (ext_trans hg3 (World.grownBy_alloc w3 (.cells (fndC noF) 97) none)) hg4 (by have := hg3.size; omega)); clear hBn hg4 hs4))
          have hown := (HP.out.own.kept HG4.out (Classical.em _)).alloc (.cells #[.int .i64 f.bk, .int .i64 f.pg, .bool f.torn, .int .i64 f.te, .int .i64 f.ep, .int .i64 f.pl, .int .i64 f.sq, .int .i64 f.kd, .bool f.cp, .string f.dt] 97)
          rw [HRN.out] at hown
          go_wp2_with (first
            | (refine fnd_load_lit rfl _ rfl rfl hb4.range17 ?_)
            | (at_builtin; go_loud (refine append_fnd rfl _ _ rfl w.heap.size (.slice ro rn rc) R rn HRN.out rfl hown ⟨w4.heap.size, 0, none⟩ 1 f rfl (fnd_new w4 f _) (by omega) (by have := HP.out.ext.size; have := HG4.out.size; simp; omega) ?_; intro v' w5 hrow' hg'; have hE5 := Lib.hid (own_alloc17 HG4.out hg'); obtain ⟨ao4, cap4, hv4⟩ := owns_slice17 hrow'; subst hv4)))
          case roundEnd =>
            refine ⟨⟨j + 1, R ++ [f], by omega, by go_num, by rw [HST.out, if_neg (by have := HY.out; omega)]; simp, ⟨?_, own_ext17 HP.out.own HP.out.ext hE5.out (Nat.le_refl _)⟩⟩, by simp [intOf]; omega⟩
            rw [List.length_append, HRN.out]
            exact hrow'
        · have hne : (er != 0) = true := by simpa using he
          have HNE := Lib.hid he
          clear he
          go_wp2_with (first
            | (go_at_call 127; refine P1.mono ?_; rintro e w3 ⟨rfl, rfl⟩)
            | (go_at_call 46; refine F1.mono ?_; rintro e w3 ⟨rfl, hg3⟩; have hBn := Blk.new w3 97 (fndC noF))
            | (refine fnd_store (f := f) _ _ rfl rfl rfl hBn rfl rfl ?_; intro w4 hb4 hg4 hs4; have HG4 := Lib.hid (g17_new (ext_trans hg3 (World.grownBy_alloc w3 (.cells (fndC noF) 97) none)) hg4 (by have := hg3.size; omega)); clear hBn hg4 hs4))
          go_returns
          have h1 : needR c m b (j + 1) = ([], er) := by rw [HST.out, if_neg (by have := HY.out; omega), if_neg HNE.out]
          have h2 : needR c m b pg = ([], er) := by rw [NS.out (j + 1) (by rw [h1]; exact HNE.out) pg (by omega), h1]
          rw [h2]
          exact ⟨_, rfl, (pgS_nil (ext_trans HP.out.ext HG4.out)).own, ext_trans HP.out.ext HG4.out⟩
    · obtain rfl : j = pg := by omega
      go_wp2
      go_returns
      rw [HR.out]
      refine ⟨_, rfl, ?_, HP.out.ext⟩
      have := HP.out.own
      rw [HRN.out] at this
      show wo.ownsRow w.heap.size _ 10 _ R.length (fndsL R)
      rw [HRN.out]
      exact this
end

end Go.Proofs.YtfibpgfjlmlpaaaGreatDoor

/-
  Layer 18 (store): program, afford, giveUp, erase.
-/
namespace Go.Proofs.YtfibpgfjlmlpaaaGreatDoor
set_option linter.unusedVariables false
set_option linter.unusedSimpArgs false
set_option linter.unusedVariables false
set_option linter.unusedSimpArgs false
set_option maxRecDepth 100000
open Go.RowKit

section
variable {w w' : World} {p : SP} {c : SC} {m : SM}

/-- What stands while a page is written. -/
theorem tagv_is (te ep pl sq kd : Int) (cp : Bool) : tagV te ep pl sq kd cp = .agg #[.int .i64 te, .int .i64 ep, .int .i64 pl, .int .i64 sq, .int .i64 kd, .bool cp] := rfl

set_option maxHeartbeats 1600000 in
theorem program18 (h : StAt w p c m) (ok : StOk p c) {k : Int} (hcn : Cnt m.n k) (hk : k < 1152921504606846976) {b : Nat} (hb : b < c.bl.length) (pg te ep pl sq kd : Int) (cp : Bool) (dt : ByteArray) (hd : dt.size ≤ 9223372036854775807) :
    Calls Tryz.prog 146 #[.pointer (some ⟨p.sb, 0, none⟩), .int .i64 (b : Int), .int .i64 pg, .agg #[.int .i64 te, .int .i64 ep, .int .i64 pl, .int .i64 sq, .int .i64 kd, .bool cp], .string dt] w
      (Gs p c (.int .i64 (prgE c m.n b pg pl sq kd te ep cp dt)) { m with n := prgS c m.n b pg pl sq kd te ep cp dt } w) := by
  obtain ⟨x, hx, _, hxa, hx2, hx3⟩ := ok.phys hb
  have TB := fun (wx : World) (hE : w.grownBy wx none) => tagBytes_any te ep pl sq kd cp wx (h.fl.ext hE)
  rw [tagv_is] at TB
  have PR := Lib.hid (fun (wx : World) (hE : w.grownBy wx none) (v : Value) (bs : List Int) (hv : BtsA wx v bs) (hq : 0 < bs.length → ∀ k, v.ownBlock = some k → c.S.T k = 0) (hl : bs.length ≤ 9223372036854775807) =>
    (program_any (h.ext ok hE).nd ok.R hcn hk ok.zl c.who x pg hv hq hl hd).mono (fun e w' hg => (⟨⟨hg.1, (h.ext ok hE).nand ok hg.2.1 hg.2.2, (Keeps.ext hE).trans hg.2.2.less⟩, (Keeps.ext hE).trans hg.2.2⟩ : Gs p c (.int .i64 (progE c.S c.zs m.n c.who x pg bs.length dt.size)) { m with n := progS c.S c.zs m.n c.who x pg bs dt } w e w' ∧ Keeps c.S.T w w')))
  have SD := Lib.hid (fun (wx : World) (hE : w.grownBy wx none) (er : Int) => (⟨rfl, h.ext ok hE, Keeps.ext hE⟩ : Gs p c (.int .i64 er) m w (.returned (.int .i64 er)) wx))
  have FR := Lib.hid (fun k (hk : w.heap.size ≤ k) => h.nd.fresh hk)
  obtain ⟨c0, c1, _, _, _, c6, _⟩ := h.cells
  obtain ⟨g, off, cap, hv, hc⟩ := h.at hb
  rw [hv] at c6
  rw [hx2] at hc
  have hsb := h.bk.lt
  have hgb := World.block_lt_of_cell? w _ hc
  have HC := Lib.hid (show ∀ y, SeeB w [p.sb, g] y → y.cell? ⟨p.sb, 0, none⟩ = some (.pointer (some ⟨c.S.nb, 0, none⟩)) ∧ y.cell? ⟨p.sb, 1, none⟩ = some (.int .i64 c.who) ∧ y.cell? ⟨p.sb, 6, none⟩ = some (.slice (some ⟨g, off, none⟩) c.bl.length cap) ∧ y.cell? ⟨g, off + b, none⟩ = some (.int .i64 (x : Int)) from fun y hy => ⟨hy.cell (by simp) c0, hy.cell (by simp) c1, hy.cell (by simp) c6, hy.cell (by simp) hc⟩)
  have SE := Lib.hid (show ∀ y, w.grownBy y none → SeeB w [p.sb, g] y from fun y hy => SeeB.of_ext hy (by intro k hk; simp at hk; rcases hk with rfl | rfl <;> assumption))
  have SK := Lib.hid (show ∀ y, Keeps c.S.T w y → SeeB w [p.sb, g] y from fun y hy k hk => by
    simp at hk
    rcases hk with rfl | rfl
    · exact hy.block _ hsb ok.ts
    · exact hy.block _ hgb (ok.vb k (by rw [hv]; rfl)).1)
  have KL := Lib.hid (show ∀ y, Keeps (tS p c) w y → Keeps (tS p c) w y from fun y h => h)
  unfold prgE prgS
  rw [hx]
  obtain ⟨n, hn⟩ : ∃ z, c.bl.length = z := ⟨_, rfl⟩
  rw [hn] at HC hb
  have HE1 := Lib.hid (World.grownBy_alloc w (.cells #[.int .i64 te, .int .i64 ep, .int .i64 pl, .int .i64 sq, .int .i64 kd, .bool cp] 95) none)
  unfold tagBL tagBE at TB
  cases hok : okB te ep pl sq kd
  · rw [hok] at TB
    simp only [Bool.false_eq_true, if_false] at TB ⊢
    clear h hv ok c0 c1 c6 hc hcn hx hx2 hx3 hsb hgb hn hok
    go_enter Tryz.func146, Tryz.ntmps146
    go_wp2_with (go_at_call 169; refine (TB _ HE1.out).mono ?_; rintro e w2 ⟨v2, rfl, hown2, hg2⟩; have HG2 := Lib.hid (ext_trans HE1.out hg2); clear hg2; obtain ⟨ao2, cp2, rfl⟩ := owns_slice17 hown2)
    go_ret
    exact ⟨rfl, (SD.out _ HG2.out 1).2.1, (SD.out _ HG2.out 1).2.2⟩
  · rw [hok] at TB
    simp only [if_true] at TB ⊢
    obtain ⟨bs, hbs⟩ : ∃ z, frL 84 (tagL te ep pl sq kd cp) = z := ⟨_, rfl⟩
    have htb : tagBL te ep pl sq kd cp = bs := by unfold tagBL; rw [hok, if_pos rfl, hbs]
    have hbl : bs.length ≤ 9223372036854775807 := by rw [← hbs, frL_len, tagL_len]; decide
    rw [htb]
    rw [hbs] at TB
    clear h hv c0 c1 c6 hc hcn hx hx2 hx3 hn hok hbs htb
    go_enter Tryz.func146, Tryz.ntmps146
    go_wp2_with (go_at_call 169; refine (TB _ HE1.out).mono ?_; rintro e w2 ⟨v2, rfl, hown2, hg2⟩; have HG2 := Lib.hid (ext_trans HE1.out hg2); have HSZ := Lib.hid hg2; obtain ⟨ao2, cp2, rfl⟩ := owns_slice17 hown2; have HO2 := Lib.hid hown2; clear hg2 hown2)
    have hS := SE.out _ (drewE HG2.out)
    refine region_line [(0, true), (1, true), (2, true), (3, true), (4, true), (5, true), (6, true), (7, true), (8, true), (9, true), (10, true), (11, true), (12, true), (13, true), (14, true), (15, true), (16, true), (17, true), (18, true), (19, false), (20, true)] (SeeB w [p.sb, g]) (by kernel_rfl) (by kernel_rfl) (fun _ _ _ d _ h => by cases d <;> exact h) hS ?_
    repeat (refine line_read (a' := ?_) rfl (by kernel_rfl) (by kernel_rfl) hS (fun y hy K hK => ?_) ?_; rotate_left; · obtain ⟨c0, c1, c6, ci⟩ := HC.out y hy; go_wp2; exact hK)
    refine line_act (by rfl) (fun K hK => ?_)
    have P := PR.out _ (drewE HG2.out) (.slice ao2 bs.length cp2) bs (Bts.wide (owns7_bts rfl (HO2.out.kept (Ext.drew w2) (Classical.em _)))) (fun _ k hk => FR.out k (by have h1 := (HO2.out.lt k hk).1; have h2 := HE1.out.size; omega)) hbl
    go_wp2_with (go_at_call 170; refine P.mono ?_; rintro e w3 ⟨⟨rfl, hN, hK3⟩, hK4⟩)
    have hS3 : SeeB w [p.sb, g] w3 := SK.out _ hK4
    refine hK _ _ (SeeB w [p.sb, g]) hS3 (fun _ h => h) ?_
    clear hK K
    repeat (refine line_read (a' := ?_) rfl (by kernel_rfl) (by kernel_rfl) hS3 (fun y hy K hK => ?_) ?_; rotate_left; · go_wp2; exact hK)
    refine line_end ?_
    go_wp2
    go_ret
    exact ⟨rfl, hN, hK3⟩

set_option maxHeartbeats 800000 in
theorem afford18 (h : StAt w p c m) (ok : StOk p c) (hs : -9223372036854775000 ≤ c.sp ∧ c.sp ≤ 9223372036854775000) (spoken : Int) :
    Calls Tryz.prog 147 #[.pointer (some ⟨p.sb, 0, none⟩), .int .i64 spoken] w (Gs p c (.int .i64 (affE c m spoken)) (affM c m spoken) w) := by
  have SP := spares18 h ok hs
  have ST := Lib.hid (fun (wx : World) (hE : w.grownBy wx none) => h.ext ok hE)
  unfold affE affM
  by_cases h0 : sprN c m > spoken
  · rw [if_pos h0, if_pos h0]
    generalize sprN c m = q at *
    clear h
    go_enter Tryz.func147, Tryz.ntmps147
    go_wp2_with (go_at_call 143; refine SP.mono ?_; rintro e w1 ⟨rfl, hg⟩)
    go_ret
    exact ⟨rfl, ST.out _ hg, Keeps.ext hg⟩
  · rw [if_neg h0, if_neg h0]
    generalize sprN c m = q at *
    clear h
    go_enter Tryz.func147, Tryz.ntmps147
    go_wp2_with (go_at_call 143; refine SP.mono ?_; rintro e w1 ⟨rfl, hg⟩; have c11 := (ST.out _ hg).cells.2.2.2.2.2.2.2.2.2.2; have f11 := (ST.out _ hg).bk.free 11)
    go_ret
    exact ⟨rfl, (ST.out _ hg).setRo ok true, (Keeps.ext hg).trans (Keeps.own18 (gb_set (gb_refl w1 _) _ _) (.inl rfl))⟩

theorem mark18 (h : StAt w p c m) (ok : StOk p c) {k : Int} (hcn : Cnt m.n k) (hk : k < 1152921504606846976) (n : Int) :
    Calls Tryz.prog 148 #[.pointer (some ⟨c.S.nb, 0, none⟩), .int .i64 n] w fun e w' => Gs p c (.int .i64 (markE c.S m.n n)) { m with n := markS c.S m.n n } w e w' ∧ Keeps c.S.T w w' :=
  (mark_any h.nd ok.R hcn hk n).mono fun e w' hg => ⟨⟨hg.1, h.nand ok hg.2.1 hg.2.2, hg.2.2.less⟩, hg.2.2⟩
theorem erase7_18 (h : StAt w p c m) (ok : StOk p c) {k : Int} (hcn : Cnt m.n k) (hk : k < 1152921504606846976) (n : Int) :
    Calls Tryz.prog 122 #[.pointer (some ⟨c.S.nb, 0, none⟩), .int .i64 c.who, .int .i64 n] w fun e w' => Gs p c (.int .i64 (ersE c.S c.zs m.n c.who n)) { m with n := ersS c.S c.zs m.n c.who n } w e w' ∧ Keeps c.S.T w w' :=
  (erase_any h.nd ok.R hcn hk ok.zl c.who n).mono fun e w' hg => ⟨⟨hg.1, h.nand ok hg.2.1 hg.2.2, hg.2.2.less⟩, hg.2.2⟩

/-- What is read of a store in a line: its array, whose it is, its blocks. -/
theorem StAt.see (h : StAt w p c m) (ok : StOk p c) {b x : Nat} (hb : b < c.bl.length) (hx2 : c.bl.getD b 0 = x) : ∃ g off cap, (∀ y, SeeB w [p.sb, g] y → y.cell? ⟨p.sb, 0, none⟩ = some (.pointer (some ⟨c.S.nb, 0, none⟩)) ∧ y.cell? ⟨p.sb, 1, none⟩ = some (.int .i64 c.who) ∧ y.cell? ⟨p.sb, 6, none⟩ = some (.slice (some ⟨g, off, none⟩) c.bl.length cap) ∧ y.cell? ⟨g, off + b, none⟩ = some (.int .i64 (x : Int))) ∧
    (∀ y, w.grownBy y none → SeeB w [p.sb, g] y) ∧ ∀ y, Keeps c.S.T w y → SeeB w [p.sb, g] y := by
  obtain ⟨c0, c1, _, _, _, c6, _⟩ := h.cells
  obtain ⟨g, off, cap, hv, hc⟩ := h.at hb
  rw [hv] at c6
  rw [hx2] at hc
  have hsb := h.bk.lt
  have hgb := World.block_lt_of_cell? w _ hc
  exact ⟨g, off, cap, fun y hy => ⟨hy.cell (by simp) c0, hy.cell (by simp) c1, hy.cell (by simp) c6, hy.cell (by simp) hc⟩, fun y hy => SeeB.of_ext hy (by intro k hk; simp at hk; rcases hk with rfl | rfl <;> assumption), fun y hy k hk => by
    simp at hk
    rcases hk with rfl | rfl
    · exact hy.block _ hsb ok.ts
    · exact hy.block _ hgb (ok.vb k (by rw [hv]; rfl)).1⟩

set_option maxHeartbeats 1600000 in
theorem giveUp18 (h : StAt w p c m) (ok : StOk p c) {k : Int} (hcn : Cnt m.n k) (hk : k < 1152921504606846976) (hs : -9223372036854775000 ≤ c.sp ∧ c.sp ≤ 9223372036854775000) {b : Nat} (hb : b < c.bl.length) (spoken : Int) :
    Calls Tryz.prog 121 #[.pointer (some ⟨p.sb, 0, none⟩), .int .i64 (b : Int), .int .i64 spoken] w (Gs p c (.int .i64 (giveE c m b spoken)) (giveM c m b spoken) w) := by
  have AF := afford18 h ok hs spoken
  obtain ⟨x, hx, _, hxa, hx2, hx3⟩ := ok.phys hb
  unfold affE affM at AF
  unfold giveE giveM
  rw [hx]
  by_cases h0 : sprN c m > spoken
  · rw [if_pos h0, if_pos h0] at AF
    rw [if_pos h0, if_pos h0]
    have MK := fun (wx : World) (hx : StAt wx p c m) => mark18 hx ok hcn hk x
    have SS := fun (wx : World) (hx : StAt wx p c m) => hx.see ok hb hx2
    generalize sprN c m = q at *
    obtain ⟨n, hn⟩ : ∃ z, c.bl.length = z := ⟨_, rfl⟩
    rw [hn] at SS hb
    clear h hx hx2 hx3 hcn hn
    go_enter Tryz.func121, Tryz.ntmps121
    go_wp2_with (go_at_call 147; refine AF.mono ?_; rintro e w1 ⟨rfl, hA1, hk1⟩; obtain ⟨g, off, cap, hC, hSE, hSK⟩ := SS _ hA1; have HC := Lib.hid hC; have HA1 := Lib.hid (And.intro hA1 (And.intro hk1 (And.intro hSE hSK))); clear hC hA1 hk1 hSE hSK)
    have hA2 := HA1.out.1.ext ok (Ext.drew w1)
    have hS := HA1.out.2.2.1 _ (Ext.drew w1)
    refine region_line [(0, true), (1, true), (2, true), (3, true), (4, true), (5, true), (6, true), (7, true), (8, true), (9, true), (10, true), (11, true), (12, false), (13, true)] (SeeB w1 [p.sb, g]) (by kernel_rfl) (by kernel_rfl) (fun _ _ _ d _ h => by cases d <;> exact h) hS ?_
    repeat (refine line_read (a' := ?_) rfl (by kernel_rfl) (by kernel_rfl) hS (fun y hy K hK => ?_) ?_; rotate_left; · obtain ⟨c0, c1, c6, ci⟩ := HC.out y hy; go_wp2; exact hK)
    refine line_act (by rfl) (fun K hK => ?_)
    go_wp2_with (go_at_call 148; refine (MK _ hA2).mono ?_; rintro e w3 ⟨⟨rfl, hN, hK3⟩, hK4⟩)
    have hS3 : SeeB w1 [p.sb, g] w3 := SeeB.trans hS (fun k hk => (HA1.out.2.2.2 w3 ⟨hK4.os, hK4.tape, hK4.output, hK4.size, hK4.block⟩) k hk)
    refine hK _ _ (SeeB w1 [p.sb, g]) hS3 (fun _ h => h) ?_
    clear hK K
    repeat (refine line_read (a' := ?_) rfl (by kernel_rfl) (by kernel_rfl) hS3 (fun y hy K hK => ?_) ?_; rotate_left; · go_wp2; exact hK)
    refine line_end ?_
    go_wp2
    go_ret
    exact ⟨rfl, hN, (HA1.out.2.1.trans (Keeps.ext (Ext.drew w1))).trans hK3⟩
  · rw [if_neg h0, if_neg h0] at AF
    rw [if_neg h0, if_neg h0]
    clear h hx hx2 hx3 hcn h0
    obtain ⟨er, her, hen⟩ : ∃ er : Int, (13 : Int) = er ∧ (er != 0) = true := ⟨13, rfl, rfl⟩
    rw [her] at AF ⊢
    clear her
    go_enter Tryz.func121, Tryz.ntmps121
    go_wp2_with (go_at_call 147; refine AF.mono ?_; rintro e w1 ⟨rfl, hA1, hk1⟩; have HA1 := Lib.hid (And.intro hA1 hk1); clear hA1 hk1)
    go_ret
    exact ⟨rfl, HA1.out⟩

set_option maxHeartbeats 1600000 in
theorem erase18 (h : StAt w p c m) (ok : StOk p c) {k : Int} {b : Nat} (hcn : Cnt m.n k) (hcn2 : Cnt (ersS c.S c.zs m.n c.who (c.ph b)) (k + 4)) (hk : k < 1152921504606846900) (hs : -9223372036854775000 ≤ c.sp ∧ c.sp ≤ 9223372036854775000) (hb : b < c.bl.length) :
    Calls Tryz.prog 85 #[.pointer (some ⟨p.sb, 0, none⟩), .int .i64 (b : Int)] w (Gs p c (.int .i64 (eraE c m b)) (eraM c m b) w) := by
  obtain ⟨x, hx, _, hxa, hx2, hx3⟩ := ok.phys hb
  have ER := fun (wx : World) (hx : StAt wx p c m) => erase7_18 hx ok hcn (by omega) x
  unfold eraE eraM
  rw [hx] at hcn2 ⊢
  obtain ⟨er, her⟩ : ∃ z, ersE c.S c.zs m.n c.who x = z := ⟨_, rfl⟩
  obtain ⟨s2, hs2⟩ : ∃ z, ersS c.S c.zs m.n c.who x = z := ⟨_, rfl⟩
  rw [her, hs2] at ER
  rw [hs2] at hcn2
  rw [her, hs2]
  have GU := fun (wx : World) (hx : StAt wx p c { m with n := s2 }) => giveUp18 hx ok hcn2 (by omega) hs hb 0
  obtain ⟨g, off, cap, hC, hSE, hSK⟩ := h.see ok hb hx2
  have HC := Lib.hid hC
  have HH := Lib.hid (And.intro h (And.intro hSE hSK))
  obtain ⟨n, hn⟩ : ∃ z, c.bl.length = z := ⟨_, rfl⟩
  rw [hn] at HC hb
  clear h hx hx2 hx3 hcn hcn2 hC hSE hSK her hs2 hn
  have hS := HH.out.2.1 _ (Ext.drew w)
  have hA2 := HH.out.1.ext ok (Ext.drew w)
  by_cases h0 : er = 10
  · rw [if_neg (by simp [h0]), if_neg (by simp [h0])]
    have h0' : (er != 10) = false := by simp [h0]
    clear h0
    go_enter Tryz.func85, Tryz.ntmps85
    go_wp2
    refine region_line [(0, true), (1, true), (2, true), (3, true), (4, true), (5, true), (6, true), (7, true), (8, true), (9, true), (10, true), (11, true), (12, true), (13, true), (14, true), (15, true), (16, false), (17, true)] (SeeB w [p.sb, g]) (by kernel_rfl) (by kernel_rfl) (fun _ _ _ d _ h => by cases d <;> exact h) hS ?_
    repeat (refine line_read (a' := ?_) rfl (by kernel_rfl) (by kernel_rfl) hS (fun y hy K hK => ?_) ?_; rotate_left; · obtain ⟨c0, c1, c6, ci⟩ := HC.out y hy; go_wp2; exact hK)
    refine line_act (by rfl) (fun K hK => ?_)
    go_wp2_with (go_at_call 122; refine (ER _ hA2).mono ?_; rintro e w3 ⟨⟨rfl, hN, hK3⟩, hK4⟩)
    have hS3 : SeeB w [p.sb, g] w3 := HH.out.2.2 w3 ⟨hK4.os, hK4.tape, hK4.output, hK4.size, hK4.block⟩
    refine hK _ _ (SeeB w [p.sb, g]) hS3 (fun _ h => h) ?_
    clear hK K
    repeat (refine line_read (a' := ?_) rfl (by kernel_rfl) (by kernel_rfl) hS3 (fun y hy K hK => ?_) ?_; rotate_left; · go_wp2; exact hK)
    refine line_end ?_
    go_wp2_with (go_at_call 121; refine (GU _ hN).mono ?_; rintro e w4 ⟨rfl, hN4, hK5⟩)
    go_ret
    exact ⟨rfl, hN4, ((Keeps.ext (Ext.drew w)).trans hK3).trans hK5⟩
  · rw [if_pos h0, if_pos h0]
    have h0' : (er != 10) = true := by simpa using h0
    clear h0
    go_enter Tryz.func85, Tryz.ntmps85
    go_wp2
    refine region_line [(0, true), (1, true), (2, true), (3, true), (4, true), (5, true), (6, true), (7, true), (8, true), (9, true), (10, true), (11, true), (12, true), (13, true), (14, true), (15, true), (16, false), (17, true)] (SeeB w [p.sb, g]) (by kernel_rfl) (by kernel_rfl) (fun _ _ _ d _ h => by cases d <;> exact h) hS ?_
    repeat (refine line_read (a' := ?_) rfl (by kernel_rfl) (by kernel_rfl) hS (fun y hy K hK => ?_) ?_; rotate_left; · obtain ⟨c0, c1, c6, ci⟩ := HC.out y hy; go_wp2; exact hK)
    refine line_act (by rfl) (fun K hK => ?_)
    go_wp2_with (go_at_call 122; refine (ER _ hA2).mono ?_; rintro e w3 ⟨⟨rfl, hN, hK3⟩, hK4⟩)
    have hS3 : SeeB w [p.sb, g] w3 := HH.out.2.2 w3 ⟨hK4.os, hK4.tape, hK4.output, hK4.size, hK4.block⟩
    refine hK _ _ (SeeB w [p.sb, g]) hS3 (fun _ h => h) ?_
    clear hK K
    repeat (refine line_read (a' := ?_) rfl (by kernel_rfl) (by kernel_rfl) hS3 (fun y hy K hK => ?_) ?_; rotate_left; · go_wp2; exact hK)
    refine line_end ?_
    go_wp2
    go_ret
    exact ⟨rfl, hN, (Keeps.ext (Ext.drew w)).trans hK3⟩
end

end Go.Proofs.YtfibpgfjlmlpaaaGreatDoor

/-
  Layer 18 (store): copyTo.
-/
namespace Go.Proofs.YtfibpgfjlmlpaaaGreatDoor
set_option linter.unusedVariables false
set_option linter.unusedSimpArgs false
set_option linter.unusedVariables false
set_option linter.unusedSimpArgs false
set_option maxRecDepth 100000
open Go.RowKit

/-- What stands while pages are copied. -/
structure CpyS (p : SP) (c : SC) (m : SM) (w0 wr : World) (v : Value) (L : List Fnd) (tg : Int) (k0 : Int) (j : Nat) (n : NS) : Prop where
  st : StAt wr p c { m with n := n }
  row : RowF wr v L
  kp : Keeps (tS p c) w0 wr
  eq : copyR c tg L 0 m.n = copyR c tg (L.drop j) j n
  cn : Cnt n (k0 + 3 * j)

section
variable {w w' : World} {p : SP} {c : SC} {m : SM}

set_option maxHeartbeats 3200000 in
theorem copyTo18 (h : StAt w p c m) (ok : StOk p c) {k : Int} (hcn : Cnt m.n k) (hk : k < 1152921504606846000) {b : Nat} (hb : b < c.bl.length) (v : Value) (L : List Fnd) (hv : RowF w v L) (hvo : ∀ q, v.ownBlock = some q → tS p c q = 0) (hl : L.length ≤ 64) (hd : ∀ f ∈ L, f.dt.size ≤ 160) :
    Calls Tryz.prog 119 #[.pointer (some ⟨p.sb, 0, none⟩), .int .i64 (b : Int), v] w (Gs p c (.int .i64 (copyR c b L 0 m.n).1) { m with n := (copyR c b L 0 m.n).2 } w) := by
  have PR := Lib.hid (fun (wx : World) (s : NS) (kk : Int) (hx : StAt wx p c { m with n := s }) (hc : Cnt s kk) (hk : kk < 1152921504606846976) (i : Nat) (f : Fnd) (hf : f.dt.size ≤ 160) => program18 hx ok hc hk hb (i : Int) f.te f.ep f.pl f.sq f.kd true f.dt (by omega))
  have HS := Lib.hid (show CpyS p c m w w v L b k 0 m.n from ⟨h, hv, Keeps.refl _ w, rfl, by simpa using hcn⟩)
  obtain ⟨ao, cap, hve, _⟩ := hv
  obtain ⟨n, hn⟩ : ∃ n, L.length = n := ⟨_, rfl⟩
  rw [hn] at hve hl
  subst hve
  have HN := Lib.hid (And.intro hn (And.intro hvo hd))
  clear h hcn hn hvo hd hb
  obtain ⟨E, hE⟩ : ∃ z, (copyR c b L 0 m.n).1 = z := ⟨_, rfl⟩
  obtain ⟨M, hM⟩ : ∃ z : SM, { m with n := (copyR c b L 0 m.n).2 } = z := ⟨_, rfl⟩
  rw [hE, hM]
  have HEM := Lib.hid (And.intro hE hM)
  clear hE hM
  go_enter Tryz.func119, Tryz.ntmps119
  go_wp2
  go_loopw [12] (fun i wr => ∃ (j : Nat) (s : NS), j ≤ n ∧ i = .int .i64 j ∧ CpyS p c m w wr (.slice ao n cap) L b k j s) (fun i _ => n - (intOf i).toNat)
  case atStart => exact ⟨0, m.n, by omega, rfl, HS.out⟩
  case round =>
    clear HS
    obtain ⟨j, s, hj, rfl, hS⟩ := hrel
    obtain ⟨wo, rfl⟩ : ∃ wo : World, wo = wr := ⟨_, rfl⟩
    have HS := Lib.hid hS
    clear hS
    by_cases hlt : j < n
    · obtain ⟨f, hf⟩ : ∃ f, L.getD j noF = f := ⟨_, rfl⟩
      obtain ⟨ao2, cap2, hv2, hc2⟩ := HS.out.row
      obtain ⟨g, off, hao, hr⟩ := hc2 j (by rw [HN.out.1]; exact hlt)
      simp only [Value.slice.injEq] at hv2
      obtain ⟨rfl, -, -⟩ := hv2
      subst hao
      rw [hf] at hr
      have hjl : j < L.length := by rw [HN.out.1]; exact hlt
      have hdrop : L.drop j = f :: L.drop (j + 1) := by
        rw [List.drop_eq_getElem_cons hjl]
        rw [List.getD_eq_getElem?_getD, List.getElem?_eq_getElem hjl] at hf
        congr 1
      have hfd : f.dt.size ≤ 160 := HN.out.2.2 f (by
        rw [List.getD_eq_getElem?_getD, List.getElem?_eq_getElem hjl] at hf
        have h2 : L[j] = f := hf
        rw [← h2]
        exact List.getElem_mem _)
      have HDR := Lib.hid hdrop
      have hBn := Blk.new wo 97 (fndC noF)
      clear hf hc2 hjl hdrop
      obtain ⟨fb, hfb⟩ : ∃ z, wo.heap.size = z := ⟨_, rfl⟩
      rw [hfb] at hBn
      have HFB := Lib.hid hfb
      have FR := Lib.hid (HS.out.st.fresh (k := fb) (by omega))
      go_upto_region 4 with (first
        | (refine fnd_load rfl _ rfl rfl hr ?_)
        | (refine fnd_store _ _ rfl rfl rfl hBn rfl rfl ?_; intro w2 hb2 hg2 hs2; have hE2 := g17_new (World.grownBy_alloc wo _ none) hg2 (by omega); have hb3 := hb2.set 8 (.bool true); have f8 := hb2.free 8; have c8 := hb2.cell 8; have HE2 := Lib.hid hE2; clear hBn hg2 hs2 hE2))
      clear hr hfb
      have c8 : w2.cell? ⟨fb, 8, none⟩ = some (.bool f.cp) := hb2.cell 8
      go_upto_region 5 with fail
      obtain ⟨w3, hw3⟩ : ∃ y, w2.setCell ⟨fb, 8, none⟩ (.bool true) = y := ⟨_, rfl⟩
      rw [hw3] at hb3 ⊢
      have hb4 : Blk w3 fb 97 (fndC { f with cp := true }) := hb3
      have hE3 : wo.grownBy w3 none := by rw [← hw3]; exact g17_new HE2.out (gb_set (gb_refl w2 (some fb)) _ _) (by have := HFB.out; omega)
      have h3 := HS.out.st.ext ok hE3
      have HE3 := Lib.hid hE3
      have c9 : w3.cell? ⟨fb, 9, none⟩ = some (.string f.dt) := hb4.cell 9
      clear c8 f8 hb2 hb3 hw3 HE2
      have P := PR.out w3 s (k + 3 * j) h3 HS.out.cn (by omega) j f hfd
      have hstep : copyR c b L 0 m.n = if prgE c s b j f.pl f.sq f.kd f.te f.ep true f.dt = 0 then copyR c b (L.drop (j + 1)) (j + 1) (prgS c s b j f.pl f.sq f.kd f.te f.ep true f.dt) else (prgE c s b j f.pl f.sq f.kd f.te f.ep true f.dt, prgS c s b j f.pl f.sq f.kd f.te f.ep true f.dt) := by
        rw [HS.out.eq, HDR.out, copyR]
      have hcn2 := cnt_prg HS.out.cn b j f.pl f.sq f.kd f.te f.ep true f.dt (c := c)
      generalize prgE c s b j f.pl f.sq f.kd f.te f.ep true f.dt = er at *
      generalize prgS c s b j f.pl f.sq f.kd f.te f.ep true f.dt = s2 at *
      have HST := Lib.hid (And.intro hstep hcn2)
      clear hstep hcn2 h3 hE3
      by_cases h0 : er = 0
      · have h0' : (er != 0) = false := by simp [h0]
        have H0 := Lib.hid h0
        clear h0
        go_wp2_with (first
          | (refine tag_load17 rfl _ rfl rfl hb4 ?_)
          | (go_at_call 146; refine P.mono ?_; rintro e w4 ⟨rfl, hA4, hk4⟩))
        go_roundw
        case rel =>
          have hkk := (Keeps.ext (T := tS p c) HE3.out).trans hk4
          refine ⟨j + 1, s2, by omega, by go_num, hA4, HS.out.row.keeps hkk (by rw [show (Value.slice (some ⟨g, off, none⟩) n cap) = _ from rfl]; exact HN.out.2.1), HS.out.kp.trans hkk, by rw [HST.out.1, if_pos H0.out], HST.out.2.mono18 (by omega)⟩
        case measure => simp [intOf]; omega
      · have h0' : (er != 0) = true := by simpa using h0
        have H0 := Lib.hid h0
        clear h0
        go_wp2_with (first
          | (refine tag_load17 rfl _ rfl rfl hb4 ?_)
          | (go_at_call 146; refine P.mono ?_; rintro e w4 ⟨rfl, hA4, hk4⟩))
        go_ret
        have hq := HEM.out
        rw [HST.out.1, if_neg H0.out] at hq
        obtain ⟨rfl, rfl⟩ := hq
        exact ⟨rfl, hA4, (HS.out.kp.trans (Keeps.ext HE3.out)).trans hk4⟩
    · obtain rfl : j = n := by omega
      go_wp2
      go_ret
      have hq := HEM.out
      rw [HS.out.eq, List.drop_of_length_le (by rw [HN.out.1]; exact Nat.le_refl _), copyR] at hq
      obtain ⟨rfl, rfl⟩ := hq
      exact ⟨rfl, HS.out.st, HS.out.kp⟩
end

end Go.Proofs.YtfibpgfjlmlpaaaGreatDoor

/-
  Layer 18 (store): settle.
-/
namespace Go.Proofs.YtfibpgfjlmlpaaaGreatDoor
set_option linter.unusedVariables false
set_option linter.unusedSimpArgs false
set_option linter.unusedVariables false
set_option linter.unusedSimpArgs false
set_option maxRecDepth 100000
open Go.RowKit

/-- What stands while the copies are settled. -/
structure StlS (p : SP) (c : SC) (m : SM) (w0 wr : World) (v : Value) (L : List Fnd) (tg : Int) (j : Nat) (rs : List R14) : Prop where
  st : StAt wr p c { m with fr := tg, rs := rs }
  row : RowF wr v L
  kp : Keeps (tS p c) w0 wr
  eq : setlR c tg L 0 m.rs = setlR c tg (L.drop j) j rs

section
variable {w w' : World} {p : SP} {c : SC} {m : SM}

set_option maxHeartbeats 3200000 in
theorem settle18 (h : StAt w p c m) (ok : StOk p c) (tg : Int) (v : Value) (L : List Fnd) (hv : RowF w v L) (hvo : ∀ q, v.ownBlock = some q → tS p c q = 0) (hl : L.length ≤ 64) :
    Calls Tryz.prog 120 #[.pointer (some ⟨p.sb, 0, none⟩), .int .i64 tg, v] w (Gs p c (.int .i64 (setlR c tg L 0 m.rs).1) { m with fr := tg, rs := (setlR c tg L 0 m.rs).2 } w) := by
  have SE := Lib.hid (fun (wx : World) (rs : List R14) (hx : StAt wx p c { m with fr := tg, rs := rs }) (q b i : Int) => tabSet hx.tb q b i (by have := hx.tb.len; omega))
  have PL := Lib.hid (fun (wx : World) (rs : List R14) (hx : StAt wx p c { m with fr := tg, rs := rs }) (b i : Int) => tabPlace hx.tb b i)
  have hk0 : Keeps (tS p c) w (w.setCell ⟨p.sb, 10, none⟩ (.int .i64 tg)) := Keeps.own18 (gb_set (gb_refl w _) _ _) (.inl rfl)
  have c10 := h.cells.2.2.2.2.2.2.2.2.2.1
  have f10 := h.bk.free 10
  have HS := Lib.hid (show StlS p c m w (w.setCell ⟨p.sb, 10, none⟩ (.int .i64 tg)) v L tg 0 m.rs from ⟨h.setFr ok tg, hv.keeps hk0 hvo, hk0, rfl⟩)
  obtain ⟨ao, cap, hve, _⟩ := hv
  obtain ⟨n, hn⟩ : ∃ n, L.length = n := ⟨_, rfl⟩
  rw [hn] at hve hl
  subst hve
  have HN := Lib.hid (And.intro hn hvo)
  clear h hn hvo hk0
  obtain ⟨E, hE⟩ : ∃ z, (setlR c tg L 0 m.rs).1 = z := ⟨_, rfl⟩
  obtain ⟨M, hM⟩ : ∃ z : SM, { m with fr := tg, rs := (setlR c tg L 0 m.rs).2 } = z := ⟨_, rfl⟩
  rw [hE, hM]
  have HEM := Lib.hid (And.intro hE hM)
  clear hE hM
  go_enter Tryz.func120, Tryz.ntmps120
  go_upto_region 2 with fail
  clear c10 f10
  obtain ⟨w1, hw1⟩ : ∃ y, w.setCell ⟨p.sb, 10, none⟩ (.int .i64 tg) = y := ⟨_, rfl⟩
  rw [hw1] at HS ⊢
  clear hw1
  go_wp2
  go_loopw [17] (fun i wr => ∃ (j : Nat) (rs : List R14), j ≤ n ∧ i = .int .i64 j ∧ StlS p c m w wr (.slice ao n cap) L tg j rs) (fun i _ => n - (intOf i).toNat)
  case atStart => exact ⟨0, m.rs, by omega, rfl, HS.out⟩
  case round =>
    clear HS
    obtain ⟨j, rs, hj, rfl, hS⟩ := hrel
    obtain ⟨wo, rfl⟩ : ∃ wo : World, wo = wr := ⟨_, rfl⟩
    have HS := Lib.hid hS
    clear hS
    by_cases hlt : j < n
    · obtain ⟨f, hf⟩ : ∃ f, L.getD j noF = f := ⟨_, rfl⟩
      obtain ⟨ao2, cap2, hv2, hc2⟩ := HS.out.row
      obtain ⟨g, off, hao, hr⟩ := hc2 j (by rw [HN.out.1]; exact hlt)
      simp only [Value.slice.injEq] at hv2
      obtain ⟨rfl, -, -⟩ := hv2
      subst hao
      rw [hf] at hr
      have hjl : j < L.length := by rw [HN.out.1]; exact hlt
      have hdrop : L.drop j = f :: L.drop (j + 1) := by
        rw [List.drop_eq_getElem_cons hjl]
        rw [List.getD_eq_getElem?_getD, List.getElem?_eq_getElem hjl] at hf
        congr 1
      have HDR := Lib.hid hdrop
      have hBn := Blk.new wo 97 (fndC noF)
      clear hf hc2 hjl hdrop
      obtain ⟨fb, hfb⟩ : ∃ z, wo.heap.size = z := ⟨_, rfl⟩
      rw [hfb] at hBn
      have HFB := Lib.hid hfb
      have FR := HS.out.st.fresh (k := fb) (by omega)
      go_upto_region 5 with (first
        | (refine fnd_load rfl _ rfl rfl hr ?_)
        | (refine fnd_store _ _ rfl rfl rfl hBn rfl rfl ?_; intro w2 hb2 hg2 hs2; have hE2 := g17_new (World.grownBy_alloc wo _ none) hg2 (by omega); have HE2 := Lib.hid hE2; clear hBn hg2 hs2 hE2))
      clear hr hfb
      have h2 := HS.out.st.ext ok HE2.out
      have d0 : w2.cell? ⟨fb, 0, none⟩ = some (.int .i64 f.bk) := hb2.cell 0
      have d1 : w2.cell? ⟨fb, 1, none⟩ = some (.int .i64 f.pg) := hb2.cell 1
      have hS2 : w2.drew.cell? ⟨p.sb, 7, none⟩ = some (.pointer (some ⟨p.tb, 0, none⟩)) ∧ w2.drew.cell? ⟨fb, 0, none⟩ = some (.int .i64 f.bk) ∧ w2.drew.cell? ⟨fb, 1, none⟩ = some (.int .i64 f.pg) := ⟨h2.cells.2.2.2.2.2.2.1, d0, d1⟩
      have hd2 := h2.ext ok (Ext.drew w2)
      have P := PL.out w2.drew rs hd2 f.bk f.pg
      clear h2 d0 d1 hb2
      refine region_line [(0, true), (1, true), (2, true), (3, true), (4, true), (5, true), (6, true), (7, true), (8, false), (9, true)] (fun y => y.cell? ⟨p.sb, 7, none⟩ = some (.pointer (some ⟨p.tb, 0, none⟩)) ∧ y.cell? ⟨fb, 0, none⟩ = some (.int .i64 f.bk) ∧ y.cell? ⟨fb, 1, none⟩ = some (.int .i64 f.pg)) (by kernel_rfl) (by kernel_rfl) (fun _ _ _ d _ h => by cases d <;> exact h) hS2 ?_
      repeat (refine line_read (a' := ?_) rfl (by kernel_rfl) (by kernel_rfl) hS2 (fun y hy K hK => ?_) ?_; rotate_left; · obtain ⟨c7, d0, d1⟩ := hy; go_wp2; exact hK)
      refine line_act (by rfl) (fun K hK => ?_)
      go_wp2_with (go_at_call 127; refine P.mono ?_; rintro e w3 ⟨rfl, rfl⟩)
      refine hK _ _ (fun y => y.cell? ⟨p.sb, 7, none⟩ = some (.pointer (some ⟨p.tb, 0, none⟩)) ∧ y.cell? ⟨fb, 0, none⟩ = some (.int .i64 f.bk) ∧ y.cell? ⟨fb, 1, none⟩ = some (.int .i64 f.pg)) hS2 (fun _ h => h) ?_
      clear hK K
      repeat (refine line_read (a' := ?_) rfl (by kernel_rfl) (by kernel_rfl) hS2 (fun y hy K hK => ?_) ?_; rotate_left; · go_wp2; exact hK)
      refine line_end ?_
      have c7 := hS2.1
      have S2 := SE.out w2.drew rs hd2 (placeN rs f.bk f.pg) tg (j : Int)
      have hstep : setlR c tg L 0 m.rs = if setE c.bl.length c.S.pg rs (placeN rs f.bk f.pg) tg j = 0 then setlR c tg (L.drop (j + 1)) (j + 1) (setR c.bl.length c.S.pg rs (placeN rs f.bk f.pg) tg j) else (setE c.bl.length c.S.pg rs (placeN rs f.bk f.pg) tg j, rs) := by
        rw [HS.out.eq, HDR.out, setlR]
      have hsame : setE c.bl.length c.S.pg rs (placeN rs f.bk f.pg) tg j ≠ 0 → setR c.bl.length c.S.pg rs (placeN rs f.bk f.pg) tg j = rs := fun h => by unfold setR; rw [if_neg h]
      generalize placeN rs f.bk f.pg = pl at *
      generalize setE c.bl.length c.S.pg rs pl tg j = er at *
      generalize setR c.bl.length c.S.pg rs pl tg j = rs2 at *
      have HST := Lib.hid (And.intro hstep hsame)
      have HD2 := Lib.hid hd2
      clear hstep hsame hd2 hS2 P
      by_cases h0 : er = 0
      · have h0' : (er != 0) = false := by simp [h0]
        have H0 := Lib.hid h0
        clear h0
        go_wp2_with (go_at_call 98; refine S2.mono ?_; rintro e w4 ⟨rfl, hA4, hg4⟩)
        go_roundw
        case rel =>
          have hkk : Keeps (tS p c) wo w4 := (Keeps.ext (T := tS p c) (ext_trans HE2.out (Ext.drew w2))).trans (Keeps.own18 hg4 (.inr (.inl rfl)))
          exact ⟨j + 1, rs2, by omega, by go_num, HD2.out.tab ok hA4 hg4, HS.out.row.keeps hkk HN.out.2, HS.out.kp.trans hkk, by rw [HST.out.1, if_pos H0.out]⟩
        case measure => simp [intOf]; omega
      · have h0' : (er != 0) = true := by simpa using h0
        have H0 := Lib.hid h0
        clear h0
        go_wp2_with (go_at_call 98; refine S2.mono ?_; rintro e w4 ⟨rfl, hA4, hg4⟩)
        go_ret
        have hkk : Keeps (tS p c) wo w4 := (Keeps.ext (T := tS p c) (ext_trans HE2.out (Ext.drew w2))).trans (Keeps.own18 hg4 (.inr (.inl rfl)))
        have hq := HEM.out
        rw [HST.out.1, if_neg H0.out] at hq
        obtain ⟨rfl, rfl⟩ := hq
        have h4 := HD2.out.tab ok hA4 hg4
        rw [HST.out.2 H0.out] at h4
        exact ⟨rfl, h4, HS.out.kp.trans hkk⟩
    · obtain rfl : j = n := by omega
      go_wp2
      go_ret
      have hq := HEM.out
      rw [HS.out.eq, List.drop_of_length_le (by rw [HN.out.1]; exact Nat.le_refl _), setlR] at hq
      obtain ⟨rfl, rfl⟩ := hq
      exact ⟨rfl, HS.out.st, HS.out.kp⟩
end

end Go.Proofs.YtfibpgfjlmlpaaaGreatDoor
