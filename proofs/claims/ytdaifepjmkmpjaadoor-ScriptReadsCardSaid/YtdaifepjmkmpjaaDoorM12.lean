/-
  Texts put together: ScT.
-/
import Derived.Test.YtdaifepjmkmpjaaDoorM11
import Derived.Deep.CutBlock
/-
  Layer 25's reference: Parse: what it leaves, its beginning.
-/
namespace Go.Proofs.YtdaifepjmkmpjaaDoor
set_option linter.unusedVariables false
set_option linter.unusedSimpArgs false
set_option linter.unusedVariables false
set_option linter.unusedSimpArgs false
set_option maxRecDepth 100000
open Go.RowKit

abbrev nl25 : Value := .slice none 0 0
/-- What stands while lines are gone through. -/
structure PrM (w0 w : World) (rb sb g cap : Nat) (L : List (List UInt8)) (vs : Value) (V : Nat → Value) (vm : Value) (p : PSt) : Prop where
  res : Blk w rb 38 (stuC noStu (fun _ => nl25) nl25)
  stu : Blk w sb 38 (stuC p.s V vm)
  is : StuIs w p.s V vm
  sh : (∀ t, t < 4 → SliceV (V t)) ∧ SliceV vm
  lin : OwnS w0.heap.size w (.slice (some ⟨g, 0, none⟩) L.length cap) L
  stp : OwnP w0.heap.size w vs p.st
  grn : w0.grownBy w none
  lo : w0.heap.size ≤ rb ∧ w0.heap.size ≤ sb
  ne : rb ≠ sb ∧ g ≠ sb ∧ g ≠ rb
  vso : ∀ k, vs.ownBlock = some k → k ≠ rb ∧ k ≠ sb ∧ k ≠ g
  off : ∀ k, ((∃ t, t < 4 ∧ (V t).ownBlock = some k) ∨ vm.ownBlock = some k) → k ≠ sb ∧ vs.ownBlock ≠ some k ∧ k < w.heap.size
  of2 : ∀ k, ((∃ t, t < 4 ∧ (V t).ownBlock = some k) ∨ vm.ownBlock = some k) → k ≠ rb
  num : p.s.rng ∧ (∀ x ∈ p.st, x.rng ∧ x.d.length ≤ 2000) ∧ p.s.few ∧ -1 ≤ p.last ∧ p.last ≤ 3
section
variable {w0 w w' : World} {rb sb g cap : Nat} {L : List (List UInt8)} {vs : Value} {V : Nat → Value} {vm : Value} {p : PSt}
theorem PrM.ext (h : PrM w0 w rb sb g cap L vs V vm p) (hg : w.grownBy w' none) : PrM w0 w' rb sb g cap L vs V vm p :=
  ⟨h.res.ext hg, h.stu.ext hg, h.is.ext hg, h.sh, own_kept25 h.lin hg (by simp), own_kept25 h.stp hg (by simp), ext_trans h.grn hg, h.lo, h.ne, h.vso, fun k hk => ⟨(h.off k hk).1, (h.off k hk).2.1, Nat.lt_of_lt_of_le (h.off k hk).2.2 hg.size⟩, h.of2, h.num⟩
/-- The setup is turned. -/
theorem PrM.turn (h : PrM w0 w rb sb g cap L vs V vm p) {q : PSt} {U : Nat → Value} {um : Value} (hg : w.grownBy w' (some sb)) (hq : q.st = p.st) (hb : Blk w' sb 38 (stuC q.s U um)) (hi : StuIs w q.s U um) (hsh : (∀ t, t < 4 → SliceV (U t)) ∧ SliceV um)
    (hof : ∀ k, ((∃ t, t < 4 ∧ (U t).ownBlock = some k) ∨ um.ownBlock = some k) → k ≠ sb ∧ vs.ownBlock ≠ some k ∧ k < w.heap.size) (hf2 : ∀ k, ((∃ t, t < 4 ∧ (U t).ownBlock = some k) ∨ um.ownBlock = some k) → k ≠ rb) (hn : q.s.rng ∧ q.s.few ∧ -1 ≤ q.last ∧ q.last ≤ 3) : PrM w0 w' rb sb g cap L vs U um q :=
  ⟨h.res.kept hg (by have := h.ne.1; simpa using this), hb,
   ⟨fun t ht => (hi.f t ht).kept hg (fun k hk e => by injection e with e; exact (hof k (.inl ⟨t, ht, hk⟩)).1 e), hi.m.kept hg (fun k hk e => by injection e with e; exact (hof k (.inr hk)).1 e)⟩,
   hsh, own_kept25 h.lin hg (fun k hk e => by injection e with e; injection hk with hk; have := h.ne.2.1; simp only at hk; omega), hq ▸ own_kept25 h.stp hg (fun k hk e => by injection e with e; exact (h.vso k hk).2.1 e),
   grown_trans h.grn hg (fun k hk hlt => by injection hk with hk; have := h.lo.2; omega), h.lo, h.ne, h.vso,
   fun k hk => ⟨(hof k hk).1, (hof k hk).2.1, Nat.lt_of_lt_of_le (hof k hk).2.2 hg.size⟩, hf2, ⟨hn.1, by rw [hq]; exact h.num.2.1, hn.2.1, hn.2.2⟩⟩
/-- A step is appended. -/
theorem PrM.app (h : PrM w0 w rb sb g cap L vs V vm p) {v' : Value} {x : Stp} (hg : w.grownBy w' vs.ownBlock) (ho : OwnP w0.heap.size w' v' (p.st ++ [x])) (hv : v'.ownBlock = vs.ownBlock ∨ v'.ownBlock = some w.heap.size) (hx : x.rng ∧ x.d.length ≤ 2000) : PrM w0 w' rb sb g cap L v' V vm { p with st := p.st ++ [x] } := by
  have hle : ∀ k, vs.ownBlock = some k → w0.heap.size ≤ k := fun k hk => (h.stp.lt k hk).1
  have hlb : sb < w.heap.size := h.stu.lt
  have hlr : rb < w.heap.size := h.res.lt
  have hlg : g < w.heap.size := (h.lin.lt g rfl).2
  exact ⟨h.res.kept hg (fun e => (h.vso rb e.symm).1 rfl), h.stu.kept hg (fun e => (h.vso sb e.symm).2.1 rfl),
   ⟨fun t ht => (h.is.f t ht).kept hg (fun k hk e => (h.off k (.inl ⟨t, ht, hk⟩)).2.1 e.symm), h.is.m.kept hg (fun k hk e => (h.off k (.inr hk)).2.1 e.symm)⟩,
   h.sh, own_kept25 h.lin hg (fun k hk e => by injection hk with hk; simp only at hk; exact (h.vso k e.symm).2.2 hk.symm), ho,
   grown_trans h.grn hg (fun k hk hlt => by have := hle k hk; omega), h.lo, h.ne,
   fun k hk => by
    rcases hv with e | e
    · exact h.vso k (e ▸ hk)
    · rw [e] at hk; injection hk with hk; omega,
   fun k hk => by
    have h1 := h.off k hk
    refine ⟨h1.1, fun e => ?_, Nat.lt_of_lt_of_le h1.2.2 hg.size⟩
    rcases hv with e2 | e2
    · exact h1.2.1 (e2 ▸ e)
    · rw [e2] at e; injection e with e; omega,
   h.of2, ⟨h.num.1, fun y hy => by
    rcases List.mem_append.1 hy with hy | hy
    · exact h.num.2.1 y hy
    · simp only [List.mem_singleton] at hy; subst hy; exact hx, h.num.2.2.1, h.num.2.2.2⟩⟩
end
/-- What Parse answers. -/
def ParA (l : List UInt8) (w : World) (e : Ending) (w' : World) : Prop := ∃ V vm v, e = .returned (.tuple #[.agg (stuC (parseL l).1 V vm), v, .int .i64 (parseL l).2.2]) ∧ StuIs w' (parseL l).1 V vm ∧ (∃ a cap, v = .slice a (parseL l).2.1.length cap ∧ StpR w' a (parseL l).2.1) ∧ ((parseL l).1.rng ∧ (parseL l).1.few ∧ (∀ x ∈ (parseL l).2.1, x.rng ∧ x.d.length ≤ 2000) ∧ (parseL l).2.1.length ≤ 1600) ∧ w.grownBy w' none
theorem noStu_rng : noStu.rng := ⟨by simp [noStu, i64B], by simp [noStu, i64B], by simp [noStu, i64B], by simp [noStu, i64B], by simp [noStu], by simp [noStu]⟩
theorem noStu_few : noStu.few := ⟨by simp [noStu], by simp [noStu]⟩
theorem parA_no {l : List UInt8} {w w' : World} (h : parseE l = none) (hg : w.grownBy w' none) : ParA l w (.returned (.tuple #[.agg (stuC noStu (fun _ => nl25) nl25), nl25, .int .i64 2])) w' := by
  have hp : parseL l = (noStu, [], 2) := by unfold parseL; rw [h]
  unfold ParA
  rw [hp]
  exact ⟨fun _ => nl25, nl25, nl25, rfl, ⟨fun t _ => .inl ⟨rfl, rfl⟩, .inl ⟨rfl, rfl⟩⟩, ⟨none, 0, rfl, fun i hi => by simp at hi⟩, ⟨noStu_rng, noStu_few, by simp, by simp⟩, hg⟩
theorem results_cell25_3 {P : Program} {fn : Func} {p t u : Tmp} {ty : TypeId} {tmps : Array Value} {w : World} {g : Nat} {bt : TypeId} {cs : Array Value} {v z : Value} {d : TypeDesc} (h : fn.results = #[.cell p ty, .tmp t, .tmp u])
    (hp : tmps.getD p undef = .pointer (some ⟨g, 0, none⟩)) (hv : tmps.getD t undef = v) (hz : tmps.getD u undef = z) (hg : w.heap[g]? = some (.cells cs bt (0, 0)))
    (hu : P.underlying ty = some d) (hd : (match d with | .struct _ | .array _ _ => true | _ => false) = true) (hi : (P.info? ty).map (·.size) = some cs.size) :
    (results fn tmps).run P w = .ok (.tuple #[.agg cs, v, z]) w := by
  have hp' : tmps[p]?.getD undef = .pointer (some ⟨g, 0, none⟩) := by simpa using hp
  have hv' : tmps[t]?.getD undef = v := by simpa using hv
  have hz' : tmps[u]?.getD undef = z := by simpa using hz
  simp [results, h, hp', hv', hz', asAddr, run_loadVar_row w g bt ty cs (0, 0) d hg hu hd hi]
theorem slv_nl : SliceV nl25 := ⟨none, 0, 0, rfl⟩
theorem take_dropLast25 (s : ByteArray) : (s.extract 0 (s.size - 1)).data.toList = s.data.toList.dropLast := by
  rw [Lib.extract_data, List.drop_zero, List.dropLast_eq_take]
  congr 1
theorem Tryd.sizeGeo25 : (Tryd.prog.info? 34).map (·.size) = some 4 := by kernel_rfl
theorem ownI_open25 {B : Nat} {w : World} {v : Value} {l : List Int} (h : OwnI25 B w v l) (h0 : 0 < l.length) : ∃ g cap, v = .slice (some ⟨g, 0, none⟩) l.length cap ∧ B ≤ g ∧ g < w.heap.size ∧ l.length ≤ cap ∧ ∀ i, i < l.length → w.cell? ⟨g, i, none⟩ = some (.int .i64 (l.getD i 0)) := by
  have hlt := h.lt
  rcases h.2 with ⟨rfl, h1⟩ | ⟨g, cap, cur, rfl, h2, h3, h4, _, _, h7⟩
  · omega
  · refine ⟨g, cap, rfl, h2, (Array.getElem?_eq_some_iff.1 h3).1, h4, fun i hi => ?_⟩
    have h8 : (cur.toList.take (l.length * 1))[i]? = (l.map (Value.int .i64))[i]? := by rw [h7]
    rw [List.getElem?_take, if_pos (by omega), Array.getElem?_toList, List.getElem?_map, List.getElem?_eq_getElem hi] at h8
    rw [cell_of_row w g i cur _ (0, 0) h3, h8]
    simp [List.getD_eq_getElem?_getD, List.getElem?_eq_getElem hi]
theorem own_ints25 {B : Nat} {w : World} {v : Value} {l : List Int} (h : OwnI25 B w v l) : Ints w v l := by
  by_cases h0 : 0 < l.length
  · obtain ⟨g, cap, rfl, _, _, hc, hcl⟩ := ownI_open25 h h0
    exact .inr (.inl ⟨g, 0, cap, rfl, hc, fun i hi => by rw [Nat.zero_add]; exact hcl i hi⟩)
  · obtain rfl : l = [] := List.length_eq_zero_iff.1 (by omega)
    rcases h.2 with ⟨rfl, _⟩ | ⟨g, cap, cur, rfl, _⟩
    · exact .inl ⟨rfl, rfl⟩
    · exact .inr (.inr ⟨_, cap, rfl, rfl⟩)
theorem geo_store25 {ops : Array Oper} {rest : List Oper} {o : Oper} {a : Act} {w : World} {Q : Exit → Act → World → Prop} (hwt : Region.wanted o (yielded ops a.tmps) = true) (x y : Operand) (ho : o.op = .store 34 x y) {g : Nat} {s : Stu} {V : Nat → Value} {vm : Value} {c d b q : Int} (hx : a.eval x = .pointer (some ⟨g, 0, none⟩)) (hy : a.eval y = .agg #[.int .i64 c, .int .i64 d, .int .i64 b, .int .i64 q]) (hg : Blk w g 38 (stuC s V vm))
    (h : ∀ w', Blk w' g 38 (stuC { s with c := c, d := d, b := b, p := q } V vm) → w.grownBy w' (some g) → w'.heap.size = w.heap.size → wpList Tryd.prog ops Q rest (a.put o.dst undef) w') : wpList Tryd.prog ops Q (o :: rest) a w :=
  wpList_store_part hwt _ x y ho g 0 4 _ hx hy _ (stuC s V vm) _ hg rfl Tryd.sizeGeo25 (by show 0 + 4 ≤ 9; omega) (by simp [Value.oneCell']) (by simp [stuC]) h
theorem tailI25 (z : World) (g n cap : Nat) (h : 2 ≤ n) (hc : n ≤ cap) : (Instr.slice 35 (.slice (some ⟨g, 0, none⟩) n cap) (some (.int .i64 1)) none none).run Tryd.prog z = .ok (.slice (some ⟨g, 1, none⟩) (n - 1) (cap - 1)) z := by
  obtain ⟨m, rfl⟩ : ∃ m, n = m + 1 := ⟨n - 1, by omega⟩
  have h1 : ¬ cap = 1 := by omega
  simp [go_sem, h1]
  intro h1; exfalso; omega
theorem stuC_setF (s : Stu) (V : Nat → Value) (vm v : Value) (q : Nat) (h : q < 4) (r : List Int) : (stuC s V vm).setIfInBounds (4 + q) v = stuC { s with f := updF25 s.f q r } (fun t => if t = q then v else V t) vm := by
  obtain rfl | rfl | rfl | rfl : q = 0 ∨ q = 1 ∨ q = 2 ∨ q = 3 := by omega
  all_goals rfl
theorem stuC_setM (s : Stu) (V : Nat → Value) (vm v : Value) (r : List Int) : (stuC s V vm).setIfInBounds 8 v = stuC { s with m := r } V v := rfl
theorem stuC_atF (s : Stu) (V : Nat → Value) (vm : Value) (q : Nat) (h : q < 4) : (stuC s V vm)[4 + q]? = some (V q) := by
  obtain rfl | rfl | rfl | rfl : q = 0 ∨ q = 1 ∨ q = 2 ∨ q = 3 := by omega
  all_goals rfl
theorem parA_ok {l : List UInt8} {w w' : World} {p : PSt} {V : Nat → Value} {vm v : Value} {a : Option Addr} {cap : Nat} (h : parseE l = some p) (hs : StuIs w' p.s V vm) (hv : v = .slice a p.st.length cap) (hr : StpR w' a p.st) (hn : p.s.rng ∧ (∀ x ∈ p.st, x.rng ∧ x.d.length ≤ 2000) ∧ p.s.few) (hl : p.st.length ≤ 1600) (hg : w.grownBy w' none) : ParA l w (.returned (.tuple #[.agg (stuC p.s V vm), v, .int .i64 0])) w' := by
  have hp : parseL l = (p.s, p.st, 0) := by unfold parseL; rw [h]; simp only; rw [if_neg (by omega)]
  unfold ParA
  rw [hp]
  exact ⟨V, vm, v, rfl, hs, ⟨a, cap, hv, hr⟩, ⟨hn.1, hn.2.2, hn.2.1, hl⟩, hg⟩
theorem parA_end {l : List UInt8} {w w6 w9 : World} {rb sb g cap : Nat} {L : List (List UInt8)} {aS : Option Addr} {ns cS : Nat} {V : Nat → Value} {vm : Value} {p : PSt} (h : parseE l = some p) (hM : PrM w w6 rb sb g cap L (.slice aS p.st.length cS) V vm p) (hb : Blk w9 rb 38 (stuC p.s V vm)) (hg : w6.grownBy w9 (some rb)) (hn : p.st.length = ns) (hl : ns ≤ 1600) : ParA l w (.returned (.tuple #[.agg (stuC p.s V vm), .slice aS ns cS, .int .i64 0])) w9 := by
  obtain ⟨a, c, he, hr⟩ := OwnP.read (l := p.st) (own_kept25 hM.stp hg (fun k hk e => by injection e with e; exact (hM.vso k hk).1 e))
  injection he with he1 _ he2
  subst he1 he2
  have hof := hM.of2
  refine parA_ok h ⟨fun t ht => (hM.is.f t ht).kept hg (fun k hk e => by injection e with e; exact hof k (.inl ⟨t, ht, hk⟩) e), hM.is.m.kept hg (fun k hk e => by injection e with e; exact hof k (.inr hk) e)⟩ (by rw [hn]) hr ⟨hM.num.1, hM.num.2.1, hM.num.2.2.1⟩ (by omega) (grown_trans hM.grn hg (fun k hk hlt => by injection hk with hk; have := hM.lo.1; omega))
theorem tailS25 (z : World) (g n cap : Nat) (A : Option Addr) (hA : (if cap = 1 then some ⟨g, 0, none⟩ else some ⟨g, 1, none⟩ : Option Addr) = A) : (Instr.slice 46 (.slice (some ⟨g, 0, none⟩) (n + 1) cap) (some (.int .i64 1)) none none).run Tryd.prog z = .ok (.slice A n (cap - 1)) z := by
  subst hA
  by_cases h : cap = 1 <;> (simp [go_sem, h]; intro h1; exfalso; omega)
set_option maxHeartbeats 6400000 in
theorem parse25 (w : World) (s : ByteArray) (hs : s.size ≤ 1500) :
    Calls Tryd.prog 13 #[.string s] w (ParA s.data.toList w) := by
  have B0 := Blk.new w 38 (stuC noStu (fun _ => nl25) nl25)
  have E0 := World.grownBy_alloc w (.cells (stuC noStu (fun _ => nl25) nl25) 38) none
  obtain ⟨w1, hw1⟩ : ∃ z, w.alloc (.cells #[.int .i64 0, .int .i64 0, .int .i64 0, .int .i64 0, .slice none 0 0, .slice none 0 0, .slice none 0 0, .slice none 0 0, .slice none 0 0] 38) = z := ⟨_, rfl⟩
  have B0 : Blk w1 w.heap.size 38 (stuC noStu (fun _ => nl25) nl25) := hw1 ▸ B0
  have E0 : w.grownBy w1 none := hw1 ▸ E0
  have HW := Lib.hid hw1
  have HB0 := Lib.hid B0
  have HE0 := Lib.hid E0
  clear hw1 B0 E0
  obtain ⟨rb, hrb⟩ : ∃ n, w.heap.size = n := ⟨_, rfl⟩
  have B0 := HB0.out
  rw [hrb] at B0
  have HRB := Lib.hid hrb
  clear HB0 hrb
  go_enter Tryd.func13, Tryd.ntmps13
  go_upto_region 1 with fail
  rw [HW.out, HRB.out]
  by_cases h0 : s.size = 0
  · have hl : s.toList = [] := by rw [ByteArray.toList_eq]; exact List.length_eq_zero_iff.1 (by simpa using h0)
    have hl2 : s.toList.isEmpty = true := by simpa using hl
    have HP := Lib.hid (show parseE s.data.toList = none from by rw [← ByteArray.toList_eq, hl]; rfl)
    clear h0 hl
    go_wp2_with (first | (refine stu_store (s := noStu) (V := fun _ => nl25) (vm := nl25) rfl _ _ rfl rfl (fun _ _ => slv_nl) slv_nl rfl B0 rfl ?_; intro w9 hb9 hg9 hs9))
    refine bodyPost_ret (v := .tuple #[.agg (stuC noStu (fun _ => nl25) nl25), nl25, .int .i64 2]) (results_cell25_3 (fn := Tryd.f13) rfl rfl rfl rfl hb9 Tryd.underlying38 rfl Tryd.sizeStu25) rfl ?_
    exact parA_no HP.out (grown_trans HE0.out hg9 (fun k hk hlt => by injection hk with hk; have := HRB.out; omega))
  · have hpos : 0 < s.size := by omega
    have hl2 : s.toList.isEmpty = false := by
      have : s.toList ≠ [] := by rw [ByteArray.toList_eq]; intro h; exact h0 (by have := congrArg List.length h; simpa using this)
      simpa using this
    have hix : s.size - 1 < s.size := by omega
    obtain ⟨c, hc⟩ : ∃ c : Nat, (s[s.size - 1]'hix).toNat = c := ⟨_, rfl⟩
    have HC := Lib.hid (show s.data.toList.getLast? = some (s[s.size - 1]'hix) from by
      rw [List.getLast?_eq_getElem?, show s.data.toList.length - 1 = s.size - 1 by simp, List.getElem?_eq_getElem (by simpa using hix)]; rfl)
    have HC2 := Lib.hid hc
    clear h0
    by_cases h10 : c = 10
    · have b1 : ((c : Int) == 10) = true := by rw [beq_iff_eq]; omega
      obtain ⟨t, ht⟩ : ∃ t, s.extract 0 (s.size - 1) = t := ⟨_, rfl⟩
      have htl : t.data.toList = s.data.toList.dropLast := by rw [← ht]; exact take_dropLast25 s
      have hts : t.size ≤ 1500 := by have := congrArg List.length htl; simp at this; omega
      have HP := Lib.hid (show parseE s.data.toList = linesP (splitL 10 t.data.toList) 0 noPSt from by
        unfold parseE
        rw [if_pos (by rw [HC.out, show (s[s.size - 1]'hix) = 10 from UInt8.toNat_inj.1 (by rw [hc, h10]; rfl)]), htl])
      have HTS := Lib.hid hts
      clear h10 htl
      go_upto_region 4 with (go_at_call 29; refine (split10 _ t (by omega)).mono ?_; rintro e w2 ⟨v, rfl, hO, hnv, hg2⟩; have HO := Lib.hid hO; have HG2 := Lib.hid hg2; obtain ⟨g, cap, rfl, -⟩ := hO.open hnv; clear hO hg2 hnv)
      have hM0 : PrM w (w2.alloc (.cells (stuC noStu (fun _ => nl25) nl25) 38)) rb w2.heap.size g cap (splitL 10 t.data.toList) nl25 (fun _ => nl25) nl25 noPSt := by
        have hlt := B0.lt
        have hs2 := HG2.out.size
        have hg := HO.out.lt g rfl
        have hE := ext_trans HE0.out HG2.out
        exact ⟨(B0.ext HG2.out).alloc _, Blk.new w2 _ _, ⟨fun t _ => .inl ⟨rfl, rfl⟩, .inl ⟨rfl, rfl⟩⟩, ⟨fun _ _ => slv_nl, slv_nl⟩,
          own_kept25 (own_le25' HO.out HE0.out.size) (World.grownBy_alloc w2 _ none) (by simp), ⟨rfl, .inl ⟨rfl, rfl⟩⟩, ext_trans hE (World.grownBy_alloc w2 _ none),
          ⟨by have := HRB.out; omega, hE.size⟩, ⟨by omega, by omega, by omega⟩, fun k hk => by simp [Value.ownBlock] at hk, fun k hk => by (rcases hk with ⟨_, _, hk⟩ | hk <;> simp [Value.ownBlock] at hk), fun k hk => by (rcases hk with ⟨_, _, hk⟩ | hk <;> simp [Value.ownBlock] at hk),
          ⟨noStu_rng, by simp [noPSt], noStu_few, by simp [noPSt], by simp [noPSt]⟩⟩
      obtain ⟨w3, hw3⟩ : ∃ z, w2.alloc (.cells (stuC noStu (fun _ => nl25) nl25) 38) = z := ⟨_, rfl⟩
      have hw3' : w2.alloc (.cells #[.int .i64 0, .int .i64 0, .int .i64 0, .int .i64 0, .slice none 0 0, .slice none 0 0, .slice none 0 0, .slice none 0 0, .slice none 0 0] 38) = w3 := hw3
      obtain ⟨sb, hsb⟩ : ∃ n, w2.heap.size = n := ⟨_, rfl⟩
      rw [hw3, hsb] at hM0
      obtain ⟨L, hL⟩ : ∃ L, splitL 10 t.data.toList = L := ⟨_, rfl⟩
      rw [hL] at hM0 ⊢
      have hLl : L.length ≤ 1501 := by rw [← hL]; have := splitL_length (b := 10) t.data.toList; have : t.data.toList.length = t.size := by simp
                                       omega
      have hLw : ∀ x ∈ L, x.length ≤ 1500 := fun x hx => by
        have := splitL_mem (b := 10) t.data.toList x (hL ▸ hx); have : t.data.toList.length = t.size := by simp
        omega
      have HLW := Lib.hid hLw
      have HPL := Lib.hid (show parseE s.data.toList = linesP L 0 noPSt from by rw [HP.out, hL])
      have HM0 := Lib.hid hM0
      have HW3 := Lib.hid hw3'
      have HSB := Lib.hid hsb
      clear hL hLw hM0 hw3 hw3' hsb ht hts HP HO HG2 B0 HW HE0
      go_upto_region 5 with fail
      rw [HW3.out, HSB.out]
      clear HW3 HSB
      go_wp2
      go_loopw [7, 8, 35] (fun st last i wr => ∃ (k : Nat) (p : PSt) (vs : Value) (V : Nat → Value) (vm : Value), k ≤ L.length ∧ i = .int .i64 k ∧ vs = st ∧ last = .int .i64 p.last ∧ linesP (L.take k) 0 noPSt = some p ∧ p.st.length ≤ k ∧ PrM w wr rb sb g cap L vs V vm p) (fun _ _ i _ => L.length - (intOf i).toNat)
      case atStart => exact ⟨0, noPSt, _, _, _, by omega, rfl, rfl, rfl, rfl, by simp [noPSt], HM0.out⟩
      case round =>
        obtain ⟨k, p, vs, V, vm, hk, rfl, rfl, rfl, hp, hpl, hM⟩ := hrel
        have HP := Lib.hid (And.intro hp hpl)
        have HM := Lib.hid hM
        clear hp hM hpl
        obtain ⟨aS, cS, rfl, -⟩ := HM.out.stp.read
        by_cases hlt : k < L.length
        · obtain ⟨x, hx⟩ : ∃ x, L.getD k [] = x := ⟨_, rfl⟩
          have hc := HM.out.lin.cells.2 k hlt
          rw [hx] at hc
          have hx2 : L[k]? = some x := by rw [← hx, List.getD_eq_getElem?_getD, List.getElem?_eq_getElem hlt]; rfl
          have hxl := HLW.out x (List.mem_of_getElem? hx2)
          have HX := Lib.hid (show L.take (k + 1) = L.take k ++ [x] from by rw [List.take_add_one, hx2]; rfl)
          have HX2 := Lib.hid (show L = L.take k ++ x :: L.drop (k + 1) from by
            rw [← List.singleton_append, ← List.append_assoc, ← HX.out, List.take_append_drop])
          obtain ⟨last, hlast⟩ : ∃ z, p.last = z := ⟨_, rfl⟩
          rw [hlast]
          have HLA := Lib.hid hlast
          clear hx hx2 hlast
          go_upto_region 11 with (go_at_call 29; refine (split32 _ (bs x) (by rw [bs_size]; omega)).mono ?_; rintro e w4 ⟨v4, rfl, hO4, hnv4, hg4⟩; rw [bs_data] at hO4; clear hc)
          obtain ⟨W, hW⟩ : ∃ W, splitL 32 x = W := ⟨_, rfl⟩
          rw [hW] at hO4
          obtain ⟨g2, cap2, rfl, hgB, hcap2, -, -, hc4⟩ := hO4.open hnv4
          obtain ⟨n, hn⟩ : ∃ n, W.length = n + 1 := by
            cases hw : W with
            | nil => exact absurd (hW.trans hw) (splitL_ne 32 x)
            | cons a l => exact ⟨l.length, rfl⟩
          have hWl : n ≤ 1500 := by have := splitL_length (b := 32) x; rw [hW, hn] at this; omega
          have hWw : ∀ y ∈ W.tail, y.length ≤ 10000 := fun y hy => by have := splitL_mem (b := 32) x y (hW ▸ List.mem_of_mem_tail hy); omega
          have hWn : W.tail.length = n := by rw [List.length_tail, hn]; omega
          obtain ⟨A, hA⟩ : ∃ A : Option Addr, (if cap2 = 1 then some ⟨g2, 0, none⟩ else some ⟨g2, 1, none⟩) = A := ⟨_, rfl⟩
          have hT : TxR w4 A (W.tail.map bs) := fun i hi => by
            have hi' : i < n := by rw [List.length_map, hWn] at hi; exact hi
            rw [if_neg (by omega)] at hA
            refine ⟨g2, 1, hA.symm, ?_⟩
            have h1 := hc4 (1 + i) (by omega)
            rw [h1]
            cases W with
            | nil => simp at hn
            | cons a l =>
              have hil : i < l.length := by simp at hn; omega
              rw [Nat.add_comm]; simp [List.getD_eq_getElem?_getD, hil]
          have hsl : ∀ z : World, (Instr.slice 46 (.slice (some ⟨g2, 0, none⟩) (n + 1) cap2) (some (.int .i64 1)) none none).run Tryd.prog z = .ok (.slice A n (cap2 - 1)) z := fun z => tailS25 z g2 n cap2 A hA
          obtain ⟨x0, hx0⟩ : ∃ x0, W.getD 0 [] = x0 := ⟨_, rfl⟩
          have hc0 := hc4 0 (by omega)
          rw [hx0] at hc0
          have HX0 := Lib.hid (show (splitL 32 x).headD [] = x0 from by rw [hW, ← hx0]; cases W <;> rfl)
          have HV := Lib.hid (values25 w4 A (cap2 - 1) W.tail hT (by omega) hWw)
          have HWN := Lib.hid (And.intro hWn (And.intro hW hn))
          have HM4 := Lib.hid (HM.out.ext hg4)
          have HC0 := Lib.hid hc0
          rw [hn]
          rw [hWn] at HV
          clear hT hx0 hc0 hW hn hWn hWw hc4 hO4 hnv4 hg4 hA hgB HM
          go_upto_block 2 with (go_at_call 34; refine HV.out.mono ?_; rintro e w6 ⟨vv, l, ok, rfl, hOv, hv1, hv2, hv3, hv4, hg6⟩)
          have HM6 := Lib.hid (HM4.out.ext hg6)
          have hc0 := hg6.cell HC0.out (by simp)
          obtain ⟨ao, ac, rfl⟩ := owns_shape25 hOv
          have HOV := Lib.hid (ownsRow_le hOv HM4.out.grn.size)
          have HOB := Lib.hid (fun k hk => hOv.lt k hk)
          have HVA := Lib.hid (And.intro (show ok = true → valsOf (splitL 32 x).tail = some l from fun h => by rw [HWN.out.2.1]; exact hv1 h) (And.intro (show ok = false → valsOf (splitL 32 x).tail = none from fun h => by rw [HWN.out.2.1]; exact hv2 h) (And.intro hv3 hv4)))
          have hll : l.length ≤ 1500 := by have := HWN.out.1; omega
          have HTK : (L.take k).length = k := by simp; omega
          have HN := Lib.hid (show lineP k x p = none → parseE s.data.toList = none from fun h => by
            rw [HPL.out, HX2.out]
            exact linesP_stop HP.out.1 (by rw [HTK]; exact h))
          have HYS := Lib.hid (show ∀ q, lineP k x p = some q → linesP (L.take (k + 1)) 0 noPSt = some q from fun q h => by
            rw [HX.out, linesP_snoc HP.out.1, HTK]; exact h)
          have HGR := Lib.hid (show ∀ w9, w6.grownBy w9 (some rb) → w.grownBy w9 none from fun w9 hg9 => grown_trans HM6.out.grn hg9 (fun q hq hlt => by injection hq with hq; have := HRB.out; omega))
          have hI := fun (h : 0 < l.length) => ownI_open25 hOv h
          have HII := Lib.hid hI
          clear hOv hv1 hv2 hv3 hv4 HTK HV HC0 hI
          by_cases hk0 : k = 0
          · have bk : ((k : Int) == 0) = true := by rw [beq_iff_eq]; omega
            have HK0 := Lib.hid hk0
            clear hk0
            by_cases h1 : x0 = arrayS
            · have b1 : ((bs x0).toList == [97, 114, 114, 97, 121]) = true := by rw [bs_toList, beq_iff_eq]; exact h1
              have HXA := Lib.hid (HX0.out.trans h1)
              clear h1
              cases ok
              · have HF := Lib.hid (HN.out (by rw [HK0.out]; exact headS_none (HVA.out.2.1 rfl)))
                have hres := HM6.out.res
                go_wp2_with (first | (refine stu_store (s := noStu) (V := fun _ => nl25) (vm := nl25) rfl _ _ rfl rfl (fun _ _ => slv_nl) slv_nl rfl hres rfl ?_; intro w9 hb9 hg9 hs9))
                refine bodyPost_ret (v := .tuple #[.agg (stuC noStu (fun _ => nl25) nl25), nl25, .int .i64 2]) (results_cell25_3 (fn := Tryd.f13) rfl rfl rfl rfl hb9 Tryd.underlying38 rfl Tryd.sizeStu25) rfl ?_
                exact parA_no HF.out (HGR.out w9 hg9)
              · by_cases h4 : l.length = 4
                · obtain ⟨gv, gcap, he, hgvB, hgvl, hgvc, hcl⟩ := HII.out (by omega)
                  injection he with he1 _ he2
                  subst he1 he2
                  obtain ⟨e0, e1, e2, e3, hl4⟩ : ∃ a b c d, l = [a, b, c, d] := by
                    match l, h4 with
                    | [a, b, c, d], _ => exact ⟨a, b, c, d, rfl⟩
                  have HF := Lib.hid (HYS.out _ (by rw [HK0.out]; exact headS_yes ((HVA.out.1 rfl).trans (congrArg some hl4)) HXA.out))
                  have v0 : w6.cell? ⟨gv, 0, none⟩ = some (.int .i64 e0) := (hcl 0 (by omega)).trans (by rw [hl4]; rfl)
                  have v1 : w6.cell? ⟨gv, 1, none⟩ = some (.int .i64 e1) := (hcl 1 (by omega)).trans (by rw [hl4]; rfl)
                  have v2 : w6.cell? ⟨gv, 2, none⟩ = some (.int .i64 e2) := (hcl 2 (by omega)).trans (by rw [hl4]; rfl)
                  have v3 : w6.cell? ⟨gv, 3, none⟩ = some (.int .i64 e3) := (hcl 3 (by omega)).trans (by rw [hl4]; rfl)
                  have HRE := Lib.hid (show i64B e0 ∧ i64B e1 ∧ i64B e2 ∧ i64B e3 from ⟨HVA.out.2.2.1 e0 (by rw [hl4]; simp), HVA.out.2.2.1 e1 (by rw [hl4]; simp), HVA.out.2.2.1 e2 (by rw [hl4]; simp), HVA.out.2.2.1 e3 (by rw [hl4]; simp)⟩)
                  have hl3 : 3 < l.length := by omega
                  have b4 : ((l.length : Int) == 4) = true := by rw [beq_iff_eq]; omega
                  have hS : (fun z : World => z.cell? ⟨gv, 0, none⟩ = some (.int .i64 e0) ∧ z.cell? ⟨gv, 1, none⟩ = some (.int .i64 e1) ∧ z.cell? ⟨gv, 2, none⟩ = some (.int .i64 e2) ∧ z.cell? ⟨gv, 3, none⟩ = some (.int .i64 e3)) w6.drew := ⟨v0, v1, v2, v3⟩
                  have hst := (HM6.out.ext (Ext.drew w6)).stu
                  have hgsb : gv ≠ sb := by have := HM4.out.stu.lt; omega
                  clear h4 hl4 hcl v0 v1 v2 v3
                  go_wp2
                  clear b1 b4 bk hll hc0 hgvc hgvl hgvB
                  refine region_line [(0, true), (1, true), (2, true), (3, true), (4, true), (5, true), (6, true), (7, true), (8, true), (9, true), (10, true), (11, true), (12, true), (13, true), (14, false)] (fun z : World => z.cell? ⟨gv, 0, none⟩ = some (.int .i64 e0) ∧ z.cell? ⟨gv, 1, none⟩ = some (.int .i64 e1) ∧ z.cell? ⟨gv, 2, none⟩ = some (.int .i64 e2) ∧ z.cell? ⟨gv, 3, none⟩ = some (.int .i64 e3)) (by kernel_rfl) (by kernel_rfl) (fun _ _ _ d _ h => by cases d <;> exact h) hS ?_
                  iterate 14 (refine line_read (a' := ?_) rfl (by kernel_rfl) (by kernel_rfl) hS (fun z hz K hK => ?_) ?_; rotate_left; · (obtain ⟨d0, d1, d2, d3⟩ := hz; go_wp2; exact hK))
                  refine line_act rfl fun K hK => ?_
                  refine geo_store25 rfl _ _ rfl rfl rfl hst ?_
                  intro w7 hb7 hg7 hs7
                  have hM7 := (HM6.out.ext (Ext.drew w6)).turn (q := { p with s := { p.s with c := e0, d := e1, b := e2, p := e3 } }) hg7 rfl hb7 ⟨(HM6.out.ext (Ext.drew w6)).is.f, (HM6.out.ext (Ext.drew w6)).is.m⟩ (HM6.out.sh) (HM6.out.ext (Ext.drew w6)).off HM6.out.of2 ⟨⟨HRE.out.1, HRE.out.2.1, HRE.out.2.2.1, HRE.out.2.2.2, HM6.out.num.1.f, HM6.out.num.1.m⟩, ⟨HM6.out.num.2.2.1.f, HM6.out.num.2.2.1.m⟩, HM6.out.num.2.2.2⟩
                  have HM7 := Lib.hid hM7
                  refine hK _ w7 (fun z : World => z.cell? ⟨gv, 0, none⟩ = some (.int .i64 e0) ∧ z.cell? ⟨gv, 1, none⟩ = some (.int .i64 e1) ∧ z.cell? ⟨gv, 2, none⟩ = some (.int .i64 e2) ∧ z.cell? ⟨gv, 3, none⟩ = some (.int .i64 e3)) ⟨hg7.cell hS.1 (by simpa using hgsb), hg7.cell hS.2.1 (by simpa using hgsb), hg7.cell hS.2.2.1 (by simpa using hgsb), hg7.cell hS.2.2.2 (by simpa using hgsb)⟩ (fun _ h => h) ?_
                  clear hK K hS hst hb7 hg7 hs7 hM7
                  refine line_end ?_
                  go_wp2
                  go_roundw
                  case rel => exact ⟨k + 1, _, _, _, _, by omega, by go_num, rfl, by rw [← HLA.out], HF.out, by have := HP.out.2; simp only; omega, HM7.out⟩
                  case measure => simp [intOf]; omega
                · have b4 : ((l.length : Int) == 4) = false := by rw [beq_eq_false_iff_ne]; omega
                  have HH4 := Lib.hid h4
                  clear h4
                  have HF := Lib.hid (HN.out (by rw [HK0.out]; exact headS_len (HVA.out.1 rfl) HH4.out))
                  have hres := HM6.out.res
                  go_wp2_with (first | (refine stu_store (s := noStu) (V := fun _ => nl25) (vm := nl25) rfl _ _ rfl rfl (fun _ _ => slv_nl) slv_nl rfl hres rfl ?_; intro w9 hb9 hg9 hs9))
                  refine bodyPost_ret (v := .tuple #[.agg (stuC noStu (fun _ => nl25) nl25), nl25, .int .i64 2]) (results_cell25_3 (fn := Tryd.f13) rfl rfl rfl rfl hb9 Tryd.underlying38 rfl Tryd.sizeStu25) rfl ?_
                  exact parA_no HF.out (HGR.out w9 hg9)
            · have b1 : ((bs x0).toList == [97, 114, 114, 97, 121]) = false := by rw [bs_toList, beq_eq_false_iff_ne]; exact h1
              have HH1 := Lib.hid h1
              clear h1
              have HF := Lib.hid (HN.out (by rw [HK0.out]; exact headS_word (by rw [HX0.out]; exact HH1.out)))
              have hres := HM6.out.res
              go_wp2_with (first | (refine stu_store (s := noStu) (V := fun _ => nl25) (vm := nl25) rfl _ _ rfl rfl (fun _ _ => slv_nl) slv_nl rfl hres rfl ?_; intro w9 hb9 hg9 hs9))
              refine bodyPost_ret (v := .tuple #[.agg (stuC noStu (fun _ => nl25) nl25), nl25, .int .i64 2]) (results_cell25_3 (fn := Tryd.f13) rfl rfl rfl rfl hb9 Tryd.underlying38 rfl Tryd.sizeStu25) rfl ?_
              exact parA_no HF.out (HGR.out w9 hg9)
          · have bk : ((k : Int) == 0) = false := by rw [beq_eq_false_iff_ne]; omega
            have HKP := Lib.hid (show 0 < k from by omega)
            obtain ⟨am, cm, bm, om, hvm, -⟩ := HM6.out.is.m.form
            have c8 : w6.cell? ⟨sb, 8, none⟩ = some (.slice am p.s.m.length cm) := (HM6.out.stu.cell 8).trans (by rw [← hvm]; rfl)
            obtain ⟨nm, hnm⟩ : ∃ n, p.s.m.length = n := ⟨_, rfl⟩
            obtain ⟨ns, hns⟩ : ∃ n, p.st.length = n := ⟨_, rfl⟩
            rw [hnm] at c8
            rw [hns]
            have HNM := Lib.hid (And.intro hnm hns)
            have hm0 : nm = 0 ↔ p.s.m = [] := by rw [← hnm]; exact List.length_eq_zero_iff
            have hs0 : ns = 0 ↔ p.st = [] := by rw [← hns]; exact List.length_eq_zero_iff
            have HZ := Lib.hid (And.intro hm0 hs0)
            clear hk0 hvm hnm hns hm0 hs0
            by_cases h1 : x0 = faultS
            · have b1 : ((bs x0).toList == [102, 97, 117, 108, 116]) = true := by rw [bs_toList, beq_iff_eq]; exact h1
              have HXA := Lib.hid (HX0.out.trans h1)
              have HFI := Lib.hid (fault_is (p := p) HKP.out HXA.out)
              clear h1
              cases ok
              · have HF := Lib.hid (HN.out (by rw [HFI.out]; exact faultP_none (HVA.out.2.1 rfl)))
                have hres := HM6.out.res
                go_wp2_with (first | (refine stu_store (s := noStu) (V := fun _ => nl25) (vm := nl25) rfl _ _ rfl rfl (fun _ _ => slv_nl) slv_nl rfl hres rfl ?_; intro w9 hb9 hg9 hs9))
                refine bodyPost_ret (v := .tuple #[.agg (stuC noStu (fun _ => nl25) nl25), nl25, .int .i64 2]) (results_cell25_3 (fn := Tryd.f13) rfl rfl rfl rfl hb9 Tryd.underlying38 rfl Tryd.sizeStu25) rfl ?_
                exact parA_no HF.out (HGR.out w9 hg9)
              · have HFN := Lib.hid (show ¬ (2 ≤ l.length ∧ p.last < l.getD 0 0 ∧ l.getD 0 0 ≤ 3 ∧ p.s.m = [] ∧ p.st = []) → lineP k x p = none from fun h => by rw [HFI.out]; exact faultP_no (HVA.out.1 rfl) h)
                by_cases h2 : 2 ≤ l.length
                · have b2 : decide ((l.length : Int) < 2) = false := by rw [decide_eq_false_iff_not]; omega
                  obtain ⟨gv, gcap, he, hgvB, hgvl, hgvc, hcl⟩ := HII.out (by omega)
                  injection he with he1 _ he2
                  subst he1 he2
                  obtain ⟨e0, he0⟩ : ∃ e, l.getD 0 0 = e := ⟨_, rfl⟩
                  have v0 : w6.cell? ⟨gv, 0, none⟩ = some (.int .i64 e0) := (hcl 0 (by omega)).trans (by rw [he0])
                  have HE0L := Lib.hid he0
                  have HCL := Lib.hid hcl
                  have HH2 := Lib.hid h2
                  have hlp : 0 < l.length := by omega
                  clear hcl he0
                  by_cases h3 : e0 ≤ last
                  · have b3 : decide (e0 ≤ last) = true := by rw [decide_eq_true_eq]; exact h3
                    have HH3 := Lib.hid h3
                    clear h2
                    have HF := Lib.hid (HN.out (HFN.out (fun h => by have := h.2.1; rw [HE0L.out, HLA.out] at this; have := HH3.out; omega)))
                    have hres := HM6.out.res
                    go_wp2_with (first | (refine stu_store (s := noStu) (V := fun _ => nl25) (vm := nl25) rfl _ _ rfl rfl (fun _ _ => slv_nl) slv_nl rfl hres rfl ?_; intro w9 hb9 hg9 hs9))
                    refine bodyPost_ret (v := .tuple #[.agg (stuC noStu (fun _ => nl25) nl25), nl25, .int .i64 2]) (results_cell25_3 (fn := Tryd.f13) rfl rfl rfl rfl hb9 Tryd.underlying38 rfl Tryd.sizeStu25) rfl ?_
                    exact parA_no HF.out (HGR.out w9 hg9)
                  · have b3 : decide (e0 ≤ last) = false := by rw [decide_eq_false_iff_not]; exact h3
                    by_cases h4 : 3 < e0
                    · have b4 : decide ((3 : Int) < e0) = true := by rw [decide_eq_true_eq]; exact h4
                      have HH4 := Lib.hid h4
                      clear h2 h3
                      have HF := Lib.hid (HN.out (HFN.out (fun h => by have := h.2.2.1; rw [HE0L.out] at this; have := HH4.out; omega)))
                      have hres := HM6.out.res
                      go_wp2_with (first | (refine stu_store (s := noStu) (V := fun _ => nl25) (vm := nl25) rfl _ _ rfl rfl (fun _ _ => slv_nl) slv_nl rfl hres rfl ?_; intro w9 hb9 hg9 hs9))
                      refine bodyPost_ret (v := .tuple #[.agg (stuC noStu (fun _ => nl25) nl25), nl25, .int .i64 2]) (results_cell25_3 (fn := Tryd.f13) rfl rfl rfl rfl hb9 Tryd.underlying38 rfl Tryd.sizeStu25) rfl ?_
                      exact parA_no HF.out (HGR.out w9 hg9)
                    · have b4 : decide ((3 : Int) < e0) = false := by rw [decide_eq_false_iff_not]; exact h4
                      by_cases h5 : 0 < nm
                      · have HH5 := Lib.hid h5
                        clear h2 h3 h4
                        have HF := Lib.hid (HN.out (HFN.out (fun h => by have := HZ.out.1.2 h.2.2.2.1; have := HH5.out; omega)))
                        have hres := HM6.out.res
                        go_wp2_with (first | (refine stu_store (s := noStu) (V := fun _ => nl25) (vm := nl25) rfl _ _ rfl rfl (fun _ _ => slv_nl) slv_nl rfl hres rfl ?_; intro w9 hb9 hg9 hs9))
                        refine bodyPost_ret (v := .tuple #[.agg (stuC noStu (fun _ => nl25) nl25), nl25, .int .i64 2]) (results_cell25_3 (fn := Tryd.f13) rfl rfl rfl rfl hb9 Tryd.underlying38 rfl Tryd.sizeStu25) rfl ?_
                        exact parA_no HF.out (HGR.out w9 hg9)
                      · by_cases h6 : 0 < ns
                        · have HH6 := Lib.hid h6
                          clear h2 h3 h4
                          have HF := Lib.hid (HN.out (HFN.out (fun h => by have := HZ.out.2.2 h.2.2.2.2; have := HH6.out; omega)))
                          have hres := HM6.out.res
                          go_wp2_with (first | (refine stu_store (s := noStu) (V := fun _ => nl25) (vm := nl25) rfl _ _ rfl rfl (fun _ _ => slv_nl) slv_nl rfl hres rfl ?_; intro w9 hb9 hg9 hs9))
                          refine bodyPost_ret (v := .tuple #[.agg (stuC noStu (fun _ => nl25) nl25), nl25, .int .i64 2]) (results_cell25_3 (fn := Tryd.f13) rfl rfl rfl rfl hb9 Tryd.underlying38 rfl Tryd.sizeStu25) rfl ?_
                          exact parA_no HF.out (HGR.out w9 hg9)
                        · have hlast := HM6.out.num.2.2.2.1
                          rw [HLA.out] at hlast
                          obtain ⟨q, rfl⟩ : ∃ q : Nat, e0 = (q : Int) := ⟨e0.toNat, by omega⟩
                          have hq4 : q < 4 := by omega
                          have hlt4 : (q : Int) < 4 := by omega
                          have hlr : l = (q : Int) :: l.tail := by
                            have h0 := HE0L.out
                            cases l with
                            | nil => simp at hlp
                            | cons a r => simp at h0; simp [h0]
                          have hll1 : l.tail.length = l.length - 1 := List.length_tail
                          have HF := Lib.hid (HYS.out _ (by rw [HFI.out]; exact faultP_yes ((HVA.out.1 rfl).trans (congrArg some hlr)) ⟨by intro h; have := congrArg List.length h; simp at this; omega, by rw [HLA.out]; omega, by omega, HZ.out.1.1 (by omega), HZ.out.2.1 (by omega)⟩))
                          have tl := fun z => tailI25 z gv l.length ac h2 hgvc
                          have dq : w6.drew.cell? ⟨sb, 4 + q, none⟩ = some (V q) := (HM6.out.stu.cell (4 + q)).trans (stuC_atF _ _ _ _ hq4)
                          have fq : w6.drew.frozen? ⟨sb, 4 + q, none⟩ = false := HM6.out.stu.free (4 + q)
                          have hIr : Ints w6 (.slice (some ⟨gv, 1, none⟩) (l.length - 1) (ac - 1)) l.tail := by
                            rw [← hll1]
                            refine Ints.cells (by omega) fun i hi => ?_
                            have h9 := HCL.out (1 + i) (by omega)
                            rw [h9, hlr]
                            simp [List.getD_eq_getElem?_getD, Nat.add_comm 1 i]
                          have hgsb : gv ≠ sb := by have := HM4.out.stu.lt; omega
                          have hgvs : ∀ kk, (Value.slice aS p.st.length cS).ownBlock = some kk → kk ≠ gv := fun kk hkk e => by have := (HM4.out.stp.lt kk hkk).2; omega
                          have hM7 := (HM6.out).turn (w' := w6.setCell ⟨sb, 4 + q, none⟩ (.slice (some ⟨gv, 1, none⟩) (l.length - 1) (ac - 1))) (q := { p with s := { p.s with f := updF25 p.s.f q l.tail }, last := (q : Int) }) (U := fun t => if t = q then .slice (some ⟨gv, 1, none⟩) (l.length - 1) (ac - 1) else V t) (um := vm)
                            (grown_set w6 ⟨sb, 4 + q, none⟩ _) rfl (stuC_setF p.s V vm _ q hq4 l.tail ▸ HM6.out.stu.set (4 + q) _)
                            ⟨fun t ht => by
                              show Ints w6 (if t = q then _ else V t) (updF25 p.s.f q l.tail t)
                              unfold updF25
                              by_cases e : t = q
                              · rw [if_pos e, if_pos e]; exact hIr
                              · rw [if_neg e, if_neg e]; exact HM6.out.is.f t ht, HM6.out.is.m⟩
                            ⟨fun t ht => by
                              show SliceV (if t = q then _ else V t)
                              split
                              · exact ⟨_, _, _, rfl⟩
                              · exact HM6.out.sh.1 t ht, HM6.out.sh.2⟩
                            (fun kk hkk => by
                              rcases hkk with ⟨t, ht, hkk⟩ | hkk
                              · have hkk : (if t = q then (Value.slice (some ⟨gv, 1, none⟩) (l.length - 1) (ac - 1)) else V t).ownBlock = some kk := hkk
                                by_cases e : t = q
                                · rw [if_pos e] at hkk
                                  have : gv = kk := by simpa [Value.ownBlock] using hkk
                                  subst this
                                  exact ⟨hgsb, fun h => hgvs _ h rfl, hgvl⟩
                                · rw [if_neg e] at hkk
                                  exact HM6.out.off kk (.inl ⟨t, ht, hkk⟩)
                              · exact HM6.out.off kk (.inr hkk))
                            (fun kk hkk => by
                              rcases hkk with ⟨t, ht, hkk⟩ | hkk
                              · have hkk : (if t = q then (Value.slice (some ⟨gv, 1, none⟩) (l.length - 1) (ac - 1)) else V t).ownBlock = some kk := hkk
                                by_cases e : t = q
                                · rw [if_pos e] at hkk
                                  have : gv = kk := by simpa [Value.ownBlock] using hkk
                                  have := HM4.out.res.lt
                                  omega
                                · rw [if_neg e] at hkk
                                  exact HM6.out.of2 kk (.inl ⟨t, ht, hkk⟩)
                              · exact HM6.out.of2 kk (.inr hkk))
                            ⟨⟨HM6.out.num.1.c, HM6.out.num.1.d, HM6.out.num.1.b, HM6.out.num.1.p, fun t ht m hm => by
                              have hm : m ∈ updF25 p.s.f q l.tail t := hm
                              unfold updF25 at hm
                              split at hm
                              · exact HVA.out.2.2.1 m (List.mem_of_mem_tail hm)
                              · exact HM6.out.num.1.f t ht m hm, HM6.out.num.1.m⟩,
                             ⟨fun t ht => by
                              show (updF25 p.s.f q l.tail t).length ≤ 1600
                              unfold updF25
                              split
                              · omega
                              · exact HM6.out.num.2.2.1.f t ht, HM6.out.num.2.2.1.m⟩, by simp only; omega, by simp only; omega⟩
                          have HM7 := Lib.hid (hM7.ext (Ext.drew _))
                          have hS : (fun z : World => z.cell? ⟨gv, 0, none⟩ = some (.int .i64 (q : Int))) w6.drew := v0
                          clear h2 h3 h4 hlr hll1 hIr hgvs hM7 hlast
                          go_wp2
                          clear b1 b2 b3 b4 bk hll hc0 hgvl hgvB c8 h5 h6
                          refine region_line [(0, true), (1, true), (2, true), (3, true), (4, true), (5, true), (6, true), (7, false)] (fun z : World => z.cell? ⟨gv, 0, none⟩ = some (.int .i64 (q : Int))) (by kernel_rfl) (by kernel_rfl) (fun _ _ _ d _ h => by cases d <;> exact h) hS ?_
                          iterate 7 (refine line_read (a' := ?_) rfl (by kernel_rfl) (by kernel_rfl) hS (fun z hz K hK => ?_) ?_; rotate_left; · (have d0 := hz; go_wp2; exact hK))
                          refine line_act rfl fun K hK => ?_
                          go_wp2
                          refine hK _ _ (fun z : World => z.cell? ⟨gv, 0, none⟩ = some (.int .i64 (q : Int))) ((grown_set w6 ⟨sb, 4 + q, none⟩ _).cell v0 (by simpa using hgsb)) (fun _ h => h) ?_
                          refine line_end ?_
                          clear hK K dq fq hS
                          go_wp2
                          go_roundw
                          case rel => exact ⟨k + 1, _, _, _, _, by omega, by go_num, rfl, rfl, HF.out, by have := HP.out.2; simp only; omega, (by have h := HM7.out; rw [HNM.out.2] at h; exact h)⟩
                          case measure => simp [intOf]; omega
                · have b2 : decide ((l.length : Int) < 2) = true := by rw [decide_eq_true_eq]; omega
                  have HH2 := Lib.hid h2
                  clear h2
                  have HF := Lib.hid (HN.out (HFN.out (fun h => HH2.out h.1)))
                  have hres := HM6.out.res
                  go_wp2_with (first | (refine stu_store (s := noStu) (V := fun _ => nl25) (vm := nl25) rfl _ _ rfl rfl (fun _ _ => slv_nl) slv_nl rfl hres rfl ?_; intro w9 hb9 hg9 hs9))
                  refine bodyPost_ret (v := .tuple #[.agg (stuC noStu (fun _ => nl25) nl25), nl25, .int .i64 2]) (results_cell25_3 (fn := Tryd.f13) rfl rfl rfl rfl hb9 Tryd.underlying38 rfl Tryd.sizeStu25) rfl ?_
                  exact parA_no HF.out (HGR.out w9 hg9)
            · have b1 : ((bs x0).toList == [102, 97, 117, 108, 116]) = false := by rw [bs_toList, beq_eq_false_iff_ne]; exact h1
              have HXF := Lib.hid (show (splitL 32 x).headD [] ≠ faultS from by rw [HX0.out]; exact h1)
              clear h1
              by_cases h2 : x0 = markedS
              · have b2 : ((bs x0).toList == [109, 97, 114, 107, 101, 100]) = true := by rw [bs_toList, beq_iff_eq]; exact h2
                have HFI := Lib.hid (marked_is (p := p) HKP.out (HX0.out.trans h2))
                clear h2
                cases ok
                · skip
                  have HF := Lib.hid (HN.out (by rw [HFI.out]; exact markedP_none (HVA.out.2.1 rfl)))
                  have hres := HM6.out.res
                  go_wp2_with (first | (refine stu_store (s := noStu) (V := fun _ => nl25) (vm := nl25) rfl _ _ rfl rfl (fun _ _ => slv_nl) slv_nl rfl hres rfl ?_; intro w9 hb9 hg9 hs9))
                  refine bodyPost_ret (v := .tuple #[.agg (stuC noStu (fun _ => nl25) nl25), nl25, .int .i64 2]) (results_cell25_3 (fn := Tryd.f13) rfl rfl rfl rfl hb9 Tryd.underlying38 rfl Tryd.sizeStu25) rfl ?_
                  exact parA_no HF.out (HGR.out w9 hg9)
                · have HFN := Lib.hid (show ¬ (p.s.m = [] ∧ p.st = []) → lineP k x p = none from fun h => by rw [HFI.out]; exact markedP_no (HVA.out.1 rfl) h)
                  by_cases h5 : 0 < nm
                  · have HH5 := Lib.hid h5
                    have HF := Lib.hid (HN.out (HFN.out (fun h => by have := HZ.out.1.2 h.1; have := HH5.out; omega)))
                    have hres := HM6.out.res
                    go_wp2_with (first | (refine stu_store (s := noStu) (V := fun _ => nl25) (vm := nl25) rfl _ _ rfl rfl (fun _ _ => slv_nl) slv_nl rfl hres rfl ?_; intro w9 hb9 hg9 hs9))
                    refine bodyPost_ret (v := .tuple #[.agg (stuC noStu (fun _ => nl25) nl25), nl25, .int .i64 2]) (results_cell25_3 (fn := Tryd.f13) rfl rfl rfl rfl hb9 Tryd.underlying38 rfl Tryd.sizeStu25) rfl ?_
                    exact parA_no HF.out (HGR.out w9 hg9)
                  · by_cases h6 : 0 < ns
                    · have HH6 := Lib.hid h6
                      have HF := Lib.hid (HN.out (HFN.out (fun h => by have := HZ.out.2.2 h.2; have := HH6.out; omega)))
                      have hres := HM6.out.res
                      go_wp2_with (first | (refine stu_store (s := noStu) (V := fun _ => nl25) (vm := nl25) rfl _ _ rfl rfl (fun _ _ => slv_nl) slv_nl rfl hres rfl ?_; intro w9 hb9 hg9 hs9))
                      refine bodyPost_ret (v := .tuple #[.agg (stuC noStu (fun _ => nl25) nl25), nl25, .int .i64 2]) (results_cell25_3 (fn := Tryd.f13) rfl rfl rfl rfl hb9 Tryd.underlying38 rfl Tryd.sizeStu25) rfl ?_
                      exact parA_no HF.out (HGR.out w9 hg9)
                    · have HF := Lib.hid (HYS.out _ (by rw [HFI.out]; exact markedP_yes (HVA.out.1 rfl) ⟨HZ.out.1.1 (by omega), HZ.out.2.1 (by omega)⟩))
                      have fq : w6.frozen? ⟨sb, 8, none⟩ = false := HM6.out.stu.free 8
                      have hM7 := (HM6.out).turn (w' := w6.setCell ⟨sb, 8, none⟩ (.slice ao l.length ac)) (q := { p with s := { p.s with m := l } }) (U := V) (um := .slice ao l.length ac)
                        (grown_set w6 ⟨sb, 8, none⟩ _) rfl (stuC_setM p.s V vm _ l ▸ HM6.out.stu.set 8 _)
                        ⟨HM6.out.is.f, own_ints25 HOV.out⟩ ⟨HM6.out.sh.1, ⟨_, _, _, rfl⟩⟩
                        (fun kk hkk => by
                          rcases hkk with hkk | hkk
                          · exact HM6.out.off kk (.inl hkk)
                          · have h1 := HOB.out kk hkk
                            have h2 := HM4.out.stu.lt
                            exact ⟨by omega, fun h => by (have := (HM4.out.stp.lt kk h).2; omega), h1.2⟩)
                        (fun kk hkk => by
                          rcases hkk with hkk | hkk
                          · exact HM6.out.of2 kk (.inl hkk)
                          · have h1 := HOB.out kk hkk
                            have h2 := HM4.out.res.lt
                            omega)
                        ⟨⟨HM6.out.num.1.c, HM6.out.num.1.d, HM6.out.num.1.b, HM6.out.num.1.p, HM6.out.num.1.f, HVA.out.2.2.1⟩, ⟨HM6.out.num.2.2.1.f, by simp only; omega⟩, HM6.out.num.2.2.2⟩
                      have HM7 := Lib.hid hM7
                      clear hM7
                      go_wp2
                      go_roundw
                      case rel => exact ⟨k + 1, _, _, _, _, by omega, by go_num, rfl, by rw [← HLA.out], HF.out, by have := HP.out.2; simp only; omega, (by have h := HM7.out; rw [HNM.out.2] at h; exact h)⟩
                      case measure => simp [intOf]; omega
              · have b2 : ((bs x0).toList == [109, 97, 114, 107, 101, 100]) = false := by rw [bs_toList, beq_eq_false_iff_ne]; exact h2
                have HFI := Lib.hid (step_is (p := p) HKP.out HXF.out (by rw [HX0.out]; exact h2))
                have HSP := Lib.hid (step25 w6 (bs x) (by rw [bs_size]; omega))
                obtain ⟨y, hy⟩ : ∃ y, (stepR x).1 = y := ⟨_, rfl⟩
                obtain ⟨bb, hbb⟩ : ∃ bb, (stepR x).2 = bb := ⟨_, rfl⟩
                have HY := Lib.hid (And.intro hy hbb)
                have hxl2 : x.length ≤ 1500 := hxl
                clear h2 hy hbb
                go_upto_region 13 with (first
                  | (go_at_call 11; refine HSP.out.mono ?_; rintro e w7 ⟨rfl, hg7⟩; rw [bs_data, HY.out.1, HY.out.2]; have HM7 := Lib.hid (HM6.out.ext hg7); have hBn := Blk.new w7 25 (stpC noStp); clear hg7)
                  | (refine stp_store (z := y) rfl _ _ rfl rfl rfl hBn rfl ?_; intro w8 hb8 hg8 hs8; have hr8 := hb8.range25; have HM8 := Lib.hid (HM7.out.ext (new24 (World.grownBy_alloc w7 _ none) hg8 (Nat.le_refl _))); clear hg8 hs8 hb8 hBn))
                cases bb
                · have HF := Lib.hid (HN.out (by rw [HFI.out]; exact stepP_no HY.out.2))
                  have hres := HM8.out.res
                  have HGR8 := Lib.hid (show ∀ w9, w8.grownBy w9 (some rb) → w.grownBy w9 none from fun w9 hg9 => grown_trans HM8.out.grn hg9 (fun q hq hlt => by injection hq with hq; have := HRB.out; omega))
                  go_wp2_with (first | (refine stu_store (s := noStu) (V := fun _ => nl25) (vm := nl25) rfl _ _ rfl rfl (fun _ _ => slv_nl) slv_nl rfl hres rfl ?_; intro w9 hb9 hg9 hs9))
                  refine bodyPost_ret (v := .tuple #[.agg (stuC noStu (fun _ => nl25) nl25), nl25, .int .i64 2]) (results_cell25_3 (fn := Tryd.f13) rfl rfl rfl rfl hb9 Tryd.underlying38 rfl Tryd.sizeStu25) rfl ?_
                  exact parA_no HF.out (HGR8.out w9 hg9)
                · have hyy := stepP_yes (line := x) (p := p) HY.out.2
                  rw [HY.out.1] at hyy
                  have HF := Lib.hid (HYS.out _ (by rw [HFI.out]; exact hyy.1))
                  have HYR := Lib.hid (show y.rng ∧ y.d.length ≤ 2000 from ⟨hyy.2.1, by have := stepIs_d hyy.2; omega⟩)
                  have hM8 := HM8.out
                  have hO9 := (hM8.ext (World.grownBy_alloc w8 (.cells (stpC y) 25) none))
                  have HM9 := Lib.hid hO9
                  have hcs := cells_newS w8 y 25
                  have HCS := Lib.hid hcs
                  clear hyy hM8 hO9 hcs
                  obtain ⟨w9, hw9⟩ : ∃ z, w8.alloc (.cells (stpC y) 25) = z := ⟨_, rfl⟩
                  obtain ⟨n8, hn8⟩ : ∃ z, w8.heap.size = z := ⟨_, rfl⟩
                  have H9 := Lib.hid (And.intro (hw9 ▸ HM9.out : PrM w w9 rb sb g cap L (.slice aS p.st.length cS) V vm p) (And.intro (hn8 ▸ hw9 ▸ HCS.out : ∀ j u, (stpC y).toList[j]? = some u → w9.cell? ((⟨n8, 0, none⟩ : Addr).add j) = some u) (show OwnP w.heap.size w9 (.slice aS ns cS) p.st from by (have h := (hw9 ▸ HM9.out : PrM w w9 rb sb g cap L (.slice aS p.st.length cS) V vm p).stp); rw [HNM.out.2] at h; exact h)))
                  have hst8 : p.st.length ≤ 2000 := by have := HP.out.2; omega
                  have HW9 := Lib.hid hw9
                  have HN8 := Lib.hid hn8
                  clear hw9 hn8 HM9 HCS hxl hxl2 hll hc0 b1 b2 bk c8
                  go_wp2_with (first
                    | (refine append_p25 rfl _ _ rfl w.heap.size (.slice aS ns cS) p.st rfl H9.out.2.2 ⟨n8, 0, none⟩ 1 y rfl H9.out.2.1 (by omega) H9.out.1.grn.size ?_; intro v' w10 ho10 hg10 hv10; have HM10 := Lib.hid (H9.out.1.app (by rw [HNM.out.2]; exact hg10) ho10 (by rw [HNM.out.2]; exact hv10) HYR.out); clear ho10 hg10 hv10)
                    | (refine stp_lit rfl _ rfl rfl ?_; rw [HW9.out, HN8.out])
                    | (refine stp_load rfl _ rfl rfl hr8 ?_))
                  go_roundw
                  case rel => exact ⟨k + 1, _, _, _, _, by omega, by go_num, rfl, by rw [← HLA.out], HF.out, by have := HP.out.2; simp; omega, HM10.out⟩
                  case measure => simp [intOf]; omega
        · have HPE := Lib.hid (show parseE s.data.toList = some p from by rw [HPL.out, ← HP.out.1, List.take_of_length_le (by omega)])
          have hst := HM.out.stp.read
          have hnl : p.st.length ≤ 1501 := by have := HP.out.2; omega
          have hr := HM.out.stu.range25
          have hres := HM.out.res
          obtain ⟨ns, hns⟩ : ∃ n, p.st.length = n := ⟨_, rfl⟩
          rw [hns] at hnl
          rw [hns]
          have HNS := Lib.hid hns
          clear hns hst
          go_wp2_with (first
            | (refine stu_store (s := p.s) (V := V) (vm := vm) rfl _ _ rfl rfl HM.out.sh.1 HM.out.sh.2 rfl hres rfl ?_; intro w9 hb9 hg9 hs9)
            | (refine stu_load rfl _ rfl rfl hr ?_))
          refine bodyPost_ret (v := .tuple #[.agg (stuC p.s V vm), .slice aS ns cS, .int .i64 0]) (results_cell25_3 (fn := Tryd.f13) rfl rfl rfl rfl hb9 Tryd.underlying38 rfl Tryd.sizeStu25) rfl ?_
          exact parA_end HPE.out HM.out hb9 hg9 HNS.out (by omega)
    · have b1 : ((c : Int) == 10) = false := by rw [beq_eq_false_iff_ne]; omega
      have HP := Lib.hid (show parseE s.data.toList = none from by
        unfold parseE
        rw [if_neg]
        rw [HC.out]
        intro h
        injection h with h
        rw [h] at hc
        exact h10 (by rw [← hc]; rfl))
      clear h10
      go_wp2_with (first | (refine stu_store (s := noStu) (V := fun _ => nl25) (vm := nl25) rfl _ _ rfl rfl (fun _ _ => slv_nl) slv_nl rfl B0 rfl ?_; intro w9 hb9 hg9 hs9))
      refine bodyPost_ret (v := .tuple #[.agg (stuC noStu (fun _ => nl25) nl25), nl25, .int .i64 2]) (results_cell25_3 (fn := Tryd.f13) rfl rfl rfl rfl hb9 Tryd.underlying38 rfl Tryd.sizeStu25) rfl ?_
      exact parA_no HP.out (grown_trans HE0.out hg9 (fun k hk hlt => by injection hk with hk; have := HRB.out; omega))

end Go.Proofs.YtdaifepjmkmpjaaDoor
