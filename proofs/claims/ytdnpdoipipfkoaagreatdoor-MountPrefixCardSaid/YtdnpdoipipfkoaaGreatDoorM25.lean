/-
  Texts put together: IL IM IN IO.
-/
import Derived.Test.YtdnpdoipipfkoaaGreatDoorM24
import Derived.Test.YtdnpdoipipfkoaaGreatDoorM02
import Derived.Maps.AppendAt
import Derived.Deep.AppendLies
namespace Go.Proofs.YtdnpdoipipfkoaaGreatDoor
set_option linter.unusedVariables false
set_option linter.unusedSimpArgs false
set_option linter.unusedVariables false
set_option linter.unusedSimpArgs false
set_option maxRecDepth 100000
open Go.RowKit Go.Maps
theorem Tryz.topF0 (a b : Int) (c : Bool) (w : World) : (Instr.field 183 (.agg #[.int .i64 a, .int .i64 b, .bool c]) 0).run Tryz.prog w = .ok (.int .i64 a) w := by kernel_rfl
theorem Tryz.topF1 (a b : Int) (c : Bool) (w : World) : (Instr.field 183 (.agg #[.int .i64 a, .int .i64 b, .bool c]) 1).run Tryz.prog w = .ok (.int .i64 b) w := by kernel_rfl
theorem Tryz.topF2 (a b : Int) (c : Bool) (w : World) : (Instr.field 183 (.agg #[.int .i64 a, .int .i64 b, .bool c]) 2).run Tryz.prog w = .ok (.bool c) w := by kernel_rfl
theorem keeps17_any (tb bb mb n : Nat) (m : Int → Option TopT) (b p : Int) (w : World) (hp : okI p) (ht : w.cell? ⟨tb, 0, none⟩ = some (.map (some mb))) (hb : w.cell? ⟨bb, 0, none⟩ = some (.int .i64 b)) (hm : TopsM w mb n m) :
   Calls Tryz.prog 118 #[.int .i64 p, .pointer (some ⟨tb, 0, none⟩), .pointer (some ⟨bb, 0, none⟩)] w fun e w' => e = .returned (.bool (keepsP m b p)) ∧ w = w' := by
 have hlk := hm.look topV_inj Tryz.underlying179 Tryz.underlying3 noT (Tryz.zeroTop _) hp
 obtain ⟨⟨t1, t2, t3⟩, htt⟩ : ∃ z, (m p).getD noT = z := ⟨_, rfl⟩
 rw [htt] at hlk
 replace hlk : (Instr.lookup 179 (.map (some mb)) (.int .i64 p) false).run Tryz.prog w = .ok (.agg #[.int .i64 t1, .int .i64 t2, .bool t3]) w := hlk
 obtain ⟨z, hz⟩ : ∃ z, (t2 == b) = z := ⟨_, rfl⟩
 have HK := Lib.hid (show keepsP m b p = (z && !t3) by unfold keepsP; rw [htt, hz])
 obtain ⟨k, hk⟩ : ∃ k, keepsP m b p = k := ⟨_, rfl⟩
 rw [hk] at HK ⊢
 have hf1 := Tryz.topF1 t1 t2 t3 w
 have hf2 := Tryz.topF2 t1 t2 t3 w
 clear hk htt hm hp
 cases z
 · go_enter Tryz.func118, Tryz.ntmps118
   go_wp2
   go_ret
   exact ⟨by rw [HK.out]; rfl, rfl⟩
 · cases t3
   · go_enter Tryz.func118, Tryz.ntmps118
     go_wp2
     go_ret
     exact ⟨by rw [HK.out]; rfl, rfl⟩
   · go_enter Tryz.func118, Tryz.ntmps118
     go_wp2
     go_ret
     exact ⟨by rw [HK.out]; rfl, rfl⟩
set_option maxHeartbeats 400000 in
theorem indexFn17_any (g : Nat) (eg : ∀ args w, (callFunc g args).run Tryz.prog w = .ok (.enter g args) w) (caps : Array Value) (q : Int → Bool) (v : Value) (xs : List Int) (w : World) (hb : Ints w v xs) (hm : xs.length ≤ 1000)
   (HP : ∀ x ∈ xs, Calls Tryz.prog g (#[.int .i64 x] ++ caps) w fun e w' => e = .returned (.bool (q x)) ∧ w = w') :
   Calls Tryz.prog 93 #[v, .func (.func g) #[] caps] w fun e w' => ∃ r : Int, e = .returned (.int .i64 r) ∧ w = w' ∧ ((0 ≤ r ∧ ∃ n ∈ xs, q n = true) ∨ (r < 0 ∧ ∀ n ∈ xs, q n = false)) := by
 obtain ⟨ao, cap, b, off, rfl, hc⟩ := hb.form
 have HC := Lib.hid hc
 have HPH := Lib.hid HP
 clear hc hb HP
 go_enter Tryz.func93, Tryz.ntmps93
 go_wp2
 go_loopw [8] (fun i wr => ∃ k : Nat, k ≤ xs.length ∧ i = .int .i64 k ∧ (∀ j, j < k → q (xs.getD j 0) = false) ∧ w = wr) (fun i _ => xs.length - (intOf i).toNat)
 case atStart => exact ⟨0, by omega, rfl, fun j hj => by omega, rfl⟩
 case round =>
   obtain ⟨k, hk, rfl, hnot, rfl⟩ := hrel
   have NOT := Lib.hid hnot
   clear hnot
   by_cases hlt : k < xs.length
   · obtain ⟨rfl, hcell⟩ := HC.out k hlt
     obtain ⟨x, hx⟩ : ∃ x, xs.getD k 0 = x := ⟨_, rfl⟩
     rw [hx] at hcell
     have hmem : x ∈ xs := by
       rw [List.getD_eq_getElem?_getD, List.getElem?_eq_getElem hlt] at hx
       rw [← hx]
       exact List.getElem_mem hlt
     have HPx := HPH.out x hmem
     have HM := Lib.hid hmem
     have HX := Lib.hid hx
     clear hx hmem
     obtain ⟨z, hz⟩ : ∃ z, q x = z := ⟨_, rfl⟩
     rw [hz] at HPx
     have HZ := Lib.hid hz
     clear hz
     cases z
     · go_wp2_with (go_at_fn g; refine HPx.mono ?_; rintro e w' ⟨rfl, rfl⟩)
       go_roundw
       case rel =>
         refine ⟨k + 1, by omega, by go_num, fun j hj => ?_, trivial⟩
         by_cases e : j = k
         · subst e; rw [HX.out]; exact HZ.out
         · exact NOT.out j (by omega)
       case measure => simp [intOf]; omega
     · go_wp2_with (go_at_fn g; refine HPx.mono ?_; rintro e w' ⟨rfl, rfl⟩)
       go_ret
       exact ⟨_, rfl, rfl, .inl ⟨by omega, x, HM.out, HZ.out⟩⟩
   · obtain rfl : k = xs.length := by omega
     go_wp2
     go_ret
     refine ⟨_, rfl, rfl, .inr ⟨by omega, fun n hmem => ?_⟩⟩
     obtain ⟨j, hj, hjn⟩ := List.mem_iff_getElem.1 hmem
     have := NOT.out j hj
     rw [List.getD_eq_getElem?_getD, List.getElem?_eq_getElem hj] at this
     simp only [Option.getD_some] at this
     rw [← hjn]
     exact this
theorem containsFn17_any (g : Nat) (eg : ∀ args w, (callFunc g args).run Tryz.prog w = .ok (.enter g args) w) (caps : Array Value) (q : Int → Bool) (v : Value) (xs : List Int) (w : World) (hb : Ints w v xs) (hm : xs.length ≤ 1000)
   (HP : ∀ x ∈ xs, Calls Tryz.prog g (#[.int .i64 x] ++ caps) w fun e w' => e = .returned (.bool (q x)) ∧ w = w') :
   Calls Tryz.prog 47 #[v, .func (.func g) #[] caps] w fun e w' => e = .returned (.bool (xs.any q)) ∧ w = w' := by
 have I := indexFn17_any g eg caps q v xs w hb hm HP
 obtain ⟨ao, cap, b, off, rfl, hc⟩ := hb.form
 clear hc hb HP hm eg
 go_enter Tryz.func47, Tryz.ntmps47
 go_wp2_with (go_at_call 93; refine I.mono ?_; rintro e w' ⟨r, rfl, rfl, hr⟩; have HR := Lib.hid hr; clear hr)
 go_ret
 rcases HR.out with ⟨h1, h2⟩ | ⟨h1, h2⟩
 · have : xs.any q = true := List.any_eq_true.2 h2
   exact ⟨by simp [this, h1], rfl⟩
 · have : xs.any q = false := by rw [List.any_eq_false]; intro x hx; rw [h2 x hx]; decide
   exact ⟨by simp [this]; omega, rfl⟩
theorem Tryz.eg7 : ∀ args w, (callFunc 118 args).run Tryz.prog w = .ok (.enter 118 args) w := enters_of Tryz.func118 (by kernel_rfl) rfl
abbrev Hdr := Option Addr × Nat × Nat
def hdV (h : Hdr) : Value := .slice h.1 h.2.1 h.2.2
theorem hdV_inj (x y : Hdr) (h : hdV x = hdV y) : x = y := by
 obtain ⟨a, b, c⟩ := x
 obtain ⟨d, e, f⟩ := y
 simp [hdV] at h
 obtain ⟨rfl, rfl, rfl⟩ := h
 rfl
def nilH : Hdr := (none, 0, 0)
theorem Tryz.zeroInts (w : World) : (zeroValue 22).run Tryz.prog w = .ok (hdV nilH) w := by kernel_rfl
abbrev HdrM (w : World) (b n : Nat) (m : Int → Option Hdr) : Prop := MapX Tryz.prog 3 hdV w b n m
structure HeldS (w : World) (hb n : Nat) (hm : Int → Option Hdr) (H : Int → List Int) : Prop where
 m : HdrM w hb n hm
 own : ∀ b, OwnI17 (hb + 1) w (hdV ((hm b).getD nilH)) (H b)
 two : ∀ b b', b ≠ b' → ∀ k, (hdV ((hm b).getD nilH)).ownBlock = some k → (hdV ((hm b').getD nilH)).ownBlock ≠ some k
theorem HeldS.made (w : World) : HeldS (w.alloc (.map #[] 0)) w.heap.size 0 (fun _ => none) (fun _ => []) :=
 ⟨MapX.made _ _ _ w, fun b => ⟨by simp, .inl ⟨rfl, rfl⟩⟩, fun b b' _ k h => by simp [hdV, nilH, Value.ownBlock] at h⟩
theorem HeldS.ext {w w' : World} {hb n : Nat} {hm : Int → Option Hdr} {H : Int → List Int} (h : HeldS w hb n hm H) (hE : w.grownBy w' none) : HeldS w' hb n hm H :=
 ⟨h.m.ext hE, fun b => (h.own b).kept hE (Classical.em _), h.two⟩
theorem HeldS.mono {w : World} {hb n n' : Nat} {hm : Int → Option Hdr} {H : Int → List Int} (h : HeldS w hb n hm H) (hn : n ≤ n') : HeldS w hb n' hm H := ⟨h.m.mono hn, h.own, h.two⟩
def putH (H : Int → List Int) (x : Int) (zs : List Int) : Int → List Int := fun b => if b = x then zs else H b
theorem own_dis {v : Value} {r : Option Nat} (h : ∀ k, v.ownBlock = some k → some k ≠ r) : v.ownBlock = none ∨ v.ownBlock ≠ r := by
 cases h0 : v.ownBlock with
 | none => exact .inl rfl
 | some k => exact .inr (h k h0)
theorem HeldS.put {w w1 w2 : World} {hb n : Nat} {hm : Int → Option Hdr} {H : Int → List Int} (h : HeldS w hb n hm H) {x : Int} {hd : Hdr} {zs : List Int} (hg : w.grownBy w1 (hdV ((hm x).getD nilH)).ownBlock) (hown : OwnI17 (hb + 1) w1 (hdV hd) zs)
   (hloc : (hdV hd).ownBlock = (hdV ((hm x).getD nilH)).ownBlock ∨ ∃ k, (hdV hd).ownBlock = some k ∧ w.heap.size ≤ k) (hm2 : HdrM w2 hb (n + 1) (updX hm x hd)) (hg2 : w1.grownBy w2 (some hb)) : HeldS w2 hb (n + 1) (updX hm x hd) (putH H x zs) := by
 refine ⟨hm2, fun b => ?_, fun b b' hne k hk => ?_⟩
 · unfold updX putH
   by_cases e : b = x
   · rw [if_pos e, if_pos e]
     exact hown.kept hg2 (own_dis fun k h0 e => by have := (hown.lt k h0).1; injection e with e; omega)
   · rw [if_neg e, if_neg e]
     have ho := h.own b
     have h1 : OwnI17 (hb + 1) w1 (hdV ((hm b).getD nilH)) (H b) := ho.kept hg (own_dis fun k h0 e2 => h.two b x e k h0 e2.symm)
     exact h1.kept hg2 (own_dis fun k h0 e => by have := (h1.lt k h0).1; injection e with e; omega)
 · unfold updX at hk ⊢
   by_cases e : b = x
   · rw [if_pos e] at hk
     rw [if_neg (fun e2 => hne (e.trans e2.symm))]
     rw [Option.getD_some] at hk
     rcases hloc with h1 | ⟨k1, h1, h2⟩
     · rw [h1] at hk
       exact h.two x b' (fun e2 => hne (e.trans e2)) k hk
     · rw [h1] at hk
       injection hk with hk
       intro h3
       have := ((h.own b').lt k h3).2
       omega
   · rw [if_neg e] at hk
     by_cases e2 : b' = x
     · rw [if_pos e2, Option.getD_some]
       rcases hloc with h1 | ⟨k1, h1, h2⟩
       · rw [h1]
         exact h.two b x e k hk
       · rw [h1]
         intro h3
         injection h3 with h3
         have := ((h.own b).lt k hk).2
         omega
     · rw [if_neg e2]
       exact h.two b b' hne k hk
section
variable {ops : Array Oper} {rest : List Oper} {o : Oper} {a : Act} {w : World} {Q : Exit → Act → World → Prop}
theorem append_at17 (hgd : o.guard = none) (s x : Operand) (ho : o.op = .call { callee := .builtin .append, args := #[s, x], argTypes := #[22, 22] }) (base : Nat) (v : Value) (xs : List Int) (n : Nat) (hn : xs.length = n) (hs : a.eval s = v) (hown : w.ownsRow base 3 1 v n (xs.map (Value.int .i64)))
   (ad : Addr) (cap : Nat) (y : Int) (hx : a.eval x = .slice (some ad) 1 cap) (hc : w.cell? ad = some (.int .i64 y)) (h63 : n ≤ 1000000) (hbase : base ≤ w.heap.size)
   (h : ∀ (hd : Hdr) w', OwnI17 base w' (hdV hd) (xs ++ [y]) → w.grownBy w' v.ownBlock → ((hdV hd).ownBlock = v.ownBlock ∨ (hdV hd).ownBlock = some w.heap.size) → wpList Tryz.prog ops Q rest (a.put o.dst (hdV hd)) w') : wpList Tryz.prog ops Q (o :: rest) a w := by
 obtain ⟨i0, hi, hz0, hz1, hz2⟩ := info_parts Tryz.infoInt
 refine wpList_append_own_at w hgd s x 22 ho base 3 i0 (.int .i64 0) 1 8 Tryz.underlying22 hi hz0 hz1 hz2 rfl (by decide) v n _ hs hown ad 1 cap [.int .i64 y] hx rfl (fun j u hj => ?_) (ints_oneCell _ [y]) (by unfold maxLen; omega) (by omega) hbase ?_
 · match j, hj with
   | 0, hj => simp at hj; subst hj; simpa [Addr.add] using hc
   | j + 1, hj => simp at hj
 · intro v' w' h1 h2 _ h4
   obtain ⟨ao, c, rfl⟩ := owns_slice17 h1
   refine h (ao, n + 1, c) w' ?_ h2 h4
   unfold OwnI17
   rw [List.length_append, List.map_append, hn]
   exact h1
end
theorem heldF_snoc (A : List Fnd) (m : Int → Option TopT) (f : Fnd) : heldF (A ++ [f]) m = if f.sq == ((m f.pl).getD noT).1 then putH (heldF A m) f.bk (heldF A m f.bk ++ [f.pl]) else heldF A m := by
 funext b
 unfold heldF
 rw [List.filter_append, List.map_append]
 have h1 : [f].filter (heldP m b) = if heldP m b f then [f] else [] := by rw [List.filter_cons]; rfl
 rw [h1]
 unfold heldP
 cases hz : (f.sq == ((m f.pl).getD noT).1)
 · simp
 · by_cases hb : f.bk = b
   · subst hb
     simp [putH]
   · have : (f.bk == b) = false := by simpa using hb
     rw [this]
     simp only [putH, if_true, Bool.false_and, Bool.false_eq_true, if_false, List.map_nil, List.append_nil]
     rw [if_neg (fun e => hb e.symm)]
theorem heldF_len (A : List Fnd) (m : Int → Option TopT) (b : Int) : (heldF A m b).length ≤ A.length := by
 unfold heldF
 rw [List.length_map]
 exact List.length_filter_le _ _
end Go.Proofs.YtdnpdoipipfkoaaGreatDoor

namespace Go.Proofs.YtdnpdoipipfkoaaGreatDoor
set_option linter.unusedVariables false
set_option linter.unusedSimpArgs false
set_option linter.unusedVariables false
set_option linter.unusedSimpArgs false
set_option maxRecDepth 100000
open Go.RowKit Go.Maps
structure LvW (w0 : World) (lv rv : Value) (mb tb hb : Nat) : Prop where
 lb : ∀ k, lv.ownBlock = some k → k < w0.heap.size
 rb : ∀ k, rv.ownBlock = some k → k < w0.heap.size
 h0 : w0.heap.size ≤ mb
 h1 : mb < tb
 h2 : tb < hb
structure Lv1S (w0 wr : World) (tb mb hb : Nat) (lv rv : Value) (A : List Fnd) (row : List Int) (k : Nat) (hm : Int → Option Hdr) : Prop where
 l : RowF wr lv A
 r : Ints wr rv row
 tc : Blk wr tb 179 #[.map (some mb)]
 m : TopsM wr mb 1000 (topsF A)
 h : HeldS wr hb k hm (heldF (A.take k) (topsF A))
 ext : w0.grownBy wr none
theorem Lv1S.next {w0 wr w' : World} {tb mb hb : Nat} {lv rv : Value} {A : List Fnd} {row : List Int} {k : Nat} {hm : Int → Option Hdr} (h : Lv1S w0 wr tb mb hb lv rv A row k hm) (hE : wr.grownBy w' none) : Lv1S w0 w' tb mb hb lv rv A row k hm :=
 ⟨h.l.ext hE, h.r.kept hE (by simp), h.tc.ext hE, h.m.ext hE, h.h.ext hE, ext_trans h.ext hE⟩
theorem Lv1S.put {w0 wr w7 w8 : World} {tb mb hb : Nat} {lv rv : Value} {A : List Fnd} {row : List Int} {k : Nat} {hm : Int → Option Hdr} (h : Lv1S w0 wr tb mb hb lv rv A row k hm) (W : LvW w0 lv rv mb tb hb) {f : Fnd} (hk : A.take (k + 1) = A.take k ++ [f]) (hz : (f.sq == ((topsF A f.pl).getD noT).1) = true)
   {hd : Hdr} (ho7 : OwnI17 (hb + 1) w7 (hdV hd) (heldF (A.take k) (topsF A) f.bk ++ [f.pl])) (hg7 : wr.grownBy w7 (hdV ((hm f.bk).getD nilH)).ownBlock) (hloc : (hdV hd).ownBlock = (hdV ((hm f.bk).getD nilH)).ownBlock ∨ ∃ q, (hdV hd).ownBlock = some q ∧ wr.heap.size ≤ q)
   (hm8 : HdrM w8 hb (k + 1) (updX hm f.bk hd)) (hg8 : w7.grownBy w8 (some hb)) : Lv1S w0 w8 tb mb hb lv rv A row (k + 1) (updX hm f.bk hd) := by
 have a0 := W.h0
 have a1 := W.h1
 have a2 := W.h2
 have hlow : ∀ q, (hdV ((hm f.bk).getD nilH)).ownBlock = some q → hb < q := fun q hq => ((h.h.own f.bk).lt q hq).1
 have n7 : ∀ q, q ≤ hb → some q ≠ (hdV ((hm f.bk).getD nilH)).ownBlock := fun q hq e => by have := hlow q e.symm; omega
 refine ⟨(h.l.kept hg7 (fun q hq => n7 q (by have := W.lb q hq; omega))).kept hg8 (fun q hq e => by have := W.lb q hq; injection e with e; omega), (h.r.kept hg7 (fun q hq => n7 q (by have := W.rb q hq; omega))).kept hg8 (fun q hq e => by have := W.rb q hq; injection e with e; omega), (h.tc.kept hg7 (n7 tb (by omega))).kept hg8 (fun e => by injection e with e; omega), (h.m.kept hg7 (n7 mb (by omega))).kept hg8 (fun e => by injection e with e; omega), ?_, ?_⟩
 · rw [hk, heldF_snoc, if_pos hz]
   exact h.h.put hg7 ho7 hloc hm8 hg8
 · have e1 := h.ext
   exact ⟨(hg8.os.trans hg7.os).trans e1.os, (hg8.tape.trans hg7.tape).trans e1.tape, (hg8.output.trans hg7.output).trans e1.output, Nat.le_trans e1.size (Nat.le_trans hg7.size hg8.size), fun q hq _ =>
     ((hg8.block q (Nat.lt_of_lt_of_le hq (Nat.le_trans e1.size hg7.size)) (fun e => by injection e with e; omega)).trans (hg7.block q (Nat.lt_of_lt_of_le hq e1.size) (n7 q (by omega)))).trans (e1.block q hq (by simp))⟩
theorem Lv1S.skip {w0 wr : World} {tb mb hb : Nat} {lv rv : Value} {A : List Fnd} {row : List Int} {k : Nat} {hm : Int → Option Hdr} (h : Lv1S w0 wr tb mb hb lv rv A row k hm) {f : Fnd} (hk : A.take (k + 1) = A.take k ++ [f]) (hz : (f.sq == ((topsF A f.pl).getD noT).1) = false) : Lv1S w0 wr tb mb hb lv rv A row (k + 1) hm :=
 ⟨h.l, h.r, h.tc, h.m, by rw [hk, heldF_snoc, if_neg (by rw [hz]; decide)]; exact h.h.mono (by omega), h.ext⟩
structure Lv2S (w0 w5 wr : World) (tb mb hb : Nat) (rv gv : Value) (A : List Fnd) (row : List Int) (hm : Int → Option Hdr) (N : Nat) (M : Int → Option TopT) (out : List Int) : Prop where
 r : Ints wr rv row
 tc : Blk wr tb 179 #[.map (some mb)]
 m : TopsM wr mb N M
 h : HdrM wr hb 1000 hm
 hi : ∀ b, Ints wr (hdV ((hm b).getD nilH)) (heldF A (topsF A) b)
 own : OwnI17 w5.heap.size wr gv out
 ext : w0.grownBy wr none
 sz : w5.heap.size ≤ wr.heap.size
theorem Lv2S.next {w0 w5 wr w' : World} {tb mb hb : Nat} {rv gv : Value} {A : List Fnd} {row : List Int} {hm : Int → Option Hdr} {N : Nat} {M : Int → Option TopT} {out : List Int} (h : Lv2S w0 w5 wr tb mb hb rv gv A row hm N M out) (hE : wr.grownBy w' none) : Lv2S w0 w5 w' tb mb hb rv gv A row hm N M out :=
 ⟨h.r.kept hE (by simp), h.tc.ext hE, h.m.ext hE, h.h.ext hE, fun b => (h.hi b).kept hE (by simp), h.own.kept hE (Classical.em _), ext_trans h.ext hE, Nat.le_trans h.sz hE.size⟩
structure LvV (w0 w5 : World) (hm : Int → Option Hdr) (hb : Nat) : Prop where
 s : w0.heap.size ≤ w5.heap.size
 hb5 : hb < w5.heap.size
 rows : ∀ b k, (hdV ((hm b).getD nilH)).ownBlock = some k → hb < k ∧ k < w5.heap.size
theorem Lv2S.goes {w0 w5 wr w' : World} {tb mb hb : Nat} {lv rv gv gv' : Value} {A : List Fnd} {row : List Int} {hm : Int → Option Hdr} {N : Nat} {M : Int → Option TopT} {out out' : List Int} (h : Lv2S w0 w5 wr tb mb hb rv gv A row hm N M out) (W : LvW w0 lv rv mb tb hb) (V : LvV w0 w5 hm hb)
   (hg : wr.grownBy w' gv.ownBlock) (ho : OwnI17 w5.heap.size w' gv' out') : Lv2S w0 w5 w' tb mb hb rv gv' A row hm N M out' := by
 have a0 := W.h0
 have a1 := W.h1
 have a2 := W.h2
 have a3 := V.s
 have a4 := V.hb5
 have nn : ∀ q, q < w5.heap.size → some q ≠ gv.ownBlock := fun q hq e => by have := (h.own.lt q e.symm).1; omega
 exact ⟨h.r.kept hg (fun q hq => nn q (by have := W.rb q hq; omega)), h.tc.kept hg (nn tb (by omega)), h.m.kept hg (nn mb (by omega)), h.h.kept hg (nn hb a4), fun b => (h.hi b).kept hg (fun q hq => nn q (V.rows b q hq).2), ho, own_ext17 h.own h.ext hg a3, Nat.le_trans h.sz hg.size⟩
theorem Lv2S.mark {w0 w5 wr w' : World} {tb mb hb : Nat} {lv rv gv : Value} {A : List Fnd} {row : List Int} {hm : Int → Option Hdr} {N N' : Nat} {M M' : Int → Option TopT} {out : List Int} (h : Lv2S w0 w5 wr tb mb hb rv gv A row hm N M out) (W : LvW w0 lv rv mb tb hb) (V : LvV w0 w5 hm hb)
   (hg : wr.grownBy w' (some mb)) (hM : TopsM w' mb N' M') : Lv2S w0 w5 w' tb mb hb rv gv A row hm N' M' out := by
 have a0 := W.h0
 have a1 := W.h1
 have a2 := W.h2
 have a4 := V.hb5
 have a3 := V.s
 exact ⟨h.r.kept hg (fun q hq e => by have := W.rb q hq; injection e with e; omega), h.tc.kept hg (fun e => by injection e with e; omega), hM, h.h.kept hg (fun e => by injection e with e; omega), fun b => (h.hi b).kept hg (fun q hq e => by have := (V.rows b q hq).1; injection e with e; omega), h.own.kept hg (own_dis fun q hq e => by have := (h.own.lt q hq).1; injection e with e; omega), g17_new h.ext hg a0, Nat.le_trans h.sz hg.size⟩
theorem lvN_len0 (A : List Fnd) (m0 : Int → Option TopT) : ∀ (l : List Int) (st : List Int × (Int → Option TopT)), (l.foldl (lvStep A m0) st).1.length ≤ st.1.length + l.length
 | [], st => by simp
 | b :: l, st => by
   have h1 := lvN_len0 A m0 l (lvStep A m0 st b)
   have h2 : (lvStep A m0 st b).1.length ≤ st.1.length + 1 := by
     unfold lvStep
     split
     · simp
     · simp
   rw [List.foldl_cons, List.length_cons]
   omega
theorem lvN_len (A : List Fnd) (l : List Int) : (lvN A l).1.length ≤ l.length := by
 have := lvN_len0 A (topsF A) l ([], topsF A)
 unfold lvN
 simpa using this
def BkR (fb : Nat) (x0 x5 : Int) (w : World) : Prop := w.cell? ⟨fb, 0, none⟩ = some (.int .i64 x0) ∧ w.cell? ⟨fb, 5, none⟩ = some (.int .i64 x5)
set_option maxHeartbeats 3200000 in
theorem leaving_any (lv rv : Value) (A : List Fnd) (row : List Int) (w : World) (h : RowF w lv A) (hr : Ints w rv row) (hlb : ∀ k, lv.ownBlock = some k → k < w.heap.size) (hrb : ∀ k, rv.ownBlock = some k → k < w.heap.size) (hl : A.length ≤ 1000) (hrl : row.length ≤ 1000)
   (hok : ∀ f ∈ A, okI f.pl ∧ okI f.bk) (hokr : ∀ x ∈ row, okI x) :
   Calls Tryz.prog 83 #[rv, lv] w fun e w' => (∃ v, e = .returned v ∧ OwnI17 w.heap.size w' v (lvN A row).1) ∧ w.grownBy w' none := by
 have TOPS := topsOf_any lv A w h hlb hl (fun f hf => (hok f hf).1)
 have hmm := @run_makeMap Tryz.prog
 have H0 := Lib.hid (And.intro h (And.intro hr (And.intro hlb hrb)))
 obtain ⟨ao, cap, hv, _⟩ := h
 obtain ⟨n, hn⟩ : ∃ n, A.length = n := ⟨_, rfl⟩
 rw [hn] at hv hl
 subst hv
 obtain ⟨ro, rc, rbk, roff, hrv, _⟩ := hr.form
 obtain ⟨nr, hnr⟩ : ∃ n, row.length = n := ⟨_, rfl⟩
 rw [hnr] at hrv hrl
 subst hrv
 have HN := Lib.hid (And.intro hn (And.intro hnr (And.intro hok hokr)))
 clear hn hnr hok hokr hlb hrb hr
 go_enter Tryz.func83, Tryz.ntmps83
 go_upto_region 3 with (first
   | (go_at_call 117; refine TOPS.mono ?_; rintro e w1 ⟨⟨mb, rfl, hm1, hmb⟩, hE1⟩; have HM1 := Lib.hid (And.intro hm1 hmb); have HE1 := Lib.hid hE1; obtain ⟨w3, hw3⟩ : ∃ v, (w1.alloc (.cells #[.map (some mb)] 179)).alloc (.map #[] 0) = v := ⟨_, rfl⟩; clear hm1 hmb hE1))
 clear hmm TOPS
 have HS := Lib.hid (show Lv1S w w3 w1.heap.size mb (w1.heap.size + 1) (.slice ao n cap) (.slice ro nr rc) A row 0 (fun _ => none) ∧ LvW w (.slice ao n cap) (.slice ro nr rc) mb w1.heap.size (w1.heap.size + 1) from by
   have hA := World.grownBy_alloc w1 (.cells #[.map (some mb)] 179) none
   have hB := World.grownBy_alloc (w1.alloc (.cells #[.map (some mb)] 179)) (.map #[] 0) none
   have hE3 : w1.grownBy w3 none := by rw [← hw3]; exact ext_trans hA hB
   have hE : w.grownBy w3 none := ext_trans HE1.out hE3
   have hs : (w1.alloc (.cells #[.map (some mb)] 179)).heap.size = w1.heap.size + 1 := by simp
   have hmade := HeldS.made (w1.alloc (.cells #[.map (some mb)] 179))
   rw [hs, hw3] at hmade
   exact ⟨⟨H0.out.1.ext hE, H0.out.2.1.kept hE (by simp), by rw [← hw3]; exact (Blk.new w1 _ _).ext hB, HM1.out.1.ext hE3, hmade, hE⟩, ⟨H0.out.2.2.1, H0.out.2.2.2, HM1.out.2, HM1.out.1.lt, Nat.lt_succ_self _⟩⟩)
 obtain ⟨tb, htb⟩ : ∃ z, w1.heap.size = z := ⟨_, rfl⟩
 rw [htb] at HS
 go_wp2
 try rw [htb]
 obtain ⟨hb, hhb⟩ : ∃ z, tb + 1 = z := ⟨_, rfl⟩
 rw [hhb] at HS
 try rw [hhb]
 have HW := Lib.hid HS.out.2
 have HS := Lib.hid HS.out.1
 clear hw3 HM1 HE1 H0 htb hhb
 go_loopw [21] (fun i wr => ∃ (k : Nat) (hm : Int → Option Hdr), k ≤ n ∧ i = .int .i64 k ∧ Lv1S w wr tb mb hb (.slice ao n cap) (.slice ro nr rc) A row k hm) (fun i _ => n - (intOf i).toNat)
 case atStart => exact ⟨0, _, by omega, rfl, HS.out⟩
 case round =>
   clear HS
   obtain ⟨k, hm, hk, rfl, hS⟩ := hrel
   obtain ⟨wo, rfl⟩ : ∃ wo : World, wo = wr := ⟨_, rfl⟩
   have HS := Lib.hid hS
   clear hS
   by_cases hlt : k < n
   · obtain ⟨f, hf⟩ : ∃ f, A.getD k noF = f := ⟨_, rfl⟩
     obtain ⟨ao2, cap2, hv2, hc2⟩ := HS.out.l
     obtain ⟨b, off, hao, hr⟩ := hc2 k (by rw [HN.out.1]; exact hlt)
     simp only [Value.slice.injEq] at hv2
     obtain ⟨rfl, -, -⟩ := hv2
     subst hao
     rw [hf] at hr
     have HF := Lib.hid (take17 (by rw [HN.out.1]; exact hlt) hf)
     have HOK := Lib.hid (HN.out.2.2.1 f (getD_mem17 (by rw [HN.out.1]; exact hlt) hf))
     have hBn := Blk.new wo 108 (fndC noF)
     clear hf hc2
     obtain ⟨fb, hfb⟩ : ∃ v, wo.heap.size = v := ⟨_, rfl⟩
     rw [hfb] at hBn
     have HFB := Lib.hid hfb
     go_upto_region 6 with (first
       | (refine fnd_load rfl _ rfl rfl hr ?_)
       | (refine fnd_store _ _ rfl rfl rfl hBn rfl rfl ?_; intro w2 hb2 hg2 hs2; have hE2 := g17_new (World.grownBy_alloc wo _ none) hg2 (by omega); have HE2 := Lib.hid hE2; have HS2 := Lib.hid (HS.out.next hE2); have HC2 := Lib.hid hb2; clear hBn hg2 hs2 hE2 hb2))
     clear hr hfb
     have d5 := (FCells.of HC2.out).pl
     have d6 := (FCells.of HC2.out).sq
     have d0 := (FCells.of HC2.out).bk
     have hok5 := HOK.out.1
     have hok0 := HOK.out.2
     obtain ⟨x5, hx5⟩ : ∃ z, f.pl = z := ⟨_, rfl⟩
     obtain ⟨x6, hx6⟩ : ∃ z, f.sq = z := ⟨_, rfl⟩
     obtain ⟨x0, hx0⟩ : ∃ z, f.bk = z := ⟨_, rfl⟩
     rw [hx5] at d5 hok5
     rw [hx6] at d6
     rw [hx0] at d0 hok0
     have HXX := Lib.hid (And.intro hx5 (And.intro hx6 hx0))
     obtain ⟨⟨t1, t2, t3⟩, ht⟩ : ∃ z, (topsF A x5).getD noT = z := ⟨_, rfl⟩
     have HTV := Lib.hid (show topV ((topsF A x5).getD noT) = .agg #[.int .i64 t1, .int .i64 t2, .bool t3] by rw [ht]; rfl)
     obtain ⟨z, hz⟩ : ∃ z, (x6 == t1) = z := ⟨_, rfl⟩
     have HZ := Lib.hid (show (f.sq == ((topsF A f.pl).getD noT).1) = z by rw [hx5, hx6, ht]; exact hz)
     have hm2 := HS2.out.m
     have htc : w2.cell? ⟨tb, 0, none⟩ = some (.map (some mb)) := HS2.out.tc.cell 0
     have hf0 := Tryz.topF0 t1 t2 t3 w2
     clear hx5 hx6 hx0 ht
     cases z
     · clear d0
       go_wp2_with (at_lookup; refine wpList_lookX rfl _ _ rfl topV_inj Tryz.underlying179 Tryz.underlying3 noT (Tryz.zeroTop _) hm2 rfl x5 rfl hok5 _ HTV.out ?_)
       go_roundw
       case rel => exact ⟨k + 1, hm, by omega, by go_num, HS2.out.skip HF.out HZ.out⟩
       case measure => simp [intOf]; omega
     · go_upto_region 7 with (at_lookup; refine wpList_lookX rfl _ _ rfl topV_inj Tryz.underlying179 Tryz.underlying3 noT (Tryz.zeroTop _) hm2 rfl x5 rfl hok5 _ HTV.out ?_)
       clear d6 htc hf0 hm2 hz
       obtain ⟨hd0, hhd⟩ : ∃ z, (hm x0).getD nilH = z := ⟨_, rfl⟩
       obtain ⟨zs, hzs⟩ : ∃ z, heldF (A.take k) (topsF A) x0 = z := ⟨_, rfl⟩
       have HD := Lib.hid (show hdV ((hm x0).getD nilH) = hdV hd0 by rw [hhd])
       have hownO := HS.out.h.own x0
       rw [hhd, hzs] at hownO
       have hfar : ∀ q, (hdV hd0).ownBlock = some q → hb < q ∧ q < fb := fun q hq => by
         have h1 := hownO.lt q hq
         have h2 := HFB.out
         omega
       have HFAR := Lib.hid (And.intro hfar (show hb < fb by have := HS.out.h.m.lt; have := HFB.out; omega))
       have hzl : zs.length ≤ 1000000 := by
         have h1 := heldF_len (A.take k) (topsF A) x0
         rw [hzs, List.length_take] at h1
         omega
       have HSd := Lib.hid (HS2.out.next (Ext.drew w2))
       have hA := World.grownBy_alloc w2.drew (.cells #[.int .i64 x5] 3) none
       have hS : BkR fb x0 x5 w2.drew := ⟨d0, d5⟩
       have hSa : BkR fb x0 x5 ((w2.alloc (.cells #[.int .i64 x5] 3)).drew) := ⟨hA.cell d0 (by simp), hA.cell d5 (by simp)⟩
       have hmd : HdrM w2.drew hb k hm := HSd.out.h.m
       have hma : HdrM ((w2.alloc (.cells #[.int .i64 x5] 3)).drew) hb k hm := hmd.ext hA
       have hown : OwnI17 (hb + 1) ((w2.alloc (.cells #[.int .i64 x5] 3)).drew) (hdV hd0) zs := by
         have h1 := (HSd.out.h.own x0).kept hA (Classical.em _)
         rw [hhd, hzs] at h1
         exact h1
       have hcx : ((w2.alloc (.cells #[.int .i64 x5] 3)).drew).cell? ⟨w2.heap.size, 0, none⟩ = some (.int .i64 x5) := box_int w2 x5
       have HA := Lib.hid hA
       have HZS := Lib.hid (And.intro hhd hzs)
       have hk4 : k < maxLen := by unfold maxLen; omega
       have hbase : hb + 1 ≤ ((w2.alloc (.cells #[.int .i64 x5] 3)).drew).heap.size := hma.lt
       clear hownO hfar hA hhd hzs
       refine region_tree (.read 0 (.read 1 (.read 2 (.read 3 (.read 4 (.read 5 (.read 7 (.read 8 (.read 9 (.two 6 10 (.one 10 (.one 11 (.one 12 .done))) (.one 6 (.one 11 (.one 12 .done))))))))))))) (BkR fb x0 x5) (by kernel_rfl) (by kernel_rfl) (fun _ _ _ d _ h => by cases d <;> exact h) hS ?_
       iterate 9 (refine tree_read (a' := ?_) rfl (by kernel_rfl) (by kernel_rfl) hS (fun z0 hx K hK => ?_) ?_; rotate_left; · (obtain ⟨q1, q2⟩ := hx; go_wp2; exact hK))
       refine tree_two ?one ?two
       case' one =>
         refine tree_one (by rfl) (fun K hK => ?_)
         refine wpList_lookX rfl _ _ rfl hdV_inj Tryz.underlying181 Tryz.underlying3 nilH (Tryz.zeroInts _) hmd rfl x0 rfl hok0 (hdV hd0) HD.out ?_
         go_wp2
         refine hK _ _ (BkR fb x0 x5) hS (fun x hx => hx) ?_
         clear hK K
         refine tree_one (by rfl) (fun K hK => ?_)
         go_wp2
         refine hK _ _ (BkR fb x0 x5) hSa (fun x hx => hx) ?_
         clear hK K
       case' two =>
         refine tree_one (by rfl) (fun K hK => ?_)
         go_wp2
         refine hK _ _ (BkR fb x0 x5) hSa (fun x hx => hx) ?_
         clear hK K
         refine tree_one (by rfl) (fun K hK => ?_)
         refine wpList_lookX rfl _ _ rfl hdV_inj Tryz.underlying181 Tryz.underlying3 nilH (Tryz.zeroInts _) hma rfl x0 rfl hok0 (hdV hd0) HD.out ?_
         go_wp2
         refine hK _ _ (BkR fb x0 x5) hSa (fun x hx => hx) ?_
         clear hK K
       all_goals
         refine tree_one (by rfl) (fun K hK => ?_)
         refine append_at17 rfl _ _ rfl (hb + 1) (hdV hd0) zs zs.length rfl rfl hown ⟨w2.heap.size, 0, none⟩ 1 x5 rfl hcx hzl hbase ?_
         intro hd1 w7 ho7 hg7 hl7
         have HO7 := Lib.hid ho7
         have HG7 := Lib.hid hg7
         have HL7 := Lib.hid hl7
         clear ho7 hg7 hl7
         go_wp2
         have hS7 : BkR fb x0 x5 w7 := ⟨HG7.out.cell hSa.1 (fun e => by have := (HFAR.out.1 _ e.symm).2; have e2 : fb < fb := this; omega), HG7.out.cell hSa.2 (fun e => by have := (HFAR.out.1 _ e.symm).2; have e2 : fb < fb := this; omega)⟩
         refine hK _ _ (BkR fb x0 x5) hS7 (fun x hx => hx) ?_
         clear hK K
         have hm7 : HdrM w7 hb k hm := hma.kept HG7.out (fun e => by have := (HFAR.out.1 _ e.symm).1; omega)
         refine tree_one (by rfl) (fun K hK => ?_)
         refine wpList_putX rfl _ _ _ rfl hdV_inj Tryz.underlying181 Tryz.underlying3 hm7 hk4 rfl x0 rfl hok0 hd1 rfl ?_
         intro w8 hm8 hg8
         have HM8 := Lib.hid hm8
         have HG8 := Lib.hid hg8
         clear hm8 hg8
         go_wp2
         have hS8 : BkR fb x0 x5 w8 := ⟨HG8.out.cell hS7.1 (fun e => by injection e with e; have h1 := HFAR.out.2; have e2 : fb = hb := e; omega), HG8.out.cell hS7.2 (fun e => by injection e with e; have h1 := HFAR.out.2; have e2 : fb = hb := e; omega)⟩
         refine hK _ _ (BkR fb x0 x5) hS8 (fun x hx => hx) ?_
         clear hK K
         refine tree_end ?_
         go_wp2
         clear hS hSa hS7 hS8 hmd hma hm7 hown hcx hzl hbase d0 d5
         go_roundw
         case rel =>
           obtain ⟨e5, e6, e0⟩ := HXX.out
           subst e5
           subst e0
           have hg7 : w2.drew.grownBy w7 (hdV ((hm f.bk).getD nilH)).ownBlock := by rw [HZS.out.1]; exact own_alloc17 (Ext.refl w2.drew) HG7.out
           have hl7 : (hdV hd1).ownBlock = (hdV ((hm f.bk).getD nilH)).ownBlock ∨ ∃ q, (hdV hd1).ownBlock = some q ∧ w2.drew.heap.size ≤ q := by
             rw [HZS.out.1]
             rcases HL7.out with h1 | h1
             · exact .inl h1
             · exact .inr ⟨_, h1, HA.out.size⟩
           exact ⟨k + 1, _, by omega, by go_num, HSd.out.put HW.out HF.out HZ.out (by rw [HZS.out.2]; exact HO7.out) hg7 hl7 HM8.out HG8.out⟩
         case measure => simp [intOf]; omega
   · obtain rfl : k = n := by omega
     have hV : LvV w wo hm hb := ⟨HS.out.ext.size, HS.out.h.m.lt, fun b q hq => (HS.out.h.own b).lt q hq⟩
     have HV := Lib.hid hV
     have HR := Lib.hid (show Lv2S w wo wo tb mb hb (.slice ro nr rc) (.slice none 0 0) A row hm 1000 (lvN A (row.take 0)).2 (lvN A (row.take 0)).1 from by
       refine ⟨HS.out.r, HS.out.tc, HS.out.m, HS.out.h.m.mono hl, fun b => ?_, ⟨by simp [lvN], .inl ⟨rfl, rfl⟩⟩, HS.out.ext, Nat.le_refl _⟩
       have h1 := (HS.out.h.own b).ints
       rw [List.take_of_length_le (by rw [HN.out.1]; exact Nat.le_refl _)] at h1
       exact h1)
     clear hV HS
     go_wp2
     go_loopw [9, 50] (fun gv i wr => ∃ (k : Nat) (N : Nat), k ≤ nr ∧ i = .int .i64 k ∧ N ≤ 1000 + k * 1000 ∧ Lv2S w wo wr tb mb hb (.slice ro nr rc) gv A row hm N (lvN A (row.take k)).2 (lvN A (row.take k)).1) (fun _ i _ => nr - (intOf i).toNat)
     case atStart => exact ⟨0, 1000, by omega, rfl, by omega, HR.out⟩
     case round =>
       clear HR
       obtain ⟨k, N, hk, rfl, hNk, hR⟩ := hrel
       obtain ⟨wp, rfl⟩ : ∃ wp : World, wp = wr := ⟨_, rfl⟩
       have HR := Lib.hid hR
       obtain ⟨go_, gc, hgv⟩ := owns_slice17 hR.own
       obtain ⟨no, hno0⟩ : ∃ z, (lvN A (row.take k)).1.length = z := ⟨_, rfl⟩
       rw [hno0] at hgv
       subst hgv
       have HNO0 := Lib.hid hno0
       clear hR hno0
       by_cases hlt : k < nr
       · obtain ⟨ro2, rc2, rb2, roff2, hrv2, hrc2⟩ := HR.out.r.form
         obtain ⟨hro, hcell⟩ := hrc2 k (by rw [HN.out.2.1]; exact hlt)
         simp only [Value.slice.injEq] at hrv2
         obtain ⟨rfl, -, -⟩ := hrv2
         subst hro
         obtain ⟨bl, hbl⟩ : ∃ x, row.getD k 0 = x := ⟨_, rfl⟩
         rw [hbl] at hcell
         have hkr : k < row.length := by rw [HN.out.2.1]; exact hlt
         have hget : row[k] = bl := by rw [List.getD_eq_getElem?_getD, List.getElem?_eq_getElem hkr] at hbl; exact hbl
         have htk : row.take (k + 1) = row.take k ++ [bl] := by rw [List.take_add_one, List.getElem?_eq_getElem hkr, hget]; rfl
         have hokb : okI bl := HN.out.2.2.2 bl (by rw [← hget]; exact List.getElem_mem hkr)
         obtain ⟨⟨out, M⟩, hst⟩ : ∃ z, lvN A (row.take k) = z := ⟨_, rfl⟩
         have HST := Lib.hid (show (lvN A (row.take k)).1 = out by rw [hst])
         obtain ⟨zs, hzs⟩ : ∃ z, heldF A (topsF A) bl = z := ⟨_, rfl⟩
         obtain ⟨nz, hnz⟩ : ∃ z, zs.length = z := ⟨_, rfl⟩
         obtain ⟨ks, hks⟩ : ∃ z, zs.any (keepsP M bl) = z := ⟨_, rfl⟩
         have hstep : lvN A (row.take (k + 1)) = if ks then (out, markAll M zs) else (out ++ [bl], M) := by
           rw [htk, lvN_snoc, hst]
           unfold lvStep
           rw [hzs, hks]
         have hR := HR.out
         rw [hst] at hR
         have HR := Lib.hid hR
         have hokz : ∀ x ∈ zs, okI x := fun x hx => by
           rw [← hzs] at hx
           obtain ⟨f, f1, _, _, f4⟩ := heldF_mem.1 hx
           rw [← f4]
           exact (HN.out.2.2.1 f f1).1
         have hnz1 : nz ≤ 1000 := by rw [← hnz, ← hzs]; have h1 := heldF_len A (topsF A) bl; have h2 := HN.out.1; omega
         obtain ⟨zo, zc, zb, zoff, hzv, hzc0⟩ := (hR.hi bl).form
         rw [hzs, hnz] at hzv
         have HZV := Lib.hid (And.intro hzv (And.intro hzs hnz))
         have HSTEP := Lib.hid hstep
         have HOKZ := Lib.hid hokz
         clear hR hrc2 hbl hkr hget htk hst hstep hzc0 hzv hzs hokz hnz
         have HR9 := Lib.hid (HR.out.next (World.grownBy_alloc wp (.cells #[.int .i64 bl] 3) none))
         have hbb9 := box_int wp bl
         obtain ⟨w9, hw9⟩ : ∃ v, wp.alloc (.cells #[.int .i64 bl] 3) = v := ⟨_, rfl⟩
         rw [hw9] at HR9 hbb9
         obtain ⟨bb, hbb⟩ : ∃ z, wp.heap.size = z := ⟨_, rfl⟩
         rw [hbb] at hbb9
         have hm9 := HR9.out.h
         have hz9 : Ints w9 (.slice zo nz zc) zs := by
           have h1 := HR9.out.hi bl
           rw [HZV.out.1, HZV.out.2.1] at h1
           exact h1
         have CON := containsFn17_any 118 Tryz.eg7 #[.pointer (some ⟨tb, 0, none⟩), .pointer (some ⟨bb, 0, none⟩)] (keepsP M bl) (.slice zo nz zc) zs w9 hz9 (by rw [HZV.out.2.2]; exact hnz1) (fun x hx => keeps17_any tb bb mb N M bl x w9 (HOKZ.out x hx) (HR9.out.tc.cell 0) hbb9 HR9.out.m)
         rw [hks] at CON
         clear hks hz9
         have HOL := Lib.hid (show out.length ≤ 1000 from by have h1 := lvN_len A (row.take k); rw [HST.out, List.length_take] at h1; have h2 : out.length ≤ min k row.length := h1; omega)
         have hno : out.length = no := by have h1 := HNO0.out; rw [HST.out] at h1; exact h1
         have HNO := Lib.hid hno
         cases ks
         · have hown := HR9.out.own.alloc (.cells #[.int .i64 bl] 3)
           rw [hno] at hown
           clear hno
           go_wp2_with (first
             | (at_lookup; refine wpList_lookX rfl _ _ rfl hdV_inj Tryz.underlying181 Tryz.underlying3 nilH (Tryz.zeroInts _) hm9 rfl bl rfl hokb (.slice zo nz zc) HZV.out.1 ?_)
             | (go_at_call 47; refine CON.mono ?_; rintro e w10 ⟨rfl, rfl⟩)
             | (at_builtin; go_loud (refine append_int17 rfl _ _ rfl wo.heap.size (.slice go_ no gc) out no HNO.out rfl hown ⟨w9.heap.size, 0, none⟩ 1 bl rfl (box_int w9 bl) (by have := HOL.out; have := HNO.out; omega) (by have := HR9.out.sz; simp; omega) ?_; intro v' w11 hrow' hg'; have hE11 := Lib.hid (own_alloc17 (Ext.refl w9) hg'); obtain ⟨ao4, cap4, hv4⟩ := owns_slice17 hrow'; subst hv4)))
           go_roundw
           case rel =>
             refine ⟨k + 1, N, by omega, by go_num, by omega, ?_⟩
             rw [HSTEP.out]
             refine HR9.out.goes HW.out HV.out hE11.out ?_
             show World.ownsRow _ _ _ _ _ (out ++ [bl]).length _
             rw [List.length_append, HNO.out]
             exact hrow'
           case measure => simp [intOf]; omega
         · go_wp2_with (first
             | (at_lookup; refine wpList_lookX rfl _ _ rfl hdV_inj Tryz.underlying181 Tryz.underlying3 nilH (Tryz.zeroInts _) hm9 rfl bl rfl hokb (.slice zo nz zc) HZV.out.1 ?_)
             | (go_at_call 47; refine CON.mono ?_; rintro e w10 ⟨rfl, rfl⟩))
           clear hno CON hcell hm9 hbb9
           go_loopw [69] (fun i wr => ∃ (j : Nat) (N2 : Nat), j ≤ nz ∧ i = .int .i64 j ∧ N2 ≤ 1000 + k * 1000 + j ∧ Lv2S w wo wr tb mb hb (.slice (some ⟨rb2, roff2, none⟩) nr rc) (.slice go_ no gc) A row hm N2 (markAll M (zs.take j)) out) (fun i _ => nz - (intOf i).toNat)
           case atStart => exact ⟨0, N, by omega, rfl, by omega, HR9.out⟩
           case round =>
             clear HR9
             obtain ⟨j, N2, hj, rfl, hN2, hR⟩ := hrel
             obtain ⟨wq, rfl⟩ : ∃ wq : World, wq = wr := ⟨_, rfl⟩
             have HRQ := Lib.hid hR
             by_cases hlt2 : j < nz
             · obtain ⟨zo2, zc2, zb2, zoff2, hzv2, hzc2⟩ := (hR.hi bl).form
               rw [HZV.out.1, HZV.out.2.1] at hzv2
               rw [HZV.out.2.1] at hzc2
               obtain ⟨hzo, hcell⟩ := hzc2 j (by rw [HZV.out.2.2]; exact hlt2)
               simp only [Value.slice.injEq] at hzv2
               obtain ⟨rfl, -, rfl⟩ := hzv2
               subst hzo
               obtain ⟨p, hp⟩ : ∃ x, zs.getD j 0 = x := ⟨_, rfl⟩
               rw [hp] at hcell
               have hjz : j < zs.length := by rw [HZV.out.2.2]; exact hlt2
               have hget : zs[j] = p := by rw [List.getD_eq_getElem?_getD, List.getElem?_eq_getElem hjz] at hp; exact hp
               have htk : zs.take (j + 1) = zs.take j ++ [p] := by rw [List.take_add_one, List.getElem?_eq_getElem hjz, hget]; rfl
               have hokp : okI p := HOKZ.out p (by rw [← hget]; exact List.getElem_mem hjz)
               obtain ⟨M', hM'⟩ : ∃ z, markAll M (zs.take j) = z := ⟨_, rfl⟩
               obtain ⟨⟨t1, t2, t3⟩, ht⟩ : ∃ z, (M' p).getD noT = z := ⟨_, rfl⟩
               have HMK := Lib.hid (show markAll M (zs.take (j + 1)) = updX M' p (t1, t2, true) by rw [htk, markAll_snoc, hM']; unfold markOne; rw [ht])
               have HTV := Lib.hid (show topV ((M' p).getD noT) = .agg #[.int .i64 t1, .int .i64 t2, .bool t3] by rw [ht]; rfl)
               have hR2 := HRQ.out
               rw [hM'] at hR2
               have HRQ := Lib.hid hR2
               have hmq := hR2.m
               have htc : wq.cell? ⟨tb, 0, none⟩ = some (.map (some mb)) := hR2.tc.cell 0
               have HA := Lib.hid (HRQ.out.next (World.grownBy_alloc wq (.cells #[.int .i64 t1, .int .i64 t2, .bool true] 183) none))
               have hma := HA.out.m
               have htca : (wq.alloc (.cells #[.int .i64 t1, .int .i64 t2, .bool true] 183)).cell? ⟨tb, 0, none⟩ = some (.map (some mb)) := HA.out.tc.cell 0
               have hk4 : N2 < maxLen := by unfold maxLen; omega
               clear hR hR2 hp hjz hget htk hM' ht hzc2
               go_wp2_with (first
                 | (at_lookup; refine wpList_lookX rfl _ _ rfl topV_inj Tryz.underlying179 Tryz.underlying3 noT (Tryz.zeroTop _) hmq rfl p rfl hokp _ HTV.out ?_)
                 | (at_mapUpdate; refine wpList_putX rfl _ _ _ rfl topV_inj Tryz.underlying179 Tryz.underlying3 hma hk4 rfl p rfl hokp (t1, t2, true) rfl ?_; intro w8 hm8 hg8; have HM8 := Lib.hid hm8; have HG8 := Lib.hid hg8; clear hm8 hg8))
               go_roundw
               case rel => exact ⟨j + 1, N2 + 1, by omega, by go_num, by omega, by rw [HMK.out]; exact HA.out.mark HW.out HV.out HG8.out HM8.out⟩
               case measure => simp [intOf]; omega
             · obtain rfl : j = nz := by omega
               have hR2 := HRQ.out
               rw [List.take_of_length_le (by rw [HZV.out.2.2]; exact Nat.le_refl _)] at hR2
               have HRQ := Lib.hid hR2
               clear hR hR2
               go_wp2
               go_roundw
               case rel =>
                 refine ⟨k + 1, N2, by omega, by go_num, by omega, ?_⟩
                 rw [HSTEP.out]
                 exact HRQ.out
               case measure => simp [intOf]; omega
       · obtain rfl : k = nr := by omega
         go_wp2
         go_ret
         have hte : row.take k = row := List.take_of_length_le (by rw [HN.out.2.1]; exact Nat.le_refl _)
         refine ⟨⟨_, rfl, ?_⟩, HR.out.ext⟩
         have hown := owns_le17 HR.out.own HV.out.s
         rw [hte] at hown
         exact hown
end Go.Proofs.YtdnpdoipipfkoaaGreatDoor

namespace Go.Proofs.YtdnpdoipipfkoaaGreatDoor
set_option linter.unusedVariables false
set_option linter.unusedSimpArgs false
set_option linter.unusedVariables false
set_option linter.unusedSimpArgs false
set_option maxRecDepth 100000
open Go.RowKit
theorem goN_rise (L A : List Fnd) : ∀ k : Nat, (goN L A k).Pairwise (· < ·) ∧ ∀ x ∈ goN L A k, x < (k : Int)
 | 0 => by simp [goN]
 | k + 1 => by
   obtain ⟨h1, h2⟩ := goN_rise L A k
   show (goStep L A (goN L A k) k).Pairwise _ ∧ ∀ x ∈ goStep L A (goN L A k) k, _
   unfold goStep
   split
   · refine ⟨List.pairwise_append.2 ⟨h1, by simp, fun a ha b hb => ?_⟩, fun x hx => ?_⟩
     · obtain rfl := List.mem_singleton.1 hb; exact h2 a ha
     · rcases List.mem_append.1 hx with q | q
       · have := h2 x q; omega
       · have := List.mem_singleton.1 q; omega
   · exact ⟨h1, fun x hx => by have := h2 x hx; omega⟩
theorem bsearch17_any (B : Nat) (v : Value) (xs : List Int) (x : Int) (w : World) (h : OwnI17 B w v xs) (hs : xs.Pairwise (· ≤ ·)) (hl : xs.length ≤ 1000) :
   Calls Tryz.prog 86 #[v, .int .i64 x] w fun e w' => (∃ i, e = .returned (.tuple #[.int .i64 i, .bool (xs.contains x)])) ∧ w.grownBy w' none := by
 rcases h.2 with ⟨rfl, h0⟩ | ⟨g, cap, cur, rfl, hb, hg, hn, hm, hsz, ht⟩
 · obtain rfl := List.eq_nil_of_length_eq_zero h0
   refine (Tryz.slices_BinarySearch_int_empty none 0 x w).mono ?_
   rintro e w' ⟨rfl, rfl⟩
   exact ⟨⟨0, rfl⟩, Ext.refl _⟩
 · have hI : ∀ j, j < xs.length → w.cell? ⟨g, 0 + j, none⟩ = some (.int .i64 (xs.getD j 0)) := fun j hj => by
     have h1 := h.cells (g := g) rfl j (.int .i64 (xs.getD j 0)) (by rw [List.getElem?_map, List.getElem?_eq_getElem hj, List.getD_eq_getElem?_getD, List.getElem?_eq_getElem hj]; rfl)
     rw [addr_add] at h1
     exact h1
   refine (Tryz.slices_BinarySearch_int g 0 xs.length cap xs x w (Nat.le_refl _) (by omega) hI (by rw [List.take_length]; exact hs)).mono ?_
   rintro e w' ⟨rfl, q, rfl⟩
   rw [List.take_length]
   exact ⟨⟨_, rfl⟩, gb_drewN w q⟩
theorem heal2_any (B : Nat) (gv : Value) (gone : List Int) (gb : Nat) (f : Fnd) (w : World) (ho : OwnI17 B w gv gone) (hs : gone.Pairwise (· ≤ ·)) (hl : gone.length ≤ 1000) (hg : w.cell? ⟨gb, 0, none⟩ = some gv) :
   Calls Tryz.prog 85 #[.agg (fndC f), .pointer (some ⟨gb, 0, none⟩)] w fun e w' => e = .returned (.bool (stayF gone f)) ∧ w.grownBy w' none := by
 have hE := World.grownBy_alloc w (.cells (fndC f) 108) none
 have d0 := (FCells.of (Blk.new w 108 (fndC f))).bk
 have hg := hE.cell hg (by simp)
 have ho := ho.kept hE (Classical.em _)
 obtain ⟨go_, gc, hgv⟩ := owns_slice17 ho
 subst hgv
 unfold stayF
 obtain ⟨x, hx⟩ : ∃ z, f.bk = z := ⟨_, rfl⟩
 rw [hx] at d0 ⊢
 have BS := bsearch17_any B _ gone x _ ho hs hl
 obtain ⟨z, hz⟩ : ∃ z, gone.contains x = z := ⟨_, rfl⟩
 rw [hz] at BS ⊢
 have HE := Lib.hid hE
 clear hx hz hE ho hs hl
 go_enter Tryz.func85, Tryz.ntmps85
 go_wp2_with (go_at_call 86; refine BS.mono ?_; rintro e w3 ⟨⟨i, rfl⟩, hE3⟩; have HE3 := Lib.hid (ext_trans HE.out hE3); clear hE3)
 go_ret
 exact ⟨rfl, HE3.out⟩
theorem cnt_is (B tn ep sz : Int) (L : List Fnd) : ((L.filter (witB B)).filter (mineF tn ep)).filter (belB sz) = cntL B tn ep sz L := by
 unfold cntL
 rw [List.filter_filter, List.filter_filter]
 congr 1
 funext f
 unfold witB belB cntB
 cases decide (0 ≤ f.bk) <;> cases decide (f.bk < B) <;> cases mineF tn ep f <;> cases decide (f.pl < sz) <;> rfl
theorem row_is (B : Int) (L : List Fnd) (x : Int) : x ∈ blkL (L.filter (witB B)) ↔ 0 ≤ x ∧ x < B ∧ someB L x = true := by
 rw [(blkL_ok _).2.1]
 unfold someB
 rw [List.any_eq_true]
 simp only [List.mem_filter, witB, Bool.and_eq_true, decide_eq_true_eq, beq_iff_eq]
 constructor
 · rintro ⟨f, ⟨h1, h2, h3⟩, rfl⟩
   exact ⟨h2, h3, f, h1, rfl⟩
 · rintro ⟨h1, h2, f, h3, rfl⟩
   exact ⟨f, ⟨h3, h1, h2⟩, rfl⟩
theorem made17 {B : Nat} {w1 wx : World} {v : Value} {L : List Fnd} (h : OwnF B w1 v L) (hE : w1.grownBy wx none) : RowF wx v L ∧ ∀ k, v.ownBlock = some k → k < wx.heap.size :=
 ⟨(RowF.owns h).ext hE, fun k hk => by have := (h.lt k hk).2; have := hE.size; omega⟩
end Go.Proofs.YtdnpdoipipfkoaaGreatDoor

namespace Go.Proofs.YtdnpdoipipfkoaaGreatDoor
set_option linter.unusedVariables false
set_option linter.unusedSimpArgs false
set_option linter.unusedVariables false
set_option linter.unusedSimpArgs false
set_option maxRecDepth 100000
open Go.RowKit
def GoneR (gb : Nat) (v : Value) (w : World) : Prop := w.cell? ⟨gb, 0, none⟩ = some v
set_option maxHeartbeats 3200000 in
theorem heal_c : HealC := by
 intro lv L B tn ep sz w HASK
 obtain ⟨hokl, hl60, hB64⟩ := mayL_parts HASK.may
 have hE0 := World.grownBy_alloc w (.cells #[.int .i64 sz] 3) none
 have hE1 := World.grownBy_alloc (w.alloc (.cells #[.int .i64 sz] 3)) (.cells (hldC none 0 0 none 0 0 0) 99) none
 have hb := hE1.cell (box_int w sz) (by simp)
 have hrb := Blk.new (w.alloc (.cells #[.int .i64 sz] 3)) 99 (hldC none 0 0 none 0 0 0)
 rw [show (w.alloc (.cells #[.int .i64 sz] 3)).heap.size = w.heap.size + 1 by simp] at hrb
 have HA := HASK.ext (ext_trans hE0 hE1)
 have HE0 := Lib.hid (ext_trans hE0 hE1)
 obtain ⟨w0, hw0⟩ : ∃ v, (w.alloc (.cells #[.int .i64 sz] 3)).alloc (.cells (hldC none 0 0 none 0 0 0) 99) = v := ⟨_, rfl⟩
 rw [hw0] at HA HE0 hb hrb
 have hw0 : (w.alloc (.cells #[.int .i64 sz] 3)).alloc (.cells #[.slice none 0 0, .slice none 0 0, .int .i64 0] 99) = w0 := hw0
 obtain ⟨g, hgg⟩ : ∃ z, w.heap.size = z := ⟨_, rfl⟩
 rw [hgg] at hb hrb
 have WIT := within17_any B lv L w0 HA.row HA.lb (by omega)
 have hl1 : (L.filter (witB B)).length ≤ 1000 := Nat.le_trans (List.length_filter_le _ _) (by omega)
 have hrow := row_is B L
 have hcnt := cnt_is B tn ep sz L
 have hsq : ∀ f ∈ (L.filter (witB B)).filter (mineF tn ep), 0 ≤ f.sq ∧ f.sq ≤ 2147483647 := fun f hf => by
   obtain ⟨h1, h2⟩ := List.mem_filter.1 hf
   exact (okB_sq (hokl f (List.mem_filter.1 h1).1 (mine_torn h2))).2
 have hAok : ∀ f ∈ cntL B tn ep sz L, (0 ≤ f.pl ∧ f.pl ≤ 63) ∧ (0 ≤ f.bk ∧ f.bk < 64) ∧ f.bk ∈ blkL (L.filter (witB B)) := fun f hf => by
   obtain ⟨h1, h2⟩ := List.mem_filter.1 hf
   unfold cntB at h2
   simp only [Bool.and_eq_true, decide_eq_true_eq] at h2
   obtain ⟨h3, h4, h5, _⟩ := h2
   refine ⟨(okB_sq (hokl f h1 (mine_torn h5))).1, ⟨h3, by omega⟩, ?_⟩
   rw [row_is]
   exact ⟨h3, h4, List.any_eq_true.2 ⟨f, h1, by simp⟩⟩
 have hgo := leaves_is L (cntL B tn ep sz L) B (blkL (L.filter (witB B))) (blkL_ok _).1 hrow (fun f hf => (hAok f hf).2.2)
 have hnxt := fun q => nxt_is B tn ep L hokl q
 have hsp := fun l h1 h2 => spots_is (cntL B tn ep sz L) (goN L (cntL B tn ep sz L) B.toNat) (fun f hf => (hAok f hf).1) l h1 h2
 have hrise := (goN_rise L (cntL B tn ep sz L) B.toNat).1
 have hgl := goN_len L (cntL B tn ep sz L) B.toNat
 have hrl := (blkL_ok (L.filter (witB B))).2.2
 have hrok : ∀ x ∈ blkL (L.filter (witB B)), okI x := fun x hx => by
   have h1 := (hrow x).1 hx
   exact okI_of (by omega) (by omega)
 obtain ⟨L1, hL1⟩ : ∃ z, L.filter (witB B) = z := ⟨_, rfl⟩
 rw [hL1] at WIT hl1 hcnt hsq hAok hgo hrl hrok
 simp only [hL1] at hnxt
 have hl2 : (L1.filter (mineF tn ep)).length ≤ 1000 := Nat.le_trans (List.length_filter_le _ _) hl1
 obtain ⟨L2, hL2⟩ : ∃ z, L1.filter (mineF tn ep) = z := ⟨_, rfl⟩
 rw [hL2] at hl2 hcnt hsq
 simp only [hL2] at hnxt
 have hl3 : (cntL B tn ep sz L).length ≤ 1000 := by rw [← hcnt]; exact Nat.le_trans (List.length_filter_le _ _) hl2
 obtain ⟨A, hA⟩ : ∃ z, cntL B tn ep sz L = z := ⟨_, rfl⟩
 rw [hA] at hcnt hAok hgo hrise hgl hl3
 simp only [hA] at hsp
 rw [hA]
 obtain ⟨gone, hgone⟩ : ∃ z, goN L A B.toNat = z := ⟨_, rfl⟩
 rw [hgone] at hgo hrise hgl
 simp only [hgone] at hsp
 rw [hgone]
 obtain ⟨q, hq⟩ : ∃ z, seqN B tn ep L = z := ⟨_, rfl⟩
 simp only [hq] at hnxt
 rw [hq]
 obtain ⟨sp, hspn⟩ : ∃ z, spotsN A gone 64 = z := ⟨_, rfl⟩
 simp only [hspn] at hsp
 rw [hspn]
 have hl4 : (A.filter (stayF gone)).length ≤ 1000 := Nat.le_trans (List.length_filter_le _ _) hl3
 have HL := Lib.hid (And.intro hl1 (And.intro hl2 (And.intro hl3 hl4)))
 have HX := Lib.hid (And.intro hL2 (And.intro hcnt (And.intro hsq hAok)))
 have HGO := Lib.hid (And.intro hgo (And.intro (hrise.imp (fun {_ _} h => Int.le_of_lt h)) (show gone.length ≤ 1000 by omega)))
 have HNX := Lib.hid (And.intro hnxt hsp)
 have HRL := Lib.hid (And.intro (show (blkL L1).length ≤ 1000 by omega) hrok)
 have HB := Lib.hid hb
 have HRB := Lib.hid hrb
 have HG := Lib.hid (And.intro hgg (show g + 1 < w0.heap.size from hrb.lt))
 clear HA hokl hl60 hB64 hE0 hE1 hb hrb hL1 hL2 hl1 hl2 hl3 hl4 HASK hgg hrow hcnt hsq hAok hgo hnxt hsp hrise hgl hrl hrok hA hgone hq hspn
 go_enter Tryz.func39, Tryz.ntmps39
 go_upto_region 1 with fail
 clear hw0
 go_upto_region 3 with (first
   | (go_at_call 79; refine WIT.mono ?_; rintro e w1 ⟨⟨v1, rfl, ho1⟩, hE1⟩; have HO1 := Lib.hid ho1; have HE1 := Lib.hid hE1; have OWN := owned17_any tn ep v1 L1 w1 (made17 ho1 (Ext.refl _)).1 (made17 ho1 (Ext.refl _)).2 HL.out.1; clear ho1 hE1)
   | (go_at_call 80; refine OWN.mono ?_; rintro e w2 ⟨⟨v2, rfl, ho2⟩, hE2⟩; have HO2 := Lib.hid ho2; have HE2 := Lib.hid hE2; clear ho2 hE2))
 clear WIT OWN
 have ho2 := HO2.out
 rw [HX.out.1] at ho2
 have hb2 := HE2.out.cell (HE1.out.cell HB.out (by simp)) (by simp)
 have T := those17_any 82 Tryz.eg3 #[.pointer (some ⟨g, 0, none⟩)] (belB sz) v2 L2 w2 (made17 ho2 (Ext.refl _)).1 (made17 ho2 (Ext.refl _)).2 HL.out.2.1 (fun f _ wx hE => heal1_any sz g f wx (hE.cell hb2 (by simp)))
 rw [HX.out.2.1] at T
 have HO2 := Lib.hid ho2
 clear ho2 hb2
 try rw [HG.out.1]
 go_upto_region 4 with (go_at_call 81; refine T.mono ?_; rintro e w3 ⟨⟨v3, rfl, ho3⟩, hE3⟩; have HO3 := Lib.hid ho3; have HE3 := Lib.hid hE3; clear ho3 hE3)
 clear T
 have hm1 := made17 HO1.out (ext_trans HE2.out HE3.out)
 have BLK := blocksOf_any v1 L1 w3 hm1.1 hm1.2 HL.out.1
 clear hm1
 go_upto_region 5 with (first
   | (go_at_call 84; refine BLK.mono ?_; rintro e w4 ⟨⟨v4, rfl, ho4⟩, hE4⟩; have HE4 := Lib.hid hE4; have LV := leaving_any v3 v4 A (blkL L1) w4 (made17 HO3.out hE4).1 ho4.ints (made17 HO3.out hE4).2 (fun k hk => (ho4.lt k hk).2) HL.out.2.2.1 HRL.out.1 (fun f hf => ⟨okI_of (by have := (HX.out.2.2.2 f hf).1; omega) (by have := (HX.out.2.2.2 f hf).1; omega), okI_of (by have := (HX.out.2.2.2 f hf).2.1; omega) (by have := (HX.out.2.2.2 f hf).2.1; omega)⟩) HRL.out.2; rw [HGO.out.1] at LV; clear ho4 hE4)
   | (go_at_call 83; refine LV.mono ?_; rintro e w5 ⟨⟨gv, rfl, ho5⟩, hE5⟩; have HO5 := Lib.hid ho5; have HE5 := Lib.hid hE5; obtain ⟨go_, gc, hgv⟩ := owns_slice17 ho5; subst hgv; clear ho5 hE5))
 clear BLK LV
 have HE6 := Lib.hid (World.grownBy_alloc w5 (.cells #[.slice go_ gone.length gc] 22) none)
 have hgb : (w5.alloc (.cells #[.slice go_ gone.length gc] 22)).cell? ⟨w5.heap.size, 0, none⟩ = some (.slice go_ gone.length gc) := (Blk.new w5 22 #[.slice go_ gone.length gc]).cell 0
 obtain ⟨w6, hw6⟩ : ∃ v, w5.alloc (.cells #[.slice go_ gone.length gc] 22) = v := ⟨_, rfl⟩
 rw [hw6] at HE6 hgb ⊢
 obtain ⟨gb, hgbz⟩ : ∃ z, w5.heap.size = z := ⟨_, rfl⟩
 rw [hgbz] at hgb ⊢
 have hm3 := made17 HO3.out (ext_trans (ext_trans HE4.out HE5.out) HE6.out)
 have T := those17_any 85 Tryz.eg5 #[.pointer (some ⟨gb, 0, none⟩)] (stayF gone) v3 A w6 hm3.1 hm3.2 HL.out.2.2.1 (fun f _ wx hE => heal2_any w4.heap.size _ gone gb f wx ((HO5.out.kept HE6.out (Classical.em _)).kept hE (Classical.em _)) HGO.out.2.1 HGO.out.2.2 (hE.cell hgb (by simp)))
 have HGB := Lib.hid hgb
 have HGB2 := Lib.hid (show g + 1 < gb by have := HG.out.2; have h1 := HE1.out.size; have h2 := HE2.out.size; have h3 := HE3.out.size; have h4 := HE4.out.size; have h5 := HE5.out.size; omega)
 clear hm3 hgb hw6 hgbz
 go_upto_region 6 with (go_at_call 81; refine T.mono ?_; rintro e w7 ⟨⟨v5, rfl, ho7⟩, hE7⟩; have HO7 := Lib.hid ho7; have HE7 := Lib.hid (ext_trans hE7 (Ext.drew w7)); clear ho7 hE7)
 clear T
 have hm5 := made17 HO7.out (Ext.drew w7)
 have SPT := spotsOf_any v5 (A.filter (stayF gone)) w7.drew hm5.1 hm5.2 HL.out.2.2.2 (fun f hf => okI_of (by have := (HX.out.2.2.2 f (List.mem_filter.1 hf).1).1; omega) (by have := (HX.out.2.2.2 f (List.mem_filter.1 hf).1).1; omega))
 have hS : GoneR gb (.slice go_ gone.length gc) w7.drew := HE7.out.cell HGB.out (by simp)
 clear hm5
 refine region_line [(0, true), (2, true), (3, true), (1, false), (4, false), (5, false), (6, false)] (GoneR gb (.slice go_ gone.length gc)) (by kernel_rfl) (by kernel_rfl) (fun _ _ _ d _ h => by cases d <;> exact h) hS ?_
 iterate 3 (refine line_read (a' := ?_) rfl (by kernel_rfl) (by kernel_rfl) hS (fun z0 hx K hK => ?_) ?_; rotate_left; · (have d1 : World.cell? _ _ = _ := hx; go_wp2; exact hK))
 refine line_act (by rfl) (fun K hK => ?_)
 go_wp2_with (go_at_call 87; refine SPT.mono ?_; rintro e w8 ⟨⟨sv, l, rfl, hol, hl1, hl2⟩, hE8⟩; have HSP := Lib.hid (And.intro hol (HNX.out.2 l hl1 hl2)); have HE8 := Lib.hid hE8; obtain ⟨so, sc, hsv⟩ := owns_slice17 hol; subst hsv; clear hol hl1 hl2 hE8)
 have hS8 : GoneR gb (.slice go_ gone.length gc) w8 := HE8.out.cell hS (by simp)
 refine hK _ _ (GoneR gb (.slice go_ gone.length gc)) hS8 (fun x hx => hx) ?_
 clear hK K SPT hS
 have hm2 := made17 HO2.out (ext_trans (ext_trans (ext_trans (ext_trans (ext_trans HE3.out HE4.out) HE5.out) HE6.out) HE7.out) HE8.out)
 have NS := nextSeq17_any v2 L2 w8 hm2.1 hm2.2 HL.out.2.1 HX.out.2.2.1
 clear hm2
 refine line_act (by rfl) (fun K hK => ?_)
 go_wp2_with (go_at_call 88; refine NS.mono ?_; rintro e w9 ⟨⟨q9, rfl, hq9⟩, hE9⟩; have HQ9 := Lib.hid (HNX.out.1 q9 hq9); have HE9 := Lib.hid hE9; clear hq9 hE9)
 have hS9 : GoneR gb (.slice go_ gone.length gc) w9 := HE9.out.cell hS8 (by simp)
 refine hK _ _ (GoneR gb (.slice go_ gone.length gc)) hS9 (fun x hx => hx) ?_
 clear hK K NS hS8
 refine line_act (by rfl) (fun K hK => ?_)
 go_wp2
 refine hK _ _ (GoneR gb (.slice go_ gone.length gc)) hS9 (fun x hx => hx) ?_
 clear hK K
 have HALL := Lib.hid (ext_trans (ext_trans (ext_trans (ext_trans (ext_trans (ext_trans (ext_trans HE1.out HE2.out) HE3.out) HE4.out) HE5.out) HE6.out) HE7.out) (ext_trans HE8.out HE9.out))
 have hrb9 := HRB.out.ext HALL.out
 refine line_act (by rfl) (fun K hK => ?_)
 refine hld_store (so := so) (sn := l.length) (sc := sc) (go := go_) (gn := gone.length) (gc := gc) (q := q9) _ _ rfl rfl rfl hrb9 rfl rfl ?_
 intro w10 hb10 hg10 hs10
 go_wp2
 have hS10 : GoneR gb (.slice go_ gone.length gc) w10 := hg10.cell hS9 (fun e => by injection e with e; have h1 := HGB2.out; have h2 : gb = g + 1 := e; omega)
 refine hK _ _ (GoneR gb (.slice go_ gone.length gc)) hS10 (fun x hx => hx) ?_
 clear hK K hS9 hS10 hrb9
 refine line_end ?_
 go_wp2
 refine bodyPost_ret (v := .agg (hldC so l.length sc go_ gone.length gc q9)) (results_cell_row rfl _ _ (g + 1) _ _ (0, 0) _ rfl hb10 Tryz.underlying99 rfl Tryz.sizeHld) rfl ?_
 have hgw := HG.out
 have hsz7 : g + 1 < w7.drew.heap.size := by have h1 := HGB2.out; have h2 := World.block_lt_of_cell? _ _ (HE7.out.cell HGB.out (by simp)); have h3 : gb < w7.drew.heap.size := h2; omega
 have hsz4 : w.heap.size ≤ w4.heap.size := by have h1 := HE0.out.size; have h2 := HE1.out.size; have h3 := HE2.out.size; have h4 := HE3.out.size; have h5 := HE4.out.size; omega
 have hsz4b : g + 1 < w4.heap.size := by have h2 := HE1.out.size; have h3 := HE2.out.size; have h4 := HE3.out.size; have h5 := HE4.out.size; omega
 refine ⟨⟨.slice so l.length sc, .slice go_ gone.length gc, by rw [← HQ9.out]; rfl, ?_, ?_⟩, ?_⟩
 · have h1 := (HSP.out.1.kept HE9.out (Classical.em _)).kept hg10 (own_dis fun k hk e => by have h2 := (HSP.out.1.lt k hk).1; injection e with e; omega)
   rw [HSP.out.2] at h1 ⊢
   refine owns_le17 h1 ?_
   have h2 := HE5.out.size
   have h3 := HE6.out.size
   have h4 := HE7.out.size
   omega
 · have h1 : OwnI17 w4.heap.size w9 (.slice go_ gone.length gc) gone := HO5.out.kept (ext_trans (ext_trans HE6.out HE7.out) (ext_trans HE8.out HE9.out)) (Classical.em _)
   exact owns_le17 (h1.kept hg10 (own_dis fun k hk e => by have h2 := (h1.lt k hk).1; injection e with e; omega)) hsz4
 · exact g17_new (ext_trans HE0.out HALL.out) hg10 (by omega)
end Go.Proofs.YtdnpdoipipfkoaaGreatDoor
