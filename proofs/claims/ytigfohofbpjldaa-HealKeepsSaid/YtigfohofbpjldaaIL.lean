/-
  Package heal: leaving's closure, the library's ContainsFunc over it; which places blocks hold, as a map of slices.
-/
import Derived.Test.YtigfohofbpjldaaIC
import Derived.Test.YtigfohofbpjldaaAT
import Derived.Maps.AppendAt
import Derived.Deep.AppendLies
namespace Go.Proofs.Ytigfohofbpjldaa
set_option linter.unusedVariables false
set_option linter.unusedSimpArgs false
set_option maxRecDepth 100000
open Go.RowKit Go.Maps

theorem Try.topF0 (a b : Int) (c : Bool) (w : World) : (Instr.field 62 (.agg #[.int .i64 a, .int .i64 b, .bool c]) 0).run Try.prog w = .ok (.int .i64 a) w := by kernel_rfl
theorem Try.topF1 (a b : Int) (c : Bool) (w : World) : (Instr.field 62 (.agg #[.int .i64 a, .int .i64 b, .bool c]) 1).run Try.prog w = .ok (.int .i64 b) w := by kernel_rfl
theorem Try.topF2 (a b : Int) (c : Bool) (w : World) : (Instr.field 62 (.agg #[.int .i64 a, .int .i64 b, .bool c]) 2).run Try.prog w = .ok (.bool c) w := by kernel_rfl
theorem keeps17_any (tb bb mb n : Nat) (m : Int → Option TopT) (b p : Int) (w : World) (hp : okI p) (ht : w.cell? ⟨tb, 0, none⟩ = some (.map (some mb))) (hb : w.cell? ⟨bb, 0, none⟩ = some (.int .i64 b)) (hm : TopsM w mb n m) :
    Calls Try.prog 35 #[.int .i64 p, .pointer (some ⟨tb, 0, none⟩), .pointer (some ⟨bb, 0, none⟩)] w fun e w' => e = .returned (.bool (keepsP m b p)) ∧ w = w' := by
  have hlk := hm.look topV_inj Try.underlying58 Try.underlying3 noT (Try.zeroTop _) hp
  obtain ⟨⟨t1, t2, t3⟩, htt⟩ : ∃ z, (m p).getD noT = z := ⟨_, rfl⟩
  rw [htt] at hlk
  replace hlk : (Instr.lookup 58 (.map (some mb)) (.int .i64 p) false).run Try.prog w = .ok (.agg #[.int .i64 t1, .int .i64 t2, .bool t3]) w := hlk
  obtain ⟨z, hz⟩ : ∃ z, (t2 == b) = z := ⟨_, rfl⟩
  have HK := Lib.hid (show keepsP m b p = (z && !t3) by unfold keepsP; rw [htt, hz])
  obtain ⟨k, hk⟩ : ∃ k, keepsP m b p = k := ⟨_, rfl⟩
  rw [hk] at HK ⊢
  have hf1 := Try.topF1 t1 t2 t3 w
  have hf2 := Try.topF2 t1 t2 t3 w
  clear hk htt hm hp
  cases z
  · go_enter Try.func35, Try.ntmps35
    go_wp2
    go_ret
    exact ⟨by rw [HK.out]; rfl, rfl⟩
  · cases t3
    · go_enter Try.func35, Try.ntmps35
      go_wp2
      go_ret
      exact ⟨by rw [HK.out]; rfl, rfl⟩
    · go_enter Try.func35, Try.ntmps35
      go_wp2
      go_ret
      exact ⟨by rw [HK.out]; rfl, rfl⟩

set_option maxHeartbeats 400000 in
theorem indexFn17_any (g : Nat) (eg : ∀ args w, (callFunc g args).run Try.prog w = .ok (.enter g args) w) (caps : Array Value) (q : Int → Bool) (v : Value) (xs : List Int) (w : World) (hb : Ints w v xs) (hm : xs.length ≤ 1000)
    (HP : ∀ x ∈ xs, Calls Try.prog g (#[.int .i64 x] ++ caps) w fun e w' => e = .returned (.bool (q x)) ∧ w = w') :
    Calls Try.prog 47 #[v, .func (.func g) #[] caps] w fun e w' => ∃ r : Int, e = .returned (.int .i64 r) ∧ w = w' ∧ ((0 ≤ r ∧ ∃ n ∈ xs, q n = true) ∨ (r < 0 ∧ ∀ n ∈ xs, q n = false)) := by
  obtain ⟨ao, cap, b, off, rfl, hc⟩ := hb.form
  have HC := Lib.hid hc
  have HPH := Lib.hid HP
  clear hc hb HP
  go_enter Try.func47, Try.ntmps47
  go_wp2
  go_loopw [8] (fun i wr => ∃ k : Nat, k ≤ xs.length ∧ i = .int .i64 k ∧ (∀ j, j < k → q (xs.getD j 0) = false) ∧ w = wr) (fun i _ => xs.length - (intOf i).toNat)
  case atStart => exact ⟨0, by omega, rfl, fun j hj => by omega, rfl⟩
  case round =>
    obtain ⟨k, hk, rfl, hnot, rfl⟩ := hrel
    have NOT := Lib.hid hnot
    clear hnot
    by_cases hlt : k < xs.length
    · obtain ⟨rfl, hcell⟩ := HC.out k hlt
      obtain ⟨x, hx⟩ : ∃ x, xs.getD k 0 = x := ⟨_, rfl⟩
      rw [hx] at hcell
      have hmem : x ∈ xs := by
        rw [List.getD_eq_getElem?_getD, List.getElem?_eq_getElem hlt] at hx
        rw [← hx]
        exact List.getElem_mem hlt
      have HPx := HPH.out x hmem
      have HM := Lib.hid hmem
      have HX := Lib.hid hx
      clear hx hmem
      obtain ⟨z, hz⟩ : ∃ z, q x = z := ⟨_, rfl⟩
      rw [hz] at HPx
      have HZ := Lib.hid hz
      clear hz
      cases z
      · go_wp2_with (go_at_fn g; refine HPx.mono ?_; rintro e w' ⟨rfl, rfl⟩)
        go_roundw
        case rel =>
          refine ⟨k + 1, by omega, by go_num, fun j hj => ?_, trivial⟩
          by_cases e : j = k
          · subst e; rw [HX.out]; exact HZ.out
          · exact NOT.out j (by omega)
        case measure => simp [intOf]; omega
      · go_wp2_with (go_at_fn g; refine HPx.mono ?_; rintro e w' ⟨rfl, rfl⟩)
        go_ret
        exact ⟨_, rfl, rfl, .inl ⟨by omega, x, HM.out, HZ.out⟩⟩
    · obtain rfl : k = xs.length := by omega
      go_wp2
      go_ret
      refine ⟨_, rfl, rfl, .inr ⟨by omega, fun n hmem => ?_⟩⟩
      obtain ⟨j, hj, hjn⟩ := List.mem_iff_getElem.1 hmem
      have := NOT.out j hj
      rw [List.getD_eq_getElem?_getD, List.getElem?_eq_getElem hj] at this
      simp only [Option.getD_some] at this
      rw [← hjn]
      exact this
theorem containsFn17_any (g : Nat) (eg : ∀ args w, (callFunc g args).run Try.prog w = .ok (.enter g args) w) (caps : Array Value) (q : Int → Bool) (v : Value) (xs : List Int) (w : World) (hb : Ints w v xs) (hm : xs.length ≤ 1000)
    (HP : ∀ x ∈ xs, Calls Try.prog g (#[.int .i64 x] ++ caps) w fun e w' => e = .returned (.bool (q x)) ∧ w = w') :
    Calls Try.prog 36 #[v, .func (.func g) #[] caps] w fun e w' => e = .returned (.bool (xs.any q)) ∧ w = w' := by
  have I := indexFn17_any g eg caps q v xs w hb hm HP
  obtain ⟨ao, cap, b, off, rfl, hc⟩ := hb.form
  clear hc hb HP hm eg
  go_enter Try.func36, Try.ntmps36
  go_wp2_with (go_at_call 47; refine I.mono ?_; rintro e w' ⟨r, rfl, rfl, hr⟩; have HR := Lib.hid hr; clear hr)
  go_ret
  rcases HR.out with ⟨h1, h2⟩ | ⟨h1, h2⟩
  · have : xs.any q = true := List.any_eq_true.2 h2
    exact ⟨by simp [this, h1], rfl⟩
  · have : xs.any q = false := by rw [List.any_eq_false]; intro x hx; rw [h2 x hx]; decide
    exact ⟨by simp [this]; omega, rfl⟩
theorem Try.eg7 : ∀ args w, (callFunc 35 args).run Try.prog w = .ok (.enter 35 args) w := enters_of Try.func35 (by kernel_rfl) rfl

/-- A slice's head. -/
abbrev Hdr := Option Addr × Nat × Nat
def hdV (h : Hdr) : Value := .slice h.1 h.2.1 h.2.2
theorem hdV_inj (x y : Hdr) (h : hdV x = hdV y) : x = y := by
  obtain ⟨a, b, c⟩ := x
  obtain ⟨d, e, f⟩ := y
  simp [hdV] at h
  obtain ⟨rfl, rfl, rfl⟩ := h
  rfl
def nilH : Hdr := (none, 0, 0)
theorem Try.zeroInts (w : World) : (zeroValue 26).run Try.prog w = .ok (hdV nilH) w := by kernel_rfl
abbrev HdrM (w : World) (b n : Nat) (m : Int → Option Hdr) : Prop := MapX Try.prog 3 hdV w b n m
/-- Block hb is a map of rows of the call's own, no two of them in one block. -/
structure HeldS (w : World) (hb n : Nat) (hm : Int → Option Hdr) (H : Int → List Int) : Prop where
  m : HdrM w hb n hm
  own : ∀ b, OwnI17 (hb + 1) w (hdV ((hm b).getD nilH)) (H b)
  two : ∀ b b', b ≠ b' → ∀ k, (hdV ((hm b).getD nilH)).ownBlock = some k → (hdV ((hm b').getD nilH)).ownBlock ≠ some k
theorem HeldS.made (w : World) : HeldS (w.alloc (.map #[] 0)) w.heap.size 0 (fun _ => none) (fun _ => []) :=
  ⟨MapX.made _ _ _ w, fun b => ⟨by simp, .inl ⟨rfl, rfl⟩⟩, fun b b' _ k h => by simp [hdV, nilH, Value.ownBlock] at h⟩
theorem HeldS.ext {w w' : World} {hb n : Nat} {hm : Int → Option Hdr} {H : Int → List Int} (h : HeldS w hb n hm H) (hE : w.grownBy w' none) : HeldS w' hb n hm H :=
  ⟨h.m.ext hE, fun b => (h.own b).kept hE (Classical.em _), h.two⟩
theorem HeldS.mono {w : World} {hb n n' : Nat} {hm : Int → Option Hdr} {H : Int → List Int} (h : HeldS w hb n hm H) (hn : n ≤ n') : HeldS w hb n' hm H := ⟨h.m.mono hn, h.own, h.two⟩
def putH (H : Int → List Int) (x : Int) (zs : List Int) : Int → List Int := fun b => if b = x then zs else H b
theorem own_dis {v : Value} {r : Option Nat} (h : ∀ k, v.ownBlock = some k → some k ≠ r) : v.ownBlock = none ∨ v.ownBlock ≠ r := by
  cases h0 : v.ownBlock with
  | none => exact .inl rfl
  | some k => exact .inr (h k h0)
/-- A row is appended to, and put back. -/
theorem HeldS.put {w w1 w2 : World} {hb n : Nat} {hm : Int → Option Hdr} {H : Int → List Int} (h : HeldS w hb n hm H) {x : Int} {hd : Hdr} {zs : List Int} (hg : w.grownBy w1 (hdV ((hm x).getD nilH)).ownBlock) (hown : OwnI17 (hb + 1) w1 (hdV hd) zs)
    (hloc : (hdV hd).ownBlock = (hdV ((hm x).getD nilH)).ownBlock ∨ ∃ k, (hdV hd).ownBlock = some k ∧ w.heap.size ≤ k) (hm2 : HdrM w2 hb (n + 1) (updX hm x hd)) (hg2 : w1.grownBy w2 (some hb)) : HeldS w2 hb (n + 1) (updX hm x hd) (putH H x zs) := by
  refine ⟨hm2, fun b => ?_, fun b b' hne k hk => ?_⟩
  · unfold updX putH
    by_cases e : b = x
    · rw [if_pos e, if_pos e]
      exact hown.kept hg2 (own_dis fun k h0 e => by have := (hown.lt k h0).1; injection e with e; omega)
    · rw [if_neg e, if_neg e]
      have ho := h.own b
      have h1 : OwnI17 (hb + 1) w1 (hdV ((hm b).getD nilH)) (H b) := ho.kept hg (own_dis fun k h0 e2 => h.two b x e k h0 e2.symm)
      exact h1.kept hg2 (own_dis fun k h0 e => by have := (h1.lt k h0).1; injection e with e; omega)
  · unfold updX at hk ⊢
    by_cases e : b = x
    · rw [if_pos e] at hk
      rw [if_neg (fun e2 => hne (e.trans e2.symm))]
      rw [Option.getD_some] at hk
      rcases hloc with h1 | ⟨k1, h1, h2⟩
      · rw [h1] at hk
        exact h.two x b' (fun e2 => hne (e.trans e2)) k hk
      · rw [h1] at hk
        injection hk with hk
        intro h3
        have := ((h.own b').lt k h3).2
        omega
    · rw [if_neg e] at hk
      by_cases e2 : b' = x
      · rw [if_pos e2, Option.getD_some]
        rcases hloc with h1 | ⟨k1, h1, h2⟩
        · rw [h1]
          exact h.two b x e k hk
        · rw [h1]
          intro h3
          injection h3 with h3
          have := ((h.own b).lt k hk).2
          omega
      · rw [if_neg e2]
        exact h.two b b' hne k hk

section
variable {ops : Array Oper} {rest : List Oper} {o : Oper} {a : Act} {w : World} {Q : Exit → Act → World → Prop}
/-- A number more, and where the row lies. -/
theorem append_at17 (hgd : o.guard = none) (s x : Operand) (ho : o.op = .call { callee := .builtin .append, args := #[s, x], argTypes := #[26, 26] }) (base : Nat) (v : Value) (xs : List Int) (n : Nat) (hn : xs.length = n) (hs : a.eval s = v) (hown : w.ownsRow base 3 1 v n (xs.map (Value.int .i64)))
    (ad : Addr) (cap : Nat) (y : Int) (hx : a.eval x = .slice (some ad) 1 cap) (hc : w.cell? ad = some (.int .i64 y)) (h63 : n ≤ 1000000) (hbase : base ≤ w.heap.size)
    (h : ∀ (hd : Hdr) w', OwnI17 base w' (hdV hd) (xs ++ [y]) → w.grownBy w' v.ownBlock → ((hdV hd).ownBlock = v.ownBlock ∨ (hdV hd).ownBlock = some w.heap.size) → wpList Try.prog ops Q rest (a.put o.dst (hdV hd)) w') : wpList Try.prog ops Q (o :: rest) a w := by
  obtain ⟨i0, hi, hz0, hz1, hz2⟩ := info_parts Try.infoInt
  refine wpList_append_own_at w hgd s x 26 ho base 3 i0 (.int .i64 0) 1 8 Try.underlying26 hi hz0 hz1 hz2 rfl (by decide) v n _ hs hown ad 1 cap [.int .i64 y] hx rfl (fun j u hj => ?_) (ints_oneCell _ [y]) (by unfold maxLen; omega) (by omega) hbase ?_
  · match j, hj with
    | 0, hj => simp at hj; subst hj; simpa [Addr.add] using hc
    | j + 1, hj => simp at hj
  · intro v' w' h1 h2 _ h4
    obtain ⟨ao, c, rfl⟩ := owns_slice17 h1
    refine h (ao, n + 1, c) w' ?_ h2 h4
    unfold OwnI17
    rw [List.length_append, List.map_append, hn]
    exact h1
end

theorem heldF_snoc (A : List Fnd) (m : Int → Option TopT) (f : Fnd) : heldF (A ++ [f]) m = if f.sq == ((m f.pl).getD noT).1 then putH (heldF A m) f.bk (heldF A m f.bk ++ [f.pl]) else heldF A m := by
  funext b
  unfold heldF
  rw [List.filter_append, List.map_append]
  have h1 : [f].filter (heldP m b) = if heldP m b f then [f] else [] := by rw [List.filter_cons]; rfl
  rw [h1]
  unfold heldP
  cases hz : (f.sq == ((m f.pl).getD noT).1)
  · simp
  · by_cases hb : f.bk = b
    · subst hb
      simp [putH]
    · have : (f.bk == b) = false := by simpa using hb
      rw [this]
      simp only [putH, if_true, Bool.false_and, Bool.false_eq_true, if_false, List.map_nil, List.append_nil]
      rw [if_neg (fun e => hb e.symm)]
theorem heldF_len (A : List Fnd) (m : Int → Option TopT) (b : Int) : (heldF A m b).length ≤ A.length := by
  unfold heldF
  rw [List.length_map]
  exact List.length_filter_le _ _

end Go.Proofs.Ytigfohofbpjldaa
