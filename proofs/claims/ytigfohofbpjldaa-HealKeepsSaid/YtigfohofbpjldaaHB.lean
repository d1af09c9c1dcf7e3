/-
  Layer 17: the document's counting, Seq.
-/
import Derived.Test.YtigfohofbpjldaaHA
namespace Go.Proofs.Ytigfohofbpjldaa
set_option linter.unusedVariables false
set_option linter.unusedSimpArgs false
set_option maxRecDepth 100000
open Go.RowKit

/-- A page counts. -/
def cntB (B tn ep sz : Int) (f : Fnd) : Bool := decide (0 ≤ f.bk) && (decide (f.bk < B) && (mineF tn ep f && decide (f.pl < sz)))
def cntL (B tn ep sz : Int) (L : List Fnd) : List Fnd := L.filter (cntB B tn ep sz)
theorem cntL_snoc (B tn ep sz : Int) (L : List Fnd) (f : Fnd) : cntL B tn ep sz (L ++ [f]) = if cntB B tn ep sz f then cntL B tn ep sz L ++ [f] else cntL B tn ep sz L := by
  unfold cntL
  rw [List.filter_append, List.filter_cons]
  split <;> simp
theorem take17 {L : List Fnd} {k : Nat} {f : Fnd} (hk : k < L.length) (hf : L.getD k noF = f) : L.take (k + 1) = L.take k ++ [f] := by
  rw [List.take_add_one, List.getElem?_eq_getElem hk]
  rw [List.getD_eq_getElem?_getD, List.getElem?_eq_getElem hk] at hf
  have h2 : L[k] = f := hf
  rw [h2]
  rfl

section
variable {ops : Array Oper} {rest : List Oper} {o : Oper} {a : Act} {w : World} {Q : Exit → Act → World → Prop}
/-- A page more. -/
theorem append_fnd (hgd : o.guard = none) (s x : Operand) (ho : o.op = .call { callee := .builtin .append, args := #[s, x], argTypes := #[22, 22] }) (base : Nat) (v : Value) (row : List Fnd) (n : Nat) (hn : row.length = n) (hs : a.eval s = v) (hown : w.ownsRow base 36 10 v n (fndsL row))
    (ad : Addr) (cap : Nat) (f : Fnd) (hx : a.eval x = .slice (some ad) 1 cap) (hc : ∀ j u, (fndC f).toList[j]? = some u → w.cell? (ad.add j) = some u) (h63 : n ≤ 1000000) (hbase : base ≤ w.heap.size)
    (h : ∀ v' w', w'.ownsRow base 36 10 v' (n + 1) (fndsL (row ++ [f])) → w.grownBy w' v.ownBlock → wpList Try.prog ops Q rest (a.put o.dst v') w') : wpList Try.prog ops Q (o :: rest) a w := by
  obtain ⟨i0, hi, hz0, hz1, hz2⟩ := info_parts Try.infoFnd
  refine wpList_append_own w hgd s x 22 ho base 36 i0 _ 10 88 Try.underlying22 hi hz0 hz1 hz2 rfl (by decide) v n _ hs hown ad 1 cap (fndC f).toList hx rfl hc (by simp [fndC, Value.oneCell']) (by unfold maxLen; omega) (by omega) hbase ?_
  intro v' w' h1 h2 _
  exact h v' w' (by rw [fndsL_snoc]; exact h1) h2
end
theorem fnd_new (w : World) (f : Fnd) (T : TypeId) : ∀ j u, (fndC f).toList[j]? = some u → (w.alloc (.cells #[.int .i64 f.bk, .int .i64 f.pg, .bool f.torn, .int .i64 f.te, .int .i64 f.ep, .int .i64 f.pl, .int .i64 f.sq, .int .i64 f.kd, .bool f.cp, .string f.dt] T)).cell? ((⟨w.heap.size, 0, none⟩ : Addr).add j) = some u := by
  intro j u hj
  have hb := Blk.new w T (fndC f)
  have h1 := hb.cell j
  rw [addr_add, Nat.zero_add]
  exact h1.trans (by simpa using hj)
theorem owns_slice17 {w : World} {B : Nat} {e : TypeId} {sz : Nat} {v : Value} {n : Nat} {xs : List Value} (h : w.ownsRow B e sz v n xs) : ∃ ao cap, v = .slice ao n cap := by
  rcases h.2 with ⟨rfl, rfl⟩ | ⟨g, cap, _, rfl, _⟩
  · exact ⟨none, 0, rfl⟩
  · exact ⟨_, cap, rfl⟩
theorem own_ext17 {w0 w w' : World} {B : Nat} {e : TypeId} {sz : Nat} {v : Value} {n : Nat} {xs : List Value} (h : w.ownsRow B e sz v n xs) (hE : w0.grownBy w none) (hg : w.grownBy w' v.ownBlock) (hB : w0.heap.size ≤ B) : w0.grownBy w' none :=
  ⟨hg.os.trans hE.os, hg.tape.trans hE.tape, hg.output.trans hE.output, Nat.le_trans hE.size hg.size, fun k hk _ => (hg.block k (Nat.lt_of_lt_of_le hk hE.size) (fun e => by have := (h.lt k e.symm).1; omega)).trans (hE.block k hk (by simp))⟩

theorem own_alloc17 {w w3 w4 : World} {o : Obj} {r : Option Nat} (hE : w.grownBy w3 none) (hg : (w3.alloc o).grownBy w4 r) : w.grownBy w4 r := by
  have h1 := World.grownBy_alloc w3 o none
  exact ⟨hg.os.trans hE.os, hg.tape.trans hE.tape, hg.output.trans hE.output, Nat.le_trans hE.size (Nat.le_trans h1.size hg.size), fun k hk hne => (hg.block k (Nat.lt_of_lt_of_le hk (Nat.le_trans hE.size h1.size)) hne).trans ((h1.block k (Nat.lt_of_lt_of_le hk hE.size) (by simp)).trans (hE.block k hk (by simp)))⟩
/-- What stands while pages are counted. -/
structure CntS (w0 wr : World) (lv : Value) (L : List Fnd) (B tn ep sz : Int) (k : Nat) (v : Value) : Prop where
  l : RowF wr lv L
  own : wr.ownsRow w0.heap.size 36 10 v (cntL B tn ep sz (L.take k)).length (fndsL (cntL B tn ep sz (L.take k)))
  ext : w0.grownBy wr none

set_option maxHeartbeats 1600000 in
theorem counting_any (lv : Value) (L : List Fnd) (B tn ep sz : Int) (w : World) (h : RowF w lv L) (hlb : ∀ k, lv.ownBlock = some k → k < w.heap.size) (hl : L.length ≤ 1000) :
    Calls Try.prog 27 #[lv, .int .i64 B, .int .i64 tn, .int .i64 ep, .int .i64 sz] w fun e w' => (∃ v, e = .returned v ∧ w'.ownsRow w.heap.size 36 10 v (cntL B tn ep sz L).length (fndsL (cntL B tn ep sz L))) ∧ w.grownBy w' none := by
  have HS := Lib.hid (show CntS w w lv L B tn ep sz 0 (.slice none 0 0) from ⟨h, ⟨by simp [cntL, fndsL], .inl ⟨rfl, rfl⟩⟩, Ext.refl w⟩)
  obtain ⟨ao, cap, hv, _⟩ := h
  obtain ⟨n, hn⟩ : ∃ n, L.length = n := ⟨_, rfl⟩
  rw [hn] at hv hl
  subst hv
  have HN := Lib.hid (And.intro hn hlb)
  clear hn hlb
  go_enter Try.func27, Try.ntmps27
  go_wp2
  go_loopw [11, 16] (fun s i wr => ∃ (k : Nat) (v : Value), k ≤ n ∧ i = .int .i64 k ∧ s = v ∧ CntS w wr (.slice ao n cap) L B tn ep sz k v) (fun _ i _ => n - (intOf i).toNat)
  case atStart => exact ⟨0, _, by omega, rfl, rfl, HS.out⟩
  case round =>
    clear HS
    obtain ⟨k, v, hk, rfl, rfl, hS⟩ := hrel
    obtain ⟨wo, rfl⟩ : ∃ wo : World, wo = wr := ⟨_, rfl⟩
    have HS := Lib.hid hS
    obtain ⟨ro, rc, hro⟩ := owns_slice17 hS.own
    obtain ⟨rn, hrn⟩ : ∃ z, (cntL B tn ep sz (L.take k)).length = z := ⟨_, rfl⟩
    rw [hrn] at hro
    subst hro
    have hrn2 : rn ≤ 1000000 := by
      have h1 : (cntL B tn ep sz (L.take k)).length ≤ (L.take k).length := List.length_filter_le _ _
      rw [List.length_take] at h1
      omega
    clear hS
    by_cases hlt : k < n
    · obtain ⟨f, hf⟩ : ∃ f, L.getD k noF = f := ⟨_, rfl⟩
      obtain ⟨ao2, cap2, hv2, hc2⟩ := HS.out.l
      obtain ⟨b, off, hao, hr⟩ := hc2 k (by rw [HN.out.1]; exact hlt)
      simp only [Value.slice.injEq] at hv2
      obtain ⟨rfl, -, -⟩ := hv2
      subst hao
      rw [hf] at hr
      have HF := Lib.hid (take17 (by rw [HN.out.1]; exact hlt) hf)
      have hBn := Blk.new wo 36 (fndC noF)
      clear hf hc2
      go_upto_region 5 with (first
        | (refine fnd_load rfl _ rfl rfl hr ?_)
        | (refine fnd_store _ _ rfl rfl rfl hBn rfl rfl ?_; intro w2 hb2 hg2 hs2; have hE2 := g17_new (World.grownBy_alloc wo _ none) hg2 (Nat.le_refl _); have HE2 := Lib.hid hE2; have HC2 := Lib.hid (FCells.of hb2); clear hBn hg2 hs2 hE2))
      clear hr
      obtain ⟨x0, hx0⟩ : ∃ z, f.bk = z := ⟨_, rfl⟩
      obtain ⟨x5, hx5⟩ : ∃ z, f.pl = z := ⟨_, rfl⟩
      obtain ⟨m, hm⟩ : ∃ z, mineF tn ep f = z := ⟨_, rfl⟩
      have d0 := HC2.out.bk
      have d5 := HC2.out.pl
      rw [hx0] at d0
      rw [hx5] at d5
      have MINE := fun wx => mine17_any f tn ep wx
      rw [hm] at MINE
      have hcnt : cntB B tn ep sz f = (decide (0 ≤ x0) && (decide (x0 < B) && (m && decide (x5 < sz)))) := by unfold cntB; rw [hx0, hx5, hm]
      have HCN := Lib.hid hcnt
      have HM := Lib.hid (And.intro hx0 (And.intro hx5 hm))
      clear hcnt hx0 hx5 hm
      have skip : ∀ w3, wo.grownBy w3 none → cntB B tn ep sz f = false → CntS w w3 (.slice (some ⟨b, off, none⟩) n cap) L B tn ep sz (k + 1) (.slice ro rn rc) := fun w3 hE hc => by
        refine ⟨HS.out.l.ext hE, ?_, ext_trans HS.out.ext hE⟩
        rw [HF.out, cntL_snoc, hc]
        exact HS.out.own.kept hE (Classical.em _)
      have HSK := Lib.hid skip
      clear skip
      by_cases h0 : 0 ≤ x0
      · have b0 : decide (0 ≤ x0) = true := by simpa using h0
        by_cases h1 : x0 < B
        · have b1 : decide (x0 < B) = true := by simpa using h1
          cases m
          · clear h0 h1
            go_wp2_with (first
              | (refine fnd_load_lit rfl _ rfl rfl HC2.out.blk.range17 ?_)
              | (go_at_call 13; refine (MINE _).mono ?_; rintro e w3 ⟨rfl, hE3⟩; have d5 := hE3.cell d5 (by simp); have HC3 := Lib.hid (HC2.out.blk.ext hE3); have HE3 := Lib.hid (ext_trans HE2.out hE3); clear hE3))
            go_roundw
            case rel => exact ⟨k + 1, _, by omega, by go_num, rfl, HSK.out w3 HE3.out (by rw [HCN.out, b0, b1]; simp)⟩
            case measure => simp [intOf]; omega
          · by_cases h2 : x5 < sz
            · have b2 : decide (x5 < sz) = true := by simpa using h2
              have HT := Lib.hid (show cntB B tn ep sz f = true by rw [HCN.out, b0, b1, b2]; rfl)
              clear h0 h1 h2
              go_upto_region 6 with (first
                | (refine fnd_load_lit rfl _ rfl rfl HC2.out.blk.range17 ?_)
                | (go_at_call 13; refine (MINE _).mono ?_; rintro e w3 ⟨rfl, hE3⟩; have d5 := hE3.cell d5 (by simp); have HC3 := Lib.hid (HC2.out.blk.ext hE3); have HE3 := Lib.hid (ext_trans HE2.out hE3); clear hE3))
              have hown := (HS.out.own.kept HE3.out (Classical.em _)).alloc (.cells #[.int .i64 f.bk, .int .i64 f.pg, .bool f.torn, .int .i64 f.te, .int .i64 f.ep, .int .i64 f.pl, .int .i64 f.sq, .int .i64 f.kd, .bool f.cp, .string f.dt] 36)
              rw [hrn] at hown
              have hb3 := HC3.out
              go_wp2_with (first
                | (refine fnd_load_lit rfl _ rfl rfl hb3.range17 ?_)
                | (at_builtin; go_loud (refine append_fnd rfl _ _ rfl w.heap.size (.slice ro rn rc) (cntL B tn ep sz (L.take k)) rn hrn rfl hown ⟨w3.heap.size, 0, none⟩ 1 f rfl (fnd_new w3 f _) hrn2 (by have := HS.out.ext.size; have := HE3.out.size; simp; omega) ?_; intro v' w4 hrow' hg'; have hE4 := Lib.hid (own_alloc17 HE3.out hg'); obtain ⟨ao4, cap4, hv4⟩ := owns_slice17 hrow'; subst hv4)))
              go_roundw
              case rel =>
                refine ⟨k + 1, _, by omega, by go_num, rfl, ⟨?_, ?_, ?_⟩⟩
                · exact HS.out.l.kept hE4.out (fun q hq e => by have := (HS.out.own.lt q e.symm).1; have := HN.out.2 q hq; omega)
                · rw [HF.out, cntL_snoc, HT.out, if_pos rfl, List.length_append, hrn]
                  exact hrow'
                · exact own_ext17 HS.out.own HS.out.ext hE4.out (Nat.le_refl _)
              case measure => simp [intOf]; omega
            · have b2 : decide (x5 < sz) = false := by simpa using h2
              clear h0 h1 h2
              go_wp2_with (first
                | (refine fnd_load_lit rfl _ rfl rfl HC2.out.blk.range17 ?_)
                | (go_at_call 13; refine (MINE _).mono ?_; rintro e w3 ⟨rfl, hE3⟩; have d5 := hE3.cell d5 (by simp); have HC3 := Lib.hid (HC2.out.blk.ext hE3); have HE3 := Lib.hid (ext_trans HE2.out hE3); clear hE3))
              go_roundw
              case rel => exact ⟨k + 1, _, by omega, by go_num, rfl, HSK.out w3 HE3.out (by rw [HCN.out, b0, b1, b2]; simp)⟩
              case measure => simp [intOf]; omega
        · have b1 : decide (x0 < B) = false := by simpa using h1
          clear h0 h1
          go_wp2_with (first
            | (refine fnd_load_lit rfl _ rfl rfl HC2.out.blk.range17 ?_)
            | (go_at_call 13; refine (MINE _).mono ?_; rintro e w3 ⟨rfl, hE3⟩; have d5 := hE3.cell d5 (by simp); have HC3 := Lib.hid (HC2.out.blk.ext hE3); have HE3 := Lib.hid (ext_trans HE2.out hE3); clear hE3))
          go_roundw
          case rel => exact ⟨k + 1, _, by omega, by go_num, rfl, HSK.out w2 HE2.out (by rw [HCN.out, b0, b1]; simp)⟩
          case measure => simp [intOf]; omega
      · have b0 : decide (0 ≤ x0) = false := by simpa using h0
        clear h0
        go_wp2_with (first
          | (refine fnd_load_lit rfl _ rfl rfl HC2.out.blk.range17 ?_)
          | (go_at_call 13; refine (MINE _).mono ?_; rintro e w3 ⟨rfl, hE3⟩; have d5 := hE3.cell d5 (by simp); have HC3 := Lib.hid (HC2.out.blk.ext hE3); have HE3 := Lib.hid (ext_trans HE2.out hE3); clear hE3))
        go_roundw
        case rel => exact ⟨k + 1, _, by omega, by go_num, rfl, HSK.out w2 HE2.out (by rw [HCN.out, b0]; simp)⟩
        case measure => simp [intOf]; omega
    · obtain rfl : k = n := by omega
      have hS := HS.out
      go_wp2
      go_ret
      refine ⟨⟨_, rfl, ?_⟩, HS.out.ext⟩
      have := HS.out.own
      rw [List.take_of_length_le (by rw [HN.out.1]; exact Nat.le_refl _)] at this
      exact this

end Go.Proofs.Ytigfohofbpjldaa
