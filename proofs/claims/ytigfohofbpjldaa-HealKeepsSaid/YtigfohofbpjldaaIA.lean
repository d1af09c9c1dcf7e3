/-
  Package heal: those (over whatever function value), what it is asked: within, owned, counting, staying, void.
-/
import Derived.Test.YtigfohofbpjldaaHD
import Derived.Laws.EntriesVeiled
import Derived.Shelf.Abstract
namespace Go.Proofs.Ytigfohofbpjldaa
set_option linter.unusedVariables false
set_option linter.unusedSimpArgs false
set_option maxRecDepth 100000
open Go.RowKit

abbrev OwnF (B : Nat) (w : World) (v : Value) (L : List Fnd) : Prop := w.ownsRow B 36 10 v L.length (fndsL L)
theorem filter_snoc17 (p : Fnd → Bool) (L : List Fnd) (f : Fnd) : (L ++ [f]).filter p = if p f then L.filter p ++ [f] else L.filter p := by
  rw [List.filter_append, List.filter_cons]
  split <;> simp
/-- What stands while pages are gone through. -/
structure ThoS (w0 wr : World) (lv : Value) (L : List Fnd) (p : Fnd → Bool) (k : Nat) (v : Value) : Prop where
  l : RowF wr lv L
  own : wr.ownsRow w0.heap.size 36 10 v ((L.take k).filter p).length (fndsL ((L.take k).filter p))
  ext : w0.grownBy wr none

set_option maxHeartbeats 1600000 in
theorem those17_any (g : Nat) (eg : ∀ args w, (callFunc g args).run Try.prog w = .ok (.enter g args) w) (caps : Array Value) (p : Fnd → Bool) (lv : Value) (L : List Fnd) (w : World) (h : RowF w lv L) (hlb : ∀ k, lv.ownBlock = some k → k < w.heap.size) (hl : L.length ≤ 1000)
    (HP : ∀ f ∈ L, ∀ wx, w.grownBy wx none → Calls Try.prog g (#[.agg (fndC f)] ++ caps) wx fun e w' => e = .returned (.bool (p f)) ∧ wx.grownBy w' none) :
    Calls Try.prog 19 #[lv, .func (.func g) #[] caps] w fun e w' => (∃ v, e = .returned v ∧ OwnF w.heap.size w' v (L.filter p)) ∧ w.grownBy w' none := by
  have HS := Lib.hid (show ThoS w w lv L p 0 (.slice none 0 0) from ⟨h, ⟨by simp [fndsL], .inl ⟨rfl, rfl⟩⟩, Ext.refl w⟩)
  obtain ⟨ao, cap, hv, _⟩ := h
  obtain ⟨n, hn⟩ : ∃ n, L.length = n := ⟨_, rfl⟩
  rw [hn] at hv hl
  subst hv
  have HN := Lib.hid (And.intro hn hlb)
  have HPH := Lib.hid HP
  clear hn hlb HP
  go_enter Try.func19, Try.ntmps19
  go_wp2
  go_loopw [5, 10] (fun s i wr => ∃ (k : Nat) (v : Value), k ≤ n ∧ i = .int .i64 k ∧ s = v ∧ ThoS w wr (.slice ao n cap) L p k v) (fun _ i _ => n - (intOf i).toNat)
  case atStart => exact ⟨0, _, by omega, rfl, rfl, HS.out⟩
  case round =>
    clear HS
    obtain ⟨k, v, hk, rfl, rfl, hS⟩ := hrel
    obtain ⟨wo, rfl⟩ : ∃ wo : World, wo = wr := ⟨_, rfl⟩
    have HS := Lib.hid hS
    obtain ⟨ro, rc, hro⟩ := owns_slice17 hS.own
    obtain ⟨rn, hrn⟩ : ∃ z, ((L.take k).filter p).length = z := ⟨_, rfl⟩
    rw [hrn] at hro
    subst hro
    have hrn2 : rn ≤ 1000000 := by
      have h1 : ((L.take k).filter p).length ≤ (L.take k).length := List.length_filter_le _ _
      rw [List.length_take] at h1
      omega
    clear hS
    by_cases hlt : k < n
    · obtain ⟨f, hf⟩ : ∃ f, L.getD k noF = f := ⟨_, rfl⟩
      obtain ⟨ao2, cap2, hv2, hc2⟩ := HS.out.l
      obtain ⟨b, off, hao, hr⟩ := hc2 k (by rw [HN.out.1]; exact hlt)
      simp only [Value.slice.injEq] at hv2
      obtain ⟨rfl, -, -⟩ := hv2
      subst hao
      rw [hf] at hr
      have HF := Lib.hid (take17 (by rw [HN.out.1]; exact hlt) hf)
      have HPf := HPH.out f (getD_mem17 (by rw [HN.out.1]; exact hlt) hf)
      have hBn := Blk.new wo 36 (fndC noF)
      clear hf hc2
      go_upto_region 5 with (first
        | (refine fnd_load rfl _ rfl rfl hr ?_)
        | (refine fnd_store _ _ rfl rfl rfl hBn rfl rfl ?_; intro w2 hb2 hg2 hs2; have hE2 := g17_new (World.grownBy_alloc wo _ none) hg2 (Nat.le_refl _); have HE2 := Lib.hid hE2; have HC2 := Lib.hid hb2; clear hBn hg2 hs2 hE2 hb2))
      clear hr
      have hE2w : w.grownBy w2 none := ext_trans HS.out.ext HE2.out
      have HPw := HPf w2 hE2w
      clear hE2w HPf
      have hb2 := HC2.out
      obtain ⟨z, hz⟩ : ∃ z, p f = z := ⟨_, rfl⟩
      rw [hz] at HPw
      have HZ := Lib.hid hz
      clear hz
      cases z
      · go_wp2_with (first
          | (refine fnd_load rfl _ rfl rfl hb2.range17 ?_)
          | (go_at_fn g; refine HPw.mono ?_; rintro e w3 ⟨rfl, hE3⟩; have HE3 := Lib.hid (ext_trans HE2.out hE3); clear hE3))
        go_roundw
        case rel =>
          refine ⟨k + 1, _, by omega, by go_num, rfl, ⟨HS.out.l.ext HE3.out, ?_, ext_trans HS.out.ext HE3.out⟩⟩
          rw [HF.out, filter_snoc17, HZ.out]
          exact HS.out.own.kept HE3.out (Classical.em _)
        case measure => simp [intOf]; omega
      · go_upto_region 6 with (first
          | (refine fnd_load rfl _ rfl rfl hb2.range17 ?_)
          | (go_at_fn g; refine HPw.mono ?_; rintro e w3 ⟨rfl, hE3⟩; have HC3 := Lib.hid (HC2.out.ext hE3); have HE3 := Lib.hid (ext_trans HE2.out hE3); clear hE3))
        clear hb2
        have hown := (HS.out.own.kept HE3.out (Classical.em _)).alloc (.cells #[.int .i64 f.bk, .int .i64 f.pg, .bool f.torn, .int .i64 f.te, .int .i64 f.ep, .int .i64 f.pl, .int .i64 f.sq, .int .i64 f.kd, .bool f.cp, .string f.dt] 36)
        rw [hrn] at hown
        have hb3 := HC3.out
        go_wp2_with (first
          | (refine fnd_load_lit rfl _ rfl rfl hb3.range17 ?_)
          | (at_builtin; go_loud (refine append_fnd rfl _ _ rfl w.heap.size (.slice ro rn rc) ((L.take k).filter p) rn hrn rfl hown ⟨w3.heap.size, 0, none⟩ 1 f rfl (fnd_new w3 f _) hrn2 (by have := HS.out.ext.size; have := HE3.out.size; simp; omega) ?_; intro v' w4 hrow' hg'; have hE4 := Lib.hid (own_alloc17 HE3.out hg'); obtain ⟨ao4, cap4, hv4⟩ := owns_slice17 hrow'; subst hv4)))
        go_roundw
        case rel =>
          refine ⟨k + 1, _, by omega, by go_num, rfl, ⟨?_, ?_, ?_⟩⟩
          · exact HS.out.l.kept hE4.out (fun q hq e => by have := (HS.out.own.lt q e.symm).1; have := HN.out.2 q hq; omega)
          · rw [HF.out, filter_snoc17, HZ.out, if_pos rfl, List.length_append, hrn]
            exact hrow'
          · exact own_ext17 HS.out.own HS.out.ext hE4.out (Nat.le_refl _)
        case measure => simp [intOf]; omega
    · obtain rfl : k = n := by omega
      go_wp2
      go_ret
      refine ⟨⟨_, rfl, ?_⟩, HS.out.ext⟩
      have := HS.out.own
      rw [List.take_of_length_le (by rw [HN.out.1]; exact Nat.le_refl _)] at this
      exact this

/-- In these blocks. -/
def witB (B : Int) (f : Fnd) : Bool := decide (0 ≤ f.bk) && decide (f.bk < B)
theorem within1_any (B : Int) (g : Nat) (f : Fnd) (w : World) (hg : w.cell? ⟨g, 0, none⟩ = some (.int .i64 B)) :
    Calls Try.prog 31 #[.agg (fndC f), .pointer (some ⟨g, 0, none⟩)] w fun e w' => e = .returned (.bool (witB B f)) ∧ w.grownBy w' none := by
  have HE := Lib.hid (World.grownBy_alloc w (.cells (fndC f) 36) none)
  have c0 := (FCells.of (Blk.new w 36 (fndC f))).bk
  have hg := HE.out.cell hg (by simp)
  obtain ⟨x, hx⟩ : ∃ x, f.bk = x := ⟨_, rfl⟩
  rw [hx] at c0
  obtain ⟨z1, h1⟩ : ∃ z, decide (0 ≤ x) = z := ⟨_, rfl⟩
  obtain ⟨z2, h2⟩ : ∃ z, decide (x < B) = z := ⟨_, rfl⟩
  have HW := Lib.hid (show witB B f = (z1 && z2) by unfold witB; rw [hx, h1, h2])
  obtain ⟨y, hy⟩ : ∃ y, witB B f = y := ⟨_, rfl⟩
  rw [hy] at HW ⊢
  clear hx hy
  cases z1
  · clear h2
    go_enter Try.func31, Try.ntmps31
    go_wp2
    go_ret
    exact ⟨by rw [HW.out]; rfl, HE.out⟩
  · cases z2
    · go_enter Try.func31, Try.ntmps31
      go_wp2
      go_ret
      exact ⟨by rw [HW.out]; rfl, HE.out⟩
    · go_enter Try.func31, Try.ntmps31
      go_wp2
      go_ret
      exact ⟨by rw [HW.out]; rfl, HE.out⟩

theorem scanMine17_any (f : Fnd) (tn ep : Int) (w : World) : Calls Try.prog 33 #[.agg (fndC f), .int .i64 tn, .int .i64 ep] w fun e w' => e = .returned (.bool (mineF tn ep f)) ∧ w.grownBy w' none := by
  have HE := Lib.hid (World.grownBy_alloc w (.cells (fndC f) 36) none)
  have hc := FCells.of (Blk.new w 36 (fndC f))
  have c2 := hc.torn
  have c3 := hc.te
  have c4 := hc.ep
  clear hc
  obtain ⟨b, hb⟩ : ∃ z, f.torn = z := ⟨_, rfl⟩
  obtain ⟨x, hx⟩ : ∃ z, f.te = z := ⟨_, rfl⟩
  obtain ⟨y, hy⟩ : ∃ z, f.ep = z := ⟨_, rfl⟩
  rw [hb] at c2
  rw [hx] at c3
  rw [hy] at c4
  obtain ⟨z1, h1⟩ : ∃ z, (x == tn) = z := ⟨_, rfl⟩
  obtain ⟨z2, h2⟩ : ∃ z, (y == ep) = z := ⟨_, rfl⟩
  have HW := Lib.hid (show mineF tn ep f = (!b && (z1 && z2)) by unfold mineF; rw [hb, hx, hy, h1, h2])
  obtain ⟨m, hm⟩ : ∃ m, mineF tn ep f = m := ⟨_, rfl⟩
  rw [hm] at HW ⊢
  clear hb hx hy hm
  cases b
  · cases z1
    · clear h2
      go_enter Try.func33, Try.ntmps33
      go_wp2
      go_ret
      exact ⟨by rw [HW.out]; rfl, HE.out⟩
    · cases z2
      · go_enter Try.func33, Try.ntmps33
        go_wp2
        go_ret
        exact ⟨by rw [HW.out]; rfl, HE.out⟩
      · go_enter Try.func33, Try.ntmps33
        go_wp2
        go_ret
        exact ⟨by rw [HW.out]; rfl, HE.out⟩
  · clear h1 h2
    go_enter Try.func33, Try.ntmps33
    go_wp2
    go_ret
    exact ⟨by rw [HW.out]; rfl, HE.out⟩

theorem owned1_any (tn ep : Int) (g h : Nat) (f : Fnd) (w : World) (hg : w.cell? ⟨g, 0, none⟩ = some (.int .i64 tn)) (hh : w.cell? ⟨h, 0, none⟩ = some (.int .i64 ep)) :
    Calls Try.prog 32 #[.agg (fndC f), .pointer (some ⟨g, 0, none⟩), .pointer (some ⟨h, 0, none⟩)] w fun e w' => e = .returned (.bool (mineF tn ep f)) ∧ w.grownBy w' none := by
  have hE := World.grownBy_alloc w (.cells (fndC f) 36) none
  have hb := Blk.new w 36 (fndC f)
  have hg := hE.cell hg (by simp)
  have hh := hE.cell hh (by simp)
  have MINE := fun wx => scanMine17_any f tn ep wx
  obtain ⟨m, hm⟩ : ∃ m, mineF tn ep f = m := ⟨_, rfl⟩
  rw [hm] at MINE ⊢
  have HE := Lib.hid hE
  clear hm hE
  go_enter Try.func32, Try.ntmps32
  go_wp2_with (first
    | (refine fnd_load rfl _ rfl rfl hb.range17 ?_)
    | (go_at_call 33; refine (MINE _).mono ?_; rintro e w3 ⟨rfl, hE3⟩; have HE3 := Lib.hid (ext_trans HE.out hE3); clear hE3))
  go_ret
  exact ⟨rfl, HE3.out⟩

/-- Its place is below the size. -/
def belB (sz : Int) (f : Fnd) : Bool := decide (f.pl < sz)
theorem heal1_any (sz : Int) (g : Nat) (f : Fnd) (w : World) (hg : w.cell? ⟨g, 0, none⟩ = some (.int .i64 sz)) :
    Calls Try.prog 20 #[.agg (fndC f), .pointer (some ⟨g, 0, none⟩)] w fun e w' => e = .returned (.bool (belB sz f)) ∧ w.grownBy w' none := by
  have HE := Lib.hid (World.grownBy_alloc w (.cells (fndC f) 36) none)
  have c0 := (FCells.of (Blk.new w 36 (fndC f))).pl
  have hg := HE.out.cell hg (by simp)
  unfold belB
  obtain ⟨x, hx⟩ : ∃ x, f.pl = x := ⟨_, rfl⟩
  rw [hx] at c0 ⊢
  obtain ⟨z, hz⟩ : ∃ z, decide (x < sz) = z := ⟨_, rfl⟩
  rw [hz]
  clear hx
  go_enter Try.func20, Try.ntmps20
  go_wp2
  go_ret
  exact ⟨rfl, HE.out⟩
/-- Its place is beyond the size. -/
def beyB (sz : Int) (f : Fnd) : Bool := decide (sz ≤ f.pl)
theorem void1_any (sz : Int) (g : Nat) (f : Fnd) (w : World) (hg : w.cell? ⟨g, 0, none⟩ = some (.int .i64 sz)) :
    Calls Try.prog 30 #[.agg (fndC f), .pointer (some ⟨g, 0, none⟩)] w fun e w' => e = .returned (.bool (beyB sz f)) ∧ w.grownBy w' none := by
  have HE := Lib.hid (World.grownBy_alloc w (.cells (fndC f) 36) none)
  have c0 := (FCells.of (Blk.new w 36 (fndC f))).pl
  have hg := HE.out.cell hg (by simp)
  unfold beyB
  obtain ⟨x, hx⟩ : ∃ x, f.pl = x := ⟨_, rfl⟩
  rw [hx] at c0 ⊢
  obtain ⟨z, hz⟩ : ∃ z, decide (sz ≤ x) = z := ⟨_, rfl⟩
  rw [hz]
  clear hx
  go_enter Try.func30, Try.ntmps30
  go_wp2
  go_ret
  exact ⟨rfl, HE.out⟩

theorem Try.eg1 : ∀ args w, (callFunc 31 args).run Try.prog w = .ok (.enter 31 args) w := enters_of Try.func31 (by kernel_rfl) rfl
theorem Try.eg2 : ∀ args w, (callFunc 32 args).run Try.prog w = .ok (.enter 32 args) w := enters_of Try.func32 (by kernel_rfl) rfl
theorem Try.eg3 : ∀ args w, (callFunc 20 args).run Try.prog w = .ok (.enter 20 args) w := enters_of Try.func20 (by kernel_rfl) rfl
theorem Try.eg4 : ∀ args w, (callFunc 30 args).run Try.prog w = .ok (.enter 30 args) w := enters_of Try.func30 (by kernel_rfl) rfl
theorem Try.eg5 : ∀ args w, (callFunc 23 args).run Try.prog w = .ok (.enter 23 args) w := enters_of Try.func23 (by kernel_rfl) rfl

theorem box_int (w : World) (x : Int) : (w.alloc (.cells #[.int .i64 x] 3)).cell? ⟨w.heap.size, 0, none⟩ = some (.int .i64 x) := (Blk.new w 3 #[.int .i64 x]).cell 0

theorem within17_any (B : Int) (lv : Value) (L : List Fnd) (w : World) (h : RowF w lv L) (hlb : ∀ k, lv.ownBlock = some k → k < w.heap.size) (hl : L.length ≤ 1000) :
    Calls Try.prog 17 #[lv, .int .i64 B] w fun e w' => (∃ v, e = .returned v ∧ OwnF w.heap.size w' v (L.filter (witB B))) ∧ w.grownBy w' none := by
  have HE := Lib.hid (World.grownBy_alloc w (.cells #[.int .i64 B] 3) none)
  have hb := box_int w B
  have hs : (w.alloc (.cells #[.int .i64 B] 3)).heap.size = w.heap.size + 1 := by simp
  obtain ⟨w1, hw1⟩ : ∃ v, w.alloc (.cells #[.int .i64 B] 3) = v := ⟨_, rfl⟩
  rw [hw1] at HE hb hs
  have T := those17_any 31 Try.eg1 #[.pointer (some ⟨w.heap.size, 0, none⟩)] (witB B) lv L w1 (h.ext HE.out) (fun k hk => by have := hlb k hk; omega) hl (fun f _ wx hE => within1_any B _ f wx (hE.cell hb (by simp)))
  have HS := Lib.hid hs
  clear h hlb hb hs
  go_enter Try.func17, Try.ntmps17
  go_wp2_with (go_at_call 19; refine T.mono ?_; rintro e w3 ⟨⟨v, rfl, hv⟩, hE3⟩; have HV := Lib.hid hv; have HE3 := Lib.hid hE3; clear hv hE3)
  go_ret
  exact ⟨⟨_, rfl, owns_le17 HV.out (by have := HS.out; omega)⟩, ext_trans HE.out HE3.out⟩

theorem owned17_any (tn ep : Int) (lv : Value) (L : List Fnd) (w : World) (h : RowF w lv L) (hlb : ∀ k, lv.ownBlock = some k → k < w.heap.size) (hl : L.length ≤ 1000) :
    Calls Try.prog 18 #[lv, .int .i64 tn, .int .i64 ep] w fun e w' => (∃ v, e = .returned v ∧ OwnF w.heap.size w' v (L.filter (mineF tn ep))) ∧ w.grownBy w' none := by
  have hE := World.grownBy_alloc w (.cells #[.int .i64 tn] 3) none
  have hE2 := World.grownBy_alloc (w.alloc (.cells #[.int .i64 tn] 3)) (.cells #[.int .i64 ep] 3) none
  have hb := hE2.cell (box_int w tn) (by simp)
  have hb2 := box_int (w.alloc (.cells #[.int .i64 tn] 3)) ep
  rw [show (w.alloc (.cells #[.int .i64 tn] 3)).heap.size = w.heap.size + 1 by simp] at hb2
  have hs : ((w.alloc (.cells #[.int .i64 tn] 3)).alloc (.cells #[.int .i64 ep] 3)).heap.size = w.heap.size + 2 := by simp
  have HE := Lib.hid (ext_trans hE hE2)
  obtain ⟨w1, hw1⟩ : ∃ v, (w.alloc (.cells #[.int .i64 tn] 3)).alloc (.cells #[.int .i64 ep] 3) = v := ⟨_, rfl⟩
  rw [hw1] at HE hb hb2 hs
  have T := those17_any 32 Try.eg2 #[.pointer (some ⟨w.heap.size, 0, none⟩), .pointer (some ⟨w.heap.size + 1, 0, none⟩)] (mineF tn ep) lv L w1 (h.ext HE.out) (fun k hk => by have := hlb k hk; omega) hl (fun f _ wx hE => owned1_any tn ep _ _ f wx (hE.cell hb (by simp)) (hE.cell hb2 (by simp)))
  have HS := Lib.hid hs
  clear h hlb hb hb2 hs hE hE2
  go_enter Try.func18, Try.ntmps18
  go_wp2_with (go_at_call 19; refine T.mono ?_; rintro e w3 ⟨⟨v, rfl, hv⟩, hE3⟩; have HV := Lib.hid hv; have HE3 := Lib.hid hE3; clear hv hE3)
  go_ret
  exact ⟨⟨_, rfl, owns_le17 HV.out (by have := HS.out; omega)⟩, ext_trans HE.out HE3.out⟩

end Go.Proofs.Ytigfohofbpjldaa
