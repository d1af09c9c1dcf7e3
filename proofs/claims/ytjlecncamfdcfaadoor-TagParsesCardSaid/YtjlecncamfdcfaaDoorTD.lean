/-
  The document's Parse of a tag (layer 8).
-/
import Derived.Test.YtjlecncamfdcfaaDoorTC
namespace Go.Proofs.YtjlecncamfdcfaaDoor
open Go.RowKit

theorem refFlag_is {br c : Nat} {xs : List Int} {e0 : Int} {w : World} (hR : RdIs 52 w br c xs e0) (hB : Byts xs) {b : Bool} {e1 : Int} {x1 : List Int} (h1 : flagB xs e0 = b) (h2 : numX 1 xs e0 = x1) (h3 : flagE xs e0 = e1) :
    Calls Tryd.prog 29 #[.pointer (some ⟨br, 0, none⟩)] w fun e w' => e = .returned (.bool b) ∧ RdIs 52 w' br c x1 e1 ∧ w.grownBy w' (some br) := by
  subst h1 h2 h3
  exact refFlag_any br c xs e0 w hR hB
theorem refDone_is {br c : Nat} {xs : List Int} {e0 : Int} {w : World} (hR : RdIs 52 w br c xs e0) {e1 : Int} (h1 : doneE xs e0 = e1) :
    Calls Tryd.prog 30 #[.pointer (some ⟨br, 0, none⟩)] w fun e w' => e = .returned (.int .i64 e1) ∧ RdIs 52 w' br c xs e1 ∧ w.grownBy w' (some br) := by
  subst h1
  exact refDone_any br c xs e0 w hR
theorem ref_reader8 {v : Value} {xs : List Int} {w : World} (hb : Bts w v xs) (hlt : ∀ k, v.ownBlock = some k → k < w.heap.size) (h0 : 0 < w.heap.size) :
    ∃ c, RdIs 52 (w.alloc (.cells #[v, .int .i64 0] 52)) w.heap.size c xs 0 ∧ c < w.heap.size := by
  have hga := World.grownBy_alloc w (.cells #[v, .int .i64 0] 52) none
  cases ho : v.ownBlock with
  | none => exact ⟨0, ⟨v, heap_alloc_new w _, hb.kept hga (by simp), fun k hk => (by rw [ho] at hk; cases hk), by omega⟩, h0⟩
  | some c => exact ⟨c, ⟨v, heap_alloc_new w _, hb.kept hga (by simp), fun k hk => (by rw [ho] at hk; cases hk; rfl), Nat.ne_of_lt (hlt c ho)⟩, hlt c ho⟩
theorem refRight_ext (a b c d k : Int) (p : Bool) (w : World) :
    Calls Tryd.prog 10 #[.agg #[.int .i64 a, .int .i64 b, .int .i64 c, .int .i64 d, .int .i64 k, .bool p]] w fun e w' => e = .returned (.bool (okB a b c d k)) ∧ Ext w w' :=
  (refRight_any a b c d k p w).mono fun _ _ ⟨h1, h2⟩ => ⟨h1, h2 ▸ World.grownBy_alloc _ _ none⟩

set_option maxRecDepth 100000 in
set_option maxHeartbeats 400000 in
theorem refParse_not (v : Value) (xs : List Int) (w : World) (hb : Bts w v xs) (hB : Byts xs) (hm : xs.length ≤ 140737488200000) (hlt : ∀ k, v.ownBlock = some k → k < w.heap.size) (hE : whE xs 84 ≠ 0) :
    Calls Tryd.prog 15 #[v] w (ParseR w 0 0 0 0 0 false (whE xs 84)) := by
  have W := fun w' hb hlt => refWhole_any v xs 84 w' hb hB hm hlt
  have HL := Lib.hid (fun k hk => Nat.lt_of_lt_of_le (hlt k hk) (World.grownBy_alloc w (tagObj 0 0 0 0 0 false) none).size : ∀ k, v.ownBlock = some k → k < (w.alloc (tagObj 0 0 0 0 0 false)).heap.size)
  obtain ⟨ao, cap, b, off, rfl, _⟩ := hb.sform
  generalize whE xs 84 = er at *
  have hE' : (er != 0) = true := by simpa using hE
  have HB := Lib.hid (hb.kept (World.grownBy_alloc w (tagObj 0 0 0 0 0 false) none) (by simp))
  have HM := Lib.hid (tagM_new w 0 0 0 0 0 false)
  generalize whB xs 84 = ys at *
  unfold tagObj ParseR tagV at *
  clear hE hb hB hlt
  go_enter Tryd.func15, Tryd.ntmps15
  go_wp2_with (go_at_call 27; refine (W _ HB.out HL.out).mono ?_; rintro e w2 ⟨v2, rfl, hown2, hg2⟩; have hM2 := TagM.kept HM.out hg2 (by simp); have hf := hM2.free; obtain ⟨b0, b1, b2, b3, b4, b5⟩ := hM2.at)
  obtain ⟨hM3, hg3⟩ := tagM_set hM2 0 0 0 0 0 false
  obtain ⟨c0, c1, c2, c3, c4, c5⟩ := hM3.at
  refine bodyPost_ret (v := .tuple #[.agg #[.int .i64 0, .int .i64 0, .int .i64 0, .int .i64 0, .int .i64 0, .bool false], .int .i64 er]) (by simp [results, Tryd.results15, go_sem, c0, c1, c2, c3, c4, c5]) rfl ⟨rfl, ext_own (ext_trans (World.grownBy_alloc _ _ none) hg2) hg3 (Nat.le_refl _)⟩

/-- The reader, the tag that is filled, the result's block. -/
structure RS (w wx : World) (br c tb : Nat) (X : List Int) (E a b c' d k : Int) (p : Bool) : Prop where
  rd : RdIs 52 wx br c X E
  tg : TagM wx tb a b c' d k p
  rs : TagM wx w.heap.size 0 0 0 0 0 false
  ext : Ext w wx
  l1 : w.heap.size < br
  l2 : br < tb
  l3 : c < tb
theorem RS.num {w wx wn : World} {br c tb : Nat} {X Y : List Int} {E F a b c' d k : Int} {p : Bool} (h : RS w wx br c tb X E a b c' d k p) (hg : wx.grownBy wn (some br)) (hR : RdIs 52 wn br c Y F) : RS w wn br c tb Y F a b c' d k p :=
  ⟨hR, h.tg.kept hg (by have := h.l2; simp; omega), h.rs.kept hg (by have := h.l1; simp; omega), ext_own h.ext hg (Nat.le_of_lt h.l1), h.l1, h.l2, h.l3⟩
theorem RS.put {w wx : World} {br c tb : Nat} {X : List Int} {E a b c' d k a2 b2 c2 d2 k2 : Int} {p p2 : Bool} {o : Nat} {u : Value} (h : RS w wx br c tb X E a b c' d k p) (ht : TagM (wx.setCell ⟨tb, o, none⟩ u) tb a2 b2 c2 d2 k2 p2) : RS w (wx.setCell ⟨tb, o, none⟩ u) br c tb X E a2 b2 c2 d2 k2 p2 :=
  have hg := grown_set wx ⟨tb, o, none⟩ u
  have e1 := h.l1
  have e2 := h.l2
  have e3 := h.l3
  ⟨h.rd.kept hg (by simp; omega) (by simp; omega), ht, h.rs.kept hg (by simp; omega), ext_own h.ext hg (by show w.heap.size ≤ tb; omega), h.l1, h.l2, h.l3⟩
theorem tagM_2 {w : World} {B : Nat} {a b c d k : Int} {p : Bool} (h : TagM w B a b c d k p) (x : Int) : TagM (w.setCell ⟨B, 2, none⟩ (.int .i64 x)) B a b x d k p := by
  unfold TagM tagObj at h ⊢; simp [World.setCell, Array.getElem?_modify, h]
theorem tagM_3 {w : World} {B : Nat} {a b c d k : Int} {p : Bool} (h : TagM w B a b c d k p) (x : Int) : TagM (w.setCell ⟨B, 3, none⟩ (.int .i64 x)) B a b c x k p := by
  unfold TagM tagObj at h ⊢; simp [World.setCell, Array.getElem?_modify, h]
theorem tagM_4 {w : World} {B : Nat} {a b c d k : Int} {p : Bool} (h : TagM w B a b c d k p) (x : Int) : TagM (w.setCell ⟨B, 4, none⟩ (.int .i64 x)) B a b c d x p := by
  unfold TagM tagObj at h ⊢; simp [World.setCell, Array.getElem?_modify, h]
theorem tagM_5 {w : World} {B : Nat} {a b c d k : Int} {p : Bool} (h : TagM w B a b c d k p) (x : Bool) : TagM (w.setCell ⟨B, 5, none⟩ (.bool x)) B a b c d k x := by
  unfold TagM tagObj at h ⊢; simp [World.setCell, Array.getElem?_modify, h]

theorem start8 {w w2 n1 n2 : World} {c : Nat} {v2 : Value} {X : List Int} {E a b : Int}
    (h : TagM (w.alloc (tagObj 0 0 0 0 0 false)) w.heap.size 0 0 0 0 0 false) (hg : (w.alloc (tagObj 0 0 0 0 0 false)).grownBy w2 none) (hc : c < w2.heap.size)
    (hg1 : (w2.alloc (.cells #[v2, .int .i64 0] 52)).grownBy n1 (some w2.heap.size)) (hg2 : n1.grownBy n2 (some w2.heap.size)) (hR : RdIs 52 n2 w2.heap.size c X E) :
    RS w (n2.alloc (tagObj a b 0 0 0 false)) w2.heap.size c n2.heap.size X E a b 0 0 0 false := by
  have e0 := hg.size
  have e1 := hg1.size
  have e2 := hg2.size
  simp at e0 e1
  have hga := World.grownBy_alloc n2 (tagObj a b 0 0 0 false) none
  have hgb := World.grownBy_alloc w2 (.cells #[v2, .int .i64 0] 52) none
  have hE : Ext w (w2.alloc (.cells #[v2, .int .i64 0] 52)) := ext_trans (ext_trans (World.grownBy_alloc _ _ none) hg) hgb
  exact ⟨hR.kept hga (by simp) (by simp), tagM_new _ _ _ _ _ _ _, ((((h.kept hg (by simp)).kept hgb (by simp)).kept hg1 (by simp; omega)).kept hg2 (by simp; omega)).kept hga (by simp), ext_trans (ext_own (ext_own hE hg1 (by omega)) hg2 (by omega)) hga, by omega, by omega, by omega⟩

set_option maxRecDepth 100000 in
set_option maxHeartbeats 800000 in
theorem refParse_is (v : Value) (xs bs : List Int) (w : World) (hb : Bts w v xs) (hB : Byts xs) (hm : xs.length ≤ 140737488200000) (hlt : ∀ k, v.ownBlock = some k → k < w.heap.size) (hE : whE xs 84 = 0) (hbs : whB xs 84 = bs) :
    Calls Tryd.prog 15 #[v] w (ParseR w (psN xs 0) (psN xs 1) (psN xs 2) (psN xs 3) (psN xs 4) (psP xs) (psE xs)) := by
  have W := fun w' hb hlt => refWhole_any v xs 84 w' hb hB hm hlt
  have HL := Lib.hid (fun k hk => Nat.lt_of_lt_of_le (hlt k hk) (World.grownBy_alloc w (tagObj 0 0 0 0 0 false) none).size : ∀ k, v.ownBlock = some k → k < (w.alloc (tagObj 0 0 0 0 0 false)).heap.size)
  have hBb : Byts bs := hbs ▸ whB_byts 84 hB
  obtain ⟨ao, cap, b, off, rfl, _⟩ := hb.sform
  have HP := Lib.hid (And.intro hE hbs)
  rw [hE, hbs] at W
  have HB := Lib.hid (hb.kept (World.grownBy_alloc w (tagObj 0 0 0 0 0 false) none) (by simp))
  have HM := Lib.hid (tagM_new w 0 0 0 0 0 false)
  unfold tagObj at *
  have HQ := Lib.hid hBb
  have NUM : ∀ (j : Nat) (br c : Nat) (n : Int) (wx : World), fsz j = n → RdIs 52 wx br c (rdp bs j).1 (rdp bs j).2 →
      Calls Tryd.prog 28 #[.pointer (some ⟨br, 0, none⟩), .int .i64 n] wx fun e w' => e = .returned (.int .i64 (nv bs j)) ∧ RdIs 52 w' br c (rdp bs (j + 1)).1 (rdp bs (j + 1)).2 ∧ wx.grownBy w' (some br) := fun j br c n wx hn hR => by
    subst hn
    exact refNumber_is hR (rdp_byts HQ.out j) rfl rfl rfl
  have F0 : fsz 0 = 1 := rfl
  have F1 : fsz 1 = 4 := rfl
  have F2 : fsz 2 = 1 := rfl
  have F3 : fsz 3 = 4 := rfl
  have F4 : fsz 4 = 1 := rfl
  have FF := Lib.hid (And.intro F0 (And.intro F1 (And.intro F2 (And.intro F3 F4))))
  clear hE hbs hb hB hBb hlt F0 F1 F2 F3 F4
  have HN := Lib.hid NUM
  clear NUM
  have Rt := fun x => refRight_ext (nv bs 0) (nv bs 1) (nv bs 2) (nv bs 3) (nv bs 4) (cpB bs) x
  have hd : doneE (lstX bs) (lstE bs) = dnE bs := rfl
  have HD := Lib.hid hd
  clear hd
  have HO := Lib.hid (show psE xs = if bodyOk bs then 0 else 2 by unfold psE; rw [if_pos HP.out.1, HP.out.2])
  have HB0 := Lib.hid (show bodyOk bs = (decide (dnE bs = 0) && okB (nv bs 0) (nv bs 1) (nv bs 2) (nv bs 3) (nv bs 4)) from rfl)
  by_cases h0 : dnE bs = 0
  · have HD0 := Lib.hid (HD.out.trans h0)
    cases hok : okB (nv bs 0) (nv bs 1) (nv bs 2) (nv bs 3) (nv bs 4)
    · rw [hok] at Rt
      have HE := Lib.hid (show psE xs = 2 by rw [HO.out, HB0.out, hok]; simp)
      clear h0
      go_enter Tryd.func15, Tryd.ntmps15
      go_wp2_with (first
        | (go_at_call 10; refine (Rt _).mono ?_; rintro e n8 ⟨rfl, hg8⟩
           have hM8 := S7.rs.kept hg8 (by simp)
           obtain ⟨z0, z1, z2, z3, z4, z5⟩ := hM8.at
           obtain ⟨t0, t1, t2, t3, t4, t5⟩ := (S7.tg.kept hg8 (by simp)).at
           have f8 := hM8.free)
        | (go_at_call 30; refine (refDone_is S6.rd HD0.out).mono ?_; rintro e n7 ⟨rfl, hR7, hg7⟩
           have S7 := S6.num hg7 hR7
           obtain ⟨t0, t1, t2, t3, t4, t5⟩ := S7.tg.at)
        | (go_at_call 29; refine (refFlag_is (b := cpB bs) (x1 := lstX bs) (e1 := lstE bs) S5.rd (rdp_byts HQ.out 5) rfl rfl rfl).mono ?_; rintro e n6 ⟨rfl, hR6, hg6⟩
           obtain ⟨y0, y1, y2, y3, y4, y5⟩ := (S5.num hg6 hR6).tg.at
           have f6 := (S5.num hg6 hR6).tg.free
           have S6 := (S5.num hg6 hR6).put (tagM_5 (S5.num hg6 hR6).tg (cpB bs)))
        | (go_at_call 28; refine (HN.out 4 _ _ _ _ FF.out.2.2.2.2 S4.rd).mono ?_; rintro e n5 ⟨rfl, hR5, hg5⟩
           obtain ⟨x0, x1, x2, x3, x4, x5⟩ := (S4.num hg5 hR5).tg.at
           have f5 := (S4.num hg5 hR5).tg.free
           have S5 := (S4.num hg5 hR5).put (tagM_4 (S4.num hg5 hR5).tg (nv bs 4)))
        | (go_at_call 28; refine (HN.out 3 _ _ _ _ FF.out.2.2.2.1 S3.rd).mono ?_; rintro e n4 ⟨rfl, hR4, hg4⟩
           obtain ⟨v0, v1, v2', v3, v4, v5⟩ := (S3.num hg4 hR4).tg.at
           have f4 := (S3.num hg4 hR4).tg.free
           have S4 := (S3.num hg4 hR4).put (tagM_3 (S3.num hg4 hR4).tg (nv bs 3)))
        | (go_at_call 28; refine (HN.out 2 _ _ _ _ FF.out.2.2.1 S2.rd).mono ?_; rintro e n3 ⟨rfl, hR3, hg3⟩
           obtain ⟨u0, u1', u2', u3', u4', u5'⟩ := (S2.num hg3 hR3).tg.at
           have f3 := (S2.num hg3 hR3).tg.free
           have S3 := (S2.num hg3 hR3).put (tagM_2 (S2.num hg3 hR3).tg (nv bs 2)))
        | (go_at_call 28; refine (HN.out 1 _ _ _ _ FF.out.2.1 hR1).mono ?_; rintro e n2 ⟨rfl, hR2', hg2'⟩
           have S2 := start8 (a := nv bs 0) (b := nv bs 1) HM.out hg2 (HR2.out.2) hg1 hg2' hR2')
        | (go_at_call 28; refine (HN.out 0 _ _ _ _ FF.out.1 HR2.out.1).mono ?_; rintro e n1 ⟨rfl, hR1, hg1⟩)
        | (go_at_call 27; refine (W _ HB.out HL.out).mono ?_; rintro e w2 ⟨v2, rfl, hown2, hg2⟩
           obtain ⟨ao2, cp2, rfl⟩ := owns_shape hown2
           obtain ⟨c, hR2, hc2⟩ := ref_reader8 (Owns.bts rfl hown2) (fun k hk => (hown2.lt k hk).2) (by have := hg2.size; simp at this; omega)
           have HR2 := Lib.hid (And.intro hR2 hc2)
           clear hR2 hc2))
      obtain ⟨hM9, hg9⟩ := tagM_set hM8 0 0 0 0 0 false
      obtain ⟨c0, c1, c2, c3, c4, c5⟩ := hM9.at
      have hX := ext_own (ext_trans S7.ext hg8) hg9 (Nat.le_refl _)
      have e2 := HE.out
      refine bodyPost_ret (v := .tuple #[.agg #[.int .i64 0, .int .i64 0, .int .i64 0, .int .i64 0, .int .i64 0, .bool false], .int .i64 2]) (by simp [results, Tryd.results15, go_sem, c0, c1, c2, c3, c4, c5]) rfl ⟨?_, hX⟩
      simp [psN, psP, e2, tagV]
    · rw [hok] at Rt
      have HE := Lib.hid (show psE xs = 0 by rw [HO.out, HB0.out, hok]; simp [h0])
      clear h0
      go_enter Tryd.func15, Tryd.ntmps15
      go_wp2_with (first
        | (go_at_call 10; refine (Rt _).mono ?_; rintro e n8 ⟨rfl, hg8⟩
           have hM8 := S7.rs.kept hg8 (by simp)
           obtain ⟨z0, z1, z2, z3, z4, z5⟩ := hM8.at
           obtain ⟨t0, t1, t2, t3, t4, t5⟩ := (S7.tg.kept hg8 (by simp)).at
           have f8 := hM8.free)
        | (go_at_call 30; refine (refDone_is S6.rd HD0.out).mono ?_; rintro e n7 ⟨rfl, hR7, hg7⟩
           have S7 := S6.num hg7 hR7
           obtain ⟨t0, t1, t2, t3, t4, t5⟩ := S7.tg.at)
        | (go_at_call 29; refine (refFlag_is (b := cpB bs) (x1 := lstX bs) (e1 := lstE bs) S5.rd (rdp_byts HQ.out 5) rfl rfl rfl).mono ?_; rintro e n6 ⟨rfl, hR6, hg6⟩
           obtain ⟨y0, y1, y2, y3, y4, y5⟩ := (S5.num hg6 hR6).tg.at
           have f6 := (S5.num hg6 hR6).tg.free
           have S6 := (S5.num hg6 hR6).put (tagM_5 (S5.num hg6 hR6).tg (cpB bs)))
        | (go_at_call 28; refine (HN.out 4 _ _ _ _ FF.out.2.2.2.2 S4.rd).mono ?_; rintro e n5 ⟨rfl, hR5, hg5⟩
           obtain ⟨x0, x1, x2, x3, x4, x5⟩ := (S4.num hg5 hR5).tg.at
           have f5 := (S4.num hg5 hR5).tg.free
           have S5 := (S4.num hg5 hR5).put (tagM_4 (S4.num hg5 hR5).tg (nv bs 4)))
        | (go_at_call 28; refine (HN.out 3 _ _ _ _ FF.out.2.2.2.1 S3.rd).mono ?_; rintro e n4 ⟨rfl, hR4, hg4⟩
           obtain ⟨v0, v1, v2', v3, v4, v5⟩ := (S3.num hg4 hR4).tg.at
           have f4 := (S3.num hg4 hR4).tg.free
           have S4 := (S3.num hg4 hR4).put (tagM_3 (S3.num hg4 hR4).tg (nv bs 3)))
        | (go_at_call 28; refine (HN.out 2 _ _ _ _ FF.out.2.2.1 S2.rd).mono ?_; rintro e n3 ⟨rfl, hR3, hg3⟩
           obtain ⟨u0, u1', u2', u3', u4', u5'⟩ := (S2.num hg3 hR3).tg.at
           have f3 := (S2.num hg3 hR3).tg.free
           have S3 := (S2.num hg3 hR3).put (tagM_2 (S2.num hg3 hR3).tg (nv bs 2)))
        | (go_at_call 28; refine (HN.out 1 _ _ _ _ FF.out.2.1 hR1).mono ?_; rintro e n2 ⟨rfl, hR2', hg2'⟩
           have S2 := start8 (a := nv bs 0) (b := nv bs 1) HM.out hg2 (HR2.out.2) hg1 hg2' hR2')
        | (go_at_call 28; refine (HN.out 0 _ _ _ _ FF.out.1 HR2.out.1).mono ?_; rintro e n1 ⟨rfl, hR1, hg1⟩)
        | (go_at_call 27; refine (W _ HB.out HL.out).mono ?_; rintro e w2 ⟨v2, rfl, hown2, hg2⟩
           obtain ⟨ao2, cp2, rfl⟩ := owns_shape hown2
           obtain ⟨c, hR2, hc2⟩ := ref_reader8 (Owns.bts rfl hown2) (fun k hk => (hown2.lt k hk).2) (by have := hg2.size; simp at this; omega)
           have HR2 := Lib.hid (And.intro hR2 hc2)
           clear hR2 hc2))
      obtain ⟨hM9, hg9⟩ := tagM_set hM8 (nv bs 0) (nv bs 1) (nv bs 2) (nv bs 3) (nv bs 4) (cpB bs)
      obtain ⟨c0, c1, c2, c3, c4, c5⟩ := hM9.at
      have hX := ext_own (ext_trans S7.ext hg8) hg9 (Nat.le_refl _)
      have e2 := HE.out
      refine bodyPost_ret (v := .tuple #[.agg #[.int .i64 (nv bs 0), .int .i64 (nv bs 1), .int .i64 (nv bs 2), .int .i64 (nv bs 3), .int .i64 (nv bs 4), .bool (cpB bs)], .int .i64 0]) (by simp [results, Tryd.results15, go_sem, c0, c1, c2, c3, c4, c5]) rfl ⟨?_, hX⟩
      simp [psN, psP, e2, tagV, HP.out.2]
  · have HE := Lib.hid (show psE xs = 2 by rw [HO.out, HB0.out]; simp [h0])
    have hn0 : (dnE bs != 0) = true := by simpa using h0
    clear h0
    go_enter Tryd.func15, Tryd.ntmps15
    go_wp2_with (first
      | (go_at_call 30; refine (refDone_is S6.rd HD.out).mono ?_; rintro e n7 ⟨rfl, hR7, hg7⟩
         have S7 := S6.num hg7 hR7
         obtain ⟨z0, z1, z2, z3, z4, z5⟩ := S7.rs.at
         have f7 := S7.rs.free)
      | (go_at_call 29; refine (refFlag_is (b := cpB bs) (x1 := lstX bs) (e1 := lstE bs) S5.rd (rdp_byts HQ.out 5) rfl rfl rfl).mono ?_; rintro e n6 ⟨rfl, hR6, hg6⟩
         obtain ⟨y0, y1, y2, y3, y4, y5⟩ := (S5.num hg6 hR6).tg.at
         have f6 := (S5.num hg6 hR6).tg.free
         have S6 := (S5.num hg6 hR6).put (tagM_5 (S5.num hg6 hR6).tg (cpB bs)))
      | (go_at_call 28; refine (HN.out 4 _ _ _ _ FF.out.2.2.2.2 S4.rd).mono ?_; rintro e n5 ⟨rfl, hR5, hg5⟩
         obtain ⟨x0, x1, x2, x3, x4, x5⟩ := (S4.num hg5 hR5).tg.at
         have f5 := (S4.num hg5 hR5).tg.free
         have S5 := (S4.num hg5 hR5).put (tagM_4 (S4.num hg5 hR5).tg (nv bs 4)))
      | (go_at_call 28; refine (HN.out 3 _ _ _ _ FF.out.2.2.2.1 S3.rd).mono ?_; rintro e n4 ⟨rfl, hR4, hg4⟩
         obtain ⟨v0, v1, v2', v3, v4, v5⟩ := (S3.num hg4 hR4).tg.at
         have f4 := (S3.num hg4 hR4).tg.free
         have S4 := (S3.num hg4 hR4).put (tagM_3 (S3.num hg4 hR4).tg (nv bs 3)))
      | (go_at_call 28; refine (HN.out 2 _ _ _ _ FF.out.2.2.1 S2.rd).mono ?_; rintro e n3 ⟨rfl, hR3, hg3⟩
         obtain ⟨u0, u1', u2', u3', u4', u5'⟩ := (S2.num hg3 hR3).tg.at
         have f3 := (S2.num hg3 hR3).tg.free
         have S3 := (S2.num hg3 hR3).put (tagM_2 (S2.num hg3 hR3).tg (nv bs 2)))
      | (go_at_call 28; refine (HN.out 1 _ _ _ _ FF.out.2.1 hR1).mono ?_; rintro e n2 ⟨rfl, hR2', hg2'⟩
         have S2 := start8 (a := nv bs 0) (b := nv bs 1) HM.out hg2 (HR2.out.2) hg1 hg2' hR2')
      | (go_at_call 28; refine (HN.out 0 _ _ _ _ FF.out.1 HR2.out.1).mono ?_; rintro e n1 ⟨rfl, hR1, hg1⟩)
      | (go_at_call 27; refine (W _ HB.out HL.out).mono ?_; rintro e w2 ⟨v2, rfl, hown2, hg2⟩
         obtain ⟨ao2, cp2, rfl⟩ := owns_shape hown2
         obtain ⟨c, hR2, hc2⟩ := ref_reader8 (Owns.bts rfl hown2) (fun k hk => (hown2.lt k hk).2) (by have := hg2.size; simp at this; omega)
         have HR2 := Lib.hid (And.intro hR2 hc2)
         clear hR2 hc2))
    obtain ⟨hM9, hg9⟩ := tagM_set S7.rs 0 0 0 0 0 false
    obtain ⟨c0, c1, c2, c3, c4, c5⟩ := hM9.at
    have hX := ext_own S7.ext hg9 (Nat.le_refl _)
    have e2 := HE.out
    refine bodyPost_ret (v := .tuple #[.agg #[.int .i64 0, .int .i64 0, .int .i64 0, .int .i64 0, .int .i64 0, .bool false], .int .i64 2]) (by simp [results, Tryd.results15, go_sem, c0, c1, c2, c3, c4, c5]) rfl ⟨?_, hX⟩
    simp [psN, psP, e2, tagV]

theorem refParse_any (v : Value) (xs : List Int) (w : World) (hb : Bts w v xs) (hB : Byts xs) (hm : xs.length ≤ 140737488200000) (hlt : ∀ k, v.ownBlock = some k → k < w.heap.size) :
    Calls Tryd.prog 15 #[v] w (ParseR w (psN xs 0) (psN xs 1) (psN xs 2) (psN xs 3) (psN xs 4) (psP xs) (psE xs)) := by
  by_cases h : whE xs 84 = 0
  · exact refParse_is v xs _ w hb hB hm hlt h rfl
  · have e : psE xs = whE xs 84 := by unfold psE; rw [if_neg h]
    have := refParse_not v xs w hb hB hm hlt h
    simp only [psN, psP, e, if_neg h]
    exact this

end Go.Proofs.YtjlecncamfdcfaaDoor
