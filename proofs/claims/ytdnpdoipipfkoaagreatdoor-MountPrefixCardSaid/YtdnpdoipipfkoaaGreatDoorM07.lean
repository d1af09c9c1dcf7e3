/-
  Texts put together: TC CA HB CB QB.
-/
import Derived.Test.YtdnpdoipipfkoaaGreatDoorM06
import Derived.Deep.DeepCutAuto
import Derived.Test.YtdnpdoipipfkoaaGreatDoorM02
import Derived.Test.YtdnpdoipipfkoaaGreatDoorM05
import Derived.Test.YtdnpdoipipfkoaaGreatDoorM01
import Derived.Lib.Hide
namespace Go.Proofs.YtdnpdoipipfkoaaGreatDoor
set_option linter.unusedVariables false
set_option linter.unusedSimpArgs false
set_option linter.unusedVariables false
set_option linter.unusedSimpArgs false
set_option maxRecDepth 100000
open Go.RowKit
def rdp (xs : List Int) : Nat → List Int × Int
 | 0 => (xs, 0)
 | j + 1 => (numX (fsz j) (rdp xs j).1 (rdp xs j).2, numE (fsz j) (rdp xs j).1 (rdp xs j).2)
def nv (xs : List Int) (j : Nat) : Int := numV (fsz j) (rdp xs j).1 (rdp xs j).2
def cpB (xs : List Int) : Bool := flagB (rdp xs 5).1 (rdp xs 5).2
def lstX (xs : List Int) : List Int := numX 1 (rdp xs 5).1 (rdp xs 5).2
def lstE (xs : List Int) : Int := flagE (rdp xs 5).1 (rdp xs 5).2
def dnE (xs : List Int) : Int := doneE (lstX xs) (lstE xs)
def bodyOk (xs : List Int) : Bool := decide (dnE xs = 0) && okB (nv xs 0) (nv xs 1) (nv xs 2) (nv xs 3) (nv xs 4)
def psE (xs : List Int) : Int := if whE xs 84 = 0 then (if bodyOk (whB xs 84) then 0 else 2) else whE xs 84
def psN (xs : List Int) (j : Nat) : Int := if psE xs = 0 then nv (whB xs 84) j else 0
def psP (xs : List Int) : Bool := if psE xs = 0 then cpB (whB xs 84) else false
def ParseR (w : World) (a b c d k : Int) (p : Bool) (er : Int) (e : Ending) (w' : World) : Prop :=
 e = .returned (.tuple #[tagV a b c d k p, .int .i64 er]) ∧ Ext w w'
theorem rdp_byts {xs : List Int} (h : Byts xs) : ∀ j, Byts (rdp xs j).1
 | 0 => h
 | j + 1 => numX_byts (rdp_byts h j)
theorem whB_byts {xs : List Int} (k : Int) (h : Byts xs) : Byts (whB xs k) := by
 unfold whB
 split
 · unfold opB
   split
   · exact fun x hx => h x (List.mem_of_mem_drop (List.mem_of_mem_take hx))
   · exact fun x hx => by cases hx
 · exact fun x hx => by cases hx
theorem whB_len (xs : List Int) (k : Int) : (whB xs k).length ≤ xs.length := by
 unfold whB
 split
 · unfold opB
   split
   · simp; omega
   · simp
 · simp
def ArrM (w : World) (B : Nat) (v : Nat → Int) : Prop := ∃ row : Array Value, w.heap[B]? = some (.cells row 201 (0, 0)) ∧ row.size = 5 ∧ ∀ j, j < 5 → row[j]? = some (.int .i64 (v j))
theorem ArrM.cell {w : World} {B : Nat} {v : Nat → Int} (h : ArrM w B v) {j : Nat} (hj : j < 5) : w.cell? ⟨B, j, none⟩ = some (.int .i64 (v j)) := by
 obtain ⟨row, h1, _, h3⟩ := h
 simp [World.cell?, h1, h3 j hj]
theorem ArrM.free {w : World} {B : Nat} {v : Nat → Int} (h : ArrM w B v) (o : Nat) : w.frozen? ⟨B, o, none⟩ = false := by
 obtain ⟨row, h1, _, h3⟩ := h
 simp [World.frozen?, h1]
theorem ArrM.lt {w : World} {B : Nat} {v : Nat → Int} (h : ArrM w B v) : B < w.heap.size := by
 obtain ⟨row, h1, _, h3⟩ := h
 exact (Array.getElem?_eq_some_iff.1 h1).1
theorem ArrM.kept {w w' : World} {B : Nat} {v : Nat → Int} {r : Option Nat} (h : ArrM w B v) (hg : w.grownBy w' r) (hr : some B ≠ r) : ArrM w' B v := by
 have hl := h.lt
 obtain ⟨row, h1, h2, h3⟩ := h
 exact ⟨row, (hg.block B hl hr).trans h1, h2, h3⟩
theorem ArrM.set {w : World} {B : Nat} {v : Nat → Int} (h : ArrM w B v) {j : Nat} (u : Int) : ArrM (w.setCell ⟨B, j, none⟩ (.int .i64 u)) B (fun q => if q = j then u else v q) := by
 obtain ⟨row, h1, h2, h3⟩ := h
 refine ⟨row.setIfInBounds j (.int .i64 u), by simp [World.setCell, Array.getElem?_modify, h1], by simpa using h2, fun q hq => ?_⟩
 rw [Array.getElem?_setIfInBounds]
 by_cases hqj : j = q
 · subst hqj
   simp [h2, hq]
 · simp [hqj, Ne.symm hqj, h3 q hq]
def TagM (w : World) (B : Nat) (a b c d k : Int) (p : Bool) : Prop := w.heap[B]? = some (tagObj a b c d k p)
theorem TagM.kept {w w' : World} {B : Nat} {a b c d k : Int} {p : Bool} {r : Option Nat} (h : TagM w B a b c d k p) (hg : w.grownBy w' r) (hr : some B ≠ r) : TagM w' B a b c d k p :=
 (hg.block B (Array.getElem?_eq_some_iff.1 h).1 hr).trans h
theorem TagM.at {w : World} {B : Nat} {a b c d k : Int} {p : Bool} (h : TagM w B a b c d k p) : TagAt w B a b c d k p := by
 unfold TagM tagObj at h
 unfold TagAt
 simp [World.cell?, h]
theorem TagM.free {w : World} {B : Nat} {a b c d k : Int} {p : Bool} (h : TagM w B a b c d k p) (o : Nat) : w.frozen? ⟨B, o, none⟩ = false := by
 unfold TagM tagObj at h
 simp [World.frozen?, h]
theorem tagM_new (w : World) (a b c d k : Int) (p : Bool) : TagM (w.alloc (tagObj a b c d k p)) w.heap.size a b c d k p := heap_alloc_new w _
theorem tagM_set {w : World} {B : Nat} {a b c d k : Int} {p : Bool} (h : TagM w B a b c d k p) (a' b' c' d' k' : Int) (p' : Bool) :
   TagM ((((((w.setCell ⟨B, 0, none⟩ (.int .i64 a')).setCell ⟨B, 1, none⟩ (.int .i64 b')).setCell ⟨B, 2, none⟩ (.int .i64 c')).setCell ⟨B, 3, none⟩ (.int .i64 d')).setCell ⟨B, 4, none⟩ (.int .i64 k')).setCell ⟨B, 5, none⟩ (.bool p')) B a' b' c' d' k' p' ∧
   w.grownBy ((((((w.setCell ⟨B, 0, none⟩ (.int .i64 a')).setCell ⟨B, 1, none⟩ (.int .i64 b')).setCell ⟨B, 2, none⟩ (.int .i64 c')).setCell ⟨B, 3, none⟩ (.int .i64 d')).setCell ⟨B, 4, none⟩ (.int .i64 k')).setCell ⟨B, 5, none⟩ (.bool p')) (some B) := by
 refine ⟨?_, grown_twice (grown_twice (grown_twice (grown_twice (grown_twice (grown_set _ _ _) (grown_set _ _ _)) (grown_set _ _ _)) (grown_set _ _ _)) (grown_set _ _ _)) (grown_set _ _ _)⟩
 unfold TagM tagObj at h ⊢
 simp [World.setCell, Array.getElem?_modify, h]
theorem ext_ownT {w w1 w2 : World} {B : Nat} (h : Ext w w1) (hg : w1.grownBy w2 (some B)) (hB : w.heap.size ≤ B) : Ext w w2 :=
 grown_trans h hg (fun k hk hl => by cases hk; omega)
set_option maxRecDepth 100000 in
set_option maxHeartbeats 400000 in
theorem tagParse_not (v : Value) (xs : List Int) (w : World) (hb : Bts w v xs) (hB : Byts xs) (hm : xs.length ≤ 140737488351232) (hE : whE xs 84 ≠ 0) :
   Calls Tryz.prog 108 #[v] w (ParseR w 0 0 0 0 0 false (whE xs 84)) := by
 have W := fun w' hb => whole_any v xs 84 w' hb hB hm
 obtain ⟨ao, cap, b, off, rfl, _⟩ := hb.sform
 generalize whE xs 84 = er at *
 have hE' : (er != 0) = true := by simpa using hE
 have HB := Lib.hid (hb.kept (World.grownBy_alloc w (tagObj 0 0 0 0 0 false) none) (by simp))
 have HM := Lib.hid (tagM_new w 0 0 0 0 0 false)
 generalize whB xs 84 = ys at *
 unfold tagObj ParseR tagV at *
 clear hE hb hB
 go_enter Tryz.func108, Tryz.ntmps108
 go_wp2_with (go_at_call 141; refine (W _ HB.out).mono ?_; rintro e w2 ⟨v2, rfl, hown2, hg2⟩; have hM2 := TagM.kept HM.out hg2 (by simp); have hf := hM2.free; obtain ⟨b0, b1, b2, b3, b4, b5⟩ := hM2.at)
 obtain ⟨hM3, hg3⟩ := tagM_set hM2 0 0 0 0 0 false
 obtain ⟨c0, c1, c2, c3, c4, c5⟩ := hM3.at
 refine bodyPost_ret (v := .tuple #[.agg #[.int .i64 0, .int .i64 0, .int .i64 0, .int .i64 0, .int .i64 0, .bool false], .int .i64 er]) (by simp [results, Tryz.results108, go_sem, c0, c1, c2, c3, c4, c5]) rfl ⟨rfl, ext_ownT (ext_trans (World.grownBy_alloc _ _ none) hg2) hg3 (Nat.le_refl _)⟩
theorem arrM_new (w : World) (a b c d k : Int) : ArrM (w.alloc (arrObj a b c d k)) w.heap.size (nth a b c d k) :=
 ⟨_, heap_alloc_new w _, rfl, fun j hj => by
   have : j = 0 ∨ j = 1 ∨ j = 2 ∨ j = 3 ∨ j = 4 := by omega
   rcases this with rfl | rfl | rfl | rfl | rfl <;> rfl⟩
theorem ArrM.is {w : World} {B : Nat} {u v : Nat → Int} (h : ArrM w B u) (he : ∀ q, q < 5 → u q = v q) : ArrM w B v := by
 obtain ⟨row, h1, h2, h3⟩ := h
 exact ⟨row, h1, h2, fun j hj => by rw [h3 j hj, he j hj]⟩
theorem Flds.own {w w' : World} {B : Nat} (h : Flds w) (hg : w.grownBy w' (some B)) (hB : 0 < B) : Flds w' := h.kept hg (by simp; omega)
theorem told_ext (a b c d k : Int) (p : Bool) (w : World) :
   Calls Tryz.prog 144 #[.agg #[.int .i64 a, .int .i64 b, .int .i64 c, .int .i64 d, .int .i64 k], .bool p] w fun e w' => e = .returned (.agg #[.int .i64 a, .int .i64 b, .int .i64 c, .int .i64 d, .int .i64 k, .bool p]) ∧ Ext w w' :=
 (told_any a b c d k p w).mono fun _ _ ⟨h1, h2⟩ => ⟨h1, h2 ▸ ext_trans (World.grownBy_alloc _ _ none) (World.grownBy_alloc _ _ none)⟩
def Mid (bs : List Int) (w wr : World) (br c B j : Nat) : Prop :=
 RdIs 218 wr br c (rdp bs j).1 (rdp bs j).2 ∧ ArrM wr B (fun q => if q < j then nv bs q else 0) ∧ Flds wr ∧ TagM wr w.heap.size 0 0 0 0 0 false ∧ Ext w wr ∧ w.heap.size < br ∧ br < B ∧ c < B
theorem Mid.next {bs : List Int} {w wr wn : World} {br c B j : Nat} (h : Mid bs w wr br c B j) (hR : RdIs 218 wn br c (rdp bs (j + 1)).1 (rdp bs (j + 1)).2) (hg : wr.grownBy wn (some br)) :
   Mid bs w (wn.setCell ⟨B, j, none⟩ (.int .i64 (nv bs j))) br c B (j + 1) := by
 obtain ⟨h1, h2, h3, h4, h5, h6, h7, h8⟩ := h
 have hs := grown_set wn ⟨B, j, none⟩ (.int .i64 (nv bs j))
 refine ⟨hR.kept hs (by simp; omega) (by simp; omega), ((h2.kept hg (by simp; omega)).set (j := j) (nv bs j)).is (fun q _ => ?_), (h3.own hg (by omega)).own hs (by simp; omega), (h4.kept hg (by simp; omega)).kept hs (by simp; omega), ext_ownT (ext_ownT h5 hg (by omega)) hs (by simp; omega), h6, h7, h8⟩
 by_cases e : q = j
 · subst e; simp
 · by_cases e2 : q < j
   · simp [e, e2, show q < j + 1 by omega]
   · simp [e, e2, show ¬ q < j + 1 by omega]
def ReadyT (bs : List Int) (w wx : World) (br c tb : Nat) : Prop :=
 TagM wx tb (nv bs 0) (nv bs 1) (nv bs 2) (nv bs 3) (nv bs 4) (cpB bs) ∧ RdIs 218 wx br c (lstX bs) (lstE bs) ∧ Flds wx ∧ TagM wx w.heap.size 0 0 0 0 0 false ∧ Ext w wx ∧ tb ≠ br ∧ w.heap.size < tb ∧ w.heap.size < br
theorem gb_own {w w' : World} (h : w.grownBy w' none) (B : Nat) : w.grownBy w' (some B) := ⟨h.os, h.tape, h.output, h.size, fun k hk _ => h.block k hk (by simp)⟩
def Flagged (bs : List Int) (w wf : World) (br c B : Nat) : Prop :=
 RdIs 218 wf br c (lstX bs) (lstE bs) ∧ Flds wf ∧ TagM wf w.heap.size 0 0 0 0 0 false ∧ Ext w wf ∧ w.heap.size < br ∧ br < B ∧ c < B ∧ B < wf.heap.size
theorem Mid.flagged {bs : List Int} {w wr wy wf : World} {br c B : Nat} (h : Mid bs w wr br c B 5) (hy : Ext wr wy) (hg : wy.grownBy wf (some br)) (hR : RdIs 218 wf br c (lstX bs) (lstE bs)) : Flagged bs w wf br c B := by
 obtain ⟨_, h2, h3, h4, h5, h6, h7, h8⟩ := h
 have hl := h2.lt
 have hz1 := hy.size
 have hz2 := hg.size
 exact ⟨hR, (h3.ext hy).own hg (by omega), (h4.kept hy (by simp)).kept hg (by simp; omega), ext_ownT (ext_trans h5 hy) hg (by omega), h6, h7, h8, by omega⟩
theorem Flagged.ready {bs : List Int} {w wf wx : World} {br c B tb : Nat} (h : Flagged bs w wf br c B) (hg : wf.grownBy wx (some tb)) (hB : B < tb)
   (hT : TagM wx tb (nv bs 0) (nv bs 1) (nv bs 2) (nv bs 3) (nv bs 4) (cpB bs)) : ReadyT bs w wx br c tb := by
 obtain ⟨h1, h2, h3, h4, h5, h6, h7, h8⟩ := h
 exact ⟨hT, h1.kept hg (by simp; omega) (by simp; omega), h2.own hg (by omega), h3.kept hg (by simp; omega), ext_ownT h4 hg (by omega), by omega, by omega, h5⟩
set_option maxRecDepth 100000 in
set_option maxHeartbeats 800000 in
theorem tagParse_is (v : Value) (xs bs : List Int) (w : World) (hb : Bts w v xs) (hB : Byts xs) (hm : xs.length ≤ 140737488351232) (hF : Flds w) (hE : whE xs 84 = 0) (hbs : whB xs 84 = bs) :
   Calls Tryz.prog 108 #[v] w (ParseR w (psN xs 0) (psN xs 1) (psN xs 2) (psN xs 3) (psN xs 4) (psP xs) (psE xs)) := by
 have W := fun w' hb => whole_any v xs 84 w' hb hB hm
 have hBb : Byts bs := hbs ▸ whB_byts 84 hB
 have hlb : bs.length ≤ 140737488351232 := by have := whB_len xs 84; rw [hbs] at this; omega
 obtain ⟨ao, cap, b, off, rfl, _⟩ := hb.sform
 have HP := Lib.hid (And.intro hE hbs)
 rw [hE, hbs] at W
 have HB := Lib.hid (hb.kept (World.grownBy_alloc w (tagObj 0 0 0 0 0 false) none) (by simp))
 have HM := Lib.hid (And.intro (tagM_new w 0 0 0 0 0 false) (hF.ext (World.grownBy_alloc w (tagObj 0 0 0 0 0 false) none)))
 unfold tagObj at *
 clear hE hbs hb hB hF
 go_enter Tryz.func108, Tryz.ntmps108
 go_wp2_with (first
   | (go_at_call 141; refine (W _ HB.out).mono ?_; rintro e w2 ⟨v2, rfl, hown2, hg2⟩)
   | (go_at_call 142; refine (read_any _ _ _ (Owns.bts rfl hown2) hlb (HM.out.2.ext hg2).lt).mono ?_; rintro e w3 ⟨br, c, rfl, hR3, hg3, hl1, hl2, hl3⟩))
 have hz2 := hg2.size
 simp at hz2
 have hMid : Mid bs w (w3.alloc (.cells #[.int .i64 0, .int .i64 0, .int .i64 0, .int .i64 0, .int .i64 0] 201)) br c w3.heap.size 0 := by
   have hga := World.grownBy_alloc w3 (.cells #[.int .i64 0, .int .i64 0, .int .i64 0, .int .i64 0, .int .i64 0] 201) none
   have he3 : Ext (w.alloc (.cells #[.int .i64 0, .int .i64 0, .int .i64 0, .int .i64 0, .int .i64 0, .bool false] 106)) w3 := ext_trans hg2 hg3
   refine ⟨hR3.kept hga (by simp) (by simp), (arrM_new w3 0 0 0 0 0).is (fun q hq => ?_), (HM.out.2.ext he3).ext hga, (TagM.kept HM.out.1 he3 (by simp)).kept hga (by simp), ext_trans (ext_trans (World.grownBy_alloc _ _ none) he3) hga, by omega, hl2, by omega⟩
   have : q = 0 ∨ q = 1 ∨ q = 2 ∨ q = 3 ∨ q = 4 := by omega
   rcases this with rfl | rfl | rfl | rfl | rfl <;> rfl
 have HQ := Lib.hid (And.intro hMid hBb)
 clear hMid hBb hg2 hg3 hR3 hl1 hl2 hl3 hz2 hown2 hlb
 go_loopw [21] (fun i wr => ∃ j : Nat, j ≤ 5 ∧ i = .int .i64 j ∧ Mid bs w wr br c w3.heap.size j) (fun i _ => 5 - (intOf i).toNat)
 case atStart => exact ⟨0, by omega, rfl, HQ.out.1⟩
 case round =>
   obtain ⟨j, hj, rfl, hMid⟩ := hrel
   by_cases hlt : j < 5
   · have c1 := (hMid.2.2.1 j hlt).1
     have hRd := hMid.1
     have HMid := Lib.hid hMid
     obtain ⟨s, hs⟩ : ∃ x, fsz j = x := ⟨_, rfl⟩
     have HX := Lib.hid (And.intro (show numX s (rdp bs j).1 (rdp bs j).2 = (rdp bs (j + 1)).1 by rw [← hs]; rfl) (And.intro (show numE s (rdp bs j).1 (rdp bs j).2 = (rdp bs (j + 1)).2 by rw [← hs]; rfl) (show numV s (rdp bs j).1 (rdp bs j).2 = nv bs j by rw [← hs]; rfl)))
     rw [hs] at c1
     clear hMid hs
     go_wp2_with (go_at_call 143; refine (number_is hRd (rdp_byts HQ.out.2 j) HX.out.2.2 HX.out.1 HX.out.2.1).mono ?_; rintro e wn ⟨rfl, hRn, hgn⟩; have hAn := HMid.out.2.1.kept hgn (by have := HMid.out.2.2.2.2.2.2.1; simp; omega); have hcn := hAn.cell hlt; have hfn := hAn.free j)
     go_roundw
     case rel => exact ⟨j + 1, by omega, by go_num, HMid.out.next hRn hgn⟩
     case measure => simp [intOf]; omega
   · have hn : ¬ (j : Int) < 5 := by omega
     rw [show j = 5 by omega] at hMid
     have HMid := Lib.hid hMid
     clear hMid
     go_wp2
     go_cut [9] (fun s9 wx => ∃ tb, s9 = .pointer (some ⟨tb, 0, none⟩) ∧ ReadyT bs w wx br c tb)
     case first =>
       have hA5 : ArrM wr.drew w3.heap.size (nv bs) := (HMid.out.2.1.kept (Ext.drew wr) (by simp)).is (fun q hq => by simp [hq])
       have hRd := HMid.out.1.kept (Ext.drew wr) (by simp) (by simp)
       refine region_tree (.read 0 (.read 1 (.two 2 4 (.two 3 4 (.one 4 (.one 5 .done)) (.one 3 (.one 5 .done))) (.one 2 (.one 3 (.one 5 .done)))))) (fun x => ArrM x w3.heap.size (nv bs)) (by kernel_rfl) (by kernel_rfl) (fun _ _ _ d _ h => by cases d <;> exact h) hA5 ?_
       repeat (refine tree_read (a' := ?_) rfl (by kernel_rfl) (by kernel_rfl) hA5 (fun x hx K hK => ?_) ?_; rotate_left; · have y0 := hx.cell (j := 0) (by decide); have y1 := hx.cell (j := 1) (by decide); have y2 := hx.cell (j := 2) (by decide); have y3 := hx.cell (j := 3) (by decide); have y4 := hx.cell (j := 4) (by decide); go_wp2; exact hK)
       have hBr := HMid.out.2.2.2.2.2.2.1
       refine tree_two ?_ ?_
       · refine tree_one (by rfl) (fun K hK => ?_)
         go_wp2_with (go_at_call 145; refine (flag_is (b := cpB bs) (x1 := lstX bs) (e1 := lstE bs) hRd (rdp_byts HQ.out.2 5) rfl rfl rfl).mono ?_; rintro e wf ⟨rfl, hRf, hgf⟩)
         replace hA5 := hA5.kept hgf (by simp; omega)
         have hF := HMid.out.flagged (Ext.drew wr) hgf hRf
         have hlt5 := hF.2.2.2.2.2.2.2
         refine hK _ _ _ hA5 (fun x hx => hx) ?_
         clear hK K
         refine tree_two ?_ ?_
         · refine tree_one (by rfl) (fun K hK => ?_)
           go_wp2_with (go_at_call 144; refine (told_ext _ _ _ _ _ _ _).mono ?_; rintro e wt ⟨rfl, hgt⟩)
           refine hK _ _ _ (hA5.kept hgt (by simp)) (fun x hx => hx) ?_
           clear hK K
           refine tree_one (by rfl) (fun K hK => ?_)
           go_wp2
           refine hK _ _ (fun x => ArrM x w3.heap.size (nv bs)) ((hA5.kept hgt (by simp)).kept (World.grownBy_alloc _ _ none) (by simp)) (fun x hx => hx) ?_
           clear hK K
           refine tree_one (by rfl) (fun K hK => ?_)
           go_wp2
           have hsz := hgt.size
           have hgx := gb_own (ext_trans hgt (World.grownBy_alloc wt (tagObj (nv bs 0) (nv bs 1) (nv bs 2) (nv bs 3) (nv bs 4) (cpB bs)) none)) wt.heap.size
           have hR := hF.ready hgx (by omega) (tagM_new _ _ _ _ _ _ _)
           refine hK _ _ (fun x => ArrM x w3.heap.size (nv bs)) (hA5.kept hgx (by simp; omega)) (fun x hx => hx) ?_
           clear hK K
           refine tree_end ?_
           go_wp2
           go_meet
           exact ⟨_, rfl, hR⟩
         · refine tree_one (by rfl) (fun K hK => ?_)
           go_wp2
           have hM0 := tagM_new wf 0 0 0 0 0 false
           have hg0 := World.grownBy_alloc wf (tagObj 0 0 0 0 0 false) none
           refine hK _ _ (fun x => ArrM x w3.heap.size (nv bs)) (hA5.kept hg0 (by simp)) (fun x hx => hx) ?_
           clear hK K
           refine tree_one (by rfl) (fun K hK => ?_)
           go_wp2_with (go_at_call 144; refine (told_ext _ _ _ _ _ _ _).mono ?_; rintro e wt ⟨rfl, hgt⟩)
           have hMt := hM0.kept hgt (by simp)
           obtain ⟨z0, z1, z2, z3, z4, z5⟩ := hMt.at
           have hfr := hMt.free
           refine hK _ _ _ (hA5.kept (ext_trans hg0 hgt) (by simp)) (fun x hx => hx) ?_
           clear hK K
           refine tree_one (by rfl) (fun K hK => ?_)
           go_wp2
           obtain ⟨hM9, hg9⟩ := tagM_set hMt (nv bs 0) (nv bs 1) (nv bs 2) (nv bs 3) (nv bs 4) (cpB bs)
           have hgx := grown_trans (gb_own (ext_trans hg0 hgt) wf.heap.size) hg9 (fun k hk _ => hk.symm)
           have hR := hF.ready hgx (by omega) hM9
           refine hK _ _ (fun x => ArrM x w3.heap.size (nv bs)) (hA5.kept hgx (by simp; omega)) (fun x hx => hx) ?_
           clear hK K
           refine tree_end ?_
           go_wp2
           go_meet
           exact ⟨_, rfl, hR⟩
       · refine tree_one (by rfl) (fun K hK => ?_)
         go_wp2
         have hlt0 : w3.heap.size < wr.heap.size := HMid.out.2.1.lt
         have hM0 := tagM_new wr.drew 0 0 0 0 0 false
         have hg0 := World.grownBy_alloc wr.drew (tagObj 0 0 0 0 0 false) none
         refine hK _ _ (fun x => ArrM x w3.heap.size (nv bs)) (hA5.kept hg0 (by simp)) (fun x hx => hx) ?_
         clear hK K
         refine tree_one (by rfl) (fun K hK => ?_)
         go_wp2_with (go_at_call 145; refine (flag_is (b := cpB bs) (x1 := lstX bs) (e1 := lstE bs) (hRd.kept hg0 (by simp) (by simp)) (rdp_byts HQ.out.2 5) rfl rfl rfl).mono ?_; rintro e wf ⟨rfl, hRf, hgf⟩)
         have hF := HMid.out.flagged (ext_trans (Ext.drew wr) hg0) hgf hRf
         have hlt5 := hF.2.2.2.2.2.2.2
         replace hA5 := (hA5.kept hg0 (by simp)).kept hgf (by simp; omega)
         refine hK _ _ (fun x => ArrM x w3.heap.size (nv bs)) hA5 (fun x hx => hx) ?_
         clear hK K
         refine tree_one (by rfl) (fun K hK => ?_)
         go_wp2_with (go_at_call 144; refine (told_ext _ _ _ _ _ _ _).mono ?_; rintro e wt ⟨rfl, hgt⟩)
         have hMt : TagM wt wr.heap.size 0 0 0 0 0 false := (hM0.kept hgf (fun h => by have e : wr.heap.size = br := Option.some.inj h; omega)).kept hgt (by simp)
         obtain ⟨z0, z1, z2, z3, z4, z5⟩ := hMt.at
         have hfr := hMt.free
         refine hK _ _ _ (hA5.kept hgt (by simp)) (fun x hx => hx) ?_
         clear hK K
         refine tree_one (by rfl) (fun K hK => ?_)
         go_wp2
         obtain ⟨hM9, hg9⟩ := tagM_set hMt (nv bs 0) (nv bs 1) (nv bs 2) (nv bs 3) (nv bs 4) (cpB bs)
         have hgx := grown_trans (gb_own hgt wr.heap.size) hg9 (fun k hk _ => hk.symm)
         have hR := hF.ready hgx (by omega) hM9
         refine hK _ _ (fun x => ArrM x w3.heap.size (nv bs)) (hA5.kept hgx (by simp; omega)) (fun x hx => hx) ?_
         clear hK K
         refine tree_end ?_
         go_wp2
         go_meet
         exact ⟨_, rfl, hR⟩
     case rest =>
       obtain ⟨tb, rfl, hRy⟩ := hcut
       have HR := Lib.hid hRy
       have Rt := fun x hx => right_any (nv bs 0) (nv bs 1) (nv bs 2) (nv bs 3) (nv bs 4) (cpB bs) x hx
       unfold tagV at Rt
       have HO := Lib.hid (show psE xs = if bodyOk bs then 0 else 2 by unfold psE; rw [if_pos HP.out.1, HP.out.2])
       have HB0 := Lib.hid (show bodyOk bs = (decide (dnE bs = 0) && okB (nv bs 0) (nv bs 1) (nv bs 2) (nv bs 3) (nv bs 4)) from rfl)
       have hd : doneE (lstX bs) (lstE bs) = dnE bs := rfl
       have HD := Lib.hid hd
       clear hd hRy
       by_cases h0 : dnE bs = 0
       · have HD0 := Lib.hid (HD.out.trans h0)
         cases hok : okB (nv bs 0) (nv bs 1) (nv bs 2) (nv bs 3) (nv bs 4)
         · rw [hok] at Rt
           have HE := Lib.hid (show psE xs = 2 by rw [HO.out, HB0.out, hok]; simp)
           clear h0
           go_wp2_with (first
             | (go_at_call 146; refine (done_is HR.out.2.1 HD0.out).mono ?_; rintro e wd ⟨rfl, hRd, hgd⟩; have hTd := HR.out.1.kept hgd (by have := HR.out.2.2.2.2.2.1; simp; omega); obtain ⟨t0, t1, t2, t3, t4, t5⟩ := hTd.at)
             | (go_at_call 147; refine (Rt _ (HR.out.2.2.1.own hgd (by have := HR.out.2.2.2.2.2.2.2; omega))).mono ?_; rintro e wq ⟨rfl, hgq⟩; have hMq := (HR.out.2.2.2.1.kept hgd (by have := HR.out.2.2.2.2.2.2.2; simp; omega)).kept hgq (by simp); have hfq := hMq.free; obtain ⟨z0, z1, z2, z3, z4, z5⟩ := hMq.at))
           obtain ⟨hM3, hg3⟩ := tagM_set hMq 0 0 0 0 0 false
           obtain ⟨c0, c1, c2, c3, c4, c5⟩ := hM3.at
           have hX := ext_ownT (ext_trans (ext_ownT HR.out.2.2.2.2.1 hgd (by have := HR.out.2.2.2.2.2.2.2; omega)) hgq) hg3 (Nat.le_refl _)
           have e2 := HE.out
           refine bodyPost_ret (v := .tuple #[.agg #[.int .i64 0, .int .i64 0, .int .i64 0, .int .i64 0, .int .i64 0, .bool false], .int .i64 2]) (by simp [results, Tryz.results108, go_sem, c0, c1, c2, c3, c4, c5]) rfl ⟨?_, hX⟩
           simp [psN, psP, e2, tagV]
         · rw [hok] at Rt
           have HE := Lib.hid (show psE xs = 0 by rw [HO.out, HB0.out, hok]; simp [h0])
           clear h0
           go_wp2_with (first
             | (go_at_call 146; refine (done_is HR.out.2.1 HD0.out).mono ?_; rintro e wd ⟨rfl, hRd, hgd⟩; have hTd := HR.out.1.kept hgd (by have := HR.out.2.2.2.2.2.1; simp; omega); obtain ⟨t0, t1, t2, t3, t4, t5⟩ := hTd.at)
             | (go_at_call 147; refine (Rt _ (HR.out.2.2.1.own hgd (by have := HR.out.2.2.2.2.2.2.2; omega))).mono ?_; rintro e wq ⟨rfl, hgq⟩; have hMq := (HR.out.2.2.2.1.kept hgd (by have := HR.out.2.2.2.2.2.2.2; simp; omega)).kept hgq (by simp); have hfq := hMq.free; obtain ⟨z0, z1, z2, z3, z4, z5⟩ := hMq.at; obtain ⟨t0, t1, t2, t3, t4, t5⟩ := (hTd.kept hgq (by simp)).at))
           obtain ⟨hM3, hg3⟩ := tagM_set hMq (nv bs 0) (nv bs 1) (nv bs 2) (nv bs 3) (nv bs 4) (cpB bs)
           obtain ⟨c0, c1, c2, c3, c4, c5⟩ := hM3.at
           have hX := ext_ownT (ext_trans (ext_ownT HR.out.2.2.2.2.1 hgd (by have := HR.out.2.2.2.2.2.2.2; omega)) hgq) hg3 (Nat.le_refl _)
           have e2 := HE.out
           refine bodyPost_ret (v := .tuple #[.agg #[.int .i64 (nv bs 0), .int .i64 (nv bs 1), .int .i64 (nv bs 2), .int .i64 (nv bs 3), .int .i64 (nv bs 4), .bool (cpB bs)], .int .i64 0]) (by simp [results, Tryz.results108, go_sem, c0, c1, c2, c3, c4, c5]) rfl ⟨?_, hX⟩
           simp [psN, psP, e2, tagV, HP.out.2]
       · have HE := Lib.hid (show psE xs = 2 by rw [HO.out, HB0.out]; simp [h0])
         have hn0 : (dnE bs != 0) = true := by simpa using h0
         clear h0
         go_wp2_with (go_at_call 146; refine (done_is HR.out.2.1 HD.out).mono ?_; rintro e wd ⟨rfl, hRd, hgd⟩; have hMq := HR.out.2.2.2.1.kept hgd (by have := HR.out.2.2.2.2.2.2.2; simp; omega); have hfq := hMq.free; obtain ⟨z0, z1, z2, z3, z4, z5⟩ := hMq.at)
         obtain ⟨hM3, hg3⟩ := tagM_set hMq 0 0 0 0 0 false
         obtain ⟨c0, c1, c2, c3, c4, c5⟩ := hM3.at
         have hX := ext_ownT (ext_ownT HR.out.2.2.2.2.1 hgd (by have := HR.out.2.2.2.2.2.2.2; omega)) hg3 (Nat.le_refl _)
         have e2 := HE.out
         refine bodyPost_ret (v := .tuple #[.agg #[.int .i64 0, .int .i64 0, .int .i64 0, .int .i64 0, .int .i64 0, .bool false], .int .i64 2]) (by simp [results, Tryz.results108, go_sem, c0, c1, c2, c3, c4, c5]) rfl ⟨?_, hX⟩
         simp [psN, psP, e2, tagV]
theorem tagParse_any (v : Value) (xs : List Int) (w : World) (hb : Bts w v xs) (hB : Byts xs) (hm : xs.length ≤ 140737488351232) (hF : Flds w) :
   Calls Tryz.prog 108 #[v] w (ParseR w (psN xs 0) (psN xs 1) (psN xs 2) (psN xs 3) (psN xs 4) (psP xs) (psE xs)) := by
 by_cases h : whE xs 84 = 0
 · exact tagParse_is v xs _ w hb hB hm hF h rfl
 · have e : psE xs = whE xs 84 := by unfold psE; rw [if_neg h]
   have := tagParse_not v xs w hb hB hm h
   simp only [psN, psP, e, if_neg h]
   exact this
end Go.Proofs.YtdnpdoipipfkoaaGreatDoor

namespace Go.Proofs.YtdnpdoipipfkoaaGreatDoor
set_option linter.unusedVariables false
set_option linter.unusedSimpArgs false
set_option linter.unusedVariables false
set_option linter.unusedSimpArgs false
set_option maxRecDepth 100000
open Go.RowKit
def tornF (bk pg : Int) : Fnd := ⟨bk, pg, true, 0, 0, 0, 0, 0, false, ⟨#[]⟩⟩
def blankF (bk pg : Int) : Fnd := ⟨bk, pg, false, 0, 0, 0, 0, 0, false, ⟨#[]⟩⟩
def fndOf (bk pg : Int) (bs : List Int) (dt : ByteArray) : Fnd := if psE bs = 0 then ⟨bk, pg, false, psN bs 0, psN bs 1, psN bs 2, psN bs 3, psN bs 4, psP bs, dt⟩ else tornF bk pg
def findF (S : NShape) (s : NS) (n m bk : Int) : Fnd := if readE S s n m = 11 then tornF bk m else if readE S s n m = 0 then fndOf bk m (s.L n.toNat m.toNat).bs (s.L n.toNat m.toNat).dt else noF
def findE (S : NShape) (s : NS) (n m : Int) : Int := if readE S s n m = 11 then 0 else readE S s n m
def FoundP (w : World) (f : Fnd) (er : Int) (e : Ending) (w' : World) : Prop := e = .returned (.tuple #[.agg (fndC f), .int .i64 er]) ∧ w.grownBy w' none
def tgC (a b c d k : Int) (p : Bool) : Array Value := #[.int .i64 a, .int .i64 b, .int .i64 c, .int .i64 d, .int .i64 k, .bool p]
section
variable {ops : Array Oper} {rest : List Oper} {o : Oper} {a : Act} {w : World} {Q : Exit → Act → World → Prop}
theorem fnd_read (hwt : Region.wanted o (yielded ops a.tmps) = true) (x : Operand) (ho : o.op = .load 108 x) {g : Nat} (hx : a.eval x = .pointer (some ⟨g, 0, none⟩)) {f : Fnd} (hg : Blk w g 108 (fndC f))
   (h : wpList Tryz.prog ops Q rest (a.put o.dst (.agg (fndC f))) w) : wpList Tryz.prog ops Q (o :: rest) a w :=
 wpList_load_part hwt _ x ho g 0 10 hx _ _ _ _ _ hg (show (fndC f).extract 0 (0 + 10) = fndC f from rfl) rfl Tryz.underlying108 rfl Tryz.sizeFnd h
theorem tg_read (hwt : Region.wanted o (yielded ops a.tmps) = true) (x : Operand) (ho : o.op = .load 106 x) {g : Nat} (hx : a.eval x = .pointer (some ⟨g, 0, none⟩)) {b c d k q : Int} {p : Bool} (hg : Blk w g 106 (tgC b c d k q p))
   (h : wpList Tryz.prog ops Q rest (a.put o.dst (.agg (tgC b c d k q p))) w) : wpList Tryz.prog ops Q (o :: rest) a w :=
 wpList_load_part hwt _ x ho g 0 6 hx _ _ _ _ _ hg (show (tgC b c d k q p).extract 0 (0 + 6) = tgC b c d k q p from rfl) rfl Tryz.underlying106 rfl Tryz.sizeTag17 h
theorem tg_store (x y : Operand) (ho : o.op = .store 106 x y) {g : Nat} (hx : a.eval x = .pointer (some ⟨g, 0, none⟩)) {b c d k q : Int} {p : Bool} (hy : a.eval y = .agg (tgC b c d k q p)) {old : Array Value} (hg : Blk w g 106 old) (hold : old.size = 6) (hwt : Region.wanted o (yielded ops a.tmps) = true)
   (h : ∀ w', Blk w' g 106 (tgC b c d k q p) → w.grownBy w' (some g) → w'.heap.size = w.heap.size → wpList Tryz.prog ops Q rest (a.put o.dst undef) w') : wpList Tryz.prog ops Q (o :: rest) a w :=
 wpList_store_part hwt _ x y ho g 0 6 _ hx hy _ old _ hg rfl Tryz.sizeTag17 (by omega) (by simp [tgC, Value.oneCell']) (by
   have h1 : (tgC b c d k q p).toList.length = 6 := rfl
   rw [h1, List.drop_of_length_le (by simp; omega)]
   simp) h
theorem fnd_tag (x y : Operand) (ho : o.op = .store 106 x y) {g : Nat} (hx : a.eval x = .pointer (some ⟨g, 3, none⟩)) {b c d k q : Int} {p : Bool} (hy : a.eval y = .agg (tgC b c d k q p)) {f : Fnd} (hg : Blk w g 108 (fndC f)) (hwt : Region.wanted o (yielded ops a.tmps) = true)
   (h : ∀ w', Blk w' g 108 (fndC ⟨f.bk, f.pg, f.torn, b, c, d, k, q, p, f.dt⟩) → w.grownBy w' (some g) → w'.heap.size = w.heap.size → wpList Tryz.prog ops Q rest (a.put o.dst undef) w') : wpList Tryz.prog ops Q (o :: rest) a w :=
 wpList_store_part hwt _ x y ho g 3 6 _ hx hy _ (fndC f) _ hg rfl Tryz.sizeTag17 (by simp [fndC]) (by simp [tgC, Value.oneCell']) rfl h
end
theorem fnd_torn {w : World} {g : Nat} {f : Fnd} (h : Blk w g 108 (fndC f)) : Blk (w.setCell ⟨g, 2, none⟩ (.bool true)) g 108 (fndC ⟨f.bk, f.pg, true, f.te, f.ep, f.pl, f.sq, f.kd, f.cp, f.dt⟩) := h.set 2 _
theorem fnd_data {w : World} {g : Nat} {f : Fnd} (h : Blk w g 108 (fndC f)) (dt : ByteArray) : Blk (w.setCell ⟨g, 9, none⟩ (.string dt)) g 108 (fndC ⟨f.bk, f.pg, f.torn, f.te, f.ep, f.pl, f.sq, f.kd, f.cp, dt⟩) := h.set 9 _
structure Two16 (w : World) (f : Fnd) (x : World) : Prop where
 r : Blk x w.heap.size 108 (fndC noF)
 f : Blk x (w.heap.size + 1) 108 (fndC f)
 ext : w.grownBy x none
theorem Two16.later {w x y : World} {f : Fnd} (h : Two16 w f x) (hg : x.grownBy y none) : Two16 w f y := ⟨h.r.ext hg, h.f.ext hg, ext_trans h.ext hg⟩
theorem Two16.turned {w x y : World} {f g : Fnd} (h : Two16 w f x) (hg : x.grownBy y (some (w.heap.size + 1))) (hb : Blk y (w.heap.size + 1) 108 (fndC g)) : Two16 w g y :=
 ⟨h.r.kept hg (fun e => by injection e with e; omega), hb, g17_new h.ext hg (by omega)⟩
theorem Two16.torn {w x : World} {f : Fnd} (h : Two16 w f x) : Two16 w ⟨f.bk, f.pg, true, f.te, f.ep, f.pl, f.sq, f.kd, f.cp, f.dt⟩ (x.setCell ⟨w.heap.size + 1, 2, none⟩ (.bool true)) := h.turned (grown_set _ _ _) (fnd_torn h.f)
theorem Two16.data {w x : World} {f : Fnd} (h : Two16 w f x) (dt : ByteArray) : Two16 w ⟨f.bk, f.pg, f.torn, f.te, f.ep, f.pl, f.sq, f.kd, f.cp, dt⟩ (x.setCell ⟨w.heap.size + 1, 9, none⟩ (.string dt)) := h.turned (grown_set _ _ _) (fnd_data h.f dt)
theorem two16 (w : World) : Two16 w noF ((w.alloc (.cells (fndC noF) 108)).alloc (.cells (fndC noF) 108)) :=
 ⟨(Blk.new w _ _).alloc _, Blk.newAt _ _ (by simp) _ _, grown_alloc (World.grownBy_alloc w _ none) _⟩
section
variable {w : World} {S : NShape} {V : Nat → Value} {zs : Nat → List Int} {s : NS}
set_option maxHeartbeats 1600000 in
theorem find16_any (h : NandAt w S V zs s) (hR : Roles S) (hF : Flds w) (hB : ∀ i j, Byts (s.L i j).bs) (hbs : ∀ i j, (s.L i j).bs.length ≤ 140737488351232) (v : Value) (bl : List Int) (hv : Ints w v bl) (hl : bl.length ≤ 9223372036854775807) (i : Nat) (hi : i < bl.length) (m : Int) :
   Calls Tryz.prog 75 #[.pointer (some ⟨S.nb, 0, none⟩), v, .int .i64 i, .int .i64 m] w (FoundP w (findF S s (bl.getD i 0) m i) (findE S s (bl.getD i 0) m)) := by
 obtain ⟨ao, cap, b, off, rfl, hc⟩ := hv.form
 obtain ⟨rfl, hcell⟩ := hc i hi
 obtain ⟨n, hn⟩ : ∃ z, bl.getD i 0 = z := ⟨_, rfl⟩
 rw [hn] at hcell ⊢
 obtain ⟨nl, hnl⟩ : ∃ z, bl.length = z := ⟨_, rfl⟩
 rw [hnl] at hi hl ⊢
 clear hc hv hn hnl
 have RD := fun wx (hE : w.grownBy wx none) => read7_any (h.ext hE hR) hR n m hbs
 have HTW := Lib.hid (two16 w)
 have HF := Lib.hid hF
 unfold findF findE
 clear hF
 by_cases e11 : readE S s n m = 11
 · rw [if_pos e11, if_pos e11]
   have RD11 := fun wx (hE : w.grownBy wx none) => (RD wx hE).mono (fun e w' (hh : Reads S s n m wx e w') => (show ReadsNot 11 wx e w' from by
     rcases hh with ⟨_, h2⟩ | ⟨h1, _⟩
     · rw [e11] at h2; exact h2
     · rw [e11] at h1; cases h1))
   have HC := Lib.hid hcell
   clear RD h hbs hB e11 hcell
   have hcell := HTW.out.ext.cell HC.out (by simp)
   have hT0 := HTW.out.f
   go_enter Tryz.func75, Tryz.ntmps75
   go_wp2_with (first
     | (refine fnd_store (f := blankF i m) _ _ rfl rfl rfl hT0 rfl rfl ?_; intro w2 hb2 hg2 hs2; have HT2 := Lib.hid (HTW.out.turned hg2 hb2); have hcell2 := HT2.out.ext.cell HC.out (by simp); clear hb2 hg2 hs2)
     | (go_at_call 107; refine (RD11 _ HT2.out.ext).mono ?_; rintro e w3 ⟨rfl, hg3⟩; have HT3 := Lib.hid (HT2.out.later hg3); have hq := HT3.out.f.cell 2; have hqf := HT3.out.f.free 2; have hb3 := HT3.out.torn.f; have hr3 := HT3.out.torn.r)
     | (refine fnd_read rfl _ rfl rfl hb3 ?_)
     | (refine fnd_store (f := tornF i m) _ _ rfl rfl rfl hr3 rfl rfl ?_; intro w4 hb4 hg4 hs4; have HG4 := Lib.hid (g17_new HT3.out.torn.ext hg4 (Nat.le_refl _)); have HB4 := Lib.hid hb4; have c0 := hb4.cell 0; have c1 := hb4.cell 1; have c2 := hb4.cell 2; have c3 := hb4.cell 3; have c4 := hb4.cell 4; have c5 := hb4.cell 5; have c6 := hb4.cell 6; have c7 := hb4.cell 7; have c8 := hb4.cell 8; have c9 := hb4.cell 9; simp [fndC, tornF] at c0 c1 c2 c3 c4 c5 c6 c7 c8 c9; clear hb4 hg4))
   refine bodyPost_ret (v := .tuple #[.agg (fndC (tornF i m)), .int .i64 0]) (by simp [results, Tryz.results75, go_sem, fndC, tornF, c0, c1, c2, c3, c4, c5, c6, c7, c8, c9]) rfl ⟨rfl, HG4.out⟩
 · rw [if_neg e11, if_neg e11]
   by_cases e0 : readE S s n m = 0
   · rw [if_pos e0, e0]
     obtain ⟨bs, hbsv⟩ : ∃ z, (s.L n.toNat m.toNat).bs = z := ⟨_, rfl⟩
     obtain ⟨dt, hdtv⟩ : ∃ z, (s.L n.toNat m.toNat).dt = z := ⟨_, rfl⟩
     have hBy := hB n.toNat m.toNat
     have hLn := hbs n.toNat m.toNat
     rw [hbsv] at hBy hLn ⊢
     rw [hdtv]
     have RD0 := fun wx (hE : w.grownBy wx none) => (RD wx hE).mono (fun e w' (hh : Reads S s n m wx e w') => (show ReadsPg bs dt wx e w' from by
       rcases hh with ⟨h1, _⟩ | ⟨_, h2⟩
       · exact absurd e0 h1
       · rw [hbsv, hdtv] at h2; exact h2))
     have PS := fun (x : World) (ao : Option Addr) (cap : Nat) (hb : Bts x (.slice ao bs.length cap) bs) (hF : Flds x) => tagParse_any _ bs x hb hBy hLn hF
     have hps : psE bs ≠ 0 → psP bs = false ∧ ∀ j, psN bs j = 0 := fun h => ⟨by unfold psP; rw [if_neg h], fun j => by unfold psN; rw [if_neg h]⟩
     unfold fndOf
     have HC := Lib.hid hcell
     clear RD h hbs hB e11 hcell e0 hbsv hdtv hBy hLn
     have hcell := HTW.out.ext.cell HC.out (by simp)
     have hT0 := HTW.out.f
     by_cases hp : psE bs = 0
     · rw [if_pos hp]
       rw [hp] at PS
       obtain ⟨t0, h0⟩ : ∃ z, psN bs 0 = z := ⟨_, rfl⟩
       obtain ⟨t1, h1⟩ : ∃ z, psN bs 1 = z := ⟨_, rfl⟩
       obtain ⟨t2, h2⟩ : ∃ z, psN bs 2 = z := ⟨_, rfl⟩
       obtain ⟨t3, h3⟩ : ∃ z, psN bs 3 = z := ⟨_, rfl⟩
       obtain ⟨t4, h4⟩ : ∃ z, psN bs 4 = z := ⟨_, rfl⟩
       obtain ⟨t5, h5⟩ : ∃ z, psP bs = z := ⟨_, rfl⟩
       rw [h0, h1, h2, h3, h4, h5] at PS ⊢
       clear hps hp h0 h1 h2 h3 h4 h5
       obtain ⟨ln, hln⟩ : ∃ z, bs.length = z := ⟨_, rfl⟩
       unfold ReadsPg at RD0
       unfold ParseR tagV at PS
       rw [hln] at PS RD0
       clear hln
       go_enter Tryz.func75, Tryz.ntmps75
       go_wp2_with (first
         | (refine fnd_store (f := blankF i m) _ _ rfl rfl rfl hT0 rfl rfl ?_; intro w2 hb2 hg2 hs2; have HT2 := Lib.hid (HTW.out.turned hg2 hb2); have hcell2 := HT2.out.ext.cell HC.out (by simp); clear hb2 hg2 hs2)
         | (go_at_call 107; refine (RD0 _ HT2.out.ext).mono ?_; rintro e w3 ⟨a3, cp3, rfl, hbt, hg3, _⟩; have HT3 := Lib.hid (HT2.out.later hg3); have hF3 := HF.out.ext HT3.out.ext)
         | (go_at_call 108; refine (PS w3 a3 cp3 hbt hF3).mono ?_; rintro e w4 ⟨rfl, hg4⟩; have hBt := Blk.new w4 106 (tgC 0 0 0 0 0 false); have HT4 := Lib.hid ((HT3.out.later hg4).later (World.grownBy_alloc w4 (.cells (tgC 0 0 0 0 0 false) 106) none)); have hlt4 : w.heap.size + 1 < w4.heap.size := (HT3.out.later hg4).f.lt; clear hbt hF3)
         | (refine tg_store (b := t0) (c := t1) (d := t2) (k := t3) (q := t4) (p := t5) _ _ rfl rfl rfl hBt rfl rfl ?_; intro w5 hb5 hg5 hs5; have HT5 := Lib.hid (show Two16 w (blankF i m) w5 from ⟨HT4.out.r.kept hg5 (fun e => by injection e with e; omega), HT4.out.f.kept hg5 (fun e => by injection e with e; omega), g17_new HT4.out.ext hg5 (by omega)⟩); have hf5 := HT5.out.f; clear hg5 hs5)
         | (refine tg_read rfl _ rfl rfl hb5 ?_)
         | (refine fnd_tag (b := t0) (c := t1) (d := t2) (k := t3) (q := t4) (p := t5) _ _ rfl rfl rfl hf5 rfl ?_; intro w6 hb6 hg6 hs6; have HT6 := Lib.hid (HT5.out.turned hg6 hb6); have hq := HT6.out.f.cell 9; have hqf := HT6.out.f.free 9; have hb7 := (HT6.out.data dt).f; have hr7 := (HT6.out.data dt).r; clear hb6 hg6 hs6)
         | (refine fnd_read rfl _ rfl rfl hb7 ?_)
         | (refine fnd_store (f := ⟨i, m, false, t0, t1, t2, t3, t4, t5, dt⟩) _ _ rfl rfl rfl hr7 rfl rfl ?_; intro w8 hb8 hg8 hs8; have HG8 := Lib.hid (g17_new (HT6.out.data dt).ext hg8 (Nat.le_refl _)); have c0 := hb8.cell 0; have c1 := hb8.cell 1; have c2 := hb8.cell 2; have c3 := hb8.cell 3; have c4 := hb8.cell 4; have c5 := hb8.cell 5; have c6 := hb8.cell 6; have c7 := hb8.cell 7; have c8 := hb8.cell 8; have c9 := hb8.cell 9; simp [fndC] at c0 c1 c2 c3 c4 c5 c6 c7 c8 c9; clear hb8 hg8))
       refine bodyPost_ret (v := .tuple #[.agg (fndC ⟨i, m, false, t0, t1, t2, t3, t4, t5, dt⟩), .int .i64 0]) (by simp [results, Tryz.results75, go_sem, fndC, c0, c1, c2, c3, c4, c5, c6, c7, c8, c9]) rfl ⟨rfl, HG8.out⟩
     · rw [if_neg hp]
       obtain ⟨er, her⟩ : ∃ z, psE bs = z := ⟨_, rfl⟩
       obtain ⟨g5, gz⟩ := hps hp
       rw [g5, gz, gz, gz, gz, gz, her] at PS
       have hp' : (er != 0) = true := by rw [← her]; simpa using hp
       obtain ⟨ln, hln⟩ : ∃ z, bs.length = z := ⟨_, rfl⟩
       unfold ReadsPg at RD0
       unfold ParseR tagV at PS
       rw [hln] at PS RD0
       clear hln hps hp her g5 gz
       go_enter Tryz.func75, Tryz.ntmps75
       go_wp2_with (first
         | (refine fnd_store (f := blankF i m) _ _ rfl rfl rfl hT0 rfl rfl ?_; intro w2 hb2 hg2 hs2; have HT2 := Lib.hid (HTW.out.turned hg2 hb2); have hcell2 := HT2.out.ext.cell HC.out (by simp); clear hb2 hg2 hs2)
         | (go_at_call 107; refine (RD0 _ HT2.out.ext).mono ?_; rintro e w3 ⟨a3, cp3, rfl, hbt, hg3, _⟩; have HT3 := Lib.hid (HT2.out.later hg3); have hF3 := HF.out.ext HT3.out.ext)
         | (go_at_call 108; refine (PS w3 a3 cp3 hbt hF3).mono ?_; rintro e w4 ⟨rfl, hg4⟩; have hBt := Blk.new w4 106 (tgC 0 0 0 0 0 false); have HT4 := Lib.hid ((HT3.out.later hg4).later (World.grownBy_alloc w4 (.cells (tgC 0 0 0 0 0 false) 106) none)); have hlt4 : w.heap.size + 1 < w4.heap.size := (HT3.out.later hg4).f.lt; clear hbt hF3)
         | (refine tg_store (b := 0) (c := 0) (d := 0) (k := 0) (q := 0) (p := false) _ _ rfl rfl rfl hBt rfl rfl ?_; intro w5 hb5 hg5 hs5; have HT5 := Lib.hid (show Two16 w (blankF i m) w5 from ⟨HT4.out.r.kept hg5 (fun e => by injection e with e; omega), HT4.out.f.kept hg5 (fun e => by injection e with e; omega), g17_new HT4.out.ext hg5 (by omega)⟩); have hq := HT5.out.f.cell 2; have hqf := HT5.out.f.free 2; have hb7 := HT5.out.torn.f; have hr7 := HT5.out.torn.r; clear hg5 hs5)
         | (refine fnd_read rfl _ rfl rfl hb7 ?_)
         | (refine fnd_store (f := tornF i m) _ _ rfl rfl rfl hr7 rfl rfl ?_; intro w8 hb8 hg8 hs8; have HG8 := Lib.hid (g17_new HT5.out.torn.ext hg8 (Nat.le_refl _)); have c0 := hb8.cell 0; have c1 := hb8.cell 1; have c2 := hb8.cell 2; have c3 := hb8.cell 3; have c4 := hb8.cell 4; have c5 := hb8.cell 5; have c6 := hb8.cell 6; have c7 := hb8.cell 7; have c8 := hb8.cell 8; have c9 := hb8.cell 9; simp [fndC, tornF] at c0 c1 c2 c3 c4 c5 c6 c7 c8 c9; clear hb8 hg8))
       refine bodyPost_ret (v := .tuple #[.agg (fndC (tornF i m)), .int .i64 0]) (by simp [results, Tryz.results75, go_sem, fndC, tornF, c0, c1, c2, c3, c4, c5, c6, c7, c8, c9]) rfl ⟨rfl, HG8.out⟩
   · rw [if_neg e0]
     obtain ⟨er, her⟩ : ∃ z, readE S s n m = z := ⟨_, rfl⟩
     have RDn := fun wx (hE : w.grownBy wx none) => (RD wx hE).mono (fun e w' (hh : Reads S s n m wx e w') => (show ReadsNot er wx e w' from by
       rcases hh with ⟨_, h2⟩ | ⟨h1, _⟩
       · rw [her] at h2; exact h2
       · exact absurd h1 e0))
     rw [her] at e11 e0 ⊢
     have q1 : (er == 11) = false := by simpa using e11
     have q2 : (er != 0) = true := by simpa using e0
     have HC := Lib.hid hcell
     clear RD h hbs hB e11 e0 her hcell
     have hcell := HTW.out.ext.cell HC.out (by simp)
     have hT0 := HTW.out.f
     go_enter Tryz.func75, Tryz.ntmps75
     go_wp2_with (first
       | (refine fnd_store (f := blankF i m) _ _ rfl rfl rfl hT0 rfl rfl ?_; intro w2 hb2 hg2 hs2; have HT2 := Lib.hid (HTW.out.turned hg2 hb2); have hcell2 := HT2.out.ext.cell HC.out (by simp); clear hb2 hg2 hs2)
       | (go_at_call 107; refine (RDn _ HT2.out.ext).mono ?_; rintro e w3 ⟨rfl, hg3⟩; have HT3 := Lib.hid (HT2.out.later hg3); have hr3 := HT3.out.r)
       | (refine fnd_store (f := noF) _ _ rfl rfl rfl hr3 rfl rfl ?_; intro w4 hb4 hg4 hs4; have HG4 := Lib.hid (g17_new HT3.out.ext hg4 (Nat.le_refl _)); have c0 := hb4.cell 0; have c1 := hb4.cell 1; have c2 := hb4.cell 2; have c3 := hb4.cell 3; have c4 := hb4.cell 4; have c5 := hb4.cell 5; have c6 := hb4.cell 6; have c7 := hb4.cell 7; have c8 := hb4.cell 8; have c9 := hb4.cell 9; simp [fndC, noF] at c0 c1 c2 c3 c4 c5 c6 c7 c8 c9; clear hb4 hg4))
     refine bodyPost_ret (v := .tuple #[.agg (fndC noF), .int .i64 er]) (by simp [results, Tryz.results75, go_sem, fndC, noF, c0, c1, c2, c3, c4, c5, c6, c7, c8, c9]) rfl ⟨rfl, HG4.out⟩
end
end Go.Proofs.YtdnpdoipipfkoaaGreatDoor

namespace Go.Proofs.YtdnpdoipipfkoaaGreatDoor
set_option linter.unusedVariables false
set_option linter.unusedSimpArgs false
set_option linter.unusedVariables false
set_option linter.unusedSimpArgs false
set_option maxRecDepth 100000
open Go.RowKit
def cntB (B tn ep sz : Int) (f : Fnd) : Bool := decide (0 ≤ f.bk) && (decide (f.bk < B) && (mineF tn ep f && decide (f.pl < sz)))
def cntL (B tn ep sz : Int) (L : List Fnd) : List Fnd := L.filter (cntB B tn ep sz)
theorem take17 {L : List Fnd} {k : Nat} {f : Fnd} (hk : k < L.length) (hf : L.getD k noF = f) : L.take (k + 1) = L.take k ++ [f] := by
 rw [List.take_add_one, List.getElem?_eq_getElem hk]
 rw [List.getD_eq_getElem?_getD, List.getElem?_eq_getElem hk] at hf
 have h2 : L[k] = f := hf
 rw [h2]
 rfl
section
variable {ops : Array Oper} {rest : List Oper} {o : Oper} {a : Act} {w : World} {Q : Exit → Act → World → Prop}
theorem append_fnd (hgd : o.guard = none) (s x : Operand) (ho : o.op = .call { callee := .builtin .append, args := #[s, x], argTypes := #[93, 93] }) (base : Nat) (v : Value) (row : List Fnd) (n : Nat) (hn : row.length = n) (hs : a.eval s = v) (hown : w.ownsRow base 108 10 v n (fndsL row))
   (ad : Addr) (cap : Nat) (f : Fnd) (hx : a.eval x = .slice (some ad) 1 cap) (hc : ∀ j u, (fndC f).toList[j]? = some u → w.cell? (ad.add j) = some u) (h63 : n ≤ 1000000) (hbase : base ≤ w.heap.size)
   (h : ∀ v' w', w'.ownsRow base 108 10 v' (n + 1) (fndsL (row ++ [f])) → w.grownBy w' v.ownBlock → wpList Tryz.prog ops Q rest (a.put o.dst v') w') : wpList Tryz.prog ops Q (o :: rest) a w := by
 obtain ⟨i0, hi, hz0, hz1, hz2⟩ := info_parts Tryz.infoFnd
 refine wpList_append_own w hgd s x 93 ho base 108 i0 _ 10 88 Tryz.underlying93 hi hz0 hz1 hz2 rfl (by decide) v n _ hs hown ad 1 cap (fndC f).toList hx rfl hc (by simp [fndC, Value.oneCell']) (by unfold maxLen; omega) (by omega) hbase ?_
 intro v' w' h1 h2 _
 exact h v' w' (by rw [fndsL_snoc]; exact h1) h2
end
theorem fnd_new (w : World) (f : Fnd) (T : TypeId) : ∀ j u, (fndC f).toList[j]? = some u → (w.alloc (.cells #[.int .i64 f.bk, .int .i64 f.pg, .bool f.torn, .int .i64 f.te, .int .i64 f.ep, .int .i64 f.pl, .int .i64 f.sq, .int .i64 f.kd, .bool f.cp, .string f.dt] T)).cell? ((⟨w.heap.size, 0, none⟩ : Addr).add j) = some u := by
 intro j u hj
 have hb := Blk.new w T (fndC f)
 have h1 := hb.cell j
 rw [addr_add, Nat.zero_add]
 exact h1.trans (by simpa using hj)
theorem owns_slice17 {w : World} {B : Nat} {e : TypeId} {sz : Nat} {v : Value} {n : Nat} {xs : List Value} (h : w.ownsRow B e sz v n xs) : ∃ ao cap, v = .slice ao n cap := by
 rcases h.2 with ⟨rfl, rfl⟩ | ⟨g, cap, _, rfl, _⟩
 · exact ⟨none, 0, rfl⟩
 · exact ⟨_, cap, rfl⟩
theorem own_ext17 {w0 w w' : World} {B : Nat} {e : TypeId} {sz : Nat} {v : Value} {n : Nat} {xs : List Value} (h : w.ownsRow B e sz v n xs) (hE : w0.grownBy w none) (hg : w.grownBy w' v.ownBlock) (hB : w0.heap.size ≤ B) : w0.grownBy w' none :=
 ⟨hg.os.trans hE.os, hg.tape.trans hE.tape, hg.output.trans hE.output, Nat.le_trans hE.size hg.size, fun k hk _ => (hg.block k (Nat.lt_of_lt_of_le hk hE.size) (fun e => by have := (h.lt k e.symm).1; omega)).trans (hE.block k hk (by simp))⟩
theorem own_alloc17 {w w3 w4 : World} {o : Obj} {r : Option Nat} (hE : w.grownBy w3 none) (hg : (w3.alloc o).grownBy w4 r) : w.grownBy w4 r := by
 have h1 := World.grownBy_alloc w3 o none
 exact ⟨hg.os.trans hE.os, hg.tape.trans hE.tape, hg.output.trans hE.output, Nat.le_trans hE.size (Nat.le_trans h1.size hg.size), fun k hk hne => (hg.block k (Nat.lt_of_lt_of_le hk (Nat.le_trans hE.size h1.size)) hne).trans ((h1.block k (Nat.lt_of_lt_of_le hk hE.size) (by simp)).trans (hE.block k hk (by simp)))⟩
end Go.Proofs.YtdnpdoipipfkoaaGreatDoor

namespace Go.Proofs.YtdnpdoipipfkoaaGreatDoor
set_option linter.unusedVariables false
set_option linter.unusedSimpArgs false
set_option linter.unusedVariables false
set_option linter.unusedSimpArgs false
set_option maxRecDepth 100000
open Go.RowKit
section
variable {w : World} {S : NShape} {V : Nat → Value} {zs : Nat → List Int} {s : NS}
set_option maxHeartbeats 800000 in
theorem one16_any (h : NandAt w S V zs s) (hR : Roles S) (hF : Flds w) (hB : ∀ i j, Byts (s.L i j).bs) (hbs : ∀ i j, (s.L i j).bs.length ≤ 140737488351232) (v : Value) (bl : List Int) (hv : Ints w v bl) (hl : bl.length ≤ 9223372036854775807) (i m : Int) :
   Calls Tryz.prog 91 #[.pointer (some ⟨S.nb, 0, none⟩), v, .int .i64 i, .int .i64 m] w (if 0 ≤ i ∧ i < bl.length then FoundP w (findF S s (bl.getD i.toNat 0) m i) (findE S s (bl.getD i.toNat 0) m) else FoundP w noF 5) := by
 have hBn := Blk.new w 108 (fndC noF)
 have hEn := World.grownBy_alloc w (.cells (fndC noF) 108) none
 by_cases hi : 0 ≤ i ∧ i < bl.length
 · rw [if_pos hi]
   obtain ⟨h0, h1⟩ := hi
   obtain ⟨k, rfl⟩ : ∃ k : Nat, i = k := ⟨i.toNat, by omega⟩
   rw [Int.toNat_natCast]
   have FN := fun wx (hE : w.grownBy wx none) => find16_any (h.ext hE hR) hR (hF.ext hE) hB hbs v bl (hv.kept hE (by simp)) hl k (by omega) m
   generalize findF S s (bl.getD k 0) m k = f at *
   generalize findE S s (bl.getD k 0) m = er at *
   obtain ⟨ao, cap, b, off, rfl, _⟩ := hv.form
   obtain ⟨nl, hnl⟩ : ∃ z, bl.length = z := ⟨_, rfl⟩
   rw [hnl] at h1 hl FN ⊢
   have h0' : ¬ (k : Int) < 0 := by omega
   have h1' : ¬ (nl : Int) ≤ k := by omega
   have HB := Lib.hid (And.intro hBn hEn)
   clear h hF hB hbs hnl hBn hEn h0 h1
   go_enter Tryz.func91, Tryz.ntmps91
   go_wp2_with (first
     | (go_at_call 75; refine (FN _ HB.out.2).mono ?_; rintro e w3 ⟨rfl, hg3⟩; have hr3 := HB.out.1.ext hg3)
     | (refine fnd_store (f := f) _ _ rfl rfl rfl hr3 rfl rfl ?_; intro w4 hb4 hg4 hs4; have HG4 := Lib.hid (g17_new (ext_trans HB.out.2 hg3) hg4 (Nat.le_refl _)); have c0 := hb4.cell 0; have c1 := hb4.cell 1; have c2 := hb4.cell 2; have c3 := hb4.cell 3; have c4 := hb4.cell 4; have c5 := hb4.cell 5; have c6 := hb4.cell 6; have c7 := hb4.cell 7; have c8 := hb4.cell 8; have c9 := hb4.cell 9; simp [fndC] at c0 c1 c2 c3 c4 c5 c6 c7 c8 c9; clear hb4 hg4))
   refine bodyPost_ret (v := .tuple #[.agg (fndC f), .int .i64 er]) (by simp [results, Tryz.results91, go_sem, fndC, c0, c1, c2, c3, c4, c5, c6, c7, c8, c9]) rfl ⟨rfl, HG4.out⟩
 · rw [if_neg hi]
   obtain ⟨ao, cap, b, off, rfl, _⟩ := hv.form
   obtain ⟨nl, hnl⟩ : ∃ z, bl.length = z := ⟨_, rfl⟩
   rw [hnl] at hi hl ⊢
   have HB := Lib.hid (And.intro hBn hEn)
   clear h hF hB hbs hnl hBn hEn hv
   have hr3 := HB.out.1
   by_cases h0 : i < 0
   · clear hi
     go_enter Tryz.func91, Tryz.ntmps91
     go_wp2_with (refine fnd_store (f := noF) _ _ rfl rfl rfl hr3 rfl rfl ?_; intro w4 hb4 hg4 hs4; have HG4 := Lib.hid (g17_new HB.out.2 hg4 (Nat.le_refl _)); have c0 := hb4.cell 0; have c1 := hb4.cell 1; have c2 := hb4.cell 2; have c3 := hb4.cell 3; have c4 := hb4.cell 4; have c5 := hb4.cell 5; have c6 := hb4.cell 6; have c7 := hb4.cell 7; have c8 := hb4.cell 8; have c9 := hb4.cell 9; simp [fndC, noF] at c0 c1 c2 c3 c4 c5 c6 c7 c8 c9; clear hb4 hg4)
     refine bodyPost_ret (v := .tuple #[.agg (fndC noF), .int .i64 5]) (by simp [results, Tryz.results91, go_sem, fndC, noF, c0, c1, c2, c3, c4, c5, c6, c7, c8, c9]) rfl ⟨rfl, HG4.out⟩
   · have h1 : (nl : Int) ≤ i := by omega
     clear hi
     go_enter Tryz.func91, Tryz.ntmps91
     go_wp2_with (refine fnd_store (f := noF) _ _ rfl rfl rfl hr3 rfl rfl ?_; intro w4 hb4 hg4 hs4; have HG4 := Lib.hid (g17_new HB.out.2 hg4 (Nat.le_refl _)); have c0 := hb4.cell 0; have c1 := hb4.cell 1; have c2 := hb4.cell 2; have c3 := hb4.cell 3; have c4 := hb4.cell 4; have c5 := hb4.cell 5; have c6 := hb4.cell 6; have c7 := hb4.cell 7; have c8 := hb4.cell 8; have c9 := hb4.cell 9; simp [fndC, noF] at c0 c1 c2 c3 c4 c5 c6 c7 c8 c9; clear hb4 hg4)
     refine bodyPost_ret (v := .tuple #[.agg (fndC noF), .int .i64 5]) (by simp [results, Tryz.results91, go_sem, fndC, noF, c0, c1, c2, c3, c4, c5, c6, c7, c8, c9]) rfl ⟨rfl, HG4.out⟩
end
def pgsN (S : NShape) (s : NS) (n : Int) (bk : Nat) : Nat → List Fnd × Int
 | 0 => ([], 0)
 | j + 1 => if (pgsN S s n bk j).2 = 0 then (if findE S s n j = 0 then ((pgsN S s n bk j).1 ++ [findF S s n j bk], 0) else ([], findE S s n j)) else pgsN S s n bk j
def blksN (S : NShape) (s : NS) (bl : List Int) : Nat → List Fnd × Int
 | 0 => ([], 0)
 | i + 1 => if (blksN S s bl i).2 = 0 then (if s.mr (bl.getD i 0).toNat then blksN S s bl i else
     (if (pgsN S s (bl.getD i 0) i (nextN (s.L (bl.getD i 0).toNat) S.pg)).2 = 0 then ((blksN S s bl i).1 ++ (pgsN S s (bl.getD i 0) i (nextN (s.L (bl.getD i 0).toNat) S.pg)).1, 0) else ([], (pgsN S s (bl.getD i 0) i (nextN (s.L (bl.getD i 0).toNat) S.pg)).2))) else blksN S s bl i
theorem pgsN_stay {S : NShape} {s : NS} {n : Int} {bk : Nat} {j : Nat} (h : (pgsN S s n bk j).2 ≠ 0) : ∀ k, j ≤ k → pgsN S s n bk k = pgsN S s n bk j := fun k hk => by
 induction k with
 | zero => have : j = 0 := by omega
           subst this; rfl
 | succ k ih =>
   by_cases e : j = k + 1
   · subst e; rfl
   · rw [pgsN, ih (by omega), if_neg h]
theorem blksN_stay {S : NShape} {s : NS} {bl : List Int} {j : Nat} (h : (blksN S s bl j).2 ≠ 0) : ∀ k, j ≤ k → blksN S s bl k = blksN S s bl j := fun k hk => by
 induction k with
 | zero => have : j = 0 := by omega
           subst this; rfl
 | succ k ih =>
   by_cases e : j = k + 1
   · subst e; rfl
   · rw [blksN, ih (by omega), if_neg h]
theorem pgsN_len {S : NShape} {s : NS} {n : Int} {bk : Nat} : ∀ j, (pgsN S s n bk j).1.length ≤ j
 | 0 => by simp [pgsN]
 | j + 1 => by
   have := pgsN_len (S := S) (s := s) (n := n) (bk := bk) j
   rw [pgsN]
   split
   · split
     · simp; omega
     · simp
   · omega
theorem blksN_len {S : NShape} {s : NS} {bl : List Int} (hp : S.pg ≤ 16) : ∀ i, (blksN S s bl i).1.length ≤ i * 16
 | 0 => by simp [blksN]
 | i + 1 => by
   have h1 := blksN_len (s := s) (bl := bl) hp i
   have h2 := pgsN_len (S := S) (s := s) (n := bl.getD i 0) (bk := i) (nextN (s.L (bl.getD i 0).toNat) S.pg)
   have h3 := nextN_le (s.L (bl.getD i 0).toNat) S.pg
   rw [blksN]
   split
   · split
     · omega
     · split
       · simp only [List.length_append]; omega
       · simp
   · omega
def offB (al : Nat) (b : Int) : Bool := decide (b < 0 ∨ (al : Int) ≤ b)
theorem pagesDo_any (b : Int) (al : Nat) (xb : Nat) (w : World) (hx : w.cell? ⟨xb, 0, none⟩ = some (.int .i64 (al : Int))) :
   Calls Tryz.prog 72 #[.int .i64 b, .pointer (some ⟨xb, 0, none⟩)] w fun e w' => e = .returned (.bool (offB al b)) ∧ w = w' := by
 by_cases h : b < 0
 · have e : decide (b < 0) = true := by simpa using h
   go_enter Tryz.func72, Tryz.ntmps72
   go_wp2
   go_ret
   exact ⟨ret_bool (by simp [offB, h]), rfl⟩
 · have e : decide (b < 0) = false := by simpa using h
   go_enter Tryz.func72, Tryz.ntmps72
   go_wp2
   go_ret
   exact ⟨ret_bool (by simp [offB]; omega), rfl⟩
set_option maxHeartbeats 800000 in
theorem indexOff_any (v : Value) (xs : List Int) (al : Nat) (xb : Nat) (w : World) (hb : Ints w v xs) (hm : xs.length ≤ 9223372036854775807) (hx : w.cell? ⟨xb, 0, none⟩ = some (.int .i64 (al : Int))) :
   Calls Tryz.prog 93 #[v, .func (.func 72) #[] #[.pointer (some ⟨xb, 0, none⟩)]] w fun e w' => ∃ r : Int, e = .returned (.int .i64 r) ∧ w = w' ∧ ((0 ≤ r ∧ xs.any (offB al) = true) ∨ (r < 0 ∧ xs.any (offB al) = false)) := by
 obtain ⟨ao, cap, b, off, rfl, hc⟩ := hb.form
 have HC := Lib.hid hc
 clear hc hb
 go_enter Tryz.func93, Tryz.ntmps93
 go_wp2
 go_loopw [8] (fun i wr => ∃ k : Nat, k ≤ xs.length ∧ i = .int .i64 k ∧ (∀ j, j < k → offB al (xs.getD j 0) = false) ∧ w = wr) (fun i _ => xs.length - (intOf i).toNat)
 case atStart => exact ⟨0, by omega, rfl, fun j hj => by omega, rfl⟩
 case round =>
   obtain ⟨k, hk, rfl, hnot, rfl⟩ := hrel
   have NOT := Lib.hid hnot
   clear hnot
   by_cases hlt : k < xs.length
   · obtain ⟨rfl, hcell⟩ := HC.out k hlt
     obtain ⟨x, hx'⟩ : ∃ x, xs.getD k 0 = x := ⟨_, rfl⟩
     rw [hx'] at hcell
     have HX := Lib.hid hx'
     have D := pagesDo_any x al xb w hx
     obtain ⟨p, hp⟩ : ∃ p, offB al x = p := ⟨_, rfl⟩
     rw [hp] at D
     have HP := Lib.hid hp
     clear hx' hp
     cases p
     · go_wp2_with (go_at_call 72; refine D.mono ?_; rintro e w' ⟨rfl, rfl⟩)
       go_roundw
       case rel =>
         refine ⟨k + 1, by omega, by go_num, fun j hj => ?_, trivial⟩
         by_cases e : j = k
         · subst e; rw [HX.out]; exact HP.out
         · exact NOT.out j (by omega)
       case measure => simp [intOf]; omega
     · go_wp2_with (go_at_call 72; refine D.mono ?_; rintro e w' ⟨rfl, rfl⟩)
       go_ret
       refine ⟨_, rfl, rfl, .inl ⟨by omega, ?_⟩⟩
       have h1 := HX.out
       rw [List.getD_eq_getElem?_getD, List.getElem?_eq_getElem hlt] at h1
       simp only [Option.getD_some] at h1
       exact List.any_eq_true.2 ⟨x, by rw [← h1]; exact List.getElem_mem hlt, HP.out⟩
   · obtain rfl : k = xs.length := by omega
     go_wp2
     go_ret
     refine ⟨_, rfl, rfl, .inr ⟨by omega, ?_⟩⟩
     rw [List.any_eq_false]
     intro y hmem
     obtain ⟨j, hj, hjn⟩ := List.mem_iff_getElem.1 hmem
     have h1 := NOT.out j hj
     rw [List.getD_eq_getElem?_getD, List.getElem?_eq_getElem hj] at h1
     simp only [Option.getD_some] at h1
     rw [← hjn, h1]
     simp
theorem containsOff_any (v : Value) (xs : List Int) (al : Nat) (xb : Nat) (w : World) (hb : Ints w v xs) (hm : xs.length ≤ 9223372036854775807) (hx : w.cell? ⟨xb, 0, none⟩ = some (.int .i64 (al : Int))) :
   Calls Tryz.prog 47 #[v, .func (.func 72) #[] #[.pointer (some ⟨xb, 0, none⟩)]] w fun e w' => e = .returned (.bool (xs.any (offB al))) ∧ w = w' := by
 have I := indexOff_any v xs al xb w hb hm hx
 obtain ⟨ao, cap, b, off, rfl, hc⟩ := hb.form
 clear hc hb
 go_enter Tryz.func47, Tryz.ntmps47
 go_wp2_with (go_at_call 93; refine I.mono ?_; rintro e w' ⟨r, rfl, rfl, hr⟩; have HR := Lib.hid hr; clear hr)
 go_ret
 rcases HR.out with ⟨h1, h2⟩ | ⟨h1, h2⟩
 · exact ⟨ret_bool (by rw [h2]; simp; omega), rfl⟩
 · exact ⟨ret_bool (by rw [h2]; simp; omega), rfl⟩
end Go.Proofs.YtdnpdoipipfkoaaGreatDoor

namespace Go.Proofs.YtdnpdoipipfkoaaGreatDoor
set_option linter.unusedVariables false
set_option linter.unusedSimpArgs false
set_option linter.unusedVariables false
set_option linter.unusedSimpArgs false
set_option maxRecDepth 100000
open Go.RowKit
structure Chg where
 pl : Int
 kd : Int
 dt : ByteArray
def noChg : Chg := ⟨0, 0, ⟨#[]⟩⟩
def chgC (c : Chg) : Array Value := #[.int .i64 c.pl, .int .i64 c.kd, .string c.dt]
def chgsL (row : List Chg) : List Value := row.flatMap fun c => (chgC c).toList
def chkE (pl kd : Int) (dt : ByteArray) : Int :=
 if (kd ≠ 1 ∧ kd ≠ 2) ∨ pl < 0 ∨ 63 < pl ∨ (kd = 2 ∧ dt.size ≠ 0) then 1 else if 16 < dt.size then 3 else 0
theorem ret_int13 {a b : Int} (h : a = b) : Ending.returned (.int .i64 a) = .returned (.int .i64 b) := by rw [h]
theorem str_none {s : ByteArray} : s.toList.isEmpty = decide (s.size = 0) := by
 rw [ByteArray.toList_eq]
 by_cases h : s.size = 0
 · have : s.data.toList = [] := List.eq_nil_of_length_eq_zero (by simpa using h)
   simp [h, this]
 · rw [decide_eq_false h, Bool.eq_false_iff]
   intro e
   rw [List.isEmpty_iff] at e
   exact h (by have := congrArg List.length e; simpa using this)
end Go.Proofs.YtdnpdoipipfkoaaGreatDoor
