/-
  Texts put together: FD SN FE VA VB.
-/
import Derived.Test.YteionppcjgggiaaGreatM07
import Derived.Test.YteionppcjgggiaaGreatM06
import Derived.Test.YteionppcjgggiaaGreatM05
import Derived.Handy
/-
  The document's Open (layer 3), of three bytes and more.
-/
namespace Go.Proofs.YteionppcjgggiaaGreat
set_option linter.unusedVariables false
set_option linter.unusedSimpArgs false
set_option maxRecDepth 100000
open Go.RowKit

theorem ref_reader {v : Value} {xs : List Int} {w : World} (hb : Bts w v xs) (hlt : ∀ k, v.ownBlock = some k → k < w.heap.size) :
    ∃ c, RdIs 76 (w.alloc (.cells #[v, .int .i64 0] 76)) w.heap.size c xs 0 := by
  have hga := World.grownBy_alloc w (.cells #[v, .int .i64 0] 76) none
  cases ho : v.ownBlock with
  | none => exact ⟨w.heap.size + 1, v, heap_alloc_new w _, hb.kept hga (by simp), fun k hk => (by rw [ho] at hk; cases hk), by omega⟩
  | some c => exact ⟨c, v, heap_alloc_new w _, hb.kept hga (by simp), fun k hk => (by rw [ho] at hk; cases hk; rfl), Nat.ne_of_lt (hlt c ho)⟩

set_option maxRecDepth 100000 in
set_option maxHeartbeats 1600000 in
theorem refOpen_any (v : Value) (xs : List Int) (w : World) (hb : Bts w v xs) (hB : Byts xs) (hm : xs.length ≤ 140737488351232) (hlt : ∀ k, v.ownBlock = some k → k < w.heap.size) :
    Calls Tryz.prog 48 #[v] w (OpenP w xs) := by
  by_cases h3 : xs.length < 3
  · exact refOpen_short v xs w hb hB hm hlt h3
  · obtain ⟨c, hR0⟩ := ref_reader hb hlt
    obtain ⟨b, off, cap, rfl, hcap, hc⟩ : ∃ b off cap, v = .slice (some ⟨b, off, none⟩) xs.length cap ∧ xs.length ≤ cap ∧ ∀ i, i < xs.length → w.cell? ⟨b, off + i, none⟩ = some (.int .u8 (xs.getD i 0)) := by
      rcases hb with ⟨_, rfl⟩ | h
      · simp at h3
      · exact h
    have HR := Lib.hid hR0
    have hn := opN_lt hB
    have B1 : Byts (xs.drop 1) := fun x hx => hB x (List.mem_of_mem_drop hx)
    have BK : Byts (xs.take 1) := fun x hx => hB x (List.mem_of_mem_take hx)
    have l1 : (xs.drop 1).length = xs.length - 1 := by simp
    obtain ⟨v1, x1, y1⟩ := num_ok (n := 1) (xs := xs) rfl (by omega)
    obtain ⟨v2, x2, y2⟩ := num_ok (n := 2) (xs := xs.drop 1) rfl (by omega)
    have lb : 0 ≤ leV ((xs.drop 1).take 2) := (leV_bd _ (fun x hx => hB x (List.mem_of_mem_drop (List.mem_of_mem_take hx)))).1
    have hkb : 0 ≤ leV (xs.take 1) ∧ leV (xs.take 1) ≤ 255 := by
      have h := leV_bd _ BK
      rw [show (xs.take 1).length = 1 by simp; omega] at h
      omega
    have v2 : numV 2 (xs.drop 1) 0 = (opN xs : Nat) := by
      rw [v2, show (2 : Int).toNat = 2 from rfl]
      unfold opN
      omega
    have x2 : numX 2 (xs.drop 1) 0 = xs.drop 3 := by rw [x2, show (2 : Int).toNat = 2 from rfl, List.drop_drop]
    have l2 : (xs.drop 3).length = xs.length - 3 := by simp
    obtain ⟨kk, hkk⟩ : ∃ kk, leV (xs.take 1) = kk := ⟨_, rfl⟩
    have H1 := Lib.hid (And.intro (v1.trans hkk) (And.intro x1 y1))
    have H2 := Lib.hid (And.intro v2 (And.intro x2 y2))
    have HB := Lib.hid (And.intro hB B1)
    have HC := Lib.hid hc
    have HKK := Lib.hid hkk
    rw [hkk] at hkb
    have L2 := Lib.hid l2
    have hn3 : ¬ xs.length < 3 := h3
    clear v1 x1 y1 v2 x2 y2 B1 BK hb hc lb hR0 hkk l1 l2 h3
    by_cases h7 : xs.length < opN xs + 7
    · obtain ⟨e1, e2, e3, e4⟩ := open_short (xs := xs) h7
      unfold OpenP
      rw [e1, e2, e3, e4]
      clear e1 e2 e3 e4 hB
      have h7' : ((xs.length - 3 : Nat) : Int) < opN xs + 4 := by omega
      generalize opN xs = n at *
      go_enter Tryz.func48, Tryz.ntmps48
      go_wp2_with (first
        | (go_at_call 27; refine (refNumber_is hR2 HB.out.2 H2.out.1 H2.out.2.1 H2.out.2.2).mono ?_; rintro e w3 ⟨rfl, ⟨v3, hr3, hv3, hc3, hne3⟩, hg3⟩; have q1 := two_cell1 hr3; have q0 := two_cell0 hr3; obtain ⟨ao3, cap3, rfl⟩ := hv3.shape; rw [L2.out] at q0)
        | (go_at_call 27; refine (refNumber_is HR.out HB.out.1 H1.out.1 H1.out.2.1 H1.out.2.2).mono ?_; rintro e w2 ⟨rfl, hR2, hg2⟩))
      have hgr := grown_trans (grown_trans (World.grownBy_alloc w (.cells #[.slice (some ⟨b, off, none⟩) xs.length cap, .int .i64 0] 76) none) hg2 (fun k hk h => by cases hk; omega)) hg3 (fun k hk h => by cases hk; omega)
      refine bodyPost_ret (v := .tuple #[.int .i64 0, .slice none 0 0, .int .i64 0, .int .i64 2]) (by simp [results, Tryz.results48, go_sem]) rfl ⟨_, rfl, owns_nil _ _, hgr⟩
    · have hlen : opN xs + 7 ≤ xs.length := by omega
      have h7' : ¬ ((xs.length - 3 : Nat) : Int) < opN xs + 4 := by omega
      have hfe := frame_eq hB hlen
      rw [HKK.out] at hfe
      have b6 : ∀ c, opN xs ≤ c → Bts w (.slice (some ⟨b, off + 3, none⟩) (opN xs) c) ((xs.drop 3).take (opN xs)) := fun c h => Bts.mid HC.out (by omega) h
      have b7 : Bts w (.slice (some ⟨b, off, none⟩) (opN xs + 7) cap) (xs.take (opN xs + 7)) := Bts.pre hcap HC.out (by omega)
      have B6 : Byts ((xs.drop 3).take (opN xs)) := fun x hx => hB x (List.mem_of_mem_drop (List.mem_of_mem_take hx))
      have B7 : Byts (xs.take (opN xs + 7)) := fun x hx => hB x (List.mem_of_mem_take hx)
      have l6 : ((xs.drop 3).take (opN xs)).length = opN xs := by simp; omega
      have hcmp : ((strOfNums (frL kk ((xs.drop 3).take (opN xs)))).toList == (strOfNums (xs.take (opN xs + 7))).toList) = decide (leV ((xs.drop (opN xs + 3)).take 4) = (crcOf (xs.take (opN xs + 3)) : Nat)) := by
        rw [str_beq (frL_byts B6) B7]
        by_cases h : leV ((xs.drop (opN xs + 3)).take 4) = (crcOf (xs.take (opN xs + 3)) : Nat)
        · rw [decide_eq_true h, decide_eq_true (hfe.2 h)]
        · rw [decide_eq_false h, decide_eq_false (fun e => h (hfe.1 e))]
      have mk : mkE kk ((xs.drop 3).take (opN xs)) = 0 := by unfold mkE; rw [if_pos ⟨hkb.1, hkb.2⟩, if_pos (by omega)]
      have ml : mkL kk ((xs.drop 3).take (opN xs)) = frL kk ((xs.drop 3).take (opN xs)) := by unfold mkL; rw [if_pos mk]
      have RM := fun v' w' hb => refMake_any kk v' ((xs.drop 3).take (opN xs)) w' hb B6 (by omega)
      rw [mk, ml] at RM
      obtain ⟨fr, hfr⟩ : ∃ fr, frL kk ((xs.drop 3).take (opN xs)) = fr := ⟨_, rfl⟩
      obtain ⟨s1, hs1⟩ : ∃ s, strOfNums fr = s := ⟨_, rfl⟩
      obtain ⟨s2, hs2⟩ : ∃ s, strOfNums (xs.take (opN xs + 7)) = s := ⟨_, rfl⟩
      rw [hfr] at RM hcmp
      rw [hs1, hs2] at hcmp
      have K6 := Lib.hid b6
      have K7 := Lib.hid b7
      have L6 := Lib.hid l6
      have S1 := Lib.hid hs1
      have S2 := Lib.hid hs2
      clear b6 b7 B6 B7 l6 hs1 hs2 hfr hfe mk ml
      by_cases hVC : leV ((xs.drop (opN xs + 3)).take 4) = (crcOf (xs.take (opN xs + 3)) : Nat)
      · obtain ⟨e1, e2, e3, e4⟩ := open_whole (xs := xs) h7 hVC
        unfold OpenP
        rw [e1, e2, e3, e4, HKK.out]
        have hne : (s1.toList == s2.toList) = true := by rw [hcmp]; simp [hVC]
        clear e1 e2 e3 e4 hVC h7 hcmp hB
        generalize (xs.drop 3).take (opN xs) = bs at *
        generalize xs.take (opN xs + 7) = ts at *
        generalize opN xs = n at *
        go_enter Tryz.func48, Tryz.ntmps48
        go_wp2_with (first
          | (go_at_call 19; refine (RM _ _ ((K6.out _ (by omega)).kept hg4 (by simp))).mono ?_; rintro e w5 ⟨v5, rfl, hown5, hg5⟩)
          | (go_at_call 27; refine (refNumber_is hR2 HB.out.2 H2.out.1 H2.out.2.1 H2.out.2.2).mono ?_; rintro e w3 ⟨rfl, ⟨v3, hr3, hv3, hc3, hne3⟩, hg3⟩; have q1 := two_cell1 hr3; have q0 := two_cell0 hr3; obtain ⟨ao3, cap3, rfl⟩ := hv3.shape; rw [L2.out] at q0; have hg4 := grown_trans (grown_trans (World.grownBy_alloc w (.cells #[.slice (some ⟨b, off, none⟩) xs.length cap, .int .i64 0] 76) none) hg2 (fun k hk h => by cases hk; omega)) hg3 (fun k hk h => by cases hk; omega))
          | (go_at_call 27; refine (refNumber_is HR.out HB.out.1 H1.out.1 H1.out.2.1 H1.out.2.2).mono ?_; rintro e w2 ⟨rfl, hR2, hg2⟩))
        have hE5 : Ext w w5 := grown_trans hg4 hg5 (by simp)
        have hE6 : Ext w5 w5.drew := Ext.drew w5
        have hcv1 : ∀ x, Ext w5 x → (convert 37 9 v5).run Tryz.prog x = .ok (.string s1) x := fun x hx => convert_is ((Owns.bts rfl hown5).kept hx (by simp)) S1.out
        have hcv2 : ∀ x, Ext w5 x → (convert 37 9 (.slice (some ⟨b, off, none⟩) (n + 7) cap)).run Tryz.prog x = .ok (.string s2) x := fun x hx => convert_is (K7.out.kept (Ext.next hE5 x hx) (by simp)) S2.out
        refine region_line [(0, true), (1, true), (2, true), (3, true), (4, true), (5, true), (6, true)] (Ext w5) (by kernel_rfl) (by kernel_rfl) (fun _ _ _ d _ h => by cases d <;> exact h) hE6 ?_
        repeat (refine line_read (a' := ?_) rfl (by kernel_rfl) (by kernel_rfl) hE6 (fun x hx K hK => ?_) ?_; rotate_left; · have h1 := hcv1 x hx; have h2 := hcv2 x hx; go_wp2; exact hK)
        refine line_end ?_
        clear hcv1 hcv2
        go_wp2_with (at_builtin; go_loud (refine wpList_append_bts rfl _ _ rfl w5.drew.heap.size _ _ _ rfl (@owns_copy w5.drew) _ bs rfl ((K6.out _ (by omega)).kept (Ext.next hE5 _ (Ext.next hE6 _ (World.grownBy_alloc w5.drew _ none))) (by simp)) ?c1 ?c2 ?_))
        case c1 => rw [L6.out]; omega
        case c2 => simp
        intro v6 w6 hown6 hg6
        have hown6 : w6.ownsRow w5.drew.heap.size 5 1 v6 bs.length (bs.map (Value.int .u8)) := by simpa using hown6
        have hE7 : Ext w5.drew w6 := grown_trans (World.grownBy_alloc w5.drew (.cells #[] 5) none) hg6 (fun k hk h => by simp [Value.ownBlock] at hk; simp at h; omega)
        go_wp2
        refine bodyPost_ret (v := .tuple #[.int .i64 kk, v6, .int .i64 (n + 7), .int .i64 0]) (by simp [results, Tryz.results48, go_sem]) rfl ⟨_, rfl, ownsRow_le hown6 hE5.size, Ext.next hE5 _ (Ext.next hE6 _ hE7)⟩
      · obtain ⟨e1, e2, e3, e4⟩ := open_spoilt (xs := xs) h7 hVC
        unfold OpenP
        rw [e1, e2, e3, e4]
        have hne : (s1.toList == s2.toList) = false := by rw [hcmp]; simp [hVC]
        clear e1 e2 e3 e4 hVC h7 hcmp hB
        generalize (xs.drop 3).take (opN xs) = bs at *
        generalize xs.take (opN xs + 7) = ts at *
        generalize opN xs = n at *
        go_enter Tryz.func48, Tryz.ntmps48
        go_wp2_with (first
          | (go_at_call 19; refine (RM _ _ ((K6.out _ (by omega)).kept hg4 (by simp))).mono ?_; rintro e w5 ⟨v5, rfl, hown5, hg5⟩)
          | (go_at_call 27; refine (refNumber_is hR2 HB.out.2 H2.out.1 H2.out.2.1 H2.out.2.2).mono ?_; rintro e w3 ⟨rfl, ⟨v3, hr3, hv3, hc3, hne3⟩, hg3⟩; have q1 := two_cell1 hr3; have q0 := two_cell0 hr3; obtain ⟨ao3, cap3, rfl⟩ := hv3.shape; rw [L2.out] at q0; have hg4 := grown_trans (grown_trans (World.grownBy_alloc w (.cells #[.slice (some ⟨b, off, none⟩) xs.length cap, .int .i64 0] 76) none) hg2 (fun k hk h => by cases hk; omega)) hg3 (fun k hk h => by cases hk; omega))
          | (go_at_call 27; refine (refNumber_is HR.out HB.out.1 H1.out.1 H1.out.2.1 H1.out.2.2).mono ?_; rintro e w2 ⟨rfl, hR2, hg2⟩))
        have hE5 : Ext w w5 := grown_trans hg4 hg5 (by simp)
        have hE6 : Ext w5 w5.drew := Ext.drew w5
        have hcv1 : ∀ x, Ext w5 x → (convert 37 9 v5).run Tryz.prog x = .ok (.string s1) x := fun x hx => convert_is ((Owns.bts rfl hown5).kept hx (by simp)) S1.out
        have hcv2 : ∀ x, Ext w5 x → (convert 37 9 (.slice (some ⟨b, off, none⟩) (n + 7) cap)).run Tryz.prog x = .ok (.string s2) x := fun x hx => convert_is (K7.out.kept (Ext.next hE5 x hx) (by simp)) S2.out
        refine region_line [(0, true), (1, true), (2, true), (3, true), (4, true), (5, true), (6, true)] (Ext w5) (by kernel_rfl) (by kernel_rfl) (fun _ _ _ d _ h => by cases d <;> exact h) hE6 ?_
        repeat (refine line_read (a' := ?_) rfl (by kernel_rfl) (by kernel_rfl) hE6 (fun x hx K hK => ?_) ?_; rotate_left; · have h1 := hcv1 x hx; have h2 := hcv2 x hx; go_wp2; exact hK)
        refine line_end ?_
        clear hcv1 hcv2
        go_wp2
        refine bodyPost_ret (v := .tuple #[.int .i64 0, .slice none 0 0, .int .i64 0, .int .i64 14]) (by simp [results, Tryz.results48, go_sem]) rfl ⟨_, rfl, owns_nil _ _, Ext.next hE5 _ hE6⟩

end Go.Proofs.YteionppcjgggiaaGreat

/-
  Sums: bytes of which some within 32 neighbouring bits are turned have another register.
-/
namespace Go.Proofs.YteionppcjgggiaaGreat
set_option linter.unusedVariables false
set_option linter.unusedSimpArgs false
set_option maxRecDepth 100000

theorem stp_double (m : Nat) : stp (2 * m) = m := by unfold stp; rw [if_neg (by omega)]; omega
theorem shN_pow (e j : Nat) : ∀ k, shN (e * 2 ^ (k + j)) k = e * 2 ^ j
  | 0 => by simp [shN]
  | k + 1 => by
    have h := shN_pow e (j + 1) k
    show stp (shN (e * 2 ^ (k + 1 + j)) k) = _
    rw [show k + 1 + j = k + (j + 1) by omega, h, Nat.pow_succ, show e * (2 ^ j * 2) = 2 * (e * 2 ^ j) by rw [← Nat.mul_assoc]; omega, stp_double]
theorem shN_256 (e : Nat) : shN (e * 256) 8 = e := by simpa using shN_pow e 0 8
theorem shN_back {z e : Nat} (hz : z < 4294967296) (he : e * 256 < 4294967296) (h : shN z 8 = e) : z = e * 256 :=
  shN_inj hz he (k := 8) (by rw [h, shN_256])
theorem xor_back {a b c : Nat} (h : a ^^^ b = c) : a = c ^^^ b := by rw [← h, Nat.xor_assoc, Nat.xor_self, Nat.xor_zero]

/-- Four bytes, one behind the other, come to 0 only if all are 0. -/
theorem four_zero {a b c d : Nat} (ha : a < 256) (hb : b < 256) (hc : c < 256) (hd : d < 256) (h : shN (shN (shN (shN a 8 ^^^ b) 8 ^^^ c) 8 ^^^ d) 8 = 0) : a = 0 ∧ b = 0 ∧ c = 0 ∧ d = 0 := by
  have l1 : shN a 8 < 4294967296 := shN_lt (by omega) 8
  have l2 := xor_byte_lt l1 hb
  have l3 := shN_lt l2 8
  have l4 := xor_byte_lt l3 hc
  have l5 := shN_lt l4 8
  have l6 := xor_byte_lt l5 hd
  have h1 := xor_eq0 (shN_zero l6 8 h)
  have h2 := xor_back (shN_back l4 (by omega) h1)
  have m2 : d * 256 ^^^ c < 65536 := Nat.xor_lt_two_pow (n := 16) (by omega) (by omega)
  have h3 := xor_back (shN_back l2 (by omega) h2)
  have m3 : (d * 256 ^^^ c) * 256 ^^^ b < 16777216 := Nat.xor_lt_two_pow (n := 24) (by omega) (by omega)
  have h4 := shN_back (show a < 4294967296 by omega) (by omega) h3
  have small : ∀ q u : Nat, u = q * 256 → u < 256 → q = 0 ∧ u = 0 := fun q u h1 h2 => by omega
  obtain ⟨h5, ha0⟩ := small _ _ h4 ha
  obtain ⟨h7, hb0⟩ := small _ _ (xor_eq0 h5).symm hb
  obtain ⟨hd0, hc0⟩ := small _ _ (xor_eq0 h7).symm hc
  exact ⟨ha0, hb0, hc0, hd0⟩

theorem take_all {xs ys : List Int} {n : Nat} (hl : ys.length = xs.length) (hn : n ≤ xs.length) (h : ∀ j, j < n → ys.getD j 0 = xs.getD j 0) : ys.take n = xs.take n := by
  apply List.ext_getElem
  · simp; omega
  · intro i h1 h2
    have hi : i < n := by simp at h1; omega
    have := h i hi
    rw [List.getD_eq_getElem?_getD, List.getD_eq_getElem?_getD, List.getElem?_eq_getElem (by omega), List.getElem?_eq_getElem (by omega)] at this
    simpa using this

theorem crcR_next {r : Nat} {xs : List Int} {k d : Nat} (hk : k < xs.length) (hd : xs.getD k 0 = (d : Int)) : crcR r (xs.take (k + 1)) = shN (crcR r (xs.take k) ^^^ d) 8 := by
  rw [List.take_add_one, List.getElem?_eq_getElem hk, Option.toList_some, crcR_snoc]
  rw [List.getD_eq_getElem?_getD, List.getElem?_eq_getElem hk] at hd
  simp only [Option.getD_some] at hd
  rw [hd]
  rfl

theorem xor_xor {a b x y : Nat} : (a ^^^ x) ^^^ (b ^^^ y) = (a ^^^ b) ^^^ (x ^^^ y) := by
  rw [Nat.xor_assoc, ← Nat.xor_assoc x, Nat.xor_comm x b, Nat.xor_assoc b, ← Nat.xor_assoc]

theorem getD_byte {xs : List Int} (hB : ∀ x ∈ xs, 0 ≤ x ∧ x < 256) {k : Nat} (hk : k < xs.length) : ∃ d : Nat, xs.getD k 0 = (d : Int) ∧ d < 256 := by
  have h := hB _ (List.getElem_mem hk)
  rw [List.getD_eq_getElem?_getD, List.getElem?_eq_getElem hk]
  obtain ⟨d, hd⟩ := Int.eq_ofNat_of_zero_le h.1
  exact ⟨d, hd, by rw [hd] at h; omega⟩

/-- Both registers, one byte on: what they differ by. -/
theorem crcR_diff {r : Nat} {xs ys : List Int} {k x d : Nat} (hl : ys.length = xs.length) (hk : k < xs.length) (hx : xs.getD k 0 = (x : Int)) (hy : ys.getD k 0 = ((x ^^^ d : Nat) : Int)) :
    crcR r (ys.take (k + 1)) ^^^ crcR r (xs.take (k + 1)) = shN ((crcR r (ys.take k) ^^^ crcR r (xs.take k)) ^^^ d) 8 := by
  rw [crcR_next hk hx, crcR_next (by omega) hy, ← shN_xor, xor_xor, Nat.xor_comm x d, Nat.xor_assoc d, Nat.xor_self, Nat.xor_zero]

theorem crcOf_turns {xs ys : List Int} {n : Nat} {d : Nat → Nat} (hl : ys.length = xs.length) (hn : n + 4 ≤ xs.length) (hB : ∀ x ∈ xs, 0 ≤ x ∧ x < 256) (hC : ∀ x ∈ ys, 0 ≤ x ∧ x < 256)
    (hsame : ∀ j, j < xs.length → (j < n ∨ n + 4 ≤ j) → ys.getD j 0 = xs.getD j 0) (hd : ∀ i, i < 4 → ys.getD (n + i) 0 = (((xs.getD (n + i) 0).toNat ^^^ d i : Nat) : Int)) (hd8 : ∀ i, i < 4 → d i < 256)
    (hne : ¬ (d 0 = 0 ∧ d 1 = 0 ∧ d 2 = 0 ∧ d 3 = 0)) : crcOf ys ≠ crcOf xs := by
  intro h
  have h := crcOf_inj hC hB h
  have D0 : crcR 4294967295 (ys.take n) ^^^ crcR 4294967295 (xs.take n) = 0 := by
    rw [take_all hl (by omega) (fun j hj => hsame j (by omega) (.inl hj)), Nat.xor_self]
  have next : ∀ i, i < 4 → crcR 4294967295 (ys.take (n + i + 1)) ^^^ crcR 4294967295 (xs.take (n + i + 1)) = shN ((crcR 4294967295 (ys.take (n + i)) ^^^ crcR 4294967295 (xs.take (n + i))) ^^^ d i) 8 := fun i hi => by
    obtain ⟨x, hx, _⟩ := getD_byte hB (show n + i < xs.length by omega)
    refine crcR_diff hl (by omega) hx ?_
    rw [hd i hi, hx]
    rfl
  have n0 := next 0 (by omega)
  have n1 := next 1 (by omega)
  have n2 := next 2 (by omega)
  have n3 := next 3 (by omega)
  simp only [Nat.add_zero, Nat.add_assoc, Nat.reduceAdd] at n0 n1 n2 n3
  rw [D0, Nat.zero_xor] at n0
  rw [n0] at n1
  rw [n1] at n2
  rw [n2] at n3
  have hall : ∀ k, n + 4 + k ≤ xs.length → crcR 4294967295 (ys.take (n + 4 + k)) = crcR 4294967295 (xs.take (n + 4 + k)) → crcR 4294967295 (ys.take (n + 4)) ^^^ crcR 4294967295 (xs.take (n + 4)) = 0 := by
    intro k
    induction k with
    | zero => intro _ h; rw [Nat.add_zero] at h; rw [h, Nat.xor_self]
    | succ k ih =>
      intro hk h
      refine ih (by omega) ?_
      obtain ⟨x, hx, _⟩ := getD_byte hB (show n + 4 + k < xs.length by omega)
      have hy : ys.getD (n + 4 + k) 0 = ((x ^^^ 0 : Nat) : Int) := by rw [hsame _ (by omega) (.inr (by omega)), hx, Nat.xor_zero]
      have hdf := crcR_diff (r := 4294967295) hl (by omega) hx hy
      rw [Nat.xor_zero, show n + 4 + k + 1 = n + 4 + (k + 1) by omega, h, Nat.xor_self] at hdf
      have l1 := crcR_lt (r := 4294967295) (xs := ys.take (n + 4 + k)) (by omega) (fun x hx => hC x (List.mem_of_mem_take hx))
      have l2 := crcR_lt (r := 4294967295) (xs := xs.take (n + 4 + k)) (by omega) (fun x hx => hB x (List.mem_of_mem_take hx))
      exact xor_eq0 (shN_zero (Nat.xor_lt_two_pow (n := 32) l1 l2) 8 hdf.symm)
  have e := hall (xs.length - (n + 4)) (by omega) (by
    rw [show n + 4 + (xs.length - (n + 4)) = xs.length by omega, List.take_length, List.take_of_length_le (by omega)]
    exact h)
  rw [e] at n3
  exact hne (four_zero (hd8 0 (by omega)) (hd8 1 (by omega)) (hd8 2 (by omega)) (hd8 3 (by omega)) n3.symm)

/-- One byte turned. -/
theorem crcOf_one {xs ys : List Int} {n x d : Nat} (hl : ys.length = xs.length) (hn : n < xs.length) (hB : ∀ x ∈ xs, 0 ≤ x ∧ x < 256) (hC : ∀ x ∈ ys, 0 ≤ x ∧ x < 256)
    (hsame : ∀ j, j < xs.length → j ≠ n → ys.getD j 0 = xs.getD j 0) (hx : xs.getD n 0 = (x : Int)) (hd : ys.getD n 0 = ((x ^^^ d : Nat) : Int)) (hd8 : d < 256)
    (hne : d ≠ 0) : crcOf ys ≠ crcOf xs := by
  intro h
  have h := crcOf_inj hC hB h
  have D0 : crcR 4294967295 (ys.take n) ^^^ crcR 4294967295 (xs.take n) = 0 := by
    rw [take_all hl (by omega) (fun j hj => hsame j (by omega) (by omega)), Nat.xor_self]
  have n0 := crcR_diff (r := 4294967295) hl hn hx hd
  rw [D0, Nat.zero_xor] at n0
  have hall : ∀ k, n + 1 + k ≤ xs.length → crcR 4294967295 (ys.take (n + 1 + k)) = crcR 4294967295 (xs.take (n + 1 + k)) → crcR 4294967295 (ys.take (n + 1)) ^^^ crcR 4294967295 (xs.take (n + 1)) = 0 := by
    intro k
    induction k with
    | zero => intro _ h; rw [Nat.add_zero] at h; rw [h, Nat.xor_self]
    | succ k ih =>
      intro hk h
      refine ih (by omega) ?_
      obtain ⟨x, hx, _⟩ := getD_byte hB (show n + 1 + k < xs.length by omega)
      have hy : ys.getD (n + 1 + k) 0 = ((x ^^^ 0 : Nat) : Int) := by rw [hsame _ (by omega) (by omega), hx, Nat.xor_zero]
      have hdf := crcR_diff (r := 4294967295) hl (by omega) hx hy
      rw [Nat.xor_zero, show n + 1 + k + 1 = n + 1 + (k + 1) by omega, h, Nat.xor_self] at hdf
      have l1 := crcR_lt (r := 4294967295) (xs := ys.take (n + 1 + k)) (by omega) (fun x hx => hC x (List.mem_of_mem_take hx))
      have l2 := crcR_lt (r := 4294967295) (xs := xs.take (n + 1 + k)) (by omega) (fun x hx => hB x (List.mem_of_mem_take hx))
      exact xor_eq0 (shN_zero (Nat.xor_lt_two_pow (n := 32) l1 l2) 8 hdf.symm)
  have e := hall (xs.length - (n + 1)) (by omega) (by
    rw [show n + 1 + (xs.length - (n + 1)) = xs.length by omega, List.take_length, List.take_of_length_le (by omega)]
    exact h)
  rw [e] at n0
  exact hne (shN_zero (by omega) 8 n0.symm)

end Go.Proofs.YteionppcjgggiaaGreat

/-
  Package frame: Whole, and the document's; what is made is opened.
-/
namespace Go.Proofs.YteionppcjgggiaaGreat
set_option linter.unusedVariables false
set_option linter.unusedSimpArgs false
set_option maxRecDepth 100000
open Go.RowKit

def whE (xs : List Int) (kind : Int) : Int := if opE xs = 0 then (if opM xs = xs.length ∧ opK xs = kind then 0 else 2) else opE xs
def whB (xs : List Int) (kind : Int) : List Int := if whE xs kind = 0 then opB xs else []

set_option maxRecDepth 100000 in
set_option maxHeartbeats 800000 in
theorem whole_any (v : Value) (xs : List Int) (kind : Int) (w : World) (hb : Bts w v xs) (hB : Byts xs) (hm : xs.length ≤ 140737488351232) :
    Calls Tryz.prog 90 #[v, .int .i64 kind] w (MadeE w (whB xs kind) (whE xs kind)) := by
  have O := fun w' hb => open_any v xs w' hb hB hm
  obtain ⟨er, her⟩ : ∃ e, opE xs = e := ⟨_, rfl⟩
  obtain ⟨kk, hkk⟩ : ∃ e, opK xs = e := ⟨_, rfl⟩
  obtain ⟨mm, hmm⟩ : ∃ e, opM xs = e := ⟨_, rfl⟩
  have HBts := Lib.hid hb
  obtain ⟨ao, cap, b, off, rfl, _⟩ := hb.sform
  unfold OpenP at O
  rw [her, hkk, hmm] at O
  unfold MadeE
  unfold whB whE
  rw [her, hkk, hmm]
  generalize opB xs = bs at *
  clear her hkk hmm hb hB
  by_cases h0 : er = 0
  · subst h0
    rw [if_pos rfl]
    by_cases hc : mm = xs.length ∧ kk = kind
    · obtain ⟨h1, rfl⟩ := hc
      rw [if_pos ⟨h1, rfl⟩, if_pos rfl]
      have h1' : (mm != (xs.length : Int)) = false := by simpa using h1
      clear h1
      go_enter Tryz.func90, Tryz.ntmps90
      go_wp2_with (go_at_call 103; refine (O _ HBts.out).mono ?_; rintro e w2 ⟨v2, rfl, hown2, hg2⟩)
      refine bodyPost_ret (v := .tuple #[v2, .int .i64 0]) (by simp [results, Tryz.results90, go_sem]) rfl ⟨v2, rfl, hown2, hg2⟩
    · rw [if_neg hc, if_neg (by decide)]
      have part : mm ≠ xs.length ∨ (mm = xs.length ∧ kk ≠ kind) := by omega
      clear hc
      rcases part with h1 | ⟨h1, h2⟩
      · have h1' : (mm != (xs.length : Int)) = true := by simpa using h1
        clear h1
        go_enter Tryz.func90, Tryz.ntmps90
        go_wp2_with (go_at_call 103; refine (O _ HBts.out).mono ?_; rintro e w2 ⟨v2, rfl, hown2, hg2⟩)
        refine bodyPost_ret (v := .tuple #[.slice none 0 0, .int .i64 2]) (by simp [results, Tryz.results90, go_sem]) rfl ⟨_, rfl, owns_nil _ _, hg2⟩
      · have h1' : (mm != (xs.length : Int)) = false := by simpa using h1
        have h2' : (kk != kind) = true := by simpa using h2
        clear h1 h2
        go_enter Tryz.func90, Tryz.ntmps90
        go_wp2_with (go_at_call 103; refine (O _ HBts.out).mono ?_; rintro e w2 ⟨v2, rfl, hown2, hg2⟩)
        refine bodyPost_ret (v := .tuple #[.slice none 0 0, .int .i64 2]) (by simp [results, Tryz.results90, go_sem]) rfl ⟨_, rfl, owns_nil _ _, hg2⟩
  · rw [if_neg h0, if_neg h0]
    have h0' : (er != 0) = true := by simpa using h0
    clear h0
    go_enter Tryz.func90, Tryz.ntmps90
    go_wp2_with (go_at_call 103; refine (O _ HBts.out).mono ?_; rintro e w2 ⟨v2, rfl, hown2, hg2⟩)
    refine bodyPost_ret (v := .tuple #[.slice none 0 0, .int .i64 er]) (by simp [results, Tryz.results90, go_sem]) rfl ⟨_, rfl, owns_nil _ _, hg2⟩

set_option maxRecDepth 100000 in
set_option maxHeartbeats 800000 in
theorem refWhole_any (v : Value) (xs : List Int) (kind : Int) (w : World) (hb : Bts w v xs) (hB : Byts xs) (hm : xs.length ≤ 140737488351232) (hlt : ∀ k, v.ownBlock = some k → k < w.heap.size) :
    Calls Tryz.prog 26 #[v, .int .i64 kind] w (MadeE w (whB xs kind) (whE xs kind)) := by
  have O := fun w' hb => refOpen_any v xs w' hb hB hm
  obtain ⟨er, her⟩ : ∃ e, opE xs = e := ⟨_, rfl⟩
  obtain ⟨kk, hkk⟩ : ∃ e, opK xs = e := ⟨_, rfl⟩
  obtain ⟨mm, hmm⟩ : ∃ e, opM xs = e := ⟨_, rfl⟩
  have HBts := Lib.hid hb
  obtain ⟨ao, cap, b, off, rfl, _⟩ := hb.sform
  unfold OpenP at O
  rw [her, hkk, hmm] at O
  unfold MadeE
  unfold whB whE
  rw [her, hkk, hmm]
  generalize opB xs = bs at *
  clear her hkk hmm hb hB
  by_cases h0 : er = 0
  · subst h0
    rw [if_pos rfl]
    by_cases hc : mm = xs.length ∧ kk = kind
    · obtain ⟨h1, rfl⟩ := hc
      rw [if_pos ⟨h1, rfl⟩, if_pos rfl]
      have h1' : (mm != (xs.length : Int)) = false := by simpa using h1
      clear h1
      go_enter Tryz.func26, Tryz.ntmps26
      go_wp2_with (go_at_call 48; refine (O _ HBts.out hlt).mono ?_; rintro e w2 ⟨v2, rfl, hown2, hg2⟩)
      refine bodyPost_ret (v := .tuple #[v2, .int .i64 0]) (by simp [results, Tryz.results26, go_sem]) rfl ⟨v2, rfl, hown2, hg2⟩
    · rw [if_neg hc, if_neg (by decide)]
      have part : mm ≠ xs.length ∨ (mm = xs.length ∧ kk ≠ kind) := by omega
      clear hc
      rcases part with h1 | ⟨h1, h2⟩
      · have h1' : (mm != (xs.length : Int)) = true := by simpa using h1
        clear h1
        go_enter Tryz.func26, Tryz.ntmps26
        go_wp2_with (go_at_call 48; refine (O _ HBts.out hlt).mono ?_; rintro e w2 ⟨v2, rfl, hown2, hg2⟩)
        refine bodyPost_ret (v := .tuple #[.slice none 0 0, .int .i64 2]) (by simp [results, Tryz.results26, go_sem]) rfl ⟨_, rfl, owns_nil _ _, hg2⟩
      · have h1' : (mm != (xs.length : Int)) = false := by simpa using h1
        have h2' : (kk != kind) = true := by simpa using h2
        clear h1 h2
        go_enter Tryz.func26, Tryz.ntmps26
        go_wp2_with (go_at_call 48; refine (O _ HBts.out hlt).mono ?_; rintro e w2 ⟨v2, rfl, hown2, hg2⟩)
        refine bodyPost_ret (v := .tuple #[.slice none 0 0, .int .i64 2]) (by simp [results, Tryz.results26, go_sem]) rfl ⟨_, rfl, owns_nil _ _, hg2⟩
  · rw [if_neg h0, if_neg h0]
    have h0' : (er != 0) = true := by simpa using h0
    clear h0
    go_enter Tryz.func26, Tryz.ntmps26
    go_wp2_with (go_at_call 48; refine (O _ HBts.out hlt).mono ?_; rintro e w2 ⟨v2, rfl, hown2, hg2⟩)
    refine bodyPost_ret (v := .tuple #[.slice none 0 0, .int .i64 er]) (by simp [results, Tryz.results26, go_sem]) rfl ⟨_, rfl, owns_nil _ _, hg2⟩

/-- What is made is opened, whatever stands behind. -/
theorem open_back {k : Int} {body rest : List Int} (h0 : 0 ≤ k) (h1 : k ≤ 255) (hl : body.length ≤ 65535) :
    opN (frL k body ++ rest) = body.length ∧ opE (frL k body ++ rest) = 0 ∧ opK (frL k body ++ rest) = k ∧ opB (frL k body ++ rest) = body ∧ opM (frL k body ++ rest) = body.length + 7 := by
  have e1 : frL k body ++ rest = leB k 1 ++ (leB body.length 2 ++ (body ++ (leB (crcOf (hdL k body)) 4 ++ rest))) := by simp [frL, hdL]
  have e2 : frL k body ++ rest = hdL k body ++ (leB (crcOf (hdL k body)) 4 ++ rest) := by simp [frL]
  have hn : opN (frL k body ++ rest) = body.length := by
    unfold opN
    rw [e1, List.drop_left' (leB_len k 1), List.take_left' (leB_len _ 2), leV_leB 2 (by omega) (by show _ < (65536 : Int); omega)]
    omega
  have hlen : (frL k body ++ rest).length = body.length + 7 + rest.length := by rw [List.length_append, frL_len]
  have he : opE (frL k body ++ rest) = 0 := by
    unfold opE
    rw [hn, if_neg (by omega)]
    rw [e2, List.drop_left' (hdL_len k body), List.take_left' (leB_len _ 4), List.take_left' (hdL_len k body), leV_leB 4 (by omega) (by have := crcOf_lt (hdL k body); show _ < (4294967296 : Int); omega), if_pos rfl]
  refine ⟨hn, he, ?_, ?_, ?_⟩
  · unfold opK
    rw [if_pos he, e1, List.take_left' (leB_len k 1), leV_leB 1 h0 (by show _ < (256 : Int); omega)]
  · unfold opB
    rw [if_pos he, hn, e1, show 3 = 1 + 2 from rfl, ← List.drop_drop, List.drop_left' (leB_len k 1), List.drop_left' (leB_len _ 2), List.take_left' rfl]
  · unfold opM
    rw [if_pos he, hn]

theorem getD_set {ys : List Int} {i j : Nat} {v : Int} (hi : i < ys.length) : (ys.set i v).getD j 0 = if j = i then v else ys.getD j 0 := by
  rw [List.getD_eq_getElem?_getD, List.getD_eq_getElem?_getD, List.getElem?_set]
  by_cases h : i = j
  · subst h; simp [hi]
  · have h2 : ¬ j = i := fun e => h e.symm
    simp [h, h2]

/-- With one byte turned it isn't, unless its size was turned. -/
theorem open_turned {xs : List Int} {i x d : Nat} (hB : Byts xs) (he : opE xs = 0) (hi : i < opN xs + 7) (h1 : i ≠ 1) (h2 : i ≠ 2) (hx : xs.getD i 0 = (x : Int)) (hd : d < 256) (hd0 : d ≠ 0) :
    opE (xs.set i ((x ^^^ d : Nat) : Int)) = 14 := by
  have hlen : opN xs + 7 ≤ xs.length := by
    unfold opE at he
    split at he
    · omega
    · omega
  have hV : leV ((xs.drop (opN xs + 3)).take 4) = (crcOf (xs.take (opN xs + 3)) : Nat) := by
    unfold opE at he
    rw [if_neg (by omega)] at he
    by_cases h : leV ((xs.drop (opN xs + 3)).take 4) = (crcOf (xs.take (opN xs + 3)) : Nat)
    · exact h
    · rw [if_neg h] at he; omega
  have hx8 : x < 256 := by
    obtain ⟨v, hv, hv2⟩ := getD_byte hB (show i < xs.length by omega)
    omega
  have hz : x ^^^ d < 256 := Nat.xor_lt_two_pow (n := 8) hx8 hd
  have hzx : x ^^^ d ≠ x := fun e => by
    have h : (x ^^^ d) ^^^ x = 0 := by rw [e, Nat.xor_self]
    rw [Nat.xor_comm x d, Nat.xor_assoc, Nat.xor_self, Nat.xor_zero] at h
    exact hd0 h
  have hB2 : Byts (xs.set i ((x ^^^ d : Nat) : Int)) := fun y hy => by
    rcases List.mem_or_eq_of_mem_set hy with h | h
    · exact hB y h
    · omega
  have hn : opN (xs.set i ((x ^^^ d : Nat) : Int)) = opN xs := by
    unfold opN
    congr 2
    rw [List.drop_set]
    split
    · rfl
    · rw [List.take_set_of_le (by omega)]
  have hb4 : Byts ((xs.drop (opN xs + 3)).take 4) := fun y hy => hB y (List.mem_of_mem_drop (List.mem_of_mem_take hy))
  have l4 : ((xs.drop (opN xs + 3)).take 4).length = 4 := by simp; omega
  unfold opE
  rw [hn, if_neg (by simp; omega), if_neg]
  intro hV2
  by_cases hi3 : i < opN xs + 3
  · have e : (xs.set i ((x ^^^ d : Nat) : Int)).drop (opN xs + 3) = xs.drop (opN xs + 3) := by rw [List.drop_set, if_pos hi3]
    rw [e, hV] at hV2
    have h4 : crcOf ((xs.set i ((x ^^^ d : Nat) : Int)).take (opN xs + 3)) ≠ crcOf (xs.take (opN xs + 3)) := by
      rw [List.take_set]
      refine crcOf_one (n := i) (x := x) (d := d) (by simp) (by simp; omega) (fun y hy => hB y (List.mem_of_mem_take hy)) (fun y hy => ?_) (fun j hj hne => ?_) ?_ ?_ hd hd0
      · rcases List.mem_or_eq_of_mem_set hy with h | h
        · exact hB y (List.mem_of_mem_take h)
        · omega
      · rw [getD_set (by simp; omega), if_neg hne]
      · rw [List.getD_eq_getElem?_getD, List.getElem?_take, if_pos hi3, ← List.getD_eq_getElem?_getD, hx]
      · rw [getD_set (by simp; omega), if_pos rfl]
    omega
  · have e : (xs.set i ((x ^^^ d : Nat) : Int)).take (opN xs + 3) = xs.take (opN xs + 3) := by rw [List.take_set_of_le (by omega)]
    rw [e, ← hV] at hV2
    have hb5 : Byts (((xs.set i ((x ^^^ d : Nat) : Int)).drop (opN xs + 3)).take 4) := fun y hy => hB2 y (List.mem_of_mem_drop (List.mem_of_mem_take hy))
    have l5 : (((xs.set i ((x ^^^ d : Nat) : Int)).drop (opN xs + 3)).take 4).length = 4 := by simp; omega
    have e1 := leB_leV hb4
    have e2 := leB_leV hb5
    rw [l4] at e1
    rw [l5, hV2, e1] at e2
    have e3 := congrArg (fun l => l.getD (i - (opN xs + 3)) 0) e2
    simp only [List.getD_eq_getElem?_getD, List.getElem?_take, List.getElem?_drop] at e3
    rw [if_pos (by omega), if_pos (by omega), show opN xs + 3 + (i - (opN xs + 3)) = i by omega, List.getElem?_set_self (by omega)] at e3
    rw [List.getD_eq_getElem?_getD] at hx
    rw [hx] at e3
    simp only [Option.getD_some] at e3
    omega

end Go.Proofs.YteionppcjgggiaaGreat

/-
  A ledger's bytes: what they are.
-/
namespace Go.Proofs.YteionppcjgggiaaGreat
set_option linter.unusedVariables false
set_option linter.unusedSimpArgs false
set_option maxRecDepth 100000
open Go.RowKit Go.Maps

/-- The key of a number is in a list of keys: so the number is in the list. -/
theorem any_key (xs : List Int) (x : Int) : (xs.map (Lit.int .i64)).any (fun y => y.sameKey (Lit.int .i64 x)) = decide (x ∈ xs) := by
  induction xs with
  | nil => simp
  | cons a r ih =>
    have e : (Lit.int .i64 a).sameKey (Lit.int .i64 x) = decide (a = x) := by simp [Lit.sameKey]
    rw [List.map_cons, List.any_cons, ih, e]
    by_cases h : a = x
    · subst h; simp
    · simp [h, Ne.symm h]
theorem addKey_map (acc : List Int) (x : Int) : addKey (acc.map (Lit.int .i64)) (Lit.int .i64 x) = (if x ∈ acc then acc else acc ++ [x]).map (Lit.int .i64) := by
  unfold addKey
  rw [any_key]
  by_cases h : x ∈ acc
  · simp [h]
  · simp [h]
theorem fold_len : ∀ (xs acc : List Int), acc.Nodup → ((xs.map (Lit.int .i64)).foldl addKey (acc.map (Lit.int .i64))).length ≤ acc.length + xs.length ∧
    (((xs.map (Lit.int .i64)).foldl addKey (acc.map (Lit.int .i64))).length = acc.length + xs.length ↔ (acc ++ xs).Nodup)
  | [], acc, h => by simp [h]
  | x :: r, acc, h => by
    simp only [List.map_cons, List.foldl_cons, addKey_map]
    by_cases hx : x ∈ acc
    · rw [if_pos hx]
      obtain ⟨h1, h2⟩ := fold_len r acc h
      refine ⟨by simp only [List.length_cons]; omega, ⟨fun e => ?_, fun hn => ?_⟩⟩
      · simp only [List.length_cons] at e; omega
      · exact absurd rfl ((List.nodup_append.1 hn).2.2 x hx x (by simp))
    · rw [if_neg hx]
      have h3 : (acc ++ [x]).Nodup := List.nodup_append.2 ⟨h, by simp, fun a ha b hb e => by simp at hb; subst hb; subst e; exact hx ha⟩
      obtain ⟨h1, h2⟩ := fold_len r (acc ++ [x]) h3
      simp only [List.length_append, List.length_cons, List.length_nil, List.append_assoc, List.cons_append, List.nil_append] at h1 h2 ⊢
      refine ⟨by omega, ?_⟩
      rw [← h2]
      constructor <;> intro e <;> omega
theorem repB_iff (xs : List Int) : repB xs = false ↔ xs.Nodup := by
  obtain ⟨h1, h2⟩ := fold_len xs [] (by simp)
  simp only [List.map_nil, List.length_nil, List.nil_append, Nat.zero_add] at h1 h2
  unfold repB
  rw [decide_eq_false_iff_not, ← h2]
  constructor <;> intro e <;> omega

theorem tenB_no (x : Ten) : tenB x noTen = true ↔ x.th = false ∧ x.ep = 0 ∧ x.sz = 0 ∧ x.sp = 0 ∧ x.bs = [] := by
  simp [tenB, noTen, and_assoc]
theorem rightT_iff {x : Ten} {m n p : Int} (hn : -9223372036854775000 ≤ n) (hn1 : n ≤ 9223372036854775807) : rightT x m n p = true ↔ tenOk x m n p := by
  have hw : wrap64 (n - 2) = n - 2 := by unfold wrap64; omega
  unfold rightT tenOk
  cases hth : x.th
  · simp only [hth, Bool.false_eq_true, if_false, tenB_no, false_implies, true_and, true_implies]
  · simp only [hth, if_true, inB, Bool.and_eq_true, decide_eq_true_eq, Bool.not_eq_true', List.any_eq_false, outB, true_implies, hw, Bool.true_eq_false, false_implies, and_true]
    constructor
    · rintro ⟨⟨⟨⟨h1, h2⟩, h3⟩, h4⟩, h5⟩
      exact ⟨h2.1, h2.2, h1, h3, by omega, fun b hb => by have := h5 b hb; omega⟩
    · rintro ⟨h1, h2, h3, h4, h5, h6⟩
      exact ⟨⟨⟨⟨h3, h1, h2⟩, h4⟩, by omega⟩, fun b hb => by have := h6 b hb; omega⟩
theorem someB_no (p : Nat → Bool) : someB p = false ↔ ∀ j, j < 4 → p j = false := by
  unfold someB
  constructor
  · intro h j hj
    simp only [Bool.or_eq_false_iff] at h
    obtain rfl | rfl | rfl | rfl : j = 0 ∨ j = 1 ∨ j = 2 ∨ j = 3 := by omega
    · exact h.1.1.1
    · exact h.1.1.2
    · exact h.1.2
    · exact h.2
  · intro h
    simp [h 0 (by omega), h 1 (by omega), h 2 (by omega), h 3 (by omega)]
/-- The program's word for it is the document's. -/
theorem rightL_iff {L : Led} {n p : Int} (hn : -9223372036854775000 ≤ n) (hn1 : n ≤ 9223372036854775807) : rightL L n p = true ↔ RightP L n p := by
  unfold rightL
  simp only [Bool.and_eq_true, Bool.not_eq_true', someB_no, repB_iff, inB, decide_eq_true_eq, wrongP, Bool.not_eq_false', rightT_iff hn hn1]
  constructor
  · rintro ⟨⟨⟨⟨h1, h2⟩, h3⟩, h4⟩, h5⟩
    exact ⟨h1, h2, h3, h5, h4⟩
  · rintro ⟨h1, h2, h3, h4, h5⟩
    exact ⟨⟨⟨⟨h1, h2⟩, h3⟩, h5⟩, h4⟩

/-- What a ledger's bytes say of a tenant. -/
def entL (x : Ten) : List Int := if x.th = true then [1] ++ (leB x.ep 4 ++ ([x.sz, x.sp, (x.bs.length : Int)] ++ x.bs)) else [0]
def bodyTo (L : Led) : Nat → List Int
  | 0 => leB L.gen 4 ++ leB L.eps 4
  | k + 1 => bodyTo L k ++ entL (L.t k)
def bodyL (L : Led) : List Int := bodyTo L 4

/-- Numbers of one byte. -/
def One (xs : List Int) : Prop := ∀ x ∈ xs, 0 ≤ x ∧ x ≤ 255
theorem One.byts {xs : List Int} (h : One xs) : Byts xs := fun x hx => by have := h x hx; omega
/-- A tenant whose numbers fit. -/
structure FitsT (x : Ten) : Prop where
  ep : 0 ≤ x.ep ∧ x.ep ≤ 4294967295
  sz : 0 ≤ x.sz ∧ x.sz ≤ 255
  sp : 0 ≤ x.sp ∧ x.sp ≤ 255
  len : x.bs.length ≤ 255
  bs : One x.bs
theorem leB_one {v : Int} (h0 : 0 ≤ v) (h1 : v ≤ 255) : leB v 1 = [v] := by
  simp [leB, List.range_succ]
  omega
theorem putL_one {xs : List Int} {v : Int} (h0 : 0 ≤ v) (h1 : v ≤ 255) : putL xs v 1 = xs ++ [v] := by
  have hf : fitsB v 1 = true := by simp [fitsB]; omega
  simp [putL, hf, leB_one h0 h1]
theorem putL_four {xs : List Int} {v : Int} (h0 : 0 ≤ v) (h1 : v ≤ 4294967295) : putL xs v 4 = xs ++ leB v 4 := by
  have hf : fitsB v 4 = true := by simp [fitsB]; omega
  simp [putL, hf]
theorem entL_byts {x : Ten} (h : x.th = true → FitsT x) : Byts (entL x) := by
  unfold entL
  split
  · rename_i ht
    have f := h ht
    have hl := f.len
    have h2 := f.sz
    have h3 := f.sp
    refine byts_append (fun y hy => by simp at hy; omega) (byts_append (leB_byts _ _) (byts_append (fun y hy => ?_) f.bs.byts))
    simp at hy
    omega
  · exact fun y hy => by simp at hy; omega
theorem entL_len {x : Ten} (h : x.th = true → FitsT x) : (entL x).length ≤ 263 := by
  unfold entL
  split
  · rename_i ht
    have := (h ht).len
    simp [leB_len]
    omega
  · simp
def FitsL (L : Led) : Prop := (0 ≤ L.gen ∧ L.gen ≤ 4294967295) ∧ (0 ≤ L.eps ∧ L.eps ≤ 4294967295) ∧ ∀ j, j < 4 → (L.t j).th = true → FitsT (L.t j)
theorem bodyTo_byts {L : Led} (h : FitsL L) : ∀ k, k ≤ 4 → Byts (bodyTo L k)
  | 0, _ => byts_append (leB_byts _ _) (leB_byts _ _)
  | k + 1, hk => byts_append (bodyTo_byts h k (by omega)) (entL_byts (h.2.2 k (by omega)))
theorem bodyTo_len {L : Led} (h : FitsL L) : ∀ k, k ≤ 4 → (bodyTo L k).length ≤ 8 + 263 * k
  | 0, _ => by simp [bodyTo, leB_len]
  | k + 1, hk => by
    have h1 := bodyTo_len h k (by omega)
    have h2 := entL_len (h.2.2 k (by omega))
    simp only [bodyTo, List.length_append]
    omega
theorem totS_need {s r p : Int} (h : totS s r p ≠ 0) : (1 ≤ s ∧ s ≤ 64) ∧ (0 ≤ r ∧ r ≤ 8) := by
  unfold totS at h
  split at h
  · rename_i hv
    simp [rightB, inB] at hv
    exact ⟨hv.1.1, hv.1.2⟩
  · exact absurd rfl h
/-- What may be, of blocks that one byte tells, fits. -/
theorem RightP.fits {L : Led} {n p : Int} (h : RightP L n p) (hn : n ≤ 256) (hn0 : -9223372036854775000 ≤ n) : FitsL L := by
  refine ⟨by have := h.gen; omega, by have := h.eps; omega, fun j hj ht => ?_⟩
  obtain ⟨h1, h2, h3, h4, h5, h6⟩ := (h.ten j hj).1 ht
  have he := h.eps
  obtain ⟨q1, q2⟩ := totS_need h3
  have hw : wrap64 (n - 2) = n - 2 := by unfold wrap64; omega
  rw [hw] at h5
  exact ⟨by omega, by omega, by omega, by omega, fun b hb => by have := h6 b hb; omega⟩

def snE (L : Led) (n p : Int) : Int := if rightL L (min n 256) p = true then 0 else 2
def snL (L : Led) (n p : Int) : List Int := if rightL L (min n 256) p = true then frL 76 (bodyL L) else []
theorem body_mk {L : Led} (h : FitsL L) : mkE 76 (bodyL L) = 0 ∧ mkL 76 (bodyL L) = frL 76 (bodyL L) := by
  have hl := bodyTo_len h 4 (by omega)
  have h0 : mkE 76 (bodyL L) = 0 := by
    unfold mkE
    rw [if_pos (by decide), if_pos (by show (bodyTo L 4).length ≤ 65535; omega)]
  exact ⟨h0, by unfold mkL; rw [if_pos h0]⟩

end Go.Proofs.YteionppcjgggiaaGreat

/-
  Package snap: putAll, putEntry, Bytes.
-/
namespace Go.Proofs.YteionppcjgggiaaGreat
set_option linter.unusedVariables false
set_option linter.unusedSimpArgs false
set_option maxRecDepth 100000
open Go.RowKit

/-- Bytes that are answered. -/
def GotB (w : World) (xs : List Int) (e : Ending) (w' : World) : Prop := ∃ v', e = .returned v' ∧ Bts w' v' xs ∧ Ext w w'

set_option maxHeartbeats 800000 in
theorem putAll_any (v0 rv : Value) (xs row : List Int) (w : World) (hb : Bts w v0 xs) (hI : Ints w rv row) (hf : One row) (hm : xs.length + row.length ≤ 1000000) :
    Calls Tryz.prog 77 #[v0, rv] w (GotB w (xs ++ row)) := by
  obtain ⟨ao, cap, b, off, rfl, hc⟩ := hI.form
  have HC := Lib.hid hc
  have HF := Lib.hid hf
  clear hc hf hI
  go_enter Tryz.func77, Tryz.ntmps77
  go_wp2
  go_loopw [0, 9] (fun o i wr => ∃ (k : Nat) (v : Value), k ≤ row.length ∧ v = o ∧ i = .int .i64 k ∧ Bts wr v (xs ++ row.take k) ∧ Ext w wr) (fun _ i _ => row.length - (intOf i).toNat)
  case atStart => exact ⟨0, _, by omega, rfl, rfl, by simpa using hb, Ext.refl w⟩
  case round =>
    obtain ⟨k, v, hk, hv, rfl, hB, hE⟩ := hrel
    subst hv
    by_cases hlt : k < row.length
    · obtain ⟨rfl, hcell⟩ := HC.out k hlt
      have hcell := hE.cell hcell (by simp)
      obtain ⟨x, hx⟩ : ∃ x, row.getD k 0 = x := ⟨_, rfl⟩
      have hx1 := HF.out _ (getD_mem0 hlt)
      rw [hx] at hcell hx1
      have P := put_is (n := 1) hB (by simp only [List.length_append, List.length_take]; omega) (by omega) (putL_one hx1.1 hx1.2)
      have HX := Lib.hid hx
      have HE := Lib.hid hE
      clear hx hE hB hb
      go_wp2_with (go_at_call 51; refine P.mono ?_; rintro e w2 ⟨v2, rfl, hown2, hg2⟩)
      go_roundw
      case rel => exact ⟨k + 1, _, by omega, rfl, by go_num, by rw [take_snocI hlt, HX.out, ← List.append_assoc]; exact Owns.bts rfl hown2, ext_trans HE.out hg2⟩
      case measure => simp [intOf]; omega
    · obtain rfl : k = row.length := by omega
      rw [List.take_length] at hB
      have HB := Lib.hid hB
      go_wp2
      go_ret
      exact ⟨_, rfl, HB.out, hE⟩

theorem ints_three (w : World) (x y z : Int) (T : TypeId) : Ints (w.alloc (.cells #[.int .i64 x, .int .i64 y, .int .i64 z] T)) (.slice (some ⟨w.heap.size, 0, none⟩) 3 3) [x, y, z] :=
  .inr (.inl ⟨w.heap.size, 0, 3, rfl, by simp, fun i hi => by
    have : i = 0 ∨ i = 1 ∨ i = 2 := by simp at hi; omega
    rcases this with rfl | rfl | rfl <;> simp⟩)

set_option maxHeartbeats 1600000 in
theorem putEntry_any (v0 vx : Value) (xs : List Int) (x : Ten) (w : World) (hb : Bts w v0 xs) (hI : Ints w vx x.bs) (hf : x.th = true → FitsT x) (hm : xs.length ≤ 900000) :
    Calls Tryz.prog 52 #[v0, .agg (tenC x vx)] w (GotB w (xs ++ entL x)) := by
  have hbt := Blk.new w 33 (tenC x vx)
  have hE0 := World.grownBy_alloc w (.cells (tenC x vx) 33) none
  have x0 := (hbt.cell 0).trans (ten_th _ _)
  have x1 := (hbt.cell 1).trans (ten_ep _ _)
  have x2 := (hbt.cell 2).trans (ten_sz _ _)
  have x3 := (hbt.cell 3).trans (ten_sp _ _)
  have x4 := (hbt.cell 4).trans (ten_bs _ _)
  obtain ⟨ao, cp, bb, oo, hvx, hc⟩ := hI.form
  obtain ⟨w1, hw1⟩ : ∃ v, w.alloc (.cells (tenC x vx) 33) = v := ⟨_, rfl⟩
  rw [hw1] at x0 x1 x2 x3 x4 hbt hE0
  have HB := Lib.hid (hb.kept hE0 (by simp))
  have HI := Lib.hid (hI.kept hE0 (by simp))
  have HE0 := Lib.hid hE0
  obtain ⟨xt, xe, xz, xp, xb⟩ := x
  simp only [] at x0 x1 x2 x3 x4 hvx HI hf
  obtain ⟨nx, hnx⟩ : ∃ n, xb.length = n := ⟨_, rfl⟩
  rw [hnx] at hvx
  have HNX := Lib.hid hnx
  clear hb hI hE0 hc hbt
  cases xt
  · rw [hvx] at hw1 ⊢
    clear x1 x2 x3 x4 hnx
    have P := fun wr (h : Ext w1 wr) => putAll_any v0 (.slice (some ⟨wr.heap.size, 0, none⟩) 1 1) xs [0] (wr.alloc (.cells #[.int .i64 0] 3)) (HB.out.kept (ext_trans h (World.grownBy_alloc wr _ none)) (by simp)) (ints_one wr 0 3) (fun y hy => by simp at hy; omega) (by simp; omega)
    have P1 := P w1 (Ext.refl w1)
    clear P
    go_enter Tryz.func52, Tryz.ntmps52
    go_wp2_with (go_at_call 77; refine P1.mono ?_; rintro e w2 ⟨v2, rfl, hB2, hE2⟩)
    go_ret
    exact ⟨_, rfl, hB2, ext_trans HE0.out (ext_trans (World.grownBy_alloc w1 (.cells #[.int .i64 0] 3) none) hE2)⟩
  · have HF := Lib.hid (hf rfl)
    have hq1 := HF.out.ep
    have hq2 := HF.out.sz
    have hq3 := HF.out.sp
    have hq4 := HF.out.len
    have hq5 := HF.out.bs
    simp only [] at hq1 hq2 hq3 hq4 hq5
    have P1 := fun wd (h : Ext w1 wd) => putAll_any v0 (.slice (some ⟨wd.heap.size, 0, none⟩) 1 1) xs [1] (wd.alloc (.cells #[.int .i64 1] 3)) (HB.out.kept (ext_trans h (World.grownBy_alloc wd _ none)) (by simp)) (ints_one wd 1 3) (fun y hy => by simp at hy; omega) (by simp; omega)
    have P2 := fun v2 w2 (h : Bts w2 v2 (xs ++ [1])) => put_is (v := xe) (n := 4) h (by simp; omega) (by omega) (putL_four hq1.1 hq1.2)
    have P3 := fun v3 w3 (h : Bts w3 v3 (xs ++ [1] ++ leB xe 4)) => putAll_any v3 (.slice (some ⟨w3.heap.size, 0, none⟩) 3 3) _ [xz, xp, (nx : Int)] (w3.alloc (.cells #[.int .i64 xz, .int .i64 xp, .int .i64 nx] 3)) (h.kept (World.grownBy_alloc w3 _ none) (by simp)) (ints_three w3 xz xp nx 3) (fun y hy => by simp at hy; omega) (by simp [leB_len]; omega)
    have P4 := fun v4 w4 (h : Bts w4 v4 (xs ++ [1] ++ leB xe 4 ++ [xz, xp, (nx : Int)])) (hw : Ext w1 w4) => putAll_any v4 vx _ xb w4 h (HI.out.kept hw (by simp)) hq5 (by simp [leB_len]; omega)
    rw [hvx] at x4 P4 hw1 ⊢
    clear hnx hq1 hq2 hq3 hq4 hq5 hf hvx HI
    go_enter Tryz.func52, Tryz.ntmps52
    go_wp2
    have hgd := Ext.drew w1
    have hS := hgd.cell x1 (by simp)
    refine region_line [(0, true), (3, true), (4, true), (1, false), (2, false), (5, false), (6, true)] (fun x => x.cell? ⟨w.heap.size, 1, none⟩ = some (.int .i64 xe)) (by kernel_rfl) (by kernel_rfl) (fun _ _ _ d _ h => by cases d <;> exact h) hS ?_
    generalize w1.drew = wd at hgd hS ⊢
    repeat (refine line_read (a' := ?_) rfl (by kernel_rfl) (by kernel_rfl) hS (fun x hx K hK => ?_) ?_; rotate_left; · go_wp2; exact hK)
    refine line_act (by rfl) (fun K hK => ?_)
    go_wp2
    replace hS := cell_past hS (.cells #[.int .i64 1] 3)
    refine hK _ _ _ hS (fun x hx => hx) ?_
    clear hK K
    refine line_act (by rfl) (fun K hK => ?_)
    go_wp2_with (go_at_call 77; refine (P1 wd hgd).mono ?_; rintro e w2 ⟨v2, rfl, hB2, hE2⟩)
    replace hS := hE2.cell hS (by simp)
    refine hK _ _ _ hS (fun x hx => hx) ?_
    clear hK K
    refine line_act (by rfl) (fun K hK => ?_)
    go_wp2_with (go_at_call 51; refine (P2 v2 w2 hB2).mono ?_; rintro e w3 ⟨v3, rfl, hown3, hg3⟩)
    replace hS := hg3.cell hS (by simp)
    refine hK _ _ _ hS (fun x hx => hx) ?_
    clear hK K
    repeat (refine line_read (a' := ?_) rfl (by kernel_rfl) (by kernel_rfl) hS (fun x hx K hK => ?_) ?_; rotate_left; · go_wp2; exact hK)
    refine line_end ?_
    have e3 : Ext w1 w3 := ext_trans hgd (ext_trans (World.grownBy_alloc wd (.cells #[.int .i64 1] 3) none) (ext_trans hE2 hg3))
    have y2 := e3.cell x2 (by simp)
    have y3 := e3.cell x3 (by simp)
    have y4 := e3.cell x4 (by simp)
    have HE3 := Lib.hid e3
    clear e3 hg3 hE2 hgd hS P1 P2 x0 x1 x2 x3
    go_wp2_with (first
      | (go_at_call 77; refine (P4 v4 w4 hB4 HE4.out).mono ?_; rintro e w5 ⟨v5, rfl, hB5, hE5⟩)
      | (go_at_call 77; refine (P3 v3 w3 (Owns.bts rfl hown3)).mono ?_; rintro e w4 ⟨v4, rfl, hB4, hE4⟩; have e4 := ext_trans HE3.out (ext_trans (World.grownBy_alloc w3 (.cells #[.int .i64 xz, .int .i64 xp, .int .i64 nx] 3) none) hE4); have HE4 := Lib.hid e4; have z4 := e4.cell x4 (by simp); clear e4 hE4))
    go_ret
    refine ⟨_, rfl, ?_, ext_trans HE0.out (ext_trans HE4.out hE5)⟩
    have e : xs ++ entL (⟨true, xe, xz, xp, xb⟩ : Ten) = xs ++ [1] ++ leB xe 4 ++ [xz, xp, (nx : Int)] ++ xb := by
      simp [entL, HNX.out]
    rw [e]
    exact hB5

set_option maxRecDepth 100000 in
set_option maxHeartbeats 1600000 in
theorem snapBytes_at (L : Led) (V : Nat → Value) (n m p : Int) (w : World) (hL : LedIs w L V) (hG : GoodL L) (hm : min n 256 = m) (hn0 : -9223372036854775000 ≤ n) (hn9 : n ≤ 9223372036854775807) :
    Calls Tryz.prog 31 #[.agg (ledC L V), .int .i64 n, .int .i64 p] w (MadeE w (if rightL L m p = true then frL 76 (bodyL L) else []) (if rightL L m p = true then 0 else 2)) := by
  have hb := Blk.new w 36 (ledC L V)
  have hE0 := World.grownBy_alloc w (.cells (ledC L V) 36) none
  obtain ⟨w1, hw1⟩ : ∃ v, w.alloc (.cells (ledC L V) 36) = v := ⟨_, rfl⟩
  rw [hw1] at hb hE0
  have C := check10_any L V m p w1 (hL.ext hE0) hG
  have HL := Lib.hid (hL.ext hE0)
  have HE0 := Lib.hid hE0
  have hmn : (n ≤ 256 ∧ m = n) ∨ (256 < n ∧ m = 256) := by omega
  have HR : rightL L m p = true → FitsL L := fun h => ((rightL_iff (by omega) (by omega)).1 h).fits (by omega) (by omega)
  clear hL hE0 hG hm
  cases hr : rightL L m p
  · rw [hr] at C
    simp only [Bool.false_eq_true, if_false] at C ⊢
    clear HR hr
    rcases hmn with ⟨h1, rfl⟩ | ⟨h1, rfl⟩
    all_goals
      go_enter Tryz.func31, Tryz.ntmps31
      go_wp2_with (first
        | (refine led_load _ rfl rfl hb rfl ?_)
        | (go_at_call 50; refine C.mono ?_; rintro e w2 ⟨rfl, hE2⟩))
      go_returns
      exact ⟨_, rfl, owns_nil _ _, ext_trans HE0.out hE2⟩
  · rw [hr] at C
    simp only [if_true] at C ⊢
    have hF := HR hr
    have HF := Lib.hid hF
    have g0 := hF.1
    have g1 := hF.2.1
    have P1 := fun wr => put_is (w := wr) (v0 := .slice none 0 0) (xs := []) (v := L.gen) (n := 4) (.inl ⟨rfl, rfl⟩) (by simp) (by omega) (putL_four g0.1 g0.2)
    have P2 := fun v2 wr (h : Bts wr v2 ([] ++ leB L.gen 4)) => put_is (v := L.eps) (n := 4) h (by simp [leB_len]) (by omega) (putL_four g1.1 g1.2)
    have M := fun v wr (h : Bts wr v (bodyL L)) => make_any 76 v (bodyL L) wr h (bodyTo_byts HF.out 4 (by omega)) (by have := bodyTo_len HF.out 4 (by omega); show (bodyTo L 4).length ≤ _; omega) (by decide)
    rw [(body_mk hF).1, (body_mk hF).2] at M
    have cg := (hb.cell 0).trans (led_gen L V)
    have ce := (hb.cell 1).trans (led_eps L V)
    obtain ⟨fin, hfin⟩ : ∃ z, frL 76 (bodyL L) = z := ⟨_, rfl⟩
    rw [hfin] at M ⊢
    have HFIN := Lib.hid hfin
    clear HR hr hF g0 g1 hfin
    rcases hmn with ⟨h1, rfl⟩ | ⟨h1, rfl⟩
    all_goals
      go_enter Tryz.func31, Tryz.ntmps31
      go_wp2_with (first
        | (refine led_load _ rfl rfl hb rfl ?_)
        | (go_at_call 50; refine C.mono ?_; rintro e w2 ⟨rfl, hE2⟩; have HE2 := Lib.hid hE2; have hb2 := hb.ext hE2; have c0 := hE2.cell cg (by simp); have c1 := hE2.cell ce (by simp); clear hE2 C cg ce))
      have hgd := Ext.drew w2
      have hS := And.intro (hgd.cell c0 (by simp)) (hgd.cell c1 (by simp))
      have hb3 := hb2.ext hgd
      have HE3 := Lib.hid (ext_trans HE2.out hgd)
      clear c0 c1
      refine region_line [(0, true), (1, true), (3, true), (4, true), (2, false), (5, false), (6, true)] (fun x => x.cell? ⟨w.heap.size, 0, none⟩ = some (.int .i64 L.gen) ∧ x.cell? ⟨w.heap.size, 1, none⟩ = some (.int .i64 L.eps)) (by kernel_rfl) (by kernel_rfl) (fun _ _ _ d _ h => by cases d <;> exact h) hS ?_
      generalize w2.drew = wd at hgd hS hb3 HE3 ⊢
      repeat (refine line_read (a' := ?_) rfl (by kernel_rfl) (by kernel_rfl) hS (fun x hx K hK => ?_) ?_; rotate_left; · obtain ⟨q0, q1⟩ := hx; go_wp2; exact hK)
      refine line_act (by rfl) (fun K hK => ?_)
      go_wp2_with (go_at_call 51; refine (P1 wd).mono ?_; rintro e w3 ⟨v3, rfl, hown3, hg3⟩)
      replace hS := And.intro (hg3.cell hS.1 (by simp)) (hg3.cell hS.2 (by simp))
      refine hK _ _ _ hS (fun x hx => hx) ?_
      clear hK K
      refine line_act (by rfl) (fun K hK => ?_)
      go_wp2_with (go_at_call 51; refine (P2 v3 w3 (Owns.bts rfl hown3)).mono ?_; rintro e w4 ⟨v4, rfl, hown4, hg4⟩)
      replace hS := And.intro (hg4.cell hS.1 (by simp)) (hg4.cell hS.2 (by simp))
      refine hK _ _ _ hS (fun x hx => hx) ?_
      clear hK K
      repeat (refine line_read (a' := ?_) rfl (by kernel_rfl) (by kernel_rfl) hS (fun x hx K hK => ?_) ?_; rotate_left; · obtain ⟨q0, q1⟩ := hx; go_wp2; exact hK)
      refine line_end ?_
      have hb4 := hb3.ext (ext_trans hg3 hg4)
      have HW4 := Lib.hid (And.intro (Owns.bts rfl hown4) (ext_trans HE3.out (ext_trans hg3 hg4)))
      clear hown4 hg3 hg4 hS hgd hb3 hb2 hown3
      go_wp2_with (refine tens_load _ rfl rfl hb4 rfl ?_)
      go_loopw [9, 28] (fun o i wr => ∃ (k : Nat) (v : Value), k ≤ 4 ∧ v = o ∧ i = .int .i64 k ∧ Bts wr v (bodyTo L k) ∧ Ext w1 wr) (fun _ i _ => 4 - (intOf i).toNat)
      case atStart => exact ⟨0, _, by omega, rfl, rfl, HW4.out.1, HW4.out.2⟩
      case round =>
        obtain ⟨k, v, hk, hv, rfl, hB, hE⟩ := hrel
        subst hv
        by_cases hlt : k < 4
        · have hix := tens_at L V hlt
          have hI := (HL.out k hlt).kept hE (by simp)
          have hS := hI.slice
          have hBn := Blk.new wr 33 zeroTC
          have HE := Lib.hid hE
          have P := fun w6 (h : Ext wr w6) => putEntry_any v (V k) _ (L.t k) w6 (hB.kept h (by simp)) (hI.kept h (by simp)) (HF.out.2.2 k hlt) (by have := bodyTo_len HF.out k (by omega); omega)
          clear hE hI hB hb4 hb M P1 P2
          go_wp2_with (first
            | (refine ten_store _ _ rfl rfl rfl hBn rfl hS rfl ?_; intro w6 hb6 hg6 hs6; clear hBn hs6; have HG6 := Lib.hid (grown_trans (World.grownBy_alloc wr (.cells zeroTC 33) none) hg6 (fun p hp hlt => by injection hp with hp; omega)); clear hg6)
            | (refine ten_load _ rfl rfl hb6 rfl ?_)
            | (go_at_call 52; refine (P w6 HG6.out).mono ?_; rintro e w7 ⟨v7, rfl, hB7, hE7⟩))
          go_roundw
          case rel => exact ⟨k + 1, _, by omega, rfl, by go_num, hB7, ext_trans HE.out (ext_trans HG6.out hE7)⟩
          case measure => simp [intOf]; omega
        · obtain rfl : k = 4 := by omega
          have HB := Lib.hid hB
          go_wp2_with (go_at_call 53; refine (M v wr HB.out).mono ?_; rintro e w8 ⟨v8, rfl, hown8, hg8⟩)
          go_returns
          exact ⟨_, rfl, ownsRow_le hown8 (by have := HE0.out.size; have := hE.size; omega), ext_trans HE0.out (ext_trans hE hg8)⟩

theorem snapBytes_any (L : Led) (V : Nat → Value) (n p : Int) (w : World) (hL : LedIs w L V) (hG : GoodL L) (hn0 : -9223372036854775000 ≤ n) (hn9 : n ≤ 9223372036854775807) :
    Calls Tryz.prog 31 #[.agg (ledC L V), .int .i64 n, .int .i64 p] w (MadeE w (snL L n p) (snE L n p)) := snapBytes_at L V n _ p w hL hG rfl hn0 hn9

end Go.Proofs.YteionppcjgggiaaGreat
