/-
  The law WordReads: walked.
-/
import Derived.Test.YtbiegcclfckgnaaWM
import Derived.Test.YtbiegcclfckgnaaLine
import Derived.Deep.LoopGhost
namespace Go.Proofs.Ytbiegcclfckgnaa
open Go.RowKit

/-- The asks: kinds and numbers. -/
def Asks (w : World) (ao : Option Addr) (len : Nat) (ks ns : Nat → Int) : Prop :=
  (ao = none ∧ len = 0) ∨ ∃ b off, ao = some ⟨b, off, none⟩ ∧ b < w.heap.size ∧ ∀ i, i < len → w.cell? ⟨b, off + i * 2, none⟩ = some (.int .u8 (ks i)) ∧ w.cell? ⟨b, off + i * 2 + 1, none⟩ = some (.int .i64 (ns i))

structure Both (w wr : World) (br c br2 c2 : Nat) (xs : List Int) (e : Int) : Prop where
  r : RdIs 46 wr br c xs e
  q : RdIs 30 wr br2 c2 xs e
  byts : Byts xs
  below : Below w.heap.size w wr
  hbr : w.heap.size ≤ br
  hbr2 : w.heap.size ≤ br2
  ne : br ≠ br2
  ne1 : c ≠ br2
  ne2 : c2 ≠ br

theorem Both.alloc {w wr : World} {br c br2 c2 : Nat} {xs : List Int} {e : Int} (h : Both w wr br c br2 c2 xs e) (o : Obj) : Both w (wr.alloc o) br c br2 c2 xs e :=
  ⟨h.r.kept (World.grownBy_alloc wr o none) (by simp) (by simp), h.q.kept (World.grownBy_alloc wr o none) (by simp) (by simp), h.byts, h.below.alloc h.below.size o, h.hbr, h.hbr2, h.ne, h.ne1, h.ne2⟩

theorem Both.lts {w wr : World} {br c br2 c2 : Nat} {xs : List Int} {e : Int} (h : Both w wr br c br2 c2 xs e) : br ≠ wr.heap.size ∧ br2 ≠ wr.heap.size := by
  obtain ⟨v, h1, _⟩ := h.r
  obtain ⟨u, h2, _⟩ := h.q
  have h1 := (Array.getElem?_eq_some_iff.1 h1).1
  have h2 := (Array.getElem?_eq_some_iff.1 h2).1
  omega

theorem Both.drew {w wr : World} {br c br2 c2 : Nat} {xs : List Int} {e : Int} (h : Both w wr br c br2 c2 xs e) : Both w wr.drew br c br2 c2 xs e :=
  ⟨h.r, h.q, h.byts, h.below.drew, h.hbr, h.hbr2, h.ne, h.ne1, h.ne2⟩

def HasR (b : Nat) (v : Value) (e : Int) (x : World) : Prop := x.heap[b]? = some (.cells #[v, .int .i64 e] 30 (0, 0))

def HasN (b : Nat) (n : Int) (x : World) : Prop := x.cell? ⟨b, 1, none⟩ = some (.int .i64 n)
theorem HasN.cell {b : Nat} {n : Int} {x : World} (h : HasN b n x) : x.cell? ⟨b, 1, none⟩ = some (.int .i64 n) := h

theorem txtX_byts {m : Int} {xs : List Int} {e0 : Int} (hB : Byts xs) : Byts (txtX m xs e0) := by
  unfold txtX
  split
  · exact fun x hx => numX_byts hB x (List.mem_of_mem_drop hx)
  · exact numX_byts hB

set_option maxHeartbeats 1000000 in
theorem wordReads_few (ao : Option Addr) (cap : Nat) (xs : List Int) (b2 off2 len2 cap2 : Nat) (ks ns : Nat → Int) (w : World) (hb : Bts w (.slice ao xs.length cap) xs) (hB : Byts xs) (hlt : ∀ k, (Value.slice ao xs.length cap).ownBlock = some k → k < w.heap.size)
    (hl : ∀ i, i < len2 → w.cell? ⟨b2, off2 + i * 2, none⟩ = some (.int .u8 (ks i)) ∧ w.cell? ⟨b2, off2 + i * 2 + 1, none⟩ = some (.int .i64 (ns i))) (hl2 : b2 < w.heap.size) (hk : ∀ i, i < len2 → 0 ≤ ks i ∧ ks i ≤ 255)
    (hx : xs.length ≤ 500) (hy : len2 ≤ 100) :
    Calls Try.prog 3 #[.slice ao xs.length cap, .slice (some ⟨b2, off2, none⟩) len2 cap2] w (LawPost w) := by
  go_enter Try.func3, Try.ntmps3
  go_wp2_with (first
    | (go_at_call 6; refine (fixed_any _).mono ?_; rintro e w1 ⟨rfl, hb1, hz1⟩)
    | (go_at_call 7; refine (read_any _ xs _ (hb.below hb1 hlt) (by omega) (by omega)).mono ?_; rintro e w2 ⟨br, c, rfl, hR2, hg2, hl21, hl22, hl23⟩))
  obtain ⟨c2, hc2⟩ : ∃ n : Nat, n = (match (Value.slice ao xs.length cap).ownBlock with | some k => k | none => c) := ⟨_, rfl⟩
  have hB0 : Both w (w2.alloc (.cells #[.slice ao xs.length cap, .int .i64 0] 30)) br c w2.heap.size c2 xs 0 := by
    have hs1 := hb1.size
    have hs2 := hg2.size
    have hga := World.grownBy_alloc w2 (.cells #[.slice ao xs.length cap, .int .i64 0] 30) none
    have hb2 := bgrow hb1 hg2 (by simp)
    have hbt := (hb.below hb2 hlt).kept hga (by simp)
    have hne := hR2
    obtain ⟨_, _, _, _, hcb⟩ := hR2
    refine ⟨hne.kept hga (by simp) (by simp), ⟨_, heap_alloc_new w2 _, hbt, fun k hk => ?_, ?_⟩, hB, hb2.alloc hb2.size _, by omega, by omega, by omega, by omega, ?_⟩
    · rw [hc2, hk]
    · cases ho : (Value.slice ao xs.length cap).ownBlock with
      | none => rw [hc2, ho]; show c ≠ _; omega
      | some k => have := hlt k ho; rw [hc2, ho]; show k ≠ _; omega
    · cases ho : (Value.slice ao xs.length cap).ownBlock with
      | none => rw [hc2, ho]; exact hcb
      | some k => have := hlt k ho; rw [hc2, ho]; show k ≠ _; omega
  clear hc2
  go_loopw [27] (fun i wr => ∃ k : Nat, k ≤ len2 ∧ i = .int .i64 k ∧ ∃ ys e, Both w wr br c w2.heap.size c2 ys e) (fun i _ => len2 - (intOf i).toNat)
  case atStart => exact ⟨0, Nat.zero_le _, rfl, xs, 0, hB0⟩
  case round =>
    clear hB0
    obtain ⟨k, hkk, rfl, ys, e, hBo⟩ := hrel
    by_cases hlk : k < len2
    · obtain ⟨kv, hkv⟩ : ∃ n, n = ks k := ⟨_, rfl⟩
      obtain ⟨nv, hnv⟩ : ∃ n, n = ns k := ⟨_, rfl⟩
      have g1 : wr.cell? ⟨b2, off2 + k * 2, none⟩ = some (.int .u8 kv) := by rw [hkv]; exact (hBo.below.cell hl2).trans (hl k hlk).1
      have g2 : wr.cell? ⟨b2, off2 + k * 2 + 1, none⟩ = some (.int .i64 nv) := by rw [hnv]; exact (hBo.below.cell hl2).trans (hl k hlk).2
      have hkb : 0 ≤ kv ∧ kv ≤ 255 := by rw [hkv]; exact hk k hlk
      have hk0 : 0 ≤ kv := hkb.1
      have hk1 : kv ≤ 255 := hkb.2
      clear hkv hnv hkb hl hk
      have hcase : kv % 4 = 0 ∨ kv % 4 = 1 ∨ kv % 4 = 2 ∨ kv % 4 = 3 := by omega
      have hwa : ∀ wa : World, wa = wr.alloc (.cells #[.int .u8 kv, .int .i64 nv] 32) → Both w wa br c w2.heap.size c2 ys e ∧ wa.cell? ⟨wr.heap.size, 1, none⟩ = some (.int .i64 nv) ∧ br ≠ wr.heap.size ∧ w2.heap.size ≠ wr.heap.size := by
        rintro wa rfl
        exact ⟨hBo.alloc _, by rw [World.cell?_alloc_mark]; rfl, hBo.lts.1, hBo.lts.2⟩
      rcases hcase with h4 | h4 | h4 | h4
      · have c0 : (kv % 4 == 0) = true := by simp; omega
        clear h4
        go_wp2
        generalize hwe : wr.alloc (.cells #[.int .u8 kv, .int .i64 nv] 32) = wa
        obtain ⟨hBa, hcA, hnA, hnA2⟩ := hwa wa hwe.symm
        have hBy := hBa.byts
        clear hwa hwe g1 g2
        refine region_line [(0, true), (1, true), (2, true), (4, true), (5, true), (6, true), (3, false), (7, false), (8, true), (9, true)] (HasN wr.heap.size nv) (by kernel_rfl) (by kernel_rfl) (fun _ _ _ d _ h => by cases d <;> exact h) (show HasN wr.heap.size nv wa.drew from hcA) ?_
        have hS0 : HasN wr.heap.size nv wa.drew := hcA
        repeat (refine line_read (a' := ?_) rfl (by kernel_rfl) (by kernel_rfl) hS0 (fun x hx K hK => ?_) ?_; rotate_left; · have hx' := hx.cell; go_wp2; exact hK)
        refine line_act (by rfl) (fun K hK => ?_)
        go_wp2_with (go_at_call 8; refine (number_any br c ys e nv wa.drew (by exact hBa.r) hBy).mono ?_; rintro e1 w3 ⟨rfl, hr3, hg3⟩)
        have hS3 : HasN wr.heap.size nv w3 := hg3.cell hS0 (by simpa using hnA.symm)
        refine hK _ _ (HasN wr.heap.size nv) hS3 (fun x hx => hx) ?_
        clear hK K
        have hq3 : RdIs 30 w3 w2.heap.size c2 ys e := RdIs.kept (w := wa.drew) hBa.q hg3 (by simpa using hBa.ne.symm) (by simpa using hBa.ne2)
        refine line_act (by rfl) (fun K hK => ?_)
        go_wp2_with (go_at_call 9; refine (refNumber_any w2.heap.size c2 ys e nv w3 hq3 hBy).mono ?_; rintro e1 w4 ⟨rfl, hq4, hg4⟩)
        have hS4 : HasN wr.heap.size nv w4 := hg4.cell hS3 (by simpa using hnA2.symm)
        refine hK _ _ (HasN wr.heap.size nv) hS4 (fun x hx => hx) ?_
        clear hK K
        have hr4 := hr3.kept hg4 (by simpa using hBa.ne) (by simpa using hBa.ne1)
        have hBe : Both w w4 br c w2.heap.size c2 (numX nv ys e) (numE nv ys e) := ⟨hr4, hq4, numX_byts hBy, bgrow (bgrow hBa.below.drew hg3 (fun k hk => by cases hk; exact hBa.hbr)) hg4 (fun k hk => by cases hk; exact hBa.hbr2), hBa.hbr, hBa.hbr2, hBa.ne, hBa.ne1, hBa.ne2⟩
        obtain ⟨rv, hrv⟩ : ∃ r, r = numV nv ys e := ⟨_, rfl⟩
        rw [← hrv]
        clear hrv hr4 hq4 hr3 hq3 hg3 hg4
        repeat (refine line_read (a' := ?_) rfl (by kernel_rfl) (by kernel_rfl) hS4 (fun x hx K hK => ?_) ?_; rotate_left; · go_wp2; exact hK)
        refine line_end ?_
        go_wp2
        obtain ⟨zs, hzs⟩ : ∃ z, z = numX nv ys e := ⟨_, rfl⟩
        obtain ⟨e2, he2⟩ : ∃ z, z = numE nv ys e := ⟨_, rfl⟩
        rw [← hzs, ← he2] at hBe
        clear hzs he2
        obtain ⟨u, hu, hub, huc, hun⟩ := hBe.q
        obtain ⟨ao3, cap3, rfl⟩ := hub.shape
        have hS5 : HasR w2.heap.size (.slice ao3 zs.length cap3) e2 w4.drew := hu
        have hBd := hBe.drew
        clear hub huc hun hu hBe
        refine region_line [(0, true), (1, true), (2, true), (3, true), (5, true), (6, true), (7, true), (8, true), (9, true), (4, false), (10, true), (11, true)] (HasR w2.heap.size (.slice ao3 zs.length cap3) e2) (by kernel_rfl) (by kernel_rfl) (fun _ _ _ d _ h => by cases d <;> exact h) hS5 ?_
        repeat (refine line_read (a' := ?_) rfl (by kernel_rfl) (by kernel_rfl) hS5 (fun x hx K hK => ?_) ?_; rotate_left; · have hx' := two_cell0 hx; go_wp2; exact hK)
        refine line_act (by rfl) (fun K hK => ?_)
        go_wp2_with (go_at_call 16; refine (left_any br c zs e2 w4.drew (by exact hBd.r)).mono ?_; rintro e1 w' ⟨rfl, rfl⟩)
        refine hK _ _ (HasR w2.heap.size (.slice ao3 zs.length cap3) e2) hS5 (fun x hx => hx) ?_
        clear hK K
        repeat (refine line_read (a' := ?_) rfl (by kernel_rfl) (by kernel_rfl) hS5 (fun x hx K hK => ?_) ?_; rotate_left; · go_wp2; exact hK)
        refine line_end ?_
        go_wp2
        go_roundw
        case rel => exact ⟨k + 1, by omega, by go_num, zs, e2, hBd⟩
        case measure => simp [intOf]; omega
      · have c0 : (kv % 4 == 0) = false := by simp; omega
        have c1 : (kv % 4 == 1) = true := by simp; omega
        clear h4
        go_wp2
        generalize hwe : wr.alloc (.cells #[.int .u8 kv, .int .i64 nv] 32) = wa
        obtain ⟨hBa, hcA, hnA, hnA2⟩ := hwa wa hwe.symm
        have hBy := hBa.byts
        clear hwa hwe g1 g2
        refine region_line [(0, true), (1, true), (2, true), (4, true), (5, true), (6, true), (3, false), (7, false), (8, true), (9, true)] (HasN wr.heap.size nv) (by kernel_rfl) (by kernel_rfl) (fun _ _ _ d _ h => by cases d <;> exact h) (show HasN wr.heap.size nv wa.drew from hcA) ?_
        have hS0 : HasN wr.heap.size nv wa.drew := hcA
        repeat (refine line_read (a' := ?_) rfl (by kernel_rfl) (by kernel_rfl) hS0 (fun x hx K hK => ?_) ?_; rotate_left; · have hx' := hx.cell; go_wp2; exact hK)
        refine line_act (by rfl) (fun K hK => ?_)
        go_wp2_with (go_at_call 10; refine (rtext_any br c ys e nv wa.drew (by exact hBa.r) hBy).mono ?_; rintro e1 w3 ⟨rfl, hr3, hg3⟩)
        have hS3 : HasN wr.heap.size nv w3 := hg3.cell hS0 (by simpa using hnA.symm)
        refine hK _ _ (HasN wr.heap.size nv) hS3 (fun x hx => hx) ?_
        clear hK K
        have hq3 : RdIs 30 w3 w2.heap.size c2 ys e := RdIs.kept (w := wa.drew) hBa.q hg3 (by simpa using hBa.ne.symm) (by simpa using hBa.ne2)
        refine line_act (by rfl) (fun K hK => ?_)
        go_wp2_with (go_at_call 11; refine (refText_any' w2.heap.size c2 ys e nv w3 hq3 hBy).mono ?_; rintro e1 w4 ⟨rfl, hq4, hg4⟩)
        have hS4 : HasN wr.heap.size nv w4 := hg4.cell hS3 (by simpa using hnA2.symm)
        refine hK _ _ (HasN wr.heap.size nv) hS4 (fun x hx => hx) ?_
        clear hK K
        have hr4 := hr3.kept hg4 (by simpa using hBa.ne) (by simpa using hBa.ne1)
        have hBe : Both w w4 br c w2.heap.size c2 (txtX nv ys e) (txtE nv ys e) := ⟨hr4, hq4, txtX_byts hBy, bgrow (bgrow hBa.below.drew hg3 (fun k hk => by cases hk; exact hBa.hbr)) hg4 (fun k hk => by cases hk; exact hBa.hbr2), hBa.hbr, hBa.hbr2, hBa.ne, hBa.ne1, hBa.ne2⟩
        obtain ⟨rv, hrv⟩ : ∃ r, r = txtS nv ys e := ⟨_, rfl⟩
        rw [← hrv]
        clear hrv hr4 hq4 hr3 hq3 hg3 hg4
        repeat (refine line_read (a' := ?_) rfl (by kernel_rfl) (by kernel_rfl) hS4 (fun x hx K hK => ?_) ?_; rotate_left; · go_wp2; exact hK)
        refine line_end ?_
        go_wp2
        obtain ⟨zs, hzs⟩ : ∃ z, z = txtX nv ys e := ⟨_, rfl⟩
        obtain ⟨e2, he2⟩ : ∃ z, z = txtE nv ys e := ⟨_, rfl⟩
        rw [← hzs, ← he2] at hBe
        clear hzs he2
        obtain ⟨u, hu, hub, huc, hun⟩ := hBe.q
        obtain ⟨ao3, cap3, rfl⟩ := hub.shape
        have hS5 : HasR w2.heap.size (.slice ao3 zs.length cap3) e2 w4.drew := hu
        have hBd := hBe.drew
        clear hub huc hun hu hBe
        refine region_line [(0, true), (1, true), (2, true), (3, true), (5, true), (6, true), (7, true), (8, true), (9, true), (4, false), (10, true), (11, true)] (HasR w2.heap.size (.slice ao3 zs.length cap3) e2) (by kernel_rfl) (by kernel_rfl) (fun _ _ _ d _ h => by cases d <;> exact h) hS5 ?_
        repeat (refine line_read (a' := ?_) rfl (by kernel_rfl) (by kernel_rfl) hS5 (fun x hx K hK => ?_) ?_; rotate_left; · have hx' := two_cell0 hx; go_wp2; exact hK)
        refine line_act (by rfl) (fun K hK => ?_)
        go_wp2_with (go_at_call 16; refine (left_any br c zs e2 w4.drew (by exact hBd.r)).mono ?_; rintro e1 w' ⟨rfl, rfl⟩)
        refine hK _ _ (HasR w2.heap.size (.slice ao3 zs.length cap3) e2) hS5 (fun x hx => hx) ?_
        clear hK K
        repeat (refine line_read (a' := ?_) rfl (by kernel_rfl) (by kernel_rfl) hS5 (fun x hx K hK => ?_) ?_; rotate_left; · go_wp2; exact hK)
        refine line_end ?_
        go_wp2
        go_roundw
        case rel => exact ⟨k + 1, by omega, by go_num, zs, e2, hBd⟩
        case measure => simp [intOf]; omega
      · have c0 : (kv % 4 == 0) = false := by simp; omega
        have c1 : (kv % 4 == 1) = false := by simp; omega
        have c2' : (kv % 4 == 2) = true := by simp; omega
        clear h4
        have hBa := (hwa _ rfl).1
        have hBy := hBa.byts
        go_wp2_with (first
          | (go_at_call 12; refine (flag_any br c ys e _ hBa.r hBy).mono ?_; rintro e1 w3 ⟨rfl, hr3, hg3⟩)
          | (go_at_call 13; refine (refFlag_any w2.heap.size c2 ys e w3 (RdIs.kept hBa.q hg3 (by simpa using hBa.ne.symm) (by simpa using hBa.ne2)) hBy).mono ?_; rintro e1 w4 ⟨rfl, hq4, hg4⟩))
        have hr4 := hr3.kept hg4 (by simpa using hBa.ne) (by simpa using hBa.ne1)
        have hBe : Both w w4 br c w2.heap.size c2 (numX 1 ys e) (flagE ys e) := ⟨hr4, hq4, numX_byts hBy, bgrow (bgrow hBa.below hg3 (fun k hk => by cases hk; exact hBa.hbr)) hg4 (fun k hk => by cases hk; exact hBa.hbr2), hBa.hbr, hBa.hbr2, hBa.ne, hBa.ne1, hBa.ne2⟩
        clear hr4 hq4 hr3 hg3 hg4 hwa g1 g2
        obtain ⟨zs, hzs⟩ : ∃ z, z = numX 1 ys e := ⟨_, rfl⟩
        obtain ⟨e2, he2⟩ : ∃ z, z = flagE ys e := ⟨_, rfl⟩
        rw [← hzs, ← he2] at hBe
        clear hzs he2
        obtain ⟨u, hu, hub, huc, hun⟩ := hBe.q
        obtain ⟨ao3, cap3, rfl⟩ := hub.shape
        have hS5 : HasR w2.heap.size (.slice ao3 zs.length cap3) e2 w4.drew := hu
        have hBd := hBe.drew
        clear hub huc hun hu hBe
        refine region_line [(0, true), (1, true), (2, true), (3, true), (5, true), (6, true), (7, true), (8, true), (9, true), (4, false), (10, true), (11, true)] (HasR w2.heap.size (.slice ao3 zs.length cap3) e2) (by kernel_rfl) (by kernel_rfl) (fun _ _ _ d _ h => by cases d <;> exact h) hS5 ?_
        repeat (refine line_read (a' := ?_) rfl (by kernel_rfl) (by kernel_rfl) hS5 (fun x hx K hK => ?_) ?_; rotate_left; · have hx' := two_cell0 hx; go_wp2; exact hK)
        refine line_act (by rfl) (fun K hK => ?_)
        go_wp2_with (go_at_call 16; refine (left_any br c zs e2 w4.drew (by exact hBd.r)).mono ?_; rintro e1 w' ⟨rfl, rfl⟩)
        refine hK _ _ (HasR w2.heap.size (.slice ao3 zs.length cap3) e2) hS5 (fun x hx => hx) ?_
        clear hK K
        repeat (refine line_read (a' := ?_) rfl (by kernel_rfl) (by kernel_rfl) hS5 (fun x hx K hK => ?_) ?_; rotate_left; · go_wp2; exact hK)
        refine line_end ?_
        go_wp2
        go_roundw
        case rel => exact ⟨k + 1, by omega, by go_num, zs, e2, hBd⟩
        case measure => simp [intOf]; omega
      · have c0 : (kv % 4 == 0) = false := by simp; omega
        have c1 : (kv % 4 == 1) = false := by simp; omega
        have c2' : (kv % 4 == 2) = false := by simp; omega
        have c3 : (kv % 4 == 3) = true := by simp; omega
        clear h4
        have hBa := (hwa _ rfl).1
        have hBy := hBa.byts
        go_wp2_with (first
          | (go_at_call 14; refine (done_any br c ys e _ hBa.r).mono ?_; rintro e1 w3 ⟨rfl, hr3, hg3⟩)
          | (go_at_call 15; refine (refDone_any w2.heap.size c2 ys e w3 (RdIs.kept hBa.q hg3 (by simpa using hBa.ne.symm) (by simpa using hBa.ne2))).mono ?_; rintro e1 w4 ⟨rfl, hq4, hg4⟩))
        have hr4 := hr3.kept hg4 (by simpa using hBa.ne) (by simpa using hBa.ne1)
        have hBe : Both w w4 br c w2.heap.size c2 (ys) (doneE ys e) := ⟨hr4, hq4, hBy, bgrow (bgrow hBa.below hg3 (fun k hk => by cases hk; exact hBa.hbr)) hg4 (fun k hk => by cases hk; exact hBa.hbr2), hBa.hbr, hBa.hbr2, hBa.ne, hBa.ne1, hBa.ne2⟩
        clear hr4 hq4 hr3 hg3 hg4 hwa g1 g2
        obtain ⟨zs, hzs⟩ : ∃ z, z = ys := ⟨_, rfl⟩
        obtain ⟨e2, he2⟩ : ∃ z, z = doneE ys e := ⟨_, rfl⟩
        rw [← he2] at hBe
        rw [← hzs] at hBe
        clear hzs he2
        obtain ⟨u, hu, hub, huc, hun⟩ := hBe.q
        obtain ⟨ao3, cap3, rfl⟩ := hub.shape
        have hS5 : HasR w2.heap.size (.slice ao3 zs.length cap3) e2 w4.drew := hu
        have hBd := hBe.drew
        clear hub huc hun hu hBe
        refine region_line [(0, true), (1, true), (2, true), (3, true), (5, true), (6, true), (7, true), (8, true), (9, true), (4, false), (10, true), (11, true)] (HasR w2.heap.size (.slice ao3 zs.length cap3) e2) (by kernel_rfl) (by kernel_rfl) (fun _ _ _ d _ h => by cases d <;> exact h) hS5 ?_
        repeat (refine line_read (a' := ?_) rfl (by kernel_rfl) (by kernel_rfl) hS5 (fun x hx K hK => ?_) ?_; rotate_left; · have hx' := two_cell0 hx; go_wp2; exact hK)
        refine line_act (by rfl) (fun K hK => ?_)
        go_wp2_with (go_at_call 16; refine (left_any br c zs e2 w4.drew (by exact hBd.r)).mono ?_; rintro e1 w' ⟨rfl, rfl⟩)
        refine hK _ _ (HasR w2.heap.size (.slice ao3 zs.length cap3) e2) hS5 (fun x hx => hx) ?_
        clear hK K
        repeat (refine line_read (a' := ?_) rfl (by kernel_rfl) (by kernel_rfl) hS5 (fun x hx K hK => ?_) ?_; rotate_left; · go_wp2; exact hK)
        refine line_end ?_
        go_wp2
        go_roundw
        case rel => exact ⟨k + 1, by omega, by go_num, zs, e2, hBd⟩
        case measure => simp [intOf]; omega
    · have hke : k = len2 := by omega
      subst hke
      go_wp2_with (first
        | (go_at_call 14; refine (done_any br c ys e _ hBo.r).mono ?_; rintro e1 w3 ⟨rfl, hr3, hg3⟩)
        | (go_at_call 15; refine (refDone_any w2.heap.size c2 ys e w3 (RdIs.kept hBo.q hg3 (by simpa using hBo.ne.symm) (by simpa using hBo.ne2))).mono ?_; rintro e1 w4 ⟨rfl, hq4, hg4⟩))
      go_ret
      exact ⟨ret_bool (by simp), bgrow (bgrow hBo.below hg3 (fun k hk => by cases hk; exact hBo.hbr)) hg4 (fun k hk => by cases hk; exact hBo.hbr2)⟩

end Go.Proofs.Ytbiegcclfckgnaa
