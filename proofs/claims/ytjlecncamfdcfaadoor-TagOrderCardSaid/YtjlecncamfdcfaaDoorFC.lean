/-
  The document's Open (layer 3).
-/
import Derived.Test.YtjlecncamfdcfaaDoorFB
namespace Go.Proofs.YtjlecncamfdcfaaDoor
open Go.RowKit

theorem leB_cons (v : Int) (n : Nat) : leB v (n + 1) = (v % 256) :: leB (v / 256) n := by
  simp only [leB, List.range_succ_eq_map, List.map_cons, List.map_map, Int.pow_zero, Int.ediv_one]
  congr 1
  apply List.map_congr_left
  intro k _
  simp only [Function.comp, Nat.succ_eq_add_one]
  rw [Int.pow_succ, Int.mul_comm, Int.ediv_ediv_of_nonneg (by decide)]
theorem leB_leV : ∀ {ys : List Int}, Byts ys → leB (leV ys) ys.length = ys
  | [], _ => by simp [leB]
  | b :: l, h => by
    have hb := h b (by simp)
    have hl := leV_bd l (fun x hx => h x (by simp [hx]))
    rw [List.length_cons, leB_cons]
    simp only [leV]
    rw [show (b + 256 * leV l) % 256 = b by omega, show (b + 256 * leV l) / 256 = leV l by omega, leB_leV (fun x hx => h x (by simp [hx]))]
theorem leV_leB : ∀ (n : Nat) {v : Int}, 0 ≤ v → v < 256 ^ n → leV (leB v n) = v
  | 0, v, h0, h1 => by simp [leB, leV]; simp at h1; omega
  | n + 1, v, h0, h1 => by
    rw [leB_cons]
    simp only [leV]
    have h2 : v / 256 < 256 ^ n := by rw [Int.pow_succ] at h1; omega
    rw [leV_leB n (by omega) h2]
    omega
theorem take_split {xs : List Int} (m n : Nat) : xs.take (m + n) = xs.take m ++ (xs.drop m).take n := by rw [List.take_add]

theorem head_eq {xs : List Int} (hB : Byts xs) (h : opN xs + 7 ≤ xs.length) : hdL (leV (xs.take 1)) ((xs.drop 3).take (opN xs)) = xs.take (opN xs + 3) := by
  have b1 : Byts (xs.take 1) := fun x hx => hB x (List.mem_of_mem_take hx)
  have b2 : Byts ((xs.drop 1).take 2) := fun x hx => hB x (List.mem_of_mem_drop (List.mem_of_mem_take hx))
  have l1 : (xs.take 1).length = 1 := by simp; omega
  have l2 : ((xs.drop 1).take 2).length = 2 := by simp; omega
  have l3 : ((xs.drop 3).take (opN xs)).length = opN xs := by simp; omega
  have e1 := leB_leV b1
  have e2 := leB_leV b2
  rw [l1] at e1
  rw [l2] at e2
  have h0 := (leV_bd _ b2).1
  have hn : ((opN xs : Nat) : Int) = leV ((xs.drop 1).take 2) := by unfold opN; omega
  unfold hdL
  rw [l3, hn, e1, e2, Nat.add_comm (opN xs) 3, take_split 3, show xs.take 3 = xs.take 1 ++ (xs.drop 1).take 2 from take_split 1 2, List.append_assoc]

theorem frame_eq {xs : List Int} (hB : Byts xs) (h : opN xs + 7 ≤ xs.length) : frL (leV (xs.take 1)) ((xs.drop 3).take (opN xs)) = xs.take (opN xs + 7) ↔ leV ((xs.drop (opN xs + 3)).take 4) = (crcOf (xs.take (opN xs + 3)) : Nat) := by
  unfold frL
  rw [head_eq hB h, show opN xs + 7 = opN xs + 3 + 4 from rfl, take_split (opN xs + 3) 4]
  have b4 : Byts ((xs.drop (opN xs + 3)).take 4) := fun x hx => hB x (List.mem_of_mem_drop (List.mem_of_mem_take hx))
  have l4 : ((xs.drop (opN xs + 3)).take 4).length = 4 := by simp; omega
  have hc := crcOf_lt (xs.take (opN xs + 3))
  generalize crcOf (xs.take (opN xs + 3)) = C at *
  generalize (xs.drop (opN xs + 3)).take 4 = zs at *
  constructor
  · intro e
    have e := List.append_cancel_left e
    rw [← e]
    exact leV_leB 4 (by omega) (by show (C : Int) < 4294967296; omega)
  · intro e
    have e2 := leB_leV b4
    rw [l4, e] at e2
    rw [e2]
theorem str_beq {xs ys : List Int} (hx : Byts xs) (hy : Byts ys) : ((strOfNums xs).toList == (strOfNums ys).toList) = decide (xs = ys) := by
  by_cases h : xs = ys
  · subst h; simp
  · simp only [h, decide_false, beq_eq_false_iff_ne, ne_eq]
    intro e
    rw [ByteArray.toList_eq, ByteArray.toList_eq] at e
    have e2 : byt (strOfNums xs) = byt (strOfNums ys) := by unfold byt; rw [e]
    rw [byt_str hx, byt_str hy] at e2
    exact h e2
theorem str_inj {xs ys : List Int} (hx : Byts xs) (hy : Byts ys) (h : strOfNums xs = strOfNums ys) : xs = ys := by rw [← byt_str hx, ← byt_str hy, h]

set_option maxRecDepth 100000 in
set_option maxHeartbeats 1600000 in
theorem refOpen_short (v : Value) (xs : List Int) (w : World) (hb : Bts w v xs) (hB : Byts xs) (hm : xs.length ≤ 140737488200000) (hlt : ∀ k, v.ownBlock = some k → k < w.heap.size) (h3 : xs.length < 3) :
    Calls Tryd.prog 40 #[v] w (OpenP w xs) := by
  obtain ⟨e1, e2, e3, e4⟩ := open_short (xs := xs) (by omega)
  unfold OpenP
  rw [e1, e2, e3, e4]
  clear e1 e2 e3 e4
  obtain ⟨k1, hk1⟩ : ∃ k, numV 1 xs 0 = k := ⟨_, rfl⟩
  obtain ⟨x1, hx1⟩ : ∃ k, numX 1 xs 0 = k := ⟨_, rfl⟩
  obtain ⟨r1, hr1⟩ : ∃ k, numE 1 xs 0 = k := ⟨_, rfl⟩
  have b1 : Byts x1 := by
    rw [← hx1]; unfold numX; split
    · exact fun x hx => hB x (List.mem_of_mem_drop hx)
    · exact hB
  obtain ⟨k2, hk2⟩ : ∃ k, numV 2 x1 r1 = k := ⟨_, rfl⟩
  obtain ⟨x2, hx2⟩ : ∃ k, numX 2 x1 r1 = k := ⟨_, rfl⟩
  have hr2 : numE 2 x1 r1 = 2 := by
    by_cases h0 : xs.length = 0
    · have e := (num_short (m := 1) (xs := xs) rfl (by omega)).2.2
      have : r1 = 2 := by rw [← hr1]; exact e
      rw [this]; rfl
    · obtain ⟨_, e2, e1⟩ := num_ok (n := 1) (xs := xs) rfl (by omega)
      have e1 : r1 = 0 := by rw [← hr1]; exact e1
      have e3 : x1.length = xs.length - 1 := by rw [← hx1, e2]; simp
      rw [e1]
      exact (num_short (m := 2) (xs := x1) rfl (by omega)).2.2
  have hk2' : 0 ≤ k2 ∧ k2 ≤ 65536 := by
    have : k2 = 0 := by
      rw [← hk2]
      unfold numV
      rw [if_neg]
      rintro ⟨h1, h2, h4⟩
      rw [h1, (num_ok h2 h4).2.2] at hr2
      omega
    omega
  have H1 := Lib.hid (And.intro hk1 (And.intro hx1 hr1))
  have H2 := Lib.hid (And.intro hk2 (And.intro hx2 hr2))
  have HB := Lib.hid (And.intro hB b1)
  have hR : ∃ c, RdIs 52 (w.alloc (.cells #[v, .int .i64 0] 52)) w.heap.size c xs 0 := by
    have hga := World.grownBy_alloc w (.cells #[v, .int .i64 0] 52) none
    cases ho : v.ownBlock with
    | none => exact ⟨w.heap.size + 1, v, heap_alloc_new w _, hb.kept hga (by simp), fun k hk => (by rw [ho] at hk; cases hk), by omega⟩
    | some c =>
      exact ⟨c, v, heap_alloc_new w _, hb.kept hga (by simp), fun k hk => (by rw [ho] at hk; cases hk; rfl), Nat.ne_of_lt (hlt c ho)⟩
  obtain ⟨c, hR0⟩ := hR
  have HR := Lib.hid hR0
  obtain ⟨ao, cap, rfl⟩ := hb.shape
  clear hk1 hx1 hr1 hk2 hx2 hr2 hB b1 hb hR0 hlt
  go_enter Tryd.func40, Tryd.ntmps40
  go_wp2_with (first
    | (go_at_call 28; refine (refNumber_is hR2 HB.out.2 H2.out.1 H2.out.2.1 H2.out.2.2).mono ?_; rintro e w3 ⟨rfl, ⟨v3, hr3, hv3, hc3, hne3⟩, hg3⟩; have q1 := two_cell1 hr3)
    | (go_at_call 28; refine (refNumber_is HR.out HB.out.1 H1.out.1 H1.out.2.1 H1.out.2.2).mono ?_; rintro e w2 ⟨rfl, hR2, hg2⟩))
  have hgr := grown_trans (grown_trans (World.grownBy_alloc w (.cells #[.slice ao xs.length cap, .int .i64 0] 52) none) hg2 (fun k hk h => by cases hk; omega)) hg3 (fun k hk h => by cases hk; omega)
  refine bodyPost_ret (v := .tuple #[.int .i64 0, .slice none 0 0, .int .i64 0, .int .i64 2]) (by simp [results, Tryd.results40, go_sem]) rfl ⟨_, rfl, owns_nil _ _, hgr⟩

end Go.Proofs.YtjlecncamfdcfaaDoor
