/-
  Package frame: Whole, and the document's; what is made is opened.
-/
import Derived.Test.YtjlecncamfdcfaaDoorFD
import Derived.Test.YtjlecncamfdcfaaDoorSN
namespace Go.Proofs.YtjlecncamfdcfaaDoor
open Go.RowKit

def whE (xs : List Int) (kind : Int) : Int := if opE xs = 0 then (if opM xs = xs.length ∧ opK xs = kind then 0 else 2) else opE xs
def whB (xs : List Int) (kind : Int) : List Int := if whE xs kind = 0 then opB xs else []

set_option maxRecDepth 100000 in
set_option maxHeartbeats 800000 in
theorem whole_any (v : Value) (xs : List Int) (kind : Int) (w : World) (hb : Bts w v xs) (hB : Byts xs) (hm : xs.length ≤ 140737488200000) :
    Calls Tryd.prog 20 #[v, .int .i64 kind] w (MadeE w (whB xs kind) (whE xs kind)) := by
  have O := fun w' hb => open_any v xs w' hb hB hm
  obtain ⟨er, her⟩ : ∃ e, opE xs = e := ⟨_, rfl⟩
  obtain ⟨kk, hkk⟩ : ∃ e, opK xs = e := ⟨_, rfl⟩
  obtain ⟨mm, hmm⟩ : ∃ e, opM xs = e := ⟨_, rfl⟩
  have HBts := Lib.hid hb
  obtain ⟨ao, cap, b, off, rfl, _⟩ := hb.sform
  unfold OpenP at O
  rw [her, hkk, hmm] at O
  unfold MadeE
  unfold whB whE
  rw [her, hkk, hmm]
  generalize opB xs = bs at *
  clear her hkk hmm hb hB
  by_cases h0 : er = 0
  · subst h0
    rw [if_pos rfl]
    by_cases hc : mm = xs.length ∧ kk = kind
    · obtain ⟨h1, rfl⟩ := hc
      rw [if_pos ⟨h1, rfl⟩, if_pos rfl]
      have h1' : (mm != (xs.length : Int)) = false := by simpa using h1
      clear h1
      go_enter Tryd.func20, Tryd.ntmps20
      go_wp2_with (go_at_call 36; refine (O _ HBts.out).mono ?_; rintro e w2 ⟨v2, rfl, hown2, hg2⟩)
      refine bodyPost_ret (v := .tuple #[v2, .int .i64 0]) (by simp [results, Tryd.results20, go_sem]) rfl ⟨v2, rfl, hown2, hg2⟩
    · rw [if_neg hc, if_neg (by decide)]
      have part : mm ≠ xs.length ∨ (mm = xs.length ∧ kk ≠ kind) := by omega
      clear hc
      rcases part with h1 | ⟨h1, h2⟩
      · have h1' : (mm != (xs.length : Int)) = true := by simpa using h1
        clear h1
        go_enter Tryd.func20, Tryd.ntmps20
        go_wp2_with (go_at_call 36; refine (O _ HBts.out).mono ?_; rintro e w2 ⟨v2, rfl, hown2, hg2⟩)
        refine bodyPost_ret (v := .tuple #[.slice none 0 0, .int .i64 2]) (by simp [results, Tryd.results20, go_sem]) rfl ⟨_, rfl, owns_nil _ _, hg2⟩
      · have h1' : (mm != (xs.length : Int)) = false := by simpa using h1
        have h2' : (kk != kind) = true := by simpa using h2
        clear h1 h2
        go_enter Tryd.func20, Tryd.ntmps20
        go_wp2_with (go_at_call 36; refine (O _ HBts.out).mono ?_; rintro e w2 ⟨v2, rfl, hown2, hg2⟩)
        refine bodyPost_ret (v := .tuple #[.slice none 0 0, .int .i64 2]) (by simp [results, Tryd.results20, go_sem]) rfl ⟨_, rfl, owns_nil _ _, hg2⟩
  · rw [if_neg h0, if_neg h0]
    have h0' : (er != 0) = true := by simpa using h0
    clear h0
    go_enter Tryd.func20, Tryd.ntmps20
    go_wp2_with (go_at_call 36; refine (O _ HBts.out).mono ?_; rintro e w2 ⟨v2, rfl, hown2, hg2⟩)
    refine bodyPost_ret (v := .tuple #[.slice none 0 0, .int .i64 er]) (by simp [results, Tryd.results20, go_sem]) rfl ⟨_, rfl, owns_nil _ _, hg2⟩

set_option maxRecDepth 100000 in
set_option maxHeartbeats 800000 in
theorem refWhole_any (v : Value) (xs : List Int) (kind : Int) (w : World) (hb : Bts w v xs) (hB : Byts xs) (hm : xs.length ≤ 140737488200000) (hlt : ∀ k, v.ownBlock = some k → k < w.heap.size) :
    Calls Tryd.prog 27 #[v, .int .i64 kind] w (MadeE w (whB xs kind) (whE xs kind)) := by
  have O := fun w' hb => refOpen_any v xs w' hb hB hm
  obtain ⟨er, her⟩ : ∃ e, opE xs = e := ⟨_, rfl⟩
  obtain ⟨kk, hkk⟩ : ∃ e, opK xs = e := ⟨_, rfl⟩
  obtain ⟨mm, hmm⟩ : ∃ e, opM xs = e := ⟨_, rfl⟩
  have HBts := Lib.hid hb
  obtain ⟨ao, cap, b, off, rfl, _⟩ := hb.sform
  unfold OpenP at O
  rw [her, hkk, hmm] at O
  unfold MadeE
  unfold whB whE
  rw [her, hkk, hmm]
  generalize opB xs = bs at *
  clear her hkk hmm hb hB
  by_cases h0 : er = 0
  · subst h0
    rw [if_pos rfl]
    by_cases hc : mm = xs.length ∧ kk = kind
    · obtain ⟨h1, rfl⟩ := hc
      rw [if_pos ⟨h1, rfl⟩, if_pos rfl]
      have h1' : (mm != (xs.length : Int)) = false := by simpa using h1
      clear h1
      go_enter Tryd.func27, Tryd.ntmps27
      go_wp2_with (go_at_call 40; refine (O _ HBts.out hlt).mono ?_; rintro e w2 ⟨v2, rfl, hown2, hg2⟩)
      refine bodyPost_ret (v := .tuple #[v2, .int .i64 0]) (by simp [results, Tryd.results27, go_sem]) rfl ⟨v2, rfl, hown2, hg2⟩
    · rw [if_neg hc, if_neg (by decide)]
      have part : mm ≠ xs.length ∨ (mm = xs.length ∧ kk ≠ kind) := by omega
      clear hc
      rcases part with h1 | ⟨h1, h2⟩
      · have h1' : (mm != (xs.length : Int)) = true := by simpa using h1
        clear h1
        go_enter Tryd.func27, Tryd.ntmps27
        go_wp2_with (go_at_call 40; refine (O _ HBts.out hlt).mono ?_; rintro e w2 ⟨v2, rfl, hown2, hg2⟩)
        refine bodyPost_ret (v := .tuple #[.slice none 0 0, .int .i64 2]) (by simp [results, Tryd.results27, go_sem]) rfl ⟨_, rfl, owns_nil _ _, hg2⟩
      · have h1' : (mm != (xs.length : Int)) = false := by simpa using h1
        have h2' : (kk != kind) = true := by simpa using h2
        clear h1 h2
        go_enter Tryd.func27, Tryd.ntmps27
        go_wp2_with (go_at_call 40; refine (O _ HBts.out hlt).mono ?_; rintro e w2 ⟨v2, rfl, hown2, hg2⟩)
        refine bodyPost_ret (v := .tuple #[.slice none 0 0, .int .i64 2]) (by simp [results, Tryd.results27, go_sem]) rfl ⟨_, rfl, owns_nil _ _, hg2⟩
  · rw [if_neg h0, if_neg h0]
    have h0' : (er != 0) = true := by simpa using h0
    clear h0
    go_enter Tryd.func27, Tryd.ntmps27
    go_wp2_with (go_at_call 40; refine (O _ HBts.out hlt).mono ?_; rintro e w2 ⟨v2, rfl, hown2, hg2⟩)
    refine bodyPost_ret (v := .tuple #[.slice none 0 0, .int .i64 er]) (by simp [results, Tryd.results27, go_sem]) rfl ⟨_, rfl, owns_nil _ _, hg2⟩

/-- What is made is opened, whatever stands behind. -/
theorem open_back {k : Int} {body rest : List Int} (h0 : 0 ≤ k) (h1 : k ≤ 255) (hl : body.length ≤ 65535) :
    opN (frL k body ++ rest) = body.length ∧ opE (frL k body ++ rest) = 0 ∧ opK (frL k body ++ rest) = k ∧ opB (frL k body ++ rest) = body ∧ opM (frL k body ++ rest) = body.length + 7 := by
  have e1 : frL k body ++ rest = leB k 1 ++ (leB body.length 2 ++ (body ++ (leB (crcOf (hdL k body)) 4 ++ rest))) := by simp [frL, hdL]
  have e2 : frL k body ++ rest = hdL k body ++ (leB (crcOf (hdL k body)) 4 ++ rest) := by simp [frL]
  have hn : opN (frL k body ++ rest) = body.length := by
    unfold opN
    rw [e1, List.drop_left' (leB_len k 1), List.take_left' (leB_len _ 2), leV_leB 2 (by omega) (by show _ < (65536 : Int); omega)]
    omega
  have hlen : (frL k body ++ rest).length = body.length + 7 + rest.length := by rw [List.length_append, frL_len]
  have he : opE (frL k body ++ rest) = 0 := by
    unfold opE
    rw [hn, if_neg (by omega)]
    rw [e2, List.drop_left' (hdL_len k body), List.take_left' (leB_len _ 4), List.take_left' (hdL_len k body), leV_leB 4 (by omega) (by have := crcOf_lt (hdL k body); show _ < (4294967296 : Int); omega), if_pos rfl]
  refine ⟨hn, he, ?_, ?_, ?_⟩
  · unfold opK
    rw [if_pos he, e1, List.take_left' (leB_len k 1), leV_leB 1 h0 (by show _ < (256 : Int); omega)]
  · unfold opB
    rw [if_pos he, hn, e1, show 3 = 1 + 2 from rfl, ← List.drop_drop, List.drop_left' (leB_len k 1), List.drop_left' (leB_len _ 2), List.take_left' rfl]
  · unfold opM
    rw [if_pos he, hn]

theorem getD_set {ys : List Int} {i j : Nat} {v : Int} (hi : i < ys.length) : (ys.set i v).getD j 0 = if j = i then v else ys.getD j 0 := by
  rw [List.getD_eq_getElem?_getD, List.getD_eq_getElem?_getD, List.getElem?_set]
  by_cases h : i = j
  · subst h; simp [hi]
  · have h2 : ¬ j = i := fun e => h e.symm
    simp [h, h2]

/-- With one byte turned it isn't, unless its size was turned. -/
theorem open_turned {xs : List Int} {i x d : Nat} (hB : Byts xs) (he : opE xs = 0) (hi : i < opN xs + 7) (h1 : i ≠ 1) (h2 : i ≠ 2) (hx : xs.getD i 0 = (x : Int)) (hd : d < 256) (hd0 : d ≠ 0) :
    opE (xs.set i ((x ^^^ d : Nat) : Int)) = 14 := by
  have hlen : opN xs + 7 ≤ xs.length := by
    unfold opE at he
    split at he
    · omega
    · omega
  have hV : leV ((xs.drop (opN xs + 3)).take 4) = (crcOf (xs.take (opN xs + 3)) : Nat) := by
    unfold opE at he
    rw [if_neg (by omega)] at he
    by_cases h : leV ((xs.drop (opN xs + 3)).take 4) = (crcOf (xs.take (opN xs + 3)) : Nat)
    · exact h
    · rw [if_neg h] at he; omega
  have hx8 : x < 256 := by
    obtain ⟨v, hv, hv2⟩ := getD_byte hB (show i < xs.length by omega)
    omega
  have hz : x ^^^ d < 256 := Nat.xor_lt_two_pow (n := 8) hx8 hd
  have hzx : x ^^^ d ≠ x := fun e => by
    have h : (x ^^^ d) ^^^ x = 0 := by rw [e, Nat.xor_self]
    rw [Nat.xor_comm x d, Nat.xor_assoc, Nat.xor_self, Nat.xor_zero] at h
    exact hd0 h
  have hB2 : Byts (xs.set i ((x ^^^ d : Nat) : Int)) := fun y hy => by
    rcases List.mem_or_eq_of_mem_set hy with h | h
    · exact hB y h
    · omega
  have hn : opN (xs.set i ((x ^^^ d : Nat) : Int)) = opN xs := by
    unfold opN
    congr 2
    rw [List.drop_set]
    split
    · rfl
    · rw [List.take_set_of_le (by omega)]
  have hb4 : Byts ((xs.drop (opN xs + 3)).take 4) := fun y hy => hB y (List.mem_of_mem_drop (List.mem_of_mem_take hy))
  have l4 : ((xs.drop (opN xs + 3)).take 4).length = 4 := by simp; omega
  unfold opE
  rw [hn, if_neg (by simp; omega), if_neg]
  intro hV2
  by_cases hi3 : i < opN xs + 3
  · have e : (xs.set i ((x ^^^ d : Nat) : Int)).drop (opN xs + 3) = xs.drop (opN xs + 3) := by rw [List.drop_set, if_pos hi3]
    rw [e, hV] at hV2
    have h4 : crcOf ((xs.set i ((x ^^^ d : Nat) : Int)).take (opN xs + 3)) ≠ crcOf (xs.take (opN xs + 3)) := by
      rw [List.take_set]
      refine crcOf_one (n := i) (x := x) (d := d) (by simp) (by simp; omega) (fun y hy => hB y (List.mem_of_mem_take hy)) (fun y hy => ?_) (fun j hj hne => ?_) ?_ ?_ hd hd0
      · rcases List.mem_or_eq_of_mem_set hy with h | h
        · exact hB y (List.mem_of_mem_take h)
        · omega
      · rw [getD_set (by simp; omega), if_neg hne]
      · rw [List.getD_eq_getElem?_getD, List.getElem?_take, if_pos hi3, ← List.getD_eq_getElem?_getD, hx]
      · rw [getD_set (by simp; omega), if_pos rfl]
    omega
  · have e : (xs.set i ((x ^^^ d : Nat) : Int)).take (opN xs + 3) = xs.take (opN xs + 3) := by rw [List.take_set_of_le (by omega)]
    rw [e, ← hV] at hV2
    have hb5 : Byts (((xs.set i ((x ^^^ d : Nat) : Int)).drop (opN xs + 3)).take 4) := fun y hy => hB2 y (List.mem_of_mem_drop (List.mem_of_mem_take hy))
    have l5 : (((xs.set i ((x ^^^ d : Nat) : Int)).drop (opN xs + 3)).take 4).length = 4 := by simp; omega
    have e1 := leB_leV hb4
    have e2 := leB_leV hb5
    rw [l4] at e1
    rw [l5, hV2, e1] at e2
    have e3 := congrArg (fun l => l.getD (i - (opN xs + 3)) 0) e2
    simp only [List.getD_eq_getElem?_getD, List.getElem?_take, List.getElem?_drop] at e3
    rw [if_pos (by omega), if_pos (by omega), show opN xs + 3 + (i - (opN xs + 3)) = i by omega, List.getElem?_set_self (by omega)] at e3
    rw [List.getD_eq_getElem?_getD] at hx
    rw [hx] at e3
    simp only [Option.getD_some] at e3
    omega

end Go.Proofs.YtjlecncamfdcfaaDoor
