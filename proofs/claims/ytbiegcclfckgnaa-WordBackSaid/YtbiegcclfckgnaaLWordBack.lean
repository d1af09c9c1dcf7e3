/-
  The law WordBack: walked.
-/
import Derived.Test.YtbiegcclfckgnaaWM
import Derived.Deep.RegionWith
namespace Go.Proofs.Ytbiegcclfckgnaa
open Go.RowKit

theorem leB_byts (v : Int) (n : Nat) : Byts (leB v n) := by
  intro x hx
  simp only [leB, List.mem_map] at hx
  obtain ⟨k, _, rfl⟩ := hx
  omega

theorem byt_byts (s : ByteArray) : Byts (byt s) := by
  intro x hx
  simp only [byt, List.mem_map] at hx
  obtain ⟨k, _, rfl⟩ := hx
  have := k.toNat_lt
  omega

theorem byts_append {a b : List Int} (h1 : Byts a) (h2 : Byts b) : Byts (a ++ b) := by
  intro x hx
  rcases List.mem_append.1 hx with h | h
  · exact h1 x h
  · exact h2 x h

theorem leB4 (v : Int) : leB v 4 = [v % 256, v / 256 % 256, v / 65536 % 256, v / 16777216 % 256] := by simp [leB, List.range_succ]
theorem leB2 (v : Int) : leB v 2 = [v % 256, v / 256 % 256] := by simp [leB, List.range_succ]
theorem leB1 (v : Int) : leB v 1 = [v % 256] := by simp [leB, List.range_succ]
theorem leV_leB4 (v : Int) (h0 : 0 ≤ v) (h1 : v < 4294967296) : leV (leB v 4) = v := by rw [leB4]; simp only [leV]; omega
theorem leV_leB2 (v : Int) (h0 : 0 ≤ v) (h1 : v < 65536) : leV (leB v 2) = v := by rw [leB2]; simp only [leV]; omega
theorem leV_leB1 (v : Int) (h0 : 0 ≤ v) (h1 : v < 256) : leV (leB v 1) = v := by rw [leB1]; simp only [leV]; omega

theorem strOfNums_byt (s : ByteArray) : strOfNums (byt s) = s := by
  have h : (strOfNums (byt s)).data = s.data := by
    apply Array.ext'
    rw [strOfNums_data, byt, List.map_map]
    conv => rhs; rw [← List.map_id s.data.toList]
    apply List.map_congr_left
    intro c _
    simp
  cases s
  cases hs : strOfNums (byt _)
  rw [hs] at h
  simp at h
  rw [h]

/-- What is put first is read first. -/
theorem num_front {n : Nat} {v : Int} {r : List Int} (hs : n = 1 ∨ n = 2 ∨ n = 4) (h0 : 0 ≤ v) (h1 : v < 256 ^ n) : numV n (leB v n ++ r) 0 = v ∧ numX n (leB v n ++ r) 0 = r ∧ numE n (leB v n ++ r) 0 = 0 := by
  have hl : n ≤ (leB v n ++ r).length := by simp [leB_len]
  have hl' : (n : Int) ≤ ((leB v n ++ r).length : Int) := by omega
  have hz : sizeB n = true := by simp [sizeB]; omega
  have ht : (leB v n ++ r).take n = leB v n := by rw [List.take_left' (leB_len v n)]
  have hd : (leB v n ++ r).drop n = r := by rw [List.drop_left' (leB_len v n)]
  have hv : leV (leB v n) = v := by
    rcases hs with rfl | rfl | rfl
    · exact leV_leB1 v h0 (by simpa using h1)
    · exact leV_leB2 v h0 (by simpa using h1)
    · exact leV_leB4 v h0 (by simpa using h1)
  refine ⟨?_, ?_, ?_⟩
  · unfold numV; rw [if_pos ⟨rfl, hz, hl'⟩]; show leV ((leB v n ++ r).take n) = v; rw [ht, hv]
  · unfold numX; rw [if_pos ⟨rfl, hz, hl'⟩]; show (leB v n ++ r).drop n = r; exact hd
  · unfold numE; rw [if_pos rfl, if_pos hz, if_pos hl']

theorem txt_front {s : ByteArray} {r : List Int} {most : Int} (hs : s.size ≤ 65535) (hm : (s.size : Int) ≤ most) :
    txtS most (leB s.size 2 ++ byt s ++ r) 0 = s ∧ txtX most (leB s.size 2 ++ byt s ++ r) 0 = r ∧ txtE most (leB s.size 2 ++ byt s ++ r) 0 = 0 := by
  obtain ⟨h1, h2, h3⟩ := num_front (n := 2) (v := s.size) (r := byt s ++ r) (by omega) (by omega) (by omega)
  rw [List.append_assoc]
  have hlen : (s.size : Int) ≤ ((byt s ++ r).length : Int) := by simp [byt_len]; omega
  have hok : txtOk most (leB s.size 2 ++ (byt s ++ r)) 0 := ⟨h3, by rw [show ((2 : Nat) : Int) = 2 from rfl] at h1; rw [h1]; exact hm, by rw [show ((2 : Nat) : Int) = 2 from rfl] at h1 h2; rw [h1, h2]; exact hlen⟩
  rw [show ((2 : Nat) : Int) = 2 from rfl] at h1 h2 h3
  refine ⟨?_, ?_, ?_⟩
  · unfold txtS; rw [if_pos hok, h1, h2]
    rw [show ((s.size : Int)).toNat = s.size from rfl, List.take_left' (byt_len s), strOfNums_byt]
  · unfold txtX; rw [if_pos hok, h1, h2]
    rw [show ((s.size : Int)).toNat = s.size from rfl, List.drop_left' (byt_len s)]
  · unfold txtE; rw [if_pos h3, h1, h2, if_pos hm, if_pos hlen]

set_option maxHeartbeats 1000000 in
theorem wordBack_any (v : Int) (s : ByteArray) (f : Bool) (w : World) (hv0 : 0 ≤ v) (hv1 : v ≤ 4294967295) (hs9 : s.size ≤ 9223372036854775807) :
    Calls Try.prog 5 #[.int .u32 v, .string s, .bool f] w (LawPost w) := by
  by_cases hs : s.size ≤ 1000
  · obtain ⟨k, hk⟩ : ∃ k : Int, k = if f then 1 else 0 := ⟨_, rfl⟩
    have hk01 : 0 ≤ k ∧ k ≤ 1 := by cases f <;> simp at hk <;> omega
    have hkf : (k == 1) = f := by cases f <;> simp at hk <;> subst hk <;> rfl
    have p1 : putL [] v 4 = leB v 4 := by unfold putL; rw [if_pos (by simp [fitsB]; omega)]; rfl
    have p2 : textL (leB v 4) s = leB v 4 ++ leB s.size 2 ++ byt s := by unfold textL; rw [if_pos (by omega)]
    have p3 : putL (leB v 4 ++ leB s.size 2 ++ byt s) k 1 = leB v 4 ++ (leB s.size 2 ++ byt s ++ leB k 1) := by unfold putL; rw [if_pos (by simp [fitsB]; omega)]; simp [List.append_assoc]
    obtain ⟨n1, n2, n3⟩ := num_front (n := 4) (v := v) (r := leB s.size 2 ++ byt s ++ leB k 1) (by omega) hv0 (by omega)
    obtain ⟨t1, t2, t3⟩ := txt_front (s := s) (r := leB k 1) (most := s.size) (by omega) (by omega)
    obtain ⟨g1, g2, g3⟩ := num_front (n := 1) (v := k) (r := []) (by omega) hk01.1 (by omega)
    rw [List.append_nil] at g1 g2 g3
    have f1 : flagB (leB k 1) 0 = f := by unfold flagB; rw [show ((1 : Nat) : Int) = 1 from rfl] at g1; rw [g1, ← hkf]; rfl
    have f3 : flagE (leB k 1) 0 = 0 := by unfold flagE; rw [show ((1 : Nat) : Int) = 1 from rfl] at g1 g3; rw [g1, if_neg (by omega), g3]
    have b3 : Byts (leB k 1) := leB_byts k 1
    have b2 : Byts (leB s.size 2 ++ byt s ++ leB k 1) := byts_append (byts_append (leB_byts _ _) (byt_byts s)) b3
    have b1 : Byts (leB v 4 ++ (leB s.size 2 ++ byt s ++ leB k 1)) := byts_append (leB_byts _ _) b2
    have l1 : (leB v 4).length ≤ 140737488200000 := by simp [leB_len]
    have l2 : (leB v 4 ++ leB s.size 2 ++ byt s).length ≤ 140737488350000 := by simp [leB_len, byt_len]; omega
    have l3 : (leB v 4 ++ (leB s.size 2 ++ byt s ++ leB k 1)).length ≤ 140737488351232 := by simp [leB_len, byt_len]; omega
    have H := Lib.hid (And.intro p1 (And.intro p2 p3))
    have N := Lib.hid (And.intro n1 (And.intro n2 n3))
    have T := Lib.hid (And.intro t1 (And.intro t2 t3))
    have F := Lib.hid (And.intro f1 (And.intro g2 f3))
    have B := Lib.hid (And.intro b1 (And.intro b2 b3))
    have L := Lib.hid (And.intro l1 (And.intro l2 l3))
    clear p1 p2 p3 n1 n2 n3 t1 t2 t3 g1 g2 g3 f1 f3 b1 b2 b3 l1 l2 l3 hkf
    cases f
    all_goals
      simp at hk
      subst hk
      go_enter Try.func5, Try.ntmps5
      go_wp2_with (first
        | (go_at_call 6; refine (fixed_any _).mono ?_; rintro e w1 ⟨rfl, hb1, hz1⟩)
        | (go_at_call_of 17 (Value.slice none 0 0); refine (put_is (.inl ⟨rfl, rfl⟩) (by simp) (by omega) H.out.1).mono ?_; rintro e w2 ⟨v2, rfl, hown2, hg2⟩)
        | (go_at_call 19; refine (text_is (Owns.bts rfl hown2) L.out.1 hs9 H.out.2.1).mono ?_; rintro e w3 ⟨v3, rfl, hown3, hg3⟩)
        | (go_at_call_of 17 v3; refine (put_is (Owns.bts rfl hown3) L.out.2.1 (by omega) H.out.2.2).mono ?_; rintro e w4 ⟨v4, rfl, hown4, hg4⟩)
        | (go_at_call 7; refine (read_any _ _ _ (Owns.bts rfl hown4) L.out.2.2 (by have := hg2.size; have := hg3.size; have := hg4.size; omega)).mono ?_; rintro e w5 ⟨br, c, rfl, hR5, hg5, hl1, hl2, hl3⟩)
        | (go_at_call_of 8 (Value.pointer none); refine (number_nil _ _).mono ?_; rintro e w' ⟨rfl, rfl⟩)
        | (go_at_call_of 16 (Value.pointer none); refine (left_nil _).mono ?_; rintro e w' ⟨rfl, rfl⟩)
        | (go_at_call_of 10 (Value.pointer none); refine (rtext_nil _ _).mono ?_; rintro e w' ⟨rfl, rfl⟩)
        | (go_at_call_of 12 (Value.pointer none); refine (flag_nil _).mono ?_; rintro e w' ⟨rfl, rfl⟩)
        | (go_at_call_of 14 (Value.pointer none); refine (done_nil _).mono ?_; rintro e w' ⟨rfl, rfl⟩)
        | (go_at_call 8; refine (number_is hR5 B.out.1 N.out.1 N.out.2.1 N.out.2.2).mono ?_; rintro e w6 ⟨rfl, hR6, hg6⟩)
        | (go_at_call 10; refine (rtext_is hR6 B.out.2.1 T.out.1 T.out.2.1 T.out.2.2).mono ?_; rintro e w7 ⟨rfl, hR7, hg7⟩)
        | (go_at_call 12; refine (flag_is hR7 B.out.2.2 F.out.1 F.out.2.1 F.out.2.2).mono ?_; rintro e w8 ⟨rfl, hR8, hg8⟩)
        | (go_at_call 14; refine (done_is (e1 := 0) hR8 (by decide)).mono ?_; rintro e w9 ⟨rfl, hR9, hg9⟩))
      go_ret
      have hs1 := hb1.size
      have hs2 := hg2.size
      have hs3 := hg3.size
      have hs4 := hg4.size
      have hbr : ∀ k, some br = some k → w.heap.size ≤ k := fun k hk => by cases hk; omega
      have hno : ∀ k, (none : Option Nat) = some k → w.heap.size ≤ k := fun k hk => by cases hk
      exact ⟨rfl, bgrow (bgrow (bgrow (bgrow (bgrow (bgrow (bgrow (bgrow hb1 hg2 hno) hg3 hno) hg4 hno) hg5 hno) hg6 hbr) hg7 hbr) hg8 hbr) hg9 hbr⟩
  · go_enter Try.func5, Try.ntmps5
    go_wp2_with (first | (go_at_call 6; refine (fixed_any _).mono ?_; rintro e w1 ⟨rfl, hb1, hz1⟩))
    go_ret
    exact ⟨rfl, hb1⟩

end Go.Proofs.Ytbiegcclfckgnaa
