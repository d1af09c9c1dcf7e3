/-
  Layer 24: PrefixBack over the contracts.
-/
import Derived.Test.YthailmoeggdfhaaUF
namespace Go.Proofs.Ythailmoeggdfhaa
set_option linter.unusedVariables false
set_option linter.unusedSimpArgs false
set_option maxRecDepth 100000
open Go.RowKit

theorem back24 (X : List (Int × ByteArray)) (ss : List ByteArray) (n : Nat) (hn : n ≤ X.length) :
    ∃ k m : Nat, (allN X ss (aftR (X.take n) ss) (X.length + 1)).headD 0 = k ∧ (allN X ss (aftR (X.take n) ss) (X.length + 1)).getLastD 0 = m ∧ allN X ss (aftR (X.take n) ss) (X.length + 1) ≠ [] ∧ k ≤ n ∧ n ≤ m ∧ m ≤ X.length ∧ aftR (X.take k) ss = aftR (X.take n) ss ∧ aftR (X.take m) ss = aftR (X.take n) ss := by
  have hm : n ∈ allN X ss (aftR (X.take n) ss) (X.length + 1) := by
    unfold allN
    rw [List.mem_filter, List.mem_range]
    exact ⟨by omega, by simp⟩
  have hp : (allN X ss (aftR (X.take n) ss) (X.length + 1)).Pairwise (· < ·) := List.Pairwise.filter _ List.pairwise_lt_range
  have ha : ∀ k ∈ allN X ss (aftR (X.take n) ss) (X.length + 1), k ≤ X.length ∧ aftR (X.take k) ss = aftR (X.take n) ss := fun k hk => by
    unfold allN at hk
    rw [List.mem_filter, List.mem_range] at hk
    exact ⟨by omega, of_decide_eq_true hk.2⟩
  generalize allN X ss (aftR (X.take n) ss) (X.length + 1) = l at hm hp ha
  rcases l with _ | ⟨y, r⟩
  · cases hm
  · have hl := List.getLast_mem (l := y :: r) (by simp)
    have e : (y :: r).getLastD 0 = (y :: r).getLast (by simp) := by rw [List.getLastD_eq_getLast?, List.getLast?_eq_some_getLast (by simp)]; rfl
    refine ⟨y, (y :: r).getLast (by simp), rfl, e, by simp, ?_, ?_, (ha _ hl).1, (ha y (by simp)).2, (ha _ hl).2⟩
    · rcases List.mem_cons.1 hm with h | h
      · omega
      · exact Nat.le_of_lt ((List.pairwise_cons.1 hp).1 n h)
    · have h2 := List.dropLast_concat_getLast (l := y :: r) (by simp)
      rw [← h2] at hm hp
      rcases List.mem_append.1 hm with h | h
      · exact Nat.le_of_lt ((List.pairwise_append.1 hp).2.2 n h _ (by simp))
      · rw [List.mem_singleton.1 h]
        simp

set_option maxHeartbeats 3200000 in
theorem prefixBack_any (FX : Fix24) (AC : AftC) (FC : FinC) (LC : LonC) (w : World) (a b : Option Addr) (ca cb u : Nat) (ss : List ByteArray) (X : List (Int × ByteArray)) (h1 : TxR w a ss) (s1 : Sl a ss.length ca) (h2 : ChT w b X) (s2 : Sl b X.length cb) (hu : u ≤ 255)
    (l1 : ss.length ≤ 8796093022208) (l2 : X.length ≤ 4611686018427387904) :
    Calls Try.prog 4 #[.slice a ss.length ca, .slice b X.length cb, .int .u8 u] w fun e w' => e = .returned (.bool true) ∧ w.grownBy w' none := by
  have FXH := Lib.hid FX
  have FW := Lib.hid (fun (wx : World) (hE : w.grownBy wx none) => show Calls Try.prog 6 #[.slice a ss.length ca, .slice none 0 0, .slice b X.length cb] wx (fun e w' => FewA ss.length 0 X.length e ∧ wx.grownBy w' none) from few24 wx a none b ca 0 cb ss [] X (h1.ext hE) s1.nil s1.spot (fun i hi => by simp at hi) (fun _ => ⟨rfl, rfl⟩) (fun z hz => by (cases hz)) (h2.ext hE) (by simpa using l1) l2)
  have hc1 := s2.le
  have hc2 := s2.max
  have hb : b = none → cb = 0 := fun h => (s2.nil h).2
  have hbp := s2.spot
  have SB := Lib.hid (fun (k : Nat) (hk : k ≤ X.length) => show Sl b k cb from ⟨fun h => ⟨by have := (s2.nil h).1; omega, (s2.nil h).2⟩, s2.spot, by have := s2.le; omega, s2.max⟩)
  have AF := Lib.hid (fun (wx : World) (hE : w.grownBy wx none) (k : Nat) (hk : k ≤ X.length) (m1 : ss.length ≤ 1000) (m2 : X.length ≤ 1000) => by
    have := AC wx a b ca cb ss (X.take k) (h1.ext hE) s1 ((h2.ext hE).take k) (by rw [show (X.take k).length = k by simp; omega]; exact SB.out k hk) m1 (by simp; omega)
    rw [show (X.take k).length = k by simp; omega] at this
    exact this)
  have FL := Lib.hid (fun (wx : World) (hE : w.grownBy wx none) (c : Option Addr) (cc n : Nat) (hT : TxR wx c (aftR (X.take n) ss)) (sc : Sl c ss.length cc) (m1 : ss.length ≤ 1000) (m2 : X.length ≤ 1000) => by
    have e := aftR_length (X.take n) ss
    have t1 := FC wx a b c ca cb cc ss (aftR (X.take n) ss) X (h1.ext hE) s1 (h2.ext hE) s2 hT (by rw [e]; exact sc) m1 m2 (by rw [e]; exact m1)
    have t2 := LC wx a b c ca cb cc ss (aftR (X.take n) ss) X (h1.ext hE) s1 (h2.ext hE) s2 hT (by rw [e]; exact sc) m1 m2 (by rw [e]; exact m1)
    rw [e] at t1 t2
    exact And.intro t1 t2)
  clear FX AC FC LC h1 h2
  go_enter Try.func4, Try.ntmps4
  go_upto_if 18 with (first
    | (go_at_call 5; refine (FXH.out _).mono ?_; rintro e w1 ⟨rfl, hE1⟩; have HE1 := Lib.hid hE1; clear hE1)
    | (go_at_call 6; refine (FW.out _ HE1.out).mono ?_; rintro e w2 ⟨⟨r, rfl, hr⟩, hE2⟩; have HR2 := Lib.hid hr; have HE2 := Lib.hid (ext_trans HE1.out hE2); clear hr hE2))
  rcases r with _ | _
  · go_wp2
    go_ret
    exact ⟨rfl, HE2.out⟩
  obtain ⟨m1, _, m2⟩ := HR2.out rfl
  clear HR2
  have m1' : ss.length ≤ 1000 := by omega
  have m2' : X.length ≤ 1000 := by omega
  go_upto_region 6 with fail
  obtain ⟨n, hn, hnl⟩ : ∃ n : Nat, ((u : Int) % ((X.length : Int) + 1)) = n ∧ n ≤ X.length := ⟨u % (X.length + 1), by push_cast; rfl, by have := Nat.mod_lt u (show 0 < X.length + 1 by omega); omega⟩
  rw [hn]
  obtain ⟨k, m, e1, e2, e3, hk1, hk2, hk3, ek, em⟩ := back24 X ss n hnl
  have FL0 := Lib.hid (fun (wx : World) (hE : w.grownBy wx none) (c : Option Addr) (cc : Nat) (hT : TxR wx c (aftR (X.take n) ss)) (sc : Sl c ss.length cc) => by
    have t1 := (FL.out wx hE c cc n hT sc m1' m2').1
    rw [e1, decide_eq_true e3] at t1
    exact t1)
  have FL1 := Lib.hid (fun (wx : World) (hE : w.grownBy wx none) (c : Option Addr) (cc : Nat) (hT : TxR wx c (aftR (X.take n) ss)) (sc : Sl c ss.length cc) => by
    have t1 := (FL.out wx hE c cc n hT sc m1' m2').2
    rw [e2, decide_eq_true e3] at t1
    exact t1)
  have AF2 := Lib.hid (fun (wx : World) (hE : w.grownBy wx none) (q : Nat) (hq : q ≤ X.length) => AF.out wx hE q hq m1' m2')
  have SM := Lib.hid (fun (wx : World) (q : Nat) (hq : aftR (X.take q) ss = aftR (X.take n) ss) (c1 c2 : Option Addr) (d1 d2 : Nat) (t1 : TxR wx c1 (aftR (X.take q) ss)) (t2 : TxR wx c2 (aftR (X.take n) ss)) => by
    have := same24 wx c1 c2 d1 d2 _ _ t1 t2 (by rw [aftR_length]; exact m1') (by rw [aftR_length]; exact m1')
    rw [aftR_length, aftR_length, decide_eq_true hq] at this
    exact this)
  have EK := Lib.hid ek
  have EM := Lib.hid em
  have R := AF2.out _ HE2.out n hnl
  clear hn e1 e2 e3 ek em FL AF FXH FW
  go_upto_region 7 with (go_at_call 11; refine R.mono ?_; rintro e w3 ⟨a3, c3, rfl, s3, t3, hE3⟩; have S3 := Lib.hid s3; have T3 := Lib.hid t3; have HE3 := Lib.hid (ext_trans HE2.out hE3); clear s3 t3 hE3)
  clear R
  have R0 := FL0.out _ HE3.out a3 c3 T3.out S3.out
  go_upto_region 8 with (go_at_call 8; refine R0.mono ?_; rintro e w4 ⟨rfl, hE4⟩; have T4 := Lib.hid (T3.out.ext hE4); have HE4 := Lib.hid (ext_trans HE3.out hE4); clear hE4)
  clear R0
  have R1 := FL1.out _ HE4.out a3 c3 T4.out S3.out
  go_upto_region 9 with (go_at_call 9; refine R1.mono ?_; rintro e w5 ⟨rfl, hE5⟩; have T5 := Lib.hid (T4.out.ext hE5); have HE5 := Lib.hid (ext_trans HE4.out hE5); clear hE5)
  clear R1
  have hkl : k ≤ X.length := by omega
  go_wp2_with (first
    | (go_at_call 10; refine (SM.out _ m EM.out a8 a3 c8 c3 T8.out T58.out).mono ?_; rintro e w9 ⟨rfl, hE9⟩; have HE9 := Lib.hid (ext_trans HE8.out hE9); clear hE9)
    | (go_at_call 11; refine (AF2.out _ HE7.out m hk3).mono ?_; rintro e w8 ⟨a8, c8, rfl, s8, t8, hE8⟩; have T8 := Lib.hid t8; have T58 := Lib.hid (T57.out.ext hE8); have HE8 := Lib.hid (ext_trans HE7.out hE8); clear s8 t8 hE8)
    | (go_at_call 10; refine (SM.out _ k EK.out a6 a3 c6 c3 T6.out T56.out).mono ?_; rintro e w7 ⟨rfl, hE7⟩; have T57 := Lib.hid (T56.out.ext hE7); have HE7 := Lib.hid (ext_trans HE6.out hE7); clear hE7)
    | (go_at_call 11; refine (AF2.out _ HE5.out k hkl).mono ?_; rintro e w6 ⟨a6, c6, rfl, s6, t6, hE6⟩; have T6 := Lib.hid t6; have T56 := Lib.hid (T5.out.ext hE6); have HE6 := Lib.hid (ext_trans HE5.out hE6); clear s6 t6 hE6))
  go_ret
  exact ⟨rfl, HE9.out⟩

end Go.Proofs.Ythailmoeggdfhaa
