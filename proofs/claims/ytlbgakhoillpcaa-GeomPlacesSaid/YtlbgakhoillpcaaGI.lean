/-
  The law GeomPlaces: the walk.
-/
import Derived.Test.YtlbgakhoillpcaaGH
namespace Go.Proofs.Ytlbgakhoillpcaa
open Go.RowKit

theorem plcs_len (c d p n : Nat) : (plcs c d p n).length = n * 4 := by
  induction n with
  | zero => rfl
  | succ n ih => rw [plcs_succ, List.length_append, ih]; simp [plc]; omega
theorem plcs_get {c d p k : Nat} : ∀ {n : Nat}, k < n → ∀ j, j < 4 → (plcs c d p n)[k * 4 + j]? = (plc c d p k)[j]?
  | 0, h, _, _ => by omega
  | n + 1, h, j, hj => by
    rw [plcs_succ]
    by_cases hk : k < n
    · rw [List.getElem?_append_left (by rw [plcs_len]; omega)]
      exact plcs_get hk j hj
    · have : k = n := by omega
      subst this
      rw [List.getElem?_append_right (by rw [plcs_len]; omega), plcs_len, show k * 4 + j - k * 4 = j by omega]

/-- The cells of the row's place of number k. -/
structure PlcAt (w : World) (g k : Nat) (x y z u : Int) : Prop where
  c0 : w.cell? ⟨g, k * 4, none⟩ = some (.int .i64 x)
  c1 : w.cell? ⟨g, k * 4 + 1, none⟩ = some (.int .i64 y)
  c2 : w.cell? ⟨g, k * 4 + 2, none⟩ = some (.int .i64 z)
  c3 : w.cell? ⟨g, k * 4 + 3, none⟩ = some (.int .i64 u)
theorem PlcAt.below {w w' : World} {g k : Nat} {x y z u : Int} {B : Nat} (h : PlcAt w g k x y z u) (hg : Below B w w') (hb : g < B) : PlcAt w' g k x y z u := by
  have e : ∀ o, w'.cell? ⟨g, o, none⟩ = w.cell? ⟨g, o, none⟩ := fun o => hg.cell hb
  exact ⟨(e _).trans h.c0, (e _).trans h.c1, (e _).trans h.c2, (e _).trans h.c3⟩
/-- The whole row. -/
def RowAt (w : World) (g c d b p : Nat) : Prop := ∀ k, k < at4 c d p b 0 0 0 → PlcAt w g k ((k / p % c : Nat) : Int) ((k / p / c % d : Nat) : Int) ((k / p / c / d : Nat) : Int) ((k % p : Nat) : Int)
theorem RowAt.below {w w' : World} {g c d b p : Nat} {B : Nat} (h : RowAt w g c d b p) (hg : Below B w w') (hb : g < B) : RowAt w' g c d b p := fun k hk => (h k hk).below hg hb

theorem row_at {w : World} {B : Nat} {v' : Value} {c d b p : Nat} (h : w.ownsRow B 47 4 v' (at4 c d p b 0 0 0) (plcs c d p (at4 c d p b 0 0 0))) (hn : 0 < at4 c d p b 0 0 0) :
    ∃ g cap, v' = .slice (some ⟨g, 0, none⟩) (at4 c d p b 0 0 0) cap ∧ RowAt w g c d b p ∧ B ≤ g ∧ g < w.heap.size := by
  obtain ⟨g, cap, rfl⟩ : ∃ g cap, v' = .slice (some ⟨g, 0, none⟩) (at4 c d p b 0 0 0) cap := by
    rcases h.2 with ⟨_, h0⟩ | ⟨g, cap, _, hv, _⟩
    · omega
    · exact ⟨g, cap, hv⟩
  have hl := h.lt g rfl
  refine ⟨g, cap, rfl, fun k hk => ?_, hl.1, hl.2⟩
  have e : ∀ j, j < 4 → w.cell? ⟨g, k * 4 + j, none⟩ = (plc c d p k)[j]? := fun j hj => by rw [h.cellAt (k * 4 + j) (by omega), plcs_get hk j hj]
  exact ⟨e 0 (by omega), e 1 (by omega), e 2 (by omega), e 3 (by omega)⟩

set_option maxHeartbeats 1000000 in
theorem geomPlaces_bad (c d b p n x y z u : Int) (w : World) (h : geoE c d b p ≠ 0) :
    Calls Try.prog 6 #[four c d b p, .int .i64 n, four x y z u] w (True4 w) := by
  have C := refCheck_any c d b p
  have F := fixed4_any
  have h' : (geoE c d b p == 0) = false := by simpa using h
  obtain ⟨g, hg⟩ : ∃ g, geoE c d b p = g := ⟨_, rfl⟩
  rw [hg] at h' C
  clear hg h
  unfold four fourObj at *
  go_enter Try.func6, Try.ntmps6
  go_wp2_with (first
    | (go_at_call 24; refine (F _).mono ?_; rintro e w1 ⟨rfl, hb1⟩; obtain ⟨q0, q1, q2, q3⟩ := (box4_in2 hb1).1)
    | (go_at_call 25; refine (C _).mono ?_; rintro e w' ⟨rfl, rfl⟩))
  go_ret
  exact ⟨rfl, (below_box2 hb1).alloc (by have := (below_box2 hb1).size; omega) _⟩

/-- The two arguments, boxed, still stand; what was there stands. -/
structure Geo (w : World) (c d b p x y z u : Int) (v : World) : Prop where
  below : Below w.heap.size w v
  size : w.heap.size + 2 ≤ v.heap.size
  g : Box4 v w.heap.size c d b p
  p : Box4 v (w.heap.size + 1) x y z u
theorem Geo.next {w v v' : World} {c d b p x y z u : Int} {B : Nat} (h : Geo w c d b p x y z u v) (hb : Below B v v') (hB : w.heap.size + 2 ≤ B) : Geo w c d b p x y z u v' :=
  ⟨h.below.trans (hb.mono (by omega)), Nat.le_trans h.size hb.size, h.g.below hb (by omega), h.p.below hb (by omega)⟩
theorem Geo.alloc {w v : World} {c d b p x y z u : Int} (h : Geo w c d b p x y z u v) (o : Obj) : Geo w c d b p x y z u (v.alloc o) :=
  h.next ((Below.refl v.heap.size v).alloc (Nat.le_refl _) o) h.size
theorem Geo.drew {w v : World} {c d b p x y z u : Int} (h : Geo w c d b p x y z u v) : Geo w c d b p x y z u v.drew :=
  h.next (Below.refl v.heap.size v).drew h.size
theorem Below.ofGrown {w w' : World} (h : w.grownBy w' none) : Below w.heap.size w w' := ⟨h.os, h.tape, h.output, h.size, fun k hk => h.block k hk (by simp)⟩
theorem geo_first {w v : World} {c d b p x y z u : Int} {t t2 : TypeId} (h : Below ((w.alloc (.cells #[.int .i64 c, .int .i64 d, .int .i64 b, .int .i64 p] t)).alloc (.cells #[.int .i64 x, .int .i64 y, .int .i64 z, .int .i64 u] t2)).heap.size ((w.alloc (.cells #[.int .i64 c, .int .i64 d, .int .i64 b, .int .i64 p] t)).alloc (.cells #[.int .i64 x, .int .i64 y, .int .i64 z, .int .i64 u] t2)) v) : Geo w c d b p x y z u v :=
  ⟨below_box2 h, by have := h.size; simp at this; omega, (box4_in2 h).1, (box4_in2 h).2⟩

theorem drewN_below (v : World) (n : Nat) : Below v.heap.size v (v.drewN n) := ⟨rfl, rfl, rfl, Nat.le_refl _, fun _ _ => rfl⟩

set_option maxHeartbeats 1000000 in
theorem geomPlaces_good (c d b p : Nat) (n x y z u : Int) (w : World) (h : geoE c d b p = 0) :
    Calls Try.prog 6 #[four c d b p, .int .i64 n, four x y z u] w (True4 w) := by
  have C := refCheck_any c d b p
  rw [h] at C
  have A := fun v => refAll_any c d b p v h
  have F := fixed4_any
  have ht := at4_topI c d p b
  obtain ⟨g1, g2, g3, g4, g5, g6⟩ := geo_ok h
  have g8 : 3 * 2 ≤ (c : Int) * d * b * p := Int.mul_le_mul g5 g4.1 (by omega) (by omega)
  have g7 : (c : Int) * d * b * p ≤ 64 * 16 := Int.mul_le_mul g6 g4.2 (by omega) (by omega)
  obtain ⟨N, hN⟩ : ∃ N, at4 c d p b 0 0 0 = N := ⟨_, rfl⟩
  rw [hN] at ht
  rw [ht] at g8 g7
  by_cases hn : 0 ≤ n ∧ n < N
  · obtain ⟨m, rfl⟩ := Int.eq_ofNat_of_zero_le hn.1
    have hm : m < N := by omega
    obtain ⟨X0, hX0⟩ : ∃ X : Int, ((m / p % c : Nat) : Int) = X := ⟨_, rfl⟩
    obtain ⟨Y0, hY0⟩ : ∃ X : Int, ((m / p / c % d : Nat) : Int) = X := ⟨_, rfl⟩
    obtain ⟨Z0, hZ0⟩ : ∃ X : Int, ((m / p / c / d : Nat) : Int) = X := ⟨_, rfl⟩
    obtain ⟨U0, hU0⟩ : ∃ X : Int, ((m % p : Nat) : Int) = X := ⟨_, rfl⟩
    obtain ⟨f1, f2, f3, f4⟩ := sp_nat c d p m
    have S := fun v => @split_is c d b p m v h (by rw [ht]; exact hn) X0 Y0 Z0 U0 (f1.trans hX0) (f2.trans hY0) (f3.trans hZ0) (f4.trans hU0)
    clear f1 f2 f3 f4 hn
    have hn := hm
    clear hm
    obtain ⟨jv, hjv⟩ : ∃ v, jonV c d b p x y z u = v := ⟨_, rfl⟩
    obtain ⟨je, hje⟩ : ∃ v, jonE c d b p x y z u = v := ⟨_, rfl⟩
    have J := fun v => join_any c d b p x y z u v
    rw [hjv, hje] at J
    unfold four fourObj at C
    unfold four at A S J ⊢
    have HN := Lib.hid hN
    have HH := Lib.hid h
    have hnn : 0 < N := by omega
    have HT := Lib.hid ht
    have HJV := Lib.hid hjv
    have HJE := Lib.hid hje
    have HX0 := Lib.hid hX0
    have HY0 := Lib.hid hY0
    have HZ0 := Lib.hid hZ0
    have HU0 := Lib.hid hU0
    clear h ht hN g5 g6 hjv hje hX0 hY0 hZ0 hU0
    go_enter Try.func6, Try.ntmps6
    go_wp2_with (first
      | (go_at_call 24; refine (F _).mono ?_; rintro e w1 ⟨rfl, hb1⟩; have G1 := geo_first hb1; obtain ⟨q0, q1, q2, q3⟩ := G1.g)
      | (go_at_call 25; refine (C _).mono ?_; rintro e w' ⟨rfl, rfl⟩; obtain ⟨q4, q5, q6, q7⟩ := (G1.alloc (.cells #[.int .i64 c, .int .i64 d, .int .i64 b, .int .i64 p] 45)).g)
      | (go_at_call 26; refine (A _).mono ?_; rintro e w2 ⟨v', rfl, hown, hgr⟩; have G2 := (G1.alloc _).next (Below.ofGrown hgr) (G1.alloc _).size; obtain ⟨g, cap, rfl, hrow, hgl, hgs⟩ := row_at hown (by rw [HN.out]; exact hnn); rw [HN.out]; clear hown; obtain ⟨r0, r1, r2, r3⟩ := G2.g)
      | (go_at_call 27; refine (S _).mono ?_; rintro e w3 ⟨he, hb3, hz3⟩; unfold four at he; subst he; have G3 := (G2.next hb3 G2.size).alloc (.cells #[.int .i64 X0, .int .i64 Y0, .int .i64 Z0, .int .i64 U0] 47); obtain ⟨s0, s1, s2, s3⟩ := G3.g; obtain ⟨u0, u1, u2, u3⟩ := G3.p; obtain ⟨p0, p1, p2, p3⟩ := ((hrow.below hb3 hgs).below ((Below.refl w3.heap.size w3).alloc (Nat.le_refl _) (.cells #[.int .i64 X0, .int .i64 Y0, .int .i64 Z0, .int .i64 U0] 47)) (by omega)) m (by rw [HN.out]; exact hn); rw [HX0.out] at p0; rw [HY0.out] at p1; rw [HZ0.out] at p2; rw [HU0.out] at p3; obtain ⟨t0, t1, t2, t3⟩ := box4_new w3 X0 Y0 Z0 U0 47))
    go_quiet (fail)
    rename_i nq
    have GD := G3.next (v' := (w3.alloc (.cells #[.int .i64 X0, .int .i64 Y0, .int .i64 Z0, .int .i64 U0] 47)).drewN nq) (drewN_below _ nq) G3.size
    go_wp2_with (go_at_call 28; refine (J _).mono ?_; rintro e w4 ⟨rfl, hb4, hz4⟩)
    have G4 := GD.next hb4 GD.size
    have R4 := ((hrow.below hb3 hgs).below ((((Below.refl _ w3).alloc (Nat.le_refl _) (.cells #[.int .i64 X0, .int .i64 Y0, .int .i64 Z0, .int .i64 U0] 47)).trans ((drewN_below _ nq).mono (by simp))).trans (hb4.mono (by simp))) (by omega))
    have hg4 : g < w4.heap.size := by have := hb4.size; simp at this; omega
    clear q0 q1 q2 q3 q4 q5 q6 q7 r0 r1 r2 r3 s0 s1 s2 s3 u0 u1 u2 u3 p0 p1 p2 p3 t0 t1 t2 t3 HX0 HY0 HZ0 HU0 G1 G2 G3 GD hb1 hgr hgl hrow hgs hb3 hz3 hb4 hz4 C A S J F
    go_loopw [62] (fun i wr => ∃ k : Nat, k ≤ N ∧ i = .int .i64 k ∧ (∀ j, j < k → ¬ IsPlc c d p j x y z u) ∧ Below w4.heap.size w4 wr) (fun i _ => N - (intOf i).toNat)
    case atStart => exact ⟨0, Nat.zero_le _, rfl, fun j hj => absurd hj (Nat.not_lt_zero j), Below.refl _ _⟩
    case round =>
      obtain ⟨k, hk, rfl, hnot, hbl⟩ := hrel
      have NOT := Lib.hid hnot
      clear hnot
      have G5 := G4.next hbl G4.size
      by_cases hlt : k < N
      · obtain ⟨p0, p1, p2, p3⟩ := (R4.below hbl hg4) k (by rw [HN.out]; exact hlt)
        obtain ⟨X, hX⟩ : ∃ X : Int, ((k / p % c : Nat) : Int) = X := ⟨_, rfl⟩
        obtain ⟨Y, hY⟩ : ∃ X : Int, ((k / p / c % d : Nat) : Int) = X := ⟨_, rfl⟩
        obtain ⟨Z, hZ⟩ : ∃ X : Int, ((k / p / c / d : Nat) : Int) = X := ⟨_, rfl⟩
        obtain ⟨U, hU⟩ : ∃ X : Int, ((k % p : Nat) : Int) = X := ⟨_, rfl⟩
        rw [hX] at p0
        rw [hY] at p1
        rw [hZ] at p2
        rw [hU] at p3
        have G6 := G5.alloc (.cells #[.int .i64 X, .int .i64 Y, .int .i64 Z, .int .i64 U] 47)
        obtain ⟨s0, s1, s2, s3⟩ := G6.g
        obtain ⟨u0, u1, u2, u3⟩ := G6.p
        obtain ⟨t0, t1, t2, t3⟩ := box4_new wr X Y Z U 47
        by_cases he : IsPlc c d p k x y z u
        · obtain ⟨e1, e2, e3, e4⟩ := jon_plc HH.out (by rw [HN.out]; exact hlt) he
          rw [HJE.out] at e1
          rw [HJV.out] at e2
          subst e1 e2
          have B := fun v => block_any c d b p x y z u v
          rw [e3, e4, Int.natCast_ediv] at B
          unfold IsPlc at he
          rw [hX, hY, hZ, hU] at he
          obtain ⟨rfl, rfl, rfl, rfl⟩ := he
          unfold four at B
          have k0 : (0 : Int) ≤ (k : Int) := by omega
          have q0 : 0 ≤ (k : Int) / (p : Int) := Int.ediv_nonneg k0 (by omega)
          have q1 : (k : Int) / (p : Int) ≤ 1024 := Int.le_trans (Int.ediv_le_self _ k0) (by omega)
          clear hX hY hZ hU NOT e3 e4 HJE HJV k0
          go_wp2_with (go_at_call 29; refine (B _).mono ?_; rintro e w5 ⟨rfl, hb5, hz5⟩; obtain ⟨q5, q6, q7, q8⟩ := (G6.next hb5 G6.size).g)
          go_ret
          exact ⟨rfl, (G6.next hb5 G6.size).below⟩
        · have he' : ¬ (x = X ∧ y = Y ∧ z = Z ∧ u = U) := by rw [← hX, ← hY, ← hZ, ← hU]; exact he
          have NOT2 : Hid (∀ j, j < k + 1 → ¬ IsPlc c d p j x y z u) := Lib.hid (fun j hj => by
            by_cases h : j = k
            · subst h; exact he
            · exact NOT.out j (by omega))
          clear hX hY hZ hU NOT he
          have part : x ≠ X ∨ (X = x ∧ y ≠ Y) ∨ (X = x ∧ Y = y ∧ z ≠ Z) ∨ (X = x ∧ Y = y ∧ Z = z ∧ u ≠ U) := by omega
          clear he'
          rcases part with f1 | ⟨rfl, f2⟩ | ⟨rfl, rfl, f3⟩ | ⟨rfl, rfl, rfl, f4⟩
          all_goals
            go_wp2
            go_roundw
            case rel => exact ⟨k + 1, by omega, by go_num, NOT2.out, hbl.alloc hbl.size _⟩
            case measure => simp [intOf]; omega
      · have hkN : k = N := by omega
        subst hkN
        obtain ⟨e1, e2⟩ := jon_none HH.out (fun j hj => NOT.out j (by rw [HN.out] at hj; exact hj))
        rw [HJE.out] at e1
        rw [HJV.out] at e2
        subst e1 e2
        go_wp2
        go_ret
        exact ⟨rfl, G5.below⟩
  · have hn' : n < 0 ∨ (0 ≤ n ∧ (N : Int) ≤ n) := by omega
    have S := fun v => split_out c d b p n v h (by rw [ht]; exact hn)
    obtain ⟨jv, hjv⟩ : ∃ v, jonV c d b p x y z u = v := ⟨_, rfl⟩
    obtain ⟨je, hje⟩ : ∃ v, jonE c d b p x y z u = v := ⟨_, rfl⟩
    have J := fun v => join_any c d b p x y z u v
    rw [hjv, hje] at J
    unfold four fourObj at C
    unfold four at A S J ⊢
    have HN := Lib.hid hN
    have HH := Lib.hid h
    have hnn : 0 < N := by omega
    have HT := Lib.hid ht
    have HJV := Lib.hid hjv
    have HJE := Lib.hid hje
    clear h ht hN g5 g6 hjv hje hn
    rcases hn' with hn | hn
    all_goals
      go_enter Try.func6, Try.ntmps6
      go_wp2_with (first
        | (go_at_call 24; refine (F _).mono ?_; rintro e w1 ⟨rfl, hb1⟩; have G1 := geo_first hb1; obtain ⟨q0, q1, q2, q3⟩ := G1.g)
        | (go_at_call 25; refine (C _).mono ?_; rintro e w' ⟨rfl, rfl⟩; obtain ⟨q4, q5, q6, q7⟩ := (G1.alloc (.cells #[.int .i64 c, .int .i64 d, .int .i64 b, .int .i64 p] 45)).g)
        | (go_at_call 26; refine (A _).mono ?_; rintro e w2 ⟨v', rfl, hown, hgr⟩; have G2 := (G1.alloc _).next (Below.ofGrown hgr) (G1.alloc _).size; obtain ⟨g, cap, rfl, hrow, hgl, hgs⟩ := row_at hown (by rw [HN.out]; exact hnn); rw [HN.out]; clear hown; obtain ⟨r0, r1, r2, r3⟩ := G2.g)
        | (go_at_call 27; refine (S _).mono ?_; rintro e w3 ⟨he, hb3, hz3⟩; unfold four at he; subst he; have G3 := (G2.next hb3 G2.size).alloc (.cells #[.int .i64 0, .int .i64 0, .int .i64 0, .int .i64 0] 47); obtain ⟨s0, s1, s2, s3⟩ := G3.g; obtain ⟨u0, u1, u2, u3⟩ := G3.p)
        | (go_at_call 28; refine (J _).mono ?_; rintro e w4 ⟨rfl, hb4, hz4⟩))
      have G4 := G3.next hb4 G3.size
      have R4 := ((hrow.below hb3 hgs).below (((Below.refl _ w3).alloc (Nat.le_refl _) (.cells #[.int .i64 0, .int .i64 0, .int .i64 0, .int .i64 0] 47)).trans (hb4.mono (by simp))) (by omega))
      have hg4 : g < w4.heap.size := by have := hb4.size; simp at this; omega
      clear q0 q1 q2 q3 q4 q5 q6 q7 r0 r1 r2 r3 s0 s1 s2 s3 u0 u1 u2 u3 G1 G2 G3 hb1 hgr hgl hrow hgs hb3 hz3 hb4 hz4 C A S J F
      go_loopw [62] (fun i wr => ∃ k : Nat, k ≤ N ∧ i = .int .i64 k ∧ (∀ j, j < k → ¬ IsPlc c d p j x y z u) ∧ Below w4.heap.size w4 wr) (fun i _ => N - (intOf i).toNat)
      case atStart => exact ⟨0, Nat.zero_le _, rfl, fun j hj => absurd hj (Nat.not_lt_zero j), Below.refl _ _⟩
      case round =>
        obtain ⟨k, hk, rfl, hnot, hbl⟩ := hrel
        have NOT := Lib.hid hnot
        clear hnot
        have G5 := G4.next hbl G4.size
        by_cases hlt : k < N
        · obtain ⟨p0, p1, p2, p3⟩ := (R4.below hbl hg4) k (by rw [HN.out]; exact hlt)
          obtain ⟨X, hX⟩ : ∃ X : Int, ((k / p % c : Nat) : Int) = X := ⟨_, rfl⟩
          obtain ⟨Y, hY⟩ : ∃ X : Int, ((k / p / c % d : Nat) : Int) = X := ⟨_, rfl⟩
          obtain ⟨Z, hZ⟩ : ∃ X : Int, ((k / p / c / d : Nat) : Int) = X := ⟨_, rfl⟩
          obtain ⟨U, hU⟩ : ∃ X : Int, ((k % p : Nat) : Int) = X := ⟨_, rfl⟩
          rw [hX] at p0
          rw [hY] at p1
          rw [hZ] at p2
          rw [hU] at p3
          have G6 := G5.alloc (.cells #[.int .i64 X, .int .i64 Y, .int .i64 Z, .int .i64 U] 47)
          obtain ⟨s0, s1, s2, s3⟩ := G6.g
          obtain ⟨u0, u1, u2, u3⟩ := G6.p
          obtain ⟨t0, t1, t2, t3⟩ := box4_new wr X Y Z U 47
          by_cases he : IsPlc c d p k x y z u
          · obtain ⟨e1, e2, e3, e4⟩ := jon_plc HH.out (by rw [HN.out]; exact hlt) he
            rw [HJE.out] at e1
            rw [HJV.out] at e2
            subst e1 e2
            have B := fun v => block_any c d b p x y z u v
            rw [e3, e4, Int.natCast_ediv] at B
            unfold IsPlc at he
            rw [hX, hY, hZ, hU] at he
            obtain ⟨rfl, rfl, rfl, rfl⟩ := he
            unfold four at B
            have k0 : (0 : Int) ≤ (k : Int) := by omega
            have q0 : 0 ≤ (k : Int) / (p : Int) := Int.ediv_nonneg k0 (by omega)
            have q1 : (k : Int) / (p : Int) ≤ 1024 := Int.le_trans (Int.ediv_le_self _ k0) (by omega)
            clear hX hY hZ hU NOT e3 e4 HJE HJV k0
            go_wp2_with (go_at_call 29; refine (B _).mono ?_; rintro e w5 ⟨rfl, hb5, hz5⟩; obtain ⟨q5, q6, q7, q8⟩ := (G6.next hb5 G6.size).g)
            go_ret
            exact ⟨rfl, (G6.next hb5 G6.size).below⟩
          · have he' : ¬ (x = X ∧ y = Y ∧ z = Z ∧ u = U) := by rw [← hX, ← hY, ← hZ, ← hU]; exact he
            have NOT2 : Hid (∀ j, j < k + 1 → ¬ IsPlc c d p j x y z u) := Lib.hid (fun j hj => by
              by_cases h : j = k
              · subst h; exact he
              · exact NOT.out j (by omega))
            clear hX hY hZ hU NOT he
            have part : x ≠ X ∨ (X = x ∧ y ≠ Y) ∨ (X = x ∧ Y = y ∧ z ≠ Z) ∨ (X = x ∧ Y = y ∧ Z = z ∧ u ≠ U) := by omega
            clear he'
            rcases part with f1 | ⟨rfl, f2⟩ | ⟨rfl, rfl, f3⟩ | ⟨rfl, rfl, rfl, f4⟩
            all_goals
              go_wp2
              go_roundw
              case rel => exact ⟨k + 1, by omega, by go_num, NOT2.out, hbl.alloc hbl.size _⟩
              case measure => simp [intOf]; omega
        · have hkN : k = N := by omega
          subst hkN
          obtain ⟨e1, e2⟩ := jon_none HH.out (fun j hj => NOT.out j (by rw [HN.out] at hj; exact hj))
          rw [HJE.out] at e1
          rw [HJV.out] at e2
          subst e1 e2
          go_wp2
          go_ret
          exact ⟨rfl, G5.below⟩

end Go.Proofs.Ytlbgakhoillpcaa
