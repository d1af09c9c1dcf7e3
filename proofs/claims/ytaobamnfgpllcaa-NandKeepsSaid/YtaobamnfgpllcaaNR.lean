/-
  Layer 7's law: NandKeeps.
-/
import Derived.Test.YtaobamnfgpllcaaNQ
namespace Go.Proofs.Ytaobamnfgpllcaa
open Go.RowKit

/-- Block 0, when k pages are written. -/
def LK (ss : List ByteArray) (k : Nat) : Nat → Pg := fun j => if j < k then ⟨1, [(j : Int)], ss.getD j ByteArray.empty⟩ else Pg.none 0
theorem nextN_zero {f : Nat → Pg} : ∀ {n : Nat}, (∀ j, j < n → (f j).st = 0) → nextN f n = 0
  | 0, _ => rfl
  | n + 1, h => by unfold nextN; rw [if_pos (h n (by omega))]; exact nextN_zero (fun j hj => h j (by omega))
theorem nextN_LK (ss : List ByteArray) (k : Nat) : ∀ {n : Nat}, k ≤ n → nextN (LK ss k) n = k
  | 0, h => by have : k = 0 := by omega
               subst this; rfl
  | n + 1, h => by
    unfold nextN
    by_cases e : k = n + 1
    · rw [if_neg (by simp [LK, e]), e]
    · rw [if_pos (by unfold LK; rw [if_neg (by omega)]; rfl)]; exact nextN_LK ss k (by omega)
theorem LK_succ (ss : List ByteArray) (k : Nat) : (fun j => if j = k then (⟨1, [(k : Int)], ss.getD k ByteArray.empty⟩ : Pg) else LK ss k j) = LK ss (k + 1) := by
  funext j
  unfold LK
  by_cases e : j = k
  · subst e; rw [if_pos rfl, if_pos (by omega)]
  · rw [if_neg e]
    by_cases e2 : j < k
    · rw [if_pos e2, if_pos (by omega)]
    · rw [if_neg e2, if_neg (by omega)]

theorem next_some {w : World} {S : NShape} {V : Nat → Value} {zs : Nat → List Int} {s : NS} (h : NandAt w S V zs s) (hR : Roles S) (n : Int) :
    Calls Try.prog 8 #[.pointer (some ⟨S.nb, 0, none⟩), .int .i64 n] w fun e w' => ∃ r : Int, e = .returned (.int .i64 r) ∧ w = w' := by
  cases hh : hasB S n
  · exact (next_none7 h.fix n hh).mono fun _ _ ⟨he, hw⟩ => ⟨0, he, hw⟩
  · have hn : 0 ≤ n ∧ n < S.all := by simpa [hasB] using hh
    obtain ⟨i, rfl⟩ : ∃ i : Nat, n = i := ⟨n.toNat, by omega⟩
    have hi : i < S.all := by omega
    exact (next7_is h.fix hi (h.row i hi) hR).mono fun _ _ ⟨he, hw⟩ => ⟨_, he, hw⟩

/-- What stands, from loop to loop. -/
structure Stand (w : World) (S : NShape) (V : Nat → Value) (f : Nat → Pg) (n : Int) (x : World) (s : NS) : Prop where
  at' : NandAt x S V noZs s
  calm : Calm s n
  L0 : s.L 0 = f
  m0 : s.mr 0 = false
  small : ∀ i j, (s.L i j).bs.length ≤ 32
  ext : w.grownBy x none

theorem IsRow.ext7 {k : IntKind} {w w' : World} {a : Option Addr} {len cap : Nat} {zs : List Int} (h : IsRow k w a len cap zs) (hg : w.grownBy w' none) : IsRow k w' a len cap zs := by
  rcases h with h | ⟨x, h1, h2, h3, h4, h5, h6⟩
  · exact .inl h
  · exact .inr ⟨x, h1, h2, h3, h4, fun i hi => hg.cell (h5 i hi) (by simp), h6⟩
theorem FitsX.ext {w w' : World} {k : FX} {v : Value} (h : FitsX w k v) (hg : w.grownBy w' none) : FitsX w' k v := by
  match k, h with
  | .int _, h => exact h
  | .bool, h => exact h
  | .str, h => exact h
  | .byts, ⟨a, l, c, zs, hv, hr⟩ => exact ⟨a, l, c, zs, hv, hr.ext7 hg⟩
theorem IsRecX.ext {ks : List FX} {w w' : World} {a : Option Addr} {len cap : Nat} (h : IsRecX ks w a len cap) (hg : w.grownBy w' none) : IsRecX ks w' a len cap := by
  rcases h with h | ⟨x, h1, h2, h3, h4⟩
  · exact .inl h
  · refine .inr ⟨x, h1, h2, h3, fun i hi j k hk => ?_⟩
    obtain ⟨v, h5, h6⟩ := h4 i hi j k hk
    exact ⟨v, hg.cell h5 (by simp), h6.ext hg⟩
theorem str_at {w : World} {a : Option Addr} {len cap : Nat} {ss : List ByteArray} (h : IsStrs w a len cap ss) (hs : ∀ x, a = some x → x.spot = none ∧ x.block < w.heap.size) {i : Nat} (hi : i < len) :
    ∃ b off, a = some ⟨b, off, none⟩ ∧ w.cell? ⟨b, off + i, none⟩ = some (.string (ss.getD i ByteArray.empty)) ∧ (ss.getD i ByteArray.empty).size ≤ maxLen := by
  rcases h with ⟨rfl, rfl, rfl, rfl⟩ | ⟨x, rfl, h1, h2, h3, h4, h5⟩
  · omega
  · obtain ⟨hsp, hb⟩ := hs x rfl
    obtain ⟨b, off, sp⟩ := x
    simp only at hsp hb
    subst hsp
    have hc := h4 i (by omega)
    rw [addr_add] at hc
    refine ⟨b, off, rfl, hc, ?_⟩
    rw [List.getD_eq_getElem?_getD, List.getElem?_eq_getElem (show i < ss.length by omega)]
    exact h5 _ (List.getElem_mem _)

/-- The box of a geometry. -/
structure BoxG (w : World) (c d b p : Int) (x : World) : Prop where
  g0 : x.cell? ⟨w.heap.size, 0, none⟩ = some (.int .i64 c)
  g1 : x.cell? ⟨w.heap.size, 1, none⟩ = some (.int .i64 d)
  g2 : x.cell? ⟨w.heap.size, 2, none⟩ = some (.int .i64 b)
  g3 : x.cell? ⟨w.heap.size, 3, none⟩ = some (.int .i64 p)
theorem BoxG.ext {w : World} {c d b p : Int} {x y : World} (h : BoxG w c d b p x) (hg : x.grownBy y none) : BoxG w c d b p y :=
  ⟨hg.cell h.g0 (by simp), hg.cell h.g1 (by simp), hg.cell h.g2 (by simp), hg.cell h.g3 (by simp)⟩
theorem boxG (w : World) (c d b p : Int) (T : TypeId) : BoxG w c d b p (w.alloc (fourObj c d b p T)) := by
  have e0 : ∀ o, (w.alloc (fourObj c d b p T)).cell? ⟨w.heap.size, o, none⟩ = (#[.int .i64 c, .int .i64 d, .int .i64 b, .int .i64 p] : Array Value)[o]? := fun o => by rw [fourObj, World.cell?_alloc_at _ _ _ _ rfl]
  exact ⟨e0 0, e0 1, e0 2, e0 3⟩

section
variable {w x y : World} {S : NShape} {V : Nat → Value} {s : NS} {f : Nat → Pg} {n : Int}

theorem Stand.write {ss : List ByteArray} {k : Nat} (h : Stand w S V (LK ss k) n x s) (who : Int) (hN : NandAt y S V noZs (progDone 0 k ⟨1, [(k : Int)], ss.getD k ByteArray.empty⟩ s who)) (hE : w.grownBy y none) : Stand w S V (LK ss (k + 1)) (n + 2) y (progDone 0 k ⟨1, [(k : Int)], ss.getD k ByteArray.empty⟩ s who) := by
  refine ⟨hN, progDone_calm _ _ _ _ h.calm, ?_, by rw [progDone_mr]; exact h.m0, fun i j => ?_, hE⟩
  · rw [progDone_L]; unfold updL; rw [if_pos rfl, h.L0]; exact LK_succ ss k
  · rw [progDone_L]; unfold updL
    split
    · simp only; split
      · simp
      · exact h.small _ _
    · exact h.small _ _
theorem Stand.other {m : Int} {s' : NS} (h : Stand w S V f n x s) (hN : NandAt y S V noZs s') (hc : Calm s' m) (h1 : s'.L 0 = s.L 0) (h2 : s'.mr 0 = s.mr 0) (h3 : (∀ i j, (s.L i j).bs.length ≤ 32) → ∀ i j, (s'.L i j).bs.length ≤ 32) (hE : w.grownBy y none) : Stand w S V f m y s' :=
  ⟨hN, hc, h1.trans h.L0, h2.trans h.m0, h3 h.small, hE⟩
theorem Stand.more (h : Stand w S V f n x s) (hR : Roles S) (hg : x.grownBy y none) : Stand w S V f n y s := ⟨h.at'.ext hg hR, h.calm, h.L0, h.m0, h.small, gb_trans7 h.ext hg⟩
theorem Stand.mono {m : Int} (h : Stand w S V f n x s) (hm : n ≤ m) : Stand w S V f m x s := ⟨h.at', h.calm.mono hm, h.L0, h.m0, h.small, h.ext⟩

theorem read_some (h : NandAt x S V noZs s) (hR : Roles S) (hs : ∀ i j, (s.L i j).bs.length ≤ 32) (i j : Int) :
    Calls Try.prog 9 #[.pointer (some ⟨S.nb, 0, none⟩), .int .i64 i, .int .i64 j] x fun e w' => ∃ v, e = .returned v ∧ x.grownBy w' none :=
  (read7_any h hR i j (fun i j => by have := hs i j; omega)).mono fun e w' hr => by
    rcases hr with ⟨_, h1, h2⟩ | ⟨_, ao, cap, h1, _, h2, _⟩
    · exact ⟨_, h1, h2⟩
    · exact ⟨_, h1, h2⟩
theorem bts_one {ao : Option Addr} {cap : Nat} {q : Int} (h : Bts x (.slice ao [q].length cap) [q]) : ∃ b o, ao = some ⟨b, o, none⟩ ∧ x.cell? ⟨b, o, none⟩ = some (.int .u8 q) := by
  rcases h with ⟨_, h⟩ | ⟨b, o, c, h1, _, h2⟩
  · cases h
  · simp at h1
    exact ⟨b, o, h1.1, h2 0 (by simp)⟩
end

/-- An act, boxed. -/
structure ActBx (b : Nat) (k wh bk pg : Int) (av : Option Addr) (al ac : Nat) (dt : ByteArray) (nx : Bool) (x : World) : Prop where
  c0 : x.cell? ⟨b, 0, none⟩ = some (.int .u8 k)
  c1 : x.cell? ⟨b, 1, none⟩ = some (.int .i64 wh)
  c2 : x.cell? ⟨b, 2, none⟩ = some (.int .i64 bk)
  c3 : x.cell? ⟨b, 3, none⟩ = some (.int .i64 pg)
  c4 : x.cell? ⟨b, 4, none⟩ = some (.slice av al ac)
  c5 : x.cell? ⟨b, 5, none⟩ = some (.string dt)
theorem ActBx.keep {b : Nat} {k wh bk pg : Int} {av : Option Addr} {al ac : Nat} {dt : ByteArray} {nx : Bool} {T : Nat → Nat} {x y : World} (h : ActBx b k wh bk pg av al ac dt nx x) (hk : Keeps T x y) (hb : T b = 0) : ActBx b k wh bk pg av al ac dt nx y :=
  ⟨hk.cell h.c0 hb, hk.cell h.c1 hb, hk.cell h.c2 hb, hk.cell h.c3 hb, hk.cell h.c4 hb, hk.cell h.c5 hb⟩
theorem actBx (w : World) (k wh bk pg : Int) (av : Option Addr) (al ac : Nat) (dt : ByteArray) (nx : Bool) (T : TypeId) : ActBx w.heap.size k wh bk pg av al ac dt nx (w.alloc (.cells #[.int .u8 k, .int .i64 wh, .int .i64 bk, .int .i64 pg, .slice av al ac, .string dt, .bool nx] T)) := by
  have e0 : ∀ o, (w.alloc (.cells #[.int .u8 k, .int .i64 wh, .int .i64 bk, .int .i64 pg, .slice av al ac, .string dt, .bool nx] T)).cell? ⟨w.heap.size, o, none⟩ = (#[.int .u8 k, .int .i64 wh, .int .i64 bk, .int .i64 pg, .slice av al ac, .string dt, .bool nx] : Array Value)[o]? := fun o => World.cell?_alloc_at _ _ _ _ rfl
  exact ⟨e0 0, e0 1, e0 2, e0 3, e0 4, e0 5⟩

set_option maxRecDepth 100000 in
set_option maxHeartbeats 3200000 in
theorem nandKeeps_good (c d b : Int) (pg al : Nat) (a1 : Option Addr) (len1 cap1 : Nat) (ss : List ByteArray) (a2 : Option Addr) (len2 cap2 : Nat) (w : World) (hg : geoE c d b pg = 0) (hal : c * d * b = al)
    (hS : IsStrs w a1 len1 cap1 ss) (s1 : ∀ x, a1 = some x → x.spot = none ∧ x.block < w.heap.size) (hA : IsRecX FA w a2 len2 cap2) (s2 : ∀ x, a2 = some x → x.spot = none ∧ x.block < w.heap.size) (hl : ¬ (16 : Int) < len1) (hm2 : len2 ≤ 9223372036854775807) :
    Calls Try.prog 3 #[four c d b pg, .slice a1 len1 cap1, .slice a2 len2 cap2] w (TrueB7 w) := by
  have FX := fixed7_any (w.alloc (fourObj c d b pg 23))
  have FW := fun x (hx : w.grownBy x none) => few_any a2 len2 cap2 x (hA.ext hx) (fun y hy => ⟨(s2 y hy).1, Nat.lt_of_lt_of_le (s2 y hy).2 hx.size⟩) hm2
  have MD := fun x => made_good pg al c d b (.slice none 0 0) [] x hg hal (.inl ⟨rfl, rfl⟩) (by decide) (by unfold okM; rfl)
  have hG := World.grownBy_alloc w (fourObj c d b pg 23) none
  have hB := boxG w c d b pg 23
  have hact := fun i (hi : i < len2) => act_of hA s2 hi
  have hstr := fun i (hi : i < len1) => str_at hS s1 hi
  have hcap : len1 ≤ cap1 := by rcases hS with ⟨_, h1, h2, _⟩ | ⟨_, _, h, _⟩ <;> omega
  unfold four fourObj at *
  have HH := Lib.hid (And.intro hG (And.intro hstr (And.intro hB hact)))
  have hl16 : len1 ≤ 16 := by omega
  have h16 : decide ((16 : Int) < len1) = false := by simpa using hl
  clear hG hstr hact hS hA hg hal hB hl
  go_enter Try.func3, Try.ntmps3
  go_wp2_with (first
    | (go_at_call 4; refine FX.mono ?_; rintro e w1 ⟨rfl, hg1⟩)
    | (go_at_call 5; refine (FW _ (gb_trans7 HH.out.1 hg1)).mono ?_; rintro e w2 ⟨B, rfl, hg2, hB⟩; have HB := Lib.hid hB; clear hB))
  rotate_left
  · go_ret
    exact ⟨rfl, gb_trans7 (gb_trans7 HH.out.1 hg1) hg2⟩
  have h150 := HB.out (by assumption)
  have hE2 := gb_trans7 (gb_trans7 HH.out.1 hg1) hg2
  have hB2 := HH.out.2.2.1.ext (gb_trans7 hg1 hg2)
  have H2 := Lib.hid (And.intro hE2 hB2)
  clear hE2 hB2 hg1 hg2 FX FW HB
  go_loop [33] (fun t => ∃ k : Nat, k ≤ len1 ∧ t = .int .i64 k ∧ ∀ j, j < k → (ss.getD j ByteArray.empty).size ≤ 160) (fun t => len1 - (intOf t).toNat)
  case atStart => exact ⟨0, Nat.zero_le _, rfl, fun j hj => by omega⟩
  case round =>
    obtain ⟨k, hk, rfl, hz⟩ := hrel
    have HZ := Lib.hid hz
    clear hz
    by_cases hlt : k < len1
    · obtain ⟨bb, oo, ha, hc, hsz⟩ := HH.out.2.1 k hlt
      subst ha
      have hc2 := H2.out.1.cell hc (by simp)
      obtain ⟨x, hx⟩ : ∃ x, ss.getD k ByteArray.empty = x := ⟨_, rfl⟩
      rw [hx] at hc2 hsz
      unfold maxLen at hsz
      have HX := Lib.hid hx
      clear hx hc
      by_cases hb : (160 : Int) < x.size
      · go_wp2
        go_ret
        exact ⟨rfl, H2.out.1⟩
      · go_wp2
        go_round
        case rel =>
          refine ⟨k + 1, by omega, by go_num, fun j hj => ?_⟩
          by_cases e : j = k
          · subst e; rw [HX.out]; omega
          · exact HZ.out j (by omega)
        case measure => simp [intOf]; omega
    · obtain rfl : len1 = k := by omega
      obtain ⟨x0, x1, x2, x3⟩ := H2.out.2
      go_upto_region 14 with (go_at_call 6; refine (MD _).mono ?_; rintro e w3 ⟨S, V, hR, ⟨_, _, _, _, h4, h5⟩, rfl, hN3, hg3, hT⟩; have HS := Lib.hid (And.intro h4 (And.intro h5 hT)); clear h4 h5 hT; obtain ⟨_, _, _, y3⟩ := H2.out.2.ext hg3)
      have h2p := hR.bds.2.2.1
      have h3p := HS.out.2.1
      go_cut [1] (fun t1 wx => ∃ m : Nat, t1 = .slice a1 m cap1 ∧ m ≤ len1 ∧ m ≤ pg ∧ w3 = wx)
      case first =>
        by_cases hlp : len1 ≤ pg
        · go_wp2_with fail
          go_meet
          exact ⟨len1, rfl, Nat.le_refl _, hlp, rfl⟩
        · go_wp2_with fail
          go_meet
          exact ⟨pg, rfl, by omega, Nat.le_refl _, rfl⟩
      case rest =>
        obtain ⟨m, rfl, hm1, hm3, rfl⟩ := hcut
        go_wp2
        have hT7 : ∀ k, S.T k ≠ 0 → w.heap.size ≤ k := fun k hk => by have h1 := HS.out.2.2 k hk; have h2 := H2.out.1.size; omega
        have h3a : 3 ≤ S.all := hR.bds.1
        have hst0 : Stand w S V (LK ss 0) 0 w3 (blankS [] (-1) false 0 (fun _ => 0) (fun _ => 0)) := ⟨hN3, blank_calm _, by funext j; simp [LK, blankS], rfl, fun i j => by simp [blankS, Pg.none], gb_trans7 H2.out.1 hg3⟩
        clear hN3 y3 x0 x1 x2 x3 hg3
        go_loopw [59] (fun t wr => ∃ k : Nat, k ≤ m ∧ t = .int .i64 k ∧ ∃ s, Stand w S V (LK ss k) (2 * k) wr s) (fun t _ => m - (intOf t).toNat)
        case atStart => exact ⟨0, Nat.zero_le _, rfl, _, hst0⟩
        case round =>
          clear hst0
          obtain ⟨k, hk1, rfl, s, hst⟩ := hrel
          have HST := Lib.hid hst
          clear hst
          by_cases hlt2 : k < m
          · obtain ⟨bb, oo, ha, hc, hsz⟩ := HH.out.2.1 k (by omega)
            subst ha
            have hc2 := HST.out.ext.cell hc (by simp)
            have hz1 := HZ.out k (by omega)
            have PG := prog_good (who := 4) (i := 0) (j := k) (bs := [(k : Int)]) (dt := ss.getD k ByteArray.empty) (HST.out.at'.ext (World.grownBy_alloc wr (.cells #[.int .u8 (k : Int)] 5) none) hR) hR HST.out.calm (by omega) (by omega) (by omega) HST.out.m0 (by rw [HST.out.L0, nextN_LK _ _ (by omega)])
              (one_btsA (World.cell?_alloc_at #[.int .u8 (k : Int)] _ wr.heap.size 0 rfl)) (fun _ q hq => by simp [Value.ownBlock] at hq; subst hq; exact HST.out.at'.fresh (Nat.le_refl _)) (by simp) hz1
            clear hc hsz hz1
            generalize hx : ss.getD k ByteArray.empty = x at *
            have HX := Lib.hid hx
            clear hx
            go_wp2_with (go_at_call 7; refine PG.mono ?_; rintro e w4 ⟨rfl, hN4, hk4⟩)
            go_roundw
            case rel =>
              rw [← HX.out] at hN4
              have := HST.out.write 4 hN4 (Keeps.grown (gb_trans7 HST.out.ext (World.grownBy_alloc wr _ none)) hk4 hT7)
              rw [show (2 : Int) * k + 2 = 2 * ((k + 1 : Nat) : Int) by omega] at this
              exact ⟨k + 1, by omega, by go_num, _, this⟩
            case measure => simp [intOf]; omega
          · obtain rfl : m = k := by omega
            have hst1 := HST.out.mono (m := 100) (by omega)
            clear HST
            go_wp2
            go_loopw [75] (fun t wr => ∃ i : Nat, i ≤ len2 ∧ t = .int .i64 i ∧ ∃ s, Stand w S V (LK ss m) (100 + 3 * i) wr s) (fun t _ => len2 - (intOf t).toNat)
            case atStart => exact ⟨0, Nat.zero_le _, rfl, _, by simpa using hst1⟩
            case round =>
              clear hst1
              obtain ⟨i, hi1, rfl, s, hst⟩ := hrel
              have HST := Lib.hid hst
              clear hst
              by_cases hlt3 : i < len2
              · obtain ⟨ab, ao, k, wh, bk, pp, av, al', ac, zs, dt, nx, ha, hA, hb1, hb2, hb3, hb4, hr, hd⟩ := HH.out.2.2.2 i hlt3
                subst ha
                obtain ⟨c0, c1, c2, c3, c4, c5, c6⟩ := hA.ext HST.out.ext
                obtain ⟨hrl, hrb, hrm, hro⟩ := row_btsA hr
                unfold maxLen at hrm hd
                have hE8 := World.grownBy_alloc wr (.cells #[.int .u8 k, .int .i64 wh, .int .i64 bk, .int .i64 pp, .slice av al' ac, .string dt, .bool nx] 38) none
                have hN8 := HST.out.at'.ext hE8 hR
                have hst8 := HST.out.more hR hE8
                have hw8 : S.T wr.heap.size = 0 := HST.out.at'.fresh (Nat.le_refl _)
                have hbx := actBx wr k wh bk pp av al' ac dt nx 38
                have HX := Lib.hid (And.intro hrb (And.intro hrl (And.intro hro (And.intro hN8 (And.intro hst8 (And.intro hw8 (And.intro hbx hE8)))))))
                clear hA hr hrb hrl hro hN8 hst8 hw8 hbx hE8
                by_cases hz : bk = 0
                · subst hz
                  go_wp2
                  go_roundw
                  case rel => exact ⟨i + 1, by omega, by go_num, _, HX.out.2.2.2.2.1.mono (by omega)⟩
                  case measure => simp [intOf]; omega
                · have hz' : (bk == 0) = false := by simpa using hz
                  have h4 : k % 4 = 0 ∨ k % 4 = 1 ∨ k % 4 = 2 ∨ k % 4 = 3 := by omega
                  rcases h4 with e4 | e4 | e4 | e4
                  · have hS := HX.out.2.2.2.2.2.2.1.keep (Keeps.ext (T := S.T) (Ext.drew _)) HX.out.2.2.2.2.2.1
                    have hNd := HX.out.2.2.2.1.ext (Ext.drew _) hR
                    have PA := fun (r : Int) => prog_apart (who := wh) (n := bk) (m := r) (v := .slice av al' ac) (bs := zs.take al') (dt := dt) hNd hR HST.out.calm (by omega) hz (HX.out.1.ext (gb_trans7 (gb_trans7 HST.out.ext HX.out.2.2.2.2.2.2.2) (Ext.drew _)))
                      (fun h0 q hq => Classical.byContradiction fun hne => by have h1 := hT7 q hne; have h2 := HX.out.2.2.1 (by rw [HX.out.2.1]; exact h0) q hq; omega) (by rw [← HX.out.2.1]; omega) (by omega)
                    go_wp2
                    refine region_line [(0, true), (1, true), (2, true), (3, true), (4, true), (5, true), (6, true), (7, true), (9, true), (10, true), (11, true), (12, true), (8, false), (13, false)] (ActBx wr.heap.size k wh bk pp av al' ac dt nx) (by kernel_rfl) (by kernel_rfl) (fun _ _ _ d _ h => by cases d <;> exact h) hS ?_
                    repeat (refine line_read (a' := ?_) rfl (by kernel_rfl) (by kernel_rfl) hS (fun x hx K hK => ?_) ?_; rotate_left; · obtain ⟨hx0, hx1, hx2, hx3, hx4, hx5⟩ := hx; go_wp2; exact hK)
                    refine line_act (by rfl) (fun K hK => ?_)
                    go_wp2_with (go_at_call 8; refine (next_some hNd hR bk).mono ?_; rintro e w' ⟨r, rfl, rfl⟩)
                    refine hK _ _ _ hS (fun x hx => hx) ?_
                    clear hK K
                    refine line_act (by rfl) (fun K hK => ?_)
                    go_wp2_with (go_at_call 7; refine (PA r).mono ?_; rintro e w9 ⟨v9, s9, rfl, hN9, hk9, hc9, q1, q2, q3⟩)
                    refine hK _ _ _ (hS.keep hk9 HX.out.2.2.2.2.2.1) (fun x hx => hx) ?_
                    clear hK K
                    refine line_end ?_
                    go_wp2
                    go_roundw
                    case rel => exact ⟨i + 1, by omega, by go_num, _, (HX.out.2.2.2.2.1.other hN9 hc9 q1 q2 q3 (Keeps.grown (gb_trans7 HX.out.2.2.2.2.1.ext (Ext.drew _)) hk9 hT7)).mono (by omega)⟩
                    case measure => simp [intOf]; omega
                  · go_wp2_with (go_at_call 9; refine (read_some HX.out.2.2.2.1 hR HST.out.small bk pp).mono ?_; rintro e w9 ⟨v9, rfl, hg9⟩)
                    go_roundw
                    case rel => exact ⟨i + 1, by omega, by go_num, _, (HX.out.2.2.2.2.1.more hR hg9).mono (by omega)⟩
                    case measure => simp [intOf]; omega
                  · go_wp2_with (go_at_call 10; refine (erase_apart HX.out.2.2.2.1 hR HST.out.calm (by omega) hz).mono ?_; rintro e w9 ⟨v9, s9, rfl, hN9, hk9, hc9, q1, q2, q3⟩)
                    go_roundw
                    case rel => exact ⟨i + 1, by omega, by go_num, _, (HX.out.2.2.2.2.1.other hN9 hc9 q1 q2 q3 (Keeps.grown HX.out.2.2.2.2.1.ext hk9 hT7)).mono (by omega)⟩
                    case measure => simp [intOf]; omega
                  · go_wp2_with (go_at_call 11; refine (mark_apart HX.out.2.2.2.1 hR HST.out.calm (by omega)).mono ?_; rintro e w9 ⟨v9, s9, rfl, hN9, hk9, hc9, q1, q2, q3⟩)
                    go_roundw
                    case rel => exact ⟨i + 1, by omega, by go_num, _, (HX.out.2.2.2.2.1.other hN9 hc9 q1 q2 q3 (Keeps.grown HX.out.2.2.2.2.1.ext hk9 hT7)).mono (by omega)⟩
                    case measure => simp [intOf]; omega
              · obtain rfl : len2 = i := by omega
                have hst2 := HST.out.mono (m := 600) (by omega)
                clear HST
                go_wp2
                go_loopw [126] (fun t wr => ∃ k : Nat, k ≤ m ∧ t = .int .i64 k ∧ Stand w S V (LK ss m) 600 wr s) (fun t _ => m - (intOf t).toNat)
                case atStart => exact ⟨0, Nat.zero_le _, rfl, hst2⟩
                case round =>
                  clear hst2
                  obtain ⟨k, hk2, rfl, hst⟩ := hrel
                  have HST := Lib.hid hst
                  clear hst
                  by_cases hlt4 : k < m
                  · obtain ⟨bb, oo, ha, hc, hsz⟩ := HH.out.2.1 k (by omega)
                    subst ha
                    have hc2 := HST.out.ext.cell hc (by simp)
                    have RD := read_good (i := 0) (j := k) (bs := [(k : Int)]) (dt := ss.getD k ByteArray.empty) HST.out.at' hR (by omega) (by omega) HST.out.calm.off (fun i j => by have := HST.out.small i j; omega) (by rw [HST.out.L0]; unfold LK; rw [if_pos hlt4])
                    clear hc hsz
                    generalize ss.getD k ByteArray.empty = x at *
                    go_wp2_with (go_at_call 9; refine RD.mono ?_; rintro e w5 ⟨a5, c5, rfl, hb5, hg5, ho5⟩; obtain ⟨b5, o5, rfl, hc5⟩ := bts_one hb5)
                    go_roundw
                    case rel => exact ⟨k + 1, by omega, by go_num, HST.out.more hR hg5⟩
                    case measure => simp [intOf]; omega
                  · have EG := erase_good (i := 0) (who := 4) HST.out.at' hR HST.out.calm (by omega) (by omega) HST.out.m0
                    have BK := fun x (hx : NandAt x S V noZs (eraseDone 0 S.pg s 4)) => blank7_is (i := 0) hx hR (by omega)
                    rw [show nextN ((eraseDone 0 S.pg s 4).L 0) S.pg = 0 from by rw [eraseDone_L]; simp only [if_true]; exact nextN_zero (fun j hj => by rw [if_pos hj]; rfl)] at BK
                    simp only [decide_true] at BK
                    go_wp2_with (first
                      | (go_at_call 10; refine EG.mono ?_; rintro e w6 ⟨rfl, hN6, hk6⟩)
                      | (go_at_call 12; refine (BK _ hN6).mono ?_; rintro e w' ⟨rfl, rfl⟩))
                    go_ret
                    exact ⟨rfl, Keeps.grown HST.out.ext hk6 hT7⟩

set_option maxRecDepth 100000 in
set_option maxHeartbeats 1600000 in
theorem nandKeeps_rest (c d b p : Int) (a1 : Option Addr) (len1 cap1 : Nat) (ss : List ByteArray) (a2 : Option Addr) (len2 cap2 : Nat) (w : World) (hg : geoE c d b p ≠ 0 ∨ (16 : Int) < len1)
    (hS : IsStrs w a1 len1 cap1 ss) (s1 : ∀ x, a1 = some x → x.spot = none ∧ x.block < w.heap.size) (hA : IsRecX FA w a2 len2 cap2) (s2 : ∀ x, a2 = some x → x.spot = none ∧ x.block < w.heap.size) (hm1 : len1 ≤ 9223372036854775807) (hm2 : len2 ≤ 9223372036854775807) :
    Calls Try.prog 3 #[four c d b p, .slice a1 len1 cap1, .slice a2 len2 cap2] w (TrueB7 w) := by
  have FX := fixed7_any (w.alloc (fourObj c d b p 23))
  have FW := fun x (hx : w.grownBy x none) => few_any a2 len2 cap2 x (hA.ext hx) (fun y hy => ⟨(s2 y hy).1, Nat.lt_of_lt_of_le (s2 y hy).2 hx.size⟩) hm2
  have hG := World.grownBy_alloc w (fourObj c d b p 23) none
  have hB := boxG w c d b p 23
  have hstr := fun i (hi : i < len1) => str_at hS s1 hi
  by_cases hl : (16 : Int) < len1
  · unfold four fourObj at *
    have HH := Lib.hid hG
    clear hG hstr hS hA hg hB
    go_enter Try.func3, Try.ntmps3
    go_wp2_with (first
      | (go_at_call 4; refine FX.mono ?_; rintro e w1 ⟨rfl, hg1⟩)
      | (go_at_call 5; refine (FW _ (gb_trans7 HH.out hg1)).mono ?_; rintro e w2 ⟨B, rfl, hg2, _⟩))
    all_goals
      go_ret
      exact ⟨rfl, gb_trans7 (gb_trans7 HH.out hg1) hg2⟩
  · have hge : geoE c d b p ≠ 0 := by rcases hg with h | h; exact h; exact absurd h hl
    have MD := fun x => made_geo c d b p (.slice none 0 0) x hge
    have hge' : (geoE c d b p != 0) = true := by simpa using hge
    generalize geoE c d b p = ge at *
    unfold four fourObj at *
    have HH := Lib.hid (And.intro hG (And.intro hstr hB))
    have hl16 : len1 ≤ 16 := by omega
    have h16 : decide ((16 : Int) < len1) = false := by simpa using hl
    clear hG hstr hS hA hg hge hB hl
    go_enter Try.func3, Try.ntmps3
    go_wp2_with (first
      | (go_at_call 4; refine FX.mono ?_; rintro e w1 ⟨rfl, hg1⟩)
      | (go_at_call 5; refine (FW _ (gb_trans7 HH.out.1 hg1)).mono ?_; rintro e w2 ⟨B, rfl, hg2, _⟩))
    rotate_left
    · go_ret
      exact ⟨rfl, gb_trans7 (gb_trans7 HH.out.1 hg1) hg2⟩
    have H2 := Lib.hid (And.intro (gb_trans7 (gb_trans7 HH.out.1 hg1) hg2) (HH.out.2.2.ext (gb_trans7 hg1 hg2)))
    clear hg1 hg2 FX FW
    go_loop [33] (fun t => ∃ k : Nat, k ≤ len1 ∧ t = .int .i64 k) (fun t => len1 - (intOf t).toNat)
    case atStart => exact ⟨0, Nat.zero_le _, rfl⟩
    case round =>
      obtain ⟨k, hk, rfl⟩ := hrel
      by_cases hlt : k < len1
      · obtain ⟨bb, oo, ha, hc, hsz⟩ := HH.out.2.1 k hlt
        subst ha
        have hc2 := H2.out.1.cell hc (by simp)
        generalize ss.getD k ByteArray.empty = x at *
        unfold maxLen at hsz
        clear hc
        by_cases hb : (160 : Int) < x.size
        · go_wp2
          go_ret
          exact ⟨rfl, H2.out.1⟩
        · go_wp2
          go_round
          case rel => exact ⟨k + 1, by omega, by go_num⟩
          case measure => simp [intOf]; omega
      · obtain rfl : len1 = k := by omega
        obtain ⟨x0, x1, x2, x3⟩ := H2.out.2
        go_wp2_with (go_at_call 6; refine (MD _).mono ?_; rintro e w3 ⟨pb, rfl, hg3⟩)
        go_ret
        exact ⟨rfl, gb_trans7 H2.out.1 hg3⟩

end Go.Proofs.Ytaobamnfgpllcaa
