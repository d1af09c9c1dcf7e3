/-
  Layer 7's law: acts that came in; few.
-/
import Derived.Test.YtaobamnfgpllcaaNP
import Derived.Test.YtaobamnfgpllcaaRX
namespace Go.Proofs.Ytaobamnfgpllcaa
open Go.RowKit

abbrev FA : List FX := [.int .u8, .int .i64, .int .i64, .int .i64, .byts, .str, .bool]

/-- An act in memory, at ⟨b, o⟩. -/
structure ActAt (w : World) (b o : Nat) (k wh bk pg : Int) (av : Option Addr) (al ac : Nat) (dt : ByteArray) (nx : Bool) : Prop where
  c0 : w.cell? ⟨b, o, none⟩ = some (.int .u8 k)
  c1 : w.cell? ⟨b, o + 1, none⟩ = some (.int .i64 wh)
  c2 : w.cell? ⟨b, o + 2, none⟩ = some (.int .i64 bk)
  c3 : w.cell? ⟨b, o + 3, none⟩ = some (.int .i64 pg)
  c4 : w.cell? ⟨b, o + 4, none⟩ = some (.slice av al ac)
  c5 : w.cell? ⟨b, o + 5, none⟩ = some (.string dt)
  c6 : w.cell? ⟨b, o + 6, none⟩ = some (.bool nx)
theorem ActAt.ext {w w' : World} {b o : Nat} {k wh bk pg : Int} {av : Option Addr} {al ac : Nat} {dt : ByteArray} {nx : Bool} (h : ActAt w b o k wh bk pg av al ac dt nx) (hg : w.grownBy w' none) : ActAt w' b o k wh bk pg av al ac dt nx :=
  ⟨hg.cell h.c0 (by simp), hg.cell h.c1 (by simp), hg.cell h.c2 (by simp), hg.cell h.c3 (by simp), hg.cell h.c4 (by simp), hg.cell h.c5 (by simp), hg.cell h.c6 (by simp)⟩

theorem act_of {w : World} {a : Option Addr} {len cap : Nat} (h : IsRecX FA w a len cap) (hs : ∀ x, a = some x → x.spot = none ∧ x.block < w.heap.size) {i : Nat} (hi : i < len) :
    ∃ b off k wh bk pg av al ac zs dt nx, a = some ⟨b, off, none⟩ ∧ ActAt w b (off + i * 7) k wh bk pg av al ac dt nx ∧ (0 ≤ k ∧ k ≤ 255) ∧ (-9223372036854775808 ≤ wh ∧ wh ≤ 9223372036854775807) ∧ (-9223372036854775808 ≤ bk ∧ bk ≤ 9223372036854775807) ∧ (-9223372036854775808 ≤ pg ∧ pg ≤ 9223372036854775807) ∧
      IsRow .u8 w av al ac zs ∧ dt.size ≤ maxLen := by
  rcases h with ⟨rfl, rfl, rfl⟩ | ⟨x, rfl, h1, h2, h3⟩
  · omega
  · obtain ⟨hsp, hb⟩ := hs x rfl
    obtain ⟨b, off, sp⟩ := x
    simp only at hsp hb
    subst hsp
    obtain ⟨v0, c0, k, rfl, w0⟩ := h3 i hi 0 _ rfl
    obtain ⟨v1, c1, wh, rfl, w1⟩ := h3 i hi 1 _ rfl
    obtain ⟨v2, c2, bk, rfl, w2⟩ := h3 i hi 2 _ rfl
    obtain ⟨v3, c3, pg, rfl, w3⟩ := h3 i hi 3 _ rfl
    obtain ⟨v4, c4, av, al, ac, zs, rfl, w4⟩ := h3 i hi 4 _ rfl
    obtain ⟨v5, c5, dt, rfl, w5⟩ := h3 i hi 5 _ rfl
    obtain ⟨v6, c6, nx, rfl⟩ := h3 i hi 6 _ rfl
    rw [addr_add] at c0 c1 c2 c3 c4 c5 c6
    simp only [List.length_cons, List.length_nil, Nat.add_zero, Nat.zero_add, Nat.reduceAdd, ← Nat.add_assoc] at c0 c1 c2 c3 c4 c5 c6
    simp [Lit.wf, IntKind.min, IntKind.max, IntKind.bits, IntKind.signed] at w0 w1 w2 w3
    exact ⟨b, off, k, wh, bk, pg, av, al, ac, zs, dt, nx, rfl, ⟨c0, c1, c2, c3, c4, c5, c6⟩, by omega, by omega, by omega, by omega, w4, w5⟩

theorem row_btsA {w : World} {a : Option Addr} {len cap : Nat} {zs : List Int} (h : IsRow .u8 w a len cap zs) : len = (zs.take len).length ∧ BtsA w (.slice a len cap) (zs.take len) ∧ len ≤ maxLen ∧ (0 < len → ∀ k, (Value.slice a len cap).ownBlock = some k → k < w.heap.size) := by
  rcases h with ⟨rfl, rfl, rfl, rfl⟩ | ⟨x, rfl, hl, hm, hz, hc, _⟩
  · exact ⟨rfl, .inl ⟨rfl, rfl⟩, Nat.zero_le _, fun h => absurd h (Nat.lt_irrefl _)⟩
  · have hlen : (zs.take len).length = len := by simp; omega
    refine ⟨hlen.symm, .inr ⟨x, cap, by rw [hlen], by omega, fun i hi => ?_⟩, by omega, fun h0 k hk => ?_⟩
    · rw [hlen] at hi
      rw [hc i (by omega)]
      simp [hi]
    · simp [Value.ownBlock] at hk
      subst hk
      have hb := World.block_lt_of_cell? w _ (hc 0 (by omega))
      have e8 : (x.add 0).block = x.block := by unfold Addr.add; split <;> rfl
      rwa [e8] at hb

def FewP (len : Nat) (w : World) (e : Ending) (w' : World) : Prop := ∃ B, e = .returned (.bool B) ∧ w.grownBy w' none ∧ (B = true → len ≤ 150)

set_option maxHeartbeats 1600000 in
theorem few_any (a : Option Addr) (len cap : Nat) (w : World) (h : IsRecX FA w a len cap) (hs : ∀ x, a = some x → x.spot = none ∧ x.block < w.heap.size) (hm : len ≤ 9223372036854775807) :
    Calls Try.prog 5 #[.slice a len cap] w (FewP len w) := by
  have H := Lib.hid (And.intro h hs)
  clear h hs
  go_enter Try.func5, Try.ntmps5
  go_wp2
  go_loopw [7] (fun t wr => ∃ k : Nat, k ≤ len ∧ t = .int .i64 k ∧ w.grownBy wr none) (fun t _ => len - (intOf t).toNat)
  case atStart => exact ⟨0, Nat.zero_le _, rfl, Ext.refl w⟩
  case round =>
    obtain ⟨i, hi, rfl, hE⟩ := hrel
    by_cases hlt : i < len
    · obtain ⟨b, off, k, wh, bk, pg, av, al, ac, zs, dt, nx, ha, hA, _, _, _, _, hr, hd⟩ := act_of H.out.1 H.out.2 hlt
      subst ha
      obtain ⟨c0, c1, c2, c3, c4, c5, c6⟩ := hA.ext hE
      have hal := (row_btsA hr).2.2.1
      unfold maxLen at hal hd
      have HE := Lib.hid hE
      clear hA hr hE
      by_cases g1 : (200 : Int) < al
      · go_wp2
        go_ret
        exact ⟨false, rfl, gb_trans7 HE.out (World.grownBy_alloc _ _ none), fun h => by cases h⟩
      · by_cases g2 : (300 : Int) < dt.size
        · go_wp2
          go_ret
          exact ⟨false, rfl, gb_trans7 HE.out (World.grownBy_alloc _ _ none), fun h => by cases h⟩
        · go_wp2
          go_roundw
          case rel => exact ⟨i + 1, by omega, by go_num, gb_trans7 HE.out (World.grownBy_alloc _ _ none)⟩
          case measure => simp [intOf]; omega
    · have HE := Lib.hid hE
      clear hE
      go_wp2
      go_ret
      exact ⟨_, rfl, HE.out, fun h => by simp at h; omega⟩

end Go.Proofs.Ytaobamnfgpllcaa
