/-
  The law WordReads: every input.
-/
import Derived.Test.YtbiegcclfckgnaaLWordReads
import Derived.Test.YtbiegcclfckgnaaRec
namespace Go.Proofs.Ytbiegcclfckgnaa
open Go.RowKit

set_option maxHeartbeats 1000000 in
theorem wordReads_nil (ao : Option Addr) (cap : Nat) (xs : List Int) (w : World) (hb : Bts w (.slice ao xs.length cap) xs) (hB : Byts xs) (hlt : ∀ k, (Value.slice ao xs.length cap).ownBlock = some k → k < w.heap.size)
    (hx : xs.length ≤ 500) :
    Calls Try.prog 3 #[.slice ao xs.length cap, .slice none 0 0] w (LawPost w) := by
  go_enter Try.func3, Try.ntmps3
  go_wp2_with (first
    | (go_at_call 6; refine (fixed_any _).mono ?_; rintro e w1 ⟨rfl, hb1, hz1⟩)
    | (go_at_call 7; refine (read_any _ xs _ (hb.below hb1 hlt) (by omega) (by omega)).mono ?_; rintro e w2 ⟨br, c, rfl, hR2, hg2, hl21, hl22, hl23⟩))
  obtain ⟨c2, hc2⟩ : ∃ n : Nat, n = (match (Value.slice ao xs.length cap).ownBlock with | some k => k | none => c) := ⟨_, rfl⟩
  have hB0 : Both w (w2.alloc (.cells #[.slice ao xs.length cap, .int .i64 0] 30)) br c w2.heap.size c2 xs 0 := by
    have hs1 := hb1.size
    have hs2 := hg2.size
    have hga := World.grownBy_alloc w2 (.cells #[.slice ao xs.length cap, .int .i64 0] 30) none
    have hb2 := bgrow hb1 hg2 (by simp)
    have hbt := (hb.below hb2 hlt).kept hga (by simp)
    have hne := hR2
    obtain ⟨_, _, _, _, hcb⟩ := hR2
    refine ⟨hne.kept hga (by simp) (by simp), ⟨_, heap_alloc_new w2 _, hbt, fun k hk => ?_, ?_⟩, hB, hb2.alloc hb2.size _, by omega, by omega, by omega, by omega, ?_⟩
    · rw [hc2, hk]
    · cases ho : (Value.slice ao xs.length cap).ownBlock with
      | none => rw [hc2, ho]; show c ≠ _; omega
      | some k => have := hlt k ho; rw [hc2, ho]; show k ≠ _; omega
    · cases ho : (Value.slice ao xs.length cap).ownBlock with
      | none => rw [hc2, ho]; exact hcb
      | some k => have := hlt k ho; rw [hc2, ho]; show k ≠ _; omega
  clear hc2
  go_loopw [27] (fun i wr => i = .int .i64 0 ∧ Both w wr br c w2.heap.size c2 xs 0) (fun i _ => 0)
  case atStart => exact ⟨rfl, hB0⟩
  case round =>
    clear hB0
    obtain ⟨rfl, hBo⟩ := hrel
    go_wp2_with (first
      | (go_at_call 14; refine (done_any br c xs 0 _ hBo.r).mono ?_; rintro e1 w3 ⟨rfl, hr3, hg3⟩)
      | (go_at_call 15; refine (refDone_any w2.heap.size c2 xs 0 w3 (RdIs.kept hBo.q hg3 (by simpa using hBo.ne.symm) (by simpa using hBo.ne2))).mono ?_; rintro e1 w4 ⟨rfl, hq4, hg4⟩))
    go_ret
    exact ⟨ret_bool (by simp), bgrow (bgrow hBo.below hg3 (fun k hk => by cases hk; exact hBo.hbr)) hg4 (fun k hk => by cases hk; exact hBo.hbr2)⟩

set_option maxHeartbeats 400000 in
theorem wordReads_any (ao al : Option Addr) (cap len2 cap2 : Nat) (xs : List Int) (ks ns : Nat → Int) (w : World) (hb : Bts w (.slice ao xs.length cap) xs) (hB : Byts xs) (hlt : ∀ k, (Value.slice ao xs.length cap).ownBlock = some k → k < w.heap.size)
    (hl : (al = none ∧ len2 = 0 ∧ cap2 = 0) ∨ ∃ b off, al = some ⟨b, off, none⟩ ∧ b < w.heap.size ∧ ∀ i, i < len2 → w.cell? ⟨b, off + i * 2, none⟩ = some (.int .u8 (ks i)) ∧ w.cell? ⟨b, off + i * 2 + 1, none⟩ = some (.int .i64 (ns i)))
    (hk : ∀ i, i < len2 → 0 ≤ ks i ∧ ks i ≤ 255) (hx9 : xs.length ≤ 9223372036854775807) (hl9 : len2 ≤ 9223372036854775807) :
    Calls Try.prog 3 #[.slice ao xs.length cap, .slice al len2 cap2] w (LawPost w) := by
  by_cases hx : xs.length ≤ 500
  · by_cases hy : len2 ≤ 100
    · rcases hl with ⟨rfl, rfl, rfl⟩ | ⟨b, off, rfl, hl2, hl⟩
      · exact wordReads_nil ao cap xs w hb hB hlt hx
      · exact wordReads_few ao cap xs b off len2 cap2 ks ns w hb hB hlt hl hl2 hk hx hy
    · clear hl hk
      go_enter Try.func3, Try.ntmps3
      go_wp2_with (go_at_call 6; refine (fixed_any _).mono ?_; rintro e w1 ⟨rfl, hb1, hz1⟩)
      go_ret
      exact ⟨rfl, hb1⟩
  · clear hl hk
    go_enter Try.func3, Try.ntmps3
    go_wp2_with (go_at_call 6; refine (fixed_any _).mono ?_; rintro e w1 ⟨rfl, hb1, hz1⟩)
    go_ret
    exact ⟨rfl, hb1⟩

theorem asks_of {w : World} {a : Option Addr} {len cap : Nat} (h : IsRecs [.inl .u8, .inl .i64] w a len cap) (hs : ∀ x, a = some x → x.spot = none ∧ x.block < w.heap.size) :
    ∃ ks ns : Nat → Int, ((a = none ∧ len = 0 ∧ cap = 0) ∨ ∃ b off, a = some ⟨b, off, none⟩ ∧ b < w.heap.size ∧ ∀ i, i < len → w.cell? ⟨b, off + i * 2, none⟩ = some (.int .u8 (ks i)) ∧ w.cell? ⟨b, off + i * 2 + 1, none⟩ = some (.int .i64 (ns i))) ∧
      (∀ i, i < len → 0 ≤ ks i ∧ ks i ≤ 255) ∧ len ≤ maxLen := by
  rcases h with ⟨rfl, rfl, rfl⟩ | ⟨x, rfl, h1, h2, h3⟩
  · exact ⟨fun _ => 0, fun _ => 0, .inl ⟨rfl, rfl, rfl⟩, fun i hi => by omega, Nat.zero_le _⟩
  · obtain ⟨hsp, hb⟩ := hs x rfl
    obtain ⟨b, off, sp⟩ := x
    simp only at hsp hb
    subst hsp
    refine ⟨fun i => intOf ((w.cell? ⟨b, off + i * 2, none⟩).getD undef), fun i => intOf ((w.cell? ⟨b, off + i * 2 + 1, none⟩).getD undef), .inr ⟨b, off, rfl, hb, fun i hi => ?_⟩, fun i hi => ?_, by omega⟩
    · obtain ⟨v, hc, n, rfl, _⟩ := h3 i hi 0 _ rfl
      obtain ⟨u, hd, m, rfl, _⟩ := h3 i hi 1 _ rfl
      rw [addr_add] at hc hd
      simp only [List.length_cons, List.length_nil, Nat.add_zero, Nat.zero_add, Nat.reduceAdd, ← Nat.add_assoc] at hc hd
      constructor
      · rw [hc]; simp only [hc, Option.getD_some, intOf]
      · rw [hd]; simp only [hd, Option.getD_some, intOf]
    · obtain ⟨v, hc, n, rfl, hw⟩ := h3 i hi 0 _ rfl
      rw [addr_add] at hc
      simp only [List.length_cons, List.length_nil, Nat.add_zero, Nat.zero_add, Nat.reduceAdd] at hc
      simp [Lit.wf, IntKind.min, IntKind.max, IntKind.bits, IntKind.signed] at hw
      simp only [hc, Option.getD_some, intOf]
      omega

end Go.Proofs.Ytbiegcclfckgnaa
