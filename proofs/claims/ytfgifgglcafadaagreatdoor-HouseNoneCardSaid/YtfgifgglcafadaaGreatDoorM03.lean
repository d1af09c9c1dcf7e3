/-
  Texts put together: GB WB NA NB NC PC ND NE.
-/
import Derived.Test.YtfgifgglcafadaaGreatDoorM02
import Derived.Test.YtfgifgglcafadaaGreatDoorM01
namespace Go.Proofs.YtfgifgglcafadaaGreatDoor
set_option linter.unusedVariables false
set_option linter.unusedSimpArgs false
set_option linter.unusedVariables false
set_option linter.unusedSimpArgs false
set_option maxRecDepth 100000
open Go.RowKit
theorem geo_ok {c d b p : Int} (h : geoE c d b p = 0) : (1 ≤ c ∧ c ≤ 64) ∧ (1 ≤ d ∧ d ≤ 64) ∧ (1 ≤ b ∧ b ≤ 64) ∧ (2 ≤ p ∧ p ≤ 16) ∧ 3 ≤ c * d * b ∧ c * d * b ≤ 64 := by
 unfold geoE at h
 repeat (split at h; · omega)
 omega
def blocksN (c d b p : Int) : Int := if geoE c d b p = 0 then c * d * b else 0
set_option maxHeartbeats 400000 in
theorem blocks_any (c d b p : Int) (w : World) :
   Calls Tryz.prog 89 #[four c d b p] w fun e w' => e = .returned (.int .i64 (blocksN c d b p)) ∧ (w.alloc (fourObj c d b p 23)).alloc (fourObj c d b p 23) = w' := by
 by_cases h : geoE c d b p = 0
 · obtain ⟨g1, g2, g3, g4, g5, g6⟩ := geo_ok h
   obtain ⟨m1, m2, m3, m4⟩ := mul3_bd g1.1 g1.2 g2.1 g2.2 g3.1 g3.2
   have G : Hid (blocksN c d b p = c * d * b) := Lib.hid (by unfold blocksN; rw [if_pos h])
   have H := Lib.hid h
   clear h
   have C := check_any c d b p
   unfold four fourObj at *
   go_enter Tryz.func89, Tryz.ntmps89
   go_wp2_with (go_at_call 88; refine (C _).mono ?_; rintro e w' ⟨rfl, rfl⟩; rw [H.out])
   go_ret
   exact ⟨ret_int G.out.symm, rfl⟩
 · have G : Hid (blocksN c d b p = 0) := Lib.hid (by unfold blocksN; rw [if_neg h])
   have h' : (geoE c d b p == 0) = false := by simpa using h
   have C := check_any c d b p
   unfold four fourObj at *
   go_enter Tryz.func89, Tryz.ntmps89
   go_wp2_with (go_at_call 88; refine (C _).mono ?_; rintro e w' ⟨rfl, rfl⟩)
   go_ret
   exact ⟨ret_int G.out.symm, rfl⟩
end Go.Proofs.YtfgifgglcafadaaGreatDoor

namespace Go.Proofs.YtfgifgglcafadaaGreatDoor
set_option linter.unusedVariables false
set_option linter.unusedSimpArgs false
set_option linter.unusedVariables false
set_option linter.unusedSimpArgs false
set_option maxRecDepth 100000
open Go.RowKit
attribute [local go_sem] Tryz.eqNil22
theorem clone_nil (w : World) : Calls Tryz.prog 215 #[.slice none 0 0] w (fun e w' => e = .returned (.slice none 0 0) ∧ w = w') := by
 go_enter Tryz.func215, Tryz.ntmps215
 go_wp2
 go_ret
 exact ⟨rfl, rfl⟩
set_option maxHeartbeats 400000 in
theorem clone_some (b off cap : Nat) (xs : List Int) (w : World) (hc : ∀ i, i < xs.length → w.cell? ⟨b, off + i, none⟩ = some (.int .u8 (xs.getD i 0))) (hm : xs.length ≤ 140737488351232) :
   Calls Tryz.prog 215 #[.slice (some ⟨b, off, none⟩) xs.length cap] w (Made w.heap.size w xs) := by
 obtain ⟨i0, hi, hz0, hz1, hz2⟩ := info_parts Tryz.infoU8
 have hown := World.ownsRow_made (base := w.heap.size) (e := 5) (size := 1) w #[] 0 (Nat.le_refl _) (Nat.zero_le _) rfl
 have hcs := cells_of hc
 go_enter Tryz.func215, Tryz.ntmps215
 go_wp2_with (at_builtin; go_loud (refine wpList_append_own _ rfl _ _ 73 rfl w.heap.size 5 i0 (.int .u8 0) 1 1 Tryz.underlying73 hi hz0 hz1 hz2 rfl (by decide) _ _ _ rfl hown ⟨b, off, none⟩ xs.length cap (xs.map (Value.int .u8)) rfl (by simp) ?c1 ?c2 ?c3 ?c4 ?c5 ?_))
 case c1 =>
   intro j u hj
   have := hcs j u hj
   rw [addr_add] at this ⊢
   rw [World.cell?_alloc_old _ _ _ (Nat.ne_of_lt (World.block_lt_of_cell? w _ this))]
   exact this
 case c2 => exact ints_oneCell _ _
 case c3 => unfold maxLen; omega
 case c4 => omega
 case c5 => simp
 · intro v' w1 hown' hgrow _
   go_wp2
   go_ret
   refine ⟨v', rfl, ?_, ?_⟩
   · simpa using hown'
   · exact grown_trans (World.grownBy_alloc w _ none) hgrow (fun k hk h => by simp [Value.ownBlock] at hk; omega)
end Go.Proofs.YtfgifgglcafadaaGreatDoor

namespace Go.Proofs.YtfgifgglcafadaaGreatDoor
set_option linter.unusedVariables false
set_option linter.unusedSimpArgs false
set_option linter.unusedVariables false
set_option linter.unusedSimpArgs false
set_option maxRecDepth 100000
open Go.RowKit
structure Pg where
 st : Int
 bs : List Int
 dt : ByteArray
def Pg.none (x : Int) : Pg := ⟨x, [], ⟨#[]⟩⟩
structure NShape where
 nb : Nat
 bl : Nat
 bm : Nat
 be : Nat
 pb : Nat
 db : Nat
 row : Nat → Nat
 T : Nat → Nat
 c : Int
 d : Int
 b : Int
 p : Int
 all : Nat
 pg : Nat
structure NS where
 L : Nat → Nat → Pg
 mr : Nat → Bool
 er : Nat → Int
 px : Int
 off : Bool
 po : Int
 N : Nat → Int
 M : Nat → Int
structure RowAt (w : World) (T : Nat → Nat) (k pg : Nat) (f : Nat → Pg) : Prop where
 st : ∀ j, j < pg → w.cell? ⟨k, j * 3, none⟩ = some (.int .i64 (f j).st)
 bs : ∀ j, j < pg → ∃ v, w.cell? ⟨k, j * 3 + 1, none⟩ = some v ∧ Bts w v (f j).bs ∧ ∀ q, v.ownBlock = some q → T q = 0
 dt : ∀ j, j < pg → w.cell? ⟨k, j * 3 + 2, none⟩ = some (.string (f j).dt)
 free : ∀ o, w.frozen? ⟨k, o, none⟩ = false
structure FixAt (w : World) (S : NShape) : Prop where
 g0 : w.cell? ⟨S.nb, 0, none⟩ = some (.int .i64 S.c)
 g1 : w.cell? ⟨S.nb, 1, none⟩ = some (.int .i64 S.d)
 g2 : w.cell? ⟨S.nb, 2, none⟩ = some (.int .i64 S.b)
 g3 : w.cell? ⟨S.nb, 3, none⟩ = some (.int .i64 S.p)
 cp : w.cell? ⟨S.nb, 4, none⟩ = some (.pointer (some ⟨S.pb, 0, none⟩))
 cd : w.cell? ⟨S.nb, 5, none⟩ = some (.pointer (some ⟨S.db, 0, none⟩))
 cl : w.cell? ⟨S.nb, 6, none⟩ = some (.slice (some ⟨S.bl, 0, none⟩) S.all S.all)
 cm : w.cell? ⟨S.nb, 7, none⟩ = some (.slice (some ⟨S.bm, 0, none⟩) S.all S.all)
 ce : w.cell? ⟨S.nb, 8, none⟩ = some (.slice (some ⟨S.be, 0, none⟩) S.all S.all)
 rows : ∀ i, i < S.all → w.cell? ⟨S.bl, i, none⟩ = some (.slice (some ⟨S.row i, 0, none⟩) S.pg S.pg)
structure Roles (S : NShape) : Prop where
 tn : S.T S.nb = 1
 tl : S.T S.bl = 2
 tm : S.T S.bm = 3
 te : S.T S.be = 4
 tp : S.T S.pb = 5
 td : S.T S.db = 6
 tr : ∀ i, i < S.all → S.T (S.row i) = 8 + i
 geo : geoE S.c S.d S.b S.p = 0
 alls : (S.all : Int) = S.c * S.d * S.b
 pgs : (S.pg : Int) = S.p
structure NandAt (w : World) (S : NShape) (V : Nat → Value) (zs : Nat → List Int) (s : NS) : Prop where
 fix : FixAt w S
 row : ∀ i, i < S.all → RowAt w S.T (S.row i) S.pg (s.L i)
 mks : ∀ i, i < S.all → w.cell? ⟨S.bm, i, none⟩ = some (.bool (s.mr i))
 mkf : ∀ o, w.frozen? ⟨S.bm, o, none⟩ = false
 ers : ∀ i, i < S.all → w.cell? ⟨S.be, i, none⟩ = some (.int .i64 (s.er i))
 erf : ∀ o, w.frozen? ⟨S.be, o, none⟩ = false
 pow : PowAt w S.pb s.px s.off s.po
 drs : DrAt w S.db V zs s.N s.M
 tv : ∀ j, j < 4 → ∀ k, (V j).ownBlock = some k → S.T k = 0
 hi : ∀ k, S.T k ≠ 0 → k < w.heap.size
theorem Roles.bds {S : NShape} (h : Roles S) : 3 ≤ S.all ∧ S.all ≤ 64 ∧ 2 ≤ S.pg ∧ S.pg ≤ 16 := by
 obtain ⟨_, _, _, h4, h5, h6⟩ := geo_ok h.geo
 have := h.alls
 have := h.pgs
 omega
structure Keeps (T : Nat → Nat) (w w' : World) : Prop where
 os : w'.os = w.os
 tape : w'.tape = w.tape
 output : w'.output = w.output
 size : w.heap.size ≤ w'.heap.size
 block : ∀ k, k < w.heap.size → T k = 0 → w'.heap[k]? = w.heap[k]?
theorem Keeps.refl (T : Nat → Nat) (w : World) : Keeps T w w := ⟨rfl, rfl, rfl, Nat.le_refl _, fun _ _ _ => rfl⟩
theorem Keeps.trans {T : Nat → Nat} {w w1 w2 : World} (h : Keeps T w w1) (h2 : Keeps T w1 w2) : Keeps T w w2 :=
 ⟨h2.os.trans h.os, h2.tape.trans h.tape, h2.output.trans h.output, Nat.le_trans h.size h2.size, fun k hk ht => (h2.block k (Nat.lt_of_lt_of_le hk h.size) ht).trans (h.block k hk ht)⟩
theorem Keeps.ext {T : Nat → Nat} {w w1 : World} (h : w.grownBy w1 none) : Keeps T w w1 := ⟨h.os, h.tape, h.output, h.size, fun k hk _ => h.block k hk (by simp)⟩
theorem Keeps.own {T : Nat → Nat} {w w1 : World} {r : Nat} (h : w.grownBy w1 (some r)) (hr : T r ≠ 0) : Keeps T w w1 :=
 ⟨h.os, h.tape, h.output, h.size, fun k hk ht => h.block k hk (fun e => by cases e; exact hr ht)⟩
theorem Keeps.bts {T : Nat → Nat} {w w1 : World} (h : Keeps T w w1) {v : Value} {xs : List Int} (hb : Bts w v xs) (hv : ∀ q, v.ownBlock = some q → T q = 0) : Bts w1 v xs := by
 rcases hb with hb | ⟨b, off, cap, rfl, h2, h3⟩
 · exact .inl hb
 · exact .inr ⟨b, off, cap, rfl, h2, fun i hi => (World.cell?_of_block (h.block b (World.block_lt_of_cell? w _ (h3 i hi)) (hv b rfl))).trans (h3 i hi)⟩
theorem Keeps.ints {T : Nat → Nat} {w w1 : World} (h : Keeps T w w1) {v : Value} {xs : List Int} (hb : Ints w v xs) (hv : ∀ q, v.ownBlock = some q → T q = 0) : Ints w1 v xs := by
 rcases hb with hb | ⟨b, off, cap, rfl, h2, h3⟩ | hb
 · exact .inl hb
 · exact .inr (.inl ⟨b, off, cap, rfl, h2, fun i hi => (World.cell?_of_block (h.block b (World.block_lt_of_cell? w _ (h3 i hi)) (hv b rfl))).trans (h3 i hi)⟩)
 · exact .inr (.inr hb)
theorem RowAt.stays {w w' : World} {T : Nat → Nat} {k pg : Nat} {f : Nat → Pg} (h : RowAt w T k pg f) (hk : Keeps T w w') (hb : w'.heap[k]? = w.heap[k]?) : RowAt w' T k pg f :=
 ⟨fun j hj => (World.cell?_of_block hb).trans (h.st j hj), fun j hj => by
   obtain ⟨v, h1, h2, h3⟩ := h.bs j hj
   exact ⟨v, (World.cell?_of_block hb).trans h1, hk.bts h2 h3, h3⟩, fun j hj => (World.cell?_of_block hb).trans (h.dt j hj), fun o => (World.frozen?_of_block hb).trans (h.free o)⟩
theorem FixAt.stays {w w' : World} {S : NShape} (h : FixAt w S) (h1 : w'.heap[S.nb]? = w.heap[S.nb]?) (h2 : w'.heap[S.bl]? = w.heap[S.bl]?) : FixAt w' S :=
 ⟨(World.cell?_of_block h1).trans h.g0, (World.cell?_of_block h1).trans h.g1, (World.cell?_of_block h1).trans h.g2, (World.cell?_of_block h1).trans h.g3, (World.cell?_of_block h1).trans h.cp, (World.cell?_of_block h1).trans h.cd,
   (World.cell?_of_block h1).trans h.cl, (World.cell?_of_block h1).trans h.cm, (World.cell?_of_block h1).trans h.ce, fun i hi => (World.cell?_of_block h2).trans (h.rows i hi)⟩
theorem PowAt.stays {w w' : World} {b : Nat} {x : Int} {g : Bool} {o : Int} (h : PowAt w b x g o) (e : w'.heap[b]? = w.heap[b]?) : PowAt w' b x g o :=
 ⟨(World.cell?_of_block e).trans h.c0, (World.cell?_of_block e).trans h.c1, (World.cell?_of_block e).trans h.c2, (World.frozen?_of_block e).trans h.f0, (World.frozen?_of_block e).trans h.f1, (World.frozen?_of_block e).trans h.f2⟩
theorem DrAt.stays {w w' : World} {T : Nat → Nat} {b : Nat} {V : Nat → Value} {zs : Nat → List Int} {N M : Nat → Int} (h : DrAt w b V zs N M) (hk : Keeps T w w') (e : w'.heap[b]? = w.heap[b]?) (hv : ∀ j, j < 4 → ∀ k, (V j).ownBlock = some k → T k = 0) : DrAt w' b V zs N M :=
 ⟨fun j hj => (World.cell?_of_block e).trans (h.row j hj), fun j hj => (World.cell?_of_block e).trans (h.ops j hj), fun j hj => (World.cell?_of_block e).trans (h.bad j hj), fun o => (World.frozen?_of_block e).trans (h.free o), fun j hj => hk.ints (h.ints j hj) (hv j hj), h.apart⟩
section
variable {w w' : World} {S : NShape} {V : Nat → Value} {zs : Nat → List Int} {s : NS}
theorem NandAt.ext (h : NandAt w S V zs s) (hg : w.grownBy w' none) (hR : Roles S) : NandAt w' S V zs s := by
 have kp : Keeps S.T w w' := .ext hg
 have e : ∀ k, S.T k ≠ 0 → w'.heap[k]? = w.heap[k]? := fun k hk => hg.block k (h.hi k hk) (by simp)
 have e3 := e S.bm (by rw [hR.tm]; decide)
 have e4 := e S.be (by rw [hR.te]; decide)
 exact ⟨h.fix.stays (e _ (by rw [hR.tn]; decide)) (e _ (by rw [hR.tl]; decide)), fun i hi => (h.row i hi).stays kp (e _ (by rw [hR.tr i hi]; omega)), fun i hi => (World.cell?_of_block e3).trans (h.mks i hi), fun o => (World.frozen?_of_block e3).trans (h.mkf o),
   fun i hi => (World.cell?_of_block e4).trans (h.ers i hi), fun o => (World.frozen?_of_block e4).trans (h.erf o), h.pow.stays (e _ (by rw [hR.tp]; decide)), h.drs.stays kp (e _ (by rw [hR.td]; decide)) h.tv, h.tv, fun k hk => Nat.lt_of_lt_of_le (h.hi k hk) hg.size⟩
theorem NandAt.others (h : NandAt w S V zs s) {r : Nat} (hg : w.grownBy w' (some r)) {k : Nat} (hk : S.T k ≠ 0) (hr : S.T k ≠ S.T r) : w'.heap[k]? = w.heap[k]? :=
 hg.block k (h.hi k hk) (fun e => hr (by cases e; rfl))
theorem NandAt.power (h : NandAt w S V zs s) (hR : Roles S) (hg : w.grownBy w' (some S.pb)) {x : Int} {g : Bool} {o : Int} (hp : PowAt w' S.pb x g o) : NandAt w' S V zs { s with px := x, off := g, po := o } := by
 have kp : Keeps S.T w w' := .own hg (by rw [hR.tp]; decide)
 have e : ∀ k, S.T k ≠ 0 → S.T k ≠ 5 → w'.heap[k]? = w.heap[k]? := fun k hk h5 => h.others hg hk (by rw [hR.tp]; exact h5)
 have e3 := e S.bm (by rw [hR.tm]; decide) (by rw [hR.tm]; decide)
 have e4 := e S.be (by rw [hR.te]; decide) (by rw [hR.te]; decide)
 exact ⟨h.fix.stays (e _ (by rw [hR.tn]; decide) (by rw [hR.tn]; decide)) (e _ (by rw [hR.tl]; decide) (by rw [hR.tl]; decide)), fun i hi => (h.row i hi).stays kp (e _ (by rw [hR.tr i hi]; omega) (by rw [hR.tr i hi]; omega)), fun i hi => (World.cell?_of_block e3).trans (h.mks i hi), fun o => (World.frozen?_of_block e3).trans (h.mkf o),
   fun i hi => (World.cell?_of_block e4).trans (h.ers i hi), fun o => (World.frozen?_of_block e4).trans (h.erf o), hp, h.drs.stays kp (e _ (by rw [hR.td]; decide) (by rw [hR.td]; decide)) h.tv, h.tv, fun k hk => Nat.lt_of_lt_of_le (h.hi k hk) hg.size⟩
theorem NandAt.draws (h : NandAt w S V zs s) (hR : Roles S) (hg : w.grownBy w' (some S.db)) {N M : Nat → Int} (hd : DrAt w' S.db V zs N M) : NandAt w' S V zs { s with N := N, M := M } := by
 have kp : Keeps S.T w w' := .own hg (by rw [hR.td]; decide)
 have e : ∀ k, S.T k ≠ 0 → S.T k ≠ 6 → w'.heap[k]? = w.heap[k]? := fun k hk h5 => h.others hg hk (by rw [hR.td]; exact h5)
 have e3 := e S.bm (by rw [hR.tm]; decide) (by rw [hR.tm]; decide)
 have e4 := e S.be (by rw [hR.te]; decide) (by rw [hR.te]; decide)
 exact ⟨h.fix.stays (e _ (by rw [hR.tn]; decide) (by rw [hR.tn]; decide)) (e _ (by rw [hR.tl]; decide) (by rw [hR.tl]; decide)), fun i hi => (h.row i hi).stays kp (e _ (by rw [hR.tr i hi]; omega) (by rw [hR.tr i hi]; omega)), fun i hi => (World.cell?_of_block e3).trans (h.mks i hi), fun o => (World.frozen?_of_block e3).trans (h.mkf o),
   fun i hi => (World.cell?_of_block e4).trans (h.ers i hi), fun o => (World.frozen?_of_block e4).trans (h.erf o), h.pow.stays (e _ (by rw [hR.tp]; decide) (by rw [hR.tp]; decide)), hd, h.tv, fun k hk => Nat.lt_of_lt_of_le (h.hi k hk) hg.size⟩
theorem NandAt.turnRow (h : NandAt w S V zs s) (hR : Roles S) {i : Nat} (hi : i < S.all) (hg : w.grownBy w' (some (S.row i))) {f : Nat → Pg} (hf : RowAt w' S.T (S.row i) S.pg f) :
   NandAt w' S V zs { s with L := fun i' => if i' = i then f else s.L i' } := by
 have kp : Keeps S.T w w' := .own hg (by rw [hR.tr i hi]; omega)
 have e : ∀ k, S.T k ≠ 0 → S.T k ≠ 8 + i → w'.heap[k]? = w.heap[k]? := fun k hk h5 => h.others hg hk (by rw [hR.tr i hi]; exact h5)
 have e3 := e S.bm (by rw [hR.tm]; decide) (by rw [hR.tm]; omega)
 have e4 := e S.be (by rw [hR.te]; decide) (by rw [hR.te]; omega)
 refine ⟨h.fix.stays (e _ (by rw [hR.tn]; decide) (by rw [hR.tn]; omega)) (e _ (by rw [hR.tl]; decide) (by rw [hR.tl]; omega)), fun i' hi' => ?_, fun i hi => (World.cell?_of_block e3).trans (h.mks i hi), fun o => (World.frozen?_of_block e3).trans (h.mkf o),
   fun i hi => (World.cell?_of_block e4).trans (h.ers i hi), fun o => (World.frozen?_of_block e4).trans (h.erf o), h.pow.stays (e _ (by rw [hR.tp]; decide) (by rw [hR.tp]; omega)), h.drs.stays kp (e _ (by rw [hR.td]; decide) (by rw [hR.td]; omega)) h.tv, h.tv, fun k hk => Nat.lt_of_lt_of_le (h.hi k hk) hg.size⟩
 by_cases e1 : i' = i
 · subst e1; simpa using hf
 · simp only [if_neg e1]
   exact (h.row i' hi').stays kp (e _ (by rw [hR.tr i' hi']; omega) (by rw [hR.tr i' hi']; omega))
theorem NandAt.mark (h : NandAt w S V zs s) (hR : Roles S) {i : Nat} (hi : i < S.all) (x : Bool) : NandAt (w.setCell ⟨S.bm, i, none⟩ (.bool x)) S V zs { s with mr := fun i' => if i' = i then x else s.mr i' } := by
 have hg := gb_set (gb_refl w (some S.bm)) i (.bool x)
 have kp : Keeps S.T w _ := .own hg (by rw [hR.tm]; decide)
 have e : ∀ k, S.T k ≠ 0 → S.T k ≠ 3 → (w.setCell ⟨S.bm, i, none⟩ (.bool x)).heap[k]? = w.heap[k]? := fun k hk h5 => h.others hg hk (by rw [hR.tm]; exact h5)
 have e4 := e S.be (by rw [hR.te]; decide) (by rw [hR.te]; decide)
 refine ⟨h.fix.stays (e _ (by rw [hR.tn]; decide) (by rw [hR.tn]; decide)) (e _ (by rw [hR.tl]; decide) (by rw [hR.tl]; decide)), fun i hi => (h.row i hi).stays kp (e _ (by rw [hR.tr i hi]; omega) (by rw [hR.tr i hi]; omega)), fun i' hi' => ?_, fun o => by simpa using h.mkf o,
   fun i hi => (World.cell?_of_block e4).trans (h.ers i hi), fun o => (World.frozen?_of_block e4).trans (h.erf o), h.pow.stays (e _ (by rw [hR.tp]; decide) (by rw [hR.tp]; decide)), h.drs.stays kp (e _ (by rw [hR.td]; decide) (by rw [hR.td]; decide)) h.tv, h.tv, fun k hk => Nat.lt_of_lt_of_le (h.hi k hk) hg.size⟩
 by_cases e1 : i' = i
 · subst e1; simp only [if_true]; exact World.cell?_setCell_same _ _ _ (h.mks i' hi')
 · simp only [if_neg e1]; exact (World.cell?_setCell_other _ _ _ _ (ne_off (by omega))).trans (h.mks i' hi')
theorem NandAt.count (h : NandAt w S V zs s) (hR : Roles S) {i : Nat} (hi : i < S.all) (x : Int) : NandAt (w.setCell ⟨S.be, i, none⟩ (.int .i64 x)) S V zs { s with er := fun i' => if i' = i then x else s.er i' } := by
 have hg := gb_set (gb_refl w (some S.be)) i (.int .i64 x)
 have kp : Keeps S.T w _ := .own hg (by rw [hR.te]; decide)
 have e : ∀ k, S.T k ≠ 0 → S.T k ≠ 4 → (w.setCell ⟨S.be, i, none⟩ (.int .i64 x)).heap[k]? = w.heap[k]? := fun k hk h5 => h.others hg hk (by rw [hR.te]; exact h5)
 have e3 := e S.bm (by rw [hR.tm]; decide) (by rw [hR.tm]; decide)
 refine ⟨h.fix.stays (e _ (by rw [hR.tn]; decide) (by rw [hR.tn]; decide)) (e _ (by rw [hR.tl]; decide) (by rw [hR.tl]; decide)), fun i hi => (h.row i hi).stays kp (e _ (by rw [hR.tr i hi]; omega) (by rw [hR.tr i hi]; omega)), fun i hi => (World.cell?_of_block e3).trans (h.mks i hi), fun o => (World.frozen?_of_block e3).trans (h.mkf o),
   fun i' hi' => ?_, fun o => by simpa using h.erf o, h.pow.stays (e _ (by rw [hR.tp]; decide) (by rw [hR.tp]; decide)), h.drs.stays kp (e _ (by rw [hR.td]; decide) (by rw [hR.td]; decide)) h.tv, h.tv, fun k hk => Nat.lt_of_lt_of_le (h.hi k hk) hg.size⟩
 by_cases e1 : i' = i
 · subst e1; simp only [if_true]; exact World.cell?_setCell_same _ _ _ (h.ers i' hi')
 · simp only [if_neg e1]; exact (World.cell?_setCell_other _ _ _ _ (ne_off (by omega))).trans (h.ers i' hi')
end
theorem RowAt.setSt {w : World} {T : Nat → Nat} {k pg : Nat} {f : Nat → Pg} (h : RowAt w T k pg f) (hT : T k ≠ 0) {j : Nat} (hj : j < pg) (x : Int) :
   RowAt (w.setCell ⟨k, j * 3, none⟩ (.int .i64 x)) T k pg (fun j' => if j' = j then { f j with st := x } else f j') := by
 have kp : Keeps T w (w.setCell ⟨k, j * 3, none⟩ (.int .i64 x)) := .own (gb_set (gb_refl w (some k)) _ _) hT
 refine ⟨fun j' hj' => ?_, fun j' hj' => ?_, fun j' hj' => ?_, fun o => by simpa using h.free o⟩
 · by_cases e : j' = j
   · subst e; simp only [if_true]; exact World.cell?_setCell_same _ _ _ (h.st j' hj')
   · simp only [if_neg e]; exact (World.cell?_setCell_other _ _ _ _ (ne_off (by omega))).trans (h.st j' hj')
 · obtain ⟨v, h1, h2, h3⟩ := h.bs j' hj'
   refine ⟨v, (World.cell?_setCell_other _ _ _ _ (ne_off (by omega))).trans h1, ?_, h3⟩
   by_cases e : j' = j
   · subst e; simpa using kp.bts h2 h3
   · simpa only [if_neg e] using kp.bts h2 h3
 · rw [World.cell?_setCell_other _ _ _ _ (ne_off (by omega)), h.dt j' hj']
   by_cases e : j' = j
   · subst e; simp
   · simp only [if_neg e]
theorem RowAt.setPg {w : World} {T : Nat → Nat} {k pg : Nat} {f : Nat → Pg} (h : RowAt w T k pg f) (hT : T k ≠ 0) {j : Nat} (hj : j < pg) (x : Pg) (v : Value) (hv : Bts w v x.bs) (hq : ∀ q, v.ownBlock = some q → T q = 0) :
   RowAt (((w.setCell ⟨k, j * 3, none⟩ (.int .i64 x.st)).setCell ⟨k, j * 3 + 1, none⟩ v).setCell ⟨k, j * 3 + 2, none⟩ (.string x.dt)) T k pg (fun j' => if j' = j then x else f j') := by
 have kp : Keeps T w (((w.setCell ⟨k, j * 3, none⟩ (.int .i64 x.st)).setCell ⟨k, j * 3 + 1, none⟩ v).setCell ⟨k, j * 3 + 2, none⟩ (.string x.dt)) := .own (gb_set (gb_set (gb_set (gb_refl w (some k)) _ _) _ _) _ _) hT
 refine ⟨fun j' hj' => ?_, fun j' hj' => ?_, fun j' hj' => ?_, fun o => by simpa using h.free o⟩
 · rw [World.cell?_setCell_other _ _ _ _ (ne_off (by omega)), World.cell?_setCell_other _ _ _ _ (ne_off (by omega))]
   by_cases e : j' = j
   · subst e; simp only [if_true]; exact World.cell?_setCell_same _ _ _ (h.st j' hj')
   · simp only [if_neg e]; exact (World.cell?_setCell_other _ _ _ _ (ne_off (by omega))).trans (h.st j' hj')
 · obtain ⟨u, h1, h2, h3⟩ := h.bs j' hj'
   rw [World.cell?_setCell_other _ _ _ _ (ne_off (by omega))]
   by_cases e : j' = j
   · subst e
     simp only [if_true]
     exact ⟨v, World.cell?_setCell_same _ _ _ ((World.cell?_setCell_other _ _ _ _ (ne_off (by omega))).trans h1), kp.bts hv hq, hq⟩
   · simp only [if_neg e]
     exact ⟨u, (World.cell?_setCell_other _ _ _ _ (ne_off (by omega))).trans ((World.cell?_setCell_other _ _ _ _ (ne_off (by omega))).trans h1), kp.bts h2 h3, h3⟩
 · by_cases e : j' = j
   · subst e
     simp only [if_true]
     exact World.cell?_setCell_same _ _ _ ((World.cell?_setCell_other _ _ _ _ (ne_off (by omega))).trans ((World.cell?_setCell_other _ _ _ _ (ne_off (by omega))).trans (h.dt j' hj')))
   · simp only [if_neg e]
     rw [World.cell?_setCell_other _ _ _ _ (ne_off (by omega)), World.cell?_setCell_other _ _ _ _ (ne_off (by omega)), World.cell?_setCell_other _ _ _ _ (ne_off (by omega))]
     exact h.dt j' hj'
end Go.Proofs.YtfgifgglcafadaaGreatDoor

namespace Go.Proofs.YtfgifgglcafadaaGreatDoor
set_option linter.unusedVariables false
set_option linter.unusedSimpArgs false
set_option linter.unusedVariables false
set_option linter.unusedSimpArgs false
set_option maxRecDepth 100000
open Go.RowKit
def hasB (S : NShape) (n : Int) : Bool := decide (0 ≤ n ∧ n < S.all)
def missE (S : NShape) (n : Int) : Int := if hasB S n then 0 else 5
def lackE (S : NShape) (n m : Int) : Int := if hasB S n then (if 0 ≤ m ∧ m < S.pg then 0 else 5) else 5
def nextN (f : Nat → Pg) : Nat → Nat
 | 0 => 0
 | n + 1 => if (f n).st = 0 then nextN f n else n + 1
section
variable {w : World} {S : NShape} {V : Nat → Value} {zs : Nat → List Int} {s : NS}
theorem has_is (h : FixAt w S) (n : Int) :
   Calls Tryz.prog 72 #[.pointer (some ⟨S.nb, 0, none⟩), .int .i64 n] w fun e w' => e = .returned (.bool (hasB S n)) ∧ w = w' := by
 have c := h.cl
 clear h
 by_cases h0 : 0 ≤ n
 · have e0 : decide (0 ≤ n) = true := by simpa using h0
   go_enter Tryz.func72, Tryz.ntmps72
   go_wp2
   go_ret
   exact ⟨ret_bool (by simp [hasB, h0]), rfl⟩
 · have e0 : decide (0 ≤ n) = false := by simpa using h0
   go_enter Tryz.func72, Tryz.ntmps72
   go_wp2
   go_ret
   exact ⟨ret_bool (by simp [hasB]; omega), rfl⟩
theorem missing_is (h : FixAt w S) (n : Int) :
   Calls Tryz.prog 172 #[.pointer (some ⟨S.nb, 0, none⟩), .int .i64 n] w fun e w' => e = .returned (.int .i64 (missE S n)) ∧ w = w' := by
 have H := has_is h n
 clear h
 unfold missE
 cases hh : hasB S n
 all_goals
   rw [hh] at H
   clear hh
   go_enter Tryz.func172, Tryz.ntmps172
   go_wp2_with (go_at_call 72; refine H.mono ?_; rintro e w' ⟨rfl, rfl⟩)
   go_ret
   exact ⟨rfl, rfl⟩
theorem lacks_is (h : FixAt w S) (n m : Int) :
   Calls Tryz.prog 212 #[.pointer (some ⟨S.nb, 0, none⟩), .int .i64 n, .int .i64 m] w fun e w' => e = .returned (.int .i64 (lackE S n m)) ∧ w = w' := by
 have H := missing_is h n
 unfold missE at H
 unfold lackE
 cases hh : hasB S n
 · rw [hh] at H
   clear hh h
   go_enter Tryz.func212, Tryz.ntmps212
   go_wp2_with (go_at_call 172; refine H.mono ?_; rintro e w' ⟨rfl, rfl⟩)
   go_ret
   exact ⟨rfl, rfl⟩
 · have hn : 0 ≤ n ∧ n < S.all := by simpa [hasB] using hh
   obtain ⟨i, rfl⟩ : ∃ i : Nat, n = i := ⟨n.toNat, by omega⟩
   have hi : i < S.all := by omega
   have c := h.cl
   have c2 := h.rows i hi
   rw [hh] at H
   clear hh h hn
   by_cases h0 : m < 0
   · have e0 : decide (m < 0) = true := by simpa using h0
     go_enter Tryz.func212, Tryz.ntmps212
     go_wp2_with (go_at_call 172; refine H.mono ?_; rintro e w' ⟨rfl, rfl⟩)
     go_ret
     exact ⟨ret_int (by simp), rfl⟩
   · have e0 : decide (m < 0) = false := by simpa using h0
     by_cases h1 : m < S.pg
     · have h1' : ¬ (S.pg : Int) ≤ m := by omega
       go_enter Tryz.func212, Tryz.ntmps212
       go_wp2_with (go_at_call 172; refine H.mono ?_; rintro e w' ⟨rfl, rfl⟩)
       go_ret
       exact ⟨ret_int (by simp), rfl⟩
     · have h1' : (S.pg : Int) ≤ m := by omega
       go_enter Tryz.func212, Tryz.ntmps212
       go_wp2_with (go_at_call 172; refine H.mono ?_; rintro e w' ⟨rfl, rfl⟩)
       go_ret
       exact ⟨ret_int (by simp), rfl⟩
theorem next7_is (h : FixAt w S) {f : Nat → Pg} {i : Nat} (hi : i < S.all) (hf : RowAt w S.T (S.row i) S.pg f) (hR : Roles S) :
   Calls Tryz.prog 81 #[.pointer (some ⟨S.nb, 0, none⟩), .int .i64 (i : Int)] w fun e w' => e = .returned (.int .i64 (nextN f S.pg : Nat)) ∧ w = w' := by
 have H := has_is h i
 have hh : hasB S i = true := by simp [hasB]; omega
 rw [hh] at H
 have c := h.cl
 have c2 := h.rows i hi
 have hb := hR.bds
 have HC := Lib.hid hf.st
 clear h hh hf hR
 generalize S.row i = r at *
 generalize S.pg = pg at *
 generalize S.all = al at *
 go_enter Tryz.func81, Tryz.ntmps81
 go_wp2_with (go_at_call 72; refine H.mono ?_; rintro e w' ⟨rfl, rfl⟩)
 go_loop [5] (fun n => ∃ k : Nat, k ≤ pg ∧ n = .int .i64 k ∧ nextN f pg = nextN f k) (fun n => (intOf n).toNat)
 case atStart => exact ⟨pg, Nat.le_refl _, rfl, rfl⟩
 case round =>
   obtain ⟨k, hk, rfl, hr⟩ := hrel
   have HR := Lib.hid hr
   clear hr
   match k with
   | 0 =>
     go_wp2
     go_ret
     exact ⟨ret_int (by rw [HR.out]; rfl), rfl⟩
   | k + 1 =>
     have hc := HC.out k (by omega)
     obtain ⟨x, hx⟩ : ∃ x, (f k).st = x := ⟨_, rfl⟩
     rw [hx] at hc
     have HX := Lib.hid hx
     clear hx
     by_cases hz : x = 0
     · subst hz
       go_wp2
       go_round
       case rel => exact ⟨k, by omega, by go_num, by rw [HR.out, nextN, HX.out, if_pos rfl]⟩
       case measure => simp [intOf]
     · have hz' : (x == 0) = false := by simpa using hz
       have HZ := Lib.hid hz
       clear hz
       go_wp2
       go_ret
       exact ⟨ret_int (by rw [HR.out, nextN, HX.out, if_neg HZ.out]; rfl), rfl⟩
theorem bad7_is (h : NandAt w S V zs s) {i : Nat} (hi : i < S.all) :
   Calls Tryz.prog 25 #[.pointer (some ⟨S.nb, 0, none⟩), .int .i64 (i : Int)] w fun e w' => e = .returned (.bool (s.mr i)) ∧ w = w' := by
 have H := has_is h.fix i
 have hh : hasB S i = true := by simp [hasB]; omega
 rw [hh] at H
 have c := h.fix.cm
 have c2 := h.mks i hi
 clear h hh
 go_enter Tryz.func25, Tryz.ntmps25
 go_wp2_with (go_at_call 72; refine H.mono ?_; rintro e w' ⟨rfl, rfl⟩)
 go_ret
 exact ⟨rfl, rfl⟩
theorem blocks7_is (h : FixAt w S) :
   Calls Tryz.prog 24 #[.pointer (some ⟨S.nb, 0, none⟩)] w fun e w' => e = .returned (.int .i64 S.all) ∧ w = w' := by
 have c := h.cl
 clear h
 go_enter Tryz.func24, Tryz.ntmps24
 go_wp2
 go_ret
 exact ⟨rfl, rfl⟩
theorem blank7_is (h : NandAt w S V zs s) (hR : Roles S) {i : Nat} (hi : i < S.all) :
   Calls Tryz.prog 35 #[.pointer (some ⟨S.nb, 0, none⟩), .int .i64 (i : Int)] w fun e w' => e = .returned (.bool (decide (nextN (s.L i) S.pg = 0))) ∧ w = w' := by
 have H := has_is h.fix i
 have hh : hasB S i = true := by simp [hasB]; omega
 rw [hh] at H
 have N := next7_is h.fix hi (h.row i hi) hR
 clear h hh hR
 generalize nextN (s.L i) S.pg = n at *
 go_enter Tryz.func35, Tryz.ntmps35
 go_wp2_with (first
   | (go_at_call 72; refine H.mono ?_; rintro e w' ⟨rfl, rfl⟩)
   | (go_at_call 81; refine N.mono ?_; rintro e w' ⟨rfl, rfl⟩))
 go_ret
 exact ⟨ret_bool (by rw [Bool.eq_iff_iff]; simp), rfl⟩
end
end Go.Proofs.YtfgifgglcafadaaGreatDoor

namespace Go.Proofs.YtfgifgglcafadaaGreatDoor
set_option linter.unusedVariables false
set_option linter.unusedSimpArgs false
set_option linter.unusedVariables false
set_option linter.unusedSimpArgs false
set_option maxRecDepth 100000
open Go.RowKit
attribute [local go_sem] Tryz.eqNil22
def BtsA (w : World) (v : Value) (xs : List Int) : Prop :=
 (v = .slice none 0 0 ∧ xs = []) ∨ ∃ a cap, v = .slice (some a) xs.length cap ∧ xs.length ≤ cap ∧ ∀ i, i < xs.length → w.cell? (a.add i) = some (.int .u8 (xs.getD i 0))
theorem Bts.wide {w : World} {v : Value} {xs : List Int} (h : Bts w v xs) : BtsA w v xs := by
 rcases h with h | ⟨b, off, cap, h1, h2, h3⟩
 · exact .inl h
 · exact .inr ⟨_, cap, h1, h2, fun i hi => by rw [addr_add]; exact h3 i hi⟩
theorem BtsA.form {w : World} {v : Value} {xs : List Int} (h : BtsA w v xs) : ∃ ao cap, v = .slice ao xs.length cap := by
 rcases h with ⟨rfl, rfl⟩ | ⟨a, cap, h1, _⟩
 · exact ⟨none, 0, rfl⟩
 · exact ⟨_, cap, h1⟩
theorem BtsA.ext {w w' : World} {v : Value} {xs : List Int} (h : BtsA w v xs) (hg : w.grownBy w' none) : BtsA w' v xs := by
 rcases h with h | ⟨a, cap, h1, h2, h3⟩
 · exact .inl h
 · exact .inr ⟨a, cap, h1, h2, fun i hi => hg.cell (h3 i hi) (by simp)⟩
theorem owns7_bts {w : World} {B : Nat} {v : Value} {xs : List Int} {n : Nat} (hn : n = xs.length) (h : w.ownsRow B 5 1 v n (xs.map (Value.int .u8))) : Bts w v xs := by
 subst hn
 rcases h.2 with ⟨h2, h3⟩ | ⟨g, cap, cur, rfl, hg, hh, hc, _⟩
 · exact .inl ⟨h2, List.length_eq_zero_iff.1 h3⟩
 · refine .inr ⟨g, 0, cap, rfl, hc, fun i hi => ?_⟩
   rw [Nat.zero_add, h.cellAt i (by omega), List.getElem?_map, List.getElem?_eq_getElem hi, List.getD_eq_getElem?_getD, List.getElem?_eq_getElem hi]
   rfl
def Copied (w : World) (xs : List Int) (e : Ending) (w' : World) : Prop := ∃ ao cap, e = .returned (.slice ao xs.length cap) ∧ Bts w' (.slice ao xs.length cap) xs ∧ w.grownBy w' none ∧ ∀ k, (Value.slice ao xs.length cap).ownBlock = some k → w.heap.size ≤ k ∧ k < w'.heap.size
theorem copied_of {w w' : World} {v : Value} {xs : List Int} (h : w'.ownsRow w.heap.size 5 1 v xs.length (xs.map (Value.int .u8))) (hg : w.grownBy w' none) : Copied w xs (.returned v) w' := by
 have hb := owns7_bts rfl h
 obtain ⟨ao, cap, rfl⟩ := hb.wide.form
 exact ⟨ao, cap, rfl, hb, hg, h.lt⟩
set_option maxHeartbeats 400000 in
theorem clone_wide (v : Value) (xs : List Int) (w : World) (hb : BtsA w v xs) (hm : xs.length ≤ 140737488351232) :
   Calls Tryz.prog 215 #[v] w (Copied w xs) := by
 rcases hb with ⟨rfl, rfl⟩ | ⟨a, cap, rfl, hl, hc⟩
 · exact (clone_nil w).mono fun e w' ⟨he, hw⟩ => ⟨none, 0, he, .inl ⟨rfl, rfl⟩, hw ▸ Ext.refl w, fun k hk => by simp [Value.ownBlock] at hk⟩
 · obtain ⟨i0, hi, hz0, hz1, hz2⟩ := info_parts Tryz.infoU8
   have hown := World.ownsRow_made (base := w.heap.size) (e := 5) (size := 1) w #[] 0 (Nat.le_refl _) (Nat.zero_le _) rfl
   have HC := Lib.hid hc
   clear hc
   go_enter Tryz.func215, Tryz.ntmps215
   go_wp2_with (at_builtin; go_loud (refine wpList_append_own _ rfl _ _ 73 rfl w.heap.size 5 i0 (.int .u8 0) 1 1 Tryz.underlying73 hi hz0 hz1 hz2 rfl (by decide) _ _ _ rfl hown a xs.length cap (xs.map (Value.int .u8)) rfl (by simp) ?c1 ?c2 ?c3 ?c4 ?c5 ?_))
   case c1 =>
     intro j u hj
     rw [List.getElem?_map] at hj
     by_cases h : j < xs.length
     · rw [List.getElem?_eq_getElem h] at hj
       have h2 := HC.out j h
       rw [World.cell?_alloc_old _ _ _ (Nat.ne_of_lt (World.block_lt_of_cell? w _ h2)), h2, ← hj]
       simp [List.getElem?_eq_getElem h, List.getD_eq_getElem?_getD]
     · rw [List.getElem?_eq_none (by omega)] at hj
       cases hj
   case c2 => exact ints_oneCell _ _
   case c3 => unfold maxLen; omega
   case c4 => omega
   case c5 => simp
   · intro v' w1 hown' hgrow _
     go_wp2
     go_ret
     exact copied_of (by simpa using hown') (grown_trans (World.grownBy_alloc w _ none) hgrow (fun k hk h => by simp [Value.ownBlock] at hk; omega))
section
variable {w : World} {S : NShape} {V : Nat → Value} {zs : Nat → List Int} {s : NS}
def readE (S : NShape) (s : NS) (n m : Int) : Int :=
 if lackE S n m = 0 then (if s.off then 12 else if (s.L n.toNat m.toNat).st = 0 then 6 else if (s.L n.toNat m.toNat).st = 2 then 11 else 0) else lackE S n m
def ReadsNot (x : Int) (w : World) (e : Ending) (w' : World) : Prop := e = .returned (.tuple #[.slice none 0 0, .string ⟨#[]⟩, .int .i64 x]) ∧ w.grownBy w' none
def ReadsPg (bs : List Int) (dt : ByteArray) (w : World) (e : Ending) (w' : World) : Prop :=
 ∃ ao cap, e = .returned (.tuple #[.slice ao bs.length cap, .string dt, .int .i64 0]) ∧ Bts w' (.slice ao bs.length cap) bs ∧ w.grownBy w' none ∧ ∀ k, (Value.slice ao bs.length cap).ownBlock = some k → w.heap.size ≤ k ∧ k < w'.heap.size
def Reads (S : NShape) (s : NS) (n m : Int) (w : World) (e : Ending) (w' : World) : Prop :=
 (readE S s n m ≠ 0 ∧ ReadsNot (readE S s n m) w e w') ∨ (readE S s n m = 0 ∧ ReadsPg (s.L n.toNat m.toNat).bs (s.L n.toNat m.toNat).dt w e w')
theorem lackE_zero {n m : Int} (h : lackE S n m = 0) : ∃ i j : Nat, n = i ∧ m = j ∧ i < S.all ∧ j < S.pg := by
 unfold lackE hasB at h
 split at h
 · rename_i h1
   have h1 := of_decide_eq_true h1
   split at h
   · exact ⟨n.toNat, m.toNat, by omega, by omega, by omega, by omega⟩
   · omega
 · omega
def LeafIn (w : World) (b : Nat) (v : Value) (dt : ByteArray) (x : World) : Prop := w.grownBy x none ∧ x.cell? ⟨b, 1, none⟩ = some v ∧ x.cell? ⟨b, 2, none⟩ = some (.string dt)
set_option maxHeartbeats 800000 in
theorem read7_any (h : NandAt w S V zs s) (_hR : Roles S) (n m : Int) (hbs : ∀ i j, (s.L i j).bs.length ≤ 140737488351232) :
   Calls Tryz.prog 203 #[.pointer (some ⟨S.nb, 0, none⟩), .int .i64 n, .int .i64 m] w (Reads S s n m w) := by
 have LK := lacks_is h.fix n m
 by_cases h0 : lackE S n m = 0
 · obtain ⟨i, j, rfl, rfl, hi, hj⟩ := lackE_zero h0
   rw [h0] at LK
   have G := gone_is S.pb s.px s.off s.po w h.pow
   have cp := h.fix.cp
   have cl := h.fix.cl
   have cr := h.fix.rows i hi
   have hw := h.row i hi
   have p0 := hw.st j hj
   obtain ⟨v, p1, hv, _⟩ := hw.bs j hj
   have p2 := hw.dt j hj
   have hE : readE S s i j = if s.off then 12 else if (s.L i j).st = 0 then 6 else if (s.L i j).st = 2 then 11 else 0 := by unfold readE; rw [if_pos h0]; rfl
   have hbl := hbs i j
   unfold Reads
   simp only [Int.toNat_natCast]
   generalize readE S s i j = re at *
   clear h0 hw hbs h
   generalize s.L i j = x at *
   obtain ⟨st, bs, dt⟩ := x
   simp only at *
   generalize s.off = off at *
   generalize S.row i = r at *
   generalize S.pg = pg at *
   generalize S.all = al at *
   have CL := fun w5 (hg : w.grownBy w5 none) => clone_wide v bs w5 (hv.wide.ext hg) hbl
   obtain ⟨ao, cp0, hvf⟩ := hv.wide.form
   subst hvf
   clear hv hbl
   cases off
   · by_cases z0 : st = 0
     · have hE2 : re = 6 := by rw [hE, if_neg (by simp), if_pos z0]
       clear hE
       subst hE2 z0
       refine Calls.mono (R := ReadsNot 6 w) ?_ (fun e w' h => .inl ⟨by decide, h⟩)
       go_enter Tryz.func203, Tryz.ntmps203
       go_wp2_with (first
         | (go_at_call 212; refine LK.mono ?_; rintro e w' ⟨rfl, rfl⟩)
         | (go_at_call 47; refine G.mono ?_; rintro e w' ⟨rfl, rfl⟩))
       refine bodyPost_ret (v := .tuple #[.slice none 0 0, .string ⟨#[]⟩, .int .i64 6]) (by simp [results, Tryz.results203, go_sem]) rfl ⟨rfl, World.grownBy_alloc w _ none⟩
     · by_cases z2 : st = 2
       · have hE2 : re = 11 := by rw [hE, if_neg (by simp), if_neg z0, if_pos z2]
         clear hE
         subst hE2 z2
         refine Calls.mono (R := ReadsNot 11 w) ?_ (fun e w' h => .inl ⟨by decide, h⟩)
         clear z0
         go_enter Tryz.func203, Tryz.ntmps203
         go_wp2_with (first
           | (go_at_call 212; refine LK.mono ?_; rintro e w' ⟨rfl, rfl⟩)
           | (go_at_call 47; refine G.mono ?_; rintro e w' ⟨rfl, rfl⟩))
         refine bodyPost_ret (v := .tuple #[.slice none 0 0, .string ⟨#[]⟩, .int .i64 11]) (by simp [results, Tryz.results203, go_sem]) rfl ⟨rfl, World.grownBy_alloc w _ none⟩
       · have hE2 : re = 0 := by rw [hE, if_neg (by simp), if_neg z0, if_neg z2]
         clear hE
         subst hE2
         have z0' : (st == 0) = false := by simpa using z0
         have z2' : (st == 2) = false := by simpa using z2
         clear z0 z2
         refine Calls.mono (R := ReadsPg bs dt w) ?_ (fun e w' h => .inr ⟨rfl, h⟩)
         go_enter Tryz.func203, Tryz.ntmps203
         go_wp2_with (first
           | (go_at_call 212; refine LK.mono ?_; rintro e w' ⟨rfl, rfl⟩)
           | (go_at_call 47; refine G.mono ?_; rintro e w' ⟨rfl, rfl⟩))
         have hS : LeafIn w w.heap.size (.slice ao bs.length cp0) dt (w.alloc (.cells #[.int .i64 st, .slice ao bs.length cp0, .string dt] 173)).drew :=
           ⟨grown_drew (World.grownBy_alloc w _ none), by simp, by simp⟩
         refine region_line [(0, true), (1, true), (3, true), (4, true), (2, false), (5, true), (6, true), (7, true)] (LeafIn w w.heap.size (.slice ao bs.length cp0) dt) (by kernel_rfl) (by kernel_rfl) (fun _ _ _ d _ h => by cases d <;> exact h) hS ?_
         repeat (refine line_read (a' := ?_) rfl (by kernel_rfl) (by kernel_rfl) hS (fun x hx K hK => ?_) ?_; rotate_left; · obtain ⟨_, hx1, hx2⟩ := hx; go_wp2; exact hK)
         refine line_act (by rfl) (fun K hK => ?_)
         go_wp2_with (go_at_call 215; refine (CL _ hS.1).mono ?_; rintro e w4 ⟨a4, c4, rfl, hb4, hg4, ho4⟩)
         have hE4 : w.grownBy w4 none := Ext.next hS.1 _ hg4
         refine hK _ _ (Ext w4) (Ext.refl w4) (fun x hx => ⟨Ext.next hE4 _ hx, hx.cell (hg4.cell hS.2.1 (by simp)) (by simp), hx.cell (hg4.cell hS.2.2 (by simp)) (by simp)⟩) ?_
         clear hK K
         repeat (refine line_read (a' := ?_) rfl (by kernel_rfl) (by kernel_rfl) (Ext.refl w4) (fun x hx K hK => ?_) ?_; rotate_left; · go_wp2; exact hK)
         refine line_end ?_
         go_wp2
         refine bodyPost_ret (v := .tuple #[.slice a4 bs.length c4, .string dt, .int .i64 0]) (by simp [results, Tryz.results203, go_sem]) rfl ⟨a4, c4, rfl, hb4, hE4, fun k hk => ?_⟩
         have h1 := ho4 k hk
         have h2 := hS.1.size
         omega
   · have hE2 : re = 12 := by rw [hE, if_pos rfl]
     clear hE
     subst hE2
     refine Calls.mono (R := ReadsNot 12 w) ?_ (fun e w' h => .inl ⟨by decide, h⟩)
     go_enter Tryz.func203, Tryz.ntmps203
     go_wp2_with (first
       | (go_at_call 212; refine LK.mono ?_; rintro e w' ⟨rfl, rfl⟩)
       | (go_at_call 47; refine G.mono ?_; rintro e w' ⟨rfl, rfl⟩))
     refine bodyPost_ret (v := .tuple #[.slice none 0 0, .string ⟨#[]⟩, .int .i64 12]) (by simp [results, Tryz.results203, go_sem]) rfl ⟨rfl, Ext.refl w⟩
 · have hE : readE S s n m = lackE S n m := by unfold readE; rw [if_neg h0]
   unfold Reads
   rw [hE]
   have h0' : (lackE S n m != 0) = true := by simpa using h0
   refine Calls.mono (R := ReadsNot (lackE S n m) w) ?_ (fun e w' h => .inl ⟨h0, h⟩)
   clear hE h0 h hbs
   generalize lackE S n m = x at *
   go_enter Tryz.func203, Tryz.ntmps203
   go_wp2_with (go_at_call 212; refine LK.mono ?_; rintro e w' ⟨rfl, rfl⟩)
   refine bodyPost_ret (v := .tuple #[.slice none 0 0, .string ⟨#[]⟩, .int .i64 x]) (by simp [results, Tryz.results203, go_sem]) rfl ⟨rfl, Ext.refl w⟩
end
end Go.Proofs.YtfgifgglcafadaaGreatDoor

namespace Go.Proofs.YtfgifgglcafadaaGreatDoor
set_option linter.unusedVariables false
set_option linter.unusedSimpArgs false
set_option linter.unusedVariables false
set_option linter.unusedSimpArgs false
set_option maxRecDepth 100000
open Go.RowKit
def spE (x : Int) (g : Bool) : Int := if g then 12 else if x = 0 then 11 else 0
def spX (x : Int) (g : Bool) : Int := if g then x else if 0 < x then x - 1 else x
def spG (x : Int) (g : Bool) : Bool := g || x == 0
def spO (g : Bool) (o : Int) : Int := if g then o else o + 1
theorem spend_any (b : Nat) (x : Int) (g : Bool) (o : Int) (w : World) (h : PowAt w b x g o) (hx : -9223372036854775808 ≤ x) (hx' : x ≤ 9223372036854775807) (h0 : 0 ≤ o) (h1 : o < 4611686018427387904) :
   Calls Tryz.prog 206 #[.pointer (some ⟨b, 0, none⟩)] w (Turns b (spX x g) (spG x g) (spO g o) (.int .i64 (spE x g)) w) := by
 cases g
 · have := spend_there b x o w h hx hx' h0 h1
   simpa [spX, spG, spO, spE] using this
 · have := spend_gone b x o w h
   simpa [spX, spG, spO, spE] using this
end Go.Proofs.YtfgifgglcafadaaGreatDoor

namespace Go.Proofs.YtfgifgglcafadaaGreatDoor
set_option linter.unusedVariables false
set_option linter.unusedSimpArgs false
set_option linter.unusedVariables false
set_option linter.unusedSimpArgs false
set_option maxRecDepth 100000
open Go.RowKit
structure Cnt (s : NS) (n : Int) : Prop where
 po : 0 ≤ s.po ∧ s.po ≤ n
 N : ∀ j, 0 ≤ s.N j ∧ s.N j ≤ n
 M : ∀ j, 0 ≤ s.M j ∧ s.M j ≤ n
 er : ∀ i, 0 ≤ s.er i ∧ s.er i ≤ n
 px : -9223372036854775808 ≤ s.px ∧ s.px ≤ 9223372036854775807
def spendS (s : NS) : NS := { s with px := spX s.px s.off, off := spG s.px s.off, po := spO s.off s.po }
def drawB (zs : Nat → List Int) (s : NS) (who : Int) : Bool := if 0 ≤ who ∧ who < 4 then hitB zs s.N who.toNat else false
def drawS (zs : Nat → List Int) (s : NS) (who : Int) : NS := if 0 ≤ who ∧ who < 4 then { s with N := upd s.N who.toNat (s.N who.toNat + 1), M := nextM zs s.N s.M who.toNat } else s
def Goes (S : NShape) (V : Nat → Value) (zs : Nat → List Int) (v : Value) (s' : NS) (w : World) (e : Ending) (w' : World) : Prop := e = .returned v ∧ NandAt w' S V zs s' ∧ Keeps S.T w w'
theorem Cnt.spend {s : NS} {n : Int} (h : Cnt s n) : Cnt (spendS s) (n + 1) := by
 obtain ⟨h1, h2, h3, h4, h5⟩ := h
 refine ⟨?_, fun j => ?_, fun j => ?_, fun i => ?_, ?_⟩
 · simp only [spendS, spO]; split <;> omega
 · have := h2 j; simp only [spendS]; omega
 · have := h3 j; simp only [spendS]; omega
 · have := h4 i; simp only [spendS]; omega
 · simp only [spendS, spX]; split
   · exact h5
   · split <;> omega
theorem Cnt.draw {s : NS} {n : Int} (h : Cnt s n) (zs : Nat → List Int) (who : Int) : Cnt (drawS zs s who) (n + 1) := by
 obtain ⟨h1, h2, h3, h4, h5⟩ := h
 unfold drawS
 split
 · refine ⟨by simp only; omega, fun j => ?_, fun j => ?_, fun i => ?_, h5⟩
   · have := h2 j; have := h2 who.toNat; simp only [upd]; split <;> omega
   · have := h3 j; have := h3 who.toNat; simp only [nextM, upd]; split <;> (try split) <;> omega
   · have := h4 i; simp only; omega
 · exact ⟨by omega, fun j => by have := h2 j; omega, fun j => by have := h3 j; omega, fun j => by have := h4 j; omega, h5⟩
section
variable {w : World} {S : NShape} {V : Nat → Value} {zs : Nat → List Int} {s : NS}
theorem spend7_any (h : NandAt w S V zs s) (hR : Roles S) {n : Int} (hc : Cnt s n) (hn : n < 2305843009213693952) :
   Calls Tryz.prog 206 #[.pointer (some ⟨S.pb, 0, none⟩)] w (Goes S V zs (.int .i64 (spE s.px s.off)) (spendS s) w) :=
 (spend_any S.pb s.px s.off s.po w h.pow hc.px.1 hc.px.2 hc.po.1 (by have := hc.po.2; omega)).mono fun _ _ ⟨he, hp, hg⟩ => ⟨he, h.power hR hg hp, .own hg (by rw [hR.tp]; decide)⟩
theorem draw7_any (h : NandAt w S V zs s) (hR : Roles S) {n : Int} (hc : Cnt s n) (hn : n < 2305843009213693952) (hz : ∀ j, j < 4 → (zs j).length ≤ 64) (who : Int) :
   Calls Tryz.prog 207 #[.pointer (some ⟨S.db, 0, none⟩), .int .i64 who] w (Goes S V zs (.bool (drawB zs s who)) (drawS zs s who) w) := by
 by_cases hw : 0 ≤ who ∧ who < 4
 · obtain ⟨j, rfl⟩ : ∃ j : Nat, who = j := ⟨who.toNat, by omega⟩
   have e1 : drawB zs s j = hitB zs s.N j := by unfold drawB; rw [if_pos hw]; rfl
   have e2 : drawS zs s j = { s with N := upd s.N j (s.N j + 1), M := nextM zs s.N s.M j } := by unfold drawS; rw [if_pos hw]; rfl
   rw [e1, e2]
   exact (next_is S.db j V zs s.N s.M w h.drs (by omega) (hc.N j).1 (by have := (hc.N j).2; omega) (hc.M j).1 (by have := (hc.M j).2; omega) (by have := hz j (by omega); omega)).mono fun _ _ ⟨he, hd, hg⟩ => ⟨he, h.draws hR hg hd, .own hg (by rw [hR.td]; decide)⟩
 · have e1 : drawB zs s who = false := by unfold drawB; rw [if_neg hw]
   have e2 : drawS zs s who = s := by unfold drawS; rw [if_neg hw]
   rw [e1, e2]
   exact (next_none (some ⟨S.db, 0, none⟩) who w (.inr ⟨⟨_, rfl⟩, hw⟩)).mono fun _ _ ⟨he, hw⟩ => by subst hw; exact ⟨he, h, .refl _ _⟩
def turnPg (i j : Nat) (x : Pg) (s : NS) : NS := { s with L := fun i' => if i' = i then (fun j' => if j' = j then x else s.L i j') else s.L i' }
theorem spoilPg_is {i j b : Nat} (h : NandAt w S V zs s) (hR : Roles S) (hi : i < S.all) (hj : j < S.pg) (hb : w.cell? ⟨b, 0, none⟩ = some (.pointer (some ⟨S.row i, j * 3, none⟩))) :
   Calls Tryz.prog 213 #[.pointer (some ⟨b, 0, none⟩)] w (Goes S V zs (.tuple #[]) (turnPg i j { s.L i j with st := 2 } s) w) := by
 have hrow := h.row i hi
 have hT : S.T (S.row i) ≠ 0 := by rw [hR.tr i hi]; omega
 have hg := gb_set (gb_refl w (some (S.row i))) (j * 3) (.int .i64 2)
 have H := Lib.hid (And.intro (h.turnRow hR hi hg (hrow.setSt hT hj 2)) (Keeps.own (T := S.T) hg hT))
 have c := hrow.st j hj
 have f := hrow.free (j * 3)
 clear h hR hrow hT hg
 generalize S.row i = r at *
 go_enter Tryz.func213, Tryz.ntmps213
 go_wp2
 go_end0
 exact ⟨rfl, H.out.1, H.out.2⟩
def BoxIn (T : Nat → Nat) (w : World) (b0 b1 b2 : Nat) (v : Value) (dt : ByteArray) (a : Addr) (x : World) : Prop :=
 Keeps T w x ∧ x.cell? ⟨b0, 0, none⟩ = some v ∧ x.cell? ⟨b1, 0, none⟩ = some (.string dt) ∧ x.cell? ⟨b2, 0, none⟩ = some (.pointer (some a))
theorem Keeps.cell {T : Nat → Nat} {w w' : World} (h : Keeps T w w') {b o : Nat} {v : Value} (hc : w.cell? ⟨b, o, none⟩ = some v) (hb : T b = 0) : w'.cell? ⟨b, o, none⟩ = some v :=
 (World.cell?_of_block (h.block b (World.block_lt_of_cell? w _ hc) hb)).trans hc
theorem BoxIn.next {T : Nat → Nat} {w x y : World} {b0 b1 b2 : Nat} {v : Value} {dt : ByteArray} {a : Addr} (h : BoxIn T w b0 b1 b2 v dt a x) (hk : Keeps T x y) (h0 : T b0 = 0) (h1 : T b1 = 0) (h2 : T b2 = 0) : BoxIn T w b0 b1 b2 v dt a y :=
 ⟨h.1.trans hk, hk.cell h.2.1 h0, hk.cell h.2.2.1 h1, hk.cell h.2.2.2 h2⟩
set_option maxHeartbeats 800000 in
theorem doPg_is {i j b0 b1 b2 : Nat} {v : Value} {bs : List Int} {dt : ByteArray} (h : NandAt w S V zs s) (hR : Roles S) (hi : i < S.all) (hj : j < S.pg) (t0 : S.T b0 = 0) (t1 : S.T b1 = 0) (t2 : S.T b2 = 0)
   (h0 : w.cell? ⟨b0, 0, none⟩ = some v) (h1 : w.cell? ⟨b1, 0, none⟩ = some (.string dt)) (h2 : w.cell? ⟨b2, 0, none⟩ = some (.pointer (some ⟨S.row i, j * 3, none⟩))) (hv : BtsA w v bs) (hl : bs.length ≤ 32) :
   Calls Tryz.prog 214 #[.pointer (some ⟨b0, 0, none⟩), .pointer (some ⟨b1, 0, none⟩), .pointer (some ⟨b2, 0, none⟩)] w (Goes S V zs (.tuple #[]) (turnPg i j ⟨1, bs, dt⟩ s) w) := by
 have hT : S.T (S.row i) ≠ 0 := by rw [hR.tr i hi]; omega
 have CL := clone_wide v bs w.drew (hv.ext (Ext.drew w)) (by omega)
 obtain ⟨ao, cp0, hvf⟩ := hv.form
 subst hvf
 have hS : BoxIn S.T w b0 b1 b2 (.slice ao bs.length cp0) dt ⟨S.row i, j * 3, none⟩ w.drew := ⟨.ext (Ext.drew w), h0, h1, h2⟩
 have HH := Lib.hid (And.intro h (And.intro hR (And.intro hT (And.intro t0 (And.intro t1 t2)))))
 clear h hR hT hv h0 h1 h2 t0 t1 t2
 go_enter Tryz.func214, Tryz.ntmps214
 go_wp2
 refine region_line [(0, true), (1, true), (3, true), (2, false), (4, false), (5, true), (6, false)] (BoxIn S.T w b0 b1 b2 (.slice ao bs.length cp0) dt ⟨S.row i, j * 3, none⟩) (by kernel_rfl) (by kernel_rfl) (fun _ _ _ d _ h => by cases d <;> exact h) hS ?_
 repeat (refine line_read (a' := ?_) rfl (by kernel_rfl) (by kernel_rfl) hS (fun x hx K hK => ?_) ?_; rotate_left; · obtain ⟨_, hx1, hx2, hx3⟩ := hx; go_wp2; exact hK)
 refine line_act (by rfl) (fun K hK => ?_)
 go_wp2_with (go_at_call 215; refine CL.mono ?_; rintro e w4 ⟨a4, c4, rfl, hb4, hg4, ho4⟩)
 have hE4 : w.grownBy w4 none := Ext.of_drew hg4
 have hS4 := hS.next (Keeps.ext hg4) HH.out.2.2.2.1 HH.out.2.2.2.2.1 HH.out.2.2.2.2.2
 refine hK _ _ _ hS4 (fun x hx => hx) ?_
 clear hK K
 have hN := HH.out.1.ext hE4 HH.out.2.1
 have hrow := hN.row i hi
 have hq : ∀ q, (Value.slice a4 bs.length c4).ownBlock = some q → S.T q = 0 := fun q hq => Classical.byContradiction fun hne => by
   have := HH.out.1.hi q hne
   have := (ho4 q hq).1
   simp at this
   omega
 have hg := gb_set (gb_set (gb_set (gb_refl w4 (some (S.row i))) (j * 3) (.int .i64 1)) (j * 3 + 1) (.slice a4 bs.length c4)) (j * 3 + 2) (.string dt)
 have hk := Keeps.own (T := S.T) hg HH.out.2.2.1
 have H := Lib.hid (And.intro (hN.turnRow HH.out.2.1 hi hg (hrow.setPg HH.out.2.2.1 hj ⟨1, bs, dt⟩ (.slice a4 bs.length c4) hb4 hq)) (And.intro ((Keeps.ext (T := S.T) hE4).trans hk) (hS4.next hk HH.out.2.2.2.1 HH.out.2.2.2.2.1 HH.out.2.2.2.2.2)))
 have f := fun o => hrow.free o
 have c0 := hrow.st j hj
 obtain ⟨u, c1, _⟩ := hrow.bs j hj
 have c2 := hrow.dt j hj
 clear hg hq hrow hN hk
 refine line_act (by rfl) (fun K hK => ?_)
 go_wp2
 refine hK _ _ _ hS4 (fun x hx => hx) ?_
 clear hK K
 repeat (refine line_read (a' := ?_) rfl (by kernel_rfl) (by kernel_rfl) hS4 (fun x hx K hK => ?_) ?_; rotate_left; · go_wp2; exact hK)
 refine line_act (by rfl) (fun K hK => ?_)
 go_wp2
 refine hK _ _ _ H.out.2.2 (fun x hx => hx) ?_
 clear hK K
 refine line_end ?_
 go_wp2
 go_end0
 exact ⟨rfl, H.out.1, H.out.2.1⟩
end
end Go.Proofs.YtfgifgglcafadaaGreatDoor

namespace Go.Proofs.YtfgifgglcafadaaGreatDoor
set_option linter.unusedVariables false
set_option linter.unusedSimpArgs false
set_option linter.unusedVariables false
set_option linter.unusedSimpArgs false
set_option maxRecDepth 100000
open Go.RowKit
def operE (zs : Nat → List Int) (s : NS) (who : Int) : Int := if spE s.px s.off = 0 then (if drawB zs s who then 10 else 0) else 12
def operS (zs : Nat → List Int) (s : NS) (who : Int) (sp dn : NS → NS) : NS :=
 if spE s.px s.off = 12 then spendS s else if spE s.px s.off = 11 then sp (spendS s) else if drawB zs s who then sp (drawS zs (spendS s) who) else dn (drawS zs (spendS s) who)
theorem spE_cases (x : Int) (g : Bool) : spE x g = 12 ∨ spE x g = 11 ∨ spE x g = 0 := by unfold spE; split; exact .inl rfl; split; exact .inr (.inl rfl); exact .inr (.inr rfl)
theorem drawB_spend (zs : Nat → List Int) (s : NS) (who : Int) : drawB zs (spendS s) who = drawB zs s who := rfl
def tornPg (i j : Nat) (s : NS) : NS := turnPg i j { s.L i j with st := 2 } s
section
variable {w : World} {S : NShape} {V : Nat → Value} {zs : Nat → List Int} {s : NS}
set_option maxHeartbeats 1600000 in
theorem operP_any {i j b0 b1 b2 : Nat} {v : Value} {bs : List Int} {dt : ByteArray} (h : NandAt w S V zs s) (hR : Roles S) {n : Int} (hc : Cnt s n) (hn : n < 1152921504606846976) (hz : ∀ j, j < 4 → (zs j).length ≤ 64) (who : Int)
   (hi : i < S.all) (hj : j < S.pg) (t0 : S.T b0 = 0) (t1 : S.T b1 = 0) (t2 : S.T b2 = 0)
   (h0 : w.cell? ⟨b0, 0, none⟩ = some v) (h1 : w.cell? ⟨b1, 0, none⟩ = some (.string dt)) (h2 : w.cell? ⟨b2, 0, none⟩ = some (.pointer (some ⟨S.row i, j * 3, none⟩)))
   (hv : ∀ x, Keeps S.T w x → BtsA x v bs) (hl : bs.length ≤ 32) :
   Calls Tryz.prog 174 #[.pointer (some ⟨S.nb, 0, none⟩), .int .i64 who, .func (.func 213) #[] #[.pointer (some ⟨b2, 0, none⟩)], .func (.func 214) #[] #[.pointer (some ⟨b0, 0, none⟩), .pointer (some ⟨b1, 0, none⟩), .pointer (some ⟨b2, 0, none⟩)]] w
     (Goes S V zs (.int .i64 (operE zs s who)) (operS zs s who (tornPg i j) (turnPg i j ⟨1, bs, dt⟩)) w) := by
 have SP := spend7_any h hR hc (by omega)
 have cp := h.fix.cp
 have hcs := hc.spend
 have DR := fun (x : World) (hx : NandAt x S V zs (spendS s)) => draw7_any hx hR hcs (by omega) hz who
 have SPL := fun (x : World) (s' : NS) (hx : NandAt x S V zs s') (kx : Keeps S.T w x) => spoilPg_is (i := i) (j := j) (b := b2) hx hR hi hj (kx.cell h2 t2)
 have DOP := fun (x : World) (s' : NS) (hx : NandAt x S V zs s') (kx : Keeps S.T w x) => doPg_is (i := i) (j := j) (bs := bs) (dt := dt) hx hR hi hj t0 t1 t2 (kx.cell h0 t0) (kx.cell h1 t1) (kx.cell h2 t2) (hv x kx) hl
 have hSS : ∀ x s', NandAt x S V zs s' → x.cell? ⟨S.nb, 5, none⟩ = some (.pointer (some ⟨S.db, 0, none⟩)) := fun x s' hx => hx.fix.cd
 have H5 := Lib.hid hSS
 clear h0 h1 h2 hv h hc hcs hSS hl
 unfold operE operS
 rw [drawB_spend] at DR
 rcases spE_cases s.px s.off with hs | hs | hs
 · rw [hs] at SP ⊢
   rw [if_neg (by decide), if_pos rfl]
   clear DR SPL DOP hs
   go_enter Tryz.func174, Tryz.ntmps174
   go_wp2_with (go_at_call 206; refine SP.mono ?_; rintro e w1 ⟨rfl, hN1, hk1⟩)
   go_ret
   exact ⟨rfl, hN1, hk1⟩
 · rw [hs] at SP ⊢
   rw [if_neg (by decide), if_neg (by decide), if_pos rfl]
   clear DR DOP hs
   go_enter Tryz.func174, Tryz.ntmps174
   go_wp2_with (first
     | (go_at_call 206; refine SP.mono ?_; rintro e w1 ⟨rfl, hN1, hk1⟩)
     | (go_at_call 213; refine (SPL _ _ hN1 hk1).mono ?_; rintro e w2 ⟨rfl, hN2, hk2⟩))
   go_ret
   exact ⟨rfl, hN2, hk1.trans hk2⟩
 · rw [hs] at SP ⊢
   rw [if_pos (show (0 : Int) = 0 from rfl), if_neg (show ¬ (0 : Int) = 12 by decide), if_neg (show ¬ (0 : Int) = 11 by decide)]
   cases hd : drawB zs s who
   · rw [hd] at DR
     simp only [Bool.false_eq_true, if_false]
     clear SPL hs hd
     go_enter Tryz.func174, Tryz.ntmps174
     go_wp2_with (first
       | (go_at_call 206; refine SP.mono ?_; rintro e w1 ⟨rfl, hN1, hk1⟩; have cd1 := H5.out _ _ hN1)
       | (go_at_call 207; refine (DR _ hN1).mono ?_; rintro e w2 ⟨rfl, hN2, hk2⟩)
       | (go_at_call 214; refine (DOP _ _ hN2 (hk1.trans hk2)).mono ?_; rintro e w3 ⟨rfl, hN3, hk3⟩))
     go_ret
     exact ⟨rfl, hN3, (hk1.trans hk2).trans hk3⟩
   · rw [hd] at DR
     simp only [if_true]
     clear DOP hs hd
     go_enter Tryz.func174, Tryz.ntmps174
     go_wp2_with (first
       | (go_at_call 206; refine SP.mono ?_; rintro e w1 ⟨rfl, hN1, hk1⟩; have cd1 := H5.out _ _ hN1)
       | (go_at_call 207; refine (DR _ hN1).mono ?_; rintro e w2 ⟨rfl, hN2, hk2⟩)
       | (go_at_call 213; refine (SPL _ _ hN2 (hk1.trans hk2)).mono ?_; rintro e w3 ⟨rfl, hN3, hk3⟩))
     go_ret
     exact ⟨rfl, hN3, (hk1.trans hk2).trans hk3⟩
end
end Go.Proofs.YtfgifgglcafadaaGreatDoor
