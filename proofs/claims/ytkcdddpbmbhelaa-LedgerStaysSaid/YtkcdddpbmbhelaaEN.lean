/-
  The document's Same.
-/
import Derived.Test.YtkcdddpbmbhelaaEM
namespace Go.Proofs.Ytkcdddpbmbhelaa
open Go.RowKit

@[reducible] def zeroTC : Array Value := #[.bool false, .int .i64 0, .int .i64 0, .int .i64 0, .slice none 0 0]

def tenB (x y : Ten) : Bool := x.th == y.th && x.ep == y.ep && x.sz == y.sz && x.sp == y.sp && x.bs == y.bs
def sameB (A B : Led) : Bool := A.gen == B.gen && A.eps == B.eps && tenB (A.t 0) (B.t 0) && tenB (A.t 1) (B.t 1) && tenB (A.t 2) (B.t 2) && tenB (A.t 3) (B.t 3)
theorem tenB_refl (x : Ten) : tenB x x = true := by simp [tenB]
theorem sameB_refl (A : Led) : sameB A A = true := by simp [sameB, tenB_refl]
theorem sameB_gen {A B : Led} (h : A.gen ≠ B.gen) : sameB A B = false := by simp [sameB, h]
theorem sameB_eps {A B : Led} (h : A.eps ≠ B.eps) : sameB A B = false := by simp [sameB, h]
theorem sameB_ten {A B : Led} {k : Nat} (hk : k < 4) (h : tenB (A.t k) (B.t k) = false) : sameB A B = false := by
  obtain rfl | rfl | rfl | rfl : k = 0 ∨ k = 1 ∨ k = 2 ∨ k = 3 := by omega
  all_goals simp [sameB, h]
theorem sameB_all {A B : Led} (hg : A.gen = B.gen) (he : A.eps = B.eps) (h : ∀ k, k < 4 → tenB (A.t k) (B.t k) = true) : sameB A B = true := by
  simp [sameB, hg, he, h 0 (by omega), h 1 (by omega), h 2 (by omega), h 3 (by omega)]
theorem tenB_els {x y : Ten} (h0 : x.th = y.th) (h1 : x.ep = y.ep) (h2 : x.sz = y.sz) (h3 : x.sp = y.sp) (hl : x.bs.length = y.bs.length) (h : ∀ m, m < x.bs.length → x.bs.getD m 0 = y.bs.getD m 0) : tenB x y = true := by
  have : x.bs = y.bs := List.ext_getElem hl (fun m h1 h2 => by
    have := h m h1
    simpa [List.getD_eq_getElem?_getD, h1, h2] using this)
  simp [tenB, h0, h1, h2, h3, this]
theorem tenB_el {x y : Ten} {m : Nat} (hm : m < x.bs.length) (hm2 : m < y.bs.length) (h : x.bs.getD m 0 ≠ y.bs.getD m 0) : tenB x y = false := by
  have : x.bs ≠ y.bs := fun e => h (by rw [e])
  simp [tenB, this]
theorem tenB_len {x y : Ten} (h : x.bs.length ≠ y.bs.length) : tenB x y = false := by
  have : x.bs ≠ y.bs := fun e => h (by rw [e])
  simp [tenB, this]

theorem beqNe_nat {a b : Nat} (h : a = b) : ((a : Int) != (b : Int)) = false := by subst h; simp
theorem beqNe_nat' {a b : Nat} (h : a ≠ b) : ((a : Int) != (b : Int)) = true := by simp; omega

theorem ten_th (x : Ten) (v : Value) : (tenC x v)[0]? = some (.bool x.th) := rfl
theorem ten_ep (x : Ten) (v : Value) : (tenC x v)[1]? = some (.int .i64 x.ep) := rfl
theorem ten_sz (x : Ten) (v : Value) : (tenC x v)[2]? = some (.int .i64 x.sz) := rfl
theorem ten_sp (x : Ten) (v : Value) : (tenC x v)[3]? = some (.int .i64 x.sp) := rfl
theorem ten_bs (x : Ten) (v : Value) : (tenC x v)[4]? = some v := rfl
theorem tenB_th {x y : Ten} (h : x.th ≠ y.th) : tenB x y = false := by simp [tenB, h]
theorem tenB_ep {x y : Ten} (h : x.ep ≠ y.ep) : tenB x y = false := by simp [tenB, h]
theorem tenB_sz {x y : Ten} (h : x.sz ≠ y.sz) : tenB x y = false := by simp [tenB, h]
theorem tenB_sp {x y : Ten} (h : x.sp ≠ y.sp) : tenB x y = false := by simp [tenB, h]

end Go.Proofs.Ytkcdddpbmbhelaa
