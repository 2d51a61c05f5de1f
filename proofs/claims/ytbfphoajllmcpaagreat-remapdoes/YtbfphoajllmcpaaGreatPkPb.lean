/-
  Texts of our own, one behind the other (ProtSmall, ProtDo): what the laws' proofs rest on; each says at its head what it holds. No conditions.
-/
import Derived.Test.YtbfphoajllmcpaaGreatPkPa
import Derived.Test.YtbfphoajllmcpaaGreatPkLb
import Derived.Test.YtbfphoajllmcpaaGreatPkLc
/-
  Layer 11: the small calls: a contract for each.
-/
namespace Go.Proofs.YtbfphoajllmcpaaGreat
open Go.ChangeShapes Go.WideShapes Go.ChangeAt Go.RowKit Go.Shelf
set_option linter.unusedVariables false

/-! Whether a list may come. -/
def wnE (p : Int) : Int := if 1 ≤ p ∧ p ≤ 7 then 0 else 1
def acE (p : Int) (ok : Bool) (k : Int) : Int := if ok = true then (if mayB p k = true then 0 else 8) else 7
def cvB (X : List Ar) (lo hi : Int) : Bool := decide (RightL X) && cvL lo hi (insideL lo hi X)
def cvE (X : List Ar) (lo hi : Int) : Int := if cvB X lo hi = true then 0 else 7
theorem find_c {w : World} {v : Value} {X : List Ar} (h : Holds w v X) (hl : X.length ≤ 10000) (x : Int) : Calls Tryz.prog 38 #[v, .int .i64 x] w fun e w' => e = .returned (foundV (if RightL X then findL x X else none)) ∧ Below w.heap.size w w' := by
  obtain ⟨A, c, rfl, hc, hA⟩ := h
  by_cases hr : RightL X
  · rw [if_pos hr]; exact find_any A X c x hr w hA
  · rw [if_neg hr]; exact find_no A X c x hl hr w hA

/-! An answer. -/
/-- An answer: its error, and what a page has. -/
def ansT (e : Int) (t : At) : Array Value := #[.int .i64 e, .int .i64 0, .int .i64 t.p, .bool t.sh, .int .i64 t.bk, .int .i64 t.off]
theorem ansT_nil (e : Int) : ansT e At.nil = ansC e 0 := rfl
theorem or_three (W : World) (t : TypeId) (e0 e1 e2 : Int) : Calls Tryz.prog 12 #[.slice (some ⟨W.heap.size, 0, none⟩) 3 3] (W.alloc (.cells #[.int .i64 e0, .int .i64 e1, .int .i64 e2] t)) fun e w' =>
    e = .returned (.int .i64 (firstE [e0, e1, e2])) ∧ w' = W.alloc (.cells #[.int .i64 e0, .int .i64 e1, .int .i64 e2] t) := by
  have hw := Whole.new W t #[.int .i64 e0, .int .i64 e1, .int .i64 e2]
  refine or_any [e0, e1, e2] (by simp) W.heap.size 3 _ fun i hi => ?_
  rw [hw.cell]
  simp at hi
  rcases (show i = 0 ∨ i = 1 ∨ i = 2 by omega) with rfl | rfl | rfl <;> rfl
theorem or_four (W : World) (t : TypeId) (e0 e1 e2 e3 : Int) : Calls Tryz.prog 12 #[.slice (some ⟨W.heap.size, 0, none⟩) 4 4] (W.alloc (.cells #[.int .i64 e0, .int .i64 e1, .int .i64 e2, .int .i64 e3] t)) fun e w' =>
    e = .returned (.int .i64 (firstE [e0, e1, e2, e3])) ∧ w' = W.alloc (.cells #[.int .i64 e0, .int .i64 e1, .int .i64 e2, .int .i64 e3] t) := by
  have hw := Whole.new W t #[.int .i64 e0, .int .i64 e1, .int .i64 e2, .int .i64 e3]
  refine or_any [e0, e1, e2, e3] (by simp) W.heap.size 4 _ fun i hi => ?_
  rw [hw.cell]
  simp at hi
  rcases (show i = 0 ∨ i = 1 ∨ i = 2 ∨ i = 3 by omega) with rfl | rfl | rfl | rfl <;> rfl

/-- What is found, what a page has, and what is wrong with a fault. -/
def fnO (X : List Ar) (x : Int) : Option Ar := if RightL X then findL x X else none
def fnA (X : List Ar) (x : Int) : Ar := (fnO X x).getD Ar.nil
def fnT (X : List Ar) (x : Int) : At := match fnO X x with | some a => a.attr x | none => At.nil
def faE (X : List Ar) (c : Cl) : Int := firstE [liE X, wnE c.p, acE (fnA X c.a).p (fnO X c.a).isSome c.p]
def faT (X : List Ar) (c : Cl) : At := if faE X c = 0 then fnT X c.a else At.nil
end Go.Proofs.YtbfphoajllmcpaaGreat

/-
  Layer 11: what is protected: a contract for each call.
-/
namespace Go.Proofs.YtbfphoajllmcpaaGreat
open Go.ChangeShapes Go.WideShapes Go.ChangeAt Go.RowKit Go.Shelf
set_option linter.unusedVariables false
attribute [local go_sem ↓] Go.wp_at_zero Go.wp_at_succ

/-- What is wrong with it. -/
def prtE (X : List Ar) (c : Cl) : Int := firstE [liE X, rgE c.a c.n, prE c.p, cvE X (rgA c.a c.n) (rgB c.a c.n)]
/-- The list with the range protected. -/
noncomputable def prtL (X : List Ar) (c : Cl) : List Ar := setC (rgA c.a c.n) (rgB c.a c.n) c.p X
/-- What it comes to: the list, and the error. -/
noncomputable def prtR (X : List Ar) (c : Cl) : List Ar × Int :=
  if prtE X c = 0 then (if (prtL X c).length ≤ 24 then (prtL X c, 0) else (X, 9)) else (X, prtE X c)
structure Prt (X : List Ar) (c : Cl) : Prop where
  may : MayL X
  rg : rgE c.a c.n = 0
  p0 : 0 ≤ c.p
  p7 : c.p ≤ 7
  cv : cvB X (rgA c.a c.n) (rgB c.a c.n) = true
theorem prt_zero {X : List Ar} {c : Cl} : prtE X c = 0 ↔ Prt X c := by
  unfold prtE
  rw [first_zero]
  constructor
  · intro h
    have hm : MayL X := by
      have := h (liE X) (by simp)
      unfold liE at this
      by_cases hm : MayL X
      · exact hm
      · rw [if_neg hm] at this; cases this
    have hp : 0 ≤ c.p ∧ c.p ≤ 7 := by
      have := h (prE c.p) (by simp)
      unfold prE at this
      by_cases hp : 0 ≤ c.p ∧ c.p ≤ 7
      · exact hp
      · rw [if_neg hp] at this; cases this
    refine ⟨hm, h _ (by simp), hp.1, hp.2, ?_⟩
    have := h (cvE X (rgA c.a c.n) (rgB c.a c.n)) (by simp)
    unfold cvE at this
    by_cases hc : cvB X (rgA c.a c.n) (rgB c.a c.n) = true
    · exact hc
    · rw [if_neg hc] at this; cases this
  · rintro ⟨h1, h2, h3, h4, h5⟩ e he
    simp only [List.mem_cons, List.not_mem_nil, or_false] at he
    rcases he with rfl | rfl | rfl | rfl
    · unfold liE; rw [if_pos h1]
    · exact h2
    · unfold prE; rw [if_pos ⟨h3, h4⟩]
    · unfold cvE; rw [if_pos h5]

/-- A list of its own, and an error. -/
def GivesE (w : World) (Y : List Ar) (e : Int) (r : Ending) (w' : World) : Prop := ∃ v', r = .returned (.tuple #[v', .int .i64 e]) ∧ Mine w.heap.size w' v' Y ∧ Below w.heap.size w w'

section
variable {w : World} {v : Value} {X : List Ar}
end
end Go.Proofs.YtbfphoajllmcpaaGreat
