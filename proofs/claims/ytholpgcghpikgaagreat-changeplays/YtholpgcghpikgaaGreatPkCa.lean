/-
  Texts of our own, one behind the other (ChFacts, ChPure): what the laws' proofs rest on; each says at its head what it holds. No conditions.
-/
import Derived.Test.YtholpgcghpikgaaGreatPkN
import Derived.Test.YtholpgcghpikgaaGreatPkPd
import Derived.Test.YtholpgcghpikgaaGreatPkQa
import Derived.Test.YtholpgcghpikgaaGreatPkBa
/-
  Layer 14: the layers below: lists stay right, and as they were beside errors.
-/
namespace Go.Proofs.YtholpgcghpikgaaGreat
open Go.ChangeShapes Go.WideShapes Go.ChangeAt Go.RowKit Go.Shelf
set_option linter.unusedVariables false

section
variable {X : List Ar}
theorem mapR_may (hX : MayL X) (c : Cl) : MayL (mapR X c).1 := by
  rcases mapR_is X c with ⟨_, h, _⟩ | ⟨h1, h2, h3⟩
  · rw [h]; exact hX
  · rw [h3]; exact ⟨putC_right hX.1 h1.formed, h2⟩
theorem mapR_err {c : Cl} (h : (mapR X c).2.1 ≠ 0) : (mapR X c).1 = X := by
  rcases mapR_is X c with ⟨_, h, _⟩ | ⟨h1, h2, h3⟩
  · exact h
  · rw [h3] at h; exact absurd rfl h
theorem umR_may (hX : MayL X) (c : Cl) : MayL (umR X c).1 := by
  unfold umR
  by_cases h : umE X c = 0
  · rw [if_pos h]
    by_cases hm : (outsideL (rgA c.a c.n) (rgB c.a c.n) X).length ≤ 24
    · rw [if_pos hm]; exact ⟨outside_right _ _ hX.1, hm⟩
    · rw [if_neg hm]; exact hX
  · rw [if_neg h]; exact hX
theorem umR_err {c : Cl} (h : (umR X c).2.1 ≠ 0) : (umR X c).1 = X := by
  unfold umR at h ⊢
  by_cases h' : umE X c = 0
  · rw [if_pos h'] at h ⊢
    by_cases hm : (outsideL (rgA c.a c.n) (rgB c.a c.n) X).length ≤ 24
    · rw [if_pos hm] at h; exact absurd rfl h
    · rw [if_neg hm]
  · rw [if_neg h']
theorem prtR_err {c : Cl} (h : (prtR X c).2 ≠ 0) : (prtR X c).1 = X := by
  rcases prtR_is X c with ⟨_, h⟩ | ⟨h1, h2, h3⟩
  · exact h
  · rw [h3] at h; exact absurd rfl h
theorem rmR_fails {c : Cl} (h : (rmR X c).2.1 ≠ 0) : (rmR X c).1 = X := by
  rcases rmR_is X c with ⟨_, h, _⟩ | ⟨_, _, _, _, h3⟩
  · exact h
  · rw [h3] at h; exact absurd rfl h
theorem bkR_in {now a : Int} (hn : bkIn now) : bkIn (bkR X now a).2.1 := by
  by_cases h : (bkR X now a).2.2.1 = 0
  · obtain ⟨_, _, k3, k4, _⟩ := bkR_ok h
    rw [k4]; exact k3
  · rw [bkR_err h]; exact hn
end
end Go.Proofs.YtholpgcghpikgaaGreat

/-
  Layer 14: a space, an answer, and what a call comes to.
-/
namespace Go.Proofs.YtholpgcghpikgaaGreat
open Go.ChangeShapes Go.WideShapes Go.ChangeAt Go.RowKit Go.Shelf
set_option linter.unusedVariables false

/-- Areas, and a break. -/
structure Sc where
  l : List Ar
  n : Int
/-- An answer: the error, the value, the attributes. -/
structure An where
  e : Int
  x : Int
  t : At
def An.cells (a : An) : Array Value := #[.int .i64 a.e, .int .i64 a.x, .int .i64 a.t.p, .bool a.t.sh, .int .i64 a.t.bk, .int .i64 a.t.off]
def An.v (a : An) : Value := .agg a.cells
def An.nil : An := ⟨0, 0, ⟨0, false, 0, 0⟩⟩
/-- An error, and a value. -/
def An.ev (e x : Int) : An := ⟨e, x, ⟨0, false, 0, 0⟩⟩
theorem an_ev (e x : Int) : ansV e x = (An.ev e x).v := rfl
theorem an_t (e : Int) (t : At) : Value.agg (ansT e t) = (An.mk e 0 t).v := rfl
def Sc.first : Sc := ⟨[], 65536⟩
def RightSc (s : Sc) : Prop := MayL s.l ∧ bkIn s.n
instance (s : Sc) : Decidable (RightSc s) := inferInstanceAs (Decidable (_ ∧ _))
theorem first_right : RightSc Sc.first := ⟨⟨trivial, by simp [Sc.first]⟩, by simp only [Sc.first]; exact ⟨by omega, by omega⟩⟩
/-- A call's kind is one. -/
def kindB (c : Cl) : Prop := 0 ≤ c.k ∧ c.k ≤ 5
instance (c : Cl) : Decidable (kindB c) := inferInstanceAs (Decidable (_ ∧ _))
/-- What a call of a right space, of a kind that is one, comes to. -/
noncomputable def chG (s : Sc) (c : Cl) : Sc × An :=
  if c.k = 0 then (⟨(mapR s.l c).1, s.n⟩, An.ev (mapR s.l c).2.1 (mapR s.l c).2.2)
  else if c.k = 1 then (⟨(umR s.l c).1, s.n⟩, An.ev (umR s.l c).2.1 (umR s.l c).2.2)
  else if c.k = 2 then (⟨(prtR s.l c).1, s.n⟩, An.ev (prtR s.l c).2 0)
  else if c.k = 3 then (⟨(rmR s.l c).1, s.n⟩, An.ev (rmR s.l c).2.1 (rmR s.l c).2.2)
  else if c.k = 4 then (⟨(bkR s.l s.n c.a).1, (bkR s.l s.n c.a).2.1⟩, An.ev (bkR s.l s.n c.a).2.2.1 (bkR s.l s.n c.a).2.2.2)
  else (s, ⟨faE s.l c, 0, faT s.l c⟩)
/-- What a call comes to. -/
noncomputable def chR (s : Sc) (c : Cl) : Sc × An := if RightSc s ∧ kindB c then chG s c else (s, An.ev 1 0)

/-! What follows. -/
theorem chG_right {s : Sc} (hs : RightSc s) (c : Cl) : RightSc (chG s c).1 := by
  obtain ⟨hm, hn⟩ := hs
  unfold chG
  by_cases h0 : c.k = 0
  · rw [if_pos h0]; exact ⟨mapR_may hm c, hn⟩
  rw [if_neg h0]
  by_cases h1 : c.k = 1
  · rw [if_pos h1]; exact ⟨umR_may hm c, hn⟩
  rw [if_neg h1]
  by_cases h2 : c.k = 2
  · rw [if_pos h2]; exact ⟨prtR_may hm c, hn⟩
  rw [if_neg h2]
  by_cases h3 : c.k = 3
  · rw [if_pos h3]; exact ⟨rmR_may hm c, hn⟩
  rw [if_neg h3]
  by_cases h4 : c.k = 4
  · rw [if_pos h4]; exact ⟨bkR_may hm, bkR_in hn⟩
  rw [if_neg h4]; exact ⟨hm, hn⟩
theorem chR_right {s : Sc} (hs : RightSc s) (c : Cl) : RightSc (chR s c).1 := by
  unfold chR
  split
  · exact chG_right hs c
  · exact hs
theorem chR_err {s : Sc} {c : Cl} (h : (chR s c).2.e ≠ 0) : (chR s c).1 = s := by
  unfold chR at h ⊢
  by_cases hk : RightSc s ∧ kindB c
  · rw [if_pos hk] at h ⊢
    unfold chG at h ⊢
    by_cases h0 : c.k = 0
    · rw [if_pos h0] at h ⊢; simp only [mapR_err (show (mapR s.l c).2.1 ≠ 0 from h)]
    rw [if_neg h0] at h ⊢
    by_cases h1 : c.k = 1
    · rw [if_pos h1] at h ⊢; simp only [umR_err (show (umR s.l c).2.1 ≠ 0 from h)]
    rw [if_neg h1] at h ⊢
    by_cases h2 : c.k = 2
    · rw [if_pos h2] at h ⊢; simp only [prtR_err (show (prtR s.l c).2 ≠ 0 from h)]
    rw [if_neg h2] at h ⊢
    by_cases h3 : c.k = 3
    · rw [if_pos h3] at h ⊢; simp only [rmR_fails (show (rmR s.l c).2.1 ≠ 0 from h)]
    rw [if_neg h3] at h ⊢
    by_cases h4 : c.k = 4
    · rw [if_pos h4] at h ⊢; rw [bkR_err (show (bkR s.l s.n c.a).2.2.1 ≠ 0 from h)]
    rw [if_neg h4]
  · rw [if_neg hk]
/-- A fault changes nothing. -/
theorem chR_fault (s : Sc) {c : Cl} (h : c.k = 5) : (chR s c).1 = s := by
  unfold chR
  split
  · unfold chG
    rw [if_neg (by omega), if_neg (by omega), if_neg (by omega), if_neg (by omega), if_neg (by omega)]
  · rfl
theorem sc_len {s : Sc} (h : RightSc s) : s.l.length ≤ 10000 := by have := h.1.2; omega

/-! Calls, one behind the other. -/
def Cl.nil : Cl := ⟨0, 0, 0, 0, 0, 0, 0, 0, 0⟩
def nthC (l : List Cl) (k : Nat) : Cl := l.getD k Cl.nil
/-- The space behind k calls. -/
noncomputable def plS (l : List Cl) : Nat → Sc
  | 0 => Sc.first
  | k + 1 => (chR (plS l k) (nthC l k)).1
/-- What the call behind k ones is told. -/
noncomputable def plA (l : List Cl) (k : Nat) : An := (chR (plS l k) (nthC l k)).2
theorem pl_right (l : List Cl) : ∀ k, RightSc (plS l k)
  | 0 => first_right
  | k + 1 => chR_right (pl_right l k) _
theorem nthC_take (l : List Cl) {m k : Nat} (h : k < m) : nthC (l.take m) k = nthC l k := by
  unfold nthC
  rw [List.getD_eq_getElem?_getD, List.getD_eq_getElem?_getD, List.getElem?_take_of_lt h]
theorem plS_take (l : List Cl) (m : Nat) : ∀ k, k ≤ m → plS (l.take m) k = plS l k
  | 0, _ => rfl
  | k + 1, h => by
    simp only [plS]
    rw [plS_take l m k (by omega), nthC_take l (by omega)]
theorem plA_take (l : List Cl) {m k : Nat} (h : k < m) : plA (l.take m) k = plA l k := by
  unfold plA
  rw [plS_take l m k (by omega), nthC_take l h]
end Go.Proofs.YtholpgcghpikgaaGreat
