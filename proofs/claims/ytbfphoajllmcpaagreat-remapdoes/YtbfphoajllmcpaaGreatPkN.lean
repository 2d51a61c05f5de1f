/-
  Texts of our own, one behind the other (MapDo, MapLaw, MapPure): what the laws' proofs rest on; each says at its head what it holds. No conditions.
-/
import Derived.Test.YtbfphoajllmcpaaGreatPkMp
import Derived.Test.YtbfphoajllmcpaaGreatPkLc
import Derived.Test.YtbfphoajllmcpaaGreatPkB
/-
  Layer 10: mapping and unmapping: a contract for each call.
-/
namespace Go.Proofs.YtbfphoajllmcpaaGreat
open Go.ChangeShapes Go.WideShapes Go.ChangeAt Go.RowKit Go.Shelf
set_option linter.unusedVariables false
attribute [local go_sem ↓] Go.wp_at_zero Go.wp_at_succ

/-- What a map comes to: the list, the error, the value. -/
noncomputable def mapR (X : List Ar) (c : Cl) : List Ar × Int × Int :=
  if wtE X c = 0 then (if (putC X (wtA X c)).length ≤ 24 then (putC X (wtA X c), 0, (wtA X c).s) else (X, 9, 0)) else (X, wtE X c, 0)
/-- What is wrong with an unmap. -/
def umE (X : List Ar) (c : Cl) : Int := firstE [liE X, rgE c.a c.n]
/-- What an unmap comes to. -/
def umR (X : List Ar) (c : Cl) : List Ar × Int × Int :=
  if umE X c = 0 then (if (outsideL (rgA c.a c.n) (rgB c.a c.n) X).length ≤ 24 then (outsideL (rgA c.a c.n) (rgB c.a c.n) X, 0, 0) else (X, 9, 0)) else (X, umE X c, 0)

theorem um_zero {X : List Ar} {c : Cl} : umE X c = 0 ↔ MayL X ∧ rgE c.a c.n = 0 := by
  unfold umE
  rw [first_zero]
  unfold liE
  by_cases hm : MayL X
  · simp [hm]
  · simp [hm]

section
variable {w : World} {v : Value} {X : List Ar}
end
end Go.Proofs.YtbfphoajllmcpaaGreat

/-
  Layer 10: what the laws ask: lists that may come, what a program that does nothing does not answer, and answers that are the same.
-/
namespace Go.Proofs.YtbfphoajllmcpaaGreat
open Go.ChangeShapes Go.WideShapes Go.ChangeAt Go.RowKit Go.Shelf
set_option linter.unusedVariables false
attribute [local go_sem ↓] Go.wp_at_zero Go.wp_at_succ

/-! What a program that does nothing does not answer. -/
theorem gaps_nil : gapsL [] = [⟨65536, 2097152⟩] := by
  unfold gapsL
  rw [if_pos (show RightL [] from trivial)]
  simp [gapsFrom]
theorem high_nil : highOf 4096 (roomsL 65536 2097152 4096 []) = (2093056, true) := by
  rcases high_is [] 65536 2097152 4096 with ⟨h1, h2⟩ | ⟨a, h1, h2, h3⟩
  · exact absurd ⟨⟨by omega, by omega, by omega, _, by rw [gaps_nil]; exact List.mem_singleton.2 rfl, by simp, by simp⟩, by omega, by omega⟩ (h2 65536)
  · obtain ⟨⟨e1, _, _, g, hg, e2, e3⟩, e4, e5⟩ := h2
    have := h3 2093056 ⟨⟨by omega, by omega, by omega, _, by rw [gaps_nil]; exact List.mem_singleton.2 rfl, by simp, by simp⟩, by omega, by omega⟩
    rw [h1]
    congr 1
    omega
def wakeC : Cl := ⟨0, 0, 1, 0, 0, 1, 0, 0, 0⟩
theorem wake_sz : szE 1 = 0 ∧ szV 1 = 4096 := by decide
theorem wake_pl : plR [] 0 4096 0 = (2093056, 0) := by
  unfold plR
  rw [bit_zero 1, if_neg (by simp), if_neg (fun h => by have := fits_in h; omega), bit_zero 8, if_neg (by simp), high_nil]
  rfl
theorem wake_may : MayL [] := ⟨trivial, by simp⟩
theorem wake_e : wtE [] wakeC = 0 := by
  have hp : plE [] wakeC = (2093056, 0) := by
    unfold plE
    rw [if_pos wake_may]
    show plR [] 0 (szV 1) 0 = _
    rw [wake_sz.2, wake_pl]
  refine wt_zero.2 ⟨wake_may, wake_sz.1, by decide, ?_, ?_, ?_, by rw [hp]⟩
  · show fgE 0 = 0
    unfold fgE
    rw [bit_zero, if_neg (by simp)]
    unfold flE
    rw [if_neg]
    rintro (h | h)
    · omega
    · exact h ((andNot_zero 0 15 (by decide) (by decide)).2 (by simp))
  · show bkE 0 0 (szV 1) = 0
    rw [wake_sz.2]; decide
  · unfold plE; rw [if_pos wake_may]
theorem wake_r : ∃ a : Ar, mapR [] wakeC = ([a], 0, 2093056) := by
  have hp : plE [] wakeC = (2093056, 0) := by
    unfold plE
    rw [if_pos wake_may]
    show plR [] 0 (szV 1) 0 = _
    rw [wake_sz.2, wake_pl]
  have hf := (wt_zero.1 wake_e).formed
  unfold mapR
  rw [if_pos wake_e, putC_nil hf, if_pos (by simp)]
  refine ⟨wtA [] wakeC, ?_⟩
  rw [show (wtA [] wakeC).s = 2093056 from by unfold wtA; rw [hp]]
/-- What a map comes to is right. -/
theorem mapR_right {X : List Ar} (hX : MayL X) {c : Cl} : RightL (mapR X c).1 := by
  unfold mapR
  by_cases he : wtE X c = 0
  · rw [if_pos he]
    by_cases hm : (putC X (wtA X c)).length ≤ 24
    · rw [if_pos hm]; exact putC_right hX.1 (wt_zero.1 he).formed
    · rw [if_neg hm]; exact hX.1
  · rw [if_neg he]; exact hX.1
end Go.Proofs.YtbfphoajllmcpaaGreat

/-
  Layer 10: what follows, without a program: what a map comes to.
-/
namespace Go.Proofs.YtbfphoajllmcpaaGreat
set_option linter.unusedVariables false

/-! What a map comes to. -/
theorem mapR_is (X : List Ar) (c : Cl) : ((mapR X c).2.1 ≠ 0 ∧ (mapR X c).1 = X ∧ (mapR X c).2.2 = 0) ∨ (Asks X c ∧ (putC X (wtA X c)).length ≤ 24 ∧ mapR X c = (putC X (wtA X c), 0, (wtA X c).s)) := by
  unfold mapR
  by_cases he : wtE X c = 0
  · rw [if_pos he]
    by_cases hm : (putC X (wtA X c)).length ≤ 24
    · rw [if_pos hm]; exact .inr ⟨wt_zero.1 he, hm, rfl⟩
    · rw [if_neg hm]; exact .inl ⟨by simp, rfl, rfl⟩
  · rw [if_neg he]; exact .inl ⟨he, rfl, rfl⟩
theorem mapR_ok {X : List Ar} {c : Cl} (h : Asks X c) (hm : (putC X (wtA X c)).length ≤ 24) : mapR X c = (putC X (wtA X c), 0, (wtA X c).s) := by
  unfold mapR
  rw [if_pos (wt_zero.2 h), if_pos hm]
end Go.Proofs.YtbfphoajllmcpaaGreat
