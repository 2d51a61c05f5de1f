/-
  Layer 4, pure: one reader, and tries around it.
-/
import Derived.Test.YtpgepcmncppphaaRcuTried
namespace Go.Proofs.Ytpgepcmncppphaa
open Go.RowKit
set_option linter.unusedVariables false

/-- The board whose epoch is e, and of which one reader's cell is x. -/
def bd (e : Int) (who : Nat) (x : Int) : List Int := (bl0.set 0 e).set (1 + who) x
theorem bd_zero (who : Nat) : bd 0 who 0 = bl0 := by
  apply List.ext_getElem?
  intro j
  unfold bd bl0
  rw [List.getElem?_set, List.getElem?_set]
  simp only [List.length_set, List.length_replicate, List.getElem?_replicate]
  repeat' split
  all_goals first | rfl | omega
theorem bd_nth (e : Int) (who : Nat) (x : Int) (hw : who < 16) (j : Nat) : nth (bd e who x) j = if j = 0 then e else if j = 1 + who then x else 0 := by
  unfold nth bd bl0
  rw [List.getD_eq_getElem?_getD, List.getElem?_set, List.getElem?_set]
  simp only [List.length_set, List.length_replicate, List.getElem?_replicate]
  repeat' split
  all_goals first | rfl | omega
theorem bd_epoch (e e' : Int) (who : Nat) (x : Int) : (bd e who x).set 0 e' = bd e' who x := by
  unfold bd
  rw [List.set_comm _ _ (by omega), List.set_set]
theorem bd_cell (e : Int) (who : Nat) (x x' : Int) : (bd e who x).set (1 + who) x' = bd e who x' := by
  unfold bd
  rw [List.set_set]

theorem try_goes (e : Int) (who : Nat) (x : Int) (hw : who < 16) (h : x = 0 ∨ x = wrap64 (e + 1)) : (tryR (bd e who x)).2 = bd (wrap64 (e + 1)) who x ∧ (tryR (bd e who x)).1.went = true := by
  have e0 := bd_nth e who x hw 0
  simp only [if_true] at e0
  have := adv_gone 0 (bd e who x) (fun j h1 h2 => by
    rw [e0, bd_nth e who x hw j, if_neg (by omega)]
    split
    · rcases h with rfl | rfl <;> simp [holds]
    · simp [holds])
  rw [tryR_eq] at this
  rw [this, e0, bd_epoch]
  exact ⟨rfl, rfl⟩
theorem try_held (e : Int) (who : Nat) (x : Int) (hw : who < 16) (h0 : x ≠ 0) (h1 : x ≠ wrap64 (e + 1)) : (tryR (bd e who x)).2 = bd e who x ∧ (tryR (bd e who x)).1.went = false := by
  have e0 := bd_nth e who x hw 0
  simp only [if_true] at e0
  have := adv_held 0 (bd e who x) (1 + who) (by omega) (by omega) (by
    rw [e0, bd_nth e who x hw (1 + who), if_neg (by omega), if_pos rfl]
    simp [holds, h0, h1]) 18
  rw [tryR_eq] at this
  exact ⟨this.1, this.2.1⟩
theorem wrap_small (e : Int) (h0 : 0 ≤ e) (h1 : e ≤ 1000) : wrap64 (e + 1) = e + 1 := by unfold wrap64; omega

/-- Nobody reads: all go. -/
theorem tries_go (e : Nat) (who : Nat) (n : Nat) (hw : who < 16) (he : e + n ≤ 1000) : triesR n (bd e who 0) = (bd ((e + n : Nat) : Int) who 0, n) := by
  induction n with
  | zero => rfl
  | succ n ih =>
    rw [triesR_succ, ih (by omega)]
    simp only
    have := try_goes ((e + n : Nat) : Int) who 0 hw (.inl rfl)
    rw [wrap_small _ (by omega) (by omega)] at this
    rw [this.1, this.2]
    simp only [if_true]
    rw [show ((e + n : Nat) : Int) + 1 = ((e + (n + 1) : Nat) : Int) from by push_cast; omega]
/-- One reads: one goes. -/
theorem tries_one (e : Nat) (who : Nat) (n : Nat) (hw : who < 16) (he : e ≤ 900) : triesR n (bd e who ((e : Int) + 1)) = (bd ((e + min n 1 : Nat) : Int) who ((e : Int) + 1), min n 1) := by
  induction n with
  | zero => rfl
  | succ n ih =>
    rw [triesR_succ, ih]
    simp only
    by_cases h0 : n = 0
    · subst h0
      have := try_goes ((e + min 0 1 : Nat) : Int) who ((e : Int) + 1) hw (.inr (by rw [wrap_small _ (by omega) (by omega)]; simp))
      rw [wrap_small _ (by omega) (by omega)] at this
      rw [this.1, this.2]
      simp
    · have hm : min n 1 = 1 := by omega
      have hm2 : min (n + 1) 1 = 1 := by omega
      rw [hm, hm2]
      have := try_held ((e + 1 : Nat) : Int) who ((e : Int) + 1) hw (by omega) (by rw [wrap_small _ (by omega) (by omega)]; push_cast; omega)
      rw [this.1, this.2]
      simp
/-- A reader enters. -/
theorem enters_two (e : Nat) (who : Nat) (hw : who < 16) (he : e ≤ 900) : (rsteps 0 who 2 (rt0, bd e who 0)).2 = bd e who ((e : Int) + 1) := by
  show (rstep 0 who ⟨1, nth (bd e who 0) 0, false, false⟩ (bd e who 0)).2 = _
  have e0 := bd_nth e who 0 hw 0
  simp only [if_true] at e0
  rw [e0]
  show (bd e who 0).set (1 + who) (wrap64 ((e : Int) + 1)) = _
  rw [bd_cell, wrap_small _ (by omega) (by omega)]
/-- It leaves. -/
theorem leaves_one (e : Nat) (who : Nat) (x : Int) : (rsteps 1 who 1 (rt0, bd e who x)).2 = bd e who 0 := by
  show (bd e who x).set (1 + who) 0 = _
  rw [bd_cell]
end Go.Proofs.Ytpgepcmncppphaa
