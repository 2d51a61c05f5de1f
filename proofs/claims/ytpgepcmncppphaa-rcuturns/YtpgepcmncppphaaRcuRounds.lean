/-
  Layer 4, pure: an Advance alone, from its beginning to its end.
-/
import Derived.Test.YtpgepcmncppphaaRcuSolo
namespace Go.Proofs.Ytpgepcmncppphaa
open Go.RowKit
set_option linter.unusedVariables false

theorem rstep_over (kd : Int) (r : Nat) (x : Rt) (bl : List Int) (h : x.over = true) : rstep kd r x bl = (x, bl) := by simp [rstep, h]
/-- Nobody holds it back: where it is behind k steps. -/
theorem adv_goes (r : Nat) (bl : List Int) (hg : ∀ j, 1 ≤ j → j ≤ 16 → holds (nth bl j) (nth bl 0) = false) (k : Nat) (hk : k + 1 ≤ 17) : rsteps 2 r (k + 1) (rt0, bl) = (⟨k + 1, nth bl 0, false, false⟩, bl) := by
  induction k with
  | zero => rfl
  | succ k ih =>
    show rstep 2 r (rsteps 2 r (k + 1) (rt0, bl)).1 (rsteps 2 r (k + 1) (rt0, bl)).2 = _
    rw [ih (by omega)]
    unfold rstep
    simp only
    rw [if_neg (by simp), if_neg (by decide), if_neg (by decide), if_neg (by omega), if_pos (by omega), hg (k + 1) (by omega) (by omega)]
theorem adv_gone (r : Nat) (bl : List Int) (hg : ∀ j, 1 ≤ j → j ≤ 16 → holds (nth bl j) (nth bl 0) = false) : rsteps 2 r 18 (rt0, bl) = (⟨18, nth bl 0, true, true⟩, bl.set 0 (wrap64 (nth bl 0 + 1))) := by
  show rstep 2 r (rsteps 2 r 17 (rt0, bl)).1 (rsteps 2 r 17 (rt0, bl)).2 = _
  rw [adv_goes r bl hg 16 (by omega)]
  rfl
theorem adv_still (r : Nat) (bl : List Int) (hg : ∀ j, 1 ≤ j → j ≤ 16 → holds (nth bl j) (nth bl 0) = false) (n : Nat) : rsteps 2 r (18 + n) (rt0, bl) = (⟨18, nth bl 0, true, true⟩, bl.set 0 (wrap64 (nth bl 0 + 1))) := by
  induction n with
  | zero => exact adv_gone r bl hg
  | succ n ih =>
    show rstep 2 r (rsteps 2 r (18 + n) (rt0, bl)).1 (rsteps 2 r (18 + n) (rt0, bl)).2 = _
    rw [ih]
    exact rstep_over _ _ _ _ rfl
/-- One reader holds it back. -/
theorem adv_held (r : Nat) (bl : List Int) (j : Nat) (h1 : 1 ≤ j) (h2 : j ≤ 16) (hj : holds (nth bl j) (nth bl 0) = true) (k : Nat) :
    (rsteps 2 r k (rt0, bl)).2 = bl ∧ (rsteps 2 r k (rt0, bl)).1.went = false ∧ ((rsteps 2 r k (rt0, bl)).1.over = true ∨ ((rsteps 2 r k (rt0, bl)).1.at_ ≤ j ∧ ((rsteps 2 r k (rt0, bl)).1.at_ ≠ 0 → (rsteps 2 r k (rt0, bl)).1.saw = nth bl 0))) := by
  induction k with
  | zero => exact ⟨rfl, rfl, .inr ⟨Nat.zero_le _, fun h => absurd rfl h⟩⟩
  | succ k ih =>
    obtain ⟨e1, e2, e3⟩ := ih
    have hs : rsteps 2 r (k + 1) (rt0, bl) = rstep 2 r (rsteps 2 r k (rt0, bl)).1 (rsteps 2 r k (rt0, bl)).2 := rfl
    rw [hs, e1]
    generalize (rsteps 2 r k (rt0, bl)).1 = x at *
    cases ho : x.over with
    | true =>
      rw [rstep_over _ _ _ _ ho]
      exact ⟨rfl, e2, .inl ho⟩
    | false =>
      rcases e3 with e3 | ⟨e3, e4⟩
      · rw [ho] at e3; cases e3
      · unfold rstep
        rw [if_neg (by simp [ho]), if_neg (by decide), if_neg (by decide)]
        by_cases h0 : x.at_ = 0
        · rw [if_pos h0]
          exact ⟨rfl, e2, .inr ⟨h1, fun _ => rfl⟩⟩
        · rw [if_neg h0, if_pos (by omega)]
          refine ⟨rfl, e2, ?_⟩
          by_cases hat : x.at_ = j
          · left
            show holds (nth bl x.at_) x.saw = true
            rw [e4 h0, hat]; exact hj
          · exact .inr ⟨by show x.at_ + 1 ≤ j; omega, fun _ => e4 h0⟩

/-- A new board. -/
def bl0 : List Int := List.replicate 17 0
theorem bl0_seen : seen (List.replicate 30 0) 3 17 = bl0 := by decide
theorem nth_bl0 (j : Nat) : nth bl0 j = 0 := by
  unfold nth bl0
  rw [List.getD_eq_getElem?_getD, List.getElem?_replicate]
  split <;> rfl
theorem bl0_good (j : Nat) (h1 : 1 ≤ j) (h2 : j ≤ 16) : holds (nth bl0 j) (nth bl0 0) = false := by simp [nth_bl0, holds]
theorem awake_went : rsteps 2 0 20 (rt0, bl0) = (⟨18, 0, true, true⟩, bl0.set 0 1) := by
  have := adv_still 0 bl0 bl0_good 2
  rw [nth_bl0, show wrap64 (0 + 1) = 1 from by unfold wrap64; omega] at this
  exact this
end Go.Proofs.Ytpgepcmncppphaa
