/-
  Layer 4: the walk of the statement on what may be freed.
-/
import Derived.Test.YtpgepcmncppphaaRcuLaw
namespace Go.Proofs.Ytpgepcmncppphaa
open Go.ChangeShapes Go.WideShapes Go.ChangeAt Go.RowKit
set_option linter.unusedVariables false

theorem free_is (tag ep : Int) (h : tag ≤ 9223372036854775807) (g : ep ≤ 9223372036854775807) : free tag ep = decide (tag + 2 ≤ ep) := by
  unfold free
  by_cases c : tag ≤ 9223372036854775805
  · simp [c]
  · have : ¬ tag + 2 ≤ ep := by omega
    simp [c, this]
set_option maxHeartbeats 4000000 in
theorem rcuFrees_walk (tag ep : Int) (w : World) (h0 : -9223372036854775808 ≤ tag) (h1 : tag ≤ 9223372036854775807) (g0 : -9223372036854775808 ≤ ep) (g1 : ep ≤ 9223372036854775807) :
    Calls Try.prog 5 #[.int .i64 tag, .int .i64 ep] w fun e w' => e = .returned (.bool true) ∧ Below w.heap.size w w' := by
  have AW := Lib.hid (rcu_awake w)
  have FR : Hid (∀ w', Calls Try.prog 15 #[.int .i64 tag, .int .i64 ep] w' fun e' w'' => e' = .returned (.bool (decide (tag + 2 ≤ ep))) ∧ w' = w'') := Lib.hid (fun w' => by rw [← free_is tag ep h1 g1]; exact frees tag ep w' h0 h1)
  have hc8 : (tag + 2 ≤ ep ∧ 0 ≤ tag ∧ 0 ≤ ep) ∨ (tag + 2 ≤ ep ∧ tag < 0 ∧ ep < 0) ∨ (tag + 2 ≤ ep ∧ tag = -1 ∧ 1 ≤ ep) ∨ (tag + 2 ≤ ep ∧ tag < -1 ∧ 0 ≤ ep) ∨
      (¬ tag + 2 ≤ ep ∧ ep ≤ tag) ∨ (¬ tag + 2 ≤ ep ∧ tag < ep ∧ 0 ≤ tag) ∨ (¬ tag + 2 ≤ ep ∧ tag < ep ∧ tag < 0 ∧ ep < 0) ∨ (¬ tag + 2 ≤ ep ∧ tag = -1 ∧ ep = 0) := by omega
  rcases hc8 with ⟨hc, k1, k2⟩ | ⟨hc, k1, k2⟩ | ⟨hc, rfl, k2⟩ | ⟨hc, k1, k2⟩ | ⟨hc, k1⟩ | ⟨hc, k1, k2⟩ | ⟨hc, k1, k2, k3⟩ | ⟨hc, rfl, rfl⟩
  all_goals
    first | rw [show decide _ = true from decide_eq_true hc] at FR | rw [show decide _ = false from decide_eq_false hc] at FR
    first
      | have hq : (decide (0 ≤ tag) == decide (0 ≤ ep)) = true := by first | (rw [decide_eq_false (by omega), decide_eq_false (by omega)]; rfl) | (rw [decide_eq_true (by omega), decide_eq_true (by omega)]; rfl)
      | have hq : (decide (0 ≤ tag) == decide (0 ≤ ep)) = false := by rw [decide_eq_false (by omega), decide_eq_true (by omega)]; rfl
      | have hq : (!decide (0 ≤ ep)) = false := by rw [decide_eq_true (by omega)]; rfl
      | skip
    go_enter Try.func5, Try.ntmps5
    go_wp2_with fail
    refine AW.out.mono ?_
    rintro e w1 ⟨rfl, hb⟩
    have HB := Lib.hid hb
    clear hb
    go_wp2_with fail
    refine (FR.out w1).mono ?_
    rintro e w2 ⟨rfl, rfl⟩
    go_wp2_with fail
    go_ret
    exact ⟨rfl, HB.out⟩
end Go.Proofs.Ytpgepcmncppphaa
