/-
  Texts of our own, one behind the other (BkLaw): what the laws' proofs rest on; each says at its head what it holds. No conditions.
-/
import Derived.Test.YtmocdanfjoginaaPkBb
import Derived.Test.YtmocdanfjoginaaPkB
/-
  Layer 13: what a program that does nothing does not answer.
-/
namespace Go.Proofs.Ytmocdanfjoginaa
open Go.ChangeShapes Go.WideShapes Go.ChangeAt Go.RowKit Go.Shelf
set_option linter.unusedVariables false

theorem bkL_first : bkL 65536 = [] := by
  unfold bkL
  rw [if_pos (by decide)]
theorem wakeB : bkR [] 65536 65537 = ([bkA 65536 69632], 65537, 0, 65537) := by
  have h := bkL_step (n := 65536) ⟨by omega, by omega⟩ 65537
  rw [bkL_first, if_neg (by decide), if_pos ⟨by omega, by omega⟩] at h
  rw [h]
  unfold bkL
  rw [if_neg (by decide)]
  rfl
set_option maxHeartbeats 1000000 in
theorem bk_awake : Says 8 #[] (.bool true) := by
  intro w
  have X := Lib.hid (move_c (Holds.nil w) (by simp) 65536 ⟨0, 65537, 0, 0, 0, 0, 0, 0, 0⟩)
  rw [wakeB] at X
  unfold Cl.v Cl.cells at X
  simp only at X
  go_enter Try.func8, Try.ntmps8
  go_wp2_with fail
  refine X.out.mono ?_
  rintro e w1 ⟨v1, rfl, hm, hb⟩
  obtain ⟨A1, c1, rfl⟩ := hm.is
  have B := Lib.hid (hb.alloc hb.size (.cells (ansC 0 65537) 28))
  clear hb hm X
  unfold ansC at B
  unfold ansV ansC
  simp only [List.length_cons, List.length_nil]
  go_wp2_with fail
  go_ret
  exact ⟨rfl, B.out⟩
end Go.Proofs.Ytmocdanfjoginaa
