/-
  Texts of our own, one behind the other (BdAwake): what the laws' proofs rest on; each says at its head what it holds. No conditions.
-/
import Derived.Test.YtejkhnphplpkeaaPkZi
/-
  Layer 18: what a program that does nothing does not answer.
-/
namespace Go.Proofs.Ytejkhnphplpkeaa
open Go.ChangeShapes Go.WideShapes Go.ChangeAt Go.RowKit
set_option linter.unusedVariables false

set_option maxHeartbeats 4000000 in
theorem awake18_c (w : World) : Calls Try.prog 8 #[] w fun e w' => e = .returned (.bool true) ∧ Below w.heap.size w w' := by
  obtain ⟨R, hR⟩ : ∃ R : Ending → World → Prop, (fun e w' => e = .returned (.bool true) ∧ Below w.heap.size w w') = R := ⟨_, rfl⟩
  rw [hR]
  have FIN : Hid (∀ W, Below w.heap.size w W → R (.returned (.bool true)) W) := Lib.hid (fun W hb => by rw [← hR]; exact ⟨rfl, hb⟩)
  clear hR
  have C := Lib.hid (fun w => count18_c (w := w) 49)
  have hc : cntI 49 = 8 := by decide
  rw [hc] at C
  have D := Lib.hid (fun w => cut18_c (w := w) 9)
  have hp : pcs 9 = 2 := by decide
  clear hc
  go_enter Try.func8, Try.ntmps8
  go_wp2_with fail
  refine (C.out w).mono ?_
  rintro e w1 ⟨rfl, hb1⟩
  have B1 := Lib.hid hb1
  clear hb1
  go_wp2_with fail
  refine (D.out w1).mono ?_
  intro e w2 hc
  unfold CutPost at hc
  rw [if_pos (by omega), show Int.toNat 9 = 9 from rfl, hp] at hc
  obtain ⟨q, rfl, _, _, hb2⟩ := hc
  have FX := Lib.hid (FIN.out _ (below_then B1.out hb2 (Nat.le_refl _)))
  clear hb2 C D FIN B1 hp
  go_wp2_with fail
  exact FX.out
end Go.Proofs.Ytejkhnphplpkeaa
