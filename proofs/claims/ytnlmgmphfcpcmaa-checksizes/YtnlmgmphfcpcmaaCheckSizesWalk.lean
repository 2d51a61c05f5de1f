/-
  Layer 9: the walk of the statement on sizes.
-/
import Derived.Test.YtnlmgmphfcpcmaaCheckMore
namespace Go.Proofs.Ytnlmgmphfcpcmaa
open Go.ChangeShapes Go.WideShapes Go.ChangeAt Go.RowKit
set_option linter.unusedVariables false

set_option maxHeartbeats 2000000 in
theorem checkSizes_walk (n : Int) (w : World) : Calls Try.prog 4 #[.int .i64 n] w fun e w' => e = .returned (.bool true) ∧ Below w.heap.size w w' := by
  have W := Lib.hid check_awake
  have X := Lib.hid (size_any n)
  have Y := Lib.hid (refSize_any n)
  generalize szV n = s at *
  generalize szE n = e at *
  go_enter Try.func4, Try.ntmps4
  go_wp2_with fail
  refine (X.out _).mono ?_
  rintro _ w1 ⟨rfl, hb⟩
  have B1 := Lib.hid hb
  clear hb
  go_wp2_with fail
  refine (Y.out _).mono ?_
  rintro _ w2 ⟨rfl, hb⟩
  have B2 := Lib.hid (below_then B1.out hb (Nat.le_refl _))
  clear hb
  go_wp2_with fail
  refine (W.out _).mono ?_
  rintro _ w3 ⟨rfl, hb⟩
  have B3 := Lib.hid (below_then B2.out hb (Nat.le_refl _))
  clear hb
  go_wp2_with fail
  go_ret
  exact ⟨by simp, B3.out⟩
end Go.Proofs.Ytnlmgmphfcpcmaa
