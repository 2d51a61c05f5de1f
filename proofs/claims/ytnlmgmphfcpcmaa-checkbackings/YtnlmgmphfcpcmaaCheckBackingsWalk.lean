/-
  Layer 9: the walk of the statement on backings.
-/
import Derived.Test.YtnlmgmphfcpcmaaCheckMore
namespace Go.Proofs.Ytnlmgmphfcpcmaa
open Go.ChangeShapes Go.WideShapes Go.ChangeAt Go.RowKit
set_option linter.unusedVariables false

set_option maxHeartbeats 2000000 in
theorem checkBackings_walk (b o n : Int) (w : World) (ho : -9223372036854775808 ≤ o ∧ o ≤ 9223372036854775807) : Calls Try.prog 6 #[.int .i64 b, .int .i64 o, .int .i64 n] w fun e w' => e = .returned (.bool true) ∧ Below w.heap.size w w' := by
  have W := Lib.hid check_awake
  have X := Lib.hid (size_any n)
  by_cases h : szE n = 0
  · have hz := sz_pages h
    rw [h] at X
    have Y := Lib.hid (backing_any b o (szV n) (by omega) (by omega) ho)
    have Z := Lib.hid (refBacking_any b o (szV n) (by omega) (by omega) ho)
    generalize szV n = s at *
    generalize bkE b o s = e at *
    clear hz h ho
    go_enter Try.func6, Try.ntmps6
    go_wp2_with fail
    refine (X.out _).mono ?_
    rintro _ w1 ⟨rfl, hb⟩
    have B1 := Lib.hid hb
    clear hb
    go_wp2_with fail
    refine (W.out _).mono ?_
    rintro _ w2 ⟨rfl, hb⟩
    have B2 := Lib.hid (below_then B1.out hb (Nat.le_refl _))
    clear hb
    go_wp2_with fail
    refine (Y.out _).mono ?_
    rintro _ w3 ⟨rfl, hb⟩
    have B3 := Lib.hid (below_then B2.out hb (Nat.le_refl _))
    clear hb
    go_wp2_with fail
    refine (Z.out _).mono ?_
    rintro _ w4 ⟨rfl, hb⟩
    have B4 := Lib.hid (below_then B3.out hb (Nat.le_refl _))
    clear hb
    go_wp2_with fail
    go_ret
    exact ⟨by simp, B4.out⟩
  · have h' : (szE n != 0) = true := by simpa using h
    generalize szV n = s at *
    generalize szE n = e at *
    clear ho
    go_enter Try.func6, Try.ntmps6
    go_wp2_with fail
    refine (X.out _).mono ?_
    rintro _ w1 ⟨rfl, hb⟩
    have B1 := Lib.hid hb
    clear hb
    go_wp2_with fail
    refine (W.out _).mono ?_
    rintro _ w2 ⟨rfl, hb⟩
    have B2 := Lib.hid (below_then B1.out hb (Nat.le_refl _))
    clear hb
    go_wp2_with fail
    refine (W.out _).mono ?_
    rintro _ w3 ⟨rfl, hb⟩
    have B3 := Lib.hid (below_then B2.out hb (Nat.le_refl _))
    clear hb
    go_wp2_with fail
    go_ret
    exact ⟨rfl, B3.out⟩
end Go.Proofs.Ytnlmgmphfcpcmaa
