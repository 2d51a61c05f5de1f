/-
  Layer 9: the walk of the statement on what a range covers.
-/
import Derived.Test.YtnlmgmphfcpcmaaCheck
namespace Go.Proofs.Ytnlmgmphfcpcmaa
open Go.ChangeShapes Go.WideShapes Go.ChangeAt Go.RowKit
set_option linter.unusedVariables false

set_option maxHeartbeats 2000000 in
theorem checkCovers_walk (a n : Int) (w : World) : Calls Try.prog 8 #[.int .i64 a, .int .i64 n] w fun e w' => e = .returned (.bool true) ∧ Below w.heap.size w w' := by
  have W := Lib.hid check_awake
  have Z := Lib.hid (range_any a n)
  by_cases h : rgE a n = 0
  · obtain ⟨k1, k2, k3, k4, k5, k6⟩ := rg_ok h
    have hz := sz_pages k2
    obtain ⟨⟨hn0, hn1⟩, _⟩ := sz_ok k2
    rw [h, k5, k6] at Z
    generalize szV n = s at *
    obtain ⟨s0, s1, s2, s3, s4⟩ := hz
    have t1 : a.tmod 4096 = 0 := (tmod_whole _).2 k1
    have t2 : (a + s).tmod 4096 = 0 := (tmod_whole _).2 (by omega)
    have e1 : a % 4096 = 0 := k1
    have e2 : (a + s) % 4096 = 0 := by omega
    have d1 : n ≤ a + s - a := by omega
    have d2 : a + s - a - n < 4096 := by omega
    clear h k2 k5 k6
    go_enter Try.func8, Try.ntmps8
    go_wp2_with fail
    refine (Z.out _).mono ?_
    rintro _ w1 ⟨rfl, hb⟩
    have B1 := Lib.hid (hb)
    clear hb
    go_wp2_with fail
    refine (W.out _).mono ?_
    rintro _ w2 ⟨rfl, hb⟩
    have B2 := Lib.hid (below_then B1.out hb (Nat.le_refl _))
    clear hb
    go_wp2_with fail
    go_ret
    exact ⟨by simp <;> omega, B2.out⟩
  · have h' : (rgE a n != 0) = true := by simpa using h
    obtain ⟨k5, k6⟩ := rg_err h
    rw [k5, k6] at Z
    generalize rgE a n = g at *
    clear h k5 k6
    go_enter Try.func8, Try.ntmps8
    go_wp2_with fail
    refine (Z.out _).mono ?_
    rintro _ w1 ⟨rfl, hb⟩
    have B1 := Lib.hid (hb)
    clear hb
    go_wp2_with fail
    refine (W.out _).mono ?_
    rintro _ w2 ⟨rfl, hb⟩
    have B2 := Lib.hid (below_then B1.out hb (Nat.le_refl _))
    clear hb
    go_wp2_with fail
    refine (W.out _).mono ?_
    rintro _ w3 ⟨rfl, hb⟩
    have B3 := Lib.hid (below_then B2.out hb (Nat.le_refl _))
    clear hb
    go_wp2_with fail
    go_ret
    exact ⟨rfl, B3.out⟩
end Go.Proofs.Ytnlmgmphfcpcmaa
