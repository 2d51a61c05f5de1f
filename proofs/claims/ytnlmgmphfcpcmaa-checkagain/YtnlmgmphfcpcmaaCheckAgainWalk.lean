/-
  Layer 9: the walk of the statement on sizes of sizes, and ranges of ranges.
-/
import Derived.Test.YtnlmgmphfcpcmaaCheck
namespace Go.Proofs.Ytnlmgmphfcpcmaa
open Go.ChangeShapes Go.WideShapes Go.ChangeAt Go.RowKit
set_option linter.unusedVariables false

theorem sz_again {n : Int} (h : szE n = 0) : szE (szV n) = 0 ∧ szV (szV n) = szV n := by
  have hz := sz_pages h
  generalize szV n = s at *
  rcases sz_is s with ⟨h1, _, _⟩ | ⟨h1, _, _⟩ | ⟨_, h1, h2⟩
  · omega
  · omega
  · rw [h1, h2]; omega
theorem rg_again {a n : Int} (h : rgE a n = 0) : rgE a (szV n) = 0 ∧ rgA a (szV n) = a ∧ rgB a (szV n) = a + szV n := by
  obtain ⟨h1, h2, h3, h4, h5, h6⟩ := rg_ok h
  obtain ⟨k1, k2⟩ := sz_again h2
  rcases rg_is a (szV n) with ⟨j, _⟩ | ⟨⟨_, j⟩, _⟩ | ⟨⟨_, _, j⟩, _⟩ | ⟨_, j1, j2, j3⟩
  · exact absurd h1 j
  · exact absurd k1 j
  · rw [k2] at j; omega
  · rw [k2] at j3; exact ⟨j1, j2, j3⟩
theorem rg_sz {a n : Int} (h : szE n ≠ 0) : rgE a n ≠ 0 := fun k => h (rg_ok k).2.1

set_option maxHeartbeats 2000000 in
theorem checkAgain_walk (a n : Int) (w : World) (hn : -9223372036854775808 ≤ n ∧ n ≤ 9223372036854775807) : Calls Try.prog 3 #[.int .i64 a, .int .i64 n] w fun e w' => e = .returned (.bool true) ∧ Below w.heap.size w w' := by
  have W := Lib.hid check_awake
  have X := Lib.hid (size_any n)
  have Y := Lib.hid (size_any (szV n))
  have Z := Lib.hid (range_any a n)
  by_cases h : rgE a n = 0
  · obtain ⟨k1, k2, k3, k4, k5, k6⟩ := rg_ok h
    have hz := sz_pages k2
    obtain ⟨z1, z2⟩ := sz_again k2
    obtain ⟨r1, r2, r3⟩ := rg_again h
    have V := Lib.hid (range_any a (szV n))
    rw [k2] at X
    rw [z1, z2] at Y
    rw [h, k5, k6] at Z
    rw [r1, r2, r3] at V
    generalize szV n = s at *
    obtain ⟨_, _, _, s0, s1⟩ := hz
    have hs : s = a + s - a := by omega
    rw [hs] at V
    clear h k1 k2 k5 k6 z1 z2 r1 r2 r3 hs
    have hs : a + (a + s - a) = a + s := by omega
    rw [hs] at V
    clear hs
    go_enter Try.func3, Try.ntmps3
    go_wp2_with fail
    refine (X.out _).mono ?_
    rintro _ w1 ⟨rfl, hb⟩
    have B1 := Lib.hid (hb)
    clear hb
    go_wp2_with fail
    refine (Y.out _).mono ?_
    rintro _ w2 ⟨rfl, hb⟩
    have B2 := Lib.hid (below_then B1.out hb (Nat.le_refl _))
    clear hb
    go_wp2_with fail
    refine (Z.out _).mono ?_
    rintro _ w3 ⟨rfl, hb⟩
    have B3 := Lib.hid (below_then B2.out hb (Nat.le_refl _))
    clear hb
    go_wp2_with fail
    refine (V.out _).mono ?_
    rintro _ w4 ⟨rfl, hb⟩
    have B4 := Lib.hid (below_then B3.out hb (Nat.le_refl _))
    clear hb
    go_wp2_with fail
    refine (W.out _).mono ?_
    rintro _ w5 ⟨rfl, hb⟩
    have B5 := Lib.hid (below_then B4.out hb (Nat.le_refl _))
    clear hb
    go_wp2_with fail
    go_ret
    exact ⟨by simp, B5.out⟩
  · have h' : (rgE a n != 0) = true := by simpa using h
    obtain ⟨k5, k6⟩ := rg_err h
    have V := Lib.hid (range_any 0 0)
    rw [show rgE 0 0 = 3 from by decide, show rgA 0 0 = 0 from by decide, show rgB 0 0 = 0 from by decide] at V
    rw [k5, k6] at Z
    generalize rgE a n = g at *
    clear h k5 k6
    by_cases k : szE n = 0
    · obtain ⟨z1, z2⟩ := sz_again k
      rw [k] at X
      rw [z1, z2] at Y
      generalize szV n = s at *
      clear k z1 z2
      go_enter Try.func3, Try.ntmps3
      go_wp2_with fail
      refine (X.out _).mono ?_
      rintro _ w1 ⟨rfl, hb⟩
      have B1 := Lib.hid (hb)
      clear hb
      go_wp2_with fail
      refine (Y.out _).mono ?_
      rintro _ w2 ⟨rfl, hb⟩
      have B2 := Lib.hid (below_then B1.out hb (Nat.le_refl _))
      clear hb
      go_wp2_with fail
      refine (Z.out _).mono ?_
      rintro _ w3 ⟨rfl, hb⟩
      have B3 := Lib.hid (below_then B2.out hb (Nat.le_refl _))
      clear hb
      go_wp2_with fail
      refine (V.out _).mono ?_
      rintro _ w4 ⟨rfl, hb⟩
      have B4 := Lib.hid (below_then B3.out hb (Nat.le_refl _))
      clear hb
      go_wp2_with fail
      refine (W.out _).mono ?_
      rintro _ w5 ⟨rfl, hb⟩
      have B5 := Lib.hid (below_then B4.out hb (Nat.le_refl _))
      clear hb
      go_wp2_with fail
      go_ret
      exact ⟨by simp, B5.out⟩
    · have k' : (szE n != 0) = true := by simpa using k
      rw [sz_err k] at X Y
      rw [show szE 0 = 3 from by decide, show szV 0 = 0 from by decide] at Y
      generalize szE n = e at *
      clear k
      go_enter Try.func3, Try.ntmps3
      go_wp2_with fail
      refine (X.out _).mono ?_
      rintro _ w1 ⟨rfl, hb⟩
      have B1 := Lib.hid (hb)
      clear hb
      go_wp2_with fail
      refine (Y.out _).mono ?_
      rintro _ w2 ⟨rfl, hb⟩
      have B2 := Lib.hid (below_then B1.out hb (Nat.le_refl _))
      clear hb
      go_wp2_with fail
      refine (Z.out _).mono ?_
      rintro _ w3 ⟨rfl, hb⟩
      have B3 := Lib.hid (below_then B2.out hb (Nat.le_refl _))
      clear hb
      go_wp2_with fail
      refine (V.out _).mono ?_
      rintro _ w4 ⟨rfl, hb⟩
      have B4 := Lib.hid (below_then B3.out hb (Nat.le_refl _))
      clear hb
      go_wp2_with fail
      refine (W.out _).mono ?_
      rintro _ w5 ⟨rfl, hb⟩
      have B5 := Lib.hid (below_then B4.out hb (Nat.le_refl _))
      clear hb
      go_wp2_with fail
      go_ret
      exact ⟨by simp, B5.out⟩
end Go.Proofs.Ytnlmgmphfcpcmaa
