/-
  Layer 9: the walk of the statement on flags.
-/
import Derived.Test.YtnlmgmphfcpcmaaCheckFlag
namespace Go.Proofs.Ytnlmgmphfcpcmaa
open Go.ChangeShapes Go.WideShapes Go.ChangeAt Go.RowKit
set_option linter.unusedVariables false

/-- What is wanted behind k bits. -/
def flW (f a k : Nat) : Int := if overK f a k then 1 else 0
/-- How far the bits have come: want, and what is left of both. -/
def FlRel (f a : Nat) (w0 : World) (want n m : Value) (wr : World) : Prop :=
  wr = w0 ∧ ∃ k : Nat, want = .int .i64 (flW f a k) ∧ n = .int .i64 ((f / 2 ^ k : Nat) : Int) ∧ m = .int .i64 ((a / 2 ^ k : Nat) : Int)

/-- The same, of flags below 0: no bit is asked. -/
def NegRel (f : Int) (a : Nat) (w0 : World) (want n m : Value) (wr : World) : Prop := wr = w0 ∧ want = .int .i64 1 ∧ n = .int .i64 f ∧ m = .int .i64 (a : Int)
theorem half (f k N : Nat) (h : f / 2 ^ k = N) : f / 2 ^ (k + 1) = N / 2 := by rw [Nat.pow_succ, ← Nat.div_div_eq_div_mul, h]
theorem flW_next (f a k N M : Nat) (h : f / 2 ^ k = N) (h' : a / 2 ^ k = M) : flW f a (k + 1) = if N % 2 = 1 ∧ M % 2 = 0 then 1 else flW f a k := by
  unfold flW
  show (if (overK f a k || (f / 2 ^ k % 2 == 1 && a / 2 ^ k % 2 == 0)) = true then (1 : Int) else 0) = _
  rw [h, h']
  by_cases c : N % 2 = 1 ∧ M % 2 = 0
  · rw [if_pos c, c.1, c.2]
    simp
  · rw [if_neg c]
    have : (N % 2 == 1 && M % 2 == 0) = false := by
      rw [Bool.and_eq_false_iff, beq_eq_false_iff_ne, beq_eq_false_iff_ne]
      omega
    rw [this, Bool.or_false]

set_option maxHeartbeats 2000000 in
theorem flags_good (f a : Nat) (p : Int) (w : World) (hf : f < 2 ^ 63) (ha : a < 256) : Calls Try.prog 7 #[.int .i64 f, .int .u8 a, .int .i64 p] w fun e w' => e = .returned (.bool true) ∧ Below w.heap.size w w' := by
  have W := Lib.hid check_awake
  have X := Lib.hid (flags_any f a)
  have Y := Lib.hid (prot_any p)
  have E : Hid (∀ k, f / 2 ^ k = 0 → flE (f : Int) (a : Int) = flW f a k) := Lib.hid (fun k hk => flE_over f a k hf (by omega) hk)
  have hf0 : (0 : Int) ≤ f := by omega
  have hf1 : (f : Int) ≤ 9223372036854775807 := by omega
  have hp0 : -9223372036854775808 ≤ (a : Int) := by omega
  have hp1 : (a : Int) ≤ 255 := by omega
  go_enter Try.func7, Try.ntmps7
  go_wp2_with fail
  go_loopw [7, 8, 9] (fun want n m wr => FlRel f a w want n m wr) (fun _ n _ _ => (intOf n).toNat)
  case atStart => exact ⟨rfl, 0, rfl, by simp, by simp⟩
  case round =>
    obtain ⟨rfl, k, rfl, rfl, rfl⟩ := hrel
    have hN : f / 2 ^ k ≤ f := Nat.div_le_self _ _
    have hM : a / 2 ^ k ≤ a := Nat.div_le_self _ _
    have T1 := Lib.hid (half f k _ rfl)
    have T2 := Lib.hid (half a k _ rfl)
    have T3 := Lib.hid (flW_next f a k _ _ rfl rfl)
    have E1 := Lib.hid (E.out k)
    generalize hv : flW f a k = v at *
    generalize f / 2 ^ k = N at *
    generalize a / 2 ^ k = M at *
    have n0 : (0 : Int) ≤ (N : Int) := by omega
    have n1 : (N : Int) ≤ 9223372036854775807 := by omega
    have m0 : (0 : Int) ≤ (M : Int) := by omega
    have m1 : (M : Int) ≤ 255 := by omega
    by_cases hz : N = 0
    · have hE := E1.out hz
      rw [hE] at X
      clear E E1 T1 T2 T3 hE hN hM hf ha
      subst hz
      have hpp : p < 0 ∨ (0 ≤ p ∧ p ≤ 7) ∨ (0 ≤ p ∧ 7 < p) := by omega
      rcases hpp with c | ⟨c, c'⟩ | ⟨c, c'⟩
      · rw [show prE p = 1 from if_neg (by omega)] at Y
        go_wp2_with fail
        refine (W.out _).mono ?_
        rintro _ w1 ⟨rfl, hb⟩
        have B1 := Lib.hid (hb)
        clear hb
        go_wp2_with fail
        refine (X.out _).mono ?_
        rintro _ w2 ⟨rfl, hb⟩
        have B2 := Lib.hid (below_then B1.out hb (Nat.le_refl _))
        clear hb
        go_wp2_with fail
        refine (Y.out _).mono ?_
        rintro _ w3 ⟨rfl, hb⟩
        have B3 := Lib.hid (below_then B2.out hb (Nat.le_refl _))
        clear hb
        go_wp2_with fail
        refine (Y.out _).mono ?_
        rintro _ w4 ⟨rfl, hb⟩
        have B4 := Lib.hid (below_then B3.out hb (Nat.le_refl _))
        clear hb
        go_wp2_with fail
        go_ret
        exact ⟨by simp, B4.out⟩
      · rw [show prE p = 0 from if_pos ⟨c, c'⟩] at Y
        go_wp2_with fail
        refine (W.out _).mono ?_
        rintro _ w1 ⟨rfl, hb⟩
        have B1 := Lib.hid (hb)
        clear hb
        go_wp2_with fail
        refine (X.out _).mono ?_
        rintro _ w2 ⟨rfl, hb⟩
        have B2 := Lib.hid (below_then B1.out hb (Nat.le_refl _))
        clear hb
        go_wp2_with fail
        refine (Y.out _).mono ?_
        rintro _ w3 ⟨rfl, hb⟩
        have B3 := Lib.hid (below_then B2.out hb (Nat.le_refl _))
        clear hb
        go_wp2_with fail
        go_ret
        exact ⟨by simp <;> omega, B3.out⟩
      · rw [show prE p = 1 from if_neg (by omega)] at Y
        go_wp2_with fail
        refine (W.out _).mono ?_
        rintro _ w1 ⟨rfl, hb⟩
        have B1 := Lib.hid (hb)
        clear hb
        go_wp2_with fail
        refine (X.out _).mono ?_
        rintro _ w2 ⟨rfl, hb⟩
        have B2 := Lib.hid (below_then B1.out hb (Nat.le_refl _))
        clear hb
        go_wp2_with fail
        refine (Y.out _).mono ?_
        rintro _ w3 ⟨rfl, hb⟩
        have B3 := Lib.hid (below_then B2.out hb (Nat.le_refl _))
        clear hb
        go_wp2_with fail
        refine (Y.out _).mono ?_
        rintro _ w4 ⟨rfl, hb⟩
        have B4 := Lib.hid (below_then B3.out hb (Nat.le_refl _))
        clear hb
        go_wp2_with fail
        go_ret
        exact ⟨by simp <;> omega, B4.out⟩
    · have hz' : (0 : Int) < (N : Int) := by omega
      have c1 : N % 2 = 0 ∨ N % 2 = 1 := by omega
      have c2 : M % 2 = 0 ∨ M % 2 = 1 := by omega
      have hlt : N / 2 < N := by omega
      have q1 : (N : Int) / 2 = ((N / 2 : Nat) : Int) := by omega
      have q2 : (M : Int) / 2 = ((M / 2 : Nat) : Int) := by omega
      generalize N / 2 = N' at *
      generalize M / 2 = M' at *
      rcases c1 with c1 | c1 <;> rcases c2 with c2 | c2
      all_goals
        have d1 : (N : Int).tmod 2 = ((N % 2 : Nat) : Int) := by rw [Int.tmod_eq_emod_of_nonneg (by omega)]; omega
        have d2 : (M : Int).tmod 2 = ((M % 2 : Nat) : Int) := by rw [Int.tmod_eq_emod_of_nonneg (by omega)]; omega
        have d3 : (N : Int) % 2 = ((N % 2 : Nat) : Int) := by omega
        have d4 : (M : Int) % 2 = ((M % 2 : Nat) : Int) := by omega
        rw [c1] at d1 d3 T3
        rw [c2] at d2 d4 T3
        have HL := Lib.hid hlt
        clear hN hM hlt c1 c2
        go_wp2_with fail
        refine ⟨⟨rfl, k + 1, congrArg (Value.int .i64) ?_, by rw [T1.out], by rw [T2.out]⟩, HL.out⟩
        rw [T3.out]
        simp

set_option maxHeartbeats 2000000 in
theorem flags_none (f : Int) (a : Nat) (p : Int) (w : World) (hf : f < 0) (ha : a < 256) : Calls Try.prog 7 #[.int .i64 f, .int .u8 a, .int .i64 p] w fun e w' => e = .returned (.bool true) ∧ Below w.heap.size w w' := by
  have W := Lib.hid check_awake
  have X := Lib.hid (flags_any f a)
  rw [show flE f a = 1 from if_pos (.inl hf)] at X
  have Y := Lib.hid (prot_any p)
  have hp0 : -9223372036854775808 ≤ (a : Int) := by omega
  have hp1 : (a : Int) ≤ 255 := by omega
  go_enter Try.func7, Try.ntmps7
  go_wp2_with fail
  go_loopw [7, 8, 9] (fun want n m wr => NegRel f a w want n m wr) (fun _ _ _ _ => 0)
  case atStart => exact ⟨rfl, rfl, rfl, rfl⟩
  case round =>
    obtain ⟨rfl, rfl, rfl, rfl⟩ := hrel
    have hpp : p < 0 ∨ (0 ≤ p ∧ p ≤ 7) ∨ (0 ≤ p ∧ 7 < p) := by omega
    have hn : f ≤ 0 := by omega
    rcases hpp with c | ⟨c, c'⟩ | ⟨c, c'⟩
    · rw [show prE p = 1 from if_neg (by omega)] at Y
      go_wp2_with fail
      refine (W.out _).mono ?_
      rintro _ w1 ⟨rfl, hb⟩
      have B1 := Lib.hid (hb)
      clear hb
      go_wp2_with fail
      refine (X.out _).mono ?_
      rintro _ w2 ⟨rfl, hb⟩
      have B2 := Lib.hid (below_then B1.out hb (Nat.le_refl _))
      clear hb
      go_wp2_with fail
      refine (Y.out _).mono ?_
      rintro _ w3 ⟨rfl, hb⟩
      have B3 := Lib.hid (below_then B2.out hb (Nat.le_refl _))
      clear hb
      go_wp2_with fail
      refine (Y.out _).mono ?_
      rintro _ w4 ⟨rfl, hb⟩
      have B4 := Lib.hid (below_then B3.out hb (Nat.le_refl _))
      clear hb
      go_wp2_with fail
      go_ret
      exact ⟨by simp, B4.out⟩
    · rw [show prE p = 0 from if_pos ⟨c, c'⟩] at Y
      go_wp2_with fail
      refine (W.out _).mono ?_
      rintro _ w1 ⟨rfl, hb⟩
      have B1 := Lib.hid (hb)
      clear hb
      go_wp2_with fail
      refine (X.out _).mono ?_
      rintro _ w2 ⟨rfl, hb⟩
      have B2 := Lib.hid (below_then B1.out hb (Nat.le_refl _))
      clear hb
      go_wp2_with fail
      refine (Y.out _).mono ?_
      rintro _ w3 ⟨rfl, hb⟩
      have B3 := Lib.hid (below_then B2.out hb (Nat.le_refl _))
      clear hb
      go_wp2_with fail
      go_ret
      exact ⟨by simp <;> omega, B3.out⟩
    · rw [show prE p = 1 from if_neg (by omega)] at Y
      go_wp2_with fail
      refine (W.out _).mono ?_
      rintro _ w1 ⟨rfl, hb⟩
      have B1 := Lib.hid (hb)
      clear hb
      go_wp2_with fail
      refine (X.out _).mono ?_
      rintro _ w2 ⟨rfl, hb⟩
      have B2 := Lib.hid (below_then B1.out hb (Nat.le_refl _))
      clear hb
      go_wp2_with fail
      refine (Y.out _).mono ?_
      rintro _ w3 ⟨rfl, hb⟩
      have B3 := Lib.hid (below_then B2.out hb (Nat.le_refl _))
      clear hb
      go_wp2_with fail
      refine (Y.out _).mono ?_
      rintro _ w4 ⟨rfl, hb⟩
      have B4 := Lib.hid (below_then B3.out hb (Nat.le_refl _))
      clear hb
      go_wp2_with fail
      go_ret
      exact ⟨by simp <;> omega, B4.out⟩
end Go.Proofs.Ytnlmgmphfcpcmaa
