/-
  Layer 9: flags, bit by bit.
-/
import Derived.Test.YtnlmgmphfcpcmaaCheck
namespace Go.Proofs.Ytnlmgmphfcpcmaa
open Go.ChangeShapes Go.WideShapes Go.ChangeAt Go.RowKit
set_option linter.unusedVariables false

/-- What is wrong with flags. -/
def flE (f a : Int) : Int := if f < 0 ∨ bits .andNot .i64 f a ≠ 0 then 1 else 0

theorem flags_any (f a : Int) : Says 16 #[.int .i64 f, .int .i64 a] (.int .i64 (flE f a)) := by
  intro w
  unfold flE
  by_cases h : f < 0
  · rw [if_pos (.inl h)]
    go_enter Try.func16, Try.ntmps16
    go_wp2
    go_ret
    exact ⟨rfl, Below.refl _ _⟩
  · have h' : 0 ≤ f := by omega
    by_cases k : bits .andNot .i64 f a = 0
    · rw [if_neg (by rintro (x | x); exact h x; exact x k)]
      clear h
      go_enter Try.func16, Try.ntmps16
      go_wp2
      go_ret
      exact ⟨rfl, Below.refl _ _⟩
    · rw [if_pos (.inr k)]
      have k' : (bits .andNot .i64 f a != 0) = true := by simpa using k
      clear h
      go_enter Try.func16, Try.ntmps16
      go_wp2
      go_ret
      exact ⟨rfl, Below.refl _ _⟩

/-- No bit is over just where each one is allowed. -/
theorem andNot_zero (f a : Nat) (hf : f < 2 ^ 63) (ha : a < 2 ^ 63) : bits .andNot .i64 (f : Int) (a : Int) = 0 ↔ ∀ j, f.testBit j = true → a.testBit j = true := by
  show IntKind.i64.wrap ((BitVec.ofInt 64 (f : Int) &&& ~~~(BitVec.ofInt 64 (a : Int))).toNat : Int) = 0 ↔ _
  have hz : ∀ x : BitVec 64, IntKind.i64.wrap (x.toNat : Int) = 0 ↔ x = 0#64 := by
    intro x
    have := x.isLt
    rw [IntKind.wrap_i64]
    constructor
    · intro h
      apply BitVec.eq_of_toNat_eq
      simp only [BitVec.toNat_ofNat]
      omega
    · rintro rfl
      have h0 : (0#64).toNat = 0 := rfl
      omega
  rw [hz]
  have hbf : ∀ j, (BitVec.ofInt 64 (f : Int)).getLsbD j = (decide (j < 64) && f.testBit j) := by
    intro j
    rw [BitVec.ofInt_natCast, BitVec.getLsbD_ofNat]
  have hba : ∀ j, (BitVec.ofInt 64 (a : Int)).getLsbD j = (decide (j < 64) && a.testBit j) := by
    intro j
    rw [BitVec.ofInt_natCast, BitVec.getLsbD_ofNat]
  constructor
  · intro h j hj
    have h64 : j < 64 := by
      by_cases c : j < 64
      · exact c
      · have : f < 2 ^ j := Nat.lt_of_lt_of_le hf (Nat.pow_le_pow_right (by omega) (by omega))
        rw [Nat.testBit_lt_two_pow this] at hj
        cases hj
    have := congrArg (fun x : BitVec 64 => x.getLsbD j) h
    simp only [BitVec.getLsbD_and, BitVec.getLsbD_not, hbf, hba, h64, hj, decide_true, Bool.true_and, BitVec.getLsbD_zero] at this
    simpa using this
  · intro h
    apply BitVec.eq_of_getLsbD_eq
    intro j hj
    simp only [BitVec.getLsbD_and, BitVec.getLsbD_not, hbf, hba, hj, decide_true, Bool.true_and]
    have := h j
    cases hx : f.testBit j <;> simp [hx] at this ⊢
    exact this

/-- Whether one of the first k bits isn't allowed. -/
def overK (f a : Nat) : Nat → Bool
  | 0 => false
  | k + 1 => overK f a k || (f / 2 ^ k % 2 == 1 && a / 2 ^ k % 2 == 0)
theorem overK_no (f a k : Nat) : overK f a k = false ↔ ∀ j, j < k → f.testBit j = true → a.testBit j = true := by
  induction k with
  | zero => exact ⟨fun _ j hj => absurd hj (by omega), fun _ => rfl⟩
  | succ k ih =>
    have hb : (f / 2 ^ k % 2 == 1 && a / 2 ^ k % 2 == 0) = (f.testBit k && !a.testBit k) := by
      rw [Nat.testBit_eq_decide_div_mod_eq, Nat.testBit_eq_decide_div_mod_eq]
      rcases Nat.mod_two_eq_zero_or_one (f / 2 ^ k) with h | h <;> rcases Nat.mod_two_eq_zero_or_one (a / 2 ^ k) with h' | h' <;> simp [h, h']
    unfold overK
    rw [hb, Bool.or_eq_false_iff, ih]
    constructor
    · rintro ⟨h1, h2⟩ j hj hf
      by_cases c : j < k
      · exact h1 j c hf
      · obtain rfl : j = k := by omega
        rw [hf] at h2
        simpa using h2
    · intro h
      refine ⟨fun j hj => h j (by omega), ?_⟩
      have := h k (by omega)
      cases hx : f.testBit k <;> simp [hx] at this ⊢
      exact this
/-- With all bits seen, that is what is wrong. -/
theorem flE_over (f a k : Nat) (hf : f < 2 ^ 63) (ha : a < 2 ^ 63) (hk : f / 2 ^ k = 0) : flE (f : Int) (a : Int) = if overK f a k then 1 else 0 := by
  have h : bits .andNot .i64 (f : Int) (a : Int) = 0 ↔ overK f a k = false := by
    rw [andNot_zero f a hf ha, overK_no]
    refine ⟨fun h j _ => h j, fun h j hj => h j ?_ hj⟩
    by_cases c : j < k
    · exact c
    · have h1 : f < 2 ^ k := by
        rcases Nat.lt_or_ge f (2 ^ k) with h | h
        · exact h
        · have := Nat.div_pos h (Nat.two_pow_pos k); omega
      rw [Nat.testBit_lt_two_pow (Nat.lt_of_lt_of_le h1 (Nat.pow_le_pow_right (by omega) (by omega)))] at hj
      cases hj
  unfold flE
  cases hx : overK f a k with
  | false => rw [if_neg (by rintro (x | x); omega; exact x (h.2 hx))]; rfl
  | true => rw [if_pos (.inr (fun x => by rw [h.1 x] at hx; cases hx))]; rfl
end Go.Proofs.Ytnlmgmphfcpcmaa
