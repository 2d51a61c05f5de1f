/-
  Texts of our own, one behind the other (Check, CheckMore, CheckFlag): what the laws' proofs rest on; each says at its head what it holds. No conditions.
-/
import Derived.Test.YtejkhnphplpkeaaPkA
/-
  Layer 9: what may be asked: a contract for each call, in plain numbers.
-/
namespace Go.Proofs.Ytejkhnphplpkeaa
open Go.ChangeShapes Go.WideShapes Go.ChangeAt Go.RowKit
set_option linter.unusedVariables false

/-- A size's error, and the size. -/
def szE (n : Int) : Int := if n = 0 then 3 else if 0 < n ∧ n ≤ 2031616 then 0 else 4
def szV (n : Int) : Int := if 0 < n ∧ n ≤ 2031616 then (n + 4095) / 4096 * 4096 else 0
/-- Which of the three it is. -/
theorem sz_is (n : Int) : (n = 0 ∧ szE n = 3 ∧ szV n = 0) ∨ ((n < 0 ∨ 2031616 < n) ∧ szE n = 4 ∧ szV n = 0) ∨ ((0 < n ∧ n ≤ 2031616) ∧ szE n = 0 ∧ szV n = (n + 4095) / 4096 * 4096) := by
  unfold szE szV
  by_cases h0 : n = 0
  · left; subst h0; exact ⟨rfl, rfl, rfl⟩
  · by_cases h1 : 0 < n ∧ n ≤ 2031616
    · right; right; rw [if_neg h0, if_pos h1, if_pos h1]; exact ⟨h1, rfl, rfl⟩
    · right; left; rw [if_neg h0, if_neg h1, if_neg h1]; exact ⟨by omega, rfl, rfl⟩
theorem sz_ok {n : Int} (h : szE n = 0) : (0 < n ∧ n ≤ 2031616) ∧ szV n = (n + 4095) / 4096 * 4096 := by
  rcases sz_is n with ⟨_, h1, _⟩ | ⟨_, h1, _⟩ | ⟨h1, _, h2⟩
  · omega
  · omega
  · exact ⟨h1, h2⟩
theorem sz_pages {n : Int} (h : szE n = 0) : szV n % 4096 = 0 ∧ n ≤ szV n ∧ szV n < n + 4096 ∧ 4096 ≤ szV n ∧ szV n ≤ 2031616 := by
  obtain ⟨h1, h2⟩ := sz_ok h
  rw [h2]
  omega
theorem sz_err {n : Int} (h : szE n ≠ 0) : szV n = 0 := by
  rcases sz_is n with ⟨_, _, h1⟩ | ⟨_, _, h1⟩ | ⟨_, h1, _⟩
  · exact h1
  · exact h1
  · exact absurd h1 h

/-- Whole pages, as the program asks. -/
theorem tmod_whole (x : Int) : x.tmod 4096 = 0 ↔ x % 4096 = 0 :=
  ⟨fun h => Int.emod_eq_zero_of_dvd (Int.dvd_of_tmod_eq_zero h), fun h => Int.tmod_eq_zero_of_dvd (Int.dvd_of_emod_eq_zero h)⟩
theorem tmod_few (x : Int) : -4096 < x.tmod 4096 ∧ x.tmod 4096 < 4096 := ⟨Int.lt_tmod_of_pos x (by omega), Int.tmod_lt_of_pos x (by omega)⟩

/-- A range's error, where it begins, and where it ends. -/
def rgE (a n : Int) : Int := if a % 4096 ≠ 0 then 2 else if szE n ≠ 0 then szE n else if a < 65536 ∨ 2097152 < a + szV n then 4 else 0
def rgA (a n : Int) : Int := if rgE a n = 0 then a else 0
def rgB (a n : Int) : Int := if rgE a n = 0 then a + szV n else 0
/-- Which of the four it is. -/
theorem rg_is (a n : Int) : (a % 4096 ≠ 0 ∧ rgE a n = 2 ∧ rgA a n = 0 ∧ rgB a n = 0) ∨ ((a % 4096 = 0 ∧ szE n ≠ 0) ∧ rgE a n = szE n ∧ rgA a n = 0 ∧ rgB a n = 0) ∨
    ((a % 4096 = 0 ∧ szE n = 0 ∧ (a < 65536 ∨ 2097152 < a + szV n)) ∧ rgE a n = 4 ∧ rgA a n = 0 ∧ rgB a n = 0) ∨
    ((a % 4096 = 0 ∧ szE n = 0 ∧ 65536 ≤ a ∧ a + szV n ≤ 2097152) ∧ rgE a n = 0 ∧ rgA a n = a ∧ rgB a n = a + szV n) := by
  unfold rgA rgB
  by_cases h0 : a % 4096 = 0
  · by_cases h1 : szE n = 0
    · by_cases h2 : a < 65536 ∨ 2097152 < a + szV n
      · have h : rgE a n = 4 := by unfold rgE; rw [if_neg (fun h => h h0), if_neg (fun h => h h1), if_pos h2]
        rw [h]; exact .inr (.inr (.inl ⟨⟨h0, h1, h2⟩, rfl, rfl, rfl⟩))
      · have h : rgE a n = 0 := by unfold rgE; rw [if_neg (fun h => h h0), if_neg (fun h => h h1), if_neg h2]
        rw [h]; exact .inr (.inr (.inr ⟨⟨h0, h1, by omega, by omega⟩, rfl, rfl, rfl⟩))
    · have h : rgE a n = szE n := by unfold rgE; rw [if_neg (fun h => h h0), if_pos h1]
      rw [h, if_neg h1, if_neg h1]; exact .inr (.inl ⟨⟨h0, h1⟩, rfl, rfl, rfl⟩)
  · have h : rgE a n = 2 := by unfold rgE; rw [if_pos h0]
    rw [h]; exact .inl ⟨h0, rfl, rfl, rfl⟩
theorem rg_ok {a n : Int} (h : rgE a n = 0) : a % 4096 = 0 ∧ szE n = 0 ∧ 65536 ≤ a ∧ a + szV n ≤ 2097152 ∧ rgA a n = a ∧ rgB a n = a + szV n := by
  rcases rg_is a n with ⟨_, h1, _⟩ | ⟨⟨_, h2⟩, h1, _⟩ | ⟨_, h1, _⟩ | ⟨⟨h1, h2, h3, h4⟩, _, h5, h6⟩
  · omega
  · omega
  · omega
  · exact ⟨h1, h2, h3, h4, h5, h6⟩
theorem rg_err {a n : Int} (h : rgE a n ≠ 0) : rgA a n = 0 ∧ rgB a n = 0 := by unfold rgA rgB; rw [if_neg h, if_neg h]; exact ⟨rfl, rfl⟩

/-- What is wrong with a Prot. -/
def prE (p : Int) : Int := if 0 ≤ p ∧ p ≤ 7 then 0 else 1
end Go.Proofs.Ytejkhnphplpkeaa

/-
  Layer 9: backings and flags, and the document's own answers: a contract for each call.
-/
namespace Go.Proofs.Ytejkhnphplpkeaa
open Go.ChangeShapes Go.WideShapes Go.ChangeAt Go.RowKit
set_option linter.unusedVariables false

/-- What is wrong with bytes of a backing. -/
def bkE (b o s : Int) : Int := if b < 0 ∨ 9 < b ∨ (b = 0 ∧ o ≠ 0) then 1 else if o % 4096 ≠ 0 then 2 else if o < 0 ∨ 1099511627776 < o + s then 4 else 0
/-- Which of the four it is. -/
theorem bk_is (b o s : Int) : ((b < 0 ∨ 9 < b ∨ (b = 0 ∧ o ≠ 0)) ∧ bkE b o s = 1) ∨ ((0 ≤ b ∧ b ≤ 9 ∧ (b = 0 → o = 0) ∧ o % 4096 ≠ 0) ∧ bkE b o s = 2) ∨
    ((0 ≤ b ∧ b ≤ 9 ∧ (b = 0 → o = 0) ∧ o % 4096 = 0 ∧ (o < 0 ∨ 1099511627776 < o + s)) ∧ bkE b o s = 4) ∨
    ((0 ≤ b ∧ b ≤ 9 ∧ (b = 0 → o = 0) ∧ o % 4096 = 0 ∧ 0 ≤ o ∧ o + s ≤ 1099511627776) ∧ bkE b o s = 0) := by
  unfold bkE
  by_cases h0 : b < 0 ∨ 9 < b ∨ (b = 0 ∧ o ≠ 0)
  · rw [if_pos h0]; exact .inl ⟨h0, rfl⟩
  · rw [if_neg h0]
    have h1 : 0 ≤ b ∧ b ≤ 9 ∧ (b = 0 → o = 0) := by omega
    obtain ⟨h1, h2, h3⟩ := h1
    by_cases h4 : o % 4096 = 0
    · rw [if_neg (fun h => h h4)]
      by_cases h5 : o < 0 ∨ 1099511627776 < o + s
      · rw [if_pos h5]; exact .inr (.inr (.inl ⟨⟨h1, h2, h3, h4, h5⟩, rfl⟩))
      · rw [if_neg h5]; exact .inr (.inr (.inr ⟨⟨h1, h2, h3, h4, by omega, by omega⟩, rfl⟩))
    · rw [if_pos h4]; exact .inr (.inl ⟨⟨h1, h2, h3, h4⟩, rfl⟩)
/-- The ways to the answer, as tests of one number each. -/
theorem bk_ways (b o s : Int) (hs0 : 0 ≤ s) (ho : -9223372036854775808 ≤ o ∧ o ≤ 9223372036854775807) : (b < 0 ∧ bkE b o s = 1) ∨ ((9 < b ∧ 0 ≤ b) ∧ bkE b o s = 1) ∨ ((b = 0 ∧ (o == 0) = false) ∧ bkE b o s = 1) ∨
    ((0 < b ∧ b ≤ 9) ∧ (o.tmod 4096 != 0) = true ∧ bkE b o s = 2) ∨ ((0 < b ∧ b ≤ 9) ∧ o.tmod 4096 = 0 ∧ o < 0 ∧ bkE b o s = 4) ∨
    ((0 < b ∧ b ≤ 9) ∧ o.tmod 4096 = 0 ∧ (0 ≤ o ∧ 1099511627776 - o < s) ∧ bkE b o s = 4) ∨ ((0 < b ∧ b ≤ 9) ∧ o.tmod 4096 = 0 ∧ (0 ≤ o ∧ s ≤ 1099511627776 - o) ∧ bkE b o s = 0) ∨
    ((b = 0 ∧ o = 0) ∧ 1099511627776 < s ∧ bkE b o s = 4) ∨ ((b = 0 ∧ o = 0) ∧ s ≤ 1099511627776 ∧ bkE b o s = 0) := by
  have hw := tmod_whole o
  rcases bk_is b o s with ⟨h, he⟩ | ⟨⟨h1, h2, h3, h4⟩, he⟩ | ⟨⟨h1, h2, h3, h4, h5⟩, he⟩ | ⟨⟨h1, h2, h3, h4, h5, h6⟩, he⟩
  · rcases h with h | h | ⟨h, h'⟩
    · exact .inl ⟨h, he⟩
    · exact .inr (.inl ⟨⟨h, by omega⟩, he⟩)
    · exact .inr (.inr (.inl ⟨⟨h, by simpa using h'⟩, he⟩))
  · have hb : b ≠ 0 := fun h => h4 (by rw [h3 h]; rfl)
    have : (o.tmod 4096 != 0) = true := by simpa using fun h => h4 (hw.1 h)
    exact .inr (.inr (.inr (.inl ⟨⟨by omega, h2⟩, this, he⟩)))
  · by_cases hb : b = 0
    · have := h3 hb
      exact .inr (.inr (.inr (.inr (.inr (.inr (.inr (.inl ⟨⟨hb, this⟩, by omega, he⟩)))))))
    · by_cases h6 : o < 0
      · exact .inr (.inr (.inr (.inr (.inl ⟨⟨by omega, h2⟩, hw.2 h4, h6, he⟩))))
      · exact .inr (.inr (.inr (.inr (.inr (.inl ⟨⟨by omega, h2⟩, hw.2 h4, ⟨by omega, by omega⟩, he⟩)))))
  · by_cases hb : b = 0
    · have := h3 hb
      exact .inr (.inr (.inr (.inr (.inr (.inr (.inr (.inr ⟨⟨hb, this⟩, by omega, he⟩)))))))
    · exact .inr (.inr (.inr (.inr (.inr (.inr (.inl ⟨⟨by omega, h2⟩, hw.2 h4, ⟨h5, by omega⟩, he⟩))))))

end Go.Proofs.Ytejkhnphplpkeaa

/-
  Layer 9: flags, bit by bit.
-/
namespace Go.Proofs.Ytejkhnphplpkeaa
open Go.ChangeShapes Go.WideShapes Go.ChangeAt Go.RowKit
set_option linter.unusedVariables false

/-- What is wrong with flags. -/
def flE (f a : Int) : Int := if f < 0 ∨ bits .andNot .i64 f a ≠ 0 then 1 else 0

/-- No bit is over just where each one is allowed. -/
theorem andNot_zero (f a : Nat) (hf : f < 2 ^ 63) (ha : a < 2 ^ 63) : bits .andNot .i64 (f : Int) (a : Int) = 0 ↔ ∀ j, f.testBit j = true → a.testBit j = true := by
  show IntKind.i64.wrap ((BitVec.ofInt 64 (f : Int) &&& ~~~(BitVec.ofInt 64 (a : Int))).toNat : Int) = 0 ↔ _
  have hz : ∀ x : BitVec 64, IntKind.i64.wrap (x.toNat : Int) = 0 ↔ x = 0#64 := by
    intro x
    have := x.isLt
    rw [IntKind.wrap_i64]
    constructor
    · intro h
      apply BitVec.eq_of_toNat_eq
      simp only [BitVec.toNat_ofNat]
      omega
    · rintro rfl
      have h0 : (0#64).toNat = 0 := rfl
      omega
  rw [hz]
  have hbf : ∀ j, (BitVec.ofInt 64 (f : Int)).getLsbD j = (decide (j < 64) && f.testBit j) := by
    intro j
    rw [BitVec.ofInt_natCast, BitVec.getLsbD_ofNat]
  have hba : ∀ j, (BitVec.ofInt 64 (a : Int)).getLsbD j = (decide (j < 64) && a.testBit j) := by
    intro j
    rw [BitVec.ofInt_natCast, BitVec.getLsbD_ofNat]
  constructor
  · intro h j hj
    have h64 : j < 64 := by
      by_cases c : j < 64
      · exact c
      · have : f < 2 ^ j := Nat.lt_of_lt_of_le hf (Nat.pow_le_pow_right (by omega) (by omega))
        rw [Nat.testBit_lt_two_pow this] at hj
        cases hj
    have := congrArg (fun x : BitVec 64 => x.getLsbD j) h
    simp only [BitVec.getLsbD_and, BitVec.getLsbD_not, hbf, hba, h64, hj, decide_true, Bool.true_and, BitVec.getLsbD_zero] at this
    simpa using this
  · intro h
    apply BitVec.eq_of_getLsbD_eq
    intro j hj
    simp only [BitVec.getLsbD_and, BitVec.getLsbD_not, hbf, hba, hj, decide_true, Bool.true_and]
    have := h j
    cases hx : f.testBit j <;> simp [hx] at this ⊢
    exact this

/-- Whether one of the first k bits isn't allowed. -/
def overK (f a : Nat) : Nat → Bool
  | 0 => false
  | k + 1 => overK f a k || (f / 2 ^ k % 2 == 1 && a / 2 ^ k % 2 == 0)
theorem overK_no (f a k : Nat) : overK f a k = false ↔ ∀ j, j < k → f.testBit j = true → a.testBit j = true := by
  induction k with
  | zero => exact ⟨fun _ j hj => absurd hj (by omega), fun _ => rfl⟩
  | succ k ih =>
    have hb : (f / 2 ^ k % 2 == 1 && a / 2 ^ k % 2 == 0) = (f.testBit k && !a.testBit k) := by
      rw [Nat.testBit_eq_decide_div_mod_eq, Nat.testBit_eq_decide_div_mod_eq]
      rcases Nat.mod_two_eq_zero_or_one (f / 2 ^ k) with h | h <;> rcases Nat.mod_two_eq_zero_or_one (a / 2 ^ k) with h' | h' <;> simp [h, h']
    unfold overK
    rw [hb, Bool.or_eq_false_iff, ih]
    constructor
    · rintro ⟨h1, h2⟩ j hj hf
      by_cases c : j < k
      · exact h1 j c hf
      · obtain rfl : j = k := by omega
        rw [hf] at h2
        simpa using h2
    · intro h
      refine ⟨fun j hj => h j (by omega), ?_⟩
      have := h k (by omega)
      cases hx : f.testBit k <;> simp [hx] at this ⊢
      exact this
/-- With all bits seen, that is what is wrong. -/
theorem flE_over (f a k : Nat) (hf : f < 2 ^ 63) (ha : a < 2 ^ 63) (hk : f / 2 ^ k = 0) : flE (f : Int) (a : Int) = if overK f a k then 1 else 0 := by
  have h : bits .andNot .i64 (f : Int) (a : Int) = 0 ↔ overK f a k = false := by
    rw [andNot_zero f a hf ha, overK_no]
    refine ⟨fun h j _ => h j, fun h j hj => h j ?_ hj⟩
    by_cases c : j < k
    · exact c
    · have h1 : f < 2 ^ k := by
        rcases Nat.lt_or_ge f (2 ^ k) with h | h
        · exact h
        · have := Nat.div_pos h (Nat.two_pow_pos k); omega
      rw [Nat.testBit_lt_two_pow (Nat.lt_of_lt_of_le h1 (Nat.pow_le_pow_right (by omega) (by omega)))] at hj
      cases hj
  unfold flE
  cases hx : overK f a k with
  | false => rw [if_neg (by rintro (x | x); omega; exact x (h.2 hx))]; rfl
  | true => rw [if_pos (.inr (fun x => by rw [h.1 x] at hx; cases hx))]; rfl
end Go.Proofs.Ytejkhnphplpkeaa
