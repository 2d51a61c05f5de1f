/-
  Layer 9: what may be asked: a contract for each call, in plain numbers.
-/
import Derived.Test.YtnlmgmphfcpcmaaSays
namespace Go.Proofs.Ytnlmgmphfcpcmaa
open Go.ChangeShapes Go.WideShapes Go.ChangeAt Go.RowKit
set_option linter.unusedVariables false

/-- A size's error, and the size. -/
def szE (n : Int) : Int := if n = 0 then 3 else if 0 < n ∧ n ≤ 2031616 then 0 else 4
def szV (n : Int) : Int := if 0 < n ∧ n ≤ 2031616 then (n + 4095) / 4096 * 4096 else 0
/-- Which of the three it is. -/
theorem sz_is (n : Int) : (n = 0 ∧ szE n = 3 ∧ szV n = 0) ∨ ((n < 0 ∨ 2031616 < n) ∧ szE n = 4 ∧ szV n = 0) ∨ ((0 < n ∧ n ≤ 2031616) ∧ szE n = 0 ∧ szV n = (n + 4095) / 4096 * 4096) := by
  unfold szE szV
  by_cases h0 : n = 0
  · left; subst h0; exact ⟨rfl, rfl, rfl⟩
  · by_cases h1 : 0 < n ∧ n ≤ 2031616
    · right; right; rw [if_neg h0, if_pos h1, if_pos h1]; exact ⟨h1, rfl, rfl⟩
    · right; left; rw [if_neg h0, if_neg h1, if_neg h1]; exact ⟨by omega, rfl, rfl⟩
theorem sz_ok {n : Int} (h : szE n = 0) : (0 < n ∧ n ≤ 2031616) ∧ szV n = (n + 4095) / 4096 * 4096 := by
  rcases sz_is n with ⟨_, h1, _⟩ | ⟨_, h1, _⟩ | ⟨h1, _, h2⟩
  · omega
  · omega
  · exact ⟨h1, h2⟩
theorem sz_pages {n : Int} (h : szE n = 0) : szV n % 4096 = 0 ∧ n ≤ szV n ∧ szV n < n + 4096 ∧ 4096 ≤ szV n ∧ szV n ≤ 2031616 := by
  obtain ⟨h1, h2⟩ := sz_ok h
  rw [h2]
  omega
theorem sz_err {n : Int} (h : szE n ≠ 0) : szV n = 0 := by
  rcases sz_is n with ⟨_, _, h1⟩ | ⟨_, _, h1⟩ | ⟨_, h1, _⟩
  · exact h1
  · exact h1
  · exact absurd h1 h

/-- Whole pages, as the program asks. -/
theorem tmod_whole (x : Int) : x.tmod 4096 = 0 ↔ x % 4096 = 0 :=
  ⟨fun h => Int.emod_eq_zero_of_dvd (Int.dvd_of_tmod_eq_zero h), fun h => Int.tmod_eq_zero_of_dvd (Int.dvd_of_emod_eq_zero h)⟩
theorem tmod_few (x : Int) : -4096 < x.tmod 4096 ∧ x.tmod 4096 < 4096 := ⟨Int.lt_tmod_of_pos x (by omega), Int.tmod_lt_of_pos x (by omega)⟩

set_option maxHeartbeats 1000000 in
theorem size_any (n : Int) : Says 9 #[.int .i64 n] (.tuple #[.int .i64 (szV n), .int .i64 (szE n)]) := by
  intro w
  rcases sz_is n with ⟨rfl, h1, h2⟩ | ⟨hn | hn, h1, h2⟩ | ⟨⟨ha, hb⟩, h1, h2⟩
  · rw [h1, h2]
    clear h1 h2
    go_enter Try.func9, Try.ntmps9
    go_wp2
    go_ret2
    exact ⟨rfl, Below.refl _ _⟩
  · rw [h1, h2]
    clear h1 h2
    go_enter Try.func9, Try.ntmps9
    go_wp2
    go_ret2
    exact ⟨rfl, Below.refl _ _⟩
  · rw [h1, h2]
    clear h1 h2
    have hc : 0 < n := by omega
    go_enter Try.func9, Try.ntmps9
    go_wp2
    go_ret2
    exact ⟨rfl, Below.refl _ _⟩
  · rw [h1, h2, show n + 4095 = n + 4096 - 1 by omega]
    clear h1 h2
    go_enter Try.func9, Try.ntmps9
    go_wp2
    go_ret2
    exact ⟨rfl, Below.refl _ _⟩

/-- A range's error, where it begins, and where it ends. -/
def rgE (a n : Int) : Int := if a % 4096 ≠ 0 then 2 else if szE n ≠ 0 then szE n else if a < 65536 ∨ 2097152 < a + szV n then 4 else 0
def rgA (a n : Int) : Int := if rgE a n = 0 then a else 0
def rgB (a n : Int) : Int := if rgE a n = 0 then a + szV n else 0
/-- Which of the four it is. -/
theorem rg_is (a n : Int) : (a % 4096 ≠ 0 ∧ rgE a n = 2 ∧ rgA a n = 0 ∧ rgB a n = 0) ∨ ((a % 4096 = 0 ∧ szE n ≠ 0) ∧ rgE a n = szE n ∧ rgA a n = 0 ∧ rgB a n = 0) ∨
    ((a % 4096 = 0 ∧ szE n = 0 ∧ (a < 65536 ∨ 2097152 < a + szV n)) ∧ rgE a n = 4 ∧ rgA a n = 0 ∧ rgB a n = 0) ∨
    ((a % 4096 = 0 ∧ szE n = 0 ∧ 65536 ≤ a ∧ a + szV n ≤ 2097152) ∧ rgE a n = 0 ∧ rgA a n = a ∧ rgB a n = a + szV n) := by
  unfold rgA rgB
  by_cases h0 : a % 4096 = 0
  · by_cases h1 : szE n = 0
    · by_cases h2 : a < 65536 ∨ 2097152 < a + szV n
      · have h : rgE a n = 4 := by unfold rgE; rw [if_neg (fun h => h h0), if_neg (fun h => h h1), if_pos h2]
        rw [h]; exact .inr (.inr (.inl ⟨⟨h0, h1, h2⟩, rfl, rfl, rfl⟩))
      · have h : rgE a n = 0 := by unfold rgE; rw [if_neg (fun h => h h0), if_neg (fun h => h h1), if_neg h2]
        rw [h]; exact .inr (.inr (.inr ⟨⟨h0, h1, by omega, by omega⟩, rfl, rfl, rfl⟩))
    · have h : rgE a n = szE n := by unfold rgE; rw [if_neg (fun h => h h0), if_pos h1]
      rw [h, if_neg h1, if_neg h1]; exact .inr (.inl ⟨⟨h0, h1⟩, rfl, rfl, rfl⟩)
  · have h : rgE a n = 2 := by unfold rgE; rw [if_pos h0]
    rw [h]; exact .inl ⟨h0, rfl, rfl, rfl⟩
theorem rg_ok {a n : Int} (h : rgE a n = 0) : a % 4096 = 0 ∧ szE n = 0 ∧ 65536 ≤ a ∧ a + szV n ≤ 2097152 ∧ rgA a n = a ∧ rgB a n = a + szV n := by
  rcases rg_is a n with ⟨_, h1, _⟩ | ⟨⟨_, h2⟩, h1, _⟩ | ⟨_, h1, _⟩ | ⟨⟨h1, h2, h3, h4⟩, _, h5, h6⟩
  · omega
  · omega
  · omega
  · exact ⟨h1, h2, h3, h4, h5, h6⟩
theorem rg_err {a n : Int} (h : rgE a n ≠ 0) : rgA a n = 0 ∧ rgB a n = 0 := by unfold rgA rgB; rw [if_neg h, if_neg h]; exact ⟨rfl, rfl⟩

set_option maxHeartbeats 1000000 in
theorem range_any (a n : Int) : Says 10 #[.int .i64 a, .int .i64 n] (.tuple #[.int .i64 (rgA a n), .int .i64 (rgB a n), .int .i64 (rgE a n)]) := by
  intro w
  have X := Lib.hid (size_any n)
  have W := Lib.hid (tmod_whole a)
  have hf := tmod_few a
  obtain ⟨hf0, hf1⟩ := hf
  rcases rg_is a n with ⟨h0, h1, h2, h3⟩ | ⟨⟨h0, k1⟩, h1, h2, h3⟩ | ⟨⟨h0, k1, k2⟩, h1, h2, h3⟩ | ⟨⟨h0, k1, k2, k3⟩, h1, h2, h3⟩
  · rw [h1, h2, h3]
    have hm : ¬ a.tmod 4096 = 0 := fun h => h0 (W.out.1 h)
    generalize szV n = s at *
    generalize szE n = e at *
    have hm' : (a.tmod 4096 != 0) = true := by simpa using hm
    clear W h0 h1 h2 h3
    go_enter Try.func10, Try.ntmps10
    go_wp2_with fail
    refine (X.out w).mono ?_
    rintro e w1 ⟨rfl, hb1⟩
    go_wp2_with fail
    go_ret3
    exact ⟨rfl, hb1⟩
  · rw [h1, h2, h3]
    have hm : a.tmod 4096 = 0 := W.out.2 h0
    generalize szV n = s at *
    generalize szE n = e at *
    clear W hf0 hf1
    clear h0 h1 h2 h3
    go_enter Try.func10, Try.ntmps10
    go_wp2_with fail
    refine (X.out w).mono ?_
    rintro e w1 ⟨rfl, hb1⟩
    go_wp2_with fail
    go_ret3
    exact ⟨rfl, hb1⟩
  · rw [h1, h2, h3]
    have hm : a.tmod 4096 = 0 := W.out.2 h0
    have hz := sz_pages k1
    rw [k1] at X
    generalize szV n = s at *
    obtain ⟨_, _, _, z1, z2⟩ := hz
    clear W hf0 hf1
    clear h0 h1 h2 h3
    by_cases k3 : a < 65536
    · clear k2
      go_enter Try.func10, Try.ntmps10
      go_wp2_with fail
      refine (X.out w).mono ?_
      rintro e w1 ⟨rfl, hb1⟩
      go_wp2_with fail
      go_ret3
      exact ⟨rfl, hb1⟩
    · have k4 : 2097152 - s < a := by omega
      clear k2
      go_enter Try.func10, Try.ntmps10
      go_wp2_with fail
      refine (X.out w).mono ?_
      rintro e w1 ⟨rfl, hb1⟩
      go_wp2_with fail
      go_ret3
      exact ⟨rfl, hb1⟩
  · rw [h1, h2, h3]
    have hm : a.tmod 4096 = 0 := W.out.2 h0
    have hz := sz_pages k1
    rw [k1] at X
    generalize szV n = s at *
    obtain ⟨_, _, _, z1, z2⟩ := hz
    clear W hf0 hf1
    clear h0 h1 h2 h3
    have k4 : a ≤ 2097152 - s := by omega
    go_enter Try.func10, Try.ntmps10
    go_wp2_with fail
    refine (X.out w).mono ?_
    rintro e w1 ⟨rfl, hb1⟩
    go_wp2_with fail
    go_ret3
    exact ⟨rfl, hb1⟩

/-- What is wrong with a Prot. -/
def prE (p : Int) : Int := if 0 ≤ p ∧ p ≤ 7 then 0 else 1
theorem prot_any (p : Int) : Says 17 #[.int .i64 p] (.int .i64 (prE p)) := by
  intro w
  unfold prE
  by_cases h : 0 ≤ p ∧ p ≤ 7
  · rw [if_pos h]
    obtain ⟨h0, h1⟩ := h
    go_enter Try.func17, Try.ntmps17
    go_wp2
    go_ret
    exact ⟨rfl, Below.refl _ _⟩
  · rw [if_neg h]
    have h' : p < 0 ∨ 7 < p := by omega
    clear h
    rcases h' with h | h
    · go_enter Try.func17, Try.ntmps17
      go_wp2
      go_ret
      exact ⟨rfl, Below.refl _ _⟩
    · have h0 : 0 ≤ p := by omega
      go_enter Try.func17, Try.ntmps17
      go_wp2
      go_ret
      exact ⟨rfl, Below.refl _ _⟩

set_option maxHeartbeats 1000000 in
theorem check_awake : Says 11 #[] (.bool true) := by
  intro w
  have X := Lib.hid (size_any 1)
  rw [show szV 1 = 4096 from by decide, show szE 1 = 0 from by decide] at X
  have Y := Lib.hid (prot_any 8)
  rw [show prE 8 = 1 from by decide] at Y
  go_enter Try.func11, Try.ntmps11
  go_wp2_with fail
  refine (X.out _).mono ?_
  rintro e w1 ⟨rfl, hb1⟩
  go_wp2_with fail
  refine (Y.out _).mono ?_
  rintro e w2 ⟨rfl, hb2⟩
  go_wp2_with fail
  go_ret
  exact ⟨rfl, below_then hb1 hb2 (Nat.le_refl _)⟩
end Go.Proofs.Ytnlmgmphfcpcmaa
