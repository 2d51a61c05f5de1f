/-
  Layer 9: backings and flags, and the document's own answers: a contract for each call.
-/
import Derived.Test.YtnlmgmphfcpcmaaCheck
namespace Go.Proofs.Ytnlmgmphfcpcmaa
open Go.ChangeShapes Go.WideShapes Go.ChangeAt Go.RowKit
set_option linter.unusedVariables false

/-- What is wrong with bytes of a backing. -/
def bkE (b o s : Int) : Int := if b < 0 ∨ 9 < b ∨ (b = 0 ∧ o ≠ 0) then 1 else if o % 4096 ≠ 0 then 2 else if o < 0 ∨ 1099511627776 < o + s then 4 else 0
/-- Which of the four it is. -/
theorem bk_is (b o s : Int) : ((b < 0 ∨ 9 < b ∨ (b = 0 ∧ o ≠ 0)) ∧ bkE b o s = 1) ∨ ((0 ≤ b ∧ b ≤ 9 ∧ (b = 0 → o = 0) ∧ o % 4096 ≠ 0) ∧ bkE b o s = 2) ∨
    ((0 ≤ b ∧ b ≤ 9 ∧ (b = 0 → o = 0) ∧ o % 4096 = 0 ∧ (o < 0 ∨ 1099511627776 < o + s)) ∧ bkE b o s = 4) ∨
    ((0 ≤ b ∧ b ≤ 9 ∧ (b = 0 → o = 0) ∧ o % 4096 = 0 ∧ 0 ≤ o ∧ o + s ≤ 1099511627776) ∧ bkE b o s = 0) := by
  unfold bkE
  by_cases h0 : b < 0 ∨ 9 < b ∨ (b = 0 ∧ o ≠ 0)
  · rw [if_pos h0]; exact .inl ⟨h0, rfl⟩
  · rw [if_neg h0]
    have h1 : 0 ≤ b ∧ b ≤ 9 ∧ (b = 0 → o = 0) := by omega
    obtain ⟨h1, h2, h3⟩ := h1
    by_cases h4 : o % 4096 = 0
    · rw [if_neg (fun h => h h4)]
      by_cases h5 : o < 0 ∨ 1099511627776 < o + s
      · rw [if_pos h5]; exact .inr (.inr (.inl ⟨⟨h1, h2, h3, h4, h5⟩, rfl⟩))
      · rw [if_neg h5]; exact .inr (.inr (.inr ⟨⟨h1, h2, h3, h4, by omega, by omega⟩, rfl⟩))
    · rw [if_pos h4]; exact .inr (.inl ⟨⟨h1, h2, h3, h4⟩, rfl⟩)
/-- The ways to the answer, as tests of one number each. -/
theorem bk_ways (b o s : Int) (hs0 : 0 ≤ s) (ho : -9223372036854775808 ≤ o ∧ o ≤ 9223372036854775807) : (b < 0 ∧ bkE b o s = 1) ∨ ((9 < b ∧ 0 ≤ b) ∧ bkE b o s = 1) ∨ ((b = 0 ∧ (o == 0) = false) ∧ bkE b o s = 1) ∨
    ((0 < b ∧ b ≤ 9) ∧ (o.tmod 4096 != 0) = true ∧ bkE b o s = 2) ∨ ((0 < b ∧ b ≤ 9) ∧ o.tmod 4096 = 0 ∧ o < 0 ∧ bkE b o s = 4) ∨
    ((0 < b ∧ b ≤ 9) ∧ o.tmod 4096 = 0 ∧ (0 ≤ o ∧ 1099511627776 - o < s) ∧ bkE b o s = 4) ∨ ((0 < b ∧ b ≤ 9) ∧ o.tmod 4096 = 0 ∧ (0 ≤ o ∧ s ≤ 1099511627776 - o) ∧ bkE b o s = 0) ∨
    ((b = 0 ∧ o = 0) ∧ 1099511627776 < s ∧ bkE b o s = 4) ∨ ((b = 0 ∧ o = 0) ∧ s ≤ 1099511627776 ∧ bkE b o s = 0) := by
  have hw := tmod_whole o
  rcases bk_is b o s with ⟨h, he⟩ | ⟨⟨h1, h2, h3, h4⟩, he⟩ | ⟨⟨h1, h2, h3, h4, h5⟩, he⟩ | ⟨⟨h1, h2, h3, h4, h5, h6⟩, he⟩
  · rcases h with h | h | ⟨h, h'⟩
    · exact .inl ⟨h, he⟩
    · exact .inr (.inl ⟨⟨h, by omega⟩, he⟩)
    · exact .inr (.inr (.inl ⟨⟨h, by simpa using h'⟩, he⟩))
  · have hb : b ≠ 0 := fun h => h4 (by rw [h3 h]; rfl)
    have : (o.tmod 4096 != 0) = true := by simpa using fun h => h4 (hw.1 h)
    exact .inr (.inr (.inr (.inl ⟨⟨by omega, h2⟩, this, he⟩)))
  · by_cases hb : b = 0
    · have := h3 hb
      exact .inr (.inr (.inr (.inr (.inr (.inr (.inr (.inl ⟨⟨hb, this⟩, by omega, he⟩)))))))
    · by_cases h6 : o < 0
      · exact .inr (.inr (.inr (.inr (.inl ⟨⟨by omega, h2⟩, hw.2 h4, h6, he⟩))))
      · exact .inr (.inr (.inr (.inr (.inr (.inl ⟨⟨by omega, h2⟩, hw.2 h4, ⟨by omega, by omega⟩, he⟩)))))
  · by_cases hb : b = 0
    · have := h3 hb
      exact .inr (.inr (.inr (.inr (.inr (.inr (.inr (.inr ⟨⟨hb, this⟩, by omega, he⟩)))))))
    · exact .inr (.inr (.inr (.inr (.inr (.inr (.inl ⟨⟨by omega, h2⟩, hw.2 h4, ⟨h5, by omega⟩, he⟩))))))

set_option maxHeartbeats 2000000 in
theorem backing_any (b o s : Int) (hs0 : 0 ≤ s) (hs1 : s ≤ 9223372036854775807) (ho : -9223372036854775808 ≤ o ∧ o ≤ 9223372036854775807) : Says 14 #[.int .i64 b, .int .i64 o, .int .i64 s] (.int .i64 (bkE b o s)) := by
  intro w
  have hw := bk_ways b o s hs0 ho
  have hf := tmod_few o
  obtain ⟨hf0, hf1⟩ := hf
  obtain ⟨ho0, ho1⟩ := ho
  rcases hw with ⟨h1, he⟩ | ⟨⟨h1, h2⟩, he⟩ | ⟨⟨rfl, h1⟩, he⟩ | ⟨⟨h1, h2⟩, h3, he⟩ | ⟨⟨h1, h2⟩, h3, h4, he⟩ | ⟨⟨h1, h2⟩, h3, ⟨h4, h5⟩, he⟩ | ⟨⟨h1, h2⟩, h3, ⟨h4, h5⟩, he⟩ | ⟨⟨rfl, rfl⟩, h1, he⟩ | ⟨⟨rfl, rfl⟩, h1, he⟩
  all_goals
    rw [he]
    clear he
    go_enter Try.func14, Try.ntmps14
    go_wp2
    go_ret
    exact ⟨rfl, Below.refl _ _⟩
set_option maxHeartbeats 2000000 in
theorem refBacking_any (b o s : Int) (hs0 : 0 ≤ s) (hs1 : s ≤ 2031616) (ho : -9223372036854775808 ≤ o ∧ o ≤ 9223372036854775807) : Says 15 #[.int .i64 b, .int .i64 o, .int .i64 s] (.int .i64 (bkE b o s)) := by
  intro w
  have hw := bk_ways b o s hs0 ho
  have hf := tmod_few o
  obtain ⟨hf0, hf1⟩ := hf
  obtain ⟨ho0, ho1⟩ := ho
  rcases hw with ⟨h1, he⟩ | ⟨⟨h1, h2⟩, he⟩ | ⟨⟨rfl, h1⟩, he⟩ | ⟨⟨h1, h2⟩, h3, he⟩ | ⟨⟨h1, h2⟩, h3, h4, he⟩ | ⟨⟨h1, h2⟩, h3, ⟨h4, h5⟩, he⟩ | ⟨⟨h1, h2⟩, h3, ⟨h4, h5⟩, he⟩ | ⟨⟨rfl, rfl⟩, h1, he⟩ | ⟨⟨rfl, rfl⟩, h1, he⟩
  all_goals
    first | (exfalso; omega) | skip
  all_goals
    rw [he]
    clear he
    try (have h6 : o ≤ 1099511627776 := by omega)
    try (have h7 : o + s ≤ 1099511627776 := by omega)
    try (have h7 : 1099511627776 < o + s := by omega)
    go_enter Try.func15, Try.ntmps15
    go_wp2
    all_goals
      go_ret
      exact ⟨rfl, Below.refl _ _⟩
/-- How many pages are counted. -/
def PgRel (n : Int) (w0 : World) (pv : Value) (wr : World) : Prop := wr = w0 ∧ ∃ k : Int, 0 ≤ k ∧ k ≤ (n + 4095) / 4096 ∧ pv = .int .i64 k
set_option maxHeartbeats 1000000 in
theorem pages_any (n : Int) (h0 : 0 < n) (h1 : n ≤ 2031616) : Says 18 #[.int .i64 n] (.int .i64 ((n + 4095) / 4096)) := by
  intro w
  go_enter Try.func18, Try.ntmps18
  go_wp2_with fail
  go_loopw [3] (fun pv wr => PgRel n w pv wr) (fun pv _ => 1000 - (intOf pv).toNat)
  case atStart => exact ⟨rfl, 0, by omega, by omega, rfl⟩
  case round =>
    obtain ⟨rfl, k, k0, k1, rfl⟩ := hrel
    by_cases hk : 4096 * k < n
    · go_wp2
      refine ⟨⟨rfl, k + 1, by omega, by omega, rfl⟩, ?_⟩
      show 1000 - (k + 1).toNat < 1000 - k.toNat
      omega
    · have hk' : k = (n + 4095) / 4096 := by omega
      go_wp2
      go_ret
      exact ⟨rfl, Below.refl _ _⟩
set_option maxHeartbeats 1000000 in
theorem refSize_any (n : Int) : Says 12 #[.int .i64 n] (.tuple #[.int .i64 (szV n), .int .i64 (szE n)]) := by
  intro w
  rcases sz_is n with ⟨rfl, h1, h2⟩ | ⟨hn | hn, h1, h2⟩ | ⟨⟨ha, hb⟩, h1, h2⟩
  · rw [h1, h2]
    clear h1 h2
    go_enter Try.func12, Try.ntmps12
    go_wp2
    go_ret2
    exact ⟨rfl, Below.refl _ _⟩
  · rw [h1, h2]
    clear h1 h2
    go_enter Try.func12, Try.ntmps12
    go_wp2
    go_ret2
    exact ⟨rfl, Below.refl _ _⟩
  · rw [h1, h2]
    clear h1 h2
    have hc : 0 < n := by omega
    go_enter Try.func12, Try.ntmps12
    go_wp2
    go_ret2
    exact ⟨rfl, Below.refl _ _⟩
  · have X := Lib.hid (pages_any n ha hb)
    have hp : 0 ≤ (n + 4095) / 4096 ∧ (n + 4095) / 4096 ≤ 496 := by omega
    rw [h1, h2]
    clear h1 h2
    generalize (n + 4095) / 4096 = p at *
    rw [Int.mul_comm]
    obtain ⟨hp0, hp1⟩ := hp
    go_enter Try.func12, Try.ntmps12
    go_wp2_with fail
    refine (X.out w).mono ?_
    rintro e w1 ⟨rfl, hb1⟩
    go_wp2_with fail
    go_ret2
    exact ⟨rfl, hb1⟩
set_option maxHeartbeats 1000000 in
theorem refRange_any (a n : Int) : Says 13 #[.int .i64 a, .int .i64 n] (.tuple #[.int .i64 (rgA a n), .int .i64 (rgB a n), .int .i64 (rgE a n)]) := by
  intro w
  have X := Lib.hid (refSize_any n)
  have W := Lib.hid (tmod_whole a)
  have hf := tmod_few a
  obtain ⟨hf0, hf1⟩ := hf
  rcases rg_is a n with ⟨h0, h1, h2, h3⟩ | ⟨⟨h0, k1⟩, h1, h2, h3⟩ | ⟨⟨h0, k1, k2⟩, h1, h2, h3⟩ | ⟨⟨h0, k1, k2, k3⟩, h1, h2, h3⟩
  · rw [h1, h2, h3]
    have hm : ¬ a.tmod 4096 = 0 := fun h => h0 (W.out.1 h)
    have hm' : (a.tmod 4096 != 0) = true := by simpa using hm
    clear W h0 h1 h2 h3
    go_enter Try.func13, Try.ntmps13
    go_wp2_with fail
    go_ret3
    exact ⟨rfl, Below.refl _ _⟩
  · rw [h1, h2, h3]
    have hm : a.tmod 4096 = 0 := W.out.2 h0
    generalize szV n = s at *
    generalize szE n = e at *
    clear W hf0 hf1 h0 h1 h2 h3
    go_enter Try.func13, Try.ntmps13
    go_wp2_with fail
    refine (X.out w).mono ?_
    rintro e w1 ⟨rfl, hb1⟩
    go_wp2_with fail
    go_ret3
    exact ⟨rfl, hb1⟩
  · rw [h1, h2, h3]
    have hm : a.tmod 4096 = 0 := W.out.2 h0
    have hz := sz_pages k1
    rw [k1] at X
    generalize szV n = s at *
    obtain ⟨_, _, _, z1, z2⟩ := hz
    clear W hf0 hf1 h0 h1 h2 h3
    have k3 : a < 65536 ∨ (65536 ≤ a ∧ 2097152 < a) ∨ (65536 ≤ a ∧ a ≤ 2097152 ∧ 2097152 < a + s) := by omega
    clear k2
    rcases k3 with k3 | ⟨k3, k4⟩ | ⟨k3, k4, k5⟩
    all_goals
      go_enter Try.func13, Try.ntmps13
      go_wp2_with fail
      refine (X.out w).mono ?_
      rintro e w1 ⟨rfl, hb1⟩
      go_wp2_with fail
      go_ret3
      exact ⟨rfl, hb1⟩
  · rw [h1, h2, h3]
    have hm : a.tmod 4096 = 0 := W.out.2 h0
    have hz := sz_pages k1
    rw [k1] at X
    generalize szV n = s at *
    obtain ⟨_, _, _, z1, z2⟩ := hz
    clear W hf0 hf1 h0 h1 h2 h3
    have k4 : a ≤ 2097152 := by omega
    go_enter Try.func13, Try.ntmps13
    go_wp2_with fail
    refine (X.out w).mono ?_
    rintro e w1 ⟨rfl, hb1⟩
    go_wp2_with fail
    go_ret3
    exact ⟨rfl, hb1⟩
end Go.Proofs.Ytnlmgmphfcpcmaa
