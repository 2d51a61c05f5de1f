/-
  Layer 8: what is put where there was room. No program is asked.
-/
import Derived.Test.YtmppodobgkhojaaGapLaw
namespace Go.Proofs.Ytmppodobgkhojaa
set_option linter.unusedVariables false

theorem taken_formed {at' n : Int} (h0 : 65536 ≤ at') (h1 : at' + n ≤ 2097152) (h2 : at' % 4096 = 0) (h3 : n % 4096 = 0) (h4 : 1 ≤ n) : Formed ⟨at', at' + n, 1, false, 0, 0⟩ := by
  refine (formed_iff _).2 ?_
  simp only
  exact ⟨⟨by omega, by omega, by omega, by omega, by omega⟩, ⟨by omega, by omega, by omega, by omega⟩, by omega, by omega, (by simp), by omega⟩
theorem may_num {X : List Ar} {lo hi n b : Int} (h : May X lo hi n b) : 65536 ≤ b ∧ b + n ≤ 2097152 ∧ b % 4096 = 0 ∧ n % 4096 = 0 ∧ 1 ≤ n := by
  obtain ⟨⟨h1, h2, h3, g, hg, h4, h5⟩, _, _⟩ := h
  have := (gapsL_good g hg).lo; have := (gapsL_good g hg).hi
  omega
/-- Nothing fits there any more. -/
theorem taken_no {X : List Ar} (hX : RightL X) {a : Ar} (ha : Formed a) (size : Int) : ¬ FitsAt (putC X a) a.s size := by
  intro h
  have hr := putC_right hX ha
  have hn := formed_num ha
  obtain ⟨h1, h2, h3, h4⟩ := (fits_pages hr a.s size).1 h
  have h5 := h4 (a.s / 4096) (by omega) (by omega)
  have h6 := h5.2.2
  rw [(putC_is hX ha).2, if_pos (cov_first ha)] at h6
  cases h6
/-- There are as many pages more. -/
theorem taken_sum {X : List Ar} (hX : RightL X) {a : Ar} (ha : Formed a) (hf : FitsAt X a.s (a.e - a.s)) : sumL (putC X a) = sumL X + (a.e - a.s) := by
  have hr := putC_right hX ha
  have hn := formed_num ha
  obtain ⟨h1, h2, h3, h4⟩ := (fits_pages hX _ _).1 hf
  have hfree : ∀ p, Cov a p → tab X p = none := fun p hp => (h4 p hp.1 (by have := hp.2; omega)).2.2
  have hd : (X ++ [a]).Pairwise Disj := by
    refine List.pairwise_append.2 ⟨right_disj hX, List.pairwise_singleton _ _, fun b hb c hc p k1 k2 => ?_⟩
    obtain rfl := List.mem_singleton.1 hc
    exact tab_no (hfree p k2) b hb k1
  have hfm : ∀ b ∈ X ++ [a], Formed b := fun b hb => by
    rcases List.mem_append.1 hb with hb | hb
    · exact right_formed hX b hb
    · obtain rfl := List.mem_singleton.1 hb; exact ha
  rw [sum_same (right_formed hr) (right_disj hr) hfm hd fun p => ?_]
  · exact sum_snoc X a
  · rw [(putC_is hX ha).2, tab_app]
    by_cases hc : Cov a p
    · rw [if_pos hc, hfree p hc]; simp [tab, hc]
    · rw [if_neg hc]; simp [tab, hc]
theorem sum_le : ∀ {r : List Ar} {st : Int}, Rest st r → 0 ≤ sumL r ∧ sumL r ≤ 2097152 - st
  | [], st, h => by have := h.hi; simp [sumL]; omega
  | a :: r, st, h => by
    have ih := sum_le h.tail
    have ha := formed_num (h.formed a (by simp))
    have hs := h.from' a (by simp)
    simp only [sumL]; omega
theorem sums_from' {l : List Ar} (h : RightL l) : 0 ≤ sumL l ∧ sumL l ≤ 2097152 := by
  have := sum_le (Rest.of_right h); omega
end Go.Proofs.Ytmppodobgkhojaa
