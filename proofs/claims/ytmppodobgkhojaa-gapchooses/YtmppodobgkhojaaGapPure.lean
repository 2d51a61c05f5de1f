/-
  Layer 8: gaps of a list, what lies within bounds, what follows. No program is asked.
-/
import Derived.Test.YtmppodobgkhojaaListJoin
namespace Go.Proofs.Ytmppodobgkhojaa
set_option linter.unusedVariables false

/-- A gap. -/
structure Gp where
  s : Int
  e : Int
def Gp.nil : Gp := ⟨0, 0⟩
/-- A gap as the list has it: whole pages of the space, one at least. -/
structure GoodG (g : Gp) : Prop where
  lo : 65536 ≤ g.s
  lt : g.s < g.e
  hi : g.e ≤ 2097152
  sp : g.s % 4096 = 0
  ep : g.e % 4096 = 0
abbrev GG := { g : Gp // GoodG g }

/-- The gaps from an address on. -/
def gapsFrom : Int → List Ar → List Gp
  | st, [] => if st < 2097152 then [⟨st, 2097152⟩] else []
  | st, a :: l => (if st < a.s then [⟨st, a.s⟩] else []) ++ gapsFrom a.e l
/-- All gaps of a list. -/
def gapsL (l : List Ar) : List Gp := if RightL l then gapsFrom 65536 l else []

/-- What is left of a right list, from an address on. -/
structure Rest (st : Int) (r : List Ar) : Prop where
  formed : ∀ a ∈ r, Formed a
  from' : ∀ a ∈ r, st ≤ a.s
  pair : r.Pairwise (fun a b => a.e ≤ b.s)
  lo : 65536 ≤ st
  hi : st ≤ 2097152
  page : st % 4096 = 0
theorem Rest.of_right {l : List Ar} (h : RightL l) : Rest 65536 l :=
  ⟨right_formed h, fun a ha => (formed_num (right_formed h a ha)).1, after_pair h, by omega, by omega, by omega⟩
theorem Rest.tail {st : Int} {a : Ar} {r : List Ar} (h : Rest st (a :: r)) : Rest a.e r := by
  have ha := formed_num (h.formed a (by simp))
  have hp := List.pairwise_cons.1 h.pair
  exact ⟨fun b hb => h.formed b (by simp [hb]), fun b hb => hp.1 b hb, hp.2, by omega, by omega, by omega⟩
theorem Rest.good {st : Int} {a : Ar} {r : List Ar} (h : Rest st (a :: r)) (hlt : st < a.s) : GoodG ⟨st, a.s⟩ := by
  have ha := formed_num (h.formed a (by simp))
  exact ⟨h.lo, hlt, by simp only; omega, h.page, by simp only; omega⟩
theorem Rest.last {st : Int} (h : Rest st []) (hlt : st < 2097152) : GoodG ⟨st, 2097152⟩ := ⟨h.lo, hlt, by simp, h.page, by simp⟩
theorem gapsFrom_good : ∀ {r : List Ar} {st : Int}, Rest st r → ∀ g ∈ gapsFrom st r, GoodG g
  | [], st, h, g, hg => by
    unfold gapsFrom at hg
    by_cases hl : st < 2097152
    · rw [if_pos hl] at hg; obtain rfl := List.mem_singleton.1 hg; exact h.last hl
    · rw [if_neg hl] at hg; cases hg
  | a :: r, st, h, g, hg => by
    unfold gapsFrom at hg
    rcases List.mem_append.1 hg with hg | hg
    · by_cases hl : st < a.s
      · rw [if_pos hl] at hg; obtain rfl := List.mem_singleton.1 hg; exact h.good hl
      · rw [if_neg hl] at hg; cases hg
    · exact gapsFrom_good h.tail g hg
theorem gapsFrom_len : ∀ (r : List Ar) (st : Int), (gapsFrom st r).length ≤ r.length + 1
  | [], st => by unfold gapsFrom; split <;> simp
  | a :: r, st => by
    have := gapsFrom_len r a.e
    unfold gapsFrom
    rw [List.length_append]
    split <;> simp <;> omega
theorem gapsL_good {l : List Ar} : ∀ g ∈ gapsL l, GoodG g := by
  unfold gapsL
  by_cases h : RightL l
  · rw [if_pos h]; exact gapsFrom_good (Rest.of_right h)
  · rw [if_neg h]; intro g hg; cases hg
theorem gapsL_len (l : List Ar) : (gapsL l).length ≤ l.length + 1 := by
  unfold gapsL
  split
  · exact gapsFrom_len _ _
  · simp

/-! What a page is: free, or in an area. -/
def InG (g : Gp) (p : Int) : Prop := g.s ≤ 4096 * p ∧ 4096 * p < g.e
instance (g : Gp) (p : Int) : Decidable (InG g p) := by unfold InG; infer_instance
/-- Whether a page is free. -/
def FreeP (l : List Ar) (p : Int) : Prop := 16 ≤ p ∧ p < 512 ∧ tab l p = none
theorem tab_none_iff {l : List Ar} {p : Int} : tab l p = none ↔ ∀ a ∈ l, ¬ Cov a p := ⟨tab_no, tab_none⟩
theorem gapsFrom_mem : ∀ {r : List Ar} {st : Int}, Rest st r → ∀ p : Int, (∃ g ∈ gapsFrom st r, InG g p) ↔ (st ≤ 4096 * p ∧ 4096 * p < 2097152 ∧ ∀ a ∈ r, ¬ Cov a p)
  | [], st, h, p => by
    unfold gapsFrom
    by_cases hl : st < 2097152
    · rw [if_pos hl]; simp [InG]
    · rw [if_neg hl]; simp; omega
  | a :: r, st, h, p => by
    have ha := formed_num (h.formed a (by simp))
    have hs := h.from' a (by simp)
    have hp := List.pairwise_cons.1 h.pair
    have ih := gapsFrom_mem h.tail p
    unfold gapsFrom
    have h1 : (∃ g ∈ (if st < a.s then [⟨st, a.s⟩] else []) ++ gapsFrom a.e r, InG g p) ↔ (st ≤ 4096 * p ∧ 4096 * p < a.s) ∨ (∃ g ∈ gapsFrom a.e r, InG g p) := by
      constructor
      · rintro ⟨g, hg, hi⟩
        rcases List.mem_append.1 hg with hg | hg
        · by_cases hl : st < a.s
          · rw [if_pos hl] at hg; obtain rfl := List.mem_singleton.1 hg; exact .inl hi
          · rw [if_neg hl] at hg; cases hg
        · exact .inr ⟨g, hg, hi⟩
      · rintro (hi | ⟨g, hg, hi⟩)
        · refine ⟨⟨st, a.s⟩, List.mem_append.2 (.inl ?_), hi⟩
          rw [if_pos (by omega)]; simp
        · exact ⟨g, List.mem_append.2 (.inr hg), hi⟩
    rw [h1, ih]
    constructor
    · rintro (hi | ⟨h2, h3, h4⟩)
      · refine ⟨hi.1, by omega, fun b hb hc => ?_⟩
        rcases List.mem_cons.1 hb with rfl | hb
        · unfold Cov at hc; omega
        · have := hp.1 b hb; unfold Cov at hc; omega
      · refine ⟨by omega, h3, fun b hb hc => ?_⟩
        rcases List.mem_cons.1 hb with rfl | hb
        · unfold Cov at hc; omega
        · exact h4 b hb hc
    · rintro ⟨h2, h3, h4⟩
      have h5 := h4 a (by simp)
      unfold Cov at h5
      rcases Int.lt_or_le (4096 * p) a.s with hlt | hle
      · exact .inl ⟨h2, hlt⟩
      · exact .inr ⟨by omega, h3, fun b hb => h4 b (by simp [hb])⟩
/-- The gaps, as pages. -/
theorem gaps_page {l : List Ar} (h : RightL l) (p : Int) : (∃ g ∈ gapsL l, InG g p) ↔ FreeP l p := by
  unfold gapsL FreeP
  rw [if_pos h, gapsFrom_mem (Rest.of_right h), tab_none_iff]
  constructor
  · rintro ⟨h1, h2, h3⟩; exact ⟨by omega, by omega, h3⟩
  · rintro ⟨h1, h2, h3⟩; exact ⟨by omega, by omega, h3⟩
/-- Gaps don't touch. -/
def Apart (gs : List Gp) : Prop := gs.Pairwise (fun a b => a.e < b.s)
theorem gapsFrom_from : ∀ {r : List Ar} {st : Int}, Rest st r → ∀ g ∈ gapsFrom st r, st ≤ g.s
  | [], st, h, g, hg => by
    unfold gapsFrom at hg
    by_cases hl : st < 2097152
    · rw [if_pos hl] at hg; obtain rfl := List.mem_singleton.1 hg; simp
    · rw [if_neg hl] at hg; cases hg
  | a :: r, st, h, g, hg => by
    have ha := formed_num (h.formed a (by simp))
    have hs := h.from' a (by simp)
    unfold gapsFrom at hg
    rcases List.mem_append.1 hg with hg | hg
    · by_cases hl : st < a.s
      · rw [if_pos hl] at hg; obtain rfl := List.mem_singleton.1 hg; simp
      · rw [if_neg hl] at hg; cases hg
    · have := gapsFrom_from h.tail g hg; omega
theorem gapsFrom_apart : ∀ {r : List Ar} {st : Int}, Rest st r → Apart (gapsFrom st r)
  | [], st, h => by unfold gapsFrom Apart; split <;> simp
  | a :: r, st, h => by
    have ha := formed_num (h.formed a (by simp))
    unfold gapsFrom
    refine List.pairwise_append.2 ⟨by split <;> simp, gapsFrom_apart h.tail, fun g hg k hk => ?_⟩
    have h1 := gapsFrom_from h.tail k hk
    by_cases hl : st < a.s
    · rw [if_pos hl] at hg; obtain rfl := List.mem_singleton.1 hg; simp only; omega
    · rw [if_neg hl] at hg; cases hg
theorem gapsL_apart (l : List Ar) : Apart (gapsL l) := by
  unfold gapsL
  by_cases h : RightL l
  · rw [if_pos h]; exact gapsFrom_apart (Rest.of_right h)
  · rw [if_neg h]; exact List.Pairwise.nil
end Go.Proofs.Ytmppodobgkhojaa
