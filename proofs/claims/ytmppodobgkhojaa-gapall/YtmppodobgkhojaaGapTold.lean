/-
  Layer 8: gaps told one by one, page by page. No program is asked.
-/
import Derived.Test.YtmppodobgkhojaaGapRef
namespace Go.Proofs.Ytmppodobgkhojaa
set_option linter.unusedVariables false

/-- How many gaps begin ahead of a page. -/
structure Begun (gs : List Gp) (m n : Nat) : Prop where
  le : n ≤ gs.length
  lo : ∀ i (h : i < gs.length), i < n → gs[i].s < 4096 * (m : Int)
  hi : ∀ i (h : i < gs.length), n ≤ i → 4096 * (m : Int) ≤ gs[i].s
theorem Begun.first {gs : List Gp} (hg : ∀ g ∈ gs, GoodG g) : Begun gs 16 0 :=
  ⟨Nat.zero_le _, fun i h hi => by omega, fun i h hi => by have := (hg _ (List.getElem_mem h)).lo; omega⟩
theorem Begun.pass {gs : List Gp} {m n : Nat} (h : Begun gs m n) (hg : ∀ g ∈ gs, GoodG g) (hno : ∀ g ∈ gs, g.s ≠ 4096 * (m : Int)) : Begun gs (m + 1) n :=
  ⟨h.le, fun i k hi => by have := h.lo i k hi; omega, fun i k hi => by
    have h1 := h.hi i k hi
    have h2 := hno _ (List.getElem_mem k)
    have h3 := (hg _ (List.getElem_mem k)).sp
    omega⟩
theorem Begun.take {gs : List Gp} {m n : Nat} (h : Begun gs m n) (hg : ∀ g ∈ gs, GoodG g) (hp : Apart gs) (hn : n < gs.length) (he : gs[n].s = 4096 * (m : Int)) : Begun gs (m + 1) (n + 1) :=
  ⟨by omega, fun i k hi => by
    rcases Nat.lt_or_ge i n with h1 | h1
    · have := h.lo i k h1; omega
    · have hi : i = n := by omega
      subst hi; omega,
   fun i k hi => by
    have h1 := List.pairwise_iff_getElem.1 hp n i hn k (by omega)
    have h2 := (hg _ (List.getElem_mem hn)).lt
    have h3 := (hg _ (List.getElem_mem k)).sp
    omega⟩
theorem Begun.all {gs : List Gp} {n : Nat} (h : Begun gs 512 n) (hg : ∀ g ∈ gs, GoodG g) : n = gs.length := by
  have hl := h.le
  rcases Nat.lt_or_ge n gs.length with h1 | h1
  · have h2 := h.hi n h1 (Nat.le_refl _)
    have h3 := hg _ (List.getElem_mem h1)
    have := h3.lt; have := h3.hi
    omega
  · omega
theorem Begun.here {gs : List Gp} {m n : Nat} (h : Begun gs m n) (hg : ∀ g ∈ gs, GoodG g) (hp : Apart gs) {g : Gp} (hm : g ∈ gs) (he : g.s = 4096 * (m : Int)) : ∃ hn : n < gs.length, gs[n].s = 4096 * (m : Int) := by
  obtain ⟨i, k, rfl⟩ := List.getElem_of_mem hm
  rcases Nat.lt_trichotomy i n with h1 | h1 | h1
  · have := h.lo i k h1; omega
  · subst h1; exact ⟨k, he⟩
  · have hn : n < gs.length := by omega
    have h2 := List.pairwise_iff_getElem.1 hp n i hn k h1
    have h3 := h.hi n hn (Nat.le_refl _)
    have h4 := (hg _ (List.getElem_mem hn)).lt
    omega

/-- What the pages say of the gaps. -/
structure PagesOf (s : Sp) (gs : List Gp) : Prop where
  pg : ∀ p : Nat, 16 ≤ p → p < 512 → (s p = none ↔ ∃ g ∈ gs, InG g p)
  good : ∀ g ∈ gs, GoodG g
  apart : Apart gs
theorem pagesOf {X : List Ar} (hX : RightL X) : PagesOf (spK X X.length) (gapsL X) :=
  ⟨fun p h1 h2 => by rw [spK_free p h1 h2, gaps_page hX p], gapsL_good, gapsL_apart X⟩
section
variable {s : Sp} {gs : List Gp} {m n : Nat}
theorem PagesOf.mapped (h : PagesOf s gs) (h1 : 16 ≤ m) (h2 : m < 512) {x : At} (hs : s m = some x) : ∀ g ∈ gs, g.s ≠ 4096 * (m : Int) := fun g hg he => by
  have := (h.pg m h1 h2).2 ⟨g, hg, by have := (h.good g hg).lt; unfold InG; omega⟩
  rw [hs] at this; cases this
theorem PagesOf.run (h : PagesOf s gs) (h1 : 16 ≤ m) (h2 : m + 1 < 512) (hs : s m = none) : ∀ g ∈ gs, g.s ≠ 4096 * ((m + 1 : Nat) : Int) := fun g hg he => by
  obtain ⟨k, hk, hi⟩ := (h.pg m h1 (by omega)).1 hs
  have k1 := (h.good k hk).ep; have k2 := (h.good k hk).lt; have g2 := (h.good g hg).lt
  unfold InG at hi
  rcases apart_eq h.apart hg hk with rfl | h3 | h3 <;> omega
theorem PagesOf.start (h : PagesOf s gs) (h1 : 16 ≤ m) (h2 : m < 512) (hs : s m = none) (hb : m = 16 ∨ ∃ j x, m = j + 1 ∧ s j = some x) : ∃ g ∈ gs, g.s = 4096 * (m : Int) := by
  obtain ⟨g, hg, hi⟩ := (h.pg m h1 h2).1 hs
  have g1 := (h.good g hg).sp; have g2 := (h.good g hg).lo
  unfold InG at hi
  refine ⟨g, hg, ?_⟩
  rcases hb with hb | ⟨j, x, rfl, hx⟩
  · omega
  · rcases Int.lt_or_le g.s (4096 * ((j + 1 : Nat) : Int)) with h3 | h3
    · exfalso
      have := (h.pg j (by omega) (by omega)).2 ⟨g, hg, by unfold InG; omega⟩
      rw [hx] at this; cases this
    · omega
theorem PagesOf.on (h : PagesOf s gs) {g : Gp} (hg : g ∈ gs) {q : Nat} (h1 : g.s ≤ 4096 * (q : Int)) (h2 : 4096 * (q : Int) < g.e) : q < 512 ∧ s q = none := by
  have g1 := (h.good g hg).lo; have g2 := (h.good g hg).hi
  exact ⟨by omega, (h.pg q (by omega) (by omega)).2 ⟨g, hg, h1, h2⟩⟩
theorem PagesOf.over (h : PagesOf s gs) {g : Gp} (hg : g ∈ gs) {q : Nat} (h1 : 4096 * (q : Int) = g.e) (h2 : q < 512) : ∃ x, s q = some x := by
  cases hs : s q with
  | some x => exact ⟨x, rfl⟩
  | none =>
    exfalso
    have g1 := (h.good g hg).lo; have g2 := (h.good g hg).lt
    obtain ⟨k, hk, hi⟩ := (h.pg q (by omega) h2).1 hs
    unfold InG at hi
    rcases apart_eq h.apart hg hk with rfl | h3 | h3 <;> omega
end
theorem most_take {gs : List Gp} (hg : ∀ g ∈ gs, GoodG g) {k : Nat} (h : k < gs.length) : mostL (gs.take (k + 1)) = max (mostL (gs.take k)) (gs[k].e - gs[k].s) := by
  have := (hg _ (List.getElem_mem h)).lt
  rw [List.take_succ_eq_append_getElem h, most_snoc]
  omega
theorem most_take_bound {gs : List Gp} (hg : ∀ g ∈ gs, GoodG g) (k : Nat) : 0 ≤ mostL (gs.take k) ∧ mostL (gs.take k) ≤ 2031616 := by
  have h0 : ∀ l : List Gp, (∀ g ∈ l, GoodG g) → 0 ≤ mostL l ∧ mostL l ≤ 2031616 := fun l => by
    induction l with
    | nil => intro _; simp [mostL]
    | cons a r ih =>
      intro h
      have := ih (fun g hg => h g (by simp [hg]))
      have ha := h a (by simp)
      have := ha.lo; have := ha.hi; have := ha.lt
      rw [most_cons]; omega
  exact h0 _ (fun g h => hg g (List.take_subset _ _ h))
end Go.Proofs.Ytmppodobgkhojaa
