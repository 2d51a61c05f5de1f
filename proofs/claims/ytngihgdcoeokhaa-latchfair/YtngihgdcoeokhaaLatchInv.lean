/-
  Layer 5, pure: one at a time has the latch, in the order of tickets; taken in turns all have had it.
-/
import Derived.Test.YtngihgdcoeokhaaLatchRef
namespace Go.Proofs.Ytngihgdcoeokhaa
open Go.RowKit
set_option linter.unusedVariables false

theorem wrap_small (a : Int) (h0 : 0 ≤ a) (h1 : a ≤ 1000000) : wrap64 a = a := by unfold wrap64; omega

/-- Where a thread may be, while s is served and d is drawn next. -/
def Stands (x : Th) (B : Bd) : Prop :=
  x.at_ = 0 ∨ (x.at_ = 1 ∧ B.s ≤ x.tk ∧ x.tk < B.d) ∨ (x.at_ = 2 ∧ x.tk = B.s ∧ B.s < B.d) ∨ (x.at_ = 3 ∧ x.tk = B.s ∧ B.s < B.d ∧ x.saw = B.s) ∨ (x.at_ = 4 ∧ x.tk = B.s ∧ B.s < B.d) ∨ (x.at_ = 5 ∧ 0 ≤ x.tk ∧ x.tk < B.s)
/-- What stays. -/
structure Inv (P : Nat) (xf : Nat → Th) (B : Bd) (k : Nat) : Prop where
  s0 : 0 ≤ B.s
  sd : B.s ≤ B.d
  dk : B.d ≤ k
  th : ∀ i, i < P → Stands (xf i) B
  ap : ∀ i j, i < P → j < P → i ≠ j → (xf i).at_ ≠ 0 → (xf j).at_ ≠ 0 → (xf i).tk ≠ (xf j).tk
  num : ((∃ i, i < P ∧ (xf i).at_ = 4) ∧ B.n = B.s + 1) ∨ ((∀ i, i < P → (xf i).at_ ≠ 4) ∧ B.n = B.s)

theorem inv_new (P : Nat) : Inv P (fun _ => th0) ⟨0, 0, 0⟩ 0 :=
  ⟨Int.le_refl _, Int.le_refl _, Int.le_refl _, fun i hi => .inl rfl, fun i j _ _ _ h => absurd rfl h, .inr ⟨fun i hi h => absurd h (by decide), rfl⟩⟩

/-- A thread that is set. -/
theorem inv_upd {P : Nat} {xf : Nat → Th} {B B' : Bd} {k i : Nat} {y : Th} (I : Inv P xf B k) (hi : i < P) (h0 : 0 ≤ B'.s) (hsd : B'.s ≤ B'.d) (hdk : B'.d ≤ (k + 1 : Nat)) (hy : Stands y B')
    (hot : ∀ j, j < P → j ≠ i → Stands (xf j) B') (hap : ∀ j, j < P → j ≠ i → (xf j).at_ ≠ 0 → y.at_ ≠ 0 → (xf j).tk ≠ y.tk)
    (hnum : ((∃ j, j < P ∧ (upd xf i y j).at_ = 4) ∧ B'.n = B'.s + 1) ∨ ((∀ j, j < P → (upd xf i y j).at_ ≠ 4) ∧ B'.n = B'.s)) : Inv P (upd xf i y) B' (k + 1) := by
  refine ⟨h0, hsd, hdk, fun j hj => ?_, fun a j ha hj hne h1 h2 => ?_, hnum⟩
  · by_cases hji : j = i
    · subst hji; rw [upd_same]; exact hy
    · rw [upd_other _ _ hji]; exact hot j hj hji
  · by_cases hai : a = i
    · subst hai
      have hja : j ≠ a := fun h => hne h.symm
      rw [upd_same] at h1 ⊢
      rw [upd_other _ _ hja] at h2 ⊢
      exact Ne.symm (hap j hj hja h2 h1)
    · rw [upd_other _ _ hai] at h1 ⊢
      by_cases hji : j = i
      · subst hji
        rw [upd_same] at h2 ⊢
        exact hap a ha hai h1 h2
      · rw [upd_other _ _ hji] at h2 ⊢
        exact I.ap a j ha hj hne h1 h2

theorem inv_step {P : Nat} {xf : Nat → Th} {B : Bd} {k i : Nat} (I : Inv P xf B k) (hi : i < P) (hk : k < 400) :
    Inv P (upd xf i (ustep (xf i) B).1) (ustep (xf i) B).2 (k + 1) ∧ (ustep (xf i) B).2.s = B.s + (if (xf i).at_ = 4 then 1 else 0) := by
  have h0 := I.s0
  have hsd := I.sd
  have hdk := I.dk
  -- nobody else is inside
  have others : (xf i).at_ ≠ 0 → (xf i).tk = B.s → ∀ j, j < P → j ≠ i → ((xf j).at_ = 0 ∨ ((xf j).at_ = 1 ∧ B.s < (xf j).tk ∧ (xf j).tk < B.d) ∨ ((xf j).at_ = 5 ∧ 0 ≤ (xf j).tk ∧ (xf j).tk < B.s)) := by
    intro hz htk j hj hji
    have hap := I.ap i j hi hj (Ne.symm hji) hz
    rcases I.th j hj with h | ⟨h, h1, h2⟩ | ⟨h, h1, _⟩ | ⟨h, h1, _⟩ | ⟨h, h1, _⟩ | ⟨h, h1, h2⟩
    · exact .inl h
    · have := hap (by omega); exact .inr (.inl ⟨h, by omega, h2⟩)
    · have := hap (by omega); omega
    · have := hap (by omega); omega
    · have := hap (by omega); omega
    · exact .inr (.inr ⟨h, h1, h2⟩)
  have keep : ∀ y : Th, (y.at_ = 4 ↔ (xf i).at_ = 4) → ((∃ j, j < P ∧ (upd xf i y j).at_ = 4) ∧ B.n = B.s + 1) ∨ ((∀ j, j < P → (upd xf i y j).at_ ≠ 4) ∧ B.n = B.s) := by
    intro y hy
    rcases I.num with ⟨⟨j, hj, h4⟩, hn⟩ | ⟨h, hn⟩
    · refine .inl ⟨⟨j, hj, ?_⟩, hn⟩
      by_cases hji : j = i
      · subst hji; rw [upd_same]; exact hy.2 h4
      · rw [upd_other _ _ hji]; exact h4
    · refine .inr ⟨fun j hj => ?_, hn⟩
      by_cases hji : j = i
      · subst hji; rw [upd_same]; exact fun h4 => h j hj (hy.1 h4)
      · rw [upd_other _ _ hji]; exact h j hj
  rcases I.th i hi with h | ⟨h, h1, h2⟩ | ⟨h, h1, h2⟩ | ⟨h, h1, h2, h3⟩ | ⟨h, h1, h2⟩ | ⟨h, h1, h2⟩
  · -- it draws
    have e : ustep (xf i) B = (⟨1, B.d, (xf i).saw⟩, ⟨B.n, B.d + 1, B.s⟩) := by
      simp [ustep, h, wrap_small (B.d + 1) (by omega) (by omega)]
    rw [e]
    refine ⟨inv_upd I hi h0 (by simp only; omega) (by simp only; omega) (.inr (.inl ⟨rfl, by simp only; omega, by simp only; omega⟩)) (fun j hj hji => ?_) (fun j hj hji hz _ => ?_) ?_, by simp [h]⟩
    · rcases I.th j hj with g | ⟨g, g1, g2⟩ | ⟨g, g1, g2⟩ | ⟨g, g1, g2, g3⟩ | ⟨g, g1, g2⟩ | ⟨g, g1, g2⟩
      · exact .inl g
      · exact .inr (.inl ⟨g, g1, by simp only; omega⟩)
      · exact .inr (.inr (.inl ⟨g, g1, by simp only; omega⟩))
      · exact .inr (.inr (.inr (.inl ⟨g, g1, by simp only; omega, g3⟩)))
      · exact .inr (.inr (.inr (.inr (.inl ⟨g, g1, by simp only; omega⟩))))
      · exact .inr (.inr (.inr (.inr (.inr ⟨g, g1, g2⟩))))
    · rcases I.th j hj with g | ⟨g, g1, g2⟩ | ⟨g, g1, g2⟩ | ⟨g, g1, g2, g3⟩ | ⟨g, g1, g2⟩ | ⟨g, g1, g2⟩
      all_goals (simp only; omega)
    · exact keep ⟨1, B.d, (xf i).saw⟩ (by simp [h])
  · -- it waits
    by_cases hs : B.s = (xf i).tk
    · have e : ustep (xf i) B = (⟨2, (xf i).tk, (xf i).saw⟩, B) := by simp [ustep, h, hs]
      rw [e]
      refine ⟨inv_upd I hi h0 hsd (by simp only; omega) (.inr (.inr (.inl ⟨rfl, hs.symm, by simp only; omega⟩))) (fun j hj _ => I.th j hj) (fun j hj hji hz _ => I.ap j i hj hi hji hz (by omega)) (keep _ (by simp [h])), by simp [h]⟩
    · have e : ustep (xf i) B = (xf i, B) := by simp [ustep, h, hs]
      rw [e]
      refine ⟨inv_upd I hi h0 hsd (by simp only; omega) (I.th i hi) (fun j hj _ => I.th j hj) (fun j hj hji hz hy => I.ap j i hj hi hji hz hy) (keep _ Iff.rfl), by simp [h]⟩
  · -- it loads
    have ot := others (by omega) h1
    have hn : B.n = B.s := by
      rcases I.num with ⟨⟨j, hj, h4⟩, hn⟩ | ⟨_, hn⟩
      · by_cases hji : j = i
        · subst hji; omega
        · rcases ot j hj hji with g | ⟨g, _⟩ | ⟨g, _⟩ <;> omega
      · exact hn
    have e : ustep (xf i) B = (⟨3, (xf i).tk, B.n⟩, B) := by simp [ustep, h]
    rw [e]
    refine ⟨inv_upd I hi h0 hsd (by simp only; omega) (.inr (.inr (.inr (.inl ⟨rfl, h1, h2, hn⟩)))) (fun j hj _ => I.th j hj) (fun j hj hji hz _ => I.ap j i hj hi hji hz (by omega)) (keep _ (by simp [h])), by simp [h]⟩
  · -- it stores
    have e : ustep (xf i) B = (⟨4, (xf i).tk, (xf i).saw⟩, ⟨B.s + 1, B.d, B.s⟩) := by
      simp [ustep, h, h3, wrap_small (B.s + 1) (by omega) (by omega)]
    rw [e]
    refine ⟨inv_upd I hi h0 hsd (by simp only; omega) (.inr (.inr (.inr (.inr (.inl ⟨rfl, h1, h2⟩))))) (fun j hj _ => I.th j hj) (fun j hj hji hz _ => I.ap j i hj hi hji hz (by omega)) (.inl ⟨⟨i, hi, by rw [upd_same]⟩, rfl⟩), by simp [h]⟩
  · -- it gives back
    have ot := others (by omega) h1
    have hn : B.n = B.s + 1 := by
      rcases I.num with ⟨_, hn⟩ | ⟨h4, _⟩
      · exact hn
      · exact absurd h (h4 i hi)
    have e : ustep (xf i) B = (⟨5, (xf i).tk, (xf i).saw⟩, ⟨B.n, B.d, B.s + 1⟩) := by
      simp [ustep, h, h1, wrap_small (B.s + 1) (by omega) (by omega)]
    rw [e]
    refine ⟨inv_upd I hi (by simp only; omega) (by simp only; omega) (by simp only; omega) (.inr (.inr (.inr (.inr (.inr ⟨rfl, by simp only; omega, by simp only; omega⟩))))) (fun j hj hji => ?_) (fun j hj hji hz _ => I.ap j i hj hi hji hz (by omega)) (.inr ⟨fun j hj => ?_, hn⟩), by simp [h]⟩
    · rcases ot j hj hji with g | ⟨g, g1, g2⟩ | ⟨g, g1, g2⟩
      · exact .inl g
      · exact .inr (.inl ⟨g, by simp only; omega, g2⟩)
      · exact .inr (.inr (.inr (.inr (.inr ⟨g, g1, by simp only; omega⟩))))
    · by_cases hji : j = i
      · subst hji; rw [upd_same]; simp
      · rw [upd_other _ _ hji]
        rcases ot j hj hji with g | ⟨g, g1, g2⟩ | ⟨g, g1, g2⟩ <;> omega
  · -- it is over
    have e : ustep (xf i) B = (xf i, B) := by simp [ustep, h]
    rw [e]
    refine ⟨inv_upd I hi h0 hsd (by simp only; omega) (I.th i hi) (fun j hj _ => I.th j hj) (fun j hj hji hz hy => I.ap j i hj hi hji hz hy) (keep _ Iff.rfl), by simp [h]⟩

/-- No addition is lost. -/
theorem Inv.more {P : Nat} {xf : Nat → Th} {B : Bd} {k : Nat} (I : Inv P xf B k) : B.s ≤ B.n := by
  rcases I.num with ⟨_, h⟩ | ⟨_, h⟩ <;> omega

/-- The ticket of thread i of N, where the first one to draw is f. -/
def tkOf (N f i : Nat) : Nat := if f ≤ i then i - f else i + N - f
theorem tkOf_lt {N f i : Nat} (hf : f < N) (hi : i < N) : tkOf N f i < N := by unfold tkOf; split <;> omega
theorem tkOf_inj {N f i j : Nat} (hf : f < N) (hi : i < N) (hj : j < N) (h : tkOf N f i = tkOf N f j) : i = j := by
  unfold tkOf at h
  split at h <;> split at h <;> omega
theorem tkOf_pick (N first k q j : Nat) (hN : 0 < N) (hk : k = q * N + j) (hj : j < N) : (k + first) % N < N ∧ tkOf N (first % N) ((k + first) % N) = j := by
  refine ⟨Nat.mod_lt _ hN, ?_⟩
  have hf := Nat.mod_lt first hN
  have e : (k + first) % N = (j + first % N) % N := by
    rw [hk, Nat.add_assoc, Nat.add_comm, Nat.add_mul_mod_self_right, Nat.add_mod_mod]
  rw [e]
  generalize first % N = f at *
  unfold tkOf
  by_cases h : j + f < N
  · rw [Nat.mod_eq_of_lt h, if_pos (by omega)]; omega
  · rw [Nat.mod_eq_sub_mod (by omega), Nat.mod_eq_of_lt (by omega), if_neg (by omega)]; omega
theorem tkOf_int (N f i : Nat) (hf : f < N) (hi : i < N) : ((i : Int) - f + N).tmod N = tkOf N f i := by
  rw [Int.tmod_eq_emod_of_nonneg (by omega)]
  unfold tkOf
  by_cases h : f ≤ i
  · rw [if_pos h, Int.add_emod_right, Int.emod_eq_of_lt (by omega) (by omega)]; omega
  · rw [if_neg h, Int.emod_eq_of_lt (by omega) (by omega)]; omega

/-- Behind the first round: s have given it back, the next one is at a. -/
structure Later (N f q j s a : Nat) (xf : Nat → Th) (B : Bd) : Prop where
  sN : s ≤ N
  a1 : 1 ≤ a
  a4 : a ≤ 4
  sa : s = N → a = 1
  B : B = ⟨(s : Int) + (if a = 4 then 1 else 0), N, s⟩
  tk : ∀ i, i < N → (xf i).tk = tkOf N f i
  lo : ∀ i, i < N → tkOf N f i < s → (xf i).at_ = 5
  eq : ∀ i, i < N → tkOf N f i = s → (xf i).at_ = a ∧ (a = 3 → (xf i).saw = s)
  hi : ∀ i, i < N → s < tkOf N f i → (xf i).at_ = 1
  go : s = N ∨ (q ≤ 4 * s + a ∧ (q ≤ 4 * s + a - 1 ∨ j ≤ s))
/-- Where all are at step k. -/
def Fair (N f k : Nat) (xf : Nat → Th) (B : Bd) : Prop :=
  (k < N ∧ B = ⟨0, k, 0⟩ ∧ ∀ i, i < N → (tkOf N f i < k → xf i = ⟨1, tkOf N f i, 0⟩) ∧ (k ≤ tkOf N f i → xf i = th0)) ∨
  ∃ q j s a, k = q * N + j ∧ j < N ∧ Later N f q j s a xf B

theorem fair_new (N f : Nat) (hN : 0 < N) : Fair N f 0 (fun _ => th0) ⟨0, 0, 0⟩ := .inl ⟨hN, rfl, fun i hi => ⟨fun h => by omega, fun _ => rfl⟩⟩

/-- The place of the next step. -/
theorem next_place (N k q j : Nat) (hk : k = q * N + j) (hj : j < N) : ∃ q' j', k + 1 = q' * N + j' ∧ j' < N ∧ ((q' = q ∧ j' = j + 1) ∨ (q' = q + 1 ∧ j' = 0 ∧ j + 1 = N)) := by
  by_cases h : j + 1 = N
  · exact ⟨q + 1, 0, by rw [Nat.succ_mul]; omega, by omega, .inr ⟨rfl, rfl, h⟩⟩
  · exact ⟨q, j + 1, by omega, by omega, .inl ⟨rfl, rfl⟩⟩

theorem later_step {N f q j q' j' s a i : Nat} {xf : Nat → Th} {B : Bd} (L : Later N f q j s a xf B) (hf : f < N) (hN : N ≤ 1000) (hi : i < N) (hj : tkOf N f i = j)
    (hp : (q' = q ∧ j' = j + 1) ∨ (q' = q + 1 ∧ j' = 0 ∧ j + 1 = N)) : ∃ s' a', Later N f q' j' s' a' (upd xf i (ustep (xf i) B).1) (ustep (xf i) B).2 := by
  have l1 := L.sN
  have l2 := L.a1
  have l3 := L.a4
  have l4 := L.sa
  have l5 := L.go
  have hjN := tkOf_lt hf hi
  have htk := L.tk i hi
  have same : ustep (xf i) B = (xf i, B) → j ≠ s → ∃ s' a', Later N f q' j' s' a' (upd xf i (ustep (xf i) B).1) (ustep (xf i) B).2 := by
    intro e hjs
    rw [e]
    have hu : upd xf i (xf i) = xf := by
      funext k
      by_cases hk : k = i
      · subst hk; rw [upd_same]
      · rw [upd_other _ _ hk]
    rw [hu]
    exact ⟨s, a, l1, l2, l3, l4, L.B, L.tk, L.lo, L.eq, L.hi, by omega⟩
  rcases Nat.lt_trichotomy (tkOf N f i) s with h | h | h
  · exact same (ustep_over _ _ (L.lo i hi h)) (by omega)
  · obtain ⟨hat, hsaw⟩ := L.eq i hi h
    have ne : ∀ k, k < N → k ≠ i → tkOf N f k ≠ s := fun k hk hki he => hki (tkOf_inj hf hk hi (he.trans h.symm))
    -- the one that is served goes on, and is not over
    have goes : ∀ (y : Th) (B' : Bd), ustep (xf i) B = (y, B') → y.tk = (xf i).tk → y.at_ = a + 1 → a < 4 → (a + 1 = 3 → y.saw = s) → B' = ⟨(s : Int) + (if a + 1 = 4 then 1 else 0), N, s⟩ → ∃ s' a', Later N f q' j' s' a' (upd xf i (ustep (xf i) B).1) (ustep (xf i) B).2 := by
      intro y B' e ht ha h4 hs hB
      rw [e]
      refine ⟨s, a + 1, l1, by omega, by omega, fun h9 => by omega, hB, fun k hk => ?_, fun k hk hl => ?_, fun k hk hl => ?_, fun k hk hl => ?_, by omega⟩
      · by_cases hki : k = i
        · subst hki; rw [upd_same, ht]; exact L.tk k hk
        · rw [upd_other _ _ hki]; exact L.tk k hk
      · have hki : k ≠ i := fun h9 => by subst h9; omega
        rw [upd_other _ _ hki]; exact L.lo k hk hl
      · have hki : k = i := tkOf_inj hf hk hi (hl.trans h.symm)
        subst hki
        rw [upd_same]; exact ⟨ha, hs⟩
      · have hki : k ≠ i := fun h9 => by subst h9; omega
        rw [upd_other _ _ hki]; exact L.hi k hk hl
    have hB := L.B
    have hcase : a = 1 ∨ a = 2 ∨ a = 3 ∨ a = 4 := by omega
    rcases hcase with rfl | rfl | rfl | rfl
    · refine goes ⟨2, (xf i).tk, (xf i).saw⟩ B ?_ rfl rfl (by omega) (fun h9 => by omega) (by rw [hB]; simp)
      have : B.s = (xf i).tk := by rw [hB, htk, h]
      simp [ustep, hat, this]
    · refine goes ⟨3, (xf i).tk, B.n⟩ B ?_ rfl rfl (by omega) (fun _ => by rw [hB]; simp) (by rw [hB]; simp)
      simp [ustep, hat]
    · refine goes ⟨4, (xf i).tk, (xf i).saw⟩ ⟨(s : Int) + 1, N, s⟩ ?_ rfl rfl (by omega) (fun h9 => by omega) (by simp)
      simp [ustep, hat, hsaw rfl, wrap_small ((s : Int) + 1) (by omega) (by omega)]
      rw [hB]
      simp
    · have e : ustep (xf i) B = (⟨5, (xf i).tk, (xf i).saw⟩, ⟨(s : Int) + 1, N, (s : Int) + 1⟩) := by
        simp [ustep, hat, htk, h, wrap_small ((s : Int) + 1) (by omega) (by omega)]
        rw [hB]
        simp
      rw [e]
      refine ⟨s + 1, 1, by omega, by omega, by omega, fun _ => rfl, by simp, fun k hk => ?_, fun k hk hl => ?_, fun k hk hl => ?_, fun k hk hl => ?_, by omega⟩
      · by_cases hki : k = i
        · subst hki; rw [upd_same]; exact L.tk k hk
        · rw [upd_other _ _ hki]; exact L.tk k hk
      · by_cases hki : k = i
        · subst hki; rw [upd_same]
        · rw [upd_other _ _ hki]
          have := ne k hk hki
          exact L.lo k hk (by omega)
      · have hki : k ≠ i := fun h9 => by subst h9; omega
        rw [upd_other _ _ hki]
        exact ⟨L.hi k hk (by omega), fun h9 => by omega⟩
      · have hki : k ≠ i := fun h9 => by subst h9; omega
        rw [upd_other _ _ hki]
        exact L.hi k hk (by omega)
  · refine same ?_ (by omega)
    have hat := L.hi i hi h
    have : B.s ≠ (xf i).tk := by rw [L.B, htk]; simp only; omega
    simp [ustep, hat, this]

theorem fair_step {N f k i : Nat} {xf : Nat → Th} {B : Bd} (F : Fair N f k xf B) (hf : f < N) (hN : N ≤ 1000) (hi : i < N) (hj : ∀ q j, k = q * N + j → j < N → tkOf N f i = j) :
    Fair N f (k + 1) (upd xf i (ustep (xf i) B).1) (ustep (xf i) B).2 := by
  rcases F with ⟨hk, hB, hx⟩ | ⟨q, j, s, a, hk, hjN, L⟩
  · have h0 := hj 0 k (by omega) hk
    have hxi := (hx i hi).2 (by omega)
    have e : ustep (xf i) B = (⟨1, k, 0⟩, ⟨0, (k + 1 : Nat), 0⟩) := by
      rw [hxi, hB]
      simp [ustep, th0, wrap_small ((k : Int) + 1) (by omega) (by omega)]
    rw [e]
    have hall : ∀ l, l < N → (tkOf N f l < k + 1 → upd xf i ⟨1, k, 0⟩ l = ⟨1, tkOf N f l, 0⟩) ∧ (k + 1 ≤ tkOf N f l → upd xf i ⟨1, k, 0⟩ l = th0) := by
      intro l hl
      by_cases hli : l = i
      · subst hli
        rw [upd_same]
        exact ⟨fun _ => by rw [h0], fun h => by omega⟩
      · rw [upd_other _ _ hli]
        have : tkOf N f l ≠ k := fun h => hli (tkOf_inj hf hl hi (h.trans h0.symm))
        exact ⟨fun h => (hx l hl).1 (by omega), fun h => (hx l hl).2 (by omega)⟩
    by_cases hlast : k + 1 < N
    · exact .inl ⟨hlast, rfl, hall⟩
    · have hkN : k + 1 = N := by omega
      have hx1 : ∀ l, l < N → upd xf i ⟨1, k, 0⟩ l = ⟨1, tkOf N f l, 0⟩ := fun l hl => (hall l hl).1 (by have := tkOf_lt hf hl; omega)
      refine .inr ⟨1, 0, 0, 1, by omega, by omega, by omega, by omega, by omega, fun _ => rfl, by simp [hkN], fun l hl => by rw [hx1 l hl], fun l hl h => by omega, fun l hl h => by rw [hx1 l hl]; exact ⟨rfl, fun h => by omega⟩, fun l hl h => by rw [hx1 l hl], by omega⟩
  · obtain ⟨q', j', h1, h2, h3⟩ := next_place N k q j hk hjN
    obtain ⟨s', a', L'⟩ := later_step L hf hN hi (hj q j hk hjN) h3
    exact .inr ⟨q', j', s', a', h1, h2, L'⟩

/-- Behind 8 N N steps all are over. -/
theorem fair_end {N f : Nat} {xf : Nat → Th} {B : Bd} (F : Fair N f (8 * N * N) xf B) (hN : 0 < N) (hf : f < N) : B.n = N ∧ ∀ i, i < N → (xf i).at_ = 5 ∧ (xf i).tk = tkOf N f i := by
  rcases F with ⟨hk, _⟩ | ⟨q, j, s, a, hk, hjN, L⟩
  · have : N ≤ 8 * N * N := Nat.le_trans (by omega : N ≤ 8 * N) (Nat.le_mul_of_pos_right _ hN)
    omega
  · have hq : q = 8 * N := by
      have h1 : (8 * N * N) / N = 8 * N := Nat.mul_div_cancel _ hN
      have h2 : (q * N + j) / N = q := by
        rw [Nat.add_comm, Nat.add_mul_div_right _ _ hN, Nat.div_eq_of_lt hjN, Nat.zero_add]
      rw [← h1, hk, h2]
    have l1 := L.sN
    have l3 := L.a4
    have l4 := L.sa
    have hs : s = N := by
      rcases L.go with h | h <;> omega
    have ha := l4 hs
    refine ⟨?_, fun i hi => ⟨L.lo i hi (by rw [hs]; exact tkOf_lt hf hi), L.tk i hi⟩⟩
    rw [L.B]
    simp [ha, hs]
end Go.Proofs.Ytngihgdcoeokhaa
