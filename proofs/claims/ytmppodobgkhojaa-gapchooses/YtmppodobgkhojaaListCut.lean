/-
  Layer 7: what stays of a list, what lies in a range, what is joined. No program is asked.
-/
import Derived.Test.YtmppodobgkhojaaListPure
namespace Go.Proofs.Ytmppodobgkhojaa
set_option linter.unusedVariables false

/-- Whether a range touches a page. -/
def Touch (lo hi p : Int) : Prop := lo < hi ∧ lo < 4096 * p + 4096 ∧ 4096 * p < hi
instance (lo hi p : Int) : Decidable (Touch lo hi p) := by unfold Touch; infer_instance

/-- The part of an area in a range, if there is one. -/
def partL (a : Ar) (lo hi : Int) : List Ar := if PartA a lo hi then [a.part lo hi] else []
/-- What a range leaves of an area. -/
def outA (lo hi : Int) (a : Ar) : List Ar := if PartA a lo hi then partL a a.s (a.part lo hi).s ++ partL a (a.part lo hi).e a.e else [a]
def insideL (lo hi : Int) (l : List Ar) : List Ar := l.flatMap (fun a => partL a lo hi)
def outsideL (lo hi : Int) (l : List Ar) : List Ar := l.flatMap (outA lo hi)

section
variable {a b : Ar} {lo hi : Int}
theorem part_s (a : Ar) (lo hi : Int) : (a.part lo hi).s = pg (max lo a.s) := rfl
theorem part_e (a : Ar) (lo hi : Int) : (a.part lo hi).e = upg (min hi a.e) := rfl
theorem at_from (a : Ar) (x y : Int) (p : Int) (h : Formed a) (hx : x % 4096 = 0) : ({ a.from x with e := y } : Ar).at p = a.at p := by
  have := formed_num h
  unfold Ar.at
  simp only [Ar.from]
  congr 1
  by_cases hb : 0 < a.bk
  · refine (if_pos hb).trans ((?_ : _ = _).trans (if_pos hb).symm)
    split <;> omega
  · exact (if_neg hb).trans (if_neg hb).symm
/-- A part: where it is, that it is formed, which pages it has, and what they have. -/
theorem part_is (h : PartA a lo hi) : Formed (a.part lo hi) ∧ a.s ≤ (a.part lo hi).s ∧ (a.part lo hi).e ≤ a.e ∧ (∀ p, Cov (a.part lo hi) p ↔ Cov a p ∧ Touch lo hi p) ∧ (∀ p, (a.part lo hi).at p = a.at p) := by
  obtain ⟨hf, hlt⟩ := h
  have hn := formed_num hf
  have h1 := pg_le (max lo a.s)
  have h2 := upg_le (min hi a.e)
  have e1 : a.part lo hi = { a.from (pg (max lo a.s)) with e := upg (min hi a.e) } := rfl
  refine ⟨?_, ?_, ?_, ?_, ?_⟩
  · rw [e1]; exact formed_sub hf (by omega) (by omega) (by omega) h1.2.2 h2.2.2
  · rw [part_s]; omega
  · rw [part_e]; omega
  · intro p
    unfold Cov Touch
    rw [part_s, part_e]
    omega
  · intro p; rw [e1]; exact at_from _ _ _ _ hf h1.2.2
theorem partL_mem (hb : b ∈ partL a lo hi) : PartA a lo hi ∧ b = a.part lo hi := by
  unfold partL at hb
  by_cases h : PartA a lo hi
  · rw [if_pos h] at hb; exact ⟨h, by simpa using hb⟩
  · rw [if_neg h] at hb; cases hb
/-- A page that a range touches in an area is in its part. -/
theorem part_cov (hf : Formed a) {p : Int} (hc : Cov a p) (ht : Touch lo hi p) : PartA a lo hi := by
  have hn := formed_num hf
  refine ⟨hf, ?_⟩
  unfold Cov at hc; unfold Touch at ht
  omega

/-- What is left of an area. -/
theorem outA_is (hf : Formed a) (hb : b ∈ outA lo hi a) : Formed b ∧ a.s ≤ b.s ∧ b.e ≤ a.e ∧ (∀ p, Cov b p → Cov a p ∧ ¬ Touch lo hi p) ∧ (∀ p, b.at p = a.at p) := by
  unfold outA at hb
  by_cases h : PartA a lo hi
  · rw [if_pos h] at hb
    obtain ⟨p1, p2, p3, p4, p5⟩ := part_is h
    rcases List.mem_append.1 hb with hb | hb
    · obtain ⟨k, rfl⟩ := partL_mem hb
      obtain ⟨q1, q2, q3, q4, q5⟩ := part_is k
      refine ⟨q1, q2, q3, fun p hp => ?_, q5⟩
      obtain ⟨c1, c2⟩ := (q4 p).1 hp
      refine ⟨c1, fun ht => ?_⟩
      have := (p4 p).2 ⟨c1, ht⟩
      have np := formed_num p1
      unfold Cov at this; unfold Touch at c2; omega
    · obtain ⟨k, rfl⟩ := partL_mem hb
      obtain ⟨q1, q2, q3, q4, q5⟩ := part_is k
      refine ⟨q1, q2, q3, fun p hp => ?_, q5⟩
      obtain ⟨c1, c2⟩ := (q4 p).1 hp
      refine ⟨c1, fun ht => ?_⟩
      have := (p4 p).2 ⟨c1, ht⟩
      have np := formed_num p1
      unfold Cov at this; unfold Touch at c2; omega
  · rw [if_neg h] at hb
    obtain rfl : b = a := by simpa using hb
    exact ⟨hf, Int.le_refl _, Int.le_refl _, fun p hp => ⟨hp, fun ht => h (part_cov hf hp ht)⟩, fun _ => rfl⟩
/-- A page of an area that a range doesn't touch is left. -/
theorem outA_cov (hf : Formed a) {p : Int} (hc : Cov a p) (ht : ¬ Touch lo hi p) : ∃ b ∈ outA lo hi a, Cov b p := by
  unfold outA
  by_cases h : PartA a lo hi
  · rw [if_pos h]
    obtain ⟨p1, p2, p3, p4, p5⟩ := part_is h
    have np := formed_num p1
    have na := formed_num hf
    have hn : ¬ Cov (a.part lo hi) p := fun hx => ht ((p4 p).1 hx).2
    rcases Int.lt_or_le (4096 * p) (a.part lo hi).s with hl | hl
    · have hk : Touch a.s (a.part lo hi).s p := by unfold Cov at hc; unfold Touch; omega
      have k := part_cov hf hc hk
      refine ⟨a.part a.s (a.part lo hi).s, List.mem_append.2 (.inl ?_), ((part_is k).2.2.2.1 p).2 ⟨hc, hk⟩⟩
      unfold partL; rw [if_pos k]; simp
    · have hk : Touch (a.part lo hi).e a.e p := by unfold Cov at hc hn; unfold Touch; omega
      have k := part_cov hf hc hk
      refine ⟨a.part (a.part lo hi).e a.e, List.mem_append.2 (.inr ?_), ((part_is k).2.2.2.1 p).2 ⟨hc, hk⟩⟩
      unfold partL; rw [if_pos k]; simp
  · rw [if_neg h]; exact ⟨a, by simp, hc⟩
end

/-- What stays of a list: formed, apart, and just the pages that aren't touched. -/
theorem outside_formed {l : List Ar} (hf : ∀ a ∈ l, Formed a) (lo hi : Int) : ∀ b ∈ outsideL lo hi l, Formed b := by
  intro b hb
  obtain ⟨a, ha, hb⟩ := List.mem_flatMap.1 hb
  exact (outA_is (hf a ha) hb).1
theorem inside_formed {l : List Ar} (lo hi : Int) : ∀ b ∈ insideL lo hi l, Formed b := by
  intro b hb
  obtain ⟨a, ha, hb⟩ := List.mem_flatMap.1 hb
  obtain ⟨k, rfl⟩ := partL_mem hb
  exact (part_is k).1

/-- z' may stand wherever z may. -/
def Lax (z' z : Ar) : Prop := z'.e ≤ z.e ∧ ∀ b, Formed b → z.e ≤ b.s → ¬ GoesA z b → ¬ GoesA z' b
theorem Lax.refl (z : Ar) : Lax z z := ⟨Int.le_refl _, fun _ _ _ h => h⟩
theorem after_app : ∀ {u v : List Ar} {z : Ar}, After' z (u ++ v) ↔ After' z u ∧ After' (u.getLastD z) v
  | [], v, z => by simp [After']
  | a :: u, v, z => by
    simp only [List.cons_append, After']
    rw [after_app (u := u)]
    simp only [List.getLastD_cons]
    exact ⟨fun ⟨h1, h2, h3⟩ => ⟨⟨h1, h2⟩, h3⟩, fun ⟨⟨h1, h2⟩, h3⟩ => ⟨h1, h2, h3⟩⟩

/-- A piece of an area that ends with it goes on where that goes on. -/
theorem lax_piece {a b : Ar} (hf : Formed a) (hb : Formed b) (hs : a.s ≤ b.s) (he : b.e ≤ a.e) (hat : ∀ p, b.at p = a.at p) : Lax b a := by
  refine ⟨he, fun c hc h1 h2 h3 => ?_⟩
  have hbe : b.e = a.e := by have := h3.at'; omega
  refine h2 (goes_of_at hf hc (by have := h3.at'; omega) ?_)
  rw [← hat, ← hbe, goes_at h3, h3.at']
theorem ok_piece {z' z a b : Ar} (hz : Lax z' z) (ho : Ok z a) (hb : Formed b) (hs : a.s ≤ b.s) (hat : ∀ p, b.at p = a.at p) : Ok z' b := by
  have h1 := hz.1
  have h2 := ho.2.1
  refine ⟨hb, by omega, fun hg => ?_⟩
  have h3 := hg.at'
  refine hz.2 a ho.1 ho.2.1 ho.2.2 (goes_of_at hg.fa ho.1 (by omega) ?_)
  rw [goes_at hg, hat]
  congr 1
  omega

theorem outside_after : ∀ {l : List Ar} {z z' : Ar} (lo hi : Int), Lax z' z → After' z l → After' z' (outsideL lo hi l)
  | [], _, _, _, _, _, _ => trivial
  | a :: l, z, z', lo, hi, hz, h => by
    obtain ⟨ho, hr⟩ := h
    have hf := ho.1
    have na := formed_num hf
    have skip : After' z' (outsideL lo hi l) := outside_after lo hi ⟨by have := hz.1; have := ho.2.1; omega, fun b hb h1 h2 h3 => by have := h3.at'; have := hz.1; have := ho.2.1; omega⟩ hr
    have one : ∀ x, Formed x → a.s ≤ x.s → x.e ≤ a.e → (∀ p, x.at p = a.at p) → After' z' (x :: outsideL lo hi l) := fun x h1 h2 h3 h4 =>
      ⟨ok_piece hz ho h1 h2 h4, outside_after lo hi (lax_piece hf h1 h2 h3 h4) hr⟩
    have two : ∀ x y, Formed x → a.s ≤ x.s → (∀ p, x.at p = a.at p) → Formed y → a.s ≤ y.s → y.e ≤ a.e → (∀ p, y.at p = a.at p) → x.e < y.s → After' z' (x :: y :: outsideL lo hi l) := fun x y h1 h2 h4 k1 k2 k3 k4 hxy =>
      ⟨ok_piece hz ho h1 h2 h4, ⟨k1, by omega, fun g => by have := g.at'; omega⟩, outside_after lo hi (lax_piece hf k1 k2 k3 k4) hr⟩
    show After' z' (outA lo hi a ++ outsideL lo hi l)
    unfold outA
    by_cases hp : PartA a lo hi
    · rw [if_pos hp]
      obtain ⟨p1, p2, p3, p4, p5⟩ := part_is hp
      have np := formed_num p1
      unfold partL
      by_cases k1 : PartA a a.s (a.part lo hi).s
      · by_cases k2 : PartA a (a.part lo hi).e a.e
        · rw [if_pos k1, if_pos k2]
          obtain ⟨q1, q2, q3, q4, q5⟩ := part_is k1
          obtain ⟨r1, r2, r3, r4, r5⟩ := part_is k2
          refine two _ _ q1 q2 q5 r1 r2 r3 r5 ?_
          generalize (a.part lo hi).s = S at *
          generalize (a.part lo hi).e = E at *
          rw [part_e, part_s, upg_self (by omega), pg_self (by omega)]
          omega
        · rw [if_pos k1, if_neg k2]
          obtain ⟨q1, q2, q3, q4, q5⟩ := part_is k1
          exact one _ q1 q2 q3 q5
      · by_cases k2 : PartA a (a.part lo hi).e a.e
        · rw [if_neg k1, if_pos k2]
          obtain ⟨r1, r2, r3, r4, r5⟩ := part_is k2
          exact one _ r1 r2 r3 r5
        · rw [if_neg k1, if_neg k2]
          exact skip
    · rw [if_neg hp]
      exact one a hf (Int.le_refl _) (Int.le_refl _) (fun _ => rfl)
theorem outside_right {l : List Ar} (lo hi : Int) (h : RightL l) : RightL (outsideL lo hi l) := outside_after lo hi (Lax.refl _) h
theorem outside_tab {l : List Ar} (lo hi : Int) (h : RightL l) (p : Int) : tab (outsideL lo hi l) p = if Touch lo hi p then none else tab l p := by
  have hf := right_formed h
  have hd := right_disj (outside_right lo hi h)
  by_cases ht : Touch lo hi p
  · rw [if_pos ht]
    refine tab_none fun b hb hc => ?_
    obtain ⟨a, ha, hb⟩ := List.mem_flatMap.1 hb
    exact ((outA_is (hf a ha) hb).2.2.2.1 p hc).2 ht
  · rw [if_neg ht]
    cases hl : tab l p with
    | none =>
      refine tab_none fun b hb hc => ?_
      obtain ⟨a, ha, hb⟩ := List.mem_flatMap.1 hb
      exact tab_no hl a ha ((outA_is (hf a ha) hb).2.2.2.1 p hc).1
    | some x =>
      obtain ⟨a, ha, hc, rfl⟩ := tab_some hl
      obtain ⟨b, hb, hbc⟩ := outA_cov (hf a ha) hc ht
      rw [tab_of hd (List.mem_flatMap.2 ⟨a, ha, hb⟩) hbc, (outA_is (hf a ha) hb).2.2.2.2]
end Go.Proofs.Ytmppodobgkhojaa
