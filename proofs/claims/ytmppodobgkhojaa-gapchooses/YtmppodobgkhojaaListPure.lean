/-
  Layer 7: lists of areas, what follows: right lists, their pages, parts that stay, joins. No program is asked.
-/
import Derived.Test.YtmppodobgkhojaaAreaPure
namespace Go.Proofs.Ytmppodobgkhojaa
set_option linter.unusedVariables false

/-- Whether an area has a page. -/
def Cov (a : Ar) (p : Int) : Prop := a.s ≤ 4096 * p ∧ 4096 * p < a.e
instance (a : Ar) (p : Int) : Decidable (Cov a p) := by unfold Cov; infer_instance
/-- What each page has, by a list. -/
def tab : List Ar → Int → Option At
  | [], _ => none
  | a :: l, p => if Cov a p then some (a.at p) else tab l p
/-- No page is in both. -/
def Disj (a b : Ar) : Prop := ∀ p, Cov a p → ¬ Cov b p
theorem Disj.symm {a b : Ar} (h : Disj a b) : Disj b a := fun p h1 h2 => h p h2 h1

/-- Whether an area may stand behind another one. -/
def Ok (z a : Ar) : Prop := Formed a ∧ z.e ≤ a.s ∧ ¬ GoesA z a
instance (z a : Ar) : Decidable (Ok z a) := by unfold Ok; infer_instance
/-- Whether areas may stand behind one. -/
def After' : Ar → List Ar → Prop
  | _, [] => True
  | z, a :: l => Ok z a ∧ After' a l
def rightB : Ar → List Ar → Bool
  | _, [] => true
  | z, a :: l => decide (Ok z a) && rightB a l
theorem rightB_iff : ∀ (z : Ar) (l : List Ar), rightB z l = true ↔ After' z l
  | _, [] => by simp [rightB, After']
  | z, a :: l => by simp [rightB, After', rightB_iff a l]
/-- A right list. -/
def RightL (l : List Ar) : Prop := After' Ar.nil l
instance (l : List Ar) : Decidable (RightL l) := decidable_of_iff (rightB Ar.nil l = true) (rightB_iff _ _)

theorem formed_num {a : Ar} (h : Formed a) : 65536 ≤ a.s ∧ a.s < a.e ∧ a.e ≤ 2097152 ∧ a.s % 4096 = 0 ∧ a.e % 4096 = 0 ∧ 0 ≤ a.p ∧ a.p ≤ 7 ∧ 0 ≤ a.bk ∧ a.bk ≤ 9 ∧ 0 ≤ a.off ∧ a.off % 4096 = 0 ∧ (a.bk = 0 → a.off = 0) ∧ a.off ≤ 1099511627776 - (a.e - a.s) := by
  have := (formed_iff a).1 h; omega
theorem not_formed_nil : ¬ Formed Ar.nil := by
  intro h; have := formed_num h; simp [Ar.nil] at this
theorem ok_nil {a : Ar} (h : Formed a) : Ok Ar.nil a := ⟨h, by have := formed_num h; simp [Ar.nil]; omega, fun g => not_formed_nil g.fa⟩

theorem after_formed : ∀ {z : Ar} {l : List Ar}, After' z l → ∀ a ∈ l, Formed a
  | _, [], _, _, h => by cases h
  | _, b :: l, h, a, ha => by
    rcases List.mem_cons.1 ha with rfl | ha
    · exact h.1.1
    · exact after_formed h.2 a ha
theorem after_from : ∀ {z : Ar} {l : List Ar}, After' z l → ∀ a ∈ l, z.e ≤ a.s
  | _, [], _, _, h => by cases h
  | z, b :: l, h, a, ha => by
    rcases List.mem_cons.1 ha with rfl | ha
    · exact h.1.2.1
    · have h1 := after_from h.2 a ha
      have h2 := (formed_num h.1.1).2.1
      have h3 := h.1.2.1
      omega
theorem disj_of_le {a b : Ar} (h : a.e ≤ b.s) : Disj a b := fun p h1 h2 => by
  obtain ⟨_, h3⟩ := h1; obtain ⟨h4, _⟩ := h2; omega
theorem after_pair : ∀ {z : Ar} {l : List Ar}, After' z l → l.Pairwise (fun a b => a.e ≤ b.s)
  | _, [], _ => .nil
  | _, b :: l, h => .cons (fun a ha => after_from h.2 a ha) (after_pair h.2)
theorem after_disj {z : Ar} {l : List Ar} (h : After' z l) : l.Pairwise Disj := (after_pair h).imp (fun h => disj_of_le h)

theorem tab_some {l : List Ar} {p : Int} {x : At} (h : tab l p = some x) : ∃ a ∈ l, Cov a p ∧ a.at p = x := by
  induction l with
  | nil => cases h
  | cons a l ih =>
    unfold tab at h
    by_cases hc : Cov a p
    · rw [if_pos hc] at h; exact ⟨a, by simp, hc, by simpa using h⟩
    · rw [if_neg hc] at h
      obtain ⟨b, hb, h1⟩ := ih h
      exact ⟨b, by simp [hb], h1⟩
theorem tab_of {l : List Ar} (hd : l.Pairwise Disj) {a : Ar} (ha : a ∈ l) {p : Int} (hc : Cov a p) : tab l p = some (a.at p) := by
  induction l with
  | nil => cases ha
  | cons b l ih =>
    unfold tab
    by_cases hb : Cov b p
    · rw [if_pos hb]
      rcases List.mem_cons.1 ha with rfl | ha
      · rfl
      · exact absurd hc ((List.pairwise_cons.1 hd).1 a ha p hb)
    · rw [if_neg hb]
      rcases List.mem_cons.1 ha with rfl | ha
      · exact absurd hc hb
      · exact ih (List.pairwise_cons.1 hd).2 ha
theorem tab_none {l : List Ar} {p : Int} (h : ∀ a ∈ l, ¬ Cov a p) : tab l p = none := by
  cases ht : tab l p with
  | none => rfl
  | some x => obtain ⟨a, ha, hc, _⟩ := tab_some ht; exact absurd hc (h a ha)
theorem tab_no {l : List Ar} {p : Int} (h : tab l p = none) : ∀ a ∈ l, ¬ Cov a p := by
  intro a ha hc
  induction l with
  | nil => cases ha
  | cons b l ih =>
    unfold tab at h
    by_cases hb : Cov b p
    · rw [if_pos hb] at h; cases h
    · rw [if_neg hb] at h
      rcases List.mem_cons.1 ha with rfl | ha
      · exact hb hc
      · exact ih h ha
/-- Lists that have the same areas have the same pages. -/
theorem tab_perm {l l' : List Ar} (hd : l.Pairwise Disj) (hp : l.Perm l') : ∀ p, tab l p = tab l' p := by
  have hd' : l'.Pairwise Disj := hp.pairwise hd (fun h => h.symm)
  intro p
  cases ht : tab l p with
  | none => exact (tab_none fun a ha => tab_no ht a (hp.mem_iff.2 ha)).symm
  | some x =>
    obtain ⟨a, ha, hc, rfl⟩ := tab_some ht
    exact (tab_of hd' (hp.mem_iff.1 ha) hc).symm

theorem at_first {a : Ar} (h : Formed a) : a.at (a.s / 4096) = ⟨a.p, a.sh, a.bk, a.off⟩ := by
  have := formed_num h
  unfold Ar.at
  congr 1
  split <;> omega
theorem cov_first {a : Ar} (h : Formed a) : Cov a (a.s / 4096) := by
  have := formed_num h; unfold Cov; omega

/-- The areas that go on: by their pages. -/
theorem goes_of_at {a b : Ar} (ha : Formed a) (hb : Formed b) (he : a.e = b.s) (hx : a.at (a.e / 4096) = b.at (b.s / 4096)) : GoesA a b := by
  have h1 := formed_num ha
  have h2 := formed_num hb
  unfold Ar.at at hx
  injection hx with e1 e2 e3 e4
  refine ⟨ha, hb, he, e1, e2, e3, fun hne => ?_⟩
  rw [if_pos (by omega), if_pos (by omega)] at e4
  omega
theorem goes_at {a b : Ar} (h : GoesA a b) (p : Int) : a.at p = b.at p := by
  have h1 := formed_num h.fa
  have h2 := formed_num h.fb
  obtain ⟨_, _, g1, g2, g3, g4, g5⟩ := h
  unfold Ar.at
  rw [g2, g3, g4]
  congr 1
  split
  · have := g5 (by omega); omega
  · rfl

/-- A list is known by its pages. -/
theorem after_unique : ∀ (l l' : List Ar) (z z' : Ar), After' z l → After' z' l' → (∀ p, tab l p = tab l' p) → l = l' := by
  intro l
  induction l with
  | nil =>
    intro l' z z' h h' ht
    cases l' with
    | nil => rfl
    | cons b r =>
      have := ht (b.s / 4096)
      unfold tab at this
      rw [if_pos (cov_first h'.1.1)] at this
      cases this
  | cons a r ih =>
    intro l' z z' h h' ht
    cases l' with
    | nil =>
      have := ht (a.s / 4096)
      unfold tab at this
      rw [if_pos (cov_first h.1.1)] at this
      cases this
    | cons b r' =>
      have ha := formed_num h.1.1
      have hb := formed_num h'.1.1
      -- where the first one begins
      have first : ∀ {x y : Ar} {u v : List Ar} {q q' : Ar}, After' q (x :: u) → After' q' (y :: v) → (∀ p, tab (x :: u) p = tab (y :: v) p) → y.s ≤ x.s := by
        intro x y u v q q' hx hy htt
        have h1 := htt (x.s / 4096)
        unfold tab at h1
        rw [if_pos (cov_first hx.1.1)] at h1
        by_cases hc : Cov y (x.s / 4096)
        · unfold Cov at hc; have := formed_num hx.1.1; omega
        · rw [if_neg hc] at h1
          obtain ⟨c, hcm, hcc, _⟩ := tab_some h1.symm
          have h2 := after_from hy.2 c hcm
          have h3 := formed_num hy.1.1
          have h4 := formed_num hx.1.1
          unfold Cov at hcc; omega
      have hs : a.s = b.s := by
        have h1 := first h h' ht
        have h2 := first h' h (fun p => (ht p).symm)
        omega
      have hat : a.at (a.s / 4096) = b.at (b.s / 4096) := by
        have h1 := ht (a.s / 4096)
        unfold tab at h1
        rw [if_pos (cov_first h.1.1), if_pos (by rw [hs]; exact cov_first h'.1.1)] at h1
        injection h1 with h1
        rw [h1, hs]
      rw [at_first h.1.1, at_first h'.1.1] at hat
      injection hat with e1 e2 e3 e4
      -- where it ends
      have last : ∀ {x y : Ar} {u v : List Ar} {q q' : Ar}, After' q (x :: u) → After' q' (y :: v) → (∀ p, tab (x :: u) p = tab (y :: v) p) → x.s = y.s → x.p = y.p → x.sh = y.sh → x.bk = y.bk → x.off = y.off → y.e ≤ x.e := by
        intro x y u v q q' hx hy htt g1 g2 g3 g4 g5
        have nx := formed_num hx.1.1
        have ny := formed_num hy.1.1
        rcases Int.lt_or_le x.e y.e with hlt | hle
        · exfalso
          have h1 := htt (x.e / 4096)
          unfold tab at h1
          rw [if_neg (by unfold Cov; omega), if_pos (by unfold Cov; omega)] at h1
          obtain ⟨c, hcm, hcc, hca⟩ := tab_some h1
          cases u with
          | nil => cases hcm
          | cons d u =>
            have hd := hx.2.1
            have nd := formed_num hd.1
            have hcd : d.s = x.e ∧ Cov d (x.e / 4096) ∧ d.at (x.e / 4096) = y.at (x.e / 4096) := by
              rcases List.mem_cons.1 hcm with rfl | hcm
              · refine ⟨?_, hcc, hca⟩
                have := hd.2.1; unfold Cov at hcc; omega
              · have h3 := after_from hx.2.2 c hcm
                have h4 := hd.2.1
                unfold Cov at hcc; omega
            refine hd.2.2 (goes_of_at hx.1.1 hd.1 hcd.1.symm ?_)
            rw [hcd.1, hcd.2.2]
            unfold Ar.at
            rw [g2, g3, g4, g5, g1]
        · exact hle
      have he : a.e = b.e := by
        have h1 := last h h' ht hs e1 e2 e3 e4
        have h2 := last h' h (fun p => (ht p).symm) hs.symm e1.symm e2.symm e3.symm e4.symm
        omega
      obtain rfl : a = b := Ar.ext' hs he e1 e2 e3 e4
      rw [ih r' a a h.2 h'.2 ?_]
      intro p
      by_cases hc : Cov a p
      · rw [tab_none (fun c hcm hcc => by have := after_from h.2 c hcm; unfold Cov at hc hcc; omega), tab_none (fun c hcm hcc => by have := after_from h'.2 c hcm; unfold Cov at hc hcc; omega)]
      · have := ht p
        unfold tab at this
        rwa [if_neg hc, if_neg hc] at this
theorem right_unique {l l' : List Ar} (h : RightL l) (h' : RightL l') (ht : ∀ p, tab l p = tab l' p) : l = l' := after_unique l l' _ _ h h' ht
theorem right_formed {l : List Ar} (h : RightL l) : ∀ a ∈ l, Formed a := after_formed h
theorem right_disj {l : List Ar} (h : RightL l) : l.Pairwise Disj := after_disj h

/-- A right list isn't long. -/
theorem after_len : ∀ {l : List Ar} {z : Ar}, After' z l → 65536 ≤ z.e → z.e % 4096 = 0 → z.e + 4096 * l.length ≤ 2097152 ∨ l = []
  | [], _, _, _, _ => .inr rfl
  | a :: l, z, h, hz, hm => by
    have ha := formed_num h.1.1
    have h1 := h.1.2.1
    rcases after_len (l := l) h.2 (by omega) (by omega) with h2 | rfl
    · left; simp only [List.length_cons]; omega
    · left; simp; omega
theorem right_len {l : List Ar} (h : RightL l) : l.length ≤ 496 := by
  cases l with
  | nil => simp
  | cons a l =>
    have ha := formed_num h.1.1
    rcases after_len (l := l) h.2 (by omega) (by omega) with h2 | rfl
    · simp only [List.length_cons]; omega
    · simp
end Go.Proofs.Ytmppodobgkhojaa
