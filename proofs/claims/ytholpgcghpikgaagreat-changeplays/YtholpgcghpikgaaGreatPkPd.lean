/-
  Texts of our own, one behind the other (ProtFacts, ProtLaw): what the laws' proofs rest on; each says at its head what it holds. No conditions.
-/
import Derived.Test.YtholpgcghpikgaaGreatPkPc
import Derived.Test.YtholpgcghpikgaaGreatPkB
/-
  Layer 11: what follows, without a program: whole pages that are protected, half by half, and back.
-/
namespace Go.Proofs.YtholpgcghpikgaaGreat
set_option linter.unusedVariables false

theorem prtR_is (X : List Ar) (c : Cl) : ((prtR X c).2 ≠ 0 ∧ (prtR X c).1 = X) ∨ (Prt X c ∧ (prtL X c).length ≤ 24 ∧ prtR X c = (prtL X c, 0)) := by
  unfold prtR
  by_cases he : prtE X c = 0
  · rw [if_pos he]
    by_cases hm : (prtL X c).length ≤ 24
    · rw [if_pos hm]; exact .inr ⟨prt_zero.1 he, hm, rfl⟩
    · rw [if_neg hm]; exact .inl ⟨by simp, rfl⟩
  · rw [if_neg he]; exact .inl ⟨he, rfl⟩
theorem prtR_may {X : List Ar} (hX : MayL X) (c : Cl) : MayL (prtR X c).1 := by
  rcases prtR_is X c with ⟨_, h⟩ | ⟨h1, h2, h3⟩
  · rw [h]; exact hX
  · rw [h3]; exact ⟨setC_right hX.1 _ _ h1.p0 h1.p7, h2⟩
/-- A call that asks for whole pages of the space. -/
structure Pgs (c : Cl) (m0 m1 : Nat) : Prop where
  a : c.a = 4096 * (m0 : Int)
  n : c.n = 4096 * (m1 : Int) - 4096 * (m0 : Int)
  lo : 16 ≤ m0
  lt : m0 < m1
  hi : m1 ≤ 512
theorem Pgs.rg {c : Cl} {m0 m1 : Nat} (h : Pgs c m0 m1) : rgE c.a c.n = 0 ∧ rgA c.a c.n = 4096 * (m0 : Int) ∧ rgB c.a c.n = 4096 * (m1 : Int) := by
  obtain ⟨ha, hn, hl, hm, hh⟩ := h
  have hs : szE c.n = 0 ∧ szV c.n = c.n := by
    rcases sz_is c.n with ⟨h1, _⟩ | ⟨h1, _⟩ | ⟨h1, h2, h3⟩
    · omega
    · omega
    · exact ⟨h2, by omega⟩
  have he : rgE c.a c.n = 0 := by
    unfold rgE
    rw [if_neg (by omega), if_neg (by rw [hs.1]; decide), if_neg (by rw [hs.2]; omega)]
  refine ⟨he, ?_, ?_⟩
  · unfold rgA; rw [if_pos he, ha]
  · unfold rgB; rw [if_pos he, hs.2]; omega
/-- The pages, behind it. -/
theorem Pgs.pages {c : Cl} {m0 m1 : Nat} (h : Pgs c m0 m1) {X : List Ar} (hX : RightL X) (h0 : 0 ≤ c.p) (h7 : c.p ≤ 7) (p : Int) : tab (prtL X c) p = if Touch (4096 * (m0 : Int)) (4096 * (m1 : Int)) p then (tab X p).map (fun x => { x with p := c.p }) else tab X p := by
  obtain ⟨_, e1, e2⟩ := h.rg
  unfold prtL
  rw [e1, e2]
  exact (setC_is hX h0 h7).2 p
theorem Pgs.bad {c : Cl} {m0 m1 : Nat} (h : Pgs c m0 m1) {X : List Ar} (hX : MayL X) (hp : ¬ (0 ≤ c.p ∧ c.p ≤ 7)) : prtR X c = (X, 1) := by
  have he : prtE X c = 1 := by
    unfold prtE liE prE
    rw [if_pos hX, if_neg hp, h.rg.1]
    simp [firstE]
  unfold prtR
  rw [if_neg (by rw [he]; decide), he]
theorem Pgs.is {c : Cl} {m0 m1 : Nat} (h : Pgs c m0 m1) {X : List Ar} (hX : MayL X) (h0 : 0 ≤ c.p) (h7 : c.p ≤ 7) :
    ((∀ p : Nat, m0 ≤ p → p < m1 → tab X p ≠ none) ∧ (((prtL X c).length ≤ 24 ∧ prtR X c = (prtL X c, 0)) ∨ (24 < (prtL X c).length ∧ prtR X c = (X, 9)))) ∨
    ((∃ p : Nat, m0 ≤ p ∧ p < m1 ∧ tab X p = none) ∧ prtR X c = (X, 7)) := by
  obtain ⟨e0, e1, e2⟩ := h.rg
  have hpe : prE c.p = 0 := by unfold prE; rw [if_pos ⟨h0, h7⟩]
  have he : prtE X c = cvE X (rgA c.a c.n) (rgB c.a c.n) := by
    unfold prtE liE
    rw [if_pos hX, e0, hpe]
    simp only [firstE, if_true]
    by_cases h : cvE X (rgA c.a c.n) (rgB c.a c.n) = 0
    · rw [if_pos h, h]
    · rw [if_neg h]
  by_cases hc : ∀ p : Nat, m0 ≤ p → p < m1 → tab X p ≠ none
  · have hz : cvE X (rgA c.a c.n) (rgB c.a c.n) = 0 := by
      unfold cvE cvB
      rw [e1, e2, (cvL_iff hX.1 h.lt).2 hc, decide_eq_true hX.1]
      rfl
    refine .inl ⟨hc, ?_⟩
    unfold prtR
    rw [he, if_pos hz]
    by_cases hm : (prtL X c).length ≤ 24
    · rw [if_pos hm]; exact .inl ⟨hm, rfl⟩
    · rw [if_neg hm]; exact .inr ⟨by omega, rfl⟩
  · have hz : cvE X (rgA c.a c.n) (rgB c.a c.n) = 7 := by
      unfold cvE cvB
      rw [if_neg]
      intro hb
      rw [e1, e2, Bool.and_eq_true] at hb
      exact hc ((cvL_iff hX.1 h.lt).1 hb.2)
    refine .inr ⟨?_, ?_⟩
    · have : ∃ p : Nat, ¬ (m0 ≤ p → p < m1 → tab X p ≠ none) := Classical.not_forall.1 hc
      obtain ⟨p, hp⟩ := this
      have h1 : m0 ≤ p := Classical.byContradiction fun k => hp fun a => absurd a k
      have h2 : p < m1 := Classical.byContradiction fun k => hp fun _ b => absurd b k
      refine ⟨p, h1, h2, ?_⟩
      cases ht : tab X p with
      | none => rfl
      | some x => exact absurd (fun _ _ => by rw [ht]; simp) hp
    · unfold prtR
      rw [he, if_neg (by rw [hz]; decide), hz]

/-- Half by half. -/
theorem halves_is {X : List Ar} (hX : MayL X) {c1 c2 c3 : Cl} {m0 m1 m2 : Nat} (h1 : Pgs c1 m0 m2) (h2 : Pgs c2 m0 m1) (h3 : Pgs c3 m1 m2) (hp : c2.p = c1.p) (hp' : c3.p = c1.p) (h0 : 0 ≤ c1.p) (h7 : c1.p ≤ 7) :
    ((prtR X c1).2 = 9 ∨ (prtR X c2).2 = 9 ∨ (prtR (prtR X c2).1 c3).2 = 9) ∨
    ((prtR X c1).2 ≠ 0 ∧ ((prtR X c2).2 ≠ 0 ∨ (prtR (prtR X c2).1 c3).2 ≠ 0)) ∨
    ((prtR X c1).2 = 0 ∧ (prtR X c2).2 = 0 ∧ (prtR (prtR X c2).1 c3).2 = 0 ∧ (prtR X c1).1 = (prtR (prtR X c2).1 c3).1 ∧ MayL (prtR X c1).1) := by
  have hlt1 := h2.lt
  have hlt2 := h3.lt
  have q0 : 0 ≤ c2.p := by omega
  have q7 : c2.p ≤ 7 := by omega
  have r0 : 0 ≤ c3.p := by omega
  have r7 : c3.p ≤ 7 := by omega
  have hZ := prtR_may hX c2
  rcases h1.is hX h0 h7 with ⟨k1, ⟨k2, k3⟩ | ⟨k2, k3⟩⟩ | ⟨⟨p, p0, p1, pn⟩, k3⟩
  · rcases h2.is hX q0 q7 with ⟨l1, ⟨l2, l3⟩ | ⟨l2, l3⟩⟩ | ⟨⟨p, p0, p1, pn⟩, l3⟩
    · have tz := h2.pages hX.1 q0 q7
      rw [l3] at hZ ⊢
      rcases h3.is hZ r0 r7 with ⟨n1, ⟨n2, n3⟩ | ⟨n2, n3⟩⟩ | ⟨⟨p, p0, p1, pn⟩, n3⟩
      · refine .inr (.inr ?_)
        rw [k3, n3]
        refine ⟨rfl, rfl, rfl, ?_, by rw [← show (prtR X c1).1 = prtL X c1 from by rw [k3]]; exact prtR_may hX c1⟩
        refine right_unique (setC_right hX.1 _ _ h0 h7) (setC_right hZ.1 _ _ r0 r7) fun p => ?_
        show tab (prtL X c1) p = tab (prtL (prtL X c2) c3) p
        rw [h1.pages hX.1 h0 h7, h3.pages hZ.1 r0 r7, tz, hp, hp']
        by_cases t1 : Touch (4096 * (m0 : Int)) (4096 * (m1 : Int)) p
        · have t2 : ¬ Touch (4096 * (m1 : Int)) (4096 * (m2 : Int)) p := fun k => by unfold Touch at t1 k; omega
          rw [if_pos (show Touch _ _ p from by unfold Touch at t1 ⊢; omega), if_neg t2, if_pos t1]
        · by_cases t2 : Touch (4096 * (m1 : Int)) (4096 * (m2 : Int)) p
          · rw [if_pos (show Touch _ _ p from by unfold Touch at t2 ⊢; omega), if_pos t2, if_neg t1]
          · rw [if_neg (fun k : Touch _ _ p => by unfold Touch at t1 t2 k; omega), if_neg t2, if_neg t1]
      · exact .inl (.inr (.inr (by rw [n3])))
      · exfalso
        have := tz p
        rw [if_neg (fun k : Touch _ _ _ => by unfold Touch at k; omega)] at this
        exact k1 p (by omega) (by omega) (this.symm.trans pn)
    · exact .inl (.inr (.inl (by rw [l3])))
    · exact absurd pn (k1 p p0 (by omega))
  · exact .inl (.inl (by rw [k3]))
  · refine .inr (.inl ⟨by rw [k3]; simp, ?_⟩)
    rcases h2.is hX q0 q7 with ⟨l1, ⟨l2, l3⟩ | ⟨l2, l3⟩⟩ | ⟨_, l3⟩
    · have tz := h2.pages hX.1 q0 q7 p
      have hpm : m1 ≤ p := Classical.byContradiction fun k => l1 p p0 (by omega) pn
      rw [if_neg (fun k : Touch _ _ _ => by unfold Touch at k; omega), pn] at tz
      rw [l3] at hZ ⊢
      right
      rcases h3.is hZ r0 r7 with ⟨n1, _⟩ | ⟨_, n3⟩
      · exact absurd tz (n1 p hpm p1)
      · rw [n3]; simp
    · exact .inl (by rw [l3]; simp)
    · exact .inl (by rw [l3]; simp)

/-! A whole area that is protected otherwise. -/
theorem area_pgs {X : List Ar} (hX : RightL X) {a : Ar} (ha : a ∈ X) : ∃ m0 m1 : Nat, a.s = 4096 * (m0 : Int) ∧ a.e = 4096 * (m1 : Int) ∧ 16 ≤ m0 ∧ m0 < m1 ∧ m1 ≤ 512 := by
  have := formed_num (right_formed hX a ha)
  exact ⟨(a.s / 4096).toNat, (a.e / 4096).toNat, by omega, by omega, by omega, by omega, by omega⟩
theorem set_area {X : List Ar} (hX : RightL X) {a : Ar} (ha : a ∈ X) {pr : Int} (h0 : 0 ≤ pr) (h7 : pr ≤ 7) : (setC a.s a.e pr X).length ≤ X.length := by
  have hf := right_formed hX
  have hd := right_disj hX
  let f : Ar → Ar := fun b => if Cov a (b.s / 4096) then b.prot pr else b
  have hfs : ∀ b, (f b).s = b.s := fun b => by show (if _ then _ else _ : Ar).s = _; split <;> rfl
  have hfe : ∀ b, (f b).e = b.e := fun b => by show (if _ then _ else _ : Ar).e = _; split <;> rfl
  have hff : ∀ b ∈ X.map f, Formed b := fun b hb => by
    obtain ⟨x, hx, rfl⟩ := List.mem_map.1 hb
    show Formed (if _ then _ else _)
    split
    · exact prot_formed (hf x hx) h0 h7
    · exact hf x hx
  have hfd : (X.map f).Pairwise (fun a b => a.e ≤ b.s) := by
    rw [List.pairwise_map]
    exact (after_pair hX).imp fun h => by rw [hfe, hfs]; exact h
  have hj := joined_all hff hfd
  have hD : (X.map f).Pairwise Disj := hfd.imp fun h => disj_of_le h
  have same : ∀ x ∈ X, Cov a (x.s / 4096) → x = a := fun x hx hc => by
    have h1 := tab_of hd hx (cov_first (hf x hx))
    have h2 := tab_of hd ha hc
    rcases List.getElem_of_mem hx with ⟨i, hi, rfl⟩
    rcases List.getElem_of_mem ha with ⟨j, hja, rfl⟩
    rcases Nat.lt_trichotomy i j with h | h | h
    · exact absurd hc (List.pairwise_iff_getElem.1 hd i j hi hja h _ (cov_first (hf _ hx)))
    · subst h; rfl
    · exact absurd (cov_first (hf _ hx)) (List.pairwise_iff_getElem.1 hd j i hja hi h _ hc)
  have na := formed_num (hf a ha)
  have hin : SetIn a.s a.e pr X (joinL (X.map f)) := by
    refine ⟨hj.right, fun p => ?_⟩
    rw [hj.tab]
    cases ht : tab X p with
    | none =>
      rw [tab_none]
      · split <;> rfl
      · intro b hb hc
        obtain ⟨x, hx, rfl⟩ := List.mem_map.1 hb
        exact tab_no ht x hx (by unfold Cov at hc ⊢; rw [hfs, hfe] at hc; exact hc)
    | some t =>
      obtain ⟨x, hx, hc, rfl⟩ := tab_some ht
      have hc' : Cov (f x) p := by unfold Cov at hc ⊢; rw [hfs, hfe]; exact hc
      rw [tab_of hD (List.mem_map_of_mem hx) hc']
      by_cases hxa : Cov a (x.s / 4096)
      · obtain rfl := same x hx hxa
        rw [if_pos (show Touch _ _ p from by unfold Cov at hc; unfold Touch; omega)]
        show some ((if _ then _ else _ : Ar).at p) = _
        rw [if_pos hxa]
        rfl
      · have hne : ¬ Touch a.s a.e p := fun k => by
          have hca : Cov a p := by unfold Touch at k; unfold Cov; omega
          rcases List.getElem_of_mem hx with ⟨i, hi, rfl⟩
          rcases List.getElem_of_mem ha with ⟨j, hja, rfl⟩
          rcases Nat.lt_trichotomy i j with h | h | h
          · exact List.pairwise_iff_getElem.1 hd i j hi hja h p hc hca
          · subst h; exact hxa (cov_first (hf _ ha))
          · exact List.pairwise_iff_getElem.1 hd j i hja hi h p hca hc
        rw [if_neg hne]
        show some ((if _ then _ else _ : Ar).at p) = _
        rw [if_neg hxa]
  rw [← setC_eq hX h0 h7 hin]
  exact Nat.le_trans (joinL_len _) (by simp)
/-- Otherwise, and again as it was. -/
theorem back_is {X : List Ar} (hX : MayL X) {a : Ar} (ha : a ∈ X) {pr : Int} (h0 : 0 ≤ pr) (h7 : pr ≤ 7) :
    ∃ Y, MayL Y ∧ prtR X ⟨0, a.s, a.e - a.s, 0, 0, pr, 0, 0, 0⟩ = (Y, 0) ∧ prtR Y ⟨0, a.s, a.e - a.s, 0, 0, a.p, 0, 0, 0⟩ = (X, 0) := by
  obtain ⟨m0, m1, e1, e2, hl, hlt, hh⟩ := area_pgs hX.1 ha
  have hf := right_formed hX.1 a ha
  have na := formed_num hf
  have hd := right_disj hX.1
  have h1 : Pgs ⟨0, a.s, a.e - a.s, 0, 0, pr, 0, 0, 0⟩ m0 m1 := ⟨e1, by simp only; omega, hl, hlt, hh⟩
  have h2 : Pgs ⟨0, a.s, a.e - a.s, 0, 0, a.p, 0, 0, 0⟩ m0 m1 := ⟨e1, by simp only; omega, hl, hlt, hh⟩
  have hcov : ∀ p : Int, Touch (4096 * (m0 : Int)) (4096 * (m1 : Int)) p → tab X p = some (a.at p) := fun p ht => tab_of hd ha (by unfold Touch at ht; unfold Cov; omega)
  have t1 := h1.pages hX.1 h0 h7
  have hlen : (prtL X ⟨0, a.s, a.e - a.s, 0, 0, pr, 0, 0, 0⟩).length ≤ 24 := by
    unfold prtL
    rw [h1.rg.2.1, h1.rg.2.2, ← e1, ← e2]
    exact Nat.le_trans (set_area hX.1 ha h0 h7) hX.2
  have k1 : prtR X ⟨0, a.s, a.e - a.s, 0, 0, pr, 0, 0, 0⟩ = (prtL X ⟨0, a.s, a.e - a.s, 0, 0, pr, 0, 0, 0⟩, 0) := by
    rcases h1.is hX h0 h7 with ⟨_, ⟨_, k⟩ | ⟨k, _⟩⟩ | ⟨⟨p, p0, p1, pn⟩, _⟩
    · exact k
    · omega
    · rw [hcov p (by unfold Touch; omega)] at pn; cases pn
  have hY : MayL (prtL X ⟨0, a.s, a.e - a.s, 0, 0, pr, 0, 0, 0⟩) := ⟨setC_right hX.1 _ _ h0 h7, hlen⟩
  refine ⟨_, hY, k1, ?_⟩
  have hXe : prtL (prtL X ⟨0, a.s, a.e - a.s, 0, 0, pr, 0, 0, 0⟩) ⟨0, a.s, a.e - a.s, 0, 0, a.p, 0, 0, 0⟩ = X := by
    refine right_unique (setC_right hY.1 _ _ (by simp only; omega) (by simp only; omega)) hX.1 fun p => ?_
    refine (h2.pages hY.1 (by simp only; omega) (by simp only; omega) p).trans ?_
    rw [t1]
    by_cases ht : Touch (4096 * (m0 : Int)) (4096 * (m1 : Int)) p
    · rw [if_pos ht, if_pos ht, hcov p ht]; rfl
    · rw [if_neg ht, if_neg ht]
  rcases h2.is hY (by simp only; omega) (by simp only; omega) with ⟨_, ⟨_, k⟩ | ⟨k, _⟩⟩ | ⟨⟨p, p0, p1, pn⟩, _⟩
  · rw [k, hXe]
  · rw [hXe] at k; have := hX.2; omega
  · have := t1 p
    rw [pn, if_pos (by unfold Touch; omega), hcov p (by unfold Touch; omega)] at this; cases this
/-- What was protected: each of its pages has just that. -/
theorem allows_is {X : List Ar} {c : Cl} (h : Prt X c) {x : Int} (h1 : c.a ≤ x) (h2 : x < c.a + c.n) : ∃ t, tab (prtL X c) (x / 4096) = some t ∧ t.p = c.p := by
  obtain ⟨hX, hr, p0, p7, hc⟩ := h
  have hrg := rg_ok hr
  have hsz := sz_pages hrg.2.1
  obtain ⟨m0, hm0⟩ : ∃ m0 : Nat, rgA c.a c.n = 4096 * (m0 : Int) := ⟨(rgA c.a c.n / 4096).toNat, by omega⟩
  obtain ⟨m1, hm1⟩ : ∃ m1 : Nat, rgB c.a c.n = 4096 * (m1 : Int) := ⟨(rgB c.a c.n / 4096).toNat, by omega⟩
  unfold cvB at hc
  rw [Bool.and_eq_true, hm0, hm1] at hc
  have hcv := (cvL_iff hX.1 (m0 := m0) (m1 := m1) (by omega)).1 hc.2 (x / 4096).toNat (by omega) (by omega)
  rw [show (((x / 4096).toNat : Nat) : Int) = x / 4096 by omega] at hcv
  have ht : tab (prtL X c) (x / 4096) = if Touch (4096 * (m0 : Int)) (4096 * (m1 : Int)) (x / 4096) then (tab X (x / 4096)).map (fun x => { x with p := c.p }) else tab X (x / 4096) := by
    unfold prtL
    rw [hm0, hm1]
    exact (setC_is hX.1 p0 p7).2 _
  rw [if_pos (by unfold Touch; omega)] at ht
  cases hx : tab X (x / 4096) with
  | none => exact absurd hx hcv
  | some t => rw [hx] at ht; exact ⟨_, ht, rfl⟩
end Go.Proofs.YtholpgcghpikgaaGreat

/-
  Layer 11: what a program that does nothing does not answer.
-/
namespace Go.Proofs.YtholpgcghpikgaaGreat
open Go.ChangeShapes Go.WideShapes Go.ChangeAt Go.RowKit Go.Shelf
set_option linter.unusedVariables false
attribute [local go_sem ↓] Go.wp_at_zero Go.wp_at_succ

def wakeA : Ar := ⟨65536, 69632, 3, false, 0, 0⟩
theorem wakeA_formed : Formed wakeA := by unfold wakeA; decide
theorem wakeA_fault : faE [wakeA] ⟨0, 65540, 0, 0, 0, 2, 0, 0, 0⟩ = 0 ∧ faT [wakeA] ⟨0, 65540, 0, 0, 0, 2, 0, 0, 0⟩ = ⟨3, false, 0, 0⟩ := by
  have hX : MayL [wakeA] := ⟨right_one wakeA_formed, by simp⟩
  have ht : tab [wakeA] (65540 / 4096) = some ⟨3, false, 0, 0⟩ := by
    unfold tab
    rw [if_pos (by decide)]
    rfl
  rcases fa_some hX (c := ⟨0, 65540, 0, 0, 0, 2, 0, 0, 0⟩) ⟨by decide, by decide⟩ ht with ⟨_, h1, h2⟩ | ⟨h, _⟩
  · exact ⟨h1, h2⟩
  · exact absurd h (by decide)
theorem wakeA_holds (w : World) : Holds (w.alloc (.cells #[.int .i64 65536, .int .i64 69632, .int .i64 3, .bool false, .int .i64 0, .int .i64 0] 52)) (.slice (some ⟨w.heap.size, 0, none⟩) 1 1) [wakeA] := by
  have h := Whole.new w 52 #[.int .i64 65536, .int .i64 69632, .int .i64 3, .bool false, .int .i64 0, .int .i64 0]
  refine ⟨_, 1, rfl, by simp, .inr ⟨w.heap.size, 0, rfl, by simp, fun j hj => ?_⟩⟩
  obtain rfl : j = 0 := by simp at hj; omega
  exact ⟨h.cell 0, h.cell 1, h.cell 2, h.cell 3, h.cell 4, h.cell 5⟩
end Go.Proofs.YtholpgcghpikgaaGreat
