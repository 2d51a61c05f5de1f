/-
  Texts of our own, one behind the other (ProtPure, ProtCv): what the laws' proofs rest on; each says at its head what it holds. No conditions.
-/
import Derived.Test.YtholpgcghpikgaaGreatPkPb
import Derived.Test.YtholpgcghpikgaaGreatPkPa
/-
  Layer 11: what follows, without a program: what is found, by pages; what a fault comes to.
-/
namespace Go.Proofs.YtholpgcghpikgaaGreat
set_option linter.unusedVariables false

theorem attr_at {a : Ar} {x : Int} (hf : Formed a) : a.attr x = a.at (x / 4096) := by
  have hn := formed_num hf
  unfold Ar.attr Ar.at
  rw [from_off]
  congr 1
  by_cases hb : a.bk = 0
  · rw [if_pos hb, if_neg (by omega)]; omega
  · rw [if_neg hb, if_pos (by omega)]; unfold pg; omega
theorem has_cov {a : Ar} {x : Int} (hf : Formed a) : HasA a x ↔ Cov a (x / 4096) := by
  have hn := formed_num hf
  constructor
  · intro h; have h1 := h.lo; have h2 := h.hi; unfold Cov; omega
  · intro h; unfold Cov at h; exact ⟨hf, by omega, by omega⟩
theorem fn_none {X : List Ar} (hX : RightL X) {x : Int} (h : tab X (x / 4096) = none) : fnO X x = none := by
  unfold fnO
  rw [if_pos hX]
  exact find_none fun a ha hh => tab_no h a ha ((has_cov (right_formed hX a ha)).1 hh)
theorem fn_some {X : List Ar} (hX : RightL X) {x : Int} {t : At} (h : tab X (x / 4096) = some t) : ∃ a, fnO X x = some a ∧ a.attr x = t ∧ a.p = t.p := by
  obtain ⟨a, ha, hc, rfl⟩ := tab_some h
  unfold fnO
  rw [if_pos hX]
  cases hf : findL x X with
  | none => exact absurd ((has_cov (right_formed hX a ha)).2 hc) (find_no' hf a ha)
  | some b =>
    obtain ⟨hb, hh⟩ := find_is hf
    have hfb := right_formed hX b hb
    have h2 := tab_of (right_disj hX) hb ((has_cov hfb).1 hh)
    rw [h] at h2
    have h3 := Option.some.inj h2
    exact ⟨b, rfl, by rw [attr_at hfb, h3], by rw [h3]; rfl⟩
theorem fa_bad {X : List Ar} (hX : MayL X) {c : Cl} (hp : ¬ (1 ≤ c.p ∧ c.p ≤ 7)) : faE X c = 1 ∧ faT X c = At.nil := by
  have he : faE X c = 1 := by
    unfold faE liE wnE
    rw [if_pos hX, if_neg hp]
    simp [firstE]
  exact ⟨he, by unfold faT; rw [he]; rfl⟩
theorem fa_none {X : List Ar} (hX : MayL X) {c : Cl} (hp : 1 ≤ c.p ∧ c.p ≤ 7) (ht : tab X (c.a / 4096) = none) : faE X c = 7 ∧ faT X c = At.nil := by
  have he : faE X c = 7 := by
    unfold faE liE wnE fnA acE
    rw [if_pos hX, if_pos hp, fn_none hX.1 ht]
    simp [firstE]
  exact ⟨he, by unfold faT; rw [he]; rfl⟩
theorem fa_some {X : List Ar} (hX : MayL X) {c : Cl} (hp : 1 ≤ c.p ∧ c.p ≤ 7) {t : At} (ht : tab X (c.a / 4096) = some t) : (mayB t.p c.p = true ∧ faE X c = 0 ∧ faT X c = t) ∨ (mayB t.p c.p = false ∧ faE X c = 8 ∧ faT X c = At.nil) := by
  obtain ⟨a, h1, h2, h3⟩ := fn_some hX.1 ht
  cases hm : mayB t.p c.p with
  | true =>
    have he : faE X c = 0 := by
      unfold faE liE wnE fnA acE
      rw [if_pos hX, if_pos hp, h1]
      simp [firstE, h3, hm]
    refine .inl ⟨rfl, he, ?_⟩
    unfold faT fnT
    rw [if_pos he, h1]; exact h2
  | false =>
    have he : faE X c = 8 := by
      unfold faE liE wnE fnA acE
      rw [if_pos hX, if_pos hp, h1]
      simp [firstE, h3, hm]
    exact .inr ⟨rfl, he, by unfold faT; rw [he]; rfl⟩
theorem fa_wrong {X : List Ar} (hX : ¬ MayL X) (c : Cl) : faE X c = 1 ∧ faT X c = At.nil := by
  have he : faE X c = 1 := by
    unfold faE liE
    rw [if_neg hX]
    simp [firstE]
  exact ⟨he, by unfold faT; rw [he]; rfl⟩
theorem prt_wrong {X : List Ar} (hX : ¬ MayL X) (c : Cl) : prtR X c = (X, 1) := by
  have he : prtE X c = 1 := by
    unfold prtE liE
    rw [if_neg hX]
    simp [firstE]
  unfold prtR
  rw [if_neg (by rw [he]; decide), he]

/-- Bit by bit. -/
def badB (p k b : Int) : Bool := decide (k / b % 2 = 1) && decide (p / b % 2 = 0)
theorem may_fin : ∀ (p : Fin 8) (k : Fin 8), 1 ≤ k.val → mayB (p.val : Int) (k.val : Int) = (!badB p.val k.val 1 && !badB p.val k.val 2 && !badB p.val k.val 4) := by decide +kernel
theorem may_bits {p k : Int} (h0 : 0 ≤ p) (h1 : p ≤ 7) (h2 : 1 ≤ k) (h3 : k ≤ 7) : mayB p k = (!badB p k 1 && !badB p k 2 && !badB p k 4) := by
  obtain ⟨n, rfl⟩ : ∃ n : Nat, p = (n : Int) := ⟨p.toNat, by omega⟩
  obtain ⟨m, rfl⟩ : ∃ m : Nat, k = (m : Int) := ⟨k.toNat, by omega⟩
  exact may_fin ⟨n, by omega⟩ ⟨m, by omega⟩ (by simp; omega)
theorem tab_prot {X : List Ar} (hX : RightL X) {p : Int} {t : At} (h : tab X p = some t) : 0 ≤ t.p ∧ t.p ≤ 7 := by
  obtain ⟨a, ha, hc, rfl⟩ := tab_some h
  have := formed_num (right_formed hX a ha)
  exact ⟨by simp [Ar.at]; omega, by simp [Ar.at]; omega⟩
theorem tab_in {X : List Ar} (hX : RightL X) {p : Int} (h : ¬ (16 ≤ p ∧ p < 512)) : tab X p = none :=
  tab_none fun a ha hc => by have := formed_num (right_formed hX a ha); unfold Cov at hc; omega
end Go.Proofs.YtholpgcghpikgaaGreat

/-
  Layer 11: what follows, without a program: parts without a hole between them cover each page.
-/
namespace Go.Proofs.YtholpgcghpikgaaGreat
set_option linter.unusedVariables false

theorem inside_sorted {X : List Ar} (lo hi : Int) (hf : ∀ a ∈ X, Formed a) (hX : X.Pairwise (fun a b => a.e ≤ b.s)) : (insideL lo hi X).Pairwise (fun a b => a.e ≤ b.s) := by
  induction X with
  | nil => exact .nil
  | cons a l ih =>
    obtain ⟨h1, h2⟩ := List.pairwise_cons.1 hX
    show List.Pairwise _ (partL a lo hi ++ insideL lo hi l)
    refine List.pairwise_append.2 ⟨?_, ih (fun b hb => hf b (List.mem_cons_of_mem _ hb)) h2, fun x hx y hy => ?_⟩
    · unfold partL
      by_cases hp : PartA a lo hi
      · rw [if_pos hp]; simp
      · rw [if_neg hp]; exact .nil
    · obtain ⟨k1, rfl⟩ := partL_mem hx
      obtain ⟨b, hb, hy⟩ := List.mem_flatMap.1 hy
      obtain ⟨k2, rfl⟩ := partL_mem hy
      have e1 := (part_is k1).2.2.1
      have e2 := (part_is k2).2.1
      have e3 := h1 b hb
      omega
theorem last2 (a b : Ar) (r : List Ar) : (a :: b :: r).getLastD a = (b :: r).getLastD b := by
  rw [List.getLastD_eq_getLast?, List.getLastD_eq_getLast?, List.getLast?_cons_cons]
  cases h : (b :: r).getLast? with
  | none => simp at h
  | some x => rfl
theorem last_end : ∀ (r : List Ar) (a : Ar), (a :: r).Pairwise (fun a b => a.e ≤ b.s) → (∀ b ∈ a :: r, b.s ≤ b.e) → ∀ b ∈ a :: r, a.s ≤ b.s ∧ b.e ≤ ((a :: r).getLastD a).e
  | [], a, _, hf, b, hb => by
    obtain rfl : b = a := by simpa using hb
    exact ⟨Int.le_refl _, Int.le_refl _⟩
  | c :: r, a, h, hf, b, hb => by
    obtain ⟨h1, h2⟩ := List.pairwise_cons.1 h
    have ih := last_end r c h2 (fun b hb => hf b (List.mem_cons_of_mem _ hb))
    rw [last2]
    have hc := ih c (by simp)
    have h3 := h1 c (by simp)
    have h4 := hf a (by simp)
    have h5 := hf c (by simp)
    rcases List.mem_cons.1 hb with rfl | hb
    · exact ⟨Int.le_refl _, by omega⟩
    · have := ih b hb
      exact ⟨by omega, this.2⟩
theorem sum_le : ∀ (r : List Ar) (a : Ar), (a :: r).Pairwise (fun a b => a.e ≤ b.s) → (∀ b ∈ a :: r, b.s ≤ b.e) → sumL (a :: r) ≤ ((a :: r).getLastD a).e - a.s
  | [], a, _, _ => by simp [sumL]
  | c :: r, a, h, hf => by
    obtain ⟨h1, h2⟩ := List.pairwise_cons.1 h
    have ih := sum_le r c h2 (fun b hb => hf b (List.mem_cons_of_mem _ hb))
    rw [last2]
    have h3 := h1 c (by simp)
    show (a.e - a.s) + sumL (c :: r) ≤ _
    omega
/-- No hole: each page is in one of them. -/
theorem sum_all : ∀ (r : List Ar) (a : Ar), (a :: r).Pairwise (fun a b => a.e ≤ b.s) → (∀ b ∈ a :: r, b.s ≤ b.e) → sumL (a :: r) = ((a :: r).getLastD a).e - a.s → ∀ p : Int, a.s ≤ 4096 * p → 4096 * p < ((a :: r).getLastD a).e → ∃ b ∈ a :: r, Cov b p
  | [], a, _, _, _, p, h1, h2 => ⟨a, by simp, h1, h2⟩
  | c :: r, a, h, hf, hs, p, p1, p2 => by
    obtain ⟨h1, h2⟩ := List.pairwise_cons.1 h
    have hf' : ∀ b ∈ c :: r, b.s ≤ b.e := fun b hb => hf b (List.mem_cons_of_mem _ hb)
    have hle := sum_le r c h2 hf'
    rw [last2] at hs p2
    have h3 := h1 c (by simp)
    have hs : (a.e - a.s) + sumL (c :: r) = ((c :: r).getLastD c).e - a.s := hs
    by_cases hp : 4096 * p < a.e
    · exact ⟨a, by simp, p1, hp⟩
    · obtain ⟨b, hb, hc⟩ := sum_all r c h2 hf' (by omega) p (by omega) p2
      exact ⟨b, List.mem_cons_of_mem _ hb, hc⟩
/-- Each page is in one of them: no hole. -/
theorem all_sum : ∀ (r : List Ar) (a : Ar), (a :: r).Pairwise (fun a b => a.e ≤ b.s) → (∀ b ∈ a :: r, Formed b) → (∀ p : Int, a.s ≤ 4096 * p → 4096 * p < ((a :: r).getLastD a).e → ∃ b ∈ a :: r, Cov b p) → sumL (a :: r) = ((a :: r).getLastD a).e - a.s
  | [], a, _, _, _ => by simp [sumL]
  | c :: r, a, h, hf, ha => by
    obtain ⟨h1, h2⟩ := List.pairwise_cons.1 h
    have hf' : ∀ b ∈ c :: r, Formed b := fun b hb => hf b (List.mem_cons_of_mem _ hb)
    have hl := last_end r c h2 (fun b hb => by have := formed_num (hf' b hb); omega)
    rw [last2] at ha ⊢
    have na := formed_num (hf a (by simp))
    have nc := formed_num (hf' c (by simp))
    have h3 := h1 c (by simp)
    have hlc := hl c (by simp)
    have hcs : c.s = a.e := by
      obtain ⟨b, hb, hc⟩ := ha (a.e / 4096) (by omega) (by omega)
      unfold Cov at hc
      rcases List.mem_cons.1 hb with rfl | hb
      · omega
      · have := hl b hb; omega
    have ih := all_sum r c h2 hf' fun p p1 p2 => by
      obtain ⟨b, hb, hc⟩ := ha p (by omega) p2
      rcases List.mem_cons.1 hb with rfl | hb
      · unfold Cov at hc; omega
      · exact ⟨b, hb, hc⟩
    show (a.e - a.s) + sumL (c :: r) = _
    omega
/-- A range of whole pages is covered just if each of its pages is in an area. -/
theorem cvL_iff {X : List Ar} (hX : RightL X) {m0 m1 : Nat} (hm : m0 < m1) : cvL (4096 * (m0 : Int)) (4096 * (m1 : Int)) (insideL (4096 * (m0 : Int)) (4096 * (m1 : Int)) X) = true ↔ ∀ p : Nat, m0 ≤ p → p < m1 → tab X p ≠ none := by
  have hs := inside_sorted (4096 * (m0 : Int)) (4096 * (m1 : Int)) (right_formed hX) (after_pair hX)
  have hf := inside_formed (l := X) (4096 * (m0 : Int)) (4096 * (m1 : Int))
  have hin : ∀ p : Int, (∃ b ∈ insideL (4096 * (m0 : Int)) (4096 * (m1 : Int)) X, Cov b p) ↔ tab X p ≠ none ∧ Touch (4096 * (m0 : Int)) (4096 * (m1 : Int)) p := fun p => by
    constructor
    · rintro ⟨b, hb, hc⟩
      obtain ⟨a, ha, hb⟩ := List.mem_flatMap.1 hb
      obtain ⟨k, rfl⟩ := partL_mem hb
      have h := ((part_is k).2.2.2.1 p).1 hc
      exact ⟨by rw [tab_of (right_disj hX) ha h.1]; simp, h.2⟩
    · rintro ⟨h1, h2⟩
      cases ht : tab X p with
      | none => exact absurd ht h1
      | some x =>
        obtain ⟨a, ha, hc, _⟩ := tab_some ht
        have k := part_cov (right_formed hX a ha) hc h2
        exact ⟨a.part _ _, List.mem_flatMap.2 ⟨a, ha, by unfold partL; rw [if_pos k]; simp⟩, ((part_is k).2.2.2.1 p).2 ⟨hc, h2⟩⟩
  have htc : ∀ p : Nat, m0 ≤ p → p < m1 → Touch (4096 * (m0 : Int)) (4096 * (m1 : Int)) p := fun p h1 h2 => by unfold Touch; omega
  generalize insideL (4096 * (m0 : Int)) (4096 * (m1 : Int)) X = L at *
  cases L with
  | nil =>
    constructor
    · intro h; cases h
    · intro h
      obtain ⟨b, hb, _⟩ := (hin m0).2 ⟨h m0 (by omega) hm, htc m0 (by omega) hm⟩
      cases hb
  | cons a r =>
    have hfe : ∀ b ∈ a :: r, b.s ≤ b.e := fun b hb => by have := formed_num (hf b hb); omega
    have hl := last_end r a hs hfe
    unfold cvL
    simp only [Bool.and_eq_true, decide_eq_true_eq]
    constructor
    · rintro ⟨h1, h2, h3⟩ p p1 p2
      exact ((hin p).1 (sum_all r a hs hfe h3 p (by omega) (by omega))).1
    · intro h
      refine ⟨?_, ?_, ?_⟩
      · obtain ⟨b, hb, hc⟩ := (hin m0).2 ⟨h m0 (by omega) hm, htc m0 (by omega) hm⟩
        have := (hl b hb).1
        unfold Cov at hc; omega
      · obtain ⟨b, hb, hc⟩ := (hin ((m1 - 1 : Nat) : Int)).2 ⟨h (m1 - 1) (by omega) (by omega), htc (m1 - 1) (by omega) (by omega)⟩
        have := (hl b hb).2
        have nb := formed_num (hf b hb)
        unfold Cov at hc; omega
      · refine all_sum r a hs hf fun p p1 p2 => ?_
        have na := formed_num (hf a (by simp))
        have nl := formed_num (hf _ (last_mem a r))
        have t1 := ((hin _).1 ⟨a, by simp, cov_first (hf a (by simp))⟩).2
        have t2 := ((hin (((a :: r).getLastD a).e / 4096 - 1)).1 ⟨_, last_mem a r, by unfold Cov; omega⟩).2
        unfold Touch at t1 t2
        refine (hin p).2 ⟨?_, by unfold Touch; omega⟩
        have := h p.toNat (by omega) (by omega)
        rwa [show ((p.toNat : Nat) : Int) = p by omega] at this
end Go.Proofs.YtholpgcghpikgaaGreat
