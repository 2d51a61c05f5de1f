/-
  Texts of our own, one behind the other (SeekPack): what the laws' proofs rest on; each says at its head what it holds. No conditions.
-/
import Derived.Test.YtejkhnphplpkeaaPkYc
/-
  Layer 16, pure: what is looked for in a formed node's words, and the node that comes of them.
-/
namespace Go.Proofs.Ytejkhnphplpkeaa
open Go.RowKit
set_option linter.unusedVariables false

section
variable {n : Nd}
theorem first_ok (h : n.Counted) : entOk n.first = true ∧ entK n.first = n.ends.length ∧ entI n.first = n.inner := by
  obtain ⟨h1, h2⟩ := first_div n h
  have h3 := h.one
  have h4 := h.few
  have hm : n.first.tmod 16 = if n.inner then 2 else 1 := by
    have h0 : 0 ≤ n.first := by unfold Nd.first; cases n.inner <;> simp <;> omega
    rw [Int.tmod_eq_emod_of_nonneg h0]
    unfold Nd.first
    cases n.inner <;> simp <;> omega
  have hk : entOk n.first = true := by
    unfold entOk
    refine decide_eq_true ⟨by omega, by omega, ?_⟩
    rw [hm]
    cases n.inner
    · exact .inl rfl
    · exact .inr rfl
  refine ⟨hk, ?_, ?_⟩
  · unfold entK
    rw [hk, if_pos rfl, h1]
    omega
  · unfold entI
    rw [hk, h2]
    rfl
theorem pack_at (h : n.Counted) (i : Nat) (hi : i < n.ends.length) : nth (packN n) (2 + i) = nth n.ends i ∧ nth (packN n) (10 + i) = nth n.slots i := by
  have h4 := h.few
  rw [nth_pack h, nth_pack h]
  unfold wordN
  refine ⟨?_, ?_⟩
  · rw [if_neg (by omega), if_neg (by omega), if_pos (by omega), show 2 + i - 2 = i by omega]
  · rw [if_neg (by omega), if_neg (by omega), if_neg (by omega), if_pos (by omega), show 10 + i - 10 = i by omega]
theorem look_pack (h : n.Counted) (addr : Int) : (∀ i, i < n.ends.length → (∀ j, j < i → nth n.ends j ≤ addr) → addr < nth n.ends i → (lookW (packN n) addr).1 = (nth n.slots i, n.inner, true)) ∧
    ((∀ j, j < n.ends.length → nth n.ends j ≤ addr) → (lookW (packN n) addr).1 = (0, false, false)) := by
  obtain ⟨h1, h2, h3⟩ := first_ok h
  have h0 : nth (packN n) 0 = n.first := by rw [nth_pack h]; rfl
  have e : lookW (packN n) addr = lookFromW (packN n) addr n.inner n.ends.length 0 := by
    unfold lookW
    rw [h0, h1, h2, h3, if_pos rfl]
  have key1 : ∀ m i, i + m = n.ends.length → ∀ k, i ≤ k → k < n.ends.length → (∀ j, i ≤ j → j < k → nth n.ends j ≤ addr) → addr < nth n.ends k → (lookFromW (packN n) addr n.inner m i).1 = (nth n.slots k, n.inner, true) := by
    intro m
    induction m with
    | zero => intro i hi k hk1 hk2; omega
    | succ m ih =>
      intro i hi k hk1 hk2 hj hlt
      obtain ⟨p1, p2⟩ := pack_at h i (by omega)
      simp only [lookFromW]
      rw [p1, p2]
      by_cases hik : i = k
      · subst hik; rw [if_neg (by omega)]
      · rw [if_pos (hj i (Nat.le_refl _) (by omega))]
        exact ih (i + 1) (by omega) k (by omega) hk2 (fun j h1 h2 => hj j (by omega) h2) hlt
  have key2 : ∀ m i, i + m = n.ends.length → (∀ j, j < n.ends.length → nth n.ends j ≤ addr) → (lookFromW (packN n) addr n.inner m i).1 = (0, false, false) := by
    intro m
    induction m with
    | zero => intro i hi hj; rfl
    | succ m ih =>
      intro i hi hj
      obtain ⟨p1, p2⟩ := pack_at h i (by omega)
      simp only [lookFromW]
      rw [p1, if_pos (hj i (by omega))]
      exact ih (i + 1) (by omega) hj
  rw [e]
  exact ⟨fun i hi hj hlt => key1 _ 0 (by omega) i (by omega) hi (fun j _ h => hj j h) hlt, fun hj => key2 _ 0 (by omega) hj⟩
theorem nodeW_pack (h : NdF n) : nodeW (packN n) = (some n, 2 + 3 * n.ends.length) := by
  obtain ⟨h1, h2, h3⟩ := first_ok h.cnt
  have h0 : nth (packN n) 0 = n.first := by rw [nth_pack h.cnt]; rfl
  unfold nodeW
  rw [h0, h1, h2, if_pos rfl, un_pack h.cnt, if_pos h]
end
end Go.Proofs.Ytejkhnphplpkeaa
