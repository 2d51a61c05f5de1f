/-
  Texts of our own, one behind the other (SlSame): what the laws' proofs rest on; each says at its head what it holds. No conditions.
-/
import Derived.Test.YtlhjimkfcchdaaaPkWd
/-
  Layer 15: whether the reference takes two nodes for the same; what a program that does nothing does not answer; nodes of a size that is looked at.
-/
namespace Go.Proofs.Ytlhjimkfcchdaaa
open Go.ChangeShapes Go.WideShapes Go.ChangeAt Go.RowKit
set_option linter.unusedVariables false

theorem nd_ext {a b : Nd} : a = b ↔ a.inner = b.inner ∧ a.lo = b.lo ∧ a.ends = b.ends ∧ a.slots = b.slots ∧ a.gaps = b.gaps := by
  obtain ⟨i, l, e, s, g⟩ := a
  obtain ⟨i', l', e', s', g'⟩ := b
  simp
/-- The first thing that is otherwise. -/
theorem nd_ways (a b : Nd) : (a.inner ≠ b.inner) ∨ (a.inner = b.inner ∧ a.lo ≠ b.lo) ∨ (a.inner = b.inner ∧ a.lo = b.lo ∧ a.ends ≠ b.ends) ∨ (a.inner = b.inner ∧ a.lo = b.lo ∧ a.ends = b.ends ∧ a.slots ≠ b.slots) ∨
    (a.inner = b.inner ∧ a.lo = b.lo ∧ a.ends = b.ends ∧ a.slots = b.slots) := by
  by_cases h1 : a.inner = b.inner
  · by_cases h2 : a.lo = b.lo
    · by_cases h3 : a.ends = b.ends
      · by_cases h4 : a.slots = b.slots
        · exact .inr (.inr (.inr (.inr ⟨h1, h2, h3, h4⟩)))
        · exact .inr (.inr (.inr (.inl ⟨h1, h2, h3, h4⟩)))
      · exact .inr (.inr (.inl ⟨h1, h2, h3⟩))
    · exact .inr (.inl ⟨h1, h2⟩)
  · exact .inl h1
theorem nums_wdsS {w : World} {q : Nat} {l : List Int} (h : Whole w q 2 (nums l)) : Wds w (.slice (some ⟨q, 0, none⟩) l.length l.length) l :=
  ⟨_, _, rfl, Nat.le_refl _, fun _ => ⟨q, 0, rfl, fun k hk => by rw [Nat.zero_add, h.cell k, nums_at l k hk]⟩⟩
def nd0 : Nd := ⟨false, 65536, [2097152], [0], [2031616]⟩
theorem nd0_formed : NdF nd0 :=
  ⟨⟨by decide, by decide, rfl, rfl⟩, by decide, rfl, fun i hi => by
    have hi : i < 1 := hi
    obtain rfl : i = 0 := by omega
    exact ⟨by decide, by decide, rfl, by decide⟩⟩
theorem nums_pack0 : nums (packN nd0) = nums (packN nd0) := rfl
theorem three_new (w : World) (p q r : List Int) : Wds (((w.alloc (.cells (nums p) 2)).alloc (.cells (nums q) 2)).alloc (.cells (nums r) 2)) (.slice (some ⟨w.heap.size, 0, none⟩) p.length p.length) p ∧
    Wds (((w.alloc (.cells (nums p) 2)).alloc (.cells (nums q) 2)).alloc (.cells (nums r) 2)) (.slice (some ⟨w.heap.size + 1, 0, none⟩) q.length q.length) q ∧
    Wds (((w.alloc (.cells (nums p) 2)).alloc (.cells (nums q) 2)).alloc (.cells (nums r) 2)) (.slice (some ⟨w.heap.size + 2, 0, none⟩) r.length r.length) r := by
  have h1 := Whole.new w 2 (nums p)
  have h2 := Whole.new (w.alloc (.cells (nums p) 2)) 2 (nums q)
  have h3 := Whole.new ((w.alloc (.cells (nums p) 2)).alloc (.cells (nums q) 2)) 2 (nums r)
  simp only [World.size_alloc] at h2 h3
  exact ⟨nums_wdsS ((h1.alloc _).alloc _), nums_wdsS (h2.alloc _), nums_wdsS h3⟩
/-- A node of a size that is looked at. -/
structure Few (n : Nd) : Prop where
  e : n.ends.length ≤ 20
  s : n.slots.length ≤ 20
  g : n.gaps.length ≤ 20
end Go.Proofs.Ytlhjimkfcchdaaa
