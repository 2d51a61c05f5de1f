/-
  Texts of our own, one behind the other (MapRef): what the laws' proofs rest on; each says at its head what it holds. No conditions.
-/
import Derived.Test.YtholpgcghpikgaaGreatPkS
import Derived.Test.YtholpgcghpikgaaGreatPkB
/-
  Layer 10: the reference: pages of lists that are put and cut.
-/
namespace Go.Proofs.YtholpgcghpikgaaGreat
open Go.ChangeShapes Go.WideShapes Go.ChangeAt Go.RowKit Go.Shelf
set_option linter.unusedVariables false
attribute [local go_sem ↓] Go.wp_at_zero Go.wp_at_succ

theorem with_good {s : Sp} (hs : GoodS s) {a : Ar} (ha : Formed a) : GoodS (withS s a) := fun p x h => by
  unfold withS at h
  by_cases hc : Cov a p
  · rw [if_pos hc] at h; injection h with h; rw [← h]; exact at_good ha hc
  · rw [if_neg hc] at h; exact hs p x h
theorem cutTo_good {s : Sp} (hs : GoodS s) (m n : Nat) : GoodS (cutTo s m n) := fun p x h => by
  unfold cutTo at h
  by_cases hc : m ≤ p ∧ p < n
  · rw [if_pos hc] at h; cases h
  · rw [if_neg hc] at h; exact hs p x h
theorem with_list {X : List Ar} (hX : RightL X) {a : Ar} (ha : Formed a) : listTo (withS (spK X X.length) a) 512 = putC X a := by
  refine list_is (with_good (spK_good hX) ha) (putC_right hX ha) fun p _ _ => ?_
  rw [(putC_is hX ha).2]
  unfold withS spK
  rw [List.take_length]
theorem cut_list {X : List Ar} (hX : RightL X) {m0 m1 : Nat} (hm : m0 ≤ m1) : listTo (cutTo (spK X X.length) m0 m1) 512 = outsideL (4096 * (m0 : Int)) (4096 * (m1 : Int)) X := by
  refine list_is (cutTo_good (spK_good hX) _ _) (outside_right _ _ hX) fun p _ _ => ?_
  rw [cut_is hm, outside_tab _ _ hX]
  unfold cutS spK
  rw [List.take_length]

end Go.Proofs.YtholpgcghpikgaaGreat
