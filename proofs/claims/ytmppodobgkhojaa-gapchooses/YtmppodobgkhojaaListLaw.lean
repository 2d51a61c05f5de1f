/-
  Layer 7: what a program that does nothing does not answer; lists that are the same.
-/
import Derived.Test.YtmppodobgkhojaaListMadeDo
import Derived.Test.YtmppodobgkhojaaListSet
namespace Go.Proofs.Ytmppodobgkhojaa
open Go.ChangeShapes Go.WideShapes Go.ChangeAt Go.RowKit Go.Shelf
set_option linter.unusedVariables false

theorem right_one {a : Ar} (h : Formed a) : RightL [a] := ⟨ok_nil h, trivial⟩
theorem two_formed : Formed ⟨65536, 73728, 0, false, 0, 0⟩ := (formed_iff _).2 (by simp)
theorem put_nil {a : Ar} {y : List Ar} (hf : Formed a) (h : PutIn [] a y) : y = [a] := by
  refine right_unique h.1 (right_one hf) fun p => ?_
  rw [h.2]; rfl

end Go.Proofs.Ytmppodobgkhojaa
