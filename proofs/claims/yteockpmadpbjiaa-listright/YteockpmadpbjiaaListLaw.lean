/-
  Layer 7: what a program that does nothing does not answer; lists that are the same.
-/
import Derived.Test.YteockpmadpbjiaaListMadeDo
import Derived.Test.YteockpmadpbjiaaListSet
namespace Go.Proofs.Yteockpmadpbjiaa
open Go.ChangeShapes Go.WideShapes Go.ChangeAt Go.RowKit Go.Shelf
set_option linter.unusedVariables false

theorem right_one {a : Ar} (h : Formed a) : RightL [a] := ⟨ok_nil h, trivial⟩
theorem two_formed : Formed ⟨65536, 73728, 0, false, 0, 0⟩ := (formed_iff _).2 (by simp)
theorem put_nil {a : Ar} {y : List Ar} (hf : Formed a) (h : PutIn [] a y) : y = [a] := by
  refine right_unique h.1 (right_one hf) fun p => ?_
  rw [h.2]; rfl

set_option maxHeartbeats 1000000 in
theorem list_awake : Says 9 #[] (.bool true) := by
  intro w
  have X := Lib.hid (put_any none [] 0 ⟨65536, 73728, 0, false, 0, 0⟩ trivial two_formed w (.inl rfl))
  have Y := Lib.hid (fun A c W h => pages_any A [⟨65536, 73728, 0, false, 0, 0⟩] c (right_one two_formed) W h)
  simp only [Ar.v, List.length_nil, sumL, List.length_cons] at X Y
  go_enter Try.func9, Try.ntmps9
  go_wp2_with fail
  refine X.out.mono ?_
  rintro e w1 ⟨v, y, rfl, hm, hp, hb1⟩
  obtain rfl := put_nil two_formed hp
  obtain ⟨A, c, rfl⟩ := hm.is
  have A1 := Lib.hid hm.areas
  have B1 := Lib.hid hb1
  clear hm hp hb1 X
  simp only [List.length_cons, List.length_nil] at *
  go_wp2_with fail
  refine (Y.out A c w1 A1.out).mono ?_
  rintro e w2 ⟨rfl, hb2⟩
  have B2 := Lib.hid hb2
  clear hb2
  go_wp2_with fail
  go_ret
  exact ⟨rfl, below_then B1.out B2.out (Nat.le_refl _)⟩
end Go.Proofs.Yteockpmadpbjiaa
