/-
  Words for calls that only tell: what they answer, and that all they make is new.
-/
import Derived.Test.YtnlmgmphfcpcmaaRows
import Derived.Test.YtnlmgmphfcpcmaaOwn
import Derived.WalkKit
import Derived.ProofKit
import Derived.OpenShut
import Derived.WalkSpells
import Derived.WalkLawsBesides
import Derived.Deep.OwnRows
import Derived.Lib.Hide
namespace Go.Proofs.Ytnlmgmphfcpcmaa
open Go.ChangeShapes Go.WideShapes Go.ChangeAt Go.RowKit
set_option linter.unusedVariables false

/-- r tells whether P. -/
def Tells (r : Bool) (P : Prop) : Prop := r = true ↔ P
theorem Tells.yes {r : Bool} {P : Prop} (h : Tells r P) (p : P) : r = true := h.2 p
theorem Tells.no {r : Bool} {P : Prop} (h : Tells r P) (p : ¬ P) : r = false := by
  cases r with
  | false => rfl
  | true => exact absurd (h.1 rfl) p

theorem Tells.is {r x : Bool} {P : Prop} (h : Tells r P) (k : x = true ↔ P) : x = r := by
  rw [Bool.eq_iff_iff]; exact k.trans h.symm

/-- A call that only tells of what it is handed: it answers v, and what it makes is new. -/
def Says (f : Nat) (args : Array Value) (v : Value) : Prop := ∀ w : World, Calls Try.prog f args w fun e w' => e = .returned v ∧ Below w.heap.size w w'

theorem says_bool {x r : Bool} (h : x = r) : Ending.returned (.bool x) = .returned (.bool r) := by rw [h]
theorem tells_it (P : Prop) [Decidable P] : Tells (decide P) P := by simp [Tells]
theorem below_new (w : World) (o : Obj) : Below w.heap.size w (w.alloc o) := (Below.refl _ _).alloc (Nat.le_refl _) _
theorem below_new2 (w : World) (o o' : Obj) : Below w.heap.size w ((w.alloc o).alloc o') := (below_new w o).alloc (by simp) _
theorem below_then {w w1 w2 : World} {B : Nat} (h : Below B w w1) (k : Below w1.heap.size w1 w2) (hB : B ≤ w.heap.size) : Below B w w2 := h.trans (k.mono (Nat.le_trans hB h.size))
theorem tmod_up {x : Int} (h : 0 ≤ x) : x.tmod 4096 = x % 4096 := Int.tmod_eq_emod_of_nonneg h
end Go.Proofs.Ytnlmgmphfcpcmaa
