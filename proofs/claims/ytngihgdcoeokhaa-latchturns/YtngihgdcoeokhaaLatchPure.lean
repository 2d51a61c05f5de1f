/-
  Layer 5, pure: what a step of each task comes to, over a memory of three cells.
-/
import Derived.Test.YtngihgdcoeokhaaLatchOne
namespace Go.Proofs.Ytngihgdcoeokhaa
open Go.RowKit
set_option linter.unusedVariables false
set_option linter.unusedSimpArgs false

section
variable (n d s c k x y z v : Int)
theorem user0 : turn userP [] ⟨[n, d, s], c⟩ = ⟨[d], ⟨[n, wrap64 (d + 1), s], c + 1⟩, false, none⟩ := by
  simp [userP, userRest, takeP, giveP, Task.bind, turn, okOf, toldOf, memOf, inb, nth, ends, spentv, deadv]
theorem user1 (h : s = k) : turn userP [k] ⟨[n, d, s], c⟩ = ⟨[s], ⟨[n, d, s], c + 1⟩, false, none⟩ := by
  simp [userP, userRest, takeP, giveP, Task.bind, turn, okOf, toldOf, memOf, inb, nth, ends, spentv, deadv, h]
theorem user1' (h : s ≠ k) : turn userP [k] ⟨[n, d, s], c⟩ = ⟨[], ⟨[n, d, s], c + 1⟩, false, none⟩ := by
  simp [userP, userRest, takeP, giveP, Task.bind, turn, okOf, toldOf, memOf, inb, nth, ends, spentv, deadv, h]
theorem user2 : turn userP [k, x] ⟨[n, d, s], c⟩ = ⟨[n], ⟨[n, d, s], c + 1⟩, false, none⟩ := by
  simp [userP, userRest, takeP, giveP, Task.bind, turn, okOf, toldOf, memOf, inb, nth, ends, spentv, deadv]
theorem user3 : turn userP [k, x, v] ⟨[n, d, s], c⟩ = ⟨[0], ⟨[wrap64 (v + 1), d, s], c + 1⟩, false, none⟩ := by
  simp [userP, userRest, takeP, giveP, Task.bind, turn, okOf, toldOf, memOf, inb, nth, ends, spentv, deadv]
theorem user4 : turn userP [k, x, v, y] ⟨[n, d, s], c⟩ = ⟨[0], ⟨[n, d, wrap64 (k + 1)], c + 1⟩, true, some (.int .i64 k)⟩ := by
  simp [userP, userRest, takeP, giveP, Task.bind, turn, okOf, toldOf, memOf, inb, nth, ends, spentv, deadv]
theorem idler0 : turn idlerP [] ⟨[n, d, s], c⟩ = ⟨[s], ⟨[n, d, s], c + 1⟩, false, none⟩ := by
  simp [idlerP, idleP, Task.bind, turn, okOf, toldOf, memOf, inb, nth, ends, spentv, deadv]
theorem idler1 : turn idlerP [x] ⟨[n, d, s], c⟩ = ⟨[d], ⟨[n, d, s], c + 1⟩, true, some (.bool (x == d))⟩ := by
  simp [idlerP, idleP, Task.bind, turn, okOf, toldOf, memOf, inb, nth, ends, spentv, deadv]
end

theorem awake_goes : ones userP 5 ⟨[], false, ⟨[0, 0, 0], 0⟩, .int .i64 (-1)⟩ = ⟨[0, 0, 0, 0, 0], true, ⟨[1, 1, 1], 5⟩, .int .i64 0⟩ := by
  simp only [ones, one, user0, user1, user2, user3, user4, Bool.false_eq_true, if_false, List.nil_append, List.cons_append, Option.getD, wrap64]
  rfl
theorem idle_goes (d s c : Int) : ones idlerP 3 ⟨[], false, ⟨[0, d, s], c⟩, .bool false⟩ = ⟨[s, d], true, ⟨[0, d, s], c + 1 + 1⟩, .bool (s == d)⟩ := by
  simp [ones, one, idler0, idler1]
theorem waits_goes (d s c : Int) (v : Value) (h : s ≠ d) (k : Nat) : ones userP (k + 1) ⟨[], false, ⟨[0, d, s], c⟩, v⟩ = ⟨[d], false, ⟨[0, wrap64 (d + 1), s], c + 1 + k⟩, v⟩ := by
  induction k with
  | zero => simp [ones, one, user0]
  | succ k ih =>
    show one userP (ones userP (k + 1) _) = _
    rw [ih]
    simp [one, user1' _ _ _ _ _ h]
    omega
theorem served_goes (d c : Int) (v : Value) : ones userP 4 ⟨[d], false, ⟨[0, wrap64 (d + 1), d], c⟩, v⟩ = ⟨[d, d, 0, 0, 0], true, ⟨[1, wrap64 (d + 1), wrap64 (d + 1)], c + 1 + 1 + 1 + 1⟩, .int .i64 d⟩ := by
  have : wrap64 1 = 1 := by unfold wrap64; omega
  simp [ones, one, user1, user2, user3, user4, this]
end Go.Proofs.Ytngihgdcoeokhaa
