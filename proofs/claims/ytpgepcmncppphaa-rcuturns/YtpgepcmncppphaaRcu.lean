/-
  Layer 4: what each of its calls does, as a program of accesses.
-/
import Derived.Test.YtpgepcmncppphaaTaskPure
namespace Go.Proofs.Ytpgepcmncppphaa
open Go.ChangeShapes Go.WideShapes Go.ChangeAt Go.RowKit
set_option linter.unusedVariables false

/-- Does this cell hold the epoch back? -/
def holds (c e : Int) : Bool := (c != 0) && (c != wrap64 (e + 1))
/-- Advance from the reader r on, of which n are left. -/
def advFrom (at_ e : Int) : Nat → Nat → Task Bool
  | r, 0 => .acc 1 at_ (wrap64 (e + 1)) 0 fun _ => .ask fun d => .ret (!d)
  | r, n + 1 => .acc 0 (at_ + 1 + r) 0 0 fun c => if holds c e then .ret false else advFrom at_ e (r + 1) n
def advP (at_ : Int) : Task Bool := .acc 0 at_ 0 0 fun e => advFrom at_ e 0 16
def isRd (r : Int) : Bool := decide (0 ≤ r) && decide (r < 16)
def enterP (at_ r : Int) : Task Bool := if isRd r then .acc 0 at_ 0 0 fun e => .acc 1 (at_ + 1 + r) (wrap64 (e + 1)) 0 fun _ => .ret false else .ret false
def leaveP (at_ r : Int) : Task Bool := if isRd r then .acc 1 (at_ + 1 + r) 0 0 fun _ => .ret false else .ret false

theorem is_reader (r : Int) (w : World) : Calls Try.prog 26 #[.int .i64 r] w fun e w' => e = .returned (.bool (isRd r)) ∧ w = w' := by
  have key : Hid (isRd r = (decide (0 ≤ r) && decide (r < 16))) := rfl
  generalize isRd r = x at *
  by_cases h0 : 0 ≤ r
  · by_cases h1 : r < 16
    · go_enter Try.func26, Try.ntmps26
      go_wp2
      go_ret
      rw [key.out]; simp [h0, h1]
    · go_enter Try.func26, Try.ntmps26
      go_wp2
      go_ret
      rw [key.out]; simp [h0, h1]
  · go_enter Try.func26, Try.ntmps26
    go_wp2
    go_ret
    rw [key.out]; simp; omega
theorem reader_cell (a r : Int) (w : World) (h0 : 0 ≤ a) (h1 : a ≤ 1000000) (h2 : 0 ≤ r) (h3 : r ≤ 1000000) : Calls Try.prog 29 #[.int .i64 a, .int .i64 r] w fun e w' => e = .returned (.int .i64 (a + 1 + r)) ∧ w = w' := by
  go_enter Try.func29, Try.ntmps29
  go_wp2
  go_ret
  refine ⟨?_, rfl⟩
  go_num
theorem seen_one (e : Int) (w : World) : Calls Try.prog 30 #[.int .i64 e] w fun e' w' => e' = .returned (.int .i64 (wrap64 (e + 1))) ∧ w = w' := by
  go_enter Try.func30, Try.ntmps30
  go_wp2
  go_ret
  exact ⟨rfl, rfl⟩
theorem holds_back (c e : Int) (w : World) : Calls Try.prog 31 #[.int .i64 c, .int .i64 e] w fun e' w' => e' = .returned (.bool (holds c e)) ∧ w = w' := by
  have key : Hid (holds c e = ((c != 0) && (c != wrap64 (e + 1)))) := rfl
  have S := Lib.hid (seen_one e w)
  generalize holds c e = x at *
  cases h : (c != 0) with
  | false =>
    go_enter Try.func31, Try.ntmps31
    go_wp2
    go_ret
    rw [key.out]; simp [h]
  | true =>
    go_enter Try.func31, Try.ntmps31
    go_wp2_with (go_at_call 30; refine S.out.mono ?_; rintro e' w3 ⟨rfl, rfl⟩)
    go_ret
    rw [key.out]; simp [h]
/-- Free. -/
def free (tag ep : Int) : Bool := decide (tag ≤ 9223372036854775805) && decide (tag + 2 ≤ ep)
theorem frees (tag ep : Int) (w : World) (h0 : -9223372036854775808 ≤ tag) (h1 : tag ≤ 9223372036854775807) : Calls Try.prog 15 #[.int .i64 tag, .int .i64 ep] w fun e' w' => e' = .returned (.bool (free tag ep)) ∧ w = w' := by
  have key : Hid (free tag ep = (decide (tag ≤ 9223372036854775805) && decide (tag + 2 ≤ ep))) := rfl
  generalize free tag ep = x at *
  by_cases h : tag ≤ 9223372036854775805
  · go_enter Try.func15, Try.ntmps15
    go_wp2
    go_ret
    rw [key.out]; simp [h]
  · go_enter Try.func15, Try.ntmps15
    go_wp2
    go_ret
    rw [key.out]; simp; omega
end Go.Proofs.Ytpgepcmncppphaa
