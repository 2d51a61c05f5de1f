/-
  Layer 6: what an area allows; what a program that does nothing does not answer.
-/
import Derived.Test.YtjccfhoikbddmaaAreaPart
namespace Go.Proofs.Ytjccfhoikbddmaa
open Go.ChangeShapes Go.WideShapes Go.ChangeAt Go.RowKit
set_option linter.unusedVariables false

/-- The low three bits of a number, with those of another one. -/
theorem and_low (p k : Int) (h0 : 0 ≤ k) (h7 : k ≤ 7) : bits .and .i64 p k = (((p % 8).toNat &&& k.toNat : Nat) : Int) := by
  show IntKind.i64.wrap ((BitVec.ofInt 64 p &&& BitVec.ofInt 64 k).toNat : Int) = _
  rw [BitVec.toNat_and, BitVec.toNat_ofInt, BitVec.toNat_ofInt]
  have hk : (k % ((2 ^ 64 : Nat) : Int)).toNat = k.toNat := by congr 1; omega
  rw [hk]
  have hl : ((p % ((2 ^ 64 : Nat) : Int)).toNat &&& k.toNat) = ((p % 8).toNat &&& k.toNat) := by
    have h1 : ((p % ((2 ^ 64 : Nat) : Int)).toNat &&& k.toNat) < 8 := Nat.lt_of_le_of_lt Nat.and_le_right (by omega)
    have h2 := Nat.and_mod_two_pow (a := (p % ((2 ^ 64 : Nat) : Int)).toNat) (b := k.toNat) (n := 3)
    rw [Nat.mod_eq_of_lt (by simpa using h1), Nat.mod_eq_of_lt (a := k.toNat) (by omega)] at h2
    rw [h2]
    congr 1
    omega
  rw [hl, IntKind.wrap_i64]
  have h3 : ((p % 8).toNat &&& k.toNat) ≤ k.toNat := Nat.and_le_right
  omega

/-- Whether a Prot has all bits of a kind. -/
def mayB (p k : Int) : Bool := decide (1 ≤ k ∧ k ≤ 7) && (((p % 8).toNat &&& k.toNat) == k.toNat)

set_option maxHeartbeats 1000000 in
theorem may_any (a : Ar) (k : Int) : Says 18 #[a.v, .int .i64 k] (.bool (mayB a.p k)) := by
  intro w
  have E := Lib.hid (and_low a.p k)
  have HR : Hid (Tells (mayB a.p k) ((1 ≤ k ∧ k ≤ 7) ∧ (((a.p % 8).toNat &&& k.toNat) = k.toNat))) := Lib.hid (by simp [Tells, mayB])
  generalize mayB a.p k = r at *
  obtain ⟨s, t, p, sh, bk, off⟩ := a
  unfold Ar.v
  simp only at E HR
  go_enter Try.func18, Try.ntmps18
  go_wp2
  all_goals
    go_ret
    refine ⟨says_bool (HR.out.is ⟨fun h => ?_, fun h => ?_⟩), below_new _ _⟩
    · simp at h
      all_goals
        rw [E.out (by omega) (by omega)] at h
        exact ⟨⟨by omega, by omega⟩, by omega⟩
    · simp
      all_goals first
        | (rw [E.out (by omega) (by omega)]; omega)
        | omega

theorem formed_first : Formed ⟨65536, 69632, 1, false, 0, 0⟩ := ⟨⟨rfl, rfl, by decide, by decide, by decide⟩, ⟨(fun _ => rfl), (fun h => absurd rfl h)⟩, by decide, by decide⟩

set_option maxHeartbeats 1000000 in
theorem area_awake : Says 8 #[] (.bool true) := by
  intro w
  have X := Lib.hid (formed_any ⟨65536, 69632, 1, false, 0, 0⟩)
  rw [show decide (Formed _) = true from decide_eq_true formed_first] at X
  have Y := Lib.hid (may_any ⟨0, 0, 3, false, 0, 0⟩ 2)
  rw [show mayB _ _ = true from by decide] at Y
  unfold Ar.v at *
  simp only at X Y
  go_enter Try.func8, Try.ntmps8
  go_wp2_with fail
  refine (X.out _).mono ?_
  rintro e w1 ⟨rfl, hb1⟩
  go_wp2_with fail
  refine (Y.out _).mono ?_
  rintro e w2 ⟨rfl, hb2⟩
  go_wp2_with fail
  go_ret
  exact ⟨rfl, below_then hb1 hb2 (Nat.le_refl _)⟩
end Go.Proofs.Ytjccfhoikbddmaa
