/-
  Layer 6: what an area allows; what a program that does nothing does not answer.
-/
import Derived.Test.YtmppodobgkhojaaAreaPart
namespace Go.Proofs.Ytmppodobgkhojaa
open Go.ChangeShapes Go.WideShapes Go.ChangeAt Go.RowKit
set_option linter.unusedVariables false

/-- The low three bits of a number, with those of another one. -/
theorem and_low (p k : Int) (h0 : 0 ≤ k) (h7 : k ≤ 7) : bits .and .i64 p k = (((p % 8).toNat &&& k.toNat : Nat) : Int) := by
  show IntKind.i64.wrap ((BitVec.ofInt 64 p &&& BitVec.ofInt 64 k).toNat : Int) = _
  rw [BitVec.toNat_and, BitVec.toNat_ofInt, BitVec.toNat_ofInt]
  have hk : (k % ((2 ^ 64 : Nat) : Int)).toNat = k.toNat := by congr 1; omega
  rw [hk]
  have hl : ((p % ((2 ^ 64 : Nat) : Int)).toNat &&& k.toNat) = ((p % 8).toNat &&& k.toNat) := by
    have h1 : ((p % ((2 ^ 64 : Nat) : Int)).toNat &&& k.toNat) < 8 := Nat.lt_of_le_of_lt Nat.and_le_right (by omega)
    have h2 := Nat.and_mod_two_pow (a := (p % ((2 ^ 64 : Nat) : Int)).toNat) (b := k.toNat) (n := 3)
    rw [Nat.mod_eq_of_lt (by simpa using h1), Nat.mod_eq_of_lt (a := k.toNat) (by omega)] at h2
    rw [h2]
    congr 1
    omega
  rw [hl, IntKind.wrap_i64]
  have h3 : ((p % 8).toNat &&& k.toNat) ≤ k.toNat := Nat.and_le_right
  omega

/-- Whether a Prot has all bits of a kind. -/
def mayB (p k : Int) : Bool := decide (1 ≤ k ∧ k ≤ 7) && (((p % 8).toNat &&& k.toNat) == k.toNat)

theorem formed_first : Formed ⟨65536, 69632, 1, false, 0, 0⟩ := ⟨⟨rfl, rfl, by decide, by decide, by decide⟩, ⟨(fun _ => rfl), (fun h => absurd rfl h)⟩, by decide, by decide⟩

end Go.Proofs.Ytmppodobgkhojaa
