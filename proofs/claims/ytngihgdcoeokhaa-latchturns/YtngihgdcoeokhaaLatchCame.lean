/-
  Layer 5: turns that came in.
-/
import Derived.Test.YtngihgdcoeokhaaLatchTurnsWalk
import Derived.Test.YtngihgdcoeokhaaCameElems
namespace Go.Proofs.Ytngihgdcoeokhaa
open Go.ChangeShapes Go.WideShapes Go.RowKit Go.Deep
set_option linter.unusedVariables false

section
variable {H : Type} {enc : TypeId × Value → H} {w : World} {base : Nat} {spare : Nat → Bool} {held : Bool}
theorem turns_came {TA : Option Addr} {n tc : Nat} {d : DataW H} {p : List MemPlace} (h : DataW.Trod enc Try.prog w base spare held 22 (.slice TA n tc) d p) :
    ∃ TB TO : Nat, Arg5 w TA TB TO n := by
  by_cases hp : 0 < n
  · obtain ⟨b, off, rfl, hlt, hc⟩ := elems_came Try.underlying22 (by kernel_rfl) h hp
    refine ⟨b, off, fun _ => rfl, fun k hk => ?_⟩
    obtain ⟨v, m, y, hv, hy⟩ := hc k hk
    obtain ⟨z, e0, _, g0⟩ := DataW.trod_int Try.underlying5 hy
    simp only [List.cons.injEq, and_true] at e0
    subst e0
    have hb := bounds_u8 g0
    exact ⟨z, hv, hb.1, hb.2⟩
  · exact ⟨0, 0, fun h' => absurd h' hp, fun k hk => absurd hk (by omega)⟩
end
end Go.Proofs.Ytngihgdcoeokhaa
