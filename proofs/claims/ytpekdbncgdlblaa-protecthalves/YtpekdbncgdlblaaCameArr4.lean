/-
  Arguments that came in: an array of four numbers.
-/
import Derived.Test.YtpekdbncgdlblaaPkA
import Derived.OpenShut
namespace Go.Proofs.Ytpekdbncgdlblaa
open Go.ChangeShapes Go.WideShapes Go.RowKit

theorem four_came {H : Type} {enc : TypeId × Value → H} {P : Program} {w : World} {base base' : Nat} {spare : Nat → Bool} {held : Bool} {t e : TypeId} {k : IntKind} {v : Value} {d : DataW H} {p : List MemPlace}
    (ht : P.underlying t = some (.array 4 e)) (he : P.underlying e = some (.int k)) (hce : P.cellsOf e = 1) (hct : P.cellsOf t = 4) (ok : Value.okWide P w .any base t v) (h : DataW.Trod enc P w base' spare held t v d p) :
    ∃ a b c d, v = .agg #[.int k a, .int k b, .int k c, .int k d] ∧ (Lit.int k a).wf = true ∧ (Lit.int k b).wf = true ∧ (Lit.int k c).wf = true ∧ (Lit.int k d).wf = true := by
  unfold Value.okWide at ok
  rw [ht] at ok
  obtain ⟨cs, rfl, hs, _⟩ := ok
  rw [hct] at hs
  obtain ⟨fuel, hf⟩ := h
  obtain ⟨xs, m, _, _, _, hl, hx⟩ := DataW.trod_array ht hf
  obtain ⟨x, y, z, u, rfl⟩ : ∃ x y z u, cs = #[x, y, z, u] := by
    obtain ⟨l⟩ := cs
    match l, hs with
    | [x, y, z, u], _ => exact ⟨x, y, z, u, rfl⟩
  have h0 := hx 0 (by omega)
  have h1 := hx 1 (by omega)
  have h2 := hx 2 (by omega)
  have h3 := hx 3 (by omega)
  rw [List.getElem?_eq_getElem (by omega)] at h0 h1 h2 h3
  rw [hce] at h0 h1 h2 h3
  obtain ⟨z0, e0, _, g0⟩ := DataW.trod_int he h0
  obtain ⟨z1, e1, _, g1⟩ := DataW.trod_int he h1
  obtain ⟨z2, e2, _, g2⟩ := DataW.trod_int he h2
  obtain ⟨z3, e3, _, g3⟩ := DataW.trod_int he h3
  simp [Value.cells] at e0 e1 e2 e3
  subst e0 e1 e2 e3
  exact ⟨_, _, _, _, rfl, g0, g1, g2, g3⟩
end Go.Proofs.Ytpekdbncgdlblaa
