/-
  Texts of our own, one behind the other (MapCame): what the laws' proofs rest on; each says at its head what it holds. No conditions.
-/
import Derived.Test.YtholpgcghpikgaaGreatPkIn
import Derived.Test.YtholpgcghpikgaaGreatPkM
/-
  Arguments that came in: a call.
-/
namespace Go.Proofs.YtholpgcghpikgaaGreat
open Go.ChangeShapes Go.WideShapes Go.RowKit Go.Deep

set_option maxRecDepth 100000 in
theorem call_came {H : Type} {enc : TypeId × Value → H} {w : World} {base base' : Nat} {spare : Nat → Bool} {held : Bool} {v : Value} {d : DataW H} {p : List MemPlace}
    (ok : Value.okWide Tryz.prog w .any base 38 v) (h : DataW.Trod enc Tryz.prog w base' spare held 38 v d p) : ∃ c : Cl, v = c.v ∧ i64 c.a ∧ i64 c.n ∧ i64 c.f ∧ i64 c.b ∧ i64 c.o := by
  obtain ⟨cs, rfl, hs, hx⟩ := struct_came Tryz.underlying38 (by kernel_rfl) (by kernel_rfl) ok h
  obtain ⟨x0, n0, y0, e0, g0⟩ := hx 0 _ rfl
  obtain ⟨x1, n1, y1, e1, g1⟩ := hx 1 _ rfl
  obtain ⟨x2, n2, y2, e2, g2⟩ := hx 2 _ rfl
  obtain ⟨x3, n3, y3, e3, g3⟩ := hx 3 _ rfl
  obtain ⟨x4, n4, y4, e4, g4⟩ := hx 4 _ rfl
  obtain ⟨x5, n5, y5, e5, g5⟩ := hx 5 _ rfl
  obtain ⟨x6, n6, y6, e6, g6⟩ := hx 6 _ rfl
  obtain ⟨x7, n7, y7, e7, g7⟩ := hx 7 _ rfl
  obtain ⟨x8, n8, y8, e8, g8⟩ := hx 8 _ rfl
  obtain ⟨z0, k0, _, b0⟩ := DataW.trod_int Tryz.underlying3 g0
  obtain ⟨z1, k1, _, b1⟩ := DataW.trod_int Tryz.underlying2 g1
  obtain ⟨z2, k2, _, b2⟩ := DataW.trod_int Tryz.underlying2 g2
  obtain ⟨z3, k3, _, b3⟩ := DataW.trod_int Tryz.underlying2 g3
  obtain ⟨z4, k4, _, b4⟩ := DataW.trod_int Tryz.underlying2 g4
  obtain ⟨z5, k5, _, b5⟩ := DataW.trod_int Tryz.underlying3 g5
  obtain ⟨z6, k6, _, b6⟩ := DataW.trod_int Tryz.underlying3 g6
  obtain ⟨z7, k7, _, b7⟩ := DataW.trod_int Tryz.underlying3 g7
  obtain ⟨z8, k8, _, b8⟩ := DataW.trod_int Tryz.underlying2 g8
  simp only [List.cons.injEq, and_true] at k0 k1 k2 k3 k4 k5 k6 k7 k8
  subst k0 k1 k2 k3 k4 k5 k6 k7 k8
  have key : ∀ x, (Lit.int .i64 x).wf = true → i64 x := fun x h => by have := bounds_i64 h; unfold i64; omega
  refine ⟨⟨z0, z1, z2, z3, z4, z5, z6, z7, z8⟩, ?_, key _ b1, key _ b2, key _ b6, key _ b7, key _ b8⟩
  unfold Cl.v Cl.cells
  congr 1
  apply Array.ext
  · exact hs
  · intro i h1 h2
    have hi : i < 9 := h2
    match i, hi with
    | 0, _ => exact Option.some.inj ((Array.getElem?_eq_getElem h1).symm.trans e0)
    | 1, _ => exact Option.some.inj ((Array.getElem?_eq_getElem h1).symm.trans e1)
    | 2, _ => exact Option.some.inj ((Array.getElem?_eq_getElem h1).symm.trans e2)
    | 3, _ => exact Option.some.inj ((Array.getElem?_eq_getElem h1).symm.trans e3)
    | 4, _ => exact Option.some.inj ((Array.getElem?_eq_getElem h1).symm.trans e4)
    | 5, _ => exact Option.some.inj ((Array.getElem?_eq_getElem h1).symm.trans e5)
    | 6, _ => exact Option.some.inj ((Array.getElem?_eq_getElem h1).symm.trans e6)
    | 7, _ => exact Option.some.inj ((Array.getElem?_eq_getElem h1).symm.trans e7)
    | 8, _ => exact Option.some.inj ((Array.getElem?_eq_getElem h1).symm.trans e8)
end Go.Proofs.YtholpgcghpikgaaGreat
