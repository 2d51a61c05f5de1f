/-
  Arguments that came in: a struct whose fields have one cell each; an area.
-/
import Derived.Test.YtmppodobgkhojaaArea
import Derived.Deep.Fields
import Derived.OpenShut
namespace Go.Proofs.Ytmppodobgkhojaa
open Go.ChangeShapes Go.WideShapes Go.RowKit Go.Deep
section
variable {H : Type} {enc : TypeId × Value → H} {P : Program} {w : World} {base base' : Nat} {spare : Nat → Bool} {held : Bool}

theorem struct_came {t : TypeId} {fs : Array Field} {v : Value} {d : DataW H} {p : List MemPlace} (ht : P.underlying t = some (.struct fs)) (hone : oneCellFields P fs = true) (hC : P.cellsOf t = fs.size)
    (ok : Value.okWide P w .any base t v) (h : DataW.Trod enc P w base' spare held t v d p) :
    ∃ cs : Array Value, v = .agg cs ∧ cs.size = fs.size ∧ ∀ (j : Nat) (f : Field), fs[j]? = some f → ∃ (x : Value) (n : Nat) (y : DataW H × List MemPlace), cs[j]? = some x ∧ DataW.trod enc P w base' spare held n f.type [x] = some y := by
  unfold Value.okWide at ok
  rw [ht] at ok
  obtain ⟨cs, rfl, hs, _⟩ := ok
  rw [hC] at hs
  refine ⟨cs, rfl, hs, fun j f hj => ?_⟩
  obtain ⟨fuel, hf⟩ := h
  obtain ⟨ys, n', _, _, _, hyl, hg⟩ := DataW.trod_struct ht hf
  obtain ⟨ho, hk1⟩ := hone_of hone j f hj
  have hjl : j < fs.size := (Array.getElem?_eq_some_iff.1 hj).1
  have h1 := hg j f hj
  simp only [Value.cells] at h1
  have hj2 : j < cs.toList.length := by simpa [hs] using hjl
  rw [ho, hk1, List.drop_eq_getElem_cons hj2, List.take_succ_cons, List.take_zero, List.getElem?_eq_getElem (by omega)] at h1
  exact ⟨_, n', _, by simp [Array.getElem?_eq_getElem (show j < cs.size by omega)], h1⟩
end

/-- All numbers of an area are of 64 bits. -/
structure Ar.Fits (a : Ar) : Prop where
  s : (Lit.int .i64 a.s).wf = true
  e : (Lit.int .i64 a.e).wf = true
  p : (Lit.int .i64 a.p).wf = true
  bk : (Lit.int .i64 a.bk).wf = true
  off : (Lit.int .i64 a.off).wf = true

theorem area_came {H : Type} {enc : TypeId × Value → H} {w : World} {base base' : Nat} {spare : Nat → Bool} {held : Bool} {v : Value} {d : DataW H} {p : List MemPlace}
    (ok : Value.okWide Try.prog w .any base 35 v) (h : DataW.Trod enc Try.prog w base' spare held 35 v d p) : ∃ a : Ar, v = a.v ∧ a.Fits := by
  obtain ⟨cs, rfl, hs, hx⟩ := struct_came Try.underlying35 (by kernel_rfl) (by kernel_rfl) ok h
  obtain ⟨x0, n0, y0, e0, g0⟩ := hx 0 _ rfl
  obtain ⟨x1, n1, y1, e1, g1⟩ := hx 1 _ rfl
  obtain ⟨x2, n2, y2, e2, g2⟩ := hx 2 _ rfl
  obtain ⟨x3, n3, y3, e3, g3⟩ := hx 3 _ rfl
  obtain ⟨x4, n4, y4, e4, g4⟩ := hx 4 _ rfl
  obtain ⟨x5, n5, y5, e5, g5⟩ := hx 5 _ rfl
  obtain ⟨z0, k0, _, b0⟩ := DataW.trod_int Try.underlying2 g0
  obtain ⟨z1, k1, _, b1⟩ := DataW.trod_int Try.underlying2 g1
  obtain ⟨z2, k2, _, b2⟩ := DataW.trod_int Try.underlying3 g2
  obtain ⟨z3, k3, _⟩ := DataW.trod_bool Try.underlying4 g3
  obtain ⟨z4, k4, _, b4⟩ := DataW.trod_int Try.underlying3 g4
  obtain ⟨z5, k5, _, b5⟩ := DataW.trod_int Try.underlying2 g5
  simp only [List.cons.injEq, and_true] at k0 k1 k2 k3 k4 k5
  subst k0 k1 k2 k3 k4 k5
  refine ⟨⟨z0, z1, z2, z3, z4, z5⟩, ?_, ⟨b0, b1, b2, b4, b5⟩⟩
  unfold Ar.v
  congr 1
  apply Array.ext
  · exact hs
  · intro i h1 h2
    have hi : i < 6 := h2
    match i, hi with
    | 0, _ => exact Option.some.inj ((Array.getElem?_eq_getElem h1).symm.trans e0)
    | 1, _ => exact Option.some.inj ((Array.getElem?_eq_getElem h1).symm.trans e1)
    | 2, _ => exact Option.some.inj ((Array.getElem?_eq_getElem h1).symm.trans e2)
    | 3, _ => exact Option.some.inj ((Array.getElem?_eq_getElem h1).symm.trans e3)
    | 4, _ => exact Option.some.inj ((Array.getElem?_eq_getElem h1).symm.trans e4)
    | 5, _ => exact Option.some.inj ((Array.getElem?_eq_getElem h1).symm.trans e5)
end Go.Proofs.Ytmppodobgkhojaa
