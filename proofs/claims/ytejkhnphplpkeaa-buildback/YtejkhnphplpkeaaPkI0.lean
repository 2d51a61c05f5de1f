/-
  Texts of our own, one behind the other (Came, CameArea, CameArr): what the laws' proofs rest on; each says at its head what it holds. No conditions.
-/
import Derived.Test.YtejkhnphplpkeaaPkA
import Derived.Deep.Slices
import Derived.Deep.Fields
import Derived.OpenShut
/-
  Arguments that came in, as cells: a list of structs whose fields have one cell each.
-/
namespace Go.Proofs.Ytejkhnphplpkeaa
open Go.ChangeShapes Go.WideShapes Go.RowKit Go.Deep
section
variable {H : Type} {enc : TypeId × Value → H} {P : Program} {w : World} {base : Nat} {spare : Nat → Bool} {held : Bool}

theorem lt_of_cell {a : Addr} {v : Value} (h : w.cell? a = some v) : a.block < w.heap.size := by
  rcases Nat.lt_or_ge a.block w.heap.size with hlt | hge
  · exact hlt
  · simp [World.cell?, Array.getElem?_eq_none hge] at h

/-- A slice of structs that came in, where it has any: each field of each element lies in its cell, and reads as its type says. -/
theorem structs_came {t e : TypeId} {fs : Array Field} {A : Option Addr} {len cap : Nat} {d : DataW H} {p : List MemPlace} (ht : P.underlying t = some (.slice e)) (he : P.underlying e = some (.struct fs))
    (hone : oneCellFields P fs = true) (hC : P.cellsOf e = fs.size) (hpos : 0 < fs.size) (h : DataW.Trod enc P w base spare held t (.slice A len cap) d p) (hlen : 0 < len) :
    ∃ b off, A = some ⟨b, off, none⟩ ∧ b < w.heap.size ∧ len ≤ cap ∧ cap ≤ maxLen ∧
      ∀ k, k < len → ∀ (j : Nat) (f : Field), fs[j]? = some f → ∃ (v : Value) (n : Nat) (y : DataW H × List MemPlace), w.cell? ⟨b, off + k * fs.size + j, none⟩ = some v ∧ DataW.trod enc P w base spare held n f.type [v] = some y := by
  obtain ⟨fuel, hf⟩ := h
  rcases open_slice ht hf with ⟨hcs, _⟩ | ⟨a, len', cap', m, n, D, Pl, hcs, hb, hl, hm, hmm, hx, hi⟩
  · simp [Value.cells] at hcs
    omega
  · simp only [Value.cells, List.cons.injEq, Value.slice.injEq, and_true] at hcs
    obtain ⟨rfl, rfl, rfl⟩ := hcs
    have hlm : len ≤ m := by rw [hmm]; split <;> omega
    have main : ∀ k, k < len → ∀ (j : Nat) (f : Field), fs[j]? = some f → ∃ (v : Value) (n : Nat) (y : DataW H × List MemPlace), w.cell? (a.add (k * fs.size + j)) = some v ∧ DataW.trod enc P w base spare held n f.type [v] = some y := by
      intro k hk j f hj
      obtain ⟨cs', hc, ht'⟩ := hi k (by omega)
      rw [hC] at hc
      obtain ⟨ys, n', _, _, _, hyl, hg⟩ := DataW.trod_struct he ht'
      obtain ⟨_, hcl, hat⟩ := World.cells?_some hc
      obtain ⟨ho, hk1⟩ := hone_of hone j f hj
      have hjl : j < fs.size := (Array.getElem?_eq_some_iff.1 hj).1
      have h1 := hg j f hj
      rw [ho, hk1, List.drop_eq_getElem_cons (by omega), List.take_succ_cons, List.take_zero, List.getElem?_eq_getElem (by omega)] at h1
      refine ⟨cs'[j]'(by omega), n', _, ?_, h1⟩
      rw [← add_add, hat j hjl, List.getElem?_eq_getElem (by omega)]
    obtain ⟨b, off, spot⟩ := a
    have hf0 : ∃ f, fs[0]? = some f := ⟨_, Array.getElem?_eq_getElem hpos⟩
    obtain ⟨f0, hf0⟩ := hf0
    obtain ⟨v0, _, _, hc0, _⟩ := main 0 hlen 0 f0 hf0
    have hspot : spot = none := by simpa [Addr.add] using World.cell?_spot hc0
    subst hspot
    refine ⟨b, off, rfl, ?_, hl, hm, fun k hk j f hj => ?_⟩
    · have := lt_of_cell hc0
      simpa [Addr.add] using this
    · obtain ⟨v, n', y, hc, hy⟩ := main k hk j f hj
      exact ⟨v, n', y, by rw [add_plain, ← Nat.add_assoc] at hc; exact hc, hy⟩
end
end Go.Proofs.Ytejkhnphplpkeaa

/-
  Arguments that came in: a struct whose fields have one cell each; an area.
-/
namespace Go.Proofs.Ytejkhnphplpkeaa
open Go.ChangeShapes Go.WideShapes Go.RowKit Go.Deep
section
variable {H : Type} {enc : TypeId × Value → H} {P : Program} {w : World} {base base' : Nat} {spare : Nat → Bool} {held : Bool}

theorem struct_came {t : TypeId} {fs : Array Field} {v : Value} {d : DataW H} {p : List MemPlace} (ht : P.underlying t = some (.struct fs)) (hone : oneCellFields P fs = true) (hC : P.cellsOf t = fs.size)
    (ok : Value.okWide P w .any base t v) (h : DataW.Trod enc P w base' spare held t v d p) :
    ∃ cs : Array Value, v = .agg cs ∧ cs.size = fs.size ∧ ∀ (j : Nat) (f : Field), fs[j]? = some f → ∃ (x : Value) (n : Nat) (y : DataW H × List MemPlace), cs[j]? = some x ∧ DataW.trod enc P w base' spare held n f.type [x] = some y := by
  unfold Value.okWide at ok
  rw [ht] at ok
  obtain ⟨cs, rfl, hs, _⟩ := ok
  rw [hC] at hs
  refine ⟨cs, rfl, hs, fun j f hj => ?_⟩
  obtain ⟨fuel, hf⟩ := h
  obtain ⟨ys, n', _, _, _, hyl, hg⟩ := DataW.trod_struct ht hf
  obtain ⟨ho, hk1⟩ := hone_of hone j f hj
  have hjl : j < fs.size := (Array.getElem?_eq_some_iff.1 hj).1
  have h1 := hg j f hj
  simp only [Value.cells] at h1
  have hj2 : j < cs.toList.length := by simpa [hs] using hjl
  rw [ho, hk1, List.drop_eq_getElem_cons hj2, List.take_succ_cons, List.take_zero, List.getElem?_eq_getElem (by omega)] at h1
  exact ⟨_, n', _, by simp [Array.getElem?_eq_getElem (show j < cs.size by omega)], h1⟩
end

/-- All numbers of an area are of 64 bits. -/
structure Ar.Fits (a : Ar) : Prop where
  s : (Lit.int .i64 a.s).wf = true
  e : (Lit.int .i64 a.e).wf = true
  p : (Lit.int .i64 a.p).wf = true
  bk : (Lit.int .i64 a.bk).wf = true
  off : (Lit.int .i64 a.off).wf = true

set_option maxRecDepth 100000 in
theorem area_came {H : Type} {enc : TypeId × Value → H} {w : World} {base base' : Nat} {spare : Nat → Bool} {held : Bool} {v : Value} {d : DataW H} {p : List MemPlace}
    (ok : Value.okWide Try.prog w .any base 74 v) (h : DataW.Trod enc Try.prog w base' spare held 74 v d p) : ∃ a : Ar, v = a.v ∧ a.Fits := by
  obtain ⟨cs, rfl, hs, hx⟩ := struct_came Try.underlying74 (by kernel_rfl) (by kernel_rfl) ok h
  obtain ⟨x0, n0, y0, e0, g0⟩ := hx 0 _ rfl
  obtain ⟨x1, n1, y1, e1, g1⟩ := hx 1 _ rfl
  obtain ⟨x2, n2, y2, e2, g2⟩ := hx 2 _ rfl
  obtain ⟨x3, n3, y3, e3, g3⟩ := hx 3 _ rfl
  obtain ⟨x4, n4, y4, e4, g4⟩ := hx 4 _ rfl
  obtain ⟨x5, n5, y5, e5, g5⟩ := hx 5 _ rfl
  obtain ⟨z0, k0, _, b0⟩ := DataW.trod_int Try.underlying2 g0
  obtain ⟨z1, k1, _, b1⟩ := DataW.trod_int Try.underlying2 g1
  obtain ⟨z2, k2, _, b2⟩ := DataW.trod_int Try.underlying3 g2
  obtain ⟨z3, k3, _⟩ := DataW.trod_bool Try.underlying4 g3
  obtain ⟨z4, k4, _, b4⟩ := DataW.trod_int Try.underlying3 g4
  obtain ⟨z5, k5, _, b5⟩ := DataW.trod_int Try.underlying2 g5
  simp only [List.cons.injEq, and_true] at k0 k1 k2 k3 k4 k5
  subst k0 k1 k2 k3 k4 k5
  refine ⟨⟨z0, z1, z2, z3, z4, z5⟩, ?_, ⟨b0, b1, b2, b4, b5⟩⟩
  unfold Ar.v
  congr 1
  apply Array.ext
  · exact hs
  · intro i h1 h2
    have hi : i < 6 := h2
    match i, hi with
    | 0, _ => exact Option.some.inj ((Array.getElem?_eq_getElem h1).symm.trans e0)
    | 1, _ => exact Option.some.inj ((Array.getElem?_eq_getElem h1).symm.trans e1)
    | 2, _ => exact Option.some.inj ((Array.getElem?_eq_getElem h1).symm.trans e2)
    | 3, _ => exact Option.some.inj ((Array.getElem?_eq_getElem h1).symm.trans e3)
    | 4, _ => exact Option.some.inj ((Array.getElem?_eq_getElem h1).symm.trans e4)
    | 5, _ => exact Option.some.inj ((Array.getElem?_eq_getElem h1).symm.trans e5)
end Go.Proofs.Ytejkhnphplpkeaa

/-
  Arguments that came in: an array of two numbers.
-/
namespace Go.Proofs.Ytejkhnphplpkeaa
open Go.ChangeShapes Go.WideShapes Go.RowKit

theorem two_came {H : Type} {enc : TypeId × Value → H} {P : Program} {w : World} {base base' : Nat} {spare : Nat → Bool} {held : Bool} {t e : TypeId} {k : IntKind} {v : Value} {d : DataW H} {p : List MemPlace}
    (ht : P.underlying t = some (.array 2 e)) (he : P.underlying e = some (.int k)) (hce : P.cellsOf e = 1) (hct : P.cellsOf t = 2) (ok : Value.okWide P w .any base t v) (h : DataW.Trod enc P w base' spare held t v d p) :
    ∃ a b, v = .agg #[.int k a, .int k b] ∧ (Lit.int k a).wf = true ∧ (Lit.int k b).wf = true := by
  unfold Value.okWide at ok
  rw [ht] at ok
  obtain ⟨cs, rfl, hs, _⟩ := ok
  rw [hct] at hs
  obtain ⟨fuel, hf⟩ := h
  obtain ⟨xs, m, _, _, _, hl, hx⟩ := DataW.trod_array ht hf
  obtain ⟨x, y, rfl⟩ : ∃ x y, cs = #[x, y] := by
    obtain ⟨l⟩ := cs
    match l, hs with
    | [x, y], _ => exact ⟨x, y, rfl⟩
  have h0 := hx 0 (by omega)
  have h1 := hx 1 (by omega)
  rw [List.getElem?_eq_getElem (by omega)] at h0 h1
  rw [hce] at h0 h1
  obtain ⟨z0, e0, _, g0⟩ := DataW.trod_int he h0
  obtain ⟨z1, e1, _, g1⟩ := DataW.trod_int he h1
  simp [Value.cells] at e0 e1
  subst e0 e1
  exact ⟨_, _, rfl, g0, g1⟩
end Go.Proofs.Ytejkhnphplpkeaa
