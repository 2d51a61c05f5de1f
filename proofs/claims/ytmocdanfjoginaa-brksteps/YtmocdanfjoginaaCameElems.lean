/-
  Arguments that came in, as cells: slices whose elements have one cell each, or are arrays of two numbers.
-/
import Derived.Test.YtmocdanfjoginaaPkIn
namespace Go.Proofs.Ytmocdanfjoginaa
open Go.ChangeShapes Go.WideShapes Go.RowKit Go.Deep
section
variable {H : Type} {enc : TypeId × Value → H} {P : Program} {w : World} {base : Nat} {spare : Nat → Bool} {held : Bool}

/-- A slice that came in, whose elements have one cell each. -/
theorem elems_came {t e : TypeId} {A : Option Addr} {len cap : Nat} {d : DataW H} {p : List MemPlace} (ht : P.underlying t = some (.slice e)) (hC : P.cellsOf e = 1) (h : DataW.Trod enc P w base spare held t (.slice A len cap) d p) (hlen : 0 < len) :
    ∃ b off, A = some ⟨b, off, none⟩ ∧ b < w.heap.size ∧ ∀ k, k < len → ∃ (v : Value) (n : Nat) (y : DataW H × List MemPlace), w.cell? ⟨b, off + k, none⟩ = some v ∧ DataW.trod enc P w base spare held n e [v] = some y := by
  obtain ⟨fuel, hf⟩ := h
  rcases open_slice ht hf with ⟨hcs, _⟩ | ⟨a, len', cap', m, n, D, Pl, hcs, hb, hl, hm, hmm, hx, hi⟩
  · simp [Value.cells] at hcs
    omega
  · simp only [Value.cells, List.cons.injEq, Value.slice.injEq, and_true] at hcs
    obtain ⟨rfl, rfl, rfl⟩ := hcs
    have hlm : len ≤ m := by rw [hmm]; split <;> omega
    have main : ∀ k, k < len → ∃ (v : Value) (n : Nat) (y : DataW H × List MemPlace), w.cell? (a.add k) = some v ∧ DataW.trod enc P w base spare held n e [v] = some y := by
      intro k hk
      obtain ⟨cs', hc, ht'⟩ := hi k (by omega)
      rw [hC] at hc
      obtain ⟨_, hcl, hat⟩ := World.cells?_some hc
      have h0 := hat 0 (by omega)
      match cs', hcl with
      | [v], _ =>
        refine ⟨v, _, _, ?_, ht'⟩
        rw [add_add] at h0
        simpa using h0
    obtain ⟨b, off, spot⟩ := a
    obtain ⟨v0, _, _, hc0, _⟩ := main 0 hlen
    have hspot : spot = none := by simpa [Addr.add] using World.cell?_spot hc0
    subst hspot
    refine ⟨b, off, rfl, ?_, fun k hk => ?_⟩
    · have := lt_of_cell hc0
      simpa [Addr.add] using this
    · obtain ⟨v, n', y, hc, hy⟩ := main k hk
      exact ⟨v, n', y, by rw [add_plain] at hc; exact hc, hy⟩
/-- A slice that came in, whose elements are arrays of two numbers. -/
theorem pairs_came {t e f : TypeId} {ik : IntKind} {A : Option Addr} {len cap : Nat} {d : DataW H} {p : List MemPlace} (ht : P.underlying t = some (.slice e)) (he : P.underlying e = some (.array 2 f)) (hf : P.underlying f = some (.int ik))
    (hC : P.cellsOf e = 2) (hF : P.cellsOf f = 1) (h : DataW.Trod enc P w base spare held t (.slice A len cap) d p) (hlen : 0 < len) :
    ∃ b off, A = some ⟨b, off, none⟩ ∧ b < w.heap.size ∧ ∀ k, k < len → ∃ x y : Int, w.cell? ⟨b, off + k * 2, none⟩ = some (.int ik x) ∧ w.cell? ⟨b, off + k * 2 + 1, none⟩ = some (.int ik y) ∧ (Lit.int ik x).wf = true ∧ (Lit.int ik y).wf = true := by
  obtain ⟨fuel, hfu⟩ := h
  rcases open_slice ht hfu with ⟨hcs, _⟩ | ⟨a, len', cap', m, n, D, Pl, hcs, hb, hl, hm, hmm, hx, hi⟩
  · simp [Value.cells] at hcs
    omega
  · simp only [Value.cells, List.cons.injEq, Value.slice.injEq, and_true] at hcs
    obtain ⟨rfl, rfl, rfl⟩ := hcs
    have hlm : len ≤ m := by rw [hmm]; split <;> omega
    have main : ∀ k, k < len → ∃ x y : Int, w.cell? (a.add (k * 2)) = some (.int ik x) ∧ w.cell? (a.add (k * 2 + 1)) = some (.int ik y) ∧ (Lit.int ik x).wf = true ∧ (Lit.int ik y).wf = true := by
      intro k hk
      obtain ⟨cs', hc, ht'⟩ := hi k (by omega)
      rw [hC] at hc
      obtain ⟨_, hcl, hat⟩ := World.cells?_some hc
      obtain ⟨xs, m', _, _, _, hl', hx'⟩ := DataW.trod_array he ht'
      have h0 := hx' 0 (by omega)
      have h1 := hx' 1 (by omega)
      rw [List.getElem?_eq_getElem (by omega), hF] at h0 h1
      match cs', hcl with
      | [u, v], _ =>
        obtain ⟨z0, e0, _, g0⟩ := DataW.trod_int hf h0
        obtain ⟨z1, e1, _, g1⟩ := DataW.trod_int hf h1
        simp at e0 e1
        subst e0 e1
        have a0 := hat 0 (by omega)
        have a1 := hat 1 (by omega)
        rw [add_add] at a0 a1
        exact ⟨z0, z1, by simpa using a0, by simpa using a1, g0, g1⟩
    obtain ⟨b, off, spot⟩ := a
    obtain ⟨x0, _, hc0, _⟩ := main 0 hlen
    have hspot : spot = none := by simpa [Addr.add] using World.cell?_spot hc0
    subst hspot
    refine ⟨b, off, rfl, ?_, fun k hk => ?_⟩
    · have := lt_of_cell hc0
      simpa [Addr.add] using this
    · obtain ⟨x, y, h1, h2, h3, h4⟩ := main k hk
      rw [add_plain] at h1 h2
      exact ⟨x, y, h1, by rw [← Nat.add_assoc] at h2; exact h2, h3, h4⟩
end
end Go.Proofs.Ytmocdanfjoginaa
