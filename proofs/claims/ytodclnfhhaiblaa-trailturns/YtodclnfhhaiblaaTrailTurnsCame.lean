/-
  Layer 3: many programs, and turns, that came in.
-/
import Derived.Test.YtodclnfhhaiblaaTrailCame
import Derived.Test.YtodclnfhhaiblaaTrailTurnsMake
namespace Go.Proofs.Ytodclnfhhaiblaa
open Go.ChangeShapes Go.WideShapes Go.RowKit Go.Deep

section
variable {H : Type} {enc : TypeId × Value → H} {P : Program} {w : World} {base : Nat} {spare : Nat → Bool} {held : Bool}

/-- A slice that came in, whose elements have one cell each. -/
theorem elems_came {t e : TypeId} {A : Option Addr} {len cap : Nat} {d : DataW H} {p : List MemPlace} (ht : P.underlying t = some (.slice e)) (hC : P.cellsOf e = 1) (h : DataW.Trod enc P w base spare held t (.slice A len cap) d p) (hlen : 0 < len) :
    ∃ b off, A = some ⟨b, off, none⟩ ∧ b < w.heap.size ∧ ∀ k, k < len → ∃ (v : Value) (n : Nat) (y : DataW H × List MemPlace), w.cell? ⟨b, off + k, none⟩ = some v ∧ DataW.trod enc P w base spare held n e [v] = some y := by
  obtain ⟨fuel, hf⟩ := h
  rcases open_slice ht hf with ⟨hcs, _⟩ | ⟨a, len', cap', m, n, D, Pl, hcs, hb, hl, hm, hmm, hx, hi⟩
  · simp [Value.cells] at hcs
    omega
  · simp only [Value.cells, List.cons.injEq, Value.slice.injEq, and_true] at hcs
    obtain ⟨rfl, rfl, rfl⟩ := hcs
    have hlm : len ≤ m := by rw [hmm]; split <;> omega
    have main : ∀ k, k < len → ∃ (v : Value) (n : Nat) (y : DataW H × List MemPlace), w.cell? (a.add k) = some v ∧ DataW.trod enc P w base spare held n e [v] = some y := by
      intro k hk
      obtain ⟨cs', hc, ht'⟩ := hi k (by omega)
      rw [hC] at hc
      obtain ⟨_, hcl, hat⟩ := World.cells?_some hc
      have h0 := hat 0 (by omega)
      match cs', hcl with
      | [v], _ =>
        refine ⟨v, _, _, ?_, ht'⟩
        rw [add_add] at h0
        simpa using h0
    obtain ⟨b, off, spot⟩ := a
    obtain ⟨v0, _, _, hc0, _⟩ := main 0 hlen
    have hspot : spot = none := by simpa [Addr.add] using World.cell?_spot hc0
    subst hspot
    refine ⟨b, off, rfl, ?_, fun k hk => ?_⟩
    · have := lt_of_cell hc0
      simpa [Addr.add] using this
    · obtain ⟨v, n', y, hc, hy⟩ := main k hk
      exact ⟨v, n', y, by rw [add_plain] at hc; exact hc, hy⟩
/-- A slice, whatever it is. -/
theorem slice_trod {t e : TypeId} {n : Nat} {v : Value} {y : DataW H × List MemPlace} (ht : P.underlying t = some (.slice e)) (h : DataW.trod enc P w base spare held n t [v] = some y) : ∃ A len cap, v = .slice A len cap ∧ DataW.Trod enc P w base spare held t (.slice A len cap) y.1 y.2 := by
  rcases open_slice ht h with ⟨hcs, _⟩ | ⟨a, len', cap', m, n', D, Pl, hcs, _⟩
  · simp only [List.cons.injEq, and_true] at hcs
    subst hcs
    exact ⟨_, _, _, rfl, n, h⟩
  · simp only [List.cons.injEq, and_true] at hcs
    subst hcs
    exact ⟨_, _, _, rfl, n, h⟩
end

section
variable {H : Type} {enc : TypeId × Value → H} {w : World} {base : Nat} {spare : Nat → Bool} {held : Bool}

/-- A program among others: where it is, how much room it has, where its ops are, and these. -/
structure Prg where
  B : Option Addr
  c : Nat
  lb : Nat
  lo : Nat
  l : List Pop

theorem programs_came {LA : Option Addr} {n lc : Nat} {d : DataW H} {p : List MemPlace} (h : DataW.Trod enc Try.prog w base spare held 22 (.slice LA n lc) d p) :
    ∃ (LB LO : Nat) (f : List Prg), f.length = n ∧ (0 < n → LA = some ⟨LB, LO, none⟩ ∧ LB < w.heap.size) ∧ ∀ k x, f[k]? = some x → w.cell? ⟨LB, LO + k, none⟩ = some (.slice x.B x.l.length x.c) ∧ OpsIn w x.B x.lb x.lo x.l := by
  by_cases hp : 0 < n
  · obtain ⟨b, off, rfl, hlt, hc⟩ := elems_came Try.underlying22 (by kernel_rfl) h hp
    have hall : ∀ k, k < n → ∃ x : Prg, w.cell? ⟨b, off + k, none⟩ = some (.slice x.B x.l.length x.c) ∧ OpsIn w x.B x.lb x.lo x.l := by
      intro k hk
      obtain ⟨v, m, y, hv, hy⟩ := hc k hk
      obtain ⟨A, len, cap, rfl, hT⟩ := slice_trod Try.underlying37 hy
      obtain ⟨l, lb, lo, rfl, ho⟩ := ops_came hT
      exact ⟨⟨A, cap, lb, lo, l⟩, hv, ho⟩
    obtain ⟨f, hf, hx⟩ := list_of n hall
    exact ⟨b, off, f, hf, fun _ => ⟨rfl, hlt⟩, hx⟩
  · exact ⟨0, 0, [], by simp; omega, fun h' => absurd h' hp, fun k x hk => by simp at hk⟩
theorem turns_came {TA : Option Addr} {n tc : Nat} {d : DataW H} {p : List MemPlace} (h : DataW.Trod enc Try.prog w base spare held 23 (.slice TA n tc) d p) :
    ∃ TB TO : Nat, (0 < n → TA = some ⟨TB, TO, none⟩) ∧ ∀ k, k < n → ∃ x : Int, w.cell? ⟨TB, TO + k, none⟩ = some (.int .u8 x) ∧ 0 ≤ x ∧ x ≤ 255 := by
  by_cases hp : 0 < n
  · obtain ⟨b, off, rfl, hlt, hc⟩ := elems_came Try.underlying23 (by kernel_rfl) h hp
    refine ⟨b, off, fun _ => rfl, fun k hk => ?_⟩
    obtain ⟨v, m, y, hv, hy⟩ := hc k hk
    obtain ⟨z, e0, _, g0⟩ := DataW.trod_int Try.underlying5 hy
    simp only [List.cons.injEq, and_true] at e0
    subst e0
    have hb := bounds_u8 g0
    exact ⟨z, hv, hb.1, hb.2⟩
  · exact ⟨0, 0, fun h' => absurd h' hp, fun k hk => absurd hk (by omega)⟩
end
end Go.Proofs.Ytodclnfhhaiblaa
