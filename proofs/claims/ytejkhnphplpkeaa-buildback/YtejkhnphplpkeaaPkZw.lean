/-
  Texts of our own, one behind the other (BdCame): what the laws' proofs rest on; each says at its head what it holds. No conditions.
-/
import Derived.Test.YtejkhnphplpkeaaPkZk
import Derived.Test.YtejkhnphplpkeaaPkWh
/-
  Layer 18: bytes and an entry that came in.
-/
namespace Go.Proofs.Ytejkhnphplpkeaa
open Go.ChangeShapes Go.WideShapes Go.RowKit Go.Deep
set_option linter.unusedVariables false
section
variable {H : Type} {enc : TypeId × Value → H} {w : World} {base base' : Nat} {spare : Nat → Bool} {held : Bool}

set_option maxRecDepth 100000 in
theorem bytes_came {v : Value} {d : DataW H} {p : List MemPlace} (ok : Value.okWide Try.prog w .any base 46 v) (h : DataW.Trod enc Try.prog w base' spare held 46 v d p) : ∃ l, Bys w v l := by
  obtain ⟨A, n, c, rfl⟩ := okWide_slice Try.underlying46 ok
  obtain ⟨fuel, h⟩ := h
  rcases open_slice Try.underlying46 h with ⟨hcs, _⟩ | ⟨a, len, cap, m, n, D, Pl, hcs, hb, hl, hm, hmm, hx, hi⟩
  · simp only [Value.cells, List.cons.injEq, and_true] at hcs
    rw [hcs]
    exact ⟨[], none, 0, rfl, Nat.le_refl _, fun h => absurd h (by simp)⟩
  · simp only [Value.cells, List.cons.injEq, and_true] at hcs
    rw [hcs]
    have hlm : len ≤ m := by rw [hmm]; split <;> omega
    have hC : Try.prog.cellsOf 5 = 1 := by kernel_rfl
    have main : ∀ k, k < len → ∃ z : Int, w.cell? (a.add k) = some (.int .u8 z) ∧ 0 ≤ z ∧ z ≤ 255 := by
      intro k hk
      obtain ⟨cs', hc, ht'⟩ := hi k (by omega)
      rw [hC] at hc
      obtain ⟨_, hcl, hat⟩ := World.cells?_some hc
      have h0 := hat 0 (by omega)
      match cs', hcl with
      | [v], _ =>
        obtain ⟨z, e0, _, g0⟩ := DataW.trod_int Try.underlying5 ht'
        simp at e0
        subst e0
        rw [add_add] at h0
        exact ⟨z, by simpa using h0, (bounds_u8 g0).1, (bounds_u8 g0).2⟩
    obtain ⟨f, hf⟩ : ∃ f : Nat → Int, ∀ k, k < len → w.cell? (a.add k) = some (.int .u8 (f k)) ∧ 0 ≤ f k ∧ f k ≤ 255 :=
      ⟨fun k => if h : k < len then (main k h).choose else 0, fun k hk => by simp only [dif_pos hk]; exact (main k hk).choose_spec⟩
    have hlen : ((List.range len).map f).length = len := by simp
    refine ⟨(List.range len).map f, some a, cap, by rw [hlen], by rw [hlen]; exact hl, fun h0 => ?_⟩
    rw [hlen] at h0 ⊢
    obtain ⟨b, off, spot⟩ := a
    have hspot : spot = none := by simpa [Addr.add] using World.cell?_spot (hf 0 h0).1
    subst hspot
    refine ⟨b, off, rfl, fun k hk => ?_⟩
    rw [nth_map _ _ _ hk]
    obtain ⟨h1, h2, h3⟩ := hf k hk
    rw [add_plain] at h1
    exact ⟨h1, h2, h3⟩
set_option maxRecDepth 100000 in
theorem entry_came {v : Value} {d : DataW H} {p : List MemPlace} (ok : Value.okWide Try.prog w .any base 44 v) (h : DataW.Trod enc Try.prog w base' spare held 44 v d p) : ∃ e : En, v = .agg #[.int .i64 e.lo, .int .i64 e.hi, .int .i64 e.h] := by
  obtain ⟨cs, rfl, hs, hx⟩ := struct_came Try.underlying44 (by kernel_rfl) (by kernel_rfl) ok h
  obtain ⟨x0, n0, y0, e0, g0⟩ := hx 0 _ rfl
  obtain ⟨x1, n1, y1, e1, g1⟩ := hx 1 _ rfl
  obtain ⟨x2, n2, y2, e2, g2⟩ := hx 2 _ rfl
  obtain ⟨z0, k0, _⟩ := DataW.trod_int Try.underlying2 g0
  obtain ⟨z1, k1, _⟩ := DataW.trod_int Try.underlying2 g1
  obtain ⟨z2, k2, _⟩ := DataW.trod_int Try.underlying2 g2
  simp only [List.cons.injEq, and_true] at k0 k1 k2
  subst k0 k1 k2
  refine ⟨⟨z0, z1, z2⟩, ?_⟩
  congr 1
  apply Array.ext
  · simpa using hs
  · intro i h1 h2
    have hi : i < 3 := by simpa using h2
    match i, hi with
    | 0, _ => rw [Array.getElem?_eq_getElem h1] at e0; simpa using e0
    | 1, _ => rw [Array.getElem?_eq_getElem h1] at e1; simpa using e1
    | 2, _ => rw [Array.getElem?_eq_getElem h1] at e2; simpa using e2
end
end Go.Proofs.Ytejkhnphplpkeaa
