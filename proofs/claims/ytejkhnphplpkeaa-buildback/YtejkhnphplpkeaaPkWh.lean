/-
  Texts of our own, one behind the other (SlCame): what the laws' proofs rest on; each says at its head what it holds. No conditions.
-/
import Derived.Test.YtejkhnphplpkeaaPkWa
import Derived.Test.YtejkhnphplpkeaaPkI0
import Derived.Deep.Slices
import Derived.OpenShut
/-
  Layer 15: words and nodes that came in.
-/
namespace Go.Proofs.Ytejkhnphplpkeaa
open Go.ChangeShapes Go.WideShapes Go.RowKit Go.Deep
set_option linter.unusedVariables false
section
variable {H : Type} {enc : TypeId × Value → H} {w : World} {base base' : Nat} {spare : Nat → Bool} {held : Bool}

/-- A slice of numbers that came in. -/
theorem words_cells {x : Value} {fuel : Nat} {y : DataW H × List MemPlace} (h : DataW.trod enc Try.prog w base' spare held fuel 27 [x] = some y) : ∃ l, Wds w x l ∧ Fits l ∧ l.length ≤ 9223372036854775807 := by
  rcases open_slice Try.underlying27 h with ⟨hcs, _⟩ | ⟨a, len, cap, m, n, D, Pl, hcs, hb, hl, hm, hmm, hx, hi⟩
  · simp only [List.cons.injEq, and_true] at hcs
    subst hcs
    exact ⟨[], Wds.nil _ _ _, fun i hi => absurd hi (by simp), by simp⟩
  · simp only [List.cons.injEq, and_true] at hcs
    subst hcs
    have hlm : len ≤ m := by rw [hmm]; split <;> omega
    have hC : Try.prog.cellsOf 2 = 1 := by kernel_rfl
    have main : ∀ k, k < len → ∃ z : Int, w.cell? (a.add k) = some (.int .i64 z) ∧ -9223372036854775808 ≤ z ∧ z ≤ 9223372036854775807 := by
      intro k hk
      obtain ⟨cs', hc, ht'⟩ := hi k (by omega)
      rw [hC] at hc
      obtain ⟨_, hcl, hat⟩ := World.cells?_some hc
      have h0 := hat 0 (by omega)
      match cs', hcl with
      | [v], _ =>
        obtain ⟨z, e0, _, g0⟩ := DataW.trod_int Try.underlying2 ht'
        simp at e0
        subst e0
        rw [add_add] at h0
        exact ⟨z, by simpa using h0, (bounds_i64 g0).1, (bounds_i64 g0).2⟩
    obtain ⟨f, hf⟩ : ∃ f : Nat → Int, ∀ k, k < len → w.cell? (a.add k) = some (.int .i64 (f k)) ∧ -9223372036854775808 ≤ f k ∧ f k ≤ 9223372036854775807 :=
      ⟨fun k => if h : k < len then (main k h).choose else 0, fun k hk => by simp only [dif_pos hk]; exact (main k hk).choose_spec⟩
    have hlen : ((List.range len).map f).length = len := by simp
    have hmx : maxLen = 9223372036854775807 := rfl
    refine ⟨(List.range len).map f, ⟨some a, cap, by rw [hlen], by rw [hlen]; exact hl, fun h0 => ?_⟩, fun i hi' => ?_, by rw [hlen]; omega⟩
    · rw [hlen] at h0 ⊢
      obtain ⟨b, off, spot⟩ := a
      have hspot : spot = none := by simpa [Addr.add] using World.cell?_spot (hf 0 h0).1
      subst hspot
      refine ⟨b, off, rfl, fun k hk => ?_⟩
      rw [nth_map _ _ _ hk]
      have := (hf k hk).1
      rwa [add_plain] at this
    · rw [hlen] at hi'
      rw [nth_map _ _ _ hi']
      exact (hf i hi').2
set_option maxRecDepth 100000 in
theorem words_came {v : Value} {d : DataW H} {p : List MemPlace} (ok : Value.okWide Try.prog w .any base 27 v) (h : DataW.Trod enc Try.prog w base' spare held 27 v d p) : ∃ l, Wds w v l ∧ Fits l ∧ l.length ≤ 9223372036854775807 := by
  obtain ⟨A, n, c, rfl⟩ := okWide_slice Try.underlying27 ok
  obtain ⟨fuel, hf⟩ := h
  exact words_cells hf
/-- A node that came in. -/
structure NdCame (w : World) (v : Value) (n : Nd) (x y z : Value) : Prop where
  is : v = n.val x y z
  at_ : NdIn w n x y z
  e : n.ends.length ≤ 9223372036854775807
  s : n.slots.length ≤ 9223372036854775807
  g : n.gaps.length ≤ 9223372036854775807
  fs : Fits n.slots
set_option maxRecDepth 100000 in
theorem node_came {v : Value} {d : DataW H} {p : List MemPlace} (ok : Value.okWide Try.prog w .any base 34 v) (h : DataW.Trod enc Try.prog w base' spare held 34 v d p) : ∃ n x y z, NdCame w v n x y z := by
  obtain ⟨cs, rfl, hs, hx⟩ := struct_came Try.underlying34 (by kernel_rfl) (by kernel_rfl) ok h
  obtain ⟨x0, n0, y0, e0, g0⟩ := hx 0 _ rfl
  obtain ⟨x1, n1, y1, e1, g1⟩ := hx 1 _ rfl
  obtain ⟨x2, n2, y2, e2, g2⟩ := hx 2 _ rfl
  obtain ⟨x3, n3, y3, e3, g3⟩ := hx 3 _ rfl
  obtain ⟨x4, n4, y4, e4, g4⟩ := hx 4 _ rfl
  obtain ⟨z0, k0, _⟩ := DataW.trod_bool Try.underlying4 g0
  obtain ⟨z1, k1, _, b1⟩ := DataW.trod_int Try.underlying2 g1
  simp only [List.cons.injEq, and_true] at k0 k1
  subst k0 k1
  obtain ⟨l2, w2, f2, s2⟩ := words_cells g2
  obtain ⟨l3, w3, f3, s3⟩ := words_cells g3
  obtain ⟨l4, w4, f4, s4⟩ := words_cells g4
  refine ⟨⟨z0, z1, l2, l3, l4⟩, x2, x3, x4, ?_, ⟨w2, w3, w4⟩, s2, s3, s4, f3⟩
  unfold Nd.val
  congr 1
  apply Array.ext
  · exact hs
  · intro i h1 h2
    have hi : i < 5 := h2
    match i, hi with
    | 0, _ => exact Option.some.inj ((Array.getElem?_eq_getElem h1).symm.trans e0)
    | 1, _ => exact Option.some.inj ((Array.getElem?_eq_getElem h1).symm.trans e1)
    | 2, _ => exact Option.some.inj ((Array.getElem?_eq_getElem h1).symm.trans e2)
    | 3, _ => exact Option.some.inj ((Array.getElem?_eq_getElem h1).symm.trans e3)
    | 4, _ => exact Option.some.inj ((Array.getElem?_eq_getElem h1).symm.trans e4)
end
end Go.Proofs.Ytejkhnphplpkeaa
