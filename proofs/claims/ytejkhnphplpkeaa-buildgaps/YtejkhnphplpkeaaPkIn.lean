/-
  Texts of our own, one behind the other (ListCame): what the laws' proofs rest on; each says at its head what it holds. No conditions.
-/
import Derived.Test.YtejkhnphplpkeaaPkI0
import Derived.Test.YtejkhnphplpkeaaPkLa
/-
  Arguments that came in: a list of areas.
-/
namespace Go.Proofs.Ytejkhnphplpkeaa
open Go.ChangeShapes Go.WideShapes Go.RowKit Go.Deep

set_option maxRecDepth 100000 in
theorem areas_came {H : Type} {enc : TypeId × Value → H} {w : World} {base base' : Nat} {spare : Nat → Bool} {held : Bool} {v : Value} {d : DataW H} {p : List MemPlace}
    (ok : Value.okWide Try.prog w .any base 22 v) (h : DataW.Trod enc Try.prog w base' spare held 22 v d p) :
    ∃ (A : Option Addr) (l : List Ar) (c : Nat), v = .slice A l.length c ∧ l.length ≤ c ∧ l.length ≤ 9223372036854775807 ∧ Areas w.heap.size w A l := by
  obtain ⟨A, n, c, rfl⟩ := okWide_slice Try.underlying22 ok
  by_cases hn : 0 < n
  · obtain ⟨b, off, rfl, hb, hc, hcm, hx⟩ := structs_came Try.underlying22 Try.underlying74 (by kernel_rfl) (by kernel_rfl) (by decide) h hn
    have hm : n ≤ 9223372036854775807 := by unfold maxLen at hcm; omega
    have key : ∀ k, k < n → ∃ a : Ar, AreaAt w b (off + k * 6) a := fun k hk => by
      obtain ⟨x0, n0, y0, e0, g0⟩ := hx k hk 0 _ rfl
      obtain ⟨x1, n1, y1, e1, g1⟩ := hx k hk 1 _ rfl
      obtain ⟨x2, n2, y2, e2, g2⟩ := hx k hk 2 _ rfl
      obtain ⟨x3, n3, y3, e3, g3⟩ := hx k hk 3 _ rfl
      obtain ⟨x4, n4, y4, e4, g4⟩ := hx k hk 4 _ rfl
      obtain ⟨x5, n5, y5, e5, g5⟩ := hx k hk 5 _ rfl
      obtain ⟨z0, k0, _, b0⟩ := DataW.trod_int Try.underlying2 g0
      obtain ⟨z1, k1, _, b1⟩ := DataW.trod_int Try.underlying2 g1
      obtain ⟨z2, k2, _, b2⟩ := DataW.trod_int Try.underlying3 g2
      obtain ⟨z3, k3, _⟩ := DataW.trod_bool Try.underlying4 g3
      obtain ⟨z4, k4, _, b4⟩ := DataW.trod_int Try.underlying3 g4
      obtain ⟨z5, k5, _, b5⟩ := DataW.trod_int Try.underlying2 g5
      simp only [List.cons.injEq, and_true] at k0 k1 k2 k3 k4 k5
      subst k0 k1 k2 k3 k4 k5
      exact ⟨⟨z0, z1, z2, z3, z4, z5⟩, ⟨e0, e1, e2, e3, e4, e5⟩⟩
    let f : Nat → Ar := fun k => if hk : k < n then Classical.choose (key k hk) else Ar.nil
    refine ⟨_, (List.range n).map f, c, by simp, by simpa using hc, by simpa using hm, .inr ⟨b, off, rfl, hb, fun j hj => ?_⟩⟩
    have hjn : j < n := by simpa using hj
    have e : ((List.range n).map f)[j] = Classical.choose (key j hjn) := by simp [f, hjn]
    rw [e]
    exact Classical.choose_spec (key j hjn)
  · obtain rfl : n = 0 := by omega
    exact ⟨A, [], c, rfl, by simp, by simp, .inl rfl⟩
end Go.Proofs.Ytejkhnphplpkeaa
