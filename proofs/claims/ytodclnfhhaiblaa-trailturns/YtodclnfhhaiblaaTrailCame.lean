/-
  Layer 3: programs that came in.
-/
import Derived.Test.YtodclnfhhaiblaaCame
import Derived.Test.YtodclnfhhaiblaaTrailOne
namespace Go.Proofs.Ytodclnfhhaiblaa
open Go.ChangeShapes Go.WideShapes Go.RowKit Go.Deep

/-- What is so of each place makes a list. -/
theorem list_of {α : Type} {P : Nat → α → Prop} : ∀ (n : Nat), (∀ k, k < n → ∃ a, P k a) → ∃ l : List α, l.length = n ∧ ∀ k a, l[k]? = some a → P k a
  | 0, _ => ⟨[], rfl, fun k a h => by simp at h⟩
  | n + 1, h => by
    obtain ⟨l, hl, hp⟩ := list_of n (fun k hk => h k (by omega))
    obtain ⟨a, ha⟩ := h n (by omega)
    refine ⟨l ++ [a], by simp [hl], fun k x hx => ?_⟩
    by_cases hk : k < l.length
    · rw [List.getElem?_append_left hk] at hx
      exact hp k x hx
    · rw [List.getElem?_append_right (by omega)] at hx
      have h0 : k - l.length = 0 := by
        rcases Nat.eq_zero_or_pos (k - l.length) with h0 | h0
        · exact h0
        · rw [List.getElem?_eq_none (by simp; omega)] at hx; cases hx
      rw [h0] at hx
      simp at hx
      subst hx
      have : k = n := by omega
      subst this
      exact ha

section
variable {H : Type} {enc : TypeId × Value → H} {w : World} {base : Nat} {spare : Nat → Bool} {held : Bool}
theorem ops_came {A : Option Addr} {len cap : Nat} {d : DataW H} {p : List MemPlace} (h : DataW.Trod enc Try.prog w base spare held 37 (.slice A len cap) d p) :
    ∃ l lb lo, l.length = len ∧ OpsIn w A lb lo l := by
  by_cases hp : 0 < len
  · obtain ⟨b, off, rfl, hlt, _, _, hc⟩ := structs_came Try.underlying37 Try.underlying53 (by kernel_rfl) (by kernel_rfl) (by decide) h hp
    have hall : ∀ k, k < len → ∃ o : Pop, OpIn w b off k o := by
      intro k hk
      obtain ⟨u0, n0, y0, c0, t0⟩ := hc k hk 0 _ rfl
      obtain ⟨u1, n1, y1, c1, t1⟩ := hc k hk 1 _ rfl
      obtain ⟨u2, n2, y2, c2, t2⟩ := hc k hk 2 _ rfl
      obtain ⟨u3, n3, y3, c3, t3⟩ := hc k hk 3 _ rfl
      obtain ⟨u4, n4, y4, c4, t4⟩ := hc k hk 4 _ rfl
      obtain ⟨z0, e0, _, g0⟩ := DataW.trod_int Try.underlying5 t0
      obtain ⟨z1, e1, _, _⟩ := DataW.trod_int Try.underlying3 t1
      obtain ⟨z2, e2, _, g2⟩ := DataW.trod_int Try.underlying2 t2
      obtain ⟨z3, e3, _, g3⟩ := DataW.trod_int Try.underlying2 t3
      obtain ⟨z4, e4, _⟩ := DataW.trod_bool Try.underlying4 t4
      simp only [List.cons.injEq, and_true] at e0 e1 e2 e3 e4
      subst e0 e1 e2 e3 e4
      have hb := bounds_u8 g0
      exact ⟨⟨z0, z1, z2, z3, z4⟩, c0, c1, c2, c3, c4, hb.1, hb.2⟩
    obtain ⟨l, hl, ho⟩ := list_of len hall
    exact ⟨l, b, off, hl, ⟨fun _ => rfl, fun _ => hlt, ho⟩⟩
  · exact ⟨[], 0, 0, by simp; omega, ⟨fun h => by simp at h, fun h => by simp at h, fun k o hk => by simp at hk⟩⟩
end
end Go.Proofs.Ytodclnfhhaiblaa
