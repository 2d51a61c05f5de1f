/-
  Layer 4: calls, and turns, that came in.
-/
import Derived.Test.YtpgepcmncppphaaCameElems
import Derived.Test.YtpgepcmncppphaaRcuTurnsSt
namespace Go.Proofs.Ytpgepcmncppphaa
open Go.ChangeShapes Go.WideShapes Go.RowKit Go.Deep
section
variable {H : Type} {enc : TypeId × Value → H} {w : World} {base : Nat} {spare : Nat → Bool} {held : Bool}
theorem turns_came {TA : Option Addr} {n tc : Nat} {d : DataW H} {p : List MemPlace} (h : DataW.Trod enc Try.prog w base spare held 23 (.slice TA n tc) d p) :
    ∃ TB TO : Nat, (0 < n → TA = some ⟨TB, TO, none⟩) ∧ ∀ k, k < n → ∃ x : Int, w.cell? ⟨TB, TO + k, none⟩ = some (.int .u8 x) ∧ 0 ≤ x ∧ x ≤ 255 := by
  by_cases hp : 0 < n
  · obtain ⟨b, off, rfl, hlt, hc⟩ := elems_came Try.underlying23 (by kernel_rfl) h hp
    refine ⟨b, off, fun _ => rfl, fun k hk => ?_⟩
    obtain ⟨v, m, y, hv, hy⟩ := hc k hk
    obtain ⟨z, e0, _, g0⟩ := DataW.trod_int Try.underlying5 hy
    simp only [List.cons.injEq, and_true] at e0
    subst e0
    have hb := bounds_u8 g0
    exact ⟨z, hv, hb.1, hb.2⟩
  · exact ⟨0, 0, fun h' => absurd h' hp, fun k hk => absurd hk (by omega)⟩
theorem args_came {LA TA : Option Addr} {n lc tn tc : Nat} {d d' : DataW H} {p p' : List MemPlace} (h : DataW.Trod enc Try.prog w base spare held 22 (.slice LA n lc) d p) (hp : 0 < n) (h' : DataW.Trod enc Try.prog w base spare held 23 (.slice TA tn tc) d' p') :
    ∃ LB LO kf pf TB TO, Arg4 w LA LB LO n kf pf TA TB TO tn := by
  obtain ⟨TB, TO, hTA, hT⟩ := turns_came h'
  obtain ⟨b, off, rfl, hlt, hc⟩ := pairs_came Try.underlying22 Try.underlying35 Try.underlying5 (by kernel_rfl) (by kernel_rfl) h hp
  have hx : ∀ k, ∃ q : Int × Int, k < n → w.cell? ⟨b, off + k * 2, none⟩ = some (.int .u8 q.1) ∧ w.cell? ⟨b, off + k * 2 + 1, none⟩ = some (.int .u8 q.2) ∧ (Lit.int .u8 q.1).wf = true ∧ (Lit.int .u8 q.2).wf = true := by
    intro k
    by_cases hk : k < n
    · obtain ⟨x, y, hxy⟩ := hc k hk
      exact ⟨(x, y), fun _ => hxy⟩
    · exact ⟨(0, 0), fun h => absurd h hk⟩
  refine ⟨b, off, fun k => (Classical.choose (hx k)).1, fun k => (Classical.choose (hx k)).2, TB, TO, fun _ => rfl, fun k hk => ?_, fun k hk => ?_, hTA, hT⟩
  · have := Classical.choose_spec (hx k) hk
    exact ⟨this.1, bounds_u8 this.2.2.1⟩
  · have := Classical.choose_spec (hx k) hk
    exact ⟨this.2.1, bounds_u8 this.2.2.2⟩
end
end Go.Proofs.Ytpgepcmncppphaa
