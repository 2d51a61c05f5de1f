/-
  Layer 8: what of a gap lies within bounds: a contract for each call.
-/
import Derived.Test.YtmppodobgkhojaaGapEach
namespace Go.Proofs.Ytmppodobgkhojaa
open Go.ChangeShapes Go.WideShapes Go.ChangeAt Go.RowKit Go.Shelf
set_option linter.unusedVariables false

theorem gdown_any (x : Int) (h0 : 0 ≤ x) (h1 : x ≤ 9223372036854775807) (w : World) : Calls Try.prog 53 #[.int .i64 x] w fun e w' => e = .returned (.int .i64 (x - x % 4096)) ∧ w' = w := by
  have hm : x.tmod 4096 = x % 4096 := tmod_up h0
  have h2 : 0 ≤ x % 4096 := by omega
  have h3 : x % 4096 ≤ x := by omega
  go_enter Try.func53, Try.ntmps53
  go_wp2
  go_ret
  exact ⟨rfl, rfl⟩
theorem gup_any (x : Int) (h0 : 0 ≤ x) (h1 : x ≤ 9223372036854771000) (w : World) : Calls Try.prog 52 #[.int .i64 x] w fun e w' => e = .returned (.int .i64 (x + 4095 - (x + 4095) % 4096)) ∧ w' = w := by
  have X := Lib.hid (gdown_any (x + 4095) (by omega) (by omega))
  have hx : x + 4095 = x + 4096 - 1 := by omega
  rw [hx] at X ⊢
  clear hx
  go_enter Try.func52, Try.ntmps52
  go_wp2_with fail
  refine (X.out w).mono ?_
  rintro e w1 ⟨rfl, rfl⟩
  go_wp2
  go_ret
  exact ⟨rfl, rfl⟩

/-- What of a gap lies within bounds. -/
def withinG (lo hi : Int) (g : Gp) : Gp := if max lo g.s < min hi g.e then ⟨upg (max lo g.s), pg (min hi g.e)⟩ else ⟨0, 0⟩

set_option maxHeartbeats 2000000 in
theorem within_any (g : Gp) (hg : GoodG g) (lo hi : Int) (w : World) : Calls Try.prog 43 #[g.v, .int .i64 lo, .int .i64 hi] w fun e w' => e = .returned (withinG lo hi g).v ∧ Below w.heap.size w w' := by
  have h1 := hg.lo
  have h2 := hg.lt
  have h3 := hg.hi
  obtain ⟨g0, g1⟩ := g
  obtain ⟨r0, r1, hr⟩ : ∃ r0 r1, withinG lo hi ⟨g0, g1⟩ = ⟨r0, r1⟩ := ⟨_, _, rfl⟩
  rw [hr]
  have HR := Lib.hid hr
  clear hr
  simp only [Gp.v] at *
  have G0 := Lib.hid (Bag.two w 29 29 #[.int .i64 g0, .int .i64 g1] #[.int .i64 0, .int .i64 0])
  go_enter Try.func43, Try.ntmps43
  go_upto_region 1 with (fail)
  generalize (w.alloc _).alloc _ = w0 at *
  have S0 := Lib.hid G0.out.bel.size
  have c0 := G0.out.v1.cell 0
  have c1 := G0.out.v1.cell 1
  simp at c0 c1
  go_region
  have G1 := Lib.hid G0.out.drew
  have ea : (if lo < g0 then g0 else lo) = max lo g0 := by split <;> omega
  have eb : (if g1 < hi then g1 else hi) = min hi g1 := by split <;> omega
  rw [ea, eb]
  have HW : Hid (withinG lo hi ⟨g0, g1⟩ = if max lo g0 < min hi g1 then ⟨upg (max lo g0), pg (min hi g1)⟩ else ⟨0, 0⟩) := Lib.hid rfl
  have ha : g0 ≤ max lo g0 := by omega
  have hb : min hi g1 ≤ g1 := by omega
  clear ea eb c0 c1 G0 S0
  generalize w0.drew = w1 at *
  generalize max lo g0 = x at *
  generalize min hi g1 = y at *
  have f0 := G1.out.v0.frozen 0
  have f1 := G1.out.v0.frozen 1
  have d0 := G1.out.v0.cell 0
  have d1 := G1.out.v0.cell 1
  simp at d0 d1
  by_cases hlt : x < y
  · have hW := HR.out
    rw [HW.out, if_pos hlt] at hW
    injection hW with e0 e1
    unfold upg at e0
    unfold pg at e1
    have U := Lib.hid (gup_any x (by omega) (by omega))
    have D := Lib.hid (gdown_any y (by omega) (by omega))
    rw [e0] at U
    rw [e1] at D
    clear HW HR e0 e1
    go_wp2_with fail
    refine (U.out _).mono ?_
    rintro e w2 ⟨rfl, rfl⟩
    go_wp2_with fail
    refine (D.out _).mono ?_
    rintro e w3 ⟨rfl, rfl⟩
    go_wp2_with fail
    refine bodyPost_ret (results_cell_row rfl _ _ (w.heap.size + 1) 29 _ (0, 0) _ rfl ((G1.out.v0.put 0 _).put 1 _) Try.underlying29 rfl (by kernel_rfl)) rfl ?_
    exact ⟨rfl, (G1.out.bel.setCell (p := ⟨w.heap.size + 1, 0, none⟩) (by simp) _).setCell (p := ⟨w.heap.size + 1, 1, none⟩) (by simp) _⟩
  · have hW := HR.out
    rw [HW.out, if_neg hlt] at hW
    injection hW with e0 e1
    subst e0 e1
    clear HW HR
    go_wp2_with fail
    refine bodyPost_ret (results_cell_row rfl _ _ (w.heap.size + 1) 29 _ (0, 0) _ rfl ((G1.out.v0.put 0 _).put 1 _) Try.underlying29 rfl (by kernel_rfl)) rfl ?_
    exact ⟨rfl, (G1.out.bel.setCell (p := ⟨w.heap.size + 1, 0, none⟩) (by simp) _).setCell (p := ⟨w.heap.size + 1, 1, none⟩) (by simp) _⟩
end Go.Proofs.Ytmppodobgkhojaa
