/-
  Texts of our own, one behind the other (ChLaw): what the laws' proofs rest on; each says at its head what it holds. No conditions.
-/
import Derived.Test.YtholpgcghpikgaaGreatPkCe
import Derived.Test.YtholpgcghpikgaaGreatPkN
/-
  Layer 14: what a program that does nothing does not answer.
-/
namespace Go.Proofs.YtholpgcghpikgaaGreat
open Go.ChangeShapes Go.WideShapes Go.ChangeAt Go.RowKit Go.Shelf
set_option linter.unusedVariables false

theorem wake_chR : ∃ a : Ar, chR Sc.first wakeC = (⟨[a], 65536⟩, ⟨0, 2093056, ⟨0, false, 0, 0⟩⟩) := by
  obtain ⟨a, ha⟩ := wake_r
  refine ⟨a, ?_⟩
  rw [chR_yes ⟨first_right, by unfold kindB wakeC; simp only; omega⟩]
  unfold chG
  rw [if_pos (by rfl), show Sc.first.l = [] from rfl, ha]
  rfl
set_option maxHeartbeats 1000000 in
theorem ch_awake : Says 8 #[] (.bool true) := by
  intro w
  obtain ⟨a, ha⟩ := wake_chR
  have h1 : plS [wakeC] [wakeC].length = ⟨[a], 65536⟩ := by show (chR Sc.first wakeC).1 = _; rw [ha]
  have h2 : plA [wakeC] 0 = ⟨0, 2093056, ⟨0, false, 0, 0⟩⟩ := by show (chR Sc.first wakeC).2 = _; rw [ha]
  have X : Hid (∀ W : World, Calls Tryz.prog 9 #[.slice (some ⟨W.heap.size, 0, none⟩) 1 1] (W.alloc (.cells #[.int .i64 0, .int .i64 0, .int .i64 1, .int .i64 0, .int .i64 0, .int .i64 1, .int .i64 0, .int .i64 0, .int .i64 0] 38)) fun r w' => ∃ A c q, r = .returned (.tuple #[.agg #[.slice A 1 c, .int .i64 65536], .slice (some ⟨q, 0, none⟩) 1 1]) ∧ W.heap.size < q ∧ w'.cell? ⟨q, 1, none⟩ = some (.int .i64 2093056) ∧ Below W.heap.size W w') := Lib.hid (fun W => by
    have hw : Whole (W.alloc (.cells wakeC.cells 38)) W.heap.size 38 wakeC.cells := Whole.new _ _ _
    have hC : CallsAt (W.alloc (.cells wakeC.cells 38)) (some ⟨W.heap.size, 0, none⟩) [wakeC] := by
      refine .inr ⟨_, 0, rfl, hw.lt, fun j hj => ?_⟩
      obtain rfl : j = 0 := by simp at hj; exact hj
      exact ⟨hw.cell 0, hw.cell 1, hw.cell 2, hw.cell 3, hw.cell 4, hw.cell 5, hw.cell 6, hw.cell 7, hw.cell 8⟩
    refine (play_c [wakeC] _ 1 _ (by simp) hC (fun k hk => by
      obtain rfl : k = 0 := by simp at hk; exact hk
      exact ⟨by decide, by decide⟩)).mono ?_
    rintro r w' ⟨v', q, rfl, hq, hW, hM, hb⟩
    rw [h1] at hM
    obtain ⟨A, c, rfl⟩ := hM.is
    refine ⟨A, c, q, by rw [h1]; rfl, by rw [World.size_alloc] at hq; exact hq, ?_, (below_new W _).trans (hb.mono (by simp))⟩
    have := (row_an hW (k := 0) (by simp)).2.1
    rw [h2] at this
    exact this)
  clear h1 h2 ha
  go_enter Tryz.func8, Tryz.ntmps8
  go_wp2_with fail
  refine (X.out _).mono ?_
  rintro e w1 ⟨A, c, q, rfl, hq, hc, hb⟩
  have QL : q < w1.heap.size := World.block_lt_of_cell? w1 _ hc
  have BN := below_new w1 (.cells #[.slice A 1 c, .int .i64 65536] 26)
  have c1 := (BN.cell (p := ⟨q, 1, none⟩) QL).trans hc
  obtain ⟨d0, d1⟩ := row2c (Whole.new w1 26 #[.slice A 1 c, .int .i64 65536])
  have B := Lib.hid (hb.alloc hb.size (.cells #[.slice A 1 c, .int .i64 65536] 26))
  clear hb BN hq X
  go_wp2_with fail
  go_ret
  exact ⟨rfl, B.out⟩
end Go.Proofs.YtholpgcghpikgaaGreat
