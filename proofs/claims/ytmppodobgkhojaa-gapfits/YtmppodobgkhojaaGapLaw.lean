/-
  Layer 8: what the laws ask: a contract for each call, and what a program that does nothing does not answer.
-/
import Derived.Test.YtmppodobgkhojaaGapFree
import Derived.Test.YtmppodobgkhojaaListHold
namespace Go.Proofs.Ytmppodobgkhojaa
open Go.ChangeShapes Go.WideShapes Go.ChangeAt Go.RowKit Go.Shelf
set_option linter.unusedVariables false
attribute [local go_sem ↓] Go.wp_at_zero Go.wp_at_succ

theorem Holds.is {w : World} {v : Value} {X : List Ar} (h : Holds w v X) : ∃ A c, v = .slice A X.length c := by
  obtain ⟨A, c, e, _⟩ := h; exact ⟨A, c, e⟩
/-- A value that holds gaps. -/
def HoldsG (w : World) (v : Value) (gs : List Gp) : Prop := ∃ A c, v = .slice A gs.length c ∧ GapsAt w A gs
theorem HoldsG.still {w w' : World} {v : Value} {gs : List Gp} (h : HoldsG w v gs) (hb : Below w.heap.size w w') : HoldsG w' v gs := by
  obtain ⟨A, c, rfl, h⟩ := h
  exact ⟨A, c, rfl, h.still hb⟩
section
variable {w : World} {v : Value} {X : List Ar}
theorem gaps_c (h : Holds w v X) (hl : X.length ≤ 10000) : Calls Try.prog 13 #[v] w fun e w' => ∃ v', e = .returned v' ∧ HoldsG w' v' (gapsL X) ∧ Below w.heap.size w w' := by
  obtain ⟨A, c, rfl, hc, hA⟩ := h
  exact (gaps_any A X c hl w hA).mono fun e w' ⟨v', he, hm, hb⟩ => ⟨v', he, by obtain ⟨A2, c2, rfl⟩ := hm.is; exact ⟨A2, c2, rfl, hm.gaps⟩, hb⟩
theorem largest_c (h : Holds w v X) (hl : X.length ≤ 10000) : Calls Try.prog 16 #[v] w fun e w' => e = .returned (.int .i64 (mostL (gapsL X))) ∧ Below w.heap.size w w' := by
  obtain ⟨A, c, rfl, hc, hA⟩ := h
  exact largest_any A X c (by omega) w hA
theorem lowest_c (h : Holds w v X) (hl : X.length ≤ 10000) (lo hi size : Int) : Calls Try.prog 15 #[v, .int .i64 lo, .int .i64 hi, .int .i64 size] w fun e w' => e = .returned (.tuple #[.int .i64 (lowOf (roomsL lo hi size X)).1, .bool (lowOf (roomsL lo hi size X)).2]) ∧ Below w.heap.size w w' := by
  obtain ⟨A, c, rfl, hc, hA⟩ := h
  exact lowest_any A X c lo hi size hl w hA
theorem highest_c (h : Holds w v X) (hl : X.length ≤ 10000) (lo hi size : Int) (hs : size ≤ 9223372036854775807) : Calls Try.prog 14 #[v, .int .i64 lo, .int .i64 hi, .int .i64 size] w fun e w' => e = .returned (.tuple #[.int .i64 (highOf size (roomsL lo hi size X)).1, .bool (highOf size (roomsL lo hi size X)).2]) ∧ Below w.heap.size w w' := by
  obtain ⟨A, c, rfl, hc, hA⟩ := h
  exact highest_any A X c lo hi size hs hl w hA
theorem fits_yes (h : Holds w v X) (hl : X.length ≤ 10000) {addr size : Int} (hf : FitsAt X addr size) : Calls Try.prog 18 #[v, .int .i64 addr, .int .i64 size] w fun e w' => e = .returned (.bool true) ∧ Below w.heap.size w w' := by
  obtain ⟨A, c, rfl, hc, hA⟩ := h
  have := fits_any A X c addr size hl w hA
  rwa [(fits_is X addr size).2 hf] at this
theorem fits_no (h : Holds w v X) (hl : X.length ≤ 10000) {addr size : Int} (hf : ¬ FitsAt X addr size) : Calls Try.prog 18 #[v, .int .i64 addr, .int .i64 size] w fun e w' => e = .returned (.bool false) ∧ Below w.heap.size w w' := by
  obtain ⟨A, c, rfl, hc, hA⟩ := h
  have := fits_any A X c addr size hl w hA
  rwa [Bool.eq_false_iff.2 (fun e => hf ((fits_is X addr size).1 e))] at this
end

theorem gaps_none : gapsL [] = [⟨65536, 2097152⟩] := by
  unfold gapsL
  rw [if_pos (show RightL [] from trivial)]
  simp [gapsFrom]
theorem high_none_all : highOf 4096 (roomsL 0 2097152 4096 []) = (2093056, true) := by
  have hg : GoodG ⟨65536, 2097152⟩ := ⟨by simp, by simp, by simp, by simp, by simp⟩
  rcases high_is [] 0 2097152 4096 with ⟨h1, h2⟩ | ⟨a, h1, h2, h3⟩
  · exact absurd ⟨⟨by omega, by omega, by omega, _, by rw [gaps_none]; exact List.mem_singleton.2 rfl, by simp, by simp⟩, by omega, by omega⟩ (h2 65536)
  · obtain ⟨⟨e1, _, _, g, hg, e2, e3⟩, e4, e5⟩ := h2
    have := h3 2093056 ⟨⟨by omega, by omega, by omega, _, by rw [gaps_none]; exact List.mem_singleton.2 rfl, by simp, by simp⟩, by omega, by omega⟩
    rw [h1]
    congr 1
    omega

set_option maxHeartbeats 1000000 in
theorem gap_awake : Says 10 #[] (.bool true) := by
  intro w
  have X := Lib.hid (highest_c (Holds.nil w) (by simp) 0 2097152 4096 (by omega))
  have Y := Lib.hid (fun w' => gaps_c (Holds.nil w') (by simp))
  rw [high_none_all] at X
  rw [gaps_none] at Y
  go_enter Try.func10, Try.ntmps10
  go_wp2_with fail
  refine X.out.mono ?_
  rintro e w1 ⟨rfl, hb1⟩
  have B1 := Lib.hid hb1
  clear hb1 X
  go_wp2_with fail
  refine (Y.out _).mono ?_
  rintro e w2 ⟨v, rfl, ⟨A, c, rfl, hg⟩, hb2⟩
  have B2 := Lib.hid hb2
  clear hb2 hg Y
  simp only [List.length_cons, List.length_nil]
  go_wp2_with fail
  go_ret
  exact ⟨rfl, below_then B1.out B2.out (Nat.le_refl _)⟩
end Go.Proofs.Ytmppodobgkhojaa
