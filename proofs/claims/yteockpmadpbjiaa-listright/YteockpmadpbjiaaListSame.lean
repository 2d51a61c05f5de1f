/-
  Layer 7: two lists are the same: a contract for each call, where they are.
-/
import Derived.Test.YteockpmadpbjiaaListOps
import Derived.BigQuiet
import Derived.Laws.StructEq
namespace Go.Proofs.Yteockpmadpbjiaa
open Go.ChangeShapes Go.WideShapes Go.ChangeAt Go.RowKit Go.Shelf
set_option linter.unusedVariables false

theorem area_struct : Try.prog.underlying 24 = some (.struct (Try.prog.fieldsOf 24)) := by
  unfold Program.fieldsOf
  rw [Try.underlying24]
theorem area_held : Try.prog.stoodInHeld 24 = false := by kernel_rfl
set_option maxHeartbeats 1000000 in
theorem area_neq (a : Ar) (w : World) : (binOp .neq 24 a.v a.v).run Try.prog w = .ok (.bool false) w := by
  obtain ⟨a0, a1, a2, a3, a4, a5⟩ := a
  unfold Ar.v
  rw [run_neq_struct, run_equalIn_struct w 9999 24 _ _ area_struct area_held]
  unfold Program.fieldsOf
  rw [Try.underlying24]
  simp [Op.eqFields, Go.part, isAgg, go_sem, run_underlying Try.underlying2, run_underlying Try.underlying3, run_underlying Try.underlying4]
theorem area_guard (op : BinOp) (x y : Operand) (a b : Ar) (w : World) : (eqGuard op 24 x y a.v b.v).run Try.prog w = .ok () w := run_eqGuard_agg w op 24 x y _ _ (by kernel_rfl)

set_option maxRecDepth 100000 in
set_option maxHeartbeats 2000000 in
theorem refSame_any (A A' : Option Addr) (c c' : Nat) (l : List Ar) (hl : l.length ≤ 100000) (w : World) (hA : Areas w.heap.size w A l) (hA' : Areas w.heap.size w A' l) :
    Calls Try.prog 15 #[.slice A l.length c, .slice A' l.length c'] w fun e w' => e = .returned (.bool true) ∧ Below w.heap.size w w' := by
  have NE := area_neq
  have GD := area_guard
  have HA := Lib.hid hA
  have HA' := Lib.hid hA'
  clear hA hA'
  generalize hL : l.length = len at *
  have HL := Lib.hid hL
  clear hL
  go_enter Try.func15, Try.ntmps15
  go_wp2_with fail
  go_loopg [5] len (fun g s5 wr => ∃ k q : Nat, k ≤ len ∧ len - k ≤ g ∧ s5 = .int .i64 k ∧ wr = w.drewN q)
  case atStart => exact ⟨0, 0, Nat.zero_le _, by omega, rfl, rfl⟩
  case round =>
    obtain ⟨k, q, hk, hg, rfl, rfl⟩ := hrel
    by_cases hlt : k < len
    · have hltz : (k : Int) < (len : Int) := by omega
      have hz0 : (0 : Int) ≤ (k : Int) := by omega
      have hlk : k < l.length := by rw [HL.out]; exact hlt
      rcases HA.out with hn | ⟨b, off, rfl, hb, hcs⟩
      · rw [hn] at hlk; simp at hlk
      rcases HA'.out with hn | ⟨b', off', rfl, hb', hcs'⟩
      · rw [hn] at hlk; simp at hlk
      obtain ⟨c0, c1, c2, c3, c4, c5⟩ := hcs k hlk
      obtain ⟨d0, d1, d2, d3, d4, d5⟩ := hcs' k hlk
      clear hcs hcs'
      generalize l[k] = x at *
      have NX := NE x
      have GX := fun op y z => GD op y z x x
      obtain ⟨x0, x1, x2, x3, x4, x5⟩ := x
      simp only [Ar.v] at c0 c1 c2 c3 c4 c5 d0 d1 d2 d3 d4 d5 NX GX
      clear NE GD
      go_wp2_with fail
      go_quiet (fail)
      go_wp2_with fail
      go_roundg (len - (k + 1))
      case measure => omega
      case rel => exact ⟨k + 1, q + nq, by omega, by omega, by go_num, rfl⟩
    · obtain rfl : k = len := by omega
      go_wp2_with fail
      go_ret
      exact ⟨rfl, below_drewN (Below.refl _ _) q⟩

set_option maxRecDepth 100000 in
set_option maxHeartbeats 2000000 in
theorem equal_any (A A' : Option Addr) (c c' : Nat) (l : List Ar) (hl : l.length ≤ 100000) (w : World) (hA : Areas w.heap.size w A l) (hA' : Areas w.heap.size w A' l) :
    Calls Try.prog 35 #[.slice A l.length c, .slice A' l.length c'] w fun e w' => e = .returned (.bool true) ∧ Below w.heap.size w w' := by
  have NE := area_neq
  have GD := area_guard
  have HA := Lib.hid hA
  have HA' := Lib.hid hA'
  clear hA hA'
  generalize hL : l.length = len at *
  have HL := Lib.hid hL
  clear hL
  go_enter Try.func35, Try.ntmps35
  go_wp2_with fail
  go_loopg [5, 13] len (fun g _ s5 wr => ∃ k q : Nat, k ≤ len ∧ len - k ≤ g ∧ s5 = .int .i64 k ∧ wr = w.drewN q)
  case atStart => exact ⟨0, 0, Nat.zero_le _, by omega, rfl, rfl⟩
  case round =>
    obtain ⟨k, q, hk, hg, rfl, rfl⟩ := hrel
    by_cases hlt : k < len
    · have hltz : (k : Int) < (len : Int) := by omega
      have hz0 : (0 : Int) ≤ (k : Int) := by omega
      have hlk : k < l.length := by rw [HL.out]; exact hlt
      rcases HA.out with hn | ⟨b, off, rfl, hb, hcs⟩
      · rw [hn] at hlk; simp at hlk
      rcases HA'.out with hn | ⟨b', off', rfl, hb', hcs'⟩
      · rw [hn] at hlk; simp at hlk
      obtain ⟨c0, c1, c2, c3, c4, c5⟩ := hcs k hlk
      obtain ⟨d0, d1, d2, d3, d4, d5⟩ := hcs' k hlk
      clear hcs hcs'
      generalize l[k] = x at *
      have NX := NE x
      have GX := fun op y z => GD op y z x x
      obtain ⟨x0, x1, x2, x3, x4, x5⟩ := x
      simp only [Ar.v] at c0 c1 c2 c3 c4 c5 d0 d1 d2 d3 d4 d5 NX GX
      clear NE GD
      go_wp2_with fail
      go_quiet (fail)
      go_wp2_with fail
      go_roundg (len - (k + 1))
      case measure => omega
      case rel => exact ⟨k + 1, q + nq, by omega, by omega, by go_num, rfl⟩
    · obtain rfl : k = len := by omega
      go_wp2_with fail
      go_ret
      exact ⟨rfl, below_drewN (Below.refl _ _) q⟩

set_option maxHeartbeats 1000000 in
theorem lsame_any (A : Option Addr) (c : Nat) (l : List Ar) (hl : l.length ≤ 10000) (hr : RightL l) (w : World) (hA : Areas w.heap.size w A l) :
    Calls Try.prog 19 #[.slice A l.length c, .slice A l.length c] w fun e w' => e = .returned (.bool true) ∧ Below w.heap.size w w' := by
  have X := Lib.hid (right_any A l c (by omega) w hA)
  rw [decide_eq_true hr] at X
  have Y := Lib.hid (fun w1 h => equal_any A A c c l (by omega) w1 h h)
  have HA := Lib.hid hA
  clear hr hA
  generalize l.length = n at *
  go_enter Try.func19, Try.ntmps19
  go_wp2_with fail
  refine X.out.mono ?_
  rintro e w1 ⟨rfl, hb1⟩
  have B1 := Lib.hid hb1
  have A1 := Lib.hid ((HA.out.below hb1).mono hb1.size)
  clear hb1
  go_wp2_with fail
  refine (Y.out w1 A1.out).mono ?_
  rintro e w2 ⟨rfl, hb2⟩
  have B2 := Lib.hid hb2
  clear hb2
  go_wp2_with fail
  go_ret
  exact ⟨rfl, below_then B1.out B2.out (Nat.le_refl _)⟩
end Go.Proofs.Yteockpmadpbjiaa
