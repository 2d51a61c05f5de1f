/-
  Layer 5: the walk of the statement on a latch that is idle.
-/
import Derived.Test.YtngihgdcoeokhaaLatchLaw
namespace Go.Proofs.Ytngihgdcoeokhaa
open Go.ChangeShapes Go.WideShapes Go.ChangeAt Go.RowKit
set_option linter.unusedVariables false

theorem store_cell {w : World} {b g : Nat} {cs : List Int} {cnt : Int} (i : Nat) (v : Int) (h : MemAt w b g cs cnt) (h1 : i < cs.length) (hu : cnt + 1 ≤ 4611686018427387904) :
    Calls Try.prog 16 #[.pointer (some ⟨b, 0, none⟩), .int .i64 i, .int .i64 v] w fun e w' => e = .returned (.int .i64 0) ∧ MemAt w' b g (cs.set i v) (cnt + 1) ∧ Only (Two b g) w w' := by
  have := store_in (i : Int) v h (by omega) (by omega) hu
  exact this
/-- A new memory, and two stores. -/
theorem mem_more {w w1 w' : World} {b g : Nat} (hb : Below w.heap.size w w1) (h1 : w.heap.size ≤ b) (h2 : w.heap.size ≤ g) (ho : Only (Two b g) w1 w') : Below w.heap.size w w' :=
  hb.trans (ho.below (fun k hk => by rcases hk with hk | hk <;> omega) hb.size)

set_option maxHeartbeats 2000000 in
theorem latchIdle_walk (d s : Int) (w : World) : Calls Try.prog 5 #[.int .i64 d, .int .i64 s] w fun e w' => e = .returned (.bool true) ∧ Below w.heap.size w w' := by
  have hmf : ∀ (fn : Fn) (first cap : Array Value) (w : World), (Instr.makeFunc fn first cap).run Try.prog w = .ok (.func fn first cap) w := fun _ _ _ _ => rfl
  go_enter Try.func5, Try.ntmps5
  go_wp2_with fail
  refine (new_mem_ex 3 _).mono ?_
  rintro e w1 ⟨b, g, rfl, hm, hb, hg, hbel⟩
  have HB1 := Lib.hid hbel
  have X := Lib.hid (store_cell (cs := [0, 0, 0]) 1 d hm (by simp) (by simp))
  clear hm hbel
  go_wp2_with fail
  refine X.out.mono ?_
  rintro e w2 ⟨rfl, hm, ho⟩
  have HB2 := Lib.hid (mem_more HB1.out hb hg ho)
  have X := Lib.hid (store_cell (cs := [0, d, 0]) 2 s hm (by simp) (by simp))
  clear hm ho HB1
  go_wp2_with fail
  refine X.out.mono ?_
  rintro e w3 ⟨rfl, hm, ho⟩
  have HB := Lib.hid (mem_more HB2.out hb hg ho)
  have HM : Hid (MemAt w3 b g (Mm.mk [0, d, s] 2).cs (Mm.mk [0, d, s] 2).cnt) := hm
  clear hm ho HB2 X
  go_wp2_with fail
  refine (new_trail_ex (m := ⟨[0, d, s], 2⟩) HM.out).mono ?_
  rintro e w4 ⟨tb, rfl, hs, htb, hbel⟩
  have SO := Lib.hid (lone_new 4 (.bool false) hs hbel htb)
  clear hs hbel HM
  go_upto_region 6 with (fail)
  generalize hw5 : w4.alloc (.cells #[.bool false] 4) = w5 at *
  generalize w4.heap.size = qb at *
  clear hw5
  go_wp2_with fail
  go_loopw [8] (fun iv wr => LoneRel w3 b g tb qb 4 idlerP ⟨[], false, ⟨[0, d, s], 2⟩, .bool false⟩ 3 iv wr) (fun iv _ => 3 - (intOf iv).toNat)
  case atStart => exact ⟨0, _, _, _, by omega, rfl, SO.out⟩
  case round =>
    obtain ⟨k, T, tv, mv, hk, rfl, hS⟩ := hrel
    have S1 := Lib.hid hS
    have few := ones_few idlerP k ⟨[], false, ⟨[0, d, s], 2⟩, .bool false⟩
    simp only [List.length_nil] at few
    clear hS
    by_cases hlt : k < 3
    · have X := Lib.hid (lone_step idler_steps (k : Int) S1.out (by omega) (by omega))
      clear few
      go_wp2_with fail
      refine X.out.mono ?_
      rintro e w6 ⟨T', tv', mv', rfl, hS'⟩
      have S2 := Lib.hid hS'
      clear hS' X
      go_wp2_with fail
      go_roundw
      case rel => exact ⟨k + 1, _, _, _, by omega, by go_num, S2.out⟩
      case measure => simp [intOf]; omega
    · have hk3 : k = 3 := by omega
      subst hk3
      rw [idle_goes] at S1
      clear few
      go_wp2_with fail
      refine (latch_awake _).mono ?_
      rintro e w6 ⟨rfl, hb6⟩
      have S6 := Lib.hid (S1.out.still hb6)
      have c6 : w6.cell? ⟨qb, 0, none⟩ = some (.bool (s == d)) := S6.out.cell.cell 0
      have HB6 := Lib.hid (S6.out.below HB.out hb hg)
      have OV := Lib.hid (overs S6.out.st)
      rw [S6.out.over] at OV
      have ST := Lib.hid (steps S6.out.st)
      rw [S6.out.told] at ST
      have hq : ((s == d) == (d == s)) = true := by simp [BEq.comm]
      clear hb6 S1 SO HB S6
      go_wp2_with fail
      refine OV.out.mono ?_
      rintro e w7 ⟨rfl, rfl⟩
      go_wp2_with fail
      refine ST.out.mono ?_
      rintro e w7 ⟨rfl, rfl⟩
      go_wp2_with fail
      go_ret
      exact ⟨rfl, HB6.out⟩
end Go.Proofs.Ytngihgdcoeokhaa
