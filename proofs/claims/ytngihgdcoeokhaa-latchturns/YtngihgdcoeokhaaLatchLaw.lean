/-
  Layer 5: what a program that does nothing does not answer.
-/
import Derived.Test.YtngihgdcoeokhaaLatchPure
namespace Go.Proofs.Ytngihgdcoeokhaa
open Go.ChangeShapes Go.WideShapes Go.ChangeAt Go.RowKit
set_option linter.unusedVariables false

theorem load_cell {w : World} {b g : Nat} {cs : List Int} {cnt : Int} (i : Nat) (h : MemAt w b g cs cnt) (h1 : i < cs.length) (hu : cnt + 1 ≤ 4611686018427387904) :
    Calls Try.prog 15 #[.pointer (some ⟨b, 0, none⟩), .int .i64 i] w fun e w' => e = .returned (.tuple #[.int .i64 (nth cs i), .int .i64 0]) ∧ MemAt w' b g cs (cnt + 1) ∧ Only (Two b g) w w' := by
  have := load_in (i : Int) h (by omega) (by omega) hu
  exact this

section
variable {w0 w w1 w' : World} {b g tb qb : Nat} {ty : TypeId} {X : One} {T : Tr} {tv mv : Value}
/-- All that is turned is new, where the memory is new. -/
theorem Lone.below {w00 : World} (h : Lone w0 b g tb qb ty X T tv mv w) (hb : Below w00.heap.size w00 w0) (h1 : w00.heap.size ≤ b) (h2 : w00.heap.size ≤ g) : Below w00.heap.size w00 w :=
  hb.trans (h.only.below (fun k hk => by rcases hk with hk | hk <;> omega) hb.size)
end

set_option maxHeartbeats 2000000 in
theorem latch_awake (w : World) : Calls Try.prog 7 #[] w fun e w' => e = .returned (.bool true) ∧ Below w.heap.size w w' := by
  have hmf : ∀ (fn : Fn) (first cap : Array Value) (w : World), (Instr.makeFunc fn first cap).run Try.prog w = .ok (.func fn first cap) w := fun _ _ _ _ => rfl
  go_enter Try.func7, Try.ntmps7
  go_wp2_with fail
  refine (new_mem_ex 3 _).mono ?_
  rintro e w1 ⟨b, g, rfl, hm, hb, hg, hbel⟩
  have HM : Hid (MemAt w1 b g (Mm.mk [0, 0, 0] 0).cs (Mm.mk [0, 0, 0] 0).cnt) := hm
  have HB := Lib.hid hbel
  clear hm hbel
  go_wp2_with fail
  refine (new_trail_ex (m := ⟨[0, 0, 0], 0⟩) HM.out).mono ?_
  rintro e w2 ⟨tb, rfl, hs, htb, hbel⟩
  have SO := Lib.hid (lone_new 2 (.int .i64 (-1)) hs hbel htb)
  clear hs hbel HM
  go_upto_region 4 with (fail)
  generalize hw3 : w2.alloc (.cells #[.int .i64 (-1)] 2) = w3 at *
  generalize w2.heap.size = qb at *
  clear hw3
  go_wp2_with fail
  go_loopw [4] (fun iv wr => LoneRel w1 b g tb qb 2 userP ⟨[], false, ⟨[0, 0, 0], 0⟩, .int .i64 (-1)⟩ 5 iv wr) (fun iv _ => 5 - (intOf iv).toNat)
  case atStart => exact ⟨0, _, _, _, by omega, rfl, SO.out⟩
  case round =>
    obtain ⟨k, T, tv, mv, hk, rfl, hS⟩ := hrel
    have S1 := Lib.hid hS
    have few := ones_few userP k ⟨[], false, ⟨[0, 0, 0], 0⟩, .int .i64 (-1)⟩
    simp only [List.length_nil] at few
    clear hS
    by_cases hlt : k < 5
    · have X := Lib.hid (lone_step user_steps (k : Int) S1.out (by omega) (by omega))
      clear few
      go_wp2_with fail
      refine X.out.mono ?_
      rintro e w4 ⟨T', tv', mv', rfl, hS'⟩
      have S2 := Lib.hid hS'
      clear hS' X
      go_wp2_with fail
      go_roundw
      case rel => exact ⟨k + 1, _, _, _, by omega, by go_num, S2.out⟩
      case measure => simp [intOf]; omega
    · have hk5 : k = 5 := by omega
      subst hk5
      rw [awake_goes] at S1
      have L := Lib.hid (load_cell 0 S1.out.st.mem (by simp) (by simp))
      clear few
      go_wp2_with fail
      refine L.out.mono ?_
      rintro e w5 ⟨rfl, hm5, ho5⟩
      have S5 := Lib.hid (S1.out.mem (m' := ⟨[1, 1, 1], 5 + 1⟩) hm5 ho5)
      have c5 : w5.cell? ⟨qb, 0, none⟩ = some (.int .i64 0) := S5.out.cell.cell 0
      have HB5 := Lib.hid (S5.out.below HB.out hb hg)
      have OV := Lib.hid (overs S5.out.st)
      rw [S5.out.over] at OV
      clear hm5 ho5 S1 L SO HB S5
      go_wp2_with fail
      refine OV.out.mono ?_
      rintro e w6 ⟨rfl, rfl⟩
      go_wp2_with fail
      go_ret
      exact ⟨rfl, HB5.out⟩
end Go.Proofs.Ytngihgdcoeokhaa
