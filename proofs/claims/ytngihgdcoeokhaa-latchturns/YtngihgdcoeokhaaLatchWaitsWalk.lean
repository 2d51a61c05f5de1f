/-
  Layer 5: the walk of the statement on those who wait.
-/
import Derived.Test.YtngihgdcoeokhaaLatchIdleWalk
import Derived.Test.YtngihgdcoeokhaaCellLook
namespace Go.Proofs.Ytngihgdcoeokhaa
open Go.ChangeShapes Go.WideShapes Go.ChangeAt Go.RowKit
set_option linter.unusedVariables false

theorem look3 {w : World} {b g : Nat} {n d s cnt : Int} (h : MemAt w b g [n, d, s] cnt) :
    Calls Try.prog 14 #[.pointer (some ⟨b, 0, none⟩), .int .i64 0, .int .i64 3] w fun e w' =>
      ∃ k c, e = .returned (.slice (some ⟨k, 0, none⟩) 3 c) ∧ w'.cell? ⟨k, 0, none⟩ = some (.int .i64 n) ∧ w'.cell? ⟨k, 1, none⟩ = some (.int .i64 d) ∧ w'.cell? ⟨k, 2, none⟩ = some (.int .i64 s) ∧ Below w.heap.size w w' := by
  refine (look_any 0 3 h).mono ?_
  rintro e w' ⟨v, rfl, hr, hb⟩
  have e1 : seen [n, d, s] 0 3 = [n, d, s] := rfl
  rw [e1] at hr
  obtain ⟨A, c, rfl⟩ := own_slice hr
  obtain ⟨k, rfl, _, _⟩ := own_form hr (by simp)
  exact ⟨k, c, rfl, own_int hr 0 (by simp), own_int hr 1 (by simp), own_int hr 2 (by simp), hb⟩

set_option maxHeartbeats 2000000 in
theorem latchWaits_none (d : Int) (st : Int) (w : World) : Calls Try.prog 6 #[.int .i64 d, .int .i64 d, .int .u8 st] w fun e w' => e = .returned (.bool true) ∧ Below w.heap.size w w' := by
  have hnot : ∀ (x : Bool) (w : World), (Op.unary .not (.bool x)).run Try.prog w = .ok (.bool (!x)) w := fun _ _ => rfl
  go_enter Try.func6, Try.ntmps6
  go_wp2_with fail
  refine (latch_awake _).mono ?_
  rintro e w1 ⟨rfl, hb1⟩
  go_wp2_with fail
  refine (latch_awake _).mono ?_
  rintro e w3 ⟨rfl, hb3⟩
  go_wp2_with fail
  go_ret
  exact ⟨rfl, hb1.trans (hb3.mono hb1.size)⟩

set_option maxHeartbeats 4000000 in
theorem latchWaits_some (d s : Int) (st : Int) (w : World) (hne : d ≠ s) (h0 : 0 ≤ st) (h1 : st ≤ 255) : Calls Try.prog 6 #[.int .i64 d, .int .i64 s, .int .u8 st] w fun e w' => e = .returned (.bool true) ∧ Below w.heap.size w w' := by
  have hnot : ∀ (x : Bool) (w : World), (Op.unary .not (.bool x)).run Try.prog w = .ok (.bool (!x)) w := fun _ _ => rfl
  have hmf : ∀ (fn : Fn) (first cap : Array Value) (w : World), (Instr.makeFunc fn first cap).run Try.prog w = .ok (.func fn first cap) w := fun _ _ _ _ => rfl
  have hbe : (d == s) = false := beq_eq_false_iff_ne.2 hne
  have hm50 : st.tmod 50 = st % 50 := Int.tmod_eq_emod_of_nonneg h0
  obtain ⟨r, hr⟩ : ∃ r : Nat, st % 50 = r := ⟨(st % 50).toNat, by omega⟩
  have hr50 : r < 50 := by omega
  go_enter Try.func6, Try.ntmps6
  go_wp2_with fail
  refine (latch_awake _).mono ?_
  rintro e w0 ⟨rfl, hb0⟩
  have HB0 := Lib.hid hb0
  clear hb0
  go_wp2_with fail
  refine (new_mem_ex 3 _).mono ?_
  rintro e w1 ⟨b, g, rfl, hm, hb, hg, hbel⟩
  have HB1 := Lib.hid hbel
  have X := Lib.hid (store_cell (cs := [0, 0, 0]) 1 d hm (by simp) (by simp))
  clear hm hbel
  go_wp2_with fail
  refine X.out.mono ?_
  rintro e w2 ⟨rfl, hm, ho⟩
  have HB2 := Lib.hid (mem_more HB1.out hb hg ho)
  have X := Lib.hid (store_cell (cs := [0, d, 0]) 2 s hm (by simp) (by simp))
  clear hm ho HB1
  go_wp2_with fail
  refine X.out.mono ?_
  rintro e w3 ⟨rfl, hm, ho⟩
  have HB := Lib.hid (mem_more HB2.out hb hg ho)
  have HM : Hid (MemAt w3 b g (Mm.mk [0, d, s] 2).cs (Mm.mk [0, d, s] 2).cnt) := hm
  clear hm ho HB2 X
  go_wp2_with fail
  refine (new_trail_ex (m := ⟨[0, d, s], 2⟩) HM.out).mono ?_
  rintro e w4 ⟨tb, rfl, hs, htb, hbel⟩
  have SO := Lib.hid (lone_new 2 (.int .i64 0) hs hbel htb)
  clear hs hbel HM
  go_upto_region 8 with (fail)
  generalize hw5 : w4.alloc (.cells #[.int .i64 0] 2) = w5 at *
  generalize w4.heap.size = qb at *
  clear hw5
  go_wp2_with fail
  go_loopw [10] (fun iv wr => LoneRel w3 b g tb qb 2 userP ⟨[], false, ⟨[0, d, s], 2⟩, .int .i64 0⟩ (2 + r) iv wr) (fun iv _ => 2 + r - (intOf iv).toNat)
  case atStart => exact ⟨0, _, _, _, by omega, rfl, SO.out⟩
  case round =>
    obtain ⟨k, T, tv, mv, hk, rfl, hS⟩ := hrel
    have S1 := Lib.hid hS
    have few := ones_few userP k ⟨[], false, ⟨[0, d, s], 2⟩, .int .i64 0⟩
    simp only [List.length_nil] at few
    clear hS
    by_cases hlt : k < 2 + r
    · have X := Lib.hid (lone_step user_steps (k : Int) S1.out (by omega) (by omega))
      rw [show one userP (ones userP k ⟨[], false, ⟨[0, d, s], 2⟩, .int .i64 0⟩) = ones userP (k + 1) ⟨[], false, ⟨[0, d, s], 2⟩, .int .i64 0⟩ from rfl, waits_goes d s 2 _ (Ne.symm hne) k] at X
      clear few S1
      go_wp2_with fail
      refine X.out.mono ?_
      rintro e w6 ⟨T', tv', mv', rfl, hS'⟩
      have ST := Lib.hid (steps hS'.st)
      rw [hS'.told] at ST
      have S2 : Hid (Lone w3 b g tb qb 2 (ones userP (k + 1) ⟨[], false, ⟨[0, d, s], 2⟩, .int .i64 0⟩) T' tv' mv' w6) := by
        rw [waits_goes d s 2 _ (Ne.symm hne) k]; exact hS'
      clear hS' X
      go_wp2_with fail
      refine ST.out.mono ?_
      rintro e w7 ⟨rfl, rfl⟩
      go_wp2_with fail
      go_roundw
      case rel => exact ⟨k + 1, _, _, _, by omega, by go_num, S2.out⟩
      case measure => simp [intOf]; omega
    · have hk2 : k = (1 + r) + 1 := by omega
      subst hk2
      rw [waits_goes d s 2 _ (Ne.symm hne) (1 + r)] at S1
      have X := Lib.hid (store_cell (cs := [0, wrap64 (d + 1), s]) 2 d S1.out.st.mem (by simp) (by simp; omega))
      clear few
      go_wp2_with fail
      refine X.out.mono ?_
      rintro e w6 ⟨rfl, hm6, ho6⟩
      have S6 := Lib.hid (S1.out.mem (m' := ⟨[0, wrap64 (d + 1), d], 2 + 1 + ((1 + r : Nat) : Int) + 1⟩) hm6 ho6)
      clear hm6 ho6 S1 X SO
      simp only at S6
      obtain ⟨c, hc⟩ : ∃ c : Int, 2 + 1 + ((1 + r : Nat) : Int) + 1 = c := ⟨_, rfl⟩
      rw [hc] at S6
      have hc1 : c ≤ 1000 := by omega
      clear hc
      go_wp2_with fail
      go_loopw [11] (fun iv wr => LoneRel w3 b g tb qb 2 userP ⟨[d], false, ⟨[0, wrap64 (d + 1), d], c⟩, .int .i64 0⟩ 4 iv wr) (fun iv _ => 4 - (intOf iv).toNat)
      case atStart => exact ⟨0, _, _, _, by omega, rfl, S6.out⟩
      case round =>
        obtain ⟨k, T2, tv2, mv2, hk2, rfl, hS⟩ := hrel
        have S1 := Lib.hid hS
        have few := ones_few userP k ⟨[d], false, ⟨[0, wrap64 (d + 1), d], c⟩, .int .i64 0⟩
        simp only [List.length_cons, List.length_nil] at few
        clear hS
        by_cases hlt : k < 4
        · have X := Lib.hid (lone_step user_steps (100 + k : Int) S1.out (by omega) (by omega))
          clear few
          go_wp2_with fail
          refine X.out.mono ?_
          rintro e w7 ⟨T', tv', mv', rfl, hS'⟩
          have S2 := Lib.hid hS'
          clear hS' X
          go_wp2_with fail
          go_roundw
          case rel => exact ⟨k + 1, _, _, _, by omega, by go_num, S2.out⟩
          case measure => simp [intOf]; omega
        · have hk4 : k = 4 := by omega
          subst hk4
          rw [served_goes] at S1
          have X := Lib.hid (look3 S1.out.st.mem)
          clear few
          go_wp2_with fail
          refine X.out.mono ?_
          rintro e w7 ⟨kb, kc, rfl, l0, l1, l2, hb7⟩
          have S7 := Lib.hid (S1.out.still hb7)
          have c7 : w7.cell? ⟨qb, 0, none⟩ = some (.int .i64 d) := S7.out.cell.cell 0
          have HB7 : Hid (Below w.heap.size w w7) := HB0.out.trans ((S7.out.below HB.out hb hg).mono HB0.out.size)
          have OV := Lib.hid (overs S7.out.st)
          rw [S7.out.over] at OV
          have hwb : wrap64 (IntKind.u64.wrap (IntKind.u64.wrap d + 1)) = wrap64 (d + 1) := by
            rw [IntKind.wrap_u64, IntKind.wrap_u64]
            unfold wrap64; omega
          clear hb7 S1 S6 HB S7 HB0 X
          go_wp2_with fail
          refine OV.out.mono ?_
          rintro e w8 ⟨rfl, rfl⟩
          go_wp2_with fail
          go_ret
          exact ⟨rfl, HB7.out⟩
end Go.Proofs.Ytngihgdcoeokhaa
