/-
  Layer 6: the walk of the statement on what an area allows.
-/
import Derived.Test.YtjccfhoikbddmaaAreaMayDo
namespace Go.Proofs.Ytjccfhoikbddmaa
open Go.ChangeShapes Go.WideShapes Go.ChangeAt Go.RowKit
set_option linter.unusedVariables false

/-- Whether a kind has a bit that a Prot has not. -/
def lacks (m n j : Nat) : Bool := (n / 2 ^ j % 2 == 1) && ((m &&& 2 ^ j) == 0)
/-- What is wanted behind j bits. -/
def wantN (m n : Nat) : Nat → Bool
  | 0 => true
  | j + 1 => wantN m n j && !lacks m n j
theorem want_all : ∀ m < 8, ∀ n < 8, 1 ≤ n → ((m &&& n) == n) = wantN m n 3 := by decide

/-- How far the bits have come: want, and the bit. -/
def MayRel (m n : Nat) (w0 : World) (b iv : Value) (wr : World) : Prop :=
  wr = w0 ∧ ∃ j : Nat, j ≤ 3 ∧ b = .bool (wantN m n j) ∧ iv = .int .i64 ((2 ^ j : Nat) : Int)
/-- The same, where nothing is wanted. -/
def NoRel (w0 : World) (b iv : Value) (wr : World) : Prop := wr = w0 ∧ b = .bool false ∧ ∃ j : Nat, j ≤ 3 ∧ iv = .int .i64 ((2 ^ j : Nat) : Int)
theorem want_step (m n j y d : Nat) (x : Bool) (hx : wantN m n j = x) (hy : (m &&& 2 ^ j) = y) (hd : n / 2 ^ j % 2 = d) : wantN m n (j + 1) = (x && !((d == 1) && (y == 0))) := by
  unfold wantN lacks
  rw [hx, hy, hd]
theorem bit_of (n j : Nat) : ((n : Int).tdiv ((2 ^ j : Nat) : Int)).tmod 2 = ((n / 2 ^ j % 2 : Nat) : Int) := by
  rw [Int.tdiv_eq_ediv_of_nonneg (by omega), Int.tmod_eq_emod_of_nonneg (Int.ediv_nonneg (by omega) (Int.natCast_nonneg _)), Int.natCast_emod, Int.natCast_ediv]
  rfl

set_option maxHeartbeats 2000000 in
theorem areaMay_walk (a : Ar) (k : Int) (w : World) : Calls Try.prog 6 #[a.v, .int .i64 k] w fun e w' => e = .returned (.bool true) ∧ Below w.heap.size w w' := by
  have A0 := Lib.hid (ArIn.new w a)
  have B0 := Lib.hid (below_new w (.cells a.cells 23))
  have M := Lib.hid (may_any a k)
  by_cases hr : 1 ≤ k ∧ k ≤ 7
  · obtain ⟨n, rfl⟩ : ∃ n : Nat, k = n := ⟨k.toNat, by omega⟩
    have hw := want_all (a.p % 8).toNat (by omega) n (by omega) (by omega)
    have HM : Hid (mayB a.p n = wantN (a.p % 8).toNat n 3) := by
      unfold mayB Hid
      rw [decide_eq_true hr, Int.toNat_natCast, Bool.true_and]
      exact hw
    rw [HM.out] at M
    have AB1 : Hid (bits .and .i64 a.p 1 = (((a.p % 8).toNat &&& 1 : Nat) : Int)) := and_low a.p 1 (by omega) (by omega)
    have AB2 : Hid (bits .and .i64 a.p 2 = (((a.p % 8).toNat &&& 2 : Nat) : Int)) := and_low a.p 2 (by omega) (by omega)
    have AB4 : Hid (bits .and .i64 a.p 4 = (((a.p % 8).toNat &&& 4 : Nat) : Int)) := and_low a.p 4 (by omega) (by omega)
    clear hw HM
    obtain ⟨s, t, p, sh, bk, off⟩ := a
    unfold Ar.v Ar.cells at *
    simp only at *
    generalize (p % 8).toNat = m at *
    obtain ⟨h1, h7⟩ := hr
    go_enter Try.func6, Try.ntmps6
    go_upto_region 1 with (fail)
    generalize w.alloc _ = w0 at *
    generalize hq : w.heap.size = q at *
    have HQ := Lib.hid hq
    clear hq
    go_wp2_with fail
    go_loopw [5, 6] (fun b iv wr => MayRel m n w0 b iv wr) (fun _ iv _ => 8 - (intOf iv).toNat)
    case atStart => exact ⟨rfl, 0, by omega, rfl, rfl⟩
    case round =>
      obtain ⟨rfl, j, hj, rfl, rfl⟩ := hrel
      obtain ⟨c0, c1, c2, c3, c4, c5⟩ := A0.out.cs
      simp only at c0 c1 c2 c3 c4 c5
      have hjj : j = 0 ∨ j = 1 ∨ j = 2 ∨ j = 3 := by omega
      rcases hjj with rfl | rfl | rfl | rfl
      · have ab := AB1.out
        have d2 : ((n : Int).tdiv 1).tmod 2 = ((n / 2 ^ 0 % 2 : Nat) : Int) := bit_of n 0
        have hdlt : n / 2 ^ 0 % 2 < 2 := Nat.mod_lt _ (by omega)
        generalize hx : wantN m n 0 = x at *
        generalize hy : (m &&& 1) = y at *
        generalize hd : n / 2 ^ 0 % 2 = d at *
        have HS := Lib.hid (want_step m n 0 y d x hx hy hd)
        rw [Int.tdiv_one] at d2
        clear hx hy hd hj
        have hd3 : d = 0 ∨ d = 1 := by omega
        rcases hd3 with rfl | rfl
        · go_wp2
          refine ⟨⟨rfl, 1, by omega, congrArg Value.bool ?_, rfl⟩, by decide⟩
          rw [HS.out]
          simp
        · by_cases hy0 : y = 0
          · subst hy0
            go_wp2
            refine ⟨⟨rfl, 1, by omega, congrArg Value.bool ?_, rfl⟩, by decide⟩
            rw [HS.out]
            simp
          · have hyb : ((y : Int) == 0) = false := by simpa using hy0
            go_wp2
            refine ⟨⟨rfl, 1, by omega, congrArg Value.bool ?_, rfl⟩, by decide⟩
            rw [HS.out]
            simp [hy0]
      · have ab := AB2.out
        have d2 : ((n : Int).tdiv 2).tmod 2 = ((n / 2 ^ 1 % 2 : Nat) : Int) := bit_of n 1
        have hdlt : n / 2 ^ 1 % 2 < 2 := Nat.mod_lt _ (by omega)
        generalize hx : wantN m n 1 = x at *
        generalize hy : (m &&& 2) = y at *
        generalize hd : n / 2 ^ 1 % 2 = d at *
        have HS := Lib.hid (want_step m n 1 y d x hx hy hd)
        generalize hv : (n : Int).tdiv 2 = v at *
        have hv0 : -9223372036854775808 ≤ v := by rw [← hv, Int.tdiv_eq_ediv_of_nonneg (by omega)]; omega
        have hv1 : v ≤ 9223372036854775807 := by rw [← hv, Int.tdiv_eq_ediv_of_nonneg (by omega)]; omega
        clear hx hy hd hj
        have hd3 : d = 0 ∨ d = 1 := by omega
        rcases hd3 with rfl | rfl
        · go_wp2
          refine ⟨⟨rfl, 2, by omega, congrArg Value.bool ?_, rfl⟩, by decide⟩
          rw [HS.out]
          simp
        · by_cases hy0 : y = 0
          · subst hy0
            go_wp2
            refine ⟨⟨rfl, 2, by omega, congrArg Value.bool ?_, rfl⟩, by decide⟩
            rw [HS.out]
            simp
          · have hyb : ((y : Int) == 0) = false := by simpa using hy0
            go_wp2
            refine ⟨⟨rfl, 2, by omega, congrArg Value.bool ?_, rfl⟩, by decide⟩
            rw [HS.out]
            simp [hy0]
      · have ab := AB4.out
        have d2 : ((n : Int).tdiv 4).tmod 2 = ((n / 2 ^ 2 % 2 : Nat) : Int) := bit_of n 2
        have hdlt : n / 2 ^ 2 % 2 < 2 := Nat.mod_lt _ (by omega)
        generalize hx : wantN m n 2 = x at *
        generalize hy : (m &&& 4) = y at *
        generalize hd : n / 2 ^ 2 % 2 = d at *
        have HS := Lib.hid (want_step m n 2 y d x hx hy hd)
        generalize hv : (n : Int).tdiv 4 = v at *
        have hv0 : -9223372036854775808 ≤ v := by rw [← hv, Int.tdiv_eq_ediv_of_nonneg (by omega)]; omega
        have hv1 : v ≤ 9223372036854775807 := by rw [← hv, Int.tdiv_eq_ediv_of_nonneg (by omega)]; omega
        clear hx hy hd hj
        have hd3 : d = 0 ∨ d = 1 := by omega
        rcases hd3 with rfl | rfl
        · go_wp2
          refine ⟨⟨rfl, 3, by omega, congrArg Value.bool ?_, rfl⟩, by decide⟩
          rw [HS.out]
          simp
        · by_cases hy0 : y = 0
          · subst hy0
            go_wp2
            refine ⟨⟨rfl, 3, by omega, congrArg Value.bool ?_, rfl⟩, by decide⟩
            rw [HS.out]
            simp
          · have hyb : ((y : Int) == 0) = false := by simpa using hy0
            go_wp2
            refine ⟨⟨rfl, 3, by omega, congrArg Value.bool ?_, rfl⟩, by decide⟩
            rw [HS.out]
            simp [hy0]
      · generalize hW : wantN m n 3 = x at *
        clear hW
        go_wp2_with fail
        refine (area_awake _).mono ?_
        rintro e w1 ⟨rfl, hb1⟩
        have B1 := Lib.hid (below_then B0.out hb1 (by have := A0.out.lt; rw [HQ.out]; exact Nat.le_refl _))
        obtain ⟨c0, c1, c2, c3, c4, c5⟩ := (A0.out.still hb1 A0.out.lt).cs
        clear hb1
        go_wp2_with fail
        refine (M.out _).mono ?_
        rintro e w2 ⟨rfl, hb2⟩
        have B2 := Lib.hid (below_then B1.out hb2 (by rw [HQ.out]; exact Nat.le_refl _))
        go_wp2_with fail
        go_ret
        exact ⟨by simp, by rw [HQ.out]; exact B2.out⟩
  · have HM : Hid (mayB a.p k = false) := by
      unfold mayB Hid
      rw [decide_eq_false hr, Bool.false_and]
    rw [HM.out] at M
    clear HM
    have hr' : k < 1 ∨ 7 < k := by omega
    clear hr
    obtain ⟨s, t, p, sh, bk, off⟩ := a
    unfold Ar.v Ar.cells at *
    simp only at *
    rcases hr' with hr | hr
    all_goals
      go_enter Try.func6, Try.ntmps6
      go_upto_region 1 with (fail)
      generalize w.alloc _ = w0 at *
      generalize hq : w.heap.size = q at *
      have HQ := Lib.hid hq
      clear hq
      go_wp2_with fail
      try rw [decide_eq_false (show ¬ k ≤ 7 by omega)]
      clear hr
      go_loopw [5, 6] (fun b iv wr => NoRel w0 b iv wr) (fun _ iv _ => 8 - (intOf iv).toNat)
      case atStart => exact ⟨rfl, rfl, 0, by omega, rfl⟩
      case round =>
        obtain ⟨rfl, rfl, j, hj, rfl⟩ := hrel
        obtain ⟨c0, c1, c2, c3, c4, c5⟩ := A0.out.cs
        simp only at c0 c1 c2 c3 c4 c5
        have hjj : j = 0 ∨ j = 1 ∨ j = 2 ∨ j = 3 := by omega
        rcases hjj with rfl | rfl | rfl | rfl
        · go_wp2
          all_goals exact ⟨⟨rfl, rfl, 1, by omega, rfl⟩, by decide⟩
        · go_wp2
          all_goals exact ⟨⟨rfl, rfl, 2, by omega, rfl⟩, by decide⟩
        · go_wp2
          all_goals exact ⟨⟨rfl, rfl, 3, by omega, rfl⟩, by decide⟩
        · go_wp2_with fail
          refine (area_awake _).mono ?_
          rintro e w1 ⟨rfl, hb1⟩
          have B1 := Lib.hid (below_then B0.out hb1 (by rw [HQ.out]; exact Nat.le_refl _))
          obtain ⟨c0, c1, c2, c3, c4, c5⟩ := (A0.out.still hb1 A0.out.lt).cs
          clear hb1
          go_wp2_with fail
          refine (M.out _).mono ?_
          rintro e w2 ⟨rfl, hb2⟩
          have B2 := Lib.hid (below_then B1.out hb2 (by rw [HQ.out]; exact Nat.le_refl _))
          go_wp2_with fail
          go_ret
          exact ⟨rfl, by rw [HQ.out]; exact B2.out⟩
end Go.Proofs.Ytjccfhoikbddmaa
