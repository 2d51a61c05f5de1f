/-
  Of all numbers the pieces, and how many nodes there are: the law's walk.
-/
import Derived.Test.YtejkhnphplpkeaaPkZi
namespace Go.Proofs.Ytejkhnphplpkeaa
open Go.ChangeShapes Go.WideShapes Go.ChangeAt Go.RowKit
set_option linter.unusedVariables false

set_option maxHeartbeats 4000000 in
theorem awake18_c (w : World) : Calls Try.prog 8 #[] w fun e w' => e = .returned (.bool true) ∧ Below w.heap.size w w' := by
  obtain ⟨R, hR⟩ : ∃ R : Ending → World → Prop, (fun e w' => e = .returned (.bool true) ∧ Below w.heap.size w w') = R := ⟨_, rfl⟩
  rw [hR]
  have FIN : Hid (∀ W, Below w.heap.size w W → R (.returned (.bool true)) W) := Lib.hid (fun W hb => by rw [← hR]; exact ⟨rfl, hb⟩)
  clear hR
  have C := Lib.hid (fun w => count18_c (w := w) 49)
  have hc : cntI 49 = 8 := by decide
  rw [hc] at C
  have D := Lib.hid (fun w => cut18_c (w := w) 9)
  have hp : pcs 9 = 2 := by decide
  clear hc
  go_enter Try.func8, Try.ntmps8
  go_wp2_with fail
  refine (C.out w).mono ?_
  rintro e w1 ⟨rfl, hb1⟩
  have B1 := Lib.hid hb1
  clear hb1
  go_wp2_with fail
  refine (D.out w1).mono ?_
  intro e w2 hc
  unfold CutPost at hc
  rw [if_pos (by omega), show Int.toNat 9 = 9 from rfl, hp] at hc
  obtain ⟨q, rfl, _, _, hb2⟩ := hc
  have FX := Lib.hid (FIN.out _ (below_then B1.out hb2 (Nat.le_refl _)))
  clear hb2 C D FIN B1 hp
  go_wp2_with fail
  exact FX.out
set_option maxHeartbeats 8000000 in
theorem buildCuts_any (n : Int) (w : World) : Calls Try.prog 4 #[.int .i64 n] w fun e w' => e = .returned (.bool true) ∧ Below w.heap.size w w' := by
  have hnot : ∀ (x : Bool) (w : World), (Op.unary .not (.bool x)).run Try.prog w = .ok (.bool (!x)) w := fun _ _ => rfl
  obtain ⟨R, hR⟩ : ∃ R : Ending → World → Prop, (fun e w' => e = .returned (.bool true) ∧ Below w.heap.size w w') = R := ⟨_, rfl⟩
  rw [hR]
  have FIN : Hid (∀ W, Below w.heap.size w W → R (.returned (.bool true)) W) := Lib.hid (fun W hb => by rw [← hR]; exact ⟨rfl, hb⟩)
  clear hR
  have C1 := Lib.hid (cut18_c (w := w) n)
  have C2 := Lib.hid (fun w => refCut_c (w := w) n)
  have D1 := Lib.hid (fun w => count18_c (w := w) n)
  have D2 := Lib.hid (fun w => refCount_c (w := w) n)
  generalize cntI n = cn at *
  have jn : (cn != cn) = false := by simp
  by_cases hn : 1 ≤ n ∧ n ≤ 64
  · have hN1 : 1 ≤ n.toNat := by omega
    have hN64 : n.toNat ≤ 64 := by omega
    go_enter Try.func4, Try.ntmps4
    go_wp2_with fail
    refine C1.out.mono ?_
    intro e w1 hc
    unfold CutPost at hc
    rw [if_pos hn] at hc
    obtain ⟨q1, rfl, hw1, _, hb1⟩ := hc
    have W1 := Lib.hid hw1
    have B1 := Lib.hid hb1
    have CC := Lib.hid (C2.out w1)
    have hp := pcs_few hN1 hN64
    have AT : Hid (∀ i, i < pcs n.toNat → nth (cutL n.toNat) i = (pc n.toNat i : Nat) ∧ 1 ≤ pc n.toNat i ∧ pc n.toNat i ≤ 8) := Lib.hid (fun i hi => ⟨cutL_at hi, pc_few hN1 hN64 hi⟩)
    have LN : Hid ((cutL n.toNat).length = pcs n.toNat) := Lib.hid (cutL_len _)
    clear hw1 hb1 C1 C2
    go_wp2_with fail
    refine CC.out.mono ?_
    intro e w2 hc
    unfold CutPost at hc
    rw [if_pos hn] at hc
    obtain ⟨q2, rfl, hw2, _, hb2⟩ := hc
    have W2 := Lib.hid hw2
    have V1 := Lib.hid (W1.out.below hb2 W1.out.lt)
    have B2 := Lib.hid (below_then B1.out hb2 (Nat.le_refl _))
    clear hw2 hb2 CC B1 W1
    generalize cutL n.toNat = X at *
    generalize pcs n.toNat = K at *
    go_wp2_with fail
    refine (awake18_c _).mono ?_
    rintro e w3 ⟨rfl, hb3⟩
    have V2 := Lib.hid (V1.out.below hb3 V1.out.lt)
    have U2 := Lib.hid (W2.out.below hb3 W2.out.lt)
    have B3 := Lib.hid (below_then B2.out hb3 (Nat.le_refl _))
    have CC := Lib.hid (D1.out w3)
    clear hb3 B2 V1 W2 D1
    go_wp2_with fail
    refine CC.out.mono ?_
    rintro e w4 ⟨rfl, hb4⟩
    have V3 := Lib.hid (V2.out.below hb4 V2.out.lt)
    have U3 := Lib.hid (U2.out.below hb4 U2.out.lt)
    have B4 := Lib.hid (below_then B3.out hb4 (Nat.le_refl _))
    have CC2 := Lib.hid (D2.out w4)
    clear hb4 B3 V2 U2 D2 CC
    go_wp2_with fail
    refine CC2.out.mono ?_
    rintro e w5 ⟨rfl, hb5⟩
    have V4 := Lib.hid (V3.out.below hb5 V3.out.lt)
    have U4 := Lib.hid (U3.out.below hb5 U3.out.lt)
    have B5 := Lib.hid (below_then B4.out hb5 (Nat.le_refl _))
    clear hb5 B4 V3 U3 CC2
    go_wp2_with fail
    go_loopw [5] (fun iv wr => ∃ i : Nat, i ≤ K ∧ iv = .int .i64 i ∧ Whole wr q1 3 (nums X) ∧ Whole wr q2 3 (nums X) ∧ Below w.heap.size w wr) (fun iv _ => K - (intOf iv).toNat)
    case atStart => exact ⟨0, by omega, rfl, V4.out, U4.out, B5.out⟩
    case round =>
      obtain ⟨i, hi, rfl, h1, h2, hb⟩ := hrel
      by_cases hlt : i < K
      · have j1 : (i : Int) < (K : Int) := by omega
        obtain ⟨a0, a1, a8⟩ := AT.out i hlt
        have z1 := h1.cell i
        rw [nums_at _ _ (by rw [LN.out]; exact hlt), a0] at z1
        have z2 := h2.cell i
        rw [nums_at _ _ (by rw [LN.out]; exact hlt), a0] at z2
        generalize pc n.toNat i = p at *
        have q0 : ((p : Int) != (p : Int)) = false := by simp
        have q3 : decide ((8 : Int) < (p : Int)) = false := decide_eq_false (by omega)
        have q4 : decide ((p : Int) < 1) = false := decide_eq_false (by omega)
        have NX := Lib.hid (fun q => And.intro (h1.drewN q) (And.intro (h2.drewN q) (below_drewN hb q)))
        clear h1 h2 hb AT V4 U4 B5 a0
        go_upto_region 7 with (fail)
        go_quiet (fail)
        go_wp2_with fail
        go_roundw
        case rel => exact ⟨i + 1, by omega, by go_num, NX.out _⟩
        case measure => simp [intOf]; omega
      · have j1 : ¬ (i : Int) < (K : Int) := by omega
        have FX := Lib.hid (FIN.out _ hb)
        clear h1 h2 hb AT V4 U4 B5
        go_wp2_with fail
        exact FX.out
  · go_enter Try.func4, Try.ntmps4
    go_wp2_with fail
    refine C1.out.mono ?_
    intro e w1 hc
    unfold CutPost at hc
    rw [if_neg hn] at hc
    obtain ⟨rfl, rfl⟩ := hc
    have CC := Lib.hid (C2.out w)
    clear C1 C2
    go_wp2_with fail
    refine CC.out.mono ?_
    intro e w2 hc
    unfold CutPost at hc
    rw [if_neg hn] at hc
    obtain ⟨rfl, rfl⟩ := hc
    clear CC
    go_wp2_with fail
    refine (awake18_c _).mono ?_
    rintro e w3 ⟨rfl, hb3⟩
    have B3 := Lib.hid hb3
    have CC := Lib.hid (D1.out w3)
    clear hb3 D1
    go_wp2_with fail
    refine CC.out.mono ?_
    rintro e w4 ⟨rfl, hb4⟩
    have B4 := Lib.hid (below_then B3.out hb4 (Nat.le_refl _))
    have CC2 := Lib.hid (D2.out w4)
    clear hb4 B3 D2 CC
    go_wp2_with fail
    refine CC2.out.mono ?_
    rintro e w5 ⟨rfl, hb5⟩
    have FX := Lib.hid (FIN.out _ (below_then B4.out hb5 (Nat.le_refl _)))
    clear hb5 B4 CC2 FIN
    go_wp2_with fail
    go_loopw [5] (fun iv wr => iv = .int .i64 0 ∧ wr = w5) (fun iv _ => 0)
    case atStart => exact ⟨rfl, rfl⟩
    case round =>
      obtain ⟨rfl, rfl⟩ := hrel
      go_wp2_with fail
      exact FX.out
end Go.Proofs.Ytejkhnphplpkeaa
