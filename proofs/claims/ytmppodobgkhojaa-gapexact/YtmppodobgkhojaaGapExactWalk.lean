/-
  Layer 8: the longest gap has room for what is as long, and for nothing longer.
-/
import Derived.Test.YtmppodobgkhojaaGapLaw
namespace Go.Proofs.Ytmppodobgkhojaa
open Go.ChangeShapes Go.WideShapes Go.ChangeAt Go.RowKit Go.Shelf
set_option linter.unusedVariables false
attribute [local go_sem ↓] Go.wp_at_zero Go.wp_at_succ

set_option maxHeartbeats 2000000 in
theorem exact_many (A : Option Addr) (n c : Nat) (w : World) (hn : 20 < n) :
    Calls Try.prog 9 #[.slice A n c] w fun e w' => e = .returned (.bool true) ∧ Below w.heap.size w w' := by
  have W0 := Lib.hid gap_awake
  have hz : (20 : Int) < (n : Int) := by omega
  go_enter Try.func9, Try.ntmps9
  go_wp2_with fail
  refine (W0.out _).mono ?_
  rintro e w1 ⟨rfl, hb1⟩
  have B1 := Lib.hid hb1
  clear hb1
  go_wp2_with fail
  refine (W0.out _).mono ?_
  rintro e w2 ⟨rfl, hb2⟩
  have B2 := Lib.hid (below_then B1.out hb2 (Nat.le_refl _))
  clear hb2
  go_wp2_with fail
  go_ret
  exact ⟨rfl, B2.out⟩

set_option maxHeartbeats 4000000 in
theorem exact_few (l : List Ar) (v : Value) (w : World) (hl : l.length ≤ 20) (hA : Holds w v l) :
    Calls Try.prog 9 #[v] w fun e w' => e = .returned (.bool true) ∧ Below w.heap.size w w' := by
  have W0 := Lib.hid gap_awake
  have KL := Lib.hid hA
  have CM : Hid (∀ w' u, Holds w' u l → Calls Try.prog 11 #[u] w' fun e w'' => ∃ v', e = .returned v' ∧ Holds w'' v' (madeL l) ∧ Below w'.heap.size w' w'') := Lib.hid (fun w' u h => made_c h (by omega))
  have hX := madeL_right l
  have hXl : (madeL l).length ≤ 10000 := by have := right_len hX; omega
  generalize madeL l = X at *
  have CL : Hid (∀ w' u, Holds w' u X → _) := Lib.hid (fun w' u h => largest_c h hXl)
  have hM := most_num X
  have CN : Hid (∀ w' u, Holds w' u X → Calls Try.prog 14 #[u, .int .i64 0, .int .i64 1099511627776, .int .i64 (mostL (gapsL X) + 4096)] w' fun e w'' => e = .returned (.tuple #[.int .i64 0, .bool false]) ∧ Below w'.heap.size w' w'') := Lib.hid (fun w' u h => by
    have := highest_c h hXl 0 1099511627776 (mostL (gapsL X) + 4096) (by omega)
    rcases high_is X 0 1099511627776 (mostL (gapsL X) + 4096) with ⟨h1, _⟩ | ⟨a, _, h2, _⟩
    · rwa [h1] at this
    · have := fits_most h2.1; omega)
  obtain ⟨a, b, CH, CO, CA, CB⟩ : ∃ a b, Hid (0 < mostL (gapsL X) → ∀ w' u, Holds w' u X → Calls Try.prog 14 #[u, .int .i64 0, .int .i64 1099511627776, .int .i64 (mostL (gapsL X))] w' fun e w'' => e = .returned (.tuple #[.int .i64 a, .bool true]) ∧ Below w'.heap.size w' w'') ∧
      Hid (0 < mostL (gapsL X) → ∀ w' u, Holds w' u X → Calls Try.prog 15 #[u, .int .i64 0, .int .i64 1099511627776, .int .i64 (mostL (gapsL X))] w' fun e w'' => e = .returned (.tuple #[.int .i64 b, .bool true]) ∧ Below w'.heap.size w' w'') ∧
      Hid (0 < mostL (gapsL X) → ∀ w' u, Holds w' u X → Calls Try.prog 18 #[u, .int .i64 a, .int .i64 (mostL (gapsL X))] w' fun e w'' => e = .returned (.bool true) ∧ Below w'.heap.size w' w'') ∧
      Hid (0 < mostL (gapsL X) → ∀ w' u, Holds w' u X → Calls Try.prog 18 #[u, .int .i64 b, .int .i64 (mostL (gapsL X))] w' fun e w'' => e = .returned (.bool true) ∧ Below w'.heap.size w' w'') := by
    by_cases hp : 0 < mostL (gapsL X)
    · obtain ⟨z, hz, hz1, hz2⟩ := most_fits hp
      have hz3 : May X 0 1099511627776 (mostL (gapsL X)) z := ⟨hz, hz1, by omega⟩
      rcases high_is X 0 1099511627776 (mostL (gapsL X)) with ⟨_, h1⟩ | ⟨a, h1, h2, _⟩
      · exact absurd hz3 (h1 z)
      rcases low_is X 0 1099511627776 (mostL (gapsL X)) with ⟨_, h3⟩ | ⟨b, h3, h4, _⟩
      · exact absurd hz3 (h3 z)
      refine ⟨a, b, Lib.hid (fun _ w' u h => ?_), Lib.hid (fun _ w' u h => ?_), Lib.hid (fun _ w' u h => ?_), Lib.hid (fun _ w' u h => ?_)⟩
      · have := highest_c h hXl 0 1099511627776 (mostL (gapsL X)) (by omega)
        rwa [h1] at this
      · have := lowest_c h hXl 0 1099511627776 (mostL (gapsL X))
        rwa [h3] at this
      · exact fits_yes h hXl h2.1
      · exact fits_yes h hXl h4.1
    · exact ⟨0, 0, Lib.hid (fun h => absurd h hp), Lib.hid (fun h => absurd h hp), Lib.hid (fun h => absurd h hp), Lib.hid (fun h => absurd h hp)⟩
  obtain ⟨A, c, rfl⟩ := hA.is
  clear hA hX hXl
  generalize mostL (gapsL X) = M at *
  generalize l.length = n at *
  go_enter Try.func9, Try.ntmps9
  go_wp2_with fail
  refine (W0.out _).mono ?_
  rintro e w1 ⟨rfl, hb⟩
  have B := Lib.hid hb
  have K1 := Lib.hid (KL.out.still hb)
  clear hb KL
  go_wp2_with fail
  refine (CM.out _ _ K1.out).mono ?_
  rintro e w2 ⟨vx, rfl, hX, hb⟩
  have B := Lib.hid (below_then B.out hb (Nat.le_refl _))
  have KX := Lib.hid hX
  clear hb hX K1 CM
  go_wp2_with fail
  refine (CL.out _ _ KX.out).mono ?_
  rintro e w3 ⟨rfl, hb⟩
  have B := Lib.hid (below_then B.out hb (Nat.le_refl _))
  have KX := Lib.hid (KX.out.still hb)
  clear hb CL
  go_wp2_with fail
  refine (CN.out _ _ KX.out).mono ?_
  rintro e w4 ⟨rfl, hb⟩
  have B := Lib.hid (below_then B.out hb (Nat.le_refl _))
  have KX := Lib.hid (KX.out.still hb)
  clear hb CN
  by_cases hp : 0 < M
  · have hne : ¬ M = 0 := by omega
    go_wp2_with fail
    refine (CH.out hp _ _ KX.out).mono ?_
    rintro e w5 ⟨rfl, hb⟩
    have B := Lib.hid (below_then B.out hb (Nat.le_refl _))
    have KX := Lib.hid (KX.out.still hb)
    clear hb CH
    go_wp2_with fail
    refine (CO.out hp _ _ KX.out).mono ?_
    rintro e w6 ⟨rfl, hb⟩
    have B := Lib.hid (below_then B.out hb (Nat.le_refl _))
    have KX := Lib.hid (KX.out.still hb)
    clear hb CO
    go_wp2_with fail
    refine (CA.out hp _ _ KX.out).mono ?_
    rintro e w7 ⟨rfl, hb⟩
    have B := Lib.hid (below_then B.out hb (Nat.le_refl _))
    have KX := Lib.hid (KX.out.still hb)
    clear hb CA
    go_wp2_with fail
    refine (CB.out hp _ _ KX.out).mono ?_
    rintro e w8 ⟨rfl, hb⟩
    have B := Lib.hid (below_then B.out hb (Nat.le_refl _))
    clear hb CB
    go_wp2_with fail
    go_ret
    exact ⟨rfl, B.out⟩
  · obtain rfl : M = 0 := by omega
    go_wp2_with fail
    go_ret
    exact ⟨rfl, B.out⟩
theorem exact_any (l : List Ar) (v : Value) (w : World) (hA : Holds w v l) :
    Calls Try.prog 9 #[v] w fun e w' => e = .returned (.bool true) ∧ Below w.heap.size w w' := by
  by_cases hn : l.length ≤ 20
  · exact exact_few l v w hn hA
  · obtain ⟨A, c, rfl⟩ := hA.is
    exact exact_many A l.length c w (by omega)
end Go.Proofs.Ytmppodobgkhojaa
