/-
  Layer 13: what was grown, and is shrunk again, leaves the list as it was.
-/
import Derived.Test.YtmocdanfjoginaaPkBc
namespace Go.Proofs.Ytmocdanfjoginaa
open Go.ChangeShapes Go.WideShapes Go.ChangeAt Go.RowKit Go.Shelf
set_option linter.unusedVariables false
attribute [local go_sem ↓] Go.wp_at_zero Go.wp_at_succ

set_option maxHeartbeats 2000000 in
theorem back_many (A : Option Addr) (n cc : Nat) (now want : Int) (w : World) (hn : 30 < n) :
    Calls Try.prog 6 #[.slice A n cc, .int .i64 now, .int .i64 want] w fun e w' => e = .returned (.bool true) ∧ Below w.heap.size w w' := by
  have W0 := Lib.hid bk_awake
  have G := Lib.hid (Bag.new w)
  have hz : (30 : Int) < (n : Int) := by omega
  go_enter Try.func6, Try.ntmps6
  go_wp2_with fail
  refine (W0.out _).mono ?_
  rintro e w1 ⟨rfl, hb⟩
  have G := Lib.hid (G.out.still hb)
  clear hb
  go_wp2_with fail
  refine (W0.out _).mono ?_
  rintro e w2 ⟨rfl, hb⟩
  have G := Lib.hid (G.out.still hb)
  clear hb
  go_wp2_with fail
  go_ret
  exact ⟨rfl, G.out.bel⟩

set_option maxRecDepth 4000 in
set_option maxHeartbeats 8000000 in
theorem back_err (l : List Ar) (v : Value) (now want : Int) (w : World) (hl : l.length ≤ 30) (hA : Holds w v l) (hg : ¬ ((bkR (someL l) now want).2.2.1 = 0 ∧ now < want)) :
    Calls Try.prog 6 #[v, .int .i64 now, .int .i64 want] w fun e w' => e = .returned (.bool true) ∧ Below w.heap.size w w' := by
  have W0 := Lib.hid bk_awake
  have G := Lib.hid (Bag.new w)
  have KL := Lib.hid hA
  have CS : Hid (∀ w' u, Holds w' u l → Calls Try.prog 10 #[u] w' fun e w'' => ∃ v', e = .returned v' ∧ Mine w'.heap.size w'' v' (someL l) ∧ Below w'.heap.size w' w'') := Lib.hid (fun w' u h => some_c h (by omega))
  have hX := someL_may l
  generalize someL l = X at *
  have hXl : X.length ≤ 10000 := by have := hX.2; omega
  obtain ⟨Y, n1, e1, x1, hr⟩ : ∃ Y n1 e1 x1, bkR X now want = (Y, n1, e1, x1) := ⟨_, _, _, _, rfl⟩
  rw [hr] at hg
  simp only at hg
  have C1 : Hid (∀ w' u, Holds w' u X → Calls Try.prog 9 #[u, .int .i64 now, .agg #[.int .i64 0, .int .i64 want, .int .i64 0, .int .i64 0, .int .i64 0, .int .i64 0, .int .i64 0, .int .i64 0, .int .i64 0]] w' fun e w'' => ∃ v', e = .returned (.tuple #[v', .int .i64 n1, .agg #[.int .i64 e1, .int .i64 x1, .int .i64 0, .bool false, .int .i64 0, .int .i64 0]]) ∧ Mine w'.heap.size w'' v' Y ∧ Below w'.heap.size w' w'') := Lib.hid (fun w' u h => by
    have := move_c h (by omega) now ⟨0, want, 0, 0, 0, 0, 0, 0, 0⟩
    rw [hr] at this
    exact this)
  clear hX hXl hr
  obtain ⟨A, cc, rfl⟩ := hA.is
  clear hA
  generalize hn : l.length = n at *
  clear hn
  have hz : ¬ (30 : Int) < (n : Int) := by omega
  by_cases he : e1 = 0
  · have hz2 : want ≤ now := by
      by_cases h : now < want
      · exact absurd ⟨he, h⟩ hg
      · omega
    subst he
    clear hg
    go_enter Try.func6, Try.ntmps6
    go_wp2_with fail
    refine (W0.out _).mono ?_
    rintro e w1 ⟨rfl, hb⟩
    have G := Lib.hid (G.out.still hb)
    have KL := Lib.hid (KL.out.still hb)
    clear hb
    go_wp2_with fail
    refine (CS.out _ _ KL.out).mono ?_
    rintro e w2 ⟨vx, rfl, hm, hb⟩
    have SZ := Lib.hid G.out.bel.size
    have G := Lib.hid (G.out.still hb)
    have KX := Lib.hid (hm.base SZ.out)
    clear hb hm CS KL SZ
    go_wp2_with fail
    refine (C1.out _ _ KX.out.holds).mono ?_
    rintro e w3 ⟨vKY, rfl, hm, hb⟩
    have SZ := Lib.hid G.out.bel.size
    have G := Lib.hid (G.out.still hb)
    have KX := Lib.hid (KX.out.still hb)
    have KY := Lib.hid (hm.base SZ.out)
    clear hb hm C1 SZ
    have BN := Lib.hid (below_new w3 (.cells #[.int .i64 0, .int .i64 x1, .int .i64 0, .bool false, .int .i64 0, .int .i64 0] 28))
    have G := Lib.hid (G.out.add 28 #[.int .i64 0, .int .i64 x1, .int .i64 0, .bool false, .int .i64 0, .int .i64 0])
    have KX := Lib.hid (KX.out.still BN.out)
    have KY := Lib.hid (KY.out.still BN.out)
    clear BN
    obtain ⟨a0, a1, a2, a3, a4, a5⟩ := row6 G.out.v0
    go_wp2_with fail
    go_ret
    exact ⟨rfl, G.out.bel⟩
  · have he' : (e1 != 0) = true := by simpa using he
    clear he hg
    go_enter Try.func6, Try.ntmps6
    go_wp2_with fail
    refine (W0.out _).mono ?_
    rintro e w1 ⟨rfl, hb⟩
    have G := Lib.hid (G.out.still hb)
    have KL := Lib.hid (KL.out.still hb)
    clear hb
    go_wp2_with fail
    refine (CS.out _ _ KL.out).mono ?_
    rintro e w2 ⟨vx, rfl, hm, hb⟩
    have SZ := Lib.hid G.out.bel.size
    have G := Lib.hid (G.out.still hb)
    have KX := Lib.hid (hm.base SZ.out)
    clear hb hm CS KL SZ
    go_wp2_with fail
    refine (C1.out _ _ KX.out.holds).mono ?_
    rintro e w3 ⟨vKY, rfl, hm, hb⟩
    have SZ := Lib.hid G.out.bel.size
    have G := Lib.hid (G.out.still hb)
    have KX := Lib.hid (KX.out.still hb)
    have KY := Lib.hid (hm.base SZ.out)
    clear hb hm C1 SZ
    have BN := Lib.hid (below_new w3 (.cells #[.int .i64 e1, .int .i64 x1, .int .i64 0, .bool false, .int .i64 0, .int .i64 0] 28))
    have G := Lib.hid (G.out.add 28 #[.int .i64 e1, .int .i64 x1, .int .i64 0, .bool false, .int .i64 0, .int .i64 0])
    have KX := Lib.hid (KX.out.still BN.out)
    have KY := Lib.hid (KY.out.still BN.out)
    clear BN
    obtain ⟨a0, a1, a2, a3, a4, a5⟩ := row6 G.out.v0
    go_wp2_with fail
    go_ret
    exact ⟨rfl, G.out.bel⟩

set_option maxRecDepth 4000 in
set_option maxHeartbeats 8000000 in
theorem back_ok (l : List Ar) (v : Value) (now want : Int) (w : World) (hl : l.length ≤ 30) (hA : Holds w v l) (hg : (bkR (someL l) now want).2.2.1 = 0 ∧ now < want) :
    Calls Try.prog 6 #[v, .int .i64 now, .int .i64 want] w fun e w' => e = .returned (.bool true) ∧ Below w.heap.size w w' := by
  have W0 := Lib.hid bk_awake
  have G := Lib.hid (Bag.new w)
  have KL := Lib.hid hA
  have CS : Hid (∀ w' u, Holds w' u l → Calls Try.prog 10 #[u] w' fun e w'' => ∃ v', e = .returned v' ∧ Mine w'.heap.size w'' v' (someL l) ∧ Below w'.heap.size w' w'') := Lib.hid (fun w' u h => some_c h (by omega))
  have hX := someL_may l
  generalize someL l = X at *
  have hXl : X.length ≤ 10000 := by have := hX.2; omega
  obtain ⟨hg, hlt⟩ := hg
  obtain ⟨b1, b2, b3⟩ := bk_back hg hlt
  have hYl := (bkR_may (now := now) (a := want) hX).2
  obtain ⟨Y, n1, e1, x1, hr⟩ : ∃ Y n1 e1 x1, bkR X now want = (Y, n1, e1, x1) := ⟨_, _, _, _, rfl⟩
  rw [hr] at b1 b2 b3 hYl hg
  simp only at b1 b2 b3 hYl hg
  rw [b1, b2, hg] at hr
  have hz2 : ¬ want ≤ now := by omega
  have C1 : Hid (∀ w' u, Holds w' u X → Calls Try.prog 9 #[u, .int .i64 now, .agg #[.int .i64 0, .int .i64 want, .int .i64 0, .int .i64 0, .int .i64 0, .int .i64 0, .int .i64 0, .int .i64 0, .int .i64 0]] w' fun e w'' => ∃ v', e = .returned (.tuple #[v', .int .i64 want, .agg #[.int .i64 0, .int .i64 want, .int .i64 0, .bool false, .int .i64 0, .int .i64 0]]) ∧ Mine w'.heap.size w'' v' Y ∧ Below w'.heap.size w' w'') := Lib.hid (fun w' u h => by
    have := move_c h (by omega) now ⟨0, want, 0, 0, 0, 0, 0, 0, 0⟩
    rw [hr] at this
    exact this)
  have C2 : Hid (∀ w' u, Holds w' u Y → Calls Try.prog 9 #[u, .int .i64 want, .agg #[.int .i64 0, .int .i64 now, .int .i64 0, .int .i64 0, .int .i64 0, .int .i64 0, .int .i64 0, .int .i64 0, .int .i64 0]] w' fun e w'' => ∃ v', e = .returned (.tuple #[v', .int .i64 now, .agg #[.int .i64 0, .int .i64 now, .int .i64 0, .bool false, .int .i64 0, .int .i64 0]]) ∧ Mine w'.heap.size w'' v' X ∧ Below w'.heap.size w' w'') := Lib.hid (fun w' u h => by
    have := move_c h (by omega) want ⟨0, now, 0, 0, 0, 0, 0, 0, 0⟩
    rw [b3] at this
    exact this)
  have CQ : Hid (∀ w' u u', Holds w' u X → Holds w' u' X → Calls Try.prog 11 #[u, u'] w' fun e w'' => e = .returned (.bool true) ∧ Below w'.heap.size w' w'') := Lib.hid (fun w' u u' h h' => same_c h h' rfl hX.1)
  clear hX hXl hr hg hlt b1 b2 b3 hYl
  obtain ⟨A, cc, rfl⟩ := hA.is
  clear hA
  generalize hn : l.length = n at *
  clear hn
  have hz : ¬ (30 : Int) < (n : Int) := by omega
  go_enter Try.func6, Try.ntmps6
  go_wp2_with fail
  refine (W0.out _).mono ?_
  rintro e w1 ⟨rfl, hb⟩
  have G := Lib.hid (G.out.still hb)
  have KL := Lib.hid (KL.out.still hb)
  clear hb
  go_wp2_with fail
  refine (CS.out _ _ KL.out).mono ?_
  rintro e w2 ⟨vx, rfl, hm, hb⟩
  have SZ := Lib.hid G.out.bel.size
  have G := Lib.hid (G.out.still hb)
  have KX := Lib.hid (hm.base SZ.out)
  clear hb hm CS KL SZ
  go_wp2_with fail
  refine (C1.out _ _ KX.out.holds).mono ?_
  rintro e w3 ⟨vKY, rfl, hm, hb⟩
  have SZ := Lib.hid G.out.bel.size
  have G := Lib.hid (G.out.still hb)
  have KX := Lib.hid (KX.out.still hb)
  have KY := Lib.hid (hm.base SZ.out)
  clear hb hm C1 SZ
  have BN := Lib.hid (below_new w3 (.cells #[.int .i64 0, .int .i64 want, .int .i64 0, .bool false, .int .i64 0, .int .i64 0] 28))
  have G := Lib.hid (G.out.add 28 #[.int .i64 0, .int .i64 want, .int .i64 0, .bool false, .int .i64 0, .int .i64 0])
  have KX := Lib.hid (KX.out.still BN.out)
  have KY := Lib.hid (KY.out.still BN.out)
  clear BN
  obtain ⟨a0, a1, a2, a3, a4, a5⟩ := row6 G.out.v0
  go_wp2_with fail
  refine (C2.out _ _ KY.out.holds).mono ?_
  rintro e w4 ⟨vKZ, rfl, hm, hb⟩
  have SZ := Lib.hid G.out.bel.size
  have G := Lib.hid (G.out.still hb)
  have KX := Lib.hid (KX.out.still hb)
  have KY := Lib.hid (KY.out.still hb)
  have KZ := Lib.hid (hm.base SZ.out)
  clear hb hm C2 SZ a0 a1 a2 a3 a4 a5
  have BN := Lib.hid (below_new w4 (.cells #[.int .i64 0, .int .i64 now, .int .i64 0, .bool false, .int .i64 0, .int .i64 0] 28))
  have G := Lib.hid (G.out.add 28 #[.int .i64 0, .int .i64 now, .int .i64 0, .bool false, .int .i64 0, .int .i64 0])
  have KX := Lib.hid (KX.out.still BN.out)
  have KY := Lib.hid (KY.out.still BN.out)
  have KZ := Lib.hid (KZ.out.still BN.out)
  clear BN
  obtain ⟨a0, a1, a2, a3, a4, a5⟩ := row6 G.out.v0
  go_wp2_with fail
  refine (CQ.out _ _ _ KX.out.holds KZ.out.holds).mono ?_
  rintro e w5 ⟨rfl, hb⟩
  have G := Lib.hid (G.out.still hb)
  have KX := Lib.hid (KX.out.still hb)
  have KY := Lib.hid (KY.out.still hb)
  have KZ := Lib.hid (KZ.out.still hb)
  clear hb
  go_wp2_with fail
  go_ret
  exact ⟨rfl, G.out.bel⟩

theorem back_any (l : List Ar) (v : Value) (now want : Int) (w : World) (hA : Holds w v l) :
    Calls Try.prog 6 #[v, .int .i64 now, .int .i64 want] w fun e w' => e = .returned (.bool true) ∧ Below w.heap.size w w' := by
  by_cases hl : l.length ≤ 30
  · by_cases hg : (bkR (someL l) now want).2.2.1 = 0 ∧ now < want
    · exact back_ok l v now want w hl hA hg
    · exact back_err l v now want w hl hA hg
  · obtain ⟨A, cc, rfl⟩ := hA.is
    exact back_many A l.length cc now want w (by omega)
end Go.Proofs.Ytmocdanfjoginaa
