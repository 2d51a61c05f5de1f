/-
  Layer 13: whatever break is asked for, list, break and answer are the reference's.
-/
import Derived.Test.YtmocdanfjoginaaPkBc
import Derived.Test.YtmocdanfjoginaaPkBd
namespace Go.Proofs.Ytmocdanfjoginaa
open Go.ChangeShapes Go.WideShapes Go.ChangeAt Go.RowKit Go.Shelf
set_option linter.unusedVariables false
attribute [local go_sem ↓] Go.wp_at_zero Go.wp_at_succ

set_option maxHeartbeats 2000000 in
theorem moves_many (A : Option Addr) (n cc : Nat) (now : Int) (c : Cl) (w : World) (hn : 30 < n) :
    Calls Try.prog 4 #[.slice A n cc, .int .i64 now, c.v] w fun e w' => e = .returned (.bool true) ∧ Below w.heap.size w w' := by
  have W0 := Lib.hid bk_awake
  have G := Lib.hid ((Bag.new w).add 33 c.cells)
  have hz : (30 : Int) < (n : Int) := by omega
  obtain ⟨ck, ca, cn, cnw, ctw, cp, cf, cb, co⟩ := c
  unfold Cl.v
  simp only [Cl.cells] at *
  go_enter Try.func4, Try.ntmps4
  go_wp2_with fail
  refine (W0.out _).mono ?_
  rintro e w1 ⟨rfl, hb⟩
  have G := Lib.hid (G.out.still hb)
  clear hb
  go_wp2_with fail
  refine (W0.out _).mono ?_
  rintro e w2 ⟨rfl, hb⟩
  have G := Lib.hid (G.out.still hb)
  clear hb
  go_wp2_with fail
  go_ret
  exact ⟨rfl, G.out.bel⟩

set_option maxRecDepth 4000 in
set_option maxHeartbeats 8000000 in
theorem moves_bad (l : List Ar) (v : Value) (now : Int) (c : Cl) (w : World) (hl : l.length ≤ 30) (hA : Holds w v l) (hg : ¬ bkIn now) :
    Calls Try.prog 4 #[v, .int .i64 now, c.v] w fun e w' => e = .returned (.bool true) ∧ Below w.heap.size w w' := by
  have W0 := Lib.hid bk_awake
  have G := Lib.hid ((Bag.new w).add 33 c.cells)
  have KL := Lib.hid (hA.still G.out.bel)
  have CS : Hid (∀ w' u, Holds w' u l → Calls Try.prog 10 #[u] w' fun e w'' => ∃ v', e = .returned v' ∧ Mine w'.heap.size w'' v' (someL l) ∧ Below w'.heap.size w' w'') := Lib.hid (fun w' u h => some_c h (by omega))
  have hX := someL_may l
  generalize someL l = X at *
  have hXl : X.length ≤ 10000 := by have := hX.2; omega
  obtain ⟨ck, ca, cn, cnw, ctw, cp, cf, cb, co⟩ := c
  simp only [Cl.cells] at *
  unfold Cl.v
  simp only [Cl.cells]
  have hr : bkR X now ca = (X, now, 1, 0) := by
    have he : bwE X now (bkTo now ca) = 1 := by rw [bwE_is, if_neg (fun k => hg k.2)]
    unfold bkR
    rw [bwE_ne (by rw [he]; decide), he, if_neg (by decide)]
  have C1 : Hid (∀ w' u, Holds w' u X → Calls Try.prog 9 #[u, .int .i64 now, .agg #[.int .i64 ck, .int .i64 ca, .int .i64 cn, .int .i64 cnw, .int .i64 ctw, .int .i64 cp, .int .i64 cf, .int .i64 cb, .int .i64 co]] w' fun e w'' => ∃ v', e = .returned (.tuple #[v', .int .i64 now, .agg #[.int .i64 1, .int .i64 0, .int .i64 0, .bool false, .int .i64 0, .int .i64 0]]) ∧ Mine w'.heap.size w'' v' X ∧ Below w'.heap.size w' w'') := Lib.hid (fun w' u h => by
    have := move_c h (by omega) now ⟨ck, ca, cn, cnw, ctw, cp, cf, cb, co⟩
    rw [hr] at this
    exact this)
  have CR := Lib.hid (bkRight_any now)
  have CN := Lib.hid (refBkRight_any now)
  rw [decide_eq_false hg] at CR CN
  have CQ : Hid (∀ w' u u', Holds w' u X → Holds w' u' X → Calls Try.prog 11 #[u, u'] w' fun e w'' => e = .returned (.bool true) ∧ Below w'.heap.size w' w'') := Lib.hid (fun w' u u' h h' => same_c h h' rfl hX.1)
  clear hX hXl hr hg
  obtain ⟨A, cc, rfl⟩ := hA.is
  clear hA
  generalize hn : l.length = n at *
  clear hn
  have hz : ¬ (30 : Int) < (n : Int) := by omega
  go_enter Try.func4, Try.ntmps4
  go_wp2_with fail
  refine (W0.out _).mono ?_
  rintro e w1 ⟨rfl, hb⟩
  have G := Lib.hid (G.out.still hb)
  have KL := Lib.hid (KL.out.still hb)
  clear hb
  go_wp2_with fail
  refine (CS.out _ _ KL.out).mono ?_
  rintro e w2 ⟨vx, rfl, hm, hb⟩
  have SZ := Lib.hid G.out.bel.size
  have G := Lib.hid (G.out.still hb)
  have KX := Lib.hid (hm.base SZ.out)
  clear hb hm CS KL SZ
  obtain ⟨c0, c1, c2, c3, c4, c5, c6, c7, c8⟩ := nine G.out.v0
  go_wp2_with fail
  refine (C1.out _ _ KX.out.holds).mono ?_
  rintro e w3 ⟨vKY, rfl, hm, hb⟩
  have SZ := Lib.hid G.out.bel.size
  have G := Lib.hid (G.out.still hb)
  have KX := Lib.hid (KX.out.still hb)
  have KY := Lib.hid (hm.base SZ.out)
  clear hb hm C1 SZ c0 c1 c2 c3 c4 c5 c6 c7 c8
  have BN := Lib.hid (below_new w3 (.cells #[.int .i64 1, .int .i64 0, .int .i64 0, .bool false, .int .i64 0, .int .i64 0] 28))
  have G := Lib.hid (G.out.add 28 #[.int .i64 1, .int .i64 0, .int .i64 0, .bool false, .int .i64 0, .int .i64 0])
  have KX := Lib.hid (KX.out.still BN.out)
  have KY := Lib.hid (KY.out.still BN.out)
  clear BN
  go_wp2_with fail
  refine (CN.out _).mono ?_
  rintro e w4 ⟨rfl, hb⟩
  have G := Lib.hid (G.out.still hb)
  have KX := Lib.hid (KX.out.still hb)
  have KY := Lib.hid (KY.out.still hb)
  clear hb CN
  obtain ⟨a0, a1, a2, a3, a4, a5⟩ := row6 G.out.v0
  go_wp2_with fail
  refine (CR.out _).mono ?_
  rintro e w5 ⟨rfl, hb⟩
  have G := Lib.hid (G.out.still hb)
  have KX := Lib.hid (KX.out.still hb)
  have KY := Lib.hid (KY.out.still hb)
  clear hb CR a0 a1 a2 a3 a4 a5
  obtain ⟨a0, a1, a2, a3, a4, a5⟩ := row6 G.out.v0
  go_wp2_with fail
  refine (CQ.out _ _ _ KX.out.holds KY.out.holds).mono ?_
  rintro e w6 ⟨rfl, hb⟩
  have G := Lib.hid (G.out.still hb)
  have KX := Lib.hid (KX.out.still hb)
  have KY := Lib.hid (KY.out.still hb)
  clear hb
  go_wp2_with fail
  go_ret
  exact ⟨rfl, G.out.bel⟩

set_option maxRecDepth 4000 in
set_option maxHeartbeats 8000000 in
theorem moves_ok (l : List Ar) (v : Value) (now : Int) (c : Cl) (w : World) (hl : l.length ≤ 30) (hA : Holds w v l) (hg : bkIn now) :
    Calls Try.prog 4 #[v, .int .i64 now, c.v] w fun e w' => e = .returned (.bool true) ∧ Below w.heap.size w w' := by
  have W0 := Lib.hid bk_awake
  have G := Lib.hid ((Bag.new w).add 33 c.cells)
  have KL := Lib.hid (hA.still G.out.bel)
  have CS : Hid (∀ w' u, Holds w' u l → Calls Try.prog 10 #[u] w' fun e w'' => ∃ v', e = .returned v' ∧ Mine w'.heap.size w'' v' (someL l) ∧ Below w'.heap.size w' w'') := Lib.hid (fun w' u h => some_c h (by omega))
  have hX := someL_may l
  generalize someL l = X at *
  have hXl : X.length ≤ 10000 := by have := hX.2; omega
  obtain ⟨ck, ca, cn, cnw, ctw, cp, cf, cb, co⟩ := c
  simp only [Cl.cells] at *
  unfold Cl.v
  simp only [Cl.cells]
  obtain ⟨Y, n1, e1, x1, hr⟩ : ∃ Y n1 e1 x1, bkR X now ca = (Y, n1, e1, x1) := ⟨_, _, _, _, rfl⟩
  have hY := bkR_right (now := now) (a := ca) hX.1
  rw [hr] at hY
  simp only at hY
  have C1 : Hid (∀ w' u, Holds w' u X → Calls Try.prog 9 #[u, .int .i64 now, .agg #[.int .i64 ck, .int .i64 ca, .int .i64 cn, .int .i64 cnw, .int .i64 ctw, .int .i64 cp, .int .i64 cf, .int .i64 cb, .int .i64 co]] w' fun e w'' => ∃ v', e = .returned (.tuple #[v', .int .i64 n1, .agg #[.int .i64 e1, .int .i64 x1, .int .i64 0, .bool false, .int .i64 0, .int .i64 0]]) ∧ Mine w'.heap.size w'' v' Y ∧ Below w'.heap.size w' w'') := Lib.hid (fun w' u h => by
    have := move_c h (by omega) now ⟨ck, ca, cn, cnw, ctw, cp, cf, cb, co⟩
    rw [hr] at this
    exact this)
  have C2 : Hid (∀ w' u, Holds w' u X → Calls Try.prog 14 #[u, .int .i64 now, .int .i64 ca] w' fun e w'' => ∃ v', e = .returned (.tuple #[v', .int .i64 n1, .agg #[.int .i64 e1, .int .i64 x1, .int .i64 0, .bool false, .int .i64 0, .int .i64 0]]) ∧ Holds w'' v' Y ∧ Below w'.heap.size w' w'') := Lib.hid (fun w' u h => by
    have := refMove_c h hX now ca hg
    rw [hr] at this
    exact this)
  have CR := Lib.hid (bkRight_any now)
  have CN := Lib.hid (refBkRight_any now)
  rw [decide_eq_true hg] at CR CN
  have CQ : Hid (∀ w' u u', Holds w' u Y → Holds w' u' Y → Calls Try.prog 11 #[u, u'] w' fun e w'' => e = .returned (.bool true) ∧ Below w'.heap.size w' w'') := Lib.hid (fun w' u u' h h' => same_c h h' rfl hY)
  clear hX hXl hr hg hY
  obtain ⟨A, cc, rfl⟩ := hA.is
  clear hA
  generalize hn : l.length = n at *
  clear hn
  have hz : ¬ (30 : Int) < (n : Int) := by omega
  go_enter Try.func4, Try.ntmps4
  go_wp2_with fail
  refine (W0.out _).mono ?_
  rintro e w1 ⟨rfl, hb⟩
  have G := Lib.hid (G.out.still hb)
  have KL := Lib.hid (KL.out.still hb)
  clear hb
  go_wp2_with fail
  refine (CS.out _ _ KL.out).mono ?_
  rintro e w2 ⟨vx, rfl, hm, hb⟩
  have SZ := Lib.hid G.out.bel.size
  have G := Lib.hid (G.out.still hb)
  have KX := Lib.hid (hm.base SZ.out)
  clear hb hm CS KL SZ
  obtain ⟨c0, c1, c2, c3, c4, c5, c6, c7, c8⟩ := nine G.out.v0
  go_wp2_with fail
  refine (C1.out _ _ KX.out.holds).mono ?_
  rintro e w3 ⟨vKY, rfl, hm, hb⟩
  have SZ := Lib.hid G.out.bel.size
  have G := Lib.hid (G.out.still hb)
  have KX := Lib.hid (KX.out.still hb)
  have KY := Lib.hid (hm.base SZ.out)
  clear hb hm C1 SZ c0 c1 c2 c3 c4 c5 c6 c7 c8
  have BN := Lib.hid (below_new w3 (.cells #[.int .i64 e1, .int .i64 x1, .int .i64 0, .bool false, .int .i64 0, .int .i64 0] 28))
  have G := Lib.hid (G.out.add 28 #[.int .i64 e1, .int .i64 x1, .int .i64 0, .bool false, .int .i64 0, .int .i64 0])
  have KX := Lib.hid (KX.out.still BN.out)
  have KY := Lib.hid (KY.out.still BN.out)
  clear BN
  go_wp2_with fail
  refine (CN.out _).mono ?_
  rintro e w4 ⟨rfl, hb⟩
  have G := Lib.hid (G.out.still hb)
  have KX := Lib.hid (KX.out.still hb)
  have KY := Lib.hid (KY.out.still hb)
  clear hb CN
  obtain ⟨c0, c1, c2, c3, c4, c5, c6, c7, c8⟩ := nine G.out.v1
  go_wp2_with fail
  refine (C2.out _ _ KX.out.holds).mono ?_
  rintro e w5 ⟨vKZ, rfl, hm, hb⟩
  have SZ := Lib.hid G.out.bel.size
  have G := Lib.hid (G.out.still hb)
  have KX := Lib.hid (KX.out.still hb)
  have KY := Lib.hid (KY.out.still hb)
  have KZ := Lib.hid (hm)
  clear hb hm C2 SZ c0 c1 c2 c3 c4 c5 c6 c7 c8
  have BN := Lib.hid (below_new w5 (.cells #[.int .i64 e1, .int .i64 x1, .int .i64 0, .bool false, .int .i64 0, .int .i64 0] 28))
  have G := Lib.hid (G.out.add 28 #[.int .i64 e1, .int .i64 x1, .int .i64 0, .bool false, .int .i64 0, .int .i64 0])
  have KX := Lib.hid (KX.out.still BN.out)
  have KY := Lib.hid (KY.out.still BN.out)
  have KZ := Lib.hid (KZ.out.still BN.out)
  clear BN
  go_wp2_with fail
  refine (CR.out _).mono ?_
  rintro e w6 ⟨rfl, hb⟩
  have G := Lib.hid (G.out.still hb)
  have KX := Lib.hid (KX.out.still hb)
  have KY := Lib.hid (KY.out.still hb)
  have KZ := Lib.hid (KZ.out.still hb)
  clear hb CR
  obtain ⟨a0, a1, a2, a3, a4, a5⟩ := row6 G.out.v0
  obtain ⟨b0, b1, b2, b3, b4, b5⟩ := row6 G.out.v1
  go_wp2_with fail
  refine (CQ.out _ _ _ KY.out.holds KZ.out).mono ?_
  rintro e w7 ⟨rfl, hb⟩
  have G := Lib.hid (G.out.still hb)
  have KX := Lib.hid (KX.out.still hb)
  have KY := Lib.hid (KY.out.still hb)
  have KZ := Lib.hid (KZ.out.still hb)
  clear hb
  go_wp2_with fail
  go_ret
  exact ⟨rfl, G.out.bel⟩

theorem moves_any (l : List Ar) (v : Value) (now : Int) (c : Cl) (w : World) (hA : Holds w v l) :
    Calls Try.prog 4 #[v, .int .i64 now, c.v] w fun e w' => e = .returned (.bool true) ∧ Below w.heap.size w w' := by
  by_cases hl : l.length ≤ 30
  · by_cases hg : bkIn now
    · exact moves_ok l v now c w hl hA hg
    · exact moves_bad l v now c w hl hA hg
  · obtain ⟨A, cc, rfl⟩ := hA.is
    exact moves_many A l.length cc now c w (by omega)
end Go.Proofs.Ytmocdanfjoginaa
