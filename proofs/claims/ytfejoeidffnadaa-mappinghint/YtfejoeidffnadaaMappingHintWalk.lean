/-
  Layer 10: an address that is free is taken as it is; one that isn't, is let go, as if none had been told.
-/
import Derived.Test.YtfejoeidffnadaaPkN
namespace Go.Proofs.Ytfejoeidffnadaa
open Go.ChangeShapes Go.WideShapes Go.ChangeAt Go.RowKit Go.Shelf
set_option linter.unusedVariables false
attribute [local go_sem ↓] Go.wp_at_zero Go.wp_at_succ

/-- What follows: without an address the answer is the same. -/
theorem hint_same {X : List Ar} (hX : MayL X) {c : Cl} (hf : c.f = 0) (he : (mapR X c).2.1 = 0) (hx : (mapR X c).2.2 ≠ c.a) : mapR X { c with a := 0 } = mapR X c := by
  have hw : wtE X c = 0 := by
    unfold mapR at he
    by_cases h : wtE X c = 0
    · exact h
    · rw [if_neg h] at he; exact absurd he h
  have hnf : ¬ FitsAt X c.a (szV c.n) := fun hft => by
    have hp : plE X c = (c.a, 0) := by
      unfold plE plR
      rw [if_pos hX, hf, bit_zero 1, if_neg (by simp), if_pos hft]
    unfold mapR at hx he
    rw [if_pos hw] at hx he
    by_cases hm : (putC X (wtA X c)).length ≤ 24
    · rw [if_pos hm] at hx
      apply hx
      unfold wtA
      rw [hp]
    · rw [if_neg hm] at he; simp at he
  have hp : plE X { c with a := 0 } = plE X c := by
    unfold plE
    rw [if_pos hX, if_pos hX]
    have key : ∀ a, ¬ FitsAt X a (szV c.n) → plR X a (szV c.n) 0 = (if (highOf (szV c.n) (roomsL 65536 2097152 (szV c.n) X)).2 then (highOf (szV c.n) (roomsL 65536 2097152 (szV c.n) X)).1 else 0, if (highOf (szV c.n) (roomsL 65536 2097152 (szV c.n) X)).2 then 0 else 5) := fun a h => by
      unfold plR
      rw [bit_zero 1, if_neg (by simp), if_neg h, bit_zero 8, if_neg (by simp)]
    simp only [hf]
    rw [key 0 (fun h => by have := fits_in h; omega), key c.a hnf]
  have h1 : wtE X { c with a := 0 } = wtE X c := by unfold wtE; rw [hp]
  have h2 : wtA X { c with a := 0 } = wtA X c := by unfold wtA; rw [hp]
  unfold mapR
  rw [h1, h2]

set_option maxHeartbeats 2000000 in
theorem hint_many (A : Option Addr) (n cc : Nat) (c : Cl) (w : World) (hn : 30 < n) :
    Calls Try.prog 4 #[.slice A n cc, c.v] w fun e w' => e = .returned (.bool true) ∧ Below w.heap.size w w' := by
  have W0 := Lib.hid map_awake
  have G := Lib.hid ((Bag.new w).add 24 c.cells)
  have hz : (30 : Int) < (n : Int) := by omega
  obtain ⟨ck, ca, cn, cnw, ctw, cp, cf, cb, co⟩ := c
  unfold Cl.v
  simp only [Cl.cells] at *
  go_enter Try.func4, Try.ntmps4
  go_wp2_with fail
  refine (W0.out _).mono ?_
  rintro e w1 ⟨rfl, hb⟩
  have G := Lib.hid (G.out.still hb)
  clear hb
  go_wp2_with fail
  refine (W0.out _).mono ?_
  rintro e w2 ⟨rfl, hb⟩
  have G := Lib.hid (G.out.still hb)
  clear hb
  go_wp2_with fail
  go_ret
  exact ⟨rfl, G.out.bel⟩

set_option maxRecDepth 4000 in
set_option maxHeartbeats 8000000 in
theorem hint_err (l : List Ar) (v : Value) (c : Cl) (ho : i64 c.o) (w : World) (hl : l.length ≤ 30) (hA : Holds w v l) (he : (mapR (someL l) { c with f := 0 }).2.1 ≠ 0) :
    Calls Try.prog 4 #[v, c.v] w fun e w' => e = .returned (.bool true) ∧ Below w.heap.size w w' := by
  have W0 := Lib.hid map_awake
  have G := Lib.hid ((Bag.new w).add 24 c.cells)
  have KL := Lib.hid (hA.still G.out.bel)
  have CS : Hid (∀ w' u, Holds w' u l → Calls Try.prog 10 #[u] w' fun e w'' => ∃ v', e = .returned v' ∧ Mine w'.heap.size w'' v' (someL l) ∧ Below w'.heap.size w' w'') := Lib.hid (fun w' u h => some_c h (by omega))
  have hX := someL_may l
  generalize someL l = X at *
  have hXl : X.length ≤ 10000 := by have := hX.2; omega
  obtain ⟨ck, ca, cn, cnw, ctw, cp, cf, cb, co⟩ := c
  simp only [Cl.cells] at *
  unfold Cl.v
  simp only [Cl.cells]
  obtain ⟨Y, e1, x1, hr⟩ : ∃ Y e1 x1, mapR X ⟨ck, ca, cn, cnw, ctw, cp, 0, cb, co⟩ = (Y, e1, x1) := ⟨_, _, _, rfl⟩
  have C1 : Hid (∀ w' u, Holds w' u X → Calls Try.prog 11 #[u, .agg #[.int .i64 ck, .int .i64 ca, .int .i64 cn, .int .i64 cnw, .int .i64 ctw, .int .i64 cp, .int .i64 0, .int .i64 cb, .int .i64 co]] w' fun e w'' => ∃ v', e = .returned (.tuple #[v', .agg #[.int .i64 e1, .int .i64 x1, .int .i64 0, .bool false, .int .i64 0, .int .i64 0]]) ∧ Mine w'.heap.size w'' v' Y ∧ Below w'.heap.size w' w'') := Lib.hid (fun w' u h => by
    have := map_c h hXl ⟨ck, ca, cn, cnw, ctw, cp, 0, cb, co⟩ ho
    rw [hr] at this
    exact this)
  rw [hr] at he
  simp only at he
  have he' : (e1 != 0) = true := by simpa using he
  clear hX hXl hr ho
  obtain ⟨A, cc, rfl⟩ := hA.is
  clear hA
  generalize hn : l.length = n at *
  clear hn
  have hz : ¬ (30 : Int) < (n : Int) := by omega
  go_enter Try.func4, Try.ntmps4
  go_wp2_with fail
  refine (W0.out _).mono ?_
  rintro e w1 ⟨rfl, hb⟩
  have G := Lib.hid (G.out.still hb)
  have KL := Lib.hid (KL.out.still hb)
  clear hb
  go_wp2_with fail
  refine (CS.out _ _ KL.out).mono ?_
  rintro e w2 ⟨vx, rfl, hm, hb⟩
  have SZ := Lib.hid G.out.bel.size
  have G := Lib.hid (G.out.still hb)
  have KX := Lib.hid (hm.base SZ.out)
  clear hb hm CS KL SZ
  obtain ⟨c0, c1, c2, c3, c4, c5, c6, c7, c8⟩ := nine G.out.v0
  have cz := G.out.v0.frozen 6
  have W0s := Lib.hid G.out.v0
  have G := Lib.hid (G.out.set0 6 (.int .i64 0) (by simp) (Nat.le_refl _))
  have KX := Lib.hid (KX.out.far W0s.out (by decide) 6 (.int .i64 0))
  clear W0s
  go_wp2_with fail
  refine (C1.out _ _ KX.out.holds).mono ?_
  rintro e w3 ⟨vKY, rfl, hm, hb⟩
  have SZ := Lib.hid G.out.bel.size
  have G := Lib.hid (G.out.still hb)
  have KX := Lib.hid (KX.out.still hb)
  have KY := Lib.hid (hm.base SZ.out)
  clear hb hm C1 SZ
  have BN := Lib.hid (below_new w3 (.cells #[.int .i64 e1, .int .i64 x1, .int .i64 0, .bool false, .int .i64 0, .int .i64 0] 31))
  have G := Lib.hid (G.out.add 31 #[.int .i64 e1, .int .i64 x1, .int .i64 0, .bool false, .int .i64 0, .int .i64 0])
  have KX := Lib.hid (KX.out.still BN.out)
  have KY := Lib.hid (KY.out.still BN.out)
  clear BN
  clear c0 c1 c2 c3 c4 c5 c6 c7 c8
  clear cz
  obtain ⟨c0, c1, c2, c3, c4, c5, c6, c7, c8⟩ := nine G.out.v1
  go_wp2_with fail
  go_ret
  exact ⟨rfl, G.out.bel⟩

set_option maxRecDepth 4000 in
set_option maxHeartbeats 8000000 in
theorem hint_at (l : List Ar) (v : Value) (c : Cl) (ho : i64 c.o) (w : World) (hl : l.length ≤ 30) (hA : Holds w v l) (he : (mapR (someL l) { c with f := 0 }).2.1 = 0) (hx : (mapR (someL l) { c with f := 0 }).2.2 = c.a) :
    Calls Try.prog 4 #[v, c.v] w fun e w' => e = .returned (.bool true) ∧ Below w.heap.size w w' := by
  have W0 := Lib.hid map_awake
  have G := Lib.hid ((Bag.new w).add 24 c.cells)
  have KL := Lib.hid (hA.still G.out.bel)
  have CS : Hid (∀ w' u, Holds w' u l → Calls Try.prog 10 #[u] w' fun e w'' => ∃ v', e = .returned v' ∧ Mine w'.heap.size w'' v' (someL l) ∧ Below w'.heap.size w' w'') := Lib.hid (fun w' u h => some_c h (by omega))
  have hX := someL_may l
  generalize someL l = X at *
  have hXl : X.length ≤ 10000 := by have := hX.2; omega
  obtain ⟨ck, ca, cn, cnw, ctw, cp, cf, cb, co⟩ := c
  simp only [Cl.cells] at *
  unfold Cl.v
  simp only [Cl.cells]
  obtain ⟨Y, e1, x1, hr⟩ : ∃ Y e1 x1, mapR X ⟨ck, ca, cn, cnw, ctw, cp, 0, cb, co⟩ = (Y, e1, x1) := ⟨_, _, _, rfl⟩
  have C1 : Hid (∀ w' u, Holds w' u X → Calls Try.prog 11 #[u, .agg #[.int .i64 ck, .int .i64 ca, .int .i64 cn, .int .i64 cnw, .int .i64 ctw, .int .i64 cp, .int .i64 0, .int .i64 cb, .int .i64 co]] w' fun e w'' => ∃ v', e = .returned (.tuple #[v', .agg #[.int .i64 e1, .int .i64 x1, .int .i64 0, .bool false, .int .i64 0, .int .i64 0]]) ∧ Mine w'.heap.size w'' v' Y ∧ Below w'.heap.size w' w'') := Lib.hid (fun w' u h => by
    have := map_c h hXl ⟨ck, ca, cn, cnw, ctw, cp, 0, cb, co⟩ ho
    rw [hr] at this
    exact this)
  rw [hr] at he hx
  simp only at he hx
  subst he hx
  clear hX hXl hr ho
  obtain ⟨A, cc, rfl⟩ := hA.is
  clear hA
  generalize hn : l.length = n at *
  clear hn
  have hz : ¬ (30 : Int) < (n : Int) := by omega
  go_enter Try.func4, Try.ntmps4
  go_wp2_with fail
  refine (W0.out _).mono ?_
  rintro e w1 ⟨rfl, hb⟩
  have G := Lib.hid (G.out.still hb)
  have KL := Lib.hid (KL.out.still hb)
  clear hb
  go_wp2_with fail
  refine (CS.out _ _ KL.out).mono ?_
  rintro e w2 ⟨vx, rfl, hm, hb⟩
  have SZ := Lib.hid G.out.bel.size
  have G := Lib.hid (G.out.still hb)
  have KX := Lib.hid (hm.base SZ.out)
  clear hb hm CS KL SZ
  obtain ⟨c0, c1, c2, c3, c4, c5, c6, c7, c8⟩ := nine G.out.v0
  have cz := G.out.v0.frozen 6
  have W0s := Lib.hid G.out.v0
  have G := Lib.hid (G.out.set0 6 (.int .i64 0) (by simp) (Nat.le_refl _))
  have KX := Lib.hid (KX.out.far W0s.out (by decide) 6 (.int .i64 0))
  clear W0s
  go_wp2_with fail
  refine (C1.out _ _ KX.out.holds).mono ?_
  rintro e w3 ⟨vKY, rfl, hm, hb⟩
  have SZ := Lib.hid G.out.bel.size
  have G := Lib.hid (G.out.still hb)
  have KX := Lib.hid (KX.out.still hb)
  have KY := Lib.hid (hm.base SZ.out)
  clear hb hm C1 SZ
  have BN := Lib.hid (below_new w3 (.cells #[.int .i64 0, .int .i64 x1, .int .i64 0, .bool false, .int .i64 0, .int .i64 0] 31))
  have G := Lib.hid (G.out.add 31 #[.int .i64 0, .int .i64 x1, .int .i64 0, .bool false, .int .i64 0, .int .i64 0])
  have KX := Lib.hid (KX.out.still BN.out)
  have KY := Lib.hid (KY.out.still BN.out)
  clear BN
  clear c0 c1 c2 c3 c4 c5 c6 c7 c8
  clear cz
  obtain ⟨c0, c1, c2, c3, c4, c5, c6, c7, c8⟩ := nine G.out.v1
  go_wp2_with fail
  go_ret
  exact ⟨rfl, G.out.bel⟩

set_option maxRecDepth 4000 in
set_option maxHeartbeats 8000000 in
theorem hint_go (l : List Ar) (v : Value) (c : Cl) (ho : i64 c.o) (w : World) (hl : l.length ≤ 30) (hA : Holds w v l) (he : (mapR (someL l) { c with f := 0 }).2.1 = 0) (hx : (mapR (someL l) { c with f := 0 }).2.2 ≠ c.a) :
    Calls Try.prog 4 #[v, c.v] w fun e w' => e = .returned (.bool true) ∧ Below w.heap.size w w' := by
  have W0 := Lib.hid map_awake
  have G := Lib.hid ((Bag.new w).add 24 c.cells)
  have KL := Lib.hid (hA.still G.out.bel)
  have CS : Hid (∀ w' u, Holds w' u l → Calls Try.prog 10 #[u] w' fun e w'' => ∃ v', e = .returned v' ∧ Mine w'.heap.size w'' v' (someL l) ∧ Below w'.heap.size w' w'') := Lib.hid (fun w' u h => some_c h (by omega))
  have hX := someL_may l
  generalize someL l = X at *
  have hXl : X.length ≤ 10000 := by have := hX.2; omega
  have hh := hint_same hX (c := { c with f := 0 }) rfl he hx
  obtain ⟨ck, ca, cn, cnw, ctw, cp, cf, cb, co⟩ := c
  simp only [Cl.cells] at *
  unfold Cl.v
  simp only [Cl.cells]
  obtain ⟨Y, e1, x1, hr⟩ : ∃ Y e1 x1, mapR X ⟨ck, ca, cn, cnw, ctw, cp, 0, cb, co⟩ = (Y, e1, x1) := ⟨_, _, _, rfl⟩
  have C1 : Hid (∀ w' u, Holds w' u X → Calls Try.prog 11 #[u, .agg #[.int .i64 ck, .int .i64 ca, .int .i64 cn, .int .i64 cnw, .int .i64 ctw, .int .i64 cp, .int .i64 0, .int .i64 cb, .int .i64 co]] w' fun e w'' => ∃ v', e = .returned (.tuple #[v', .agg #[.int .i64 e1, .int .i64 x1, .int .i64 0, .bool false, .int .i64 0, .int .i64 0]]) ∧ Mine w'.heap.size w'' v' Y ∧ Below w'.heap.size w' w'') := Lib.hid (fun w' u h => by
    have := map_c h hXl ⟨ck, ca, cn, cnw, ctw, cp, 0, cb, co⟩ ho
    rw [hr] at this
    exact this)
  have C2 : Hid (∀ w' u, Holds w' u X → Calls Try.prog 11 #[u, .agg #[.int .i64 ck, .int .i64 0, .int .i64 cn, .int .i64 cnw, .int .i64 ctw, .int .i64 cp, .int .i64 0, .int .i64 cb, .int .i64 co]] w' fun e w'' => ∃ v', e = .returned (.tuple #[v', .agg #[.int .i64 e1, .int .i64 x1, .int .i64 0, .bool false, .int .i64 0, .int .i64 0]]) ∧ Mine w'.heap.size w'' v' Y ∧ Below w'.heap.size w' w'') := Lib.hid (fun w' u h => by
    have := map_c h hXl ⟨ck, 0, cn, cnw, ctw, cp, 0, cb, co⟩ ho
    rw [hh, hr] at this
    exact this)
  have CQ : Hid (∀ w' u u', Holds w' u Y → Holds w' u' Y → Calls Try.prog 12 #[u, u'] w' fun e w'' => e = .returned (.bool true) ∧ Below w'.heap.size w' w'') := Lib.hid (fun w' u u' h h' => same_c h h' rfl (by
    have := mapR_right hX (c := ⟨ck, ca, cn, cnw, ctw, cp, 0, cb, co⟩)
    rwa [hr] at this))
  rw [hr] at he hx
  simp only at he hx
  subst he
  have hx2 : (x1 == ca) = false := by simpa using hx
  clear hX hXl hr ho hh
  obtain ⟨A, cc, rfl⟩ := hA.is
  clear hA
  generalize hn : l.length = n at *
  clear hn
  have hz : ¬ (30 : Int) < (n : Int) := by omega
  go_enter Try.func4, Try.ntmps4
  go_wp2_with fail
  refine (W0.out _).mono ?_
  rintro e w1 ⟨rfl, hb⟩
  have G := Lib.hid (G.out.still hb)
  have KL := Lib.hid (KL.out.still hb)
  clear hb
  go_wp2_with fail
  refine (CS.out _ _ KL.out).mono ?_
  rintro e w2 ⟨vx, rfl, hm, hb⟩
  have SZ := Lib.hid G.out.bel.size
  have G := Lib.hid (G.out.still hb)
  have KX := Lib.hid (hm.base SZ.out)
  clear hb hm CS KL SZ
  obtain ⟨c0, c1, c2, c3, c4, c5, c6, c7, c8⟩ := nine G.out.v0
  have cz := G.out.v0.frozen 6
  have W0s := Lib.hid G.out.v0
  have G := Lib.hid (G.out.set0 6 (.int .i64 0) (by simp) (Nat.le_refl _))
  have KX := Lib.hid (KX.out.far W0s.out (by decide) 6 (.int .i64 0))
  clear W0s
  go_wp2_with fail
  refine (C1.out _ _ KX.out.holds).mono ?_
  rintro e w3 ⟨vKY, rfl, hm, hb⟩
  have SZ := Lib.hid G.out.bel.size
  have G := Lib.hid (G.out.still hb)
  have KX := Lib.hid (KX.out.still hb)
  have KY := Lib.hid (hm.base SZ.out)
  clear hb hm C1 SZ
  have BN := Lib.hid (below_new w3 (.cells #[.int .i64 0, .int .i64 x1, .int .i64 0, .bool false, .int .i64 0, .int .i64 0] 31))
  have G := Lib.hid (G.out.add 31 #[.int .i64 0, .int .i64 x1, .int .i64 0, .bool false, .int .i64 0, .int .i64 0])
  have KX := Lib.hid (KX.out.still BN.out)
  have KY := Lib.hid (KY.out.still BN.out)
  clear BN
  clear c0 c1 c2 c3 c4 c5 c6 c7 c8
  clear cz
  obtain ⟨c0, c1, c2, c3, c4, c5, c6, c7, c8⟩ := nine G.out.v1
  have cz := G.out.v1.frozen 1
  have W0s := Lib.hid G.out.v1
  have hne : w3.heap.size ≠ w.heap.size := G.out.v0.apart W0s.out (by decide)
  have G := Lib.hid (G.out.set1 1 (.int .i64 0) hne (by simp) (Nat.le_refl _))
  have KX := Lib.hid (KX.out.far W0s.out (by decide) 1 (.int .i64 0))
  have KY := Lib.hid (KY.out.far W0s.out (by decide) 1 (.int .i64 0))
  clear W0s hne
  go_wp2_with fail
  refine (C2.out _ _ KX.out.holds).mono ?_
  rintro e w4 ⟨vKZ, rfl, hm, hb⟩
  have SZ := Lib.hid G.out.bel.size
  have G := Lib.hid (G.out.still hb)
  have KX := Lib.hid (KX.out.still hb)
  have KY := Lib.hid (KY.out.still hb)
  have KZ := Lib.hid (hm.base SZ.out)
  clear hb hm C2 SZ
  have BN := Lib.hid (below_new w4 (.cells #[.int .i64 0, .int .i64 x1, .int .i64 0, .bool false, .int .i64 0, .int .i64 0] 31))
  have G := Lib.hid (G.out.add 31 #[.int .i64 0, .int .i64 x1, .int .i64 0, .bool false, .int .i64 0, .int .i64 0])
  have KX := Lib.hid (KX.out.still BN.out)
  have KY := Lib.hid (KY.out.still BN.out)
  have KZ := Lib.hid (KZ.out.still BN.out)
  clear BN
  clear c0 c1 c2 c3 c4 c5 c6 c7 c8
  clear cz
  obtain ⟨a0, a1, a2, a3, a4, a5⟩ := row6 G.out.v1
  go_wp2_with fail
  refine (CQ.out _ _ _ KY.out.holds KZ.out.holds).mono ?_
  rintro e w5 ⟨rfl, hb⟩
  have G := Lib.hid (G.out.still hb)
  have KX := Lib.hid (KX.out.still hb)
  have KY := Lib.hid (KY.out.still hb)
  have KZ := Lib.hid (KZ.out.still hb)
  clear hb
  go_wp2_with fail
  go_ret
  exact ⟨rfl, G.out.bel⟩

theorem hint_any (l : List Ar) (v : Value) (c : Cl) (ho : i64 c.o) (w : World) (hA : Holds w v l) :
    Calls Try.prog 4 #[v, c.v] w fun e w' => e = .returned (.bool true) ∧ Below w.heap.size w w' := by
  by_cases hl : l.length ≤ 30
  · by_cases he : (mapR (someL l) { c with f := 0 }).2.1 = 0
    · by_cases hx : (mapR (someL l) { c with f := 0 }).2.2 = c.a
      · exact hint_at l v c ho w hl hA he hx
      · exact hint_go l v c ho w hl hA he hx
    · exact hint_err l v c ho w hl hA he
  · obtain ⟨A, cc, rfl⟩ := hA.is
    exact hint_many A l.length cc c w (by omega)
end Go.Proofs.Ytfejoeidffnadaa
