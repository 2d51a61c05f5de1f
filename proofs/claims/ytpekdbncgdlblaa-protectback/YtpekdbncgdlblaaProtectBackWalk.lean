/-
  Layer 11: protected otherwise, and again as it was, a list is as it was.
-/
import Derived.Test.YtpekdbncgdlblaaPkPd
namespace Go.Proofs.Ytpekdbncgdlblaa
open Go.ChangeShapes Go.WideShapes Go.ChangeAt Go.RowKit Go.Shelf
set_option linter.unusedVariables false
attribute [local go_sem ↓] Go.wp_at_zero Go.wp_at_succ

set_option maxRecDepth 4000 in
set_option maxHeartbeats 8000000 in
theorem back_many (A : Option Addr) (n cc : Nat) (at' pr : Int) (w : World) (hn : 30 < n) :
    Calls Try.prog 8 #[.slice A n cc, .int .u8 at', .int .i64 pr] w fun e w' => e = .returned (.bool true) ∧ Below w.heap.size w w' := by
  have W0 := Lib.hid prot_awake
  have G := Lib.hid (Bag.new w)
  have hz : (30 : Int) < (n : Int) := by omega
  go_enter Try.func8, Try.ntmps8
  go_wp2_with fail
  refine (W0.out _).mono ?_
  rintro e w1 ⟨rfl, hb⟩
  have G := Lib.hid (G.out.still hb)
  clear hb
  go_wp2_with fail
  refine (W0.out _).mono ?_
  rintro e w2 ⟨rfl, hb⟩
  have G := Lib.hid (G.out.still hb)
  clear hb
  go_wp2_with fail
  go_ret
  exact ⟨rfl, G.out.bel⟩

set_option maxRecDepth 4000 in
set_option maxHeartbeats 8000000 in
theorem back_none (l : List Ar) (v : Value) (at' pr : Int) (w : World) (hl : l.length ≤ 30) (hA : Holds w v l) (hX : someL l = []) :
    Calls Try.prog 8 #[v, .int .u8 at', .int .i64 pr] w fun e w' => e = .returned (.bool true) ∧ Below w.heap.size w w' := by
  have W0 := Lib.hid prot_awake
  have G := Lib.hid (Bag.new w)
  have KL := hA
  have KL := Lib.hid KL
  have CS : Hid (∀ w' u, Holds w' u l → Calls Try.prog 10 #[u] w' fun e w'' => ∃ v', e = .returned v' ∧ Mine w'.heap.size w'' v' (someL l) ∧ Below w'.heap.size w' w'') := Lib.hid (fun w' u h => some_c h (by omega))
  rw [hX] at CS
  obtain ⟨A, cc, rfl⟩ := hA.is
  clear hA
  generalize hn : l.length = n at *
  clear hn
  have hz : ¬ (30 : Int) < (n : Int) := by omega
  go_enter Try.func8, Try.ntmps8
  go_wp2_with fail
  refine (W0.out _).mono ?_
  rintro e w1 ⟨rfl, hb⟩
  have G := Lib.hid (G.out.still hb)
  have KL := Lib.hid (KL.out.still hb)
  clear hb
  go_wp2_with fail
  refine (CS.out _ _ KL.out).mono ?_
  rintro e w2 ⟨vx, rfl, hm, hb⟩
  have SZ := Lib.hid G.out.bel.size
  have G := Lib.hid (G.out.still hb)
  have KX := Lib.hid (hm.base SZ.out)
  clear hb hm CS KL SZ
  obtain ⟨A1, c1, rfl⟩ := KX.out.is
  simp only [List.length_nil] at *
  go_wp2_with fail
  go_ret
  exact ⟨rfl, G.out.bel⟩

set_option maxRecDepth 4000 in
set_option maxHeartbeats 8000000 in
theorem back_low (l : List Ar) (v : Value) (at' pr : Int) (h0 : 0 ≤ at') (h1 : at' ≤ 255) (w : World) (hl : l.length ≤ 30) (hA : Holds w v l) (hne : someL l ≠ []) (h2 : pr < 0) :
    Calls Try.prog 8 #[v, .int .u8 at', .int .i64 pr] w fun e w' => e = .returned (.bool true) ∧ Below w.heap.size w w' := by
  have W0 := Lib.hid prot_awake
  have G := Lib.hid (Bag.new w)
  have KL := hA
  have KL := Lib.hid KL
  have CS : Hid (∀ w' u, Holds w' u l → Calls Try.prog 10 #[u] w' fun e w'' => ∃ v', e = .returned v' ∧ Mine w'.heap.size w'' v' (someL l) ∧ Below w'.heap.size w' w'') := Lib.hid (fun w' u h => some_c h (by omega))
  have hX := someL_may l
  generalize someL l = X at *
  have hm0 : 0 < X.length := List.length_pos_iff.2 hne
  obtain ⟨i, hi⟩ : ∃ i : Nat, at'.tmod (X.length : Int) = (i : Int) := ⟨(at'.tmod (X.length : Int)).toNat, by rw [Int.tmod_eq_emod_of_nonneg h0]; have := Int.emod_nonneg at' (b := (X.length : Int)) (by omega); omega⟩
  have hil : i < X.length := by rw [Int.tmod_eq_emod_of_nonneg h0] at hi; have := Int.emod_lt_of_pos at' (b := (X.length : Int)) (by omega); omega
  have hin : X[i] ∈ X := List.getElem_mem hil
  have hfa := formed_num (right_formed hX.1 _ hin)
  have hXl : X.length ≤ 10000 := by have := hX.2; omega
  have KA : Hid (∀ W B, Mine w.heap.size W B X → ∃ b off cap, B = .slice (some ⟨b, off, none⟩) X.length cap ∧ b < W.heap.size ∧ ∀ W', Below W.heap.size W W' → AreaAt W' b (off + i * 6) X[i]) := Lib.hid (fun W B h => by
    obtain ⟨A, c, rfl, hc, hA⟩ := h.holds
    rcases hA with hnl | ⟨b, off, rfl, hb, hcs⟩
    · exact absurd hnl hne
    · exact ⟨b, off, c, rfl, hb, fun W' hB => (hcs i hil).below hB hb⟩)
  have hr : prtR X ⟨0, X[i].s, X[i].e - X[i].s, 0, 0, pr, 0, 0, 0⟩ = (X, 1) := by
    obtain ⟨m0, m1, e1, e2, hl, hlt, hh⟩ := area_pgs hX.1 hin
    exact Pgs.bad (m0 := m0) (m1 := m1) ⟨e1, by simp only; omega, hl, hlt, hh⟩ hX (by simp only; omega)
  have C1 := Lib.hid (fun w' u (h : Holds w' u X) => protect_c h hXl ⟨0, X[i].s, X[i].e - X[i].s, 0, 0, pr, 0, 0, 0⟩)
  rw [hr] at C1
  have CQ : Hid (∀ w' u u', Holds w' u X → Holds w' u' X → Calls Try.prog 12 #[u, u'] w' fun e w'' => e = .returned (.bool true) ∧ Below w'.heap.size w' w'') := Lib.hid (fun w' u u' h h' => same_c h h' rfl hX.1)
  obtain ⟨n0, hn0⟩ : ∃ n0, X[i].e - X[i].s = n0 := ⟨_, rfl⟩
  rw [hn0] at C1
  clear hr hX hXl hne hin
  generalize X[i] = a at *
  obtain ⟨s0, e0, q0, sh0, b0, o0⟩ := a
  simp only at hn0 hfa
  obtain ⟨k1, k2, k3, _⟩ := hfa
  have hn1 : 4096 ≤ n0 ∧ n0 ≤ 2031616 := by omega
  generalize hm : X.length = m at *
  clear hm
  have hz1 : ¬ (m : Int) = 0 := by omega
  have hz2 : ((m : Int) == 0) = false := by simpa using hz1
  have hz3 : (i : Int) < (m : Int) := by omega
  have hz4 : (0 : Int) ≤ (i : Int) := by omega
  have hz5 : ¬ (m : Int) = -1 := by omega
  unfold Cl.v Cl.cells Gives ansV ansC at C1
  simp only at C1
  obtain ⟨A, cc, rfl⟩ := hA.is
  clear hA
  generalize hn : l.length = n at *
  clear hn
  have hz : ¬ (30 : Int) < (n : Int) := by omega
  go_enter Try.func8, Try.ntmps8
  go_wp2_with fail
  refine (W0.out _).mono ?_
  rintro e w1 ⟨rfl, hb⟩
  have G := Lib.hid (G.out.still hb)
  have KL := Lib.hid (KL.out.still hb)
  clear hb
  go_wp2_with fail
  refine (CS.out _ _ KL.out).mono ?_
  rintro e w2 ⟨vx, rfl, hm, hb⟩
  have SZ := Lib.hid G.out.bel.size
  have G := Lib.hid (G.out.still hb)
  have KX := Lib.hid (hm.base SZ.out)
  clear hb hm CS KL SZ
  obtain ⟨b, off, cap, rfl, hbl, HAT⟩ := KA.out _ _ KX.out
  clear KA
  obtain ⟨c0, c1, c2, c3, c4, c5⟩ := HAT _ (Below.refl _ _)
  simp only at c0 c1 c2 c3 c4 c5
  have BN := Lib.hid (below_new w2 (.cells #[.int .i64 s0, .int .i64 e0, .int .i64 q0, .bool sh0, .int .i64 b0, .int .i64 o0] 42))
  have G := Lib.hid (G.out.add 42 #[.int .i64 s0, .int .i64 e0, .int .i64 q0, .bool sh0, .int .i64 b0, .int .i64 o0])
  have KX := Lib.hid (KX.out.still BN.out)
  clear BN HAT
  go_upto_region 7 with (fail)
  clear c0 c1 c2 c3 c4 c5
  generalize hw : World.alloc w2 _ = w3 at *
  clear hw
  generalize w2.heap.size = qa at *
  obtain ⟨g0, g1, g2, g3, g4, g5⟩ := row6 G.out.v0
  go_wp2_with fail
  refine (C1.out _ _ KX.out.holds).mono ?_
  rintro e w4 ⟨vKY, rfl, hm, hb⟩
  have SZ := Lib.hid G.out.bel.size
  have G := Lib.hid (G.out.still hb)
  have KX := Lib.hid (KX.out.still hb)
  have KY := Lib.hid (hm.base SZ.out)
  clear hb hm C1 SZ
  have BN := Lib.hid (below_new w4 (.cells #[.int .i64 1, .int .i64 0, .int .i64 0, .bool false, .int .i64 0, .int .i64 0] 30))
  have G := Lib.hid (G.out.add 30 #[.int .i64 1, .int .i64 0, .int .i64 0, .bool false, .int .i64 0, .int .i64 0])
  have KX := Lib.hid (KX.out.still BN.out)
  have KY := Lib.hid (KY.out.still BN.out)
  clear BN
  clear g0 g1 g2 g3 g4 g5
  obtain ⟨g0, g1, g2, g3, g4, g5⟩ := row6 G.out.v1
  obtain ⟨d0, d1, d2, d3, d4, d5⟩ := row6 G.out.v0
  go_wp2_with fail
  refine (CQ.out _ _ _ KX.out.holds KY.out.holds).mono ?_
  rintro e w5 ⟨rfl, hb⟩
  have G := Lib.hid (G.out.still hb)
  have KX := Lib.hid (KX.out.still hb)
  have KY := Lib.hid (KY.out.still hb)
  clear hb
  go_wp2_with fail
  go_ret
  exact ⟨rfl, G.out.bel⟩

set_option maxRecDepth 4000 in
set_option maxHeartbeats 8000000 in
theorem back_high (l : List Ar) (v : Value) (at' pr : Int) (h0 : 0 ≤ at') (h1 : at' ≤ 255) (w : World) (hl : l.length ≤ 30) (hA : Holds w v l) (hne : someL l ≠ []) (h2 : 0 ≤ pr) (h3 : 7 < pr) :
    Calls Try.prog 8 #[v, .int .u8 at', .int .i64 pr] w fun e w' => e = .returned (.bool true) ∧ Below w.heap.size w w' := by
  have W0 := Lib.hid prot_awake
  have G := Lib.hid (Bag.new w)
  have KL := hA
  have KL := Lib.hid KL
  have CS : Hid (∀ w' u, Holds w' u l → Calls Try.prog 10 #[u] w' fun e w'' => ∃ v', e = .returned v' ∧ Mine w'.heap.size w'' v' (someL l) ∧ Below w'.heap.size w' w'') := Lib.hid (fun w' u h => some_c h (by omega))
  have hX := someL_may l
  generalize someL l = X at *
  have hm0 : 0 < X.length := List.length_pos_iff.2 hne
  obtain ⟨i, hi⟩ : ∃ i : Nat, at'.tmod (X.length : Int) = (i : Int) := ⟨(at'.tmod (X.length : Int)).toNat, by rw [Int.tmod_eq_emod_of_nonneg h0]; have := Int.emod_nonneg at' (b := (X.length : Int)) (by omega); omega⟩
  have hil : i < X.length := by rw [Int.tmod_eq_emod_of_nonneg h0] at hi; have := Int.emod_lt_of_pos at' (b := (X.length : Int)) (by omega); omega
  have hin : X[i] ∈ X := List.getElem_mem hil
  have hfa := formed_num (right_formed hX.1 _ hin)
  have hXl : X.length ≤ 10000 := by have := hX.2; omega
  have KA : Hid (∀ W B, Mine w.heap.size W B X → ∃ b off cap, B = .slice (some ⟨b, off, none⟩) X.length cap ∧ b < W.heap.size ∧ ∀ W', Below W.heap.size W W' → AreaAt W' b (off + i * 6) X[i]) := Lib.hid (fun W B h => by
    obtain ⟨A, c, rfl, hc, hA⟩ := h.holds
    rcases hA with hnl | ⟨b, off, rfl, hb, hcs⟩
    · exact absurd hnl hne
    · exact ⟨b, off, c, rfl, hb, fun W' hB => (hcs i hil).below hB hb⟩)
  have hr : prtR X ⟨0, X[i].s, X[i].e - X[i].s, 0, 0, pr, 0, 0, 0⟩ = (X, 1) := by
    obtain ⟨m0, m1, e1, e2, hl, hlt, hh⟩ := area_pgs hX.1 hin
    exact Pgs.bad (m0 := m0) (m1 := m1) ⟨e1, by simp only; omega, hl, hlt, hh⟩ hX (by simp only; omega)
  have C1 := Lib.hid (fun w' u (h : Holds w' u X) => protect_c h hXl ⟨0, X[i].s, X[i].e - X[i].s, 0, 0, pr, 0, 0, 0⟩)
  rw [hr] at C1
  have CQ : Hid (∀ w' u u', Holds w' u X → Holds w' u' X → Calls Try.prog 12 #[u, u'] w' fun e w'' => e = .returned (.bool true) ∧ Below w'.heap.size w' w'') := Lib.hid (fun w' u u' h h' => same_c h h' rfl hX.1)
  obtain ⟨n0, hn0⟩ : ∃ n0, X[i].e - X[i].s = n0 := ⟨_, rfl⟩
  rw [hn0] at C1
  clear hr hX hXl hne hin
  generalize X[i] = a at *
  obtain ⟨s0, e0, q0, sh0, b0, o0⟩ := a
  simp only at hn0 hfa
  obtain ⟨k1, k2, k3, _⟩ := hfa
  have hn1 : 4096 ≤ n0 ∧ n0 ≤ 2031616 := by omega
  generalize hm : X.length = m at *
  clear hm
  have hz1 : ¬ (m : Int) = 0 := by omega
  have hz2 : ((m : Int) == 0) = false := by simpa using hz1
  have hz3 : (i : Int) < (m : Int) := by omega
  have hz4 : (0 : Int) ≤ (i : Int) := by omega
  have hz5 : ¬ (m : Int) = -1 := by omega
  unfold Cl.v Cl.cells Gives ansV ansC at C1
  simp only at C1
  obtain ⟨A, cc, rfl⟩ := hA.is
  clear hA
  generalize hn : l.length = n at *
  clear hn
  have hz : ¬ (30 : Int) < (n : Int) := by omega
  go_enter Try.func8, Try.ntmps8
  go_wp2_with fail
  refine (W0.out _).mono ?_
  rintro e w1 ⟨rfl, hb⟩
  have G := Lib.hid (G.out.still hb)
  have KL := Lib.hid (KL.out.still hb)
  clear hb
  go_wp2_with fail
  refine (CS.out _ _ KL.out).mono ?_
  rintro e w2 ⟨vx, rfl, hm, hb⟩
  have SZ := Lib.hid G.out.bel.size
  have G := Lib.hid (G.out.still hb)
  have KX := Lib.hid (hm.base SZ.out)
  clear hb hm CS KL SZ
  obtain ⟨b, off, cap, rfl, hbl, HAT⟩ := KA.out _ _ KX.out
  clear KA
  obtain ⟨c0, c1, c2, c3, c4, c5⟩ := HAT _ (Below.refl _ _)
  simp only at c0 c1 c2 c3 c4 c5
  have BN := Lib.hid (below_new w2 (.cells #[.int .i64 s0, .int .i64 e0, .int .i64 q0, .bool sh0, .int .i64 b0, .int .i64 o0] 42))
  have G := Lib.hid (G.out.add 42 #[.int .i64 s0, .int .i64 e0, .int .i64 q0, .bool sh0, .int .i64 b0, .int .i64 o0])
  have KX := Lib.hid (KX.out.still BN.out)
  clear BN HAT
  go_upto_region 7 with (fail)
  clear c0 c1 c2 c3 c4 c5
  generalize hw : World.alloc w2 _ = w3 at *
  clear hw
  generalize w2.heap.size = qa at *
  obtain ⟨g0, g1, g2, g3, g4, g5⟩ := row6 G.out.v0
  go_wp2_with fail
  refine (C1.out _ _ KX.out.holds).mono ?_
  rintro e w4 ⟨vKY, rfl, hm, hb⟩
  have SZ := Lib.hid G.out.bel.size
  have G := Lib.hid (G.out.still hb)
  have KX := Lib.hid (KX.out.still hb)
  have KY := Lib.hid (hm.base SZ.out)
  clear hb hm C1 SZ
  have BN := Lib.hid (below_new w4 (.cells #[.int .i64 1, .int .i64 0, .int .i64 0, .bool false, .int .i64 0, .int .i64 0] 30))
  have G := Lib.hid (G.out.add 30 #[.int .i64 1, .int .i64 0, .int .i64 0, .bool false, .int .i64 0, .int .i64 0])
  have KX := Lib.hid (KX.out.still BN.out)
  have KY := Lib.hid (KY.out.still BN.out)
  clear BN
  clear g0 g1 g2 g3 g4 g5
  obtain ⟨g0, g1, g2, g3, g4, g5⟩ := row6 G.out.v1
  obtain ⟨d0, d1, d2, d3, d4, d5⟩ := row6 G.out.v0
  go_wp2_with fail
  refine (CQ.out _ _ _ KX.out.holds KY.out.holds).mono ?_
  rintro e w5 ⟨rfl, hb⟩
  have G := Lib.hid (G.out.still hb)
  have KX := Lib.hid (KX.out.still hb)
  have KY := Lib.hid (KY.out.still hb)
  clear hb
  go_wp2_with fail
  go_ret
  exact ⟨rfl, G.out.bel⟩

set_option maxRecDepth 4000 in
set_option maxHeartbeats 8000000 in
theorem back_ok (l : List Ar) (v : Value) (at' pr : Int) (h0 : 0 ≤ at') (h1 : at' ≤ 255) (w : World) (hl : l.length ≤ 30) (hA : Holds w v l) (hne : someL l ≠ []) (h2 : 0 ≤ pr) (h3 : pr ≤ 7) :
    Calls Try.prog 8 #[v, .int .u8 at', .int .i64 pr] w fun e w' => e = .returned (.bool true) ∧ Below w.heap.size w w' := by
  have W0 := Lib.hid prot_awake
  have G := Lib.hid (Bag.new w)
  have KL := hA
  have KL := Lib.hid KL
  have CS : Hid (∀ w' u, Holds w' u l → Calls Try.prog 10 #[u] w' fun e w'' => ∃ v', e = .returned v' ∧ Mine w'.heap.size w'' v' (someL l) ∧ Below w'.heap.size w' w'') := Lib.hid (fun w' u h => some_c h (by omega))
  have hX := someL_may l
  generalize someL l = X at *
  have hm0 : 0 < X.length := List.length_pos_iff.2 hne
  obtain ⟨i, hi⟩ : ∃ i : Nat, at'.tmod (X.length : Int) = (i : Int) := ⟨(at'.tmod (X.length : Int)).toNat, by rw [Int.tmod_eq_emod_of_nonneg h0]; have := Int.emod_nonneg at' (b := (X.length : Int)) (by omega); omega⟩
  have hil : i < X.length := by rw [Int.tmod_eq_emod_of_nonneg h0] at hi; have := Int.emod_lt_of_pos at' (b := (X.length : Int)) (by omega); omega
  have hin : X[i] ∈ X := List.getElem_mem hil
  have hfa := formed_num (right_formed hX.1 _ hin)
  have hXl : X.length ≤ 10000 := by have := hX.2; omega
  have KA : Hid (∀ W B, Mine w.heap.size W B X → ∃ b off cap, B = .slice (some ⟨b, off, none⟩) X.length cap ∧ b < W.heap.size ∧ ∀ W', Below W.heap.size W W' → AreaAt W' b (off + i * 6) X[i]) := Lib.hid (fun W B h => by
    obtain ⟨A, c, rfl, hc, hA⟩ := h.holds
    rcases hA with hnl | ⟨b, off, rfl, hb, hcs⟩
    · exact absurd hnl hne
    · exact ⟨b, off, c, rfl, hb, fun W' hB => (hcs i hil).below hB hb⟩)
  obtain ⟨Y, hY, hr, hr2⟩ := back_is hX hin h2 h3
  have hYl : Y.length ≤ 10000 := by have := hY.2; omega
  have C1 := Lib.hid (fun w' u (h : Holds w' u X) => protect_c h hXl ⟨0, X[i].s, X[i].e - X[i].s, 0, 0, pr, 0, 0, 0⟩)
  rw [hr] at C1
  have C2 := Lib.hid (fun w' u (h : Holds w' u Y) => protect_c h hYl ⟨0, X[i].s, X[i].e - X[i].s, 0, 0, X[i].p, 0, 0, 0⟩)
  rw [hr2] at C2
  have CQ : Hid (∀ w' u u', Holds w' u X → Holds w' u' X → Calls Try.prog 12 #[u, u'] w' fun e w'' => e = .returned (.bool true) ∧ Below w'.heap.size w' w'') := Lib.hid (fun w' u u' h h' => same_c h h' rfl hX.1)
  obtain ⟨n0, hn0⟩ : ∃ n0, X[i].e - X[i].s = n0 := ⟨_, rfl⟩
  rw [hn0] at C1 C2
  clear hr hX hXl hne hin hr2 hY hYl
  generalize X[i] = a at *
  obtain ⟨s0, e0, q0, sh0, b0, o0⟩ := a
  simp only at hn0 hfa
  obtain ⟨k1, k2, k3, _⟩ := hfa
  have hn1 : 4096 ≤ n0 ∧ n0 ≤ 2031616 := by omega
  generalize hm : X.length = m at *
  clear hm
  have hz1 : ¬ (m : Int) = 0 := by omega
  have hz2 : ((m : Int) == 0) = false := by simpa using hz1
  have hz3 : (i : Int) < (m : Int) := by omega
  have hz4 : (0 : Int) ≤ (i : Int) := by omega
  have hz5 : ¬ (m : Int) = -1 := by omega
  unfold Cl.v Cl.cells Gives ansV ansC at C1 C2
  simp only at C1 C2
  obtain ⟨A, cc, rfl⟩ := hA.is
  clear hA
  generalize hn : l.length = n at *
  clear hn
  have hz : ¬ (30 : Int) < (n : Int) := by omega
  go_enter Try.func8, Try.ntmps8
  go_wp2_with fail
  refine (W0.out _).mono ?_
  rintro e w1 ⟨rfl, hb⟩
  have G := Lib.hid (G.out.still hb)
  have KL := Lib.hid (KL.out.still hb)
  clear hb
  go_wp2_with fail
  refine (CS.out _ _ KL.out).mono ?_
  rintro e w2 ⟨vx, rfl, hm, hb⟩
  have SZ := Lib.hid G.out.bel.size
  have G := Lib.hid (G.out.still hb)
  have KX := Lib.hid (hm.base SZ.out)
  clear hb hm CS KL SZ
  obtain ⟨b, off, cap, rfl, hbl, HAT⟩ := KA.out _ _ KX.out
  clear KA
  obtain ⟨c0, c1, c2, c3, c4, c5⟩ := HAT _ (Below.refl _ _)
  simp only at c0 c1 c2 c3 c4 c5
  have BN := Lib.hid (below_new w2 (.cells #[.int .i64 s0, .int .i64 e0, .int .i64 q0, .bool sh0, .int .i64 b0, .int .i64 o0] 42))
  have G := Lib.hid (G.out.add 42 #[.int .i64 s0, .int .i64 e0, .int .i64 q0, .bool sh0, .int .i64 b0, .int .i64 o0])
  have KX := Lib.hid (KX.out.still BN.out)
  clear BN HAT
  go_upto_region 7 with (fail)
  clear c0 c1 c2 c3 c4 c5
  generalize hw : World.alloc w2 _ = w3 at *
  clear hw
  generalize w2.heap.size = qa at *
  obtain ⟨g0, g1, g2, g3, g4, g5⟩ := row6 G.out.v0
  go_wp2_with fail
  refine (C1.out _ _ KX.out.holds).mono ?_
  rintro e w4 ⟨vKY, rfl, hm, hb⟩
  have SZ := Lib.hid G.out.bel.size
  have G := Lib.hid (G.out.still hb)
  have KX := Lib.hid (KX.out.still hb)
  have KY := Lib.hid (hm.base SZ.out)
  clear hb hm C1 SZ
  have BN := Lib.hid (below_new w4 (.cells #[.int .i64 0, .int .i64 0, .int .i64 0, .bool false, .int .i64 0, .int .i64 0] 30))
  have G := Lib.hid (G.out.add 30 #[.int .i64 0, .int .i64 0, .int .i64 0, .bool false, .int .i64 0, .int .i64 0])
  have KX := Lib.hid (KX.out.still BN.out)
  have KY := Lib.hid (KY.out.still BN.out)
  clear BN
  clear g0 g1 g2 g3 g4 g5
  obtain ⟨g0, g1, g2, g3, g4, g5⟩ := row6 G.out.v1
  obtain ⟨d0, d1, d2, d3, d4, d5⟩ := row6 G.out.v0
  go_wp2_with fail
  refine (C2.out _ _ KY.out.holds).mono ?_
  rintro e w5 ⟨vKZ, rfl, hm, hb⟩
  have SZ := Lib.hid G.out.bel.size
  have G := Lib.hid (G.out.still hb)
  have KX := Lib.hid (KX.out.still hb)
  have KY := Lib.hid (KY.out.still hb)
  have KZ := Lib.hid (hm.base SZ.out)
  clear hb hm C2 SZ
  have BN := Lib.hid (below_new w5 (.cells #[.int .i64 0, .int .i64 0, .int .i64 0, .bool false, .int .i64 0, .int .i64 0] 30))
  have G := Lib.hid (G.out.add 30 #[.int .i64 0, .int .i64 0, .int .i64 0, .bool false, .int .i64 0, .int .i64 0])
  have KX := Lib.hid (KX.out.still BN.out)
  have KY := Lib.hid (KY.out.still BN.out)
  have KZ := Lib.hid (KZ.out.still BN.out)
  clear BN
  clear d0 d1 d2 d3 d4 d5
  obtain ⟨d0, d1, d2, d3, d4, d5⟩ := row6 G.out.v0
  go_wp2_with fail
  refine (CQ.out _ _ _ KX.out.holds KZ.out.holds).mono ?_
  rintro e w6 ⟨rfl, hb⟩
  have G := Lib.hid (G.out.still hb)
  have KX := Lib.hid (KX.out.still hb)
  have KY := Lib.hid (KY.out.still hb)
  have KZ := Lib.hid (KZ.out.still hb)
  clear hb
  go_wp2_with fail
  go_ret
  exact ⟨rfl, G.out.bel⟩

theorem back_any (l : List Ar) (v : Value) (at' pr : Int) (h0 : 0 ≤ at') (h1 : at' ≤ 255) (w : World) (hA : Holds w v l) :
    Calls Try.prog 8 #[v, .int .u8 at', .int .i64 pr] w fun e w' => e = .returned (.bool true) ∧ Below w.heap.size w w' := by
  by_cases hl : l.length ≤ 30
  · by_cases hX : someL l = []
    · exact back_none l v at' pr w hl hA hX
    · by_cases h2 : pr < 0
      · exact back_low l v at' pr h0 h1 w hl hA hX h2
      · by_cases h3 : 7 < pr
        · exact back_high l v at' pr h0 h1 w hl hA hX (by omega) h3
        · exact back_ok l v at' pr h0 h1 w hl hA hX (by omega) (by omega)
  · obtain ⟨A, cc, rfl⟩ := hA.is
    exact back_many A l.length cc at' pr w (by omega)
end Go.Proofs.Ytpekdbncgdlblaa
