/-
  Layer 12: without flags, and with the size that it has, a range stays as it is, and is told.
-/
import Derived.Test.YtbfphoajllmcpaaPkQf
namespace Go.Proofs.Ytbfphoajllmcpaa
open Go.ChangeShapes Go.WideShapes Go.ChangeAt Go.RowKit Go.Shelf
set_option linter.unusedVariables false
attribute [local go_sem ↓] Go.wp_at_zero Go.wp_at_succ

set_option maxRecDepth 4000 in
set_option maxHeartbeats 8000000 in
theorem stays_many (A : Option Addr) (n cc : Nat) (at' : Int) (w : World) (hn : 30 < n) :
    Calls Try.prog 3 #[.slice A n cc, .int .u8 at'] w fun e w' => e = .returned (.bool true) ∧ Below w.heap.size w w' := by
  have W0 := Lib.hid rm_awake
  have G := Lib.hid (Bag.new w)
  have hz : (30 : Int) < (n : Int) := by omega
  go_enter Try.func3, Try.ntmps3
  go_wp2_with fail
  refine (W0.out _).mono ?_
  rintro e w1 ⟨rfl, hb⟩
  have G := Lib.hid (G.out.still hb)
  clear hb
  go_wp2_with fail
  refine (W0.out _).mono ?_
  rintro e w2 ⟨rfl, hb⟩
  have G := Lib.hid (G.out.still hb)
  clear hb
  go_wp2_with fail
  go_ret
  exact ⟨rfl, G.out.bel⟩

set_option maxRecDepth 4000 in
set_option maxHeartbeats 8000000 in
theorem stays_none (l : List Ar) (v : Value) (at' : Int) (w : World) (hl : l.length ≤ 30) (hA : Holds w v l) (hX : someL l = []) :
    Calls Try.prog 3 #[v, .int .u8 at'] w fun e w' => e = .returned (.bool true) ∧ Below w.heap.size w w' := by
  have W0 := Lib.hid rm_awake
  have G := Lib.hid (Bag.new w)
  have KL := hA
  have KL := Lib.hid KL
  have CS : Hid (∀ w' u, Holds w' u l → Calls Try.prog 9 #[u] w' fun e w'' => ∃ v', e = .returned v' ∧ Mine w'.heap.size w'' v' (someL l) ∧ Below w'.heap.size w' w'') := Lib.hid (fun w' u h => some_c h (by omega))
  rw [hX] at CS
  obtain ⟨A, cc, rfl⟩ := hA.is
  clear hA
  generalize hn : l.length = n at *
  clear hn
  have hz : ¬ (30 : Int) < (n : Int) := by omega
  go_enter Try.func3, Try.ntmps3
  go_wp2_with fail
  refine (W0.out _).mono ?_
  rintro e w1 ⟨rfl, hb⟩
  have G := Lib.hid (G.out.still hb)
  have KL := Lib.hid (KL.out.still hb)
  clear hb
  go_wp2_with fail
  refine (CS.out _ _ KL.out).mono ?_
  rintro e w2 ⟨vx, rfl, hm, hb⟩
  have SZ := Lib.hid G.out.bel.size
  have G := Lib.hid (G.out.still hb)
  have KX := Lib.hid (hm.base SZ.out)
  clear hb hm CS KL SZ
  obtain ⟨A1, c1, rfl⟩ := KX.out.is
  simp only [List.length_nil] at *
  go_wp2_with fail
  go_ret
  exact ⟨rfl, G.out.bel⟩

set_option maxRecDepth 4000 in
set_option maxHeartbeats 8000000 in
theorem stays_ok (l : List Ar) (v : Value) (at' : Int) (w : World) (hl : l.length ≤ 30) (hA : Holds w v l) (hne : someL l ≠ []) (h0 : 0 ≤ at') (h1 : at' ≤ 255) :
    Calls Try.prog 3 #[v, .int .u8 at'] w fun e w' => e = .returned (.bool true) ∧ Below w.heap.size w w' := by
  have W0 := Lib.hid rm_awake
  have G := Lib.hid (Bag.new w)
  have KL := hA
  have KL := Lib.hid KL
  have CS : Hid (∀ w' u, Holds w' u l → Calls Try.prog 9 #[u] w' fun e w'' => ∃ v', e = .returned v' ∧ Mine w'.heap.size w'' v' (someL l) ∧ Below w'.heap.size w' w'') := Lib.hid (fun w' u h => some_c h (by omega))
  have hX := someL_may l
  generalize someL l = X at *
  have hm0 : 0 < X.length := List.length_pos_iff.2 hne
  obtain ⟨i, hi⟩ : ∃ i : Nat, at'.tmod (X.length : Int) = (i : Int) := ⟨(at'.tmod (X.length : Int)).toNat, by rw [Int.tmod_eq_emod_of_nonneg h0]; have := Int.emod_nonneg at' (b := (X.length : Int)) (by omega); omega⟩
  have hil : i < X.length := by rw [Int.tmod_eq_emod_of_nonneg h0] at hi; have := Int.emod_lt_of_pos at' (b := (X.length : Int)) (by omega); omega
  have hin : X[i] ∈ X := List.getElem_mem hil
  have hfa := formed_num (right_formed hX.1 _ hin)
  have hXl : X.length ≤ 10000 := by have := hX.2; omega
  have KB : Hid (∀ W B, Mine w.heap.size W B X → ∃ b off cap, B = .slice (some ⟨b, off, none⟩) X.length cap ∧ b < W.heap.size ∧ ∀ W', Below W.heap.size W W' → ∀ k (hk : k < X.length), AreaAt W' b (off + k * 6) X[k]) := Lib.hid (fun W B h => by
    obtain ⟨A, c, rfl, hc, hA⟩ := h.holds
    rcases hA with hnl | ⟨b, off, rfl, hb, hcs⟩
    · exact absurd hnl hne
    · exact ⟨b, off, c, rfl, hb, fun W' hB k hk => (hcs k hk).below hB hb⟩)
  have KA : Hid (∀ W B, Mine w.heap.size W B X → ∃ b off cap, B = .slice (some ⟨b, off, none⟩) X.length cap ∧ b < W.heap.size ∧ ∀ W', Below W.heap.size W W' → AreaAt W' b (off + i * 6) X[i]) := Lib.hid (fun W B h => by
    obtain ⟨b, off, c, h1, h2, h3⟩ := KB.out W B h
    exact ⟨b, off, c, h1, h2, fun W' hB => h3 W' hB i hil⟩)
  clear KB
  have hr := stays_is hX hin
  have C1 := Lib.hid (fun w' u (h : Holds w' u X) => remap_c h hXl ⟨0, X[i].s, X[i].e - X[i].s, X[i].e - X[i].s, 0, 0, 0, 0, 0⟩)
  rw [hr] at C1
  have CQ : Hid (∀ w' u u', Holds w' u X → Holds w' u' X → Calls Try.prog 11 #[u, u'] w' fun e w'' => e = .returned (.bool true) ∧ Below w'.heap.size w' w'') := Lib.hid (fun w' u u' h h' => same_c h h' rfl hX.1)
  obtain ⟨n0, hn0⟩ : ∃ n0, X[i].e - X[i].s = n0 := ⟨_, rfl⟩
  rw [hn0] at C1
  clear hr hX hXl hne hin
  generalize X[i] = a at *
  obtain ⟨s0, e0, q0, sh0, b0, o0⟩ := a
  simp only at hn0 hfa
  obtain ⟨k1, k2, k3, _⟩ := hfa
  have hn1 : 4096 ≤ n0 ∧ n0 ≤ 2031616 := by omega
  generalize hm : X.length = m at *
  clear hm
  have hz1 : ¬ (m : Int) = 0 := by omega
  have hz2 : ((m : Int) == 0) = false := by simpa using hz1
  have hz3 : (i : Int) < (m : Int) := by omega
  have hz4 : (0 : Int) ≤ (i : Int) := by omega
  have hz5 : ¬ (m : Int) = -1 := by omega
  unfold Cl.v Cl.cells Gives ansV ansC at C1
  simp only at C1
  obtain ⟨A, cc, rfl⟩ := hA.is
  clear hA
  generalize hn : l.length = n at *
  clear hn
  have hz : ¬ (30 : Int) < (n : Int) := by omega
  go_enter Try.func3, Try.ntmps3
  go_wp2_with fail
  refine (W0.out _).mono ?_
  rintro e w1 ⟨rfl, hb⟩
  have G := Lib.hid (G.out.still hb)
  have KL := Lib.hid (KL.out.still hb)
  clear hb
  go_wp2_with fail
  refine (CS.out _ _ KL.out).mono ?_
  rintro e w2 ⟨vx, rfl, hm, hb⟩
  have SZ := Lib.hid G.out.bel.size
  have G := Lib.hid (G.out.still hb)
  have KX := Lib.hid (hm.base SZ.out)
  clear hb hm CS KL SZ
  obtain ⟨b, off, cap, rfl, hbl, HAT⟩ := KA.out _ _ KX.out
  clear KA
  obtain ⟨c0, c1, c2, c3, c4, c5⟩ := HAT _ (Below.refl _ _)
  simp only at c0 c1 c2 c3 c4 c5
  have BN := Lib.hid (below_new w2 (.cells #[.int .i64 s0, .int .i64 e0, .int .i64 q0, .bool sh0, .int .i64 b0, .int .i64 o0] 26))
  have G := Lib.hid (G.out.add 26 #[.int .i64 s0, .int .i64 e0, .int .i64 q0, .bool sh0, .int .i64 b0, .int .i64 o0])
  have KX := Lib.hid (KX.out.still BN.out)
  clear BN HAT
  go_upto_region 7 with (fail)
  clear c0 c1 c2 c3 c4 c5
  generalize hw : World.alloc w2 _ = w3 at *
  clear hw
  generalize w2.heap.size = qa at *
  obtain ⟨g0, g1, g2, g3, g4, g5⟩ := row6 G.out.v0
  go_wp2_with fail
  refine (C1.out _ _ KX.out.holds).mono ?_
  rintro e w4 ⟨vKY, rfl, hm, hb⟩
  have SZ := Lib.hid G.out.bel.size
  have G := Lib.hid (G.out.still hb)
  have KX := Lib.hid (KX.out.still hb)
  have KY := Lib.hid (hm.base SZ.out)
  clear hb hm C1 SZ
  have BN := Lib.hid (below_new w4 (.cells #[.int .i64 0, .int .i64 s0, .int .i64 0, .bool false, .int .i64 0, .int .i64 0] 31))
  have G := Lib.hid (G.out.add 31 #[.int .i64 0, .int .i64 s0, .int .i64 0, .bool false, .int .i64 0, .int .i64 0])
  have KX := Lib.hid (KX.out.still BN.out)
  have KY := Lib.hid (KY.out.still BN.out)
  clear BN g0 g1 g2 g3 g4 g5
  obtain ⟨g0, g1, g2, g3, g4, g5⟩ := row6 G.out.v1
  obtain ⟨d0, d1, d2, d3, d4, d5⟩ := row6 G.out.v0
  go_wp2_with fail
  refine (CQ.out _ _ _ KX.out.holds KY.out.holds).mono ?_
  rintro e w5 ⟨rfl, hb⟩
  have G := Lib.hid (G.out.still hb)
  clear hb
  go_wp2_with fail
  go_ret
  exact ⟨rfl, G.out.bel⟩

theorem stays_any (l : List Ar) (v : Value) (at' : Int) (h0 : 0 ≤ at') (h1 : at' ≤ 255) (w : World) (hA : Holds w v l) :
    Calls Try.prog 3 #[v, .int .u8 at'] w fun e w' => e = .returned (.bool true) ∧ Below w.heap.size w w' := by
  by_cases hl : l.length ≤ 30
  · by_cases hX : someL l = []
    · exact stays_none l v at' w hl hA hX
    · exact stays_ok l v at' w hl hA hX h0 h1
  · obtain ⟨A, cc, rfl⟩ := hA.is
    exact stays_many A l.length cc at' w (by omega)
end Go.Proofs.Ytbfphoajllmcpaa
