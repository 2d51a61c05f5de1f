/-
  Layer 12: a whole area that is moved to a free place, and back, leaves the list as it was.
-/
import Derived.Test.YtbfphoajllmcpaaPkQf
import Derived.Deep.LoopGhost
namespace Go.Proofs.Ytbfphoajllmcpaa
open Go.ChangeShapes Go.WideShapes Go.ChangeAt Go.RowKit Go.Shelf
set_option linter.unusedVariables false
attribute [local go_sem ↓] Go.wp_at_zero Go.wp_at_succ

set_option maxRecDepth 4000 in
set_option maxHeartbeats 8000000 in
theorem there_many (A : Option Addr) (n cc : Nat) (at' pg : Int) (w : World) (hn : 30 < n) :
    Calls Try.prog 4 #[.slice A n cc, .int .u8 at', .int .u16 pg] w fun e w' => e = .returned (.bool true) ∧ Below w.heap.size w w' := by
  have W0 := Lib.hid rm_awake
  have G := Lib.hid (Bag.new w)
  have hz : (30 : Int) < (n : Int) := by omega
  go_enter Try.func4, Try.ntmps4
  go_wp2_with fail
  refine (W0.out _).mono ?_
  rintro e w1 ⟨rfl, hb⟩
  have G := Lib.hid (G.out.still hb)
  clear hb
  go_wp2_with fail
  refine (W0.out _).mono ?_
  rintro e w2 ⟨rfl, hb⟩
  have G := Lib.hid (G.out.still hb)
  clear hb
  go_wp2_with fail
  go_ret
  exact ⟨rfl, G.out.bel⟩

set_option maxRecDepth 4000 in
set_option maxHeartbeats 8000000 in
theorem there_none (l : List Ar) (v : Value) (at' pg : Int) (w : World) (hl : l.length ≤ 30) (hA : Holds w v l) (hX : someL l = []) :
    Calls Try.prog 4 #[v, .int .u8 at', .int .u16 pg] w fun e w' => e = .returned (.bool true) ∧ Below w.heap.size w w' := by
  have W0 := Lib.hid rm_awake
  have G := Lib.hid (Bag.new w)
  have KL := hA
  have KL := Lib.hid KL
  have CS : Hid (∀ w' u, Holds w' u l → Calls Try.prog 9 #[u] w' fun e w'' => ∃ v', e = .returned v' ∧ Mine w'.heap.size w'' v' (someL l) ∧ Below w'.heap.size w' w'') := Lib.hid (fun w' u h => some_c h (by omega))
  rw [hX] at CS
  obtain ⟨A, cc, rfl⟩ := hA.is
  clear hA
  generalize hn : l.length = n at *
  clear hn
  have hz : ¬ (30 : Int) < (n : Int) := by omega
  go_enter Try.func4, Try.ntmps4
  go_wp2_with fail
  refine (W0.out _).mono ?_
  rintro e w1 ⟨rfl, hb⟩
  have G := Lib.hid (G.out.still hb)
  have KL := Lib.hid (KL.out.still hb)
  clear hb
  go_wp2_with fail
  refine (CS.out _ _ KL.out).mono ?_
  rintro e w2 ⟨vx, rfl, hm, hb⟩
  have SZ := Lib.hid G.out.bel.size
  have G := Lib.hid (G.out.still hb)
  have KX := Lib.hid (hm.base SZ.out)
  clear hb hm CS KL SZ
  obtain ⟨A1, c1, rfl⟩ := KX.out.is
  simp only [List.length_nil] at *
  go_wp2_with fail
  go_ret
  exact ⟨rfl, G.out.bel⟩

theorem remap_fits {X : List Ar} (hX : MayL X) {a : Ar} (ha : a ∈ X) {tq : Int} (h1 : 65536 ≤ tq) (h : (rmR X ⟨0, a.s, a.e - a.s, a.e - a.s, tq, 0, 17, 0, 0⟩).2.1 = 0) : tq + (a.e - a.s) ≤ 2097152 := by
  obtain ⟨s1, s2, s3, s4, s5⟩ := area_sz hX.1 ha
  rcases rmR_is X ⟨0, a.s, a.e - a.s, a.e - a.s, tq, 0, 17, 0, 0⟩ with ⟨h0, _⟩ | ⟨b, hk, hw, _, _⟩
  · exact absurd h h0
  · obtain ⟨b1, _⟩ := bits_6 (f := 17) (by decide) (by decide)
    have hb1 : bitF 17 1 = true := by rw [b1]; decide
    refine Classical.byContradiction fun hlt => ?_
    have he : (rmK X ⟨0, a.s, a.e - a.s, a.e - a.s, tq, 0, 17, 0, 0⟩).fxE ≠ 0 := fun k => by
      have h2 : rgE tq (szV (a.e - a.s)) = 0 := (Ask.fx_zero k).1
      have := rg_ok h2
      rw [s2, s2] at this
      omega
    unfold Ask.way Ask.fx at hw
    rw [if_pos (show bitF (rmK X ⟨0, a.s, a.e - a.s, a.e - a.s, tq, 0, 17, 0, 0⟩).f 1 = true from hb1), if_neg he] at hw
    exact he hw
set_option maxRecDepth 4000 in
set_option maxHeartbeats 8000000 in
theorem there_hit (l : List Ar) (v : Value) (at' pg : Int) (w : World) (hl : l.length ≤ 30) (hA : Holds w v l) (hne : someL l ≠ []) (h0 : 0 ≤ at') (h1 : at' ≤ 255) (p0 : 0 ≤ pg) (p1 : pg ≤ 65535) (hfr : ¬ ∀ (i : Nat) (_ : at' % ((someL l).length : Int) = (i : Int)) (_ : i < (someL l).length), ∀ x ∈ someL l, ¬ (4096 * (16 + pg % 496) < x.e ∧ x.s < 4096 * (16 + pg % 496) + ((someL l)[i].e - (someL l)[i].s))) :
    Calls Try.prog 4 #[v, .int .u8 at', .int .u16 pg] w fun e w' => e = .returned (.bool true) ∧ Below w.heap.size w w' := by
  have W0 := Lib.hid rm_awake
  have G := Lib.hid (Bag.new w)
  have KL := hA
  have KL := Lib.hid KL
  have CS : Hid (∀ w' u, Holds w' u l → Calls Try.prog 9 #[u] w' fun e w'' => ∃ v', e = .returned v' ∧ Mine w'.heap.size w'' v' (someL l) ∧ Below w'.heap.size w' w'') := Lib.hid (fun w' u h => some_c h (by omega))
  have hX := someL_may l
  generalize someL l = X at *
  have hm0 : 0 < X.length := List.length_pos_iff.2 hne
  obtain ⟨i, hi⟩ : ∃ i : Nat, at'.tmod (X.length : Int) = (i : Int) := ⟨(at'.tmod (X.length : Int)).toNat, by rw [Int.tmod_eq_emod_of_nonneg h0]; have := Int.emod_nonneg at' (b := (X.length : Int)) (by omega); omega⟩
  have hil : i < X.length := by rw [Int.tmod_eq_emod_of_nonneg h0] at hi; have := Int.emod_lt_of_pos at' (b := (X.length : Int)) (by omega); omega
  have hin : X[i] ∈ X := List.getElem_mem hil
  have hfa := formed_num (right_formed hX.1 _ hin)
  have hXl : X.length ≤ 10000 := by have := hX.2; omega
  have KB : Hid (∀ W B, Mine w.heap.size W B X → ∃ b off cap, B = .slice (some ⟨b, off, none⟩) X.length cap ∧ b < W.heap.size ∧ ∀ W', Below W.heap.size W W' → ∀ k (hk : k < X.length), AreaAt W' b (off + k * 6) X[k]) := Lib.hid (fun W B h => by
    obtain ⟨A, c, rfl, hc, hA⟩ := h.holds
    rcases hA with hnl | ⟨b, off, rfl, hb, hcs⟩
    · exact absurd hnl hne
    · exact ⟨b, off, c, rfl, hb, fun W' hB k hk => (hcs k hk).below hB hb⟩)
  have hi2 : at' % (X.length : Int) = (i : Int) := by rw [← Int.tmod_eq_emod_of_nonneg h0]; exact hi
  have hp2 : pg.tmod 496 = pg % 496 := Int.tmod_eq_emod_of_nonneg p0
  have hp3 : 0 ≤ pg % 496 ∧ pg % 496 ≤ 495 := by omega
  have HF : Hid (¬ ∀ (k : Nat) (hk : k < X.length), ¬ (4096 * (16 + pg % 496) < X[k].e ∧ X[k].s < 4096 * (16 + pg % 496) + (X[i].e - X[i].s))) := Lib.hid (fun h => hfr fun i' e1 e2 x hx => by
    obtain rfl : i' = i := by omega
    obtain ⟨k, hk, rfl⟩ := List.getElem_of_mem hx
    exact h k hk)
  clear hfr
  have HN : Hid (∀ (k : Nat) (hk : k < X.length), X[k].s < X[k].e ∧ 65536 ≤ X[k].s ∧ X[k].e ≤ 2097152) := Lib.hid (fun k hk => by have := formed_num (right_formed hX.1 X[k] (List.getElem_mem hk)); omega)
  have HAI : Hid (∀ (a : Ar), a = X[i] → ∀ (W' : World) (b off : Nat), AreaAt W' b (off + i * 6) X[i] → AreaAt W' b (off + i * 6) a) := Lib.hid (fun a e W' b off h => by rw [e]; exact h)
  obtain ⟨n0, hn0⟩ : ∃ n0, X[i].e - X[i].s = n0 := ⟨_, rfl⟩
  rw [hn0] at HF
  have hXl : X.length ≤ 24 := hX.2
  clear hX hne hin
  obtain ⟨a, ha⟩ : ∃ a, a = X[i] := ⟨_, rfl⟩
  have HAI := Lib.hid (HAI.out a ha)
  rw [← ha] at hn0 hfa
  generalize hpr : pg % 496 = r at *
  obtain ⟨hp31, hp32⟩ := hp3
  obtain ⟨tq, htq⟩ : ∃ tq, 4096 * (16 + r) = tq := ⟨_, rfl⟩
  have htq2 : 65536 ≤ tq ∧ tq ≤ 2093056 := by omega
  rw [htq] at HF
  clear ha hpr hi2
  obtain ⟨s0, e0, q0, sh0, b0, o0⟩ := a
  simp only at hn0 hfa
  obtain ⟨k1, k2, k3, _⟩ := hfa
  have hn1 : 4096 ≤ n0 ∧ n0 ≤ 2031616 := by omega
  obtain ⟨m, hm⟩ : ∃ m : Nat, X.length = m := ⟨_, rfl⟩
  have HM := Lib.hid hm
  rw [hm] at hi hil hm0 hXl
  clear hm
  have hz1 : ¬ (m : Int) = 0 := by omega
  have hz2 : ((m : Int) == 0) = false := by simpa using hz1
  have hz3 : (i : Int) < (m : Int) := by omega
  have hz4 : (0 : Int) ≤ (i : Int) := by omega
  have hz5 : ¬ (m : Int) = -1 := by omega
  obtain ⟨A, cc, rfl⟩ := hA.is
  clear hA
  generalize hn : l.length = n at *
  clear hn
  have hz : ¬ (30 : Int) < (n : Int) := by omega
  go_enter Try.func4, Try.ntmps4
  go_wp2_with fail
  refine (W0.out _).mono ?_
  rintro e w1 ⟨rfl, hb⟩
  have G := Lib.hid (G.out.still hb)
  have KL := Lib.hid (KL.out.still hb)
  clear hb
  go_wp2_with fail
  refine (CS.out _ _ KL.out).mono ?_
  rintro e w2 ⟨vx, rfl, hm, hb⟩
  have SZ := Lib.hid G.out.bel.size
  have G := Lib.hid (G.out.still hb)
  have KX := Lib.hid (hm.base SZ.out)
  clear hb hm CS KL SZ
  obtain ⟨b, off, cap, rfl, hbl, HAT⟩ := KB.out _ _ KX.out
  clear KB
  obtain ⟨c0, c1, c2, c3, c4, c5⟩ := HAI.out _ _ _ (HAT _ (Below.refl _ _) i (by rw [HM.out]; exact hil))
  simp only at c0 c1 c2 c3 c4 c5
  have BN := Lib.hid (below_new w2 (.cells #[.int .i64 s0, .int .i64 e0, .int .i64 q0, .bool sh0, .int .i64 b0, .int .i64 o0] 26))
  have G := Lib.hid (G.out.add 26 #[.int .i64 s0, .int .i64 e0, .int .i64 q0, .bool sh0, .int .i64 b0, .int .i64 o0])
  have KX := Lib.hid (KX.out.still BN.out)
  have HAS := Lib.hid (HAT _ BN.out)
  rw [HM.out] at KX ⊢
  clear BN HAI HAT
  go_upto_region 7 with (fail)
  clear c0 c1 c2 c3 c4 c5
  generalize hw : World.alloc w2 _ = w3 at *
  clear hw
  generalize w2.heap.size = qa at *
  obtain ⟨g0, g1, g2, g3, g4, g5⟩ := row6 G.out.v0
  go_upto_region 9 with (fail)
  clear g2 g3 g4 g5
  go_wp2_with fail
  go_loopg [11] m (fun g s11 wr => ∃ j : Nat, j ≤ m ∧ m - j ≤ g ∧ s11 = .int .i64 j ∧ wr = w3 ∧ Hid (∀ (k : Nat) (hk : k < X.length), k < j → ¬ (tq < X[k].e ∧ X[k].s < tq + n0)))
  case atStart => exact ⟨0, by omega, by omega, by rfl, rfl, Lib.hid (fun k hk h => by omega)⟩
  case round =>
    obtain ⟨j, hj, hg, rfl, rfl, HJ⟩ := hrel
    by_cases hlt : j < m
    · have hz6 : (j : Int) < (m : Int) := by omega
      have hz7 : (0 : Int) ≤ (j : Int) := by omega
      have hjX : j < X.length := by rw [HM.out]; exact hlt
      obtain ⟨c0, c1, c2, c3, c4, c5⟩ := HAS.out j hjX
      obtain ⟨z1, z2, z3⟩ := HN.out j hjX
      have HJ2 : Hid (¬ (tq < X[j].e ∧ X[j].s < tq + n0) → ∀ (k : Nat) (hk : k < X.length), k < j + 1 → ¬ (tq < X[k].e ∧ X[k].s < tq + n0)) := Lib.hid (fun h k hk hkl => by
        rcases Nat.lt_or_ge k j with h1 | h1
        · exact HJ.out k hk h1
        · obtain rfl : k = j := by omega
          exact h)
      generalize X[j] = y at *
      obtain ⟨s1, e1, q1, sh1, b1, o1⟩ := y
      simp only at c0 c1 c2 c3 c4 c5 z1 z2 z3 HJ2
      clear c2 c3 c4 c5
      by_cases t1 : tq < e1
      · by_cases t2 : s1 < tq + n0
        · go_wp2_with fail
          go_ret
          exact ⟨rfl, G.out.bel⟩
        · go_wp2_with fail
          go_roundg (m - (j + 1))
          case measure => omega
          case rel => exact ⟨j + 1, by omega, by omega, by go_num, rfl, Lib.hid (HJ2.out (fun k => by omega))⟩
      · go_wp2_with fail
        go_roundg (m - (j + 1))
        case measure => omega
        case rel => exact ⟨j + 1, by omega, by omega, by go_num, rfl, Lib.hid (HJ2.out (fun k => by omega))⟩
    · obtain rfl : j = m := by omega
      exact absurd (fun k hk => HJ.out k hk (by rw [HM.out] at hk; exact hk)) HF.out

set_option maxRecDepth 4000 in
set_option maxHeartbeats 8000000 in
theorem there_far (l : List Ar) (v : Value) (at' pg : Int) (w : World) (hl : l.length ≤ 30) (hA : Holds w v l) (hne : someL l ≠ []) (h0 : 0 ≤ at') (h1 : at' ≤ 255) (p0 : 0 ≤ pg) (p1 : pg ≤ 65535) (hfr : ∀ (i : Nat) (_ : at' % ((someL l).length : Int) = (i : Int)) (_ : i < (someL l).length), ∀ x ∈ someL l, ¬ (4096 * (16 + pg % 496) < x.e ∧ x.s < 4096 * (16 + pg % 496) + ((someL l)[i].e - (someL l)[i].s))) (hfar : ∀ (i : Nat) (_ : at' % ((someL l).length : Int) = (i : Int)) (_ : i < (someL l).length), 2097152 < 4096 * (16 + pg % 496) + ((someL l)[i].e - (someL l)[i].s)) :
    Calls Try.prog 4 #[v, .int .u8 at', .int .u16 pg] w fun e w' => e = .returned (.bool true) ∧ Below w.heap.size w w' := by
  have W0 := Lib.hid rm_awake
  have G := Lib.hid (Bag.new w)
  have KL := hA
  have KL := Lib.hid KL
  have CS : Hid (∀ w' u, Holds w' u l → Calls Try.prog 9 #[u] w' fun e w'' => ∃ v', e = .returned v' ∧ Mine w'.heap.size w'' v' (someL l) ∧ Below w'.heap.size w' w'') := Lib.hid (fun w' u h => some_c h (by omega))
  have hX := someL_may l
  generalize someL l = X at *
  have hm0 : 0 < X.length := List.length_pos_iff.2 hne
  obtain ⟨i, hi⟩ : ∃ i : Nat, at'.tmod (X.length : Int) = (i : Int) := ⟨(at'.tmod (X.length : Int)).toNat, by rw [Int.tmod_eq_emod_of_nonneg h0]; have := Int.emod_nonneg at' (b := (X.length : Int)) (by omega); omega⟩
  have hil : i < X.length := by rw [Int.tmod_eq_emod_of_nonneg h0] at hi; have := Int.emod_lt_of_pos at' (b := (X.length : Int)) (by omega); omega
  have hin : X[i] ∈ X := List.getElem_mem hil
  have hfa := formed_num (right_formed hX.1 _ hin)
  have hXl : X.length ≤ 10000 := by have := hX.2; omega
  have KB : Hid (∀ W B, Mine w.heap.size W B X → ∃ b off cap, B = .slice (some ⟨b, off, none⟩) X.length cap ∧ b < W.heap.size ∧ ∀ W', Below W.heap.size W W' → ∀ k (hk : k < X.length), AreaAt W' b (off + k * 6) X[k]) := Lib.hid (fun W B h => by
    obtain ⟨A, c, rfl, hc, hA⟩ := h.holds
    rcases hA with hnl | ⟨b, off, rfl, hb, hcs⟩
    · exact absurd hnl hne
    · exact ⟨b, off, c, rfl, hb, fun W' hB k hk => (hcs k hk).below hB hb⟩)
  have hi2 : at' % (X.length : Int) = (i : Int) := by rw [← Int.tmod_eq_emod_of_nonneg h0]; exact hi
  have hp2 : pg.tmod 496 = pg % 496 := Int.tmod_eq_emod_of_nonneg p0
  have hp3 : 0 ≤ pg % 496 ∧ pg % 496 ≤ 495 := by omega
  have hfr2 := hfr i hi2 hil
  have HF : Hid (∀ (k : Nat) (hk : k < X.length), ¬ (4096 * (16 + pg % 496) < X[k].e ∧ X[k].s < 4096 * (16 + pg % 496) + (X[i].e - X[i].s))) := Lib.hid (fun k hk => hfr2 X[k] (List.getElem_mem hk))
  have hto : 65536 ≤ 4096 * (16 + pg % 496) ∧ 4096 * (16 + pg % 496) % 4096 = 0 := by omega
  have hth := there_is hX hin hto.1 hto.2 hfr2
  have hfar2 := hfar i hi2 hil
  clear hfr hfar hfr2
  obtain ⟨Y, e1, x1, hr⟩ : ∃ Y e1 x1, rmR X ⟨0, X[i].s, X[i].e - X[i].s, X[i].e - X[i].s, 4096 * (16 + pg % 496), 0, 17, 0, 0⟩ = (Y, e1, x1) := ⟨_, _, _, rfl⟩
  have he1 : e1 ≠ 0 := by
    rcases hth with ⟨_, h⟩ | ⟨Y', hY, k1, k2⟩
    · rw [hr] at h; exact h
    · have nx := remap_fits hX hin hto.1 (by rw [k1])
      omega
  have he1' : (e1 != 0) = true := by simpa using he1
  have C1 := Lib.hid (fun w' u (h : Holds w' u X) => remap_c h hXl ⟨0, X[i].s, X[i].e - X[i].s, X[i].e - X[i].s, 4096 * (16 + pg % 496), 0, 17, 0, 0⟩)
  rw [hr] at C1
  clear hth hr he1
  have HN : Hid (∀ (k : Nat) (hk : k < X.length), X[k].s < X[k].e ∧ 65536 ≤ X[k].s ∧ X[k].e ≤ 2097152) := Lib.hid (fun k hk => by have := formed_num (right_formed hX.1 X[k] (List.getElem_mem hk)); omega)
  have HAI : Hid (∀ (a : Ar), a = X[i] → ∀ (W' : World) (b off : Nat), AreaAt W' b (off + i * 6) X[i] → AreaAt W' b (off + i * 6) a) := Lib.hid (fun a e W' b off h => by rw [e]; exact h)
  obtain ⟨n0, hn0⟩ : ∃ n0, X[i].e - X[i].s = n0 := ⟨_, rfl⟩
  rw [hn0] at HF C1 hfar2
  have hXl : X.length ≤ 24 := hX.2
  clear hX hne hin
  obtain ⟨a, ha⟩ : ∃ a, a = X[i] := ⟨_, rfl⟩
  have HAI := Lib.hid (HAI.out a ha)
  rw [← ha] at hn0 hfa C1
  generalize hpr : pg % 496 = r at *
  obtain ⟨hp31, hp32⟩ := hp3
  obtain ⟨tq, htq⟩ : ∃ tq, 4096 * (16 + r) = tq := ⟨_, rfl⟩
  have htq2 : 65536 ≤ tq ∧ tq ≤ 2093056 := by omega
  rw [htq] at HF C1 hfar2
  clear ha hpr hi2 hto
  obtain ⟨s0, e0, q0, sh0, b0, o0⟩ := a
  simp only at hn0 hfa
  obtain ⟨k1, k2, k3, _⟩ := hfa
  have hn1 : 4096 ≤ n0 ∧ n0 ≤ 2031616 := by omega
  obtain ⟨m, hm⟩ : ∃ m : Nat, X.length = m := ⟨_, rfl⟩
  have HM := Lib.hid hm
  rw [hm] at hi hil hm0 hXl
  clear hm
  have hz1 : ¬ (m : Int) = 0 := by omega
  have hz2 : ((m : Int) == 0) = false := by simpa using hz1
  have hz3 : (i : Int) < (m : Int) := by omega
  have hz4 : (0 : Int) ≤ (i : Int) := by omega
  have hz5 : ¬ (m : Int) = -1 := by omega
  unfold Cl.v Cl.cells Gives ansV ansC at C1
  simp only at C1
  obtain ⟨A, cc, rfl⟩ := hA.is
  clear hA
  generalize hn : l.length = n at *
  clear hn
  have hz : ¬ (30 : Int) < (n : Int) := by omega
  go_enter Try.func4, Try.ntmps4
  go_wp2_with fail
  refine (W0.out _).mono ?_
  rintro e w1 ⟨rfl, hb⟩
  have G := Lib.hid (G.out.still hb)
  have KL := Lib.hid (KL.out.still hb)
  clear hb
  go_wp2_with fail
  refine (CS.out _ _ KL.out).mono ?_
  rintro e w2 ⟨vx, rfl, hm, hb⟩
  have SZ := Lib.hid G.out.bel.size
  have G := Lib.hid (G.out.still hb)
  have KX := Lib.hid (hm.base SZ.out)
  clear hb hm CS KL SZ
  obtain ⟨b, off, cap, rfl, hbl, HAT⟩ := KB.out _ _ KX.out
  clear KB
  obtain ⟨c0, c1, c2, c3, c4, c5⟩ := HAI.out _ _ _ (HAT _ (Below.refl _ _) i (by rw [HM.out]; exact hil))
  simp only at c0 c1 c2 c3 c4 c5
  have BN := Lib.hid (below_new w2 (.cells #[.int .i64 s0, .int .i64 e0, .int .i64 q0, .bool sh0, .int .i64 b0, .int .i64 o0] 26))
  have G := Lib.hid (G.out.add 26 #[.int .i64 s0, .int .i64 e0, .int .i64 q0, .bool sh0, .int .i64 b0, .int .i64 o0])
  have KX := Lib.hid (KX.out.still BN.out)
  have HAS := Lib.hid (HAT _ BN.out)
  rw [HM.out] at KX ⊢
  clear BN HAI HAT
  go_upto_region 7 with (fail)
  clear c0 c1 c2 c3 c4 c5
  generalize hw : World.alloc w2 _ = w3 at *
  clear hw
  generalize w2.heap.size = qa at *
  obtain ⟨g0, g1, g2, g3, g4, g5⟩ := row6 G.out.v0
  go_upto_region 9 with (fail)
  clear g2 g3 g4 g5
  go_wp2_with fail
  go_loopg [11] m (fun g s11 wr => ∃ j : Nat, j ≤ m ∧ m - j ≤ g ∧ s11 = .int .i64 j ∧ wr = w3 ∧ Hid (∀ (k : Nat) (hk : k < X.length), k < j → ¬ (tq < X[k].e ∧ X[k].s < tq + n0)))
  case atStart => exact ⟨0, by omega, by omega, by rfl, rfl, Lib.hid (fun k hk h => by omega)⟩
  case round =>
    obtain ⟨j, hj, hg, rfl, rfl, HJ⟩ := hrel
    by_cases hlt : j < m
    · have hz6 : (j : Int) < (m : Int) := by omega
      have hz7 : (0 : Int) ≤ (j : Int) := by omega
      have hjX : j < X.length := by rw [HM.out]; exact hlt
      obtain ⟨c0, c1, c2, c3, c4, c5⟩ := HAS.out j hjX
      obtain ⟨z1, z2, z3⟩ := HN.out j hjX
      have HJ2 : Hid (¬ (tq < X[j].e ∧ X[j].s < tq + n0) → ∀ (k : Nat) (hk : k < X.length), k < j + 1 → ¬ (tq < X[k].e ∧ X[k].s < tq + n0)) := Lib.hid (fun h k hk hkl => by
        rcases Nat.lt_or_ge k j with h1 | h1
        · exact HJ.out k hk h1
        · obtain rfl : k = j := by omega
          exact h)
      have hno := HF.out j hjX
      generalize X[j] = y at *
      obtain ⟨s1, e1, q1, sh1, b1, o1⟩ := y
      simp only at c0 c1 c2 c3 c4 c5 z1 z2 z3 HJ2 hno
      clear c2 c3 c4 c5
      by_cases t1 : tq < e1
      · by_cases t2 : s1 < tq + n0
        · exact absurd ⟨t1, t2⟩ hno
        · exfalso; omega
      · go_wp2_with fail
        go_roundg (m - (j + 1))
        case measure => omega
        case rel => exact ⟨j + 1, by omega, by omega, by go_num, rfl, Lib.hid (HJ2.out (fun k => by omega))⟩
    · obtain rfl : j = m := by omega
      clear HJ HF HN HAS hlt hj hg
      go_wp2_with fail
      refine (C1.out _ _ KX.out.holds).mono ?_
      rintro e w4 ⟨vKY, rfl, hmm, hb⟩
      have SZ := Lib.hid G.out.bel.size
      have G := Lib.hid ((G.out.still hb).add 31 #[.int .i64 e1, .int .i64 x1, .int .i64 0, .bool false, .int .i64 0, .int .i64 0])
      have BN := Lib.hid (below_new w4 (.cells #[.int .i64 e1, .int .i64 x1, .int .i64 0, .bool false, .int .i64 0, .int .i64 0] 31))
      have KX := Lib.hid ((KX.out.still hb).still BN.out)
      have KY := Lib.hid ((hmm.base SZ.out).still BN.out)
      clear hb hmm C1 SZ BN g0 g1
      go_upto_region 15 with (fail)
      generalize hw4 : World.alloc w4 _ = w5 at *
      clear hw4
      generalize w4.heap.size = qb at *
      obtain ⟨d0, d1, d2, d3, d4, d5⟩ := row6 G.out.v0
      clear d2 d3 d4 d5
      go_wp2_with fail
      go_ret
      exact ⟨rfl, G.out.bel⟩

set_option maxRecDepth 4000 in
set_option maxHeartbeats 8000000 in
theorem there_back (l : List Ar) (v : Value) (at' pg : Int) (w : World) (hl : l.length ≤ 30) (hA : Holds w v l) (hne : someL l ≠ []) (h0 : 0 ≤ at') (h1 : at' ≤ 255) (p0 : 0 ≤ pg) (p1 : pg ≤ 65535) (hfr : ∀ (i : Nat) (_ : at' % ((someL l).length : Int) = (i : Int)) (_ : i < (someL l).length), ∀ x ∈ someL l, ¬ (4096 * (16 + pg % 496) < x.e ∧ x.s < 4096 * (16 + pg % 496) + ((someL l)[i].e - (someL l)[i].s))) (hfar : ∀ (i : Nat) (_ : at' % ((someL l).length : Int) = (i : Int)) (_ : i < (someL l).length), ¬ 2097152 < 4096 * (16 + pg % 496) + ((someL l)[i].e - (someL l)[i].s)) :
    Calls Try.prog 4 #[v, .int .u8 at', .int .u16 pg] w fun e w' => e = .returned (.bool true) ∧ Below w.heap.size w w' := by
  have W0 := Lib.hid rm_awake
  have G := Lib.hid (Bag.new w)
  have KL := hA
  have KL := Lib.hid KL
  have CS : Hid (∀ w' u, Holds w' u l → Calls Try.prog 9 #[u] w' fun e w'' => ∃ v', e = .returned v' ∧ Mine w'.heap.size w'' v' (someL l) ∧ Below w'.heap.size w' w'') := Lib.hid (fun w' u h => some_c h (by omega))
  have hX := someL_may l
  generalize someL l = X at *
  have hm0 : 0 < X.length := List.length_pos_iff.2 hne
  obtain ⟨i, hi⟩ : ∃ i : Nat, at'.tmod (X.length : Int) = (i : Int) := ⟨(at'.tmod (X.length : Int)).toNat, by rw [Int.tmod_eq_emod_of_nonneg h0]; have := Int.emod_nonneg at' (b := (X.length : Int)) (by omega); omega⟩
  have hil : i < X.length := by rw [Int.tmod_eq_emod_of_nonneg h0] at hi; have := Int.emod_lt_of_pos at' (b := (X.length : Int)) (by omega); omega
  have hin : X[i] ∈ X := List.getElem_mem hil
  have hfa := formed_num (right_formed hX.1 _ hin)
  have hXl : X.length ≤ 10000 := by have := hX.2; omega
  have KB : Hid (∀ W B, Mine w.heap.size W B X → ∃ b off cap, B = .slice (some ⟨b, off, none⟩) X.length cap ∧ b < W.heap.size ∧ ∀ W', Below W.heap.size W W' → ∀ k (hk : k < X.length), AreaAt W' b (off + k * 6) X[k]) := Lib.hid (fun W B h => by
    obtain ⟨A, c, rfl, hc, hA⟩ := h.holds
    rcases hA with hnl | ⟨b, off, rfl, hb, hcs⟩
    · exact absurd hnl hne
    · exact ⟨b, off, c, rfl, hb, fun W' hB k hk => (hcs k hk).below hB hb⟩)
  have hi2 : at' % (X.length : Int) = (i : Int) := by rw [← Int.tmod_eq_emod_of_nonneg h0]; exact hi
  have hp2 : pg.tmod 496 = pg % 496 := Int.tmod_eq_emod_of_nonneg p0
  have hp3 : 0 ≤ pg % 496 ∧ pg % 496 ≤ 495 := by omega
  have hfr2 := hfr i hi2 hil
  have HF : Hid (∀ (k : Nat) (hk : k < X.length), ¬ (4096 * (16 + pg % 496) < X[k].e ∧ X[k].s < 4096 * (16 + pg % 496) + (X[i].e - X[i].s))) := Lib.hid (fun k hk => hfr2 X[k] (List.getElem_mem hk))
  have hto : 65536 ≤ 4096 * (16 + pg % 496) ∧ 4096 * (16 + pg % 496) % 4096 = 0 := by omega
  have hth := there_is hX hin hto.1 hto.2 hfr2
  have hfar2 := hfar i hi2 hil
  clear hfr hfar hfr2
  obtain ⟨Y, hY, hr1, hr2⟩ : ∃ Y, MayL Y ∧ rmR X ⟨0, X[i].s, X[i].e - X[i].s, X[i].e - X[i].s, 4096 * (16 + pg % 496), 0, 17, 0, 0⟩ = (Y, 0, 4096 * (16 + pg % 496)) ∧ rmR Y ⟨0, 4096 * (16 + pg % 496), X[i].e - X[i].s, X[i].e - X[i].s, X[i].s, 0, 17, 0, 0⟩ = (X, 0, X[i].s) := by
    rcases hth with ⟨h, _⟩ | h
    · exact absurd h hfar2
    · exact h
  have C1 := Lib.hid (fun w' u (h : Holds w' u X) => remap_c h hXl ⟨0, X[i].s, X[i].e - X[i].s, X[i].e - X[i].s, 4096 * (16 + pg % 496), 0, 17, 0, 0⟩)
  have C2 := Lib.hid (fun w' u (h : Holds w' u Y) => remap_c h (by have := hY.2; omega) ⟨0, 4096 * (16 + pg % 496), X[i].e - X[i].s, X[i].e - X[i].s, X[i].s, 0, 17, 0, 0⟩)
  rw [hr1] at C1
  rw [hr2] at C2
  have CQ : Hid (∀ w' u u', Holds w' u X → Holds w' u' X → Calls Try.prog 11 #[u, u'] w' fun e w'' => e = .returned (.bool true) ∧ Below w'.heap.size w' w'') := Lib.hid (fun w' u u' h h' => same_c h h' rfl hX.1)
  clear hth hr1 hr2 hY hfar2
  have HN : Hid (∀ (k : Nat) (hk : k < X.length), X[k].s < X[k].e ∧ 65536 ≤ X[k].s ∧ X[k].e ≤ 2097152) := Lib.hid (fun k hk => by have := formed_num (right_formed hX.1 X[k] (List.getElem_mem hk)); omega)
  have HAI : Hid (∀ (a : Ar), a = X[i] → ∀ (W' : World) (b off : Nat), AreaAt W' b (off + i * 6) X[i] → AreaAt W' b (off + i * 6) a) := Lib.hid (fun a e W' b off h => by rw [e]; exact h)
  obtain ⟨n0, hn0⟩ : ∃ n0, X[i].e - X[i].s = n0 := ⟨_, rfl⟩
  rw [hn0] at HF C1 C2
  have hXl : X.length ≤ 24 := hX.2
  clear hX hne hin
  obtain ⟨a, ha⟩ : ∃ a, a = X[i] := ⟨_, rfl⟩
  have HAI := Lib.hid (HAI.out a ha)
  rw [← ha] at hn0 hfa C1 C2
  generalize hpr : pg % 496 = r at *
  obtain ⟨hp31, hp32⟩ := hp3
  obtain ⟨tq, htq⟩ : ∃ tq, 4096 * (16 + r) = tq := ⟨_, rfl⟩
  have htq2 : 65536 ≤ tq ∧ tq ≤ 2093056 := by omega
  rw [htq] at HF C1 C2
  clear ha hpr hi2 hto
  obtain ⟨s0, e0, q0, sh0, b0, o0⟩ := a
  simp only at hn0 hfa
  obtain ⟨k1, k2, k3, _⟩ := hfa
  have hn1 : 4096 ≤ n0 ∧ n0 ≤ 2031616 := by omega
  obtain ⟨m, hm⟩ : ∃ m : Nat, X.length = m := ⟨_, rfl⟩
  have HM := Lib.hid hm
  rw [hm] at hi hil hm0 hXl
  clear hm
  have hz1 : ¬ (m : Int) = 0 := by omega
  have hz2 : ((m : Int) == 0) = false := by simpa using hz1
  have hz3 : (i : Int) < (m : Int) := by omega
  have hz4 : (0 : Int) ≤ (i : Int) := by omega
  have hz5 : ¬ (m : Int) = -1 := by omega
  unfold Cl.v Cl.cells Gives ansV ansC at C1
  simp only at C1
  unfold Cl.v Cl.cells Gives ansV ansC at C2
  simp only at C2
  obtain ⟨A, cc, rfl⟩ := hA.is
  clear hA
  generalize hn : l.length = n at *
  clear hn
  have hz : ¬ (30 : Int) < (n : Int) := by omega
  go_enter Try.func4, Try.ntmps4
  go_wp2_with fail
  refine (W0.out _).mono ?_
  rintro e w1 ⟨rfl, hb⟩
  have G := Lib.hid (G.out.still hb)
  have KL := Lib.hid (KL.out.still hb)
  clear hb
  go_wp2_with fail
  refine (CS.out _ _ KL.out).mono ?_
  rintro e w2 ⟨vx, rfl, hm, hb⟩
  have SZ := Lib.hid G.out.bel.size
  have G := Lib.hid (G.out.still hb)
  have KX := Lib.hid (hm.base SZ.out)
  clear hb hm CS KL SZ
  obtain ⟨b, off, cap, rfl, hbl, HAT⟩ := KB.out _ _ KX.out
  clear KB
  obtain ⟨c0, c1, c2, c3, c4, c5⟩ := HAI.out _ _ _ (HAT _ (Below.refl _ _) i (by rw [HM.out]; exact hil))
  simp only at c0 c1 c2 c3 c4 c5
  have BN := Lib.hid (below_new w2 (.cells #[.int .i64 s0, .int .i64 e0, .int .i64 q0, .bool sh0, .int .i64 b0, .int .i64 o0] 26))
  have G := Lib.hid (G.out.add 26 #[.int .i64 s0, .int .i64 e0, .int .i64 q0, .bool sh0, .int .i64 b0, .int .i64 o0])
  have KX := Lib.hid (KX.out.still BN.out)
  have HAS := Lib.hid (HAT _ BN.out)
  rw [HM.out] at KX ⊢
  clear BN HAI HAT
  go_upto_region 7 with (fail)
  clear c0 c1 c2 c3 c4 c5
  generalize hw : World.alloc w2 _ = w3 at *
  clear hw
  generalize w2.heap.size = qa at *
  obtain ⟨g0, g1, g2, g3, g4, g5⟩ := row6 G.out.v0
  go_upto_region 9 with (fail)
  clear g2 g3 g4 g5
  go_wp2_with fail
  go_loopg [11] m (fun g s11 wr => ∃ j : Nat, j ≤ m ∧ m - j ≤ g ∧ s11 = .int .i64 j ∧ wr = w3 ∧ Hid (∀ (k : Nat) (hk : k < X.length), k < j → ¬ (tq < X[k].e ∧ X[k].s < tq + n0)))
  case atStart => exact ⟨0, by omega, by omega, by rfl, rfl, Lib.hid (fun k hk h => by omega)⟩
  case round =>
    obtain ⟨j, hj, hg, rfl, rfl, HJ⟩ := hrel
    by_cases hlt : j < m
    · have hz6 : (j : Int) < (m : Int) := by omega
      have hz7 : (0 : Int) ≤ (j : Int) := by omega
      have hjX : j < X.length := by rw [HM.out]; exact hlt
      obtain ⟨c0, c1, c2, c3, c4, c5⟩ := HAS.out j hjX
      obtain ⟨z1, z2, z3⟩ := HN.out j hjX
      have HJ2 : Hid (¬ (tq < X[j].e ∧ X[j].s < tq + n0) → ∀ (k : Nat) (hk : k < X.length), k < j + 1 → ¬ (tq < X[k].e ∧ X[k].s < tq + n0)) := Lib.hid (fun h k hk hkl => by
        rcases Nat.lt_or_ge k j with h1 | h1
        · exact HJ.out k hk h1
        · obtain rfl : k = j := by omega
          exact h)
      have hno := HF.out j hjX
      generalize X[j] = y at *
      obtain ⟨s1, e1, q1, sh1, b1, o1⟩ := y
      simp only at c0 c1 c2 c3 c4 c5 z1 z2 z3 HJ2 hno
      clear c2 c3 c4 c5
      by_cases t1 : tq < e1
      · by_cases t2 : s1 < tq + n0
        · exact absurd ⟨t1, t2⟩ hno
        · go_wp2_with fail
          go_roundg (m - (j + 1))
          case measure => omega
          case rel => exact ⟨j + 1, by omega, by omega, by go_num, rfl, Lib.hid (HJ2.out (fun k => by omega))⟩
      · go_wp2_with fail
        go_roundg (m - (j + 1))
        case measure => omega
        case rel => exact ⟨j + 1, by omega, by omega, by go_num, rfl, Lib.hid (HJ2.out (fun k => by omega))⟩
    · obtain rfl : j = m := by omega
      clear HJ HF HN HAS hlt hj hg
      go_wp2_with fail
      refine (C1.out _ _ KX.out.holds).mono ?_
      rintro e w4 ⟨vKY, rfl, hmm, hb⟩
      have SZ := Lib.hid G.out.bel.size
      have G := Lib.hid ((G.out.still hb).add 31 #[.int .i64 0, .int .i64 tq, .int .i64 0, .bool false, .int .i64 0, .int .i64 0])
      have BN := Lib.hid (below_new w4 (.cells #[.int .i64 0, .int .i64 tq, .int .i64 0, .bool false, .int .i64 0, .int .i64 0] 31))
      have KX := Lib.hid ((KX.out.still hb).still BN.out)
      have KY := Lib.hid ((hmm.base SZ.out).still BN.out)
      clear hb hmm C1 SZ BN g0 g1
      go_upto_region 15 with (fail)
      generalize hw4 : World.alloc w4 _ = w5 at *
      clear hw4
      generalize w4.heap.size = qb at *
      obtain ⟨d0, d1, d2, d3, d4, d5⟩ := row6 G.out.v0
      clear d2 d3 d4 d5
      obtain ⟨g0, g1, g2, g3, g4, g5⟩ := row6 G.out.v1
      clear g2 g3 g4 g5
      go_wp2_with fail
      refine (C2.out _ _ KY.out.holds).mono ?_
      rintro e w6 ⟨vKZ, rfl, hmm, hb⟩
      have SZ := Lib.hid G.out.bel.size
      have G := Lib.hid ((G.out.still hb).add 31 #[.int .i64 0, .int .i64 s0, .int .i64 0, .bool false, .int .i64 0, .int .i64 0])
      have BN := Lib.hid (below_new w6 (.cells #[.int .i64 0, .int .i64 s0, .int .i64 0, .bool false, .int .i64 0, .int .i64 0] 31))
      have KX := Lib.hid ((KX.out.still hb).still BN.out)
      have KZ := Lib.hid ((hmm.base SZ.out).still BN.out)
      clear hb hmm C2 SZ BN KY g0 g1 d0 d1
      go_upto_region 18 with (fail)
      generalize hw6 : World.alloc w6 _ = w7 at *
      clear hw6
      generalize w6.heap.size = qc at *
      obtain ⟨d0, d1, d2, d3, d4, d5⟩ := row6 G.out.v0
      obtain ⟨f0, f1, f2, f3, f4, f5⟩ := row6 G.out.v1
      obtain ⟨g0, g1, g2, g3, g4, g5⟩ := row6 G.out.v2
      clear g2 g3 g4 g5 f2 f3 f4 f5
      go_wp2_with fail
      refine (CQ.out _ _ _ KX.out.holds KZ.out.holds).mono ?_
      rintro e w8 ⟨rfl, hb⟩
      have G := Lib.hid (G.out.still hb)
      clear hb
      go_wp2_with fail
      go_ret
      exact ⟨rfl, G.out.bel⟩

theorem there_any (l : List Ar) (v : Value) (at' pg : Int) (h0 : 0 ≤ at') (h1 : at' ≤ 255) (p0 : 0 ≤ pg) (p1 : pg ≤ 65535) (w : World) (hA : Holds w v l) :
    Calls Try.prog 4 #[v, .int .u8 at', .int .u16 pg] w fun e w' => e = .returned (.bool true) ∧ Below w.heap.size w w' := by
  by_cases hl : l.length ≤ 30
  · by_cases hX : someL l = []
    · exact there_none l v at' pg w hl hA hX
    · by_cases hfr : ∀ (i : Nat) (_ : at' % ((someL l).length : Int) = (i : Int)) (_ : i < (someL l).length), ∀ x ∈ someL l, ¬ (4096 * (16 + pg % 496) < x.e ∧ x.s < 4096 * (16 + pg % 496) + ((someL l)[i].e - (someL l)[i].s))
      · by_cases hfar : ∀ (i : Nat) (_ : at' % ((someL l).length : Int) = (i : Int)) (_ : i < (someL l).length), 2097152 < 4096 * (16 + pg % 496) + ((someL l)[i].e - (someL l)[i].s)
        · exact there_far l v at' pg w hl hA hX h0 h1 p0 p1 hfr hfar
        · refine there_back l v at' pg w hl hA hX h0 h1 p0 p1 hfr fun i e1 e2 hlt => hfar fun i' e3 e4 => ?_
          obtain rfl : i' = i := by omega
          exact hlt
      · exact there_hit l v at' pg w hl hA hX h0 h1 p0 p1 hfr
  · obtain ⟨A, cc, rfl⟩ := hA.is
    exact there_many A l.length cc at' pg w (by omega)
end Go.Proofs.Ytbfphoajllmcpaa
