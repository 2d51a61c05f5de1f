/-
  Layer 11: a range that is protected half by half is as at once.
-/
import Derived.Test.YtpekdbncgdlblaaPkPd
import Derived.BigQuiet
namespace Go.Proofs.Ytpekdbncgdlblaa
open Go.ChangeShapes Go.WideShapes Go.ChangeAt Go.RowKit Go.Shelf
set_option linter.unusedVariables false
attribute [local go_sem ↓] Go.wp_at_zero Go.wp_at_succ

/-- An array of four numbers of 8 bits. -/
def fourB (x y z u : Int) : Value := .agg #[.int .u8 x, .int .u8 y, .int .u8 z, .int .u8 u]
set_option maxHeartbeats 2000000 in
theorem halves_many (A : Option Addr) (n cc : Nat) (x y z u : Int) (w : World) (hn : 20 < n) :
    Calls Try.prog 3 #[.slice A n cc, fourB x y z u] w fun e w' => e = .returned (.bool true) ∧ Below w.heap.size w w' := by
  have W0 := Lib.hid prot_awake
  have G := Lib.hid ((Bag.new w).add 23 #[.int .u8 x, .int .u8 y, .int .u8 z, .int .u8 u])
  have hz : (20 : Int) < (n : Int) := by omega
  obtain ⟨b0, b1, b2, b3⟩ := row4 G.out.v0
  unfold fourB
  go_enter Try.func3, Try.ntmps3
  go_upto_region 1 with (fail)
  go_quiet (fail)
  clear b0 b1 b2 b3
  have G := Lib.hid (G.out.drewN nq)
  go_wp2_with fail
  refine (W0.out _).mono ?_
  rintro e w1 ⟨rfl, hb⟩
  have G := Lib.hid (G.out.still hb)
  clear hb
  go_wp2_with fail
  refine (W0.out _).mono ?_
  rintro e w2 ⟨rfl, hb⟩
  have G := Lib.hid (G.out.still hb)
  clear hb
  go_wp2_with fail
  go_ret
  exact ⟨rfl, G.out.bel⟩

set_option maxRecDepth 4000 in
set_option maxHeartbeats 8000000 in
theorem halves_few (l : List Ar) (v : Value) (x y z u : Int) (hx : 0 ≤ x ∧ x ≤ 255) (hy : 0 ≤ y ∧ y ≤ 255) (hz : 0 ≤ z ∧ z ≤ 255) (hu : 0 ≤ u ∧ u ≤ 255) (w : World) (hl : l.length ≤ 20) (hA : Holds w v l) :
    Calls Try.prog 3 #[v, fourB x y z u] w fun e w' => e = .returned (.bool true) ∧ Below w.heap.size w w' := by
  have W0 := Lib.hid prot_awake
  have G := Lib.hid ((Bag.new w).add 23 #[.int .u8 x, .int .u8 y, .int .u8 z, .int .u8 u])
  have KL := Lib.hid (hA.still G.out.bel)
  have CS : Hid (∀ w' u, Holds w' u l → Calls Try.prog 10 #[u] w' fun e w'' => ∃ v', e = .returned v' ∧ Mine w'.heap.size w'' v' (someL l) ∧ Below w'.heap.size w' w'') := Lib.hid (fun w' u h => some_c h (by omega))
  have hX := someL_may l
  generalize someL l = X at *
  have m0 : x.tmod 60 = x % 60 := Int.tmod_eq_emod_of_nonneg hx.1
  have m1 : y.tmod 40 = y % 40 := Int.tmod_eq_emod_of_nonneg hy.1
  have m3 : u.tmod 8 = u % 8 := Int.tmod_eq_emod_of_nonneg hu.1
  have r0 : 0 ≤ x % 60 ∧ x % 60 ≤ 59 := by omega
  have r1 : 0 ≤ y % 40 ∧ y % 40 ≤ 39 := by omega
  have r3 : 0 ≤ u % 8 ∧ u % 8 ≤ 7 := by omega
  generalize x % 60 = S at *
  generalize y % 40 = T at *
  generalize u % 8 = P at *
  obtain ⟨N, hN⟩ : ∃ N, 2 + T = N := ⟨_, rfl⟩
  have hN0 : 2 ≤ N ∧ N ≤ 41 := by omega
  have m2 : z.tmod (N - 1) = z % (N - 1) := Int.tmod_eq_emod_of_nonneg hz.1
  have r2 : 0 ≤ z % (N - 1) ∧ z % (N - 1) < N - 1 := ⟨Int.emod_nonneg _ (by omega), Int.emod_lt_of_pos _ (by omega)⟩
  generalize z % (N - 1) = Q at *
  obtain ⟨K, hK⟩ : ∃ K, 1 + Q = K := ⟨_, rfl⟩
  obtain ⟨B, hB⟩ : ∃ B, 16 + S = B := ⟨_, rfl⟩
  obtain ⟨a, ha⟩ : ∃ a, 4096 * B = a := ⟨_, rfl⟩
  obtain ⟨n1, hn1⟩ : ∃ n1, 4096 * N = n1 := ⟨_, rfl⟩
  obtain ⟨n2, hn2⟩ : ∃ n2, 4096 * K = n2 := ⟨_, rfl⟩
  obtain ⟨a3, ha3⟩ : ∃ a3, a + n2 = a3 := ⟨_, rfl⟩
  obtain ⟨D, hD⟩ : ∃ D, N - K = D := ⟨_, rfl⟩
  obtain ⟨n3, hn3⟩ : ∃ n3, 4096 * D = n3 := ⟨_, rfl⟩
  obtain ⟨p0, hp0⟩ : ∃ p0 : Nat, B = (p0 : Int) := ⟨B.toNat, by omega⟩
  obtain ⟨p1, hp1⟩ : ∃ p1 : Nat, B + K = (p1 : Int) := ⟨(B + K).toNat, by omega⟩
  obtain ⟨p2, hp2⟩ : ∃ p2 : Nat, B + N = (p2 : Int) := ⟨(B + N).toNat, by omega⟩
  have hfin := halves_is hX (c1 := ⟨0, a, n1, 0, 0, P, 0, 0, 0⟩) (c2 := ⟨0, a, n2, 0, 0, P, 0, 0, 0⟩) (c3 := ⟨0, a3, n3, 0, 0, P, 0, 0, 0⟩) (m0 := p0) (m1 := p1) (m2 := p2) ⟨by simp only; omega, by simp only; omega, by omega, by omega, by omega⟩ ⟨by simp only; omega, by simp only; omega, by omega, by omega, by omega⟩ ⟨by simp only; omega, by simp only; omega, by omega, by omega, by omega⟩ rfl rfl r3.1 r3.2
  have hXl : X.length ≤ 10000 := by have := hX.2; omega
  have hZl : (prtR X ⟨0, a, n2, 0, 0, P, 0, 0, 0⟩).1.length ≤ 10000 := by have := (prtR_may hX ⟨0, a, n2, 0, 0, P, 0, 0, 0⟩).2; omega
  obtain ⟨Y, ea, hr1⟩ : ∃ Y ea, prtR X ⟨0, a, n1, 0, 0, P, 0, 0, 0⟩ = (Y, ea) := ⟨_, _, rfl⟩
  obtain ⟨Z, eb, hr2⟩ : ∃ Z eb, prtR X ⟨0, a, n2, 0, 0, P, 0, 0, 0⟩ = (Z, eb) := ⟨_, _, rfl⟩
  rw [hr2] at hZl hfin
  simp only at hZl hfin
  obtain ⟨V, ec, hr3⟩ : ∃ V ec, prtR Z ⟨0, a3, n3, 0, 0, P, 0, 0, 0⟩ = (V, ec) := ⟨_, _, rfl⟩
  rw [hr1, hr3] at hfin
  simp only at hfin
  have C1 : Hid (∀ w' u, Holds w' u X → Calls Try.prog 11 #[u, .agg #[.int .i64 0, .int .i64 a, .int .i64 n1, .int .i64 0, .int .i64 0, .int .i64 P, .int .i64 0, .int .i64 0, .int .i64 0]] w' fun e w'' => ∃ v', e = .returned (.tuple #[v', .agg #[.int .i64 ea, .int .i64 0, .int .i64 0, .bool false, .int .i64 0, .int .i64 0]]) ∧ Mine w'.heap.size w'' v' Y ∧ Below w'.heap.size w' w'') := Lib.hid (fun w' u h => by
    have := protect_c h hXl ⟨0, a, n1, 0, 0, P, 0, 0, 0⟩
    rw [hr1] at this
    exact this)
  have C2 : Hid (∀ w' u, Holds w' u X → Calls Try.prog 11 #[u, .agg #[.int .i64 0, .int .i64 a, .int .i64 n2, .int .i64 0, .int .i64 0, .int .i64 P, .int .i64 0, .int .i64 0, .int .i64 0]] w' fun e w'' => ∃ v', e = .returned (.tuple #[v', .agg #[.int .i64 eb, .int .i64 0, .int .i64 0, .bool false, .int .i64 0, .int .i64 0]]) ∧ Mine w'.heap.size w'' v' Z ∧ Below w'.heap.size w' w'') := Lib.hid (fun w' u h => by
    have := protect_c h hXl ⟨0, a, n2, 0, 0, P, 0, 0, 0⟩
    rw [hr2] at this
    exact this)
  have C3 : Hid (∀ w' u, Holds w' u Z → Calls Try.prog 11 #[u, .agg #[.int .i64 0, .int .i64 a3, .int .i64 n3, .int .i64 0, .int .i64 0, .int .i64 P, .int .i64 0, .int .i64 0, .int .i64 0]] w' fun e w'' => ∃ v', e = .returned (.tuple #[v', .agg #[.int .i64 ec, .int .i64 0, .int .i64 0, .bool false, .int .i64 0, .int .i64 0]]) ∧ Mine w'.heap.size w'' v' V ∧ Below w'.heap.size w' w'') := Lib.hid (fun w' u h => by
    have := protect_c h hZl ⟨0, a3, n3, 0, 0, P, 0, 0, 0⟩
    rw [hr3] at this
    exact this)
  have HF := Lib.hid hfin
  have z1 : ¬ N - 1 = 0 := by omega
  have z2 : (N - 1 == 0) = false := by simpa using z1
  have z3 : ¬ N - 1 = -1 := by omega
  have hK0 : 1 ≤ K ∧ K ≤ 40 := by omega
  have hB0 : 16 ≤ B ∧ B ≤ 75 := by omega
  have ha0 : 65536 ≤ a ∧ a ≤ 307200 := by omega
  have hn10 : 8192 ≤ n1 ∧ n1 ≤ 167936 := by omega
  have hn20 : 4096 ≤ n2 ∧ n2 ≤ 163840 := by omega
  have ha30 : 69632 ≤ a3 ∧ a3 ≤ 475136 := by omega
  have hD0 : 1 ≤ D ∧ D ≤ 40 := by omega
  have hn30 : 4096 ≤ n3 ∧ n3 ≤ 163840 := by omega
  obtain ⟨hN1, hN2⟩ := hN0
  obtain ⟨hK1, hK2⟩ := hK0
  obtain ⟨hB1, hB2⟩ := hB0
  obtain ⟨ha1, ha2⟩ := ha0
  obtain ⟨hn11, hn12⟩ := hn10
  obtain ⟨hn21, hn22⟩ := hn20
  obtain ⟨ha31, ha32⟩ := ha30
  obtain ⟨hD1, hD2⟩ := hD0
  obtain ⟨hn31, hn32⟩ := hn30
  obtain ⟨r01, r02⟩ := r0
  obtain ⟨r11, r12⟩ := r1
  obtain ⟨r21, r22⟩ := r2
  obtain ⟨r31, r32⟩ := r3
  clear hX hXl hZl hfin hr1 hr2 hr3 hp0 hp1 hp2 hy
  obtain ⟨A, cc, rfl⟩ := hA.is
  clear hA
  generalize hn : l.length = n at *
  clear hn
  have hz20 : ¬ (20 : Int) < (n : Int) := by omega
  obtain ⟨b0, b1, b2, b3⟩ := row4 G.out.v0
  unfold fourB
  go_enter Try.func3, Try.ntmps3
  go_upto_region 1 with (fail)
  go_quiet (fail)
  clear b0 b1 b2 b3
  have G := Lib.hid (G.out.drewN nq)
  have KL := Lib.hid (KL.out.still (below_drewN (Below.refl _ _) nq))
  go_wp2_with fail
  refine (W0.out _).mono ?_
  rintro e w1 ⟨rfl, hb⟩
  have G := Lib.hid (G.out.still hb)
  have KL := Lib.hid (KL.out.still hb)
  clear hb
  go_wp2_with fail
  refine (CS.out _ _ KL.out).mono ?_
  rintro e w2 ⟨vx, rfl, hm, hb⟩
  have SZ := Lib.hid G.out.bel.size
  have G := Lib.hid (G.out.still hb)
  have KX := Lib.hid (hm.base SZ.out)
  clear hb hm CS KL SZ
  go_wp2_with fail
  refine (C1.out _ _ KX.out.holds).mono ?_
  rintro e w3 ⟨vKY, rfl, hm, hb⟩
  have SZ := Lib.hid G.out.bel.size
  have G := Lib.hid (G.out.still hb)
  have KX := Lib.hid (KX.out.still hb)
  have KY := Lib.hid (hm.base SZ.out)
  clear hb hm C1 SZ
  have BN := Lib.hid (below_new w3 (.cells #[.int .i64 ea, .int .i64 0, .int .i64 0, .bool false, .int .i64 0, .int .i64 0] 30))
  have G := Lib.hid (G.out.add 30 #[.int .i64 ea, .int .i64 0, .int .i64 0, .bool false, .int .i64 0, .int .i64 0])
  have KX := Lib.hid (KX.out.still BN.out)
  have KY := Lib.hid (KY.out.still BN.out)
  clear BN
  go_wp2_with fail
  refine (C2.out _ _ KX.out.holds).mono ?_
  rintro e w4 ⟨vKZ, rfl, hm, hb⟩
  have SZ := Lib.hid G.out.bel.size
  have G := Lib.hid (G.out.still hb)
  have KX := Lib.hid (KX.out.still hb)
  have KY := Lib.hid (KY.out.still hb)
  have KZ := Lib.hid (hm.base SZ.out)
  clear hb hm C2 SZ
  have BN := Lib.hid (below_new w4 (.cells #[.int .i64 eb, .int .i64 0, .int .i64 0, .bool false, .int .i64 0, .int .i64 0] 30))
  have G := Lib.hid (G.out.add 30 #[.int .i64 eb, .int .i64 0, .int .i64 0, .bool false, .int .i64 0, .int .i64 0])
  have KX := Lib.hid (KX.out.still BN.out)
  have KY := Lib.hid (KY.out.still BN.out)
  have KZ := Lib.hid (KZ.out.still BN.out)
  clear BN
  go_wp2_with fail
  refine (C3.out _ _ KZ.out.holds).mono ?_
  rintro e w5 ⟨vKV, rfl, hm, hb⟩
  have SZ := Lib.hid G.out.bel.size
  have G := Lib.hid (G.out.still hb)
  have KX := Lib.hid (KX.out.still hb)
  have KY := Lib.hid (KY.out.still hb)
  have KZ := Lib.hid (KZ.out.still hb)
  have KV := Lib.hid (hm.base SZ.out)
  clear hb hm C3 SZ
  have BN := Lib.hid (below_new w5 (.cells #[.int .i64 ec, .int .i64 0, .int .i64 0, .bool false, .int .i64 0, .int .i64 0] 30))
  have G := Lib.hid (G.out.add 30 #[.int .i64 ec, .int .i64 0, .int .i64 0, .bool false, .int .i64 0, .int .i64 0])
  have KX := Lib.hid (KX.out.still BN.out)
  have KY := Lib.hid (KY.out.still BN.out)
  have KZ := Lib.hid (KZ.out.still BN.out)
  have KV := Lib.hid (KV.out.still BN.out)
  clear BN
  obtain ⟨d0, _⟩ := row6 G.out.v0
  obtain ⟨e0, _⟩ := row6 G.out.v1
  obtain ⟨f0, _⟩ := row6 G.out.v2
  rcases HF.out with h9 | ⟨ha9, hbc⟩ | ⟨rfl, rfl, rfl, hYV, hYm⟩
  · clear HF
    by_cases k1 : ea = 9
    · subst k1
      go_wp2_with fail
      go_ret
      exact ⟨rfl, G.out.bel⟩
    · have k1' : (ea == 9) = false := by simpa using k1
      by_cases k2 : eb = 9
      · subst k2
        go_wp2_with fail
        go_ret
        exact ⟨rfl, G.out.bel⟩
      · have k2' : (eb == 9) = false := by simpa using k2
        obtain rfl : ec = 9 := by omega
        clear h9
        go_wp2_with fail
        go_ret
        exact ⟨rfl, G.out.bel⟩
  · have ha' : (ea != 0) = true := by simpa using ha9
    by_cases k1 : ea = 9
    · subst k1
      clear HF hbc
      go_wp2_with fail
      go_ret
      exact ⟨rfl, G.out.bel⟩
    · have k1' : (ea == 9) = false := by simpa using k1
      by_cases k2 : eb = 9
      · subst k2
        clear HF hbc
        go_wp2_with fail
        go_ret
        exact ⟨rfl, G.out.bel⟩
      · have k2' : (eb == 9) = false := by simpa using k2
        by_cases k3 : ec = 9
        · subst k3
          clear HF hbc
          go_wp2_with fail
          go_ret
          exact ⟨rfl, G.out.bel⟩
        · have k3' : (ec == 9) = false := by simpa using k3
          by_cases k4 : eb = 0
          · subst k4
            have k5 : ¬ ec = 0 := by omega
            have k5' : (ec != 0) = true := by simpa using k5
            clear HF hbc
            go_wp2_with fail
            go_ret
            exact ⟨rfl, G.out.bel⟩
          · have k4' : (eb != 0) = true := by simpa using k4
            clear HF hbc
            go_wp2_with fail
            go_ret
            exact ⟨rfl, G.out.bel⟩
  · have CQ : Hid (∀ w' u u', Holds w' u Y → Holds w' u' V → Calls Try.prog 12 #[u, u'] w' fun e w'' => e = .returned (.bool true) ∧ Below w'.heap.size w' w'') := Lib.hid (fun w' u u' h h' => same_c h h' hYV hYm.1)
    clear HF hYV hYm
    go_wp2_with fail
    refine (CQ.out _ _ _ KY.out.holds KV.out.holds).mono ?_
    rintro e w6 ⟨rfl, hb⟩
    have G := Lib.hid (G.out.still hb)
    have KX := Lib.hid (KX.out.still hb)
    have KY := Lib.hid (KY.out.still hb)
    have KZ := Lib.hid (KZ.out.still hb)
    have KV := Lib.hid (KV.out.still hb)
    clear hb
    go_wp2_with fail
    go_ret
    exact ⟨rfl, G.out.bel⟩

theorem halves_any (l : List Ar) (v : Value) (x y z u : Int) (hx : 0 ≤ x ∧ x ≤ 255) (hy : 0 ≤ y ∧ y ≤ 255) (hz : 0 ≤ z ∧ z ≤ 255) (hu : 0 ≤ u ∧ u ≤ 255) (w : World) (hA : Holds w v l) :
    Calls Try.prog 3 #[v, fourB x y z u] w fun e w' => e = .returned (.bool true) ∧ Below w.heap.size w w' := by
  by_cases hl : l.length ≤ 20
  · exact halves_few l v x y z u hx hy hz hu w hl hA
  · obtain ⟨A, cc, rfl⟩ := hA.is
    exact halves_many A l.length cc x y z u w (by omega)
end Go.Proofs.Ytpekdbncgdlblaa
