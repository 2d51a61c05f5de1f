/-
  Layer 8: what is put where there was room fits there no more, and the gaps are less by it.
-/
import Derived.Test.YtmppodobgkhojaaGapTakenPure
namespace Go.Proofs.Ytmppodobgkhojaa
open Go.ChangeShapes Go.WideShapes Go.ChangeAt Go.RowKit Go.Shelf
set_option linter.unusedVariables false
attribute [local go_sem ↓] Go.wp_at_zero Go.wp_at_succ

set_option maxHeartbeats 2000000 in
theorem taken_many (A : Option Addr) (n c : Nat) (pg : Int) (bo : Bool) (w : World) (hn : 20 < n) :
    Calls Try.prog 4 #[.slice A n c, .int .u8 pg, .bool bo] w fun e w' => e = .returned (.bool true) ∧ Below w.heap.size w w' := by
  have W0 := Lib.hid gap_awake
  have hz : (20 : Int) < (n : Int) := by omega
  go_enter Try.func4, Try.ntmps4
  go_wp2_with fail
  refine (W0.out _).mono ?_
  rintro e w1 ⟨rfl, hb1⟩
  have B1 := Lib.hid hb1
  clear hb1
  go_wp2_with fail
  refine (W0.out _).mono ?_
  rintro e w2 ⟨rfl, hb2⟩
  have B2 := Lib.hid (below_then B1.out hb2 (Nat.le_refl _))
  clear hb2
  go_wp2_with fail
  go_ret
  exact ⟨rfl, B2.out⟩

/-- What is asked of what was chosen. -/
structure Taken (X : List Ar) (n a : Int) (Y : List Ar) : Prop where
  put : ∀ w' u, Holds w' u X → Calls Try.prog 17 #[u, .agg #[.int .i64 a, .int .i64 (a + n), .int .i64 1, .bool false, .int .i64 0, .int .i64 0]] w' fun e w'' => ∃ v', e = .returned v' ∧ Holds w'' v' Y ∧ Below w'.heap.size w' w''
  one : ∀ w' u, Holds w' u Y → Calls Try.prog 18 #[u, .int .i64 a, .int .i64 n] w' fun e w'' => e = .returned (.bool false) ∧ Below w'.heap.size w' w''
  two : ∀ w' u, Holds w' u Y → Calls Try.prog 18 #[u, .int .i64 a, .int .i64 4096] w' fun e w'' => e = .returned (.bool false) ∧ Below w'.heap.size w' w''
  sum : sumL Y = sumL X + n
  py : ∀ w' u, Holds w' u Y → Calls Try.prog 12 #[u] w' fun e w'' => e = .returned (.int .i64 (sumL Y / 4096)) ∧ Below w'.heap.size w' w''
  px : ∀ w' u, Holds w' u X → Calls Try.prog 12 #[u] w' fun e w'' => e = .returned (.int .i64 (sumL X / 4096)) ∧ Below w'.heap.size w' w''
  sx : 0 ≤ sumL X ∧ sumL X ≤ 2097152
  num : 65536 ≤ a ∧ a + n ≤ 2097152
theorem taken_of {X : List Ar} (hX : RightL X) {lo hi n a : Int} (h : May X lo hi n a) : ∃ Y, Taken X n a Y := by
  have hn := may_num h
  have ha : Formed ⟨a, a + n, 1, false, 0, 0⟩ := taken_formed hn.1 hn.2.1 hn.2.2.1 hn.2.2.2.1 hn.2.2.2.2
  have hr := putC_right hX ha
  have hyl : (putC X ⟨a, a + n, 1, false, 0, 0⟩).length ≤ 10000 := by have := right_len hr; omega
  refine ⟨putC X ⟨a, a + n, 1, false, 0, 0⟩, fun w' u hu => put_c hu hX ha, fun w' u hu => fits_no hu hyl (taken_no hX ha n), fun w' u hu => fits_no hu hyl (taken_no hX ha 4096), ?_, fun w' u hu => pages_c hu hr, fun w' u hu => pages_c hu hX, ?_, hn.1, hn.2.1⟩
  · have := taken_sum hX ha (by simp only; rw [show a + n - a = n by omega]; exact h.1)
    rw [this]; simp only; omega
  · exact sums_from' hX
theorem most_lt {X : List Ar} {n : Int} (h1 : 1 ≤ n) (h2 : n % 4096 = 0) (h : ∀ b, ¬ May X 0 2097152 n b) : mostL (gapsL X) < n := by
  rcases Int.lt_or_le (mostL (gapsL X)) n with hl | hl
  · exact hl
  · exfalso
    obtain ⟨b, ⟨f1, f2, f3, g, hg, f4, f5⟩, h3, h4⟩ := most_fits (l := X) (by omega)
    exact h b ⟨⟨f1, h1, h2, g, hg, f4, by omega⟩, h3, by omega⟩

set_option maxRecDepth 4000 in
set_option maxHeartbeats 4000000 in
theorem taken_few (l : List Ar) (v : Value) (pg : Int) (hp0 : 0 ≤ pg) (hp1 : pg ≤ 255) (bo : Bool) (w : World) (hl : l.length ≤ 20) (hA : Holds w v l) :
    Calls Try.prog 4 #[v, .int .u8 pg, .bool bo] w fun e w' => e = .returned (.bool true) ∧ Below w.heap.size w w' := by
  have W0 := Lib.hid gap_awake
  have KL := Lib.hid hA
  have CM : Hid (∀ w' u, Holds w' u l → Calls Try.prog 11 #[u] w' fun e w'' => ∃ v', e = .returned v' ∧ Holds w'' v' (madeL l) ∧ Below w'.heap.size w' w'') := Lib.hid (fun w' u h => made_c h (by omega))
  have hX := madeL_right l
  have hXl : (madeL l).length ≤ 10000 := by have := right_len hX; omega
  generalize madeL l = X at *
  obtain ⟨n, hn⟩ : ∃ n, 4096 * (1 + pg) = n := ⟨_, rfl⟩
  have CH : Hid (∀ w' u, Holds w' u X → _) := Lib.hid (fun w' u h => highest_c h hXl 0 2097152 n (by omega))
  have CL : Hid (∀ w' u, Holds w' u X → _) := Lib.hid (fun w' u h => lowest_c h hXl 0 2097152 n)
  have CG : Hid (∀ w' u, Holds w' u X → _) := Lib.hid (fun w' u h => largest_c h hXl)
  obtain ⟨A, c, rfl⟩ := hA.is
  clear hA
  by_cases hex : ∃ b, May X 0 2097152 n b
  · obtain ⟨a, e1, m1⟩ : ∃ a, highOf n (roomsL 0 2097152 n X) = (a, true) ∧ May X 0 2097152 n a := by
      rcases high_is X 0 2097152 n with ⟨_, h⟩ | ⟨a, h1, h2, _⟩
      · obtain ⟨b, hb⟩ := hex; exact absurd hb (h b)
      · exact ⟨a, h1, h2⟩
    obtain ⟨a', e2, m2⟩ : ∃ a, lowOf (roomsL 0 2097152 n X) = (a, true) ∧ May X 0 2097152 n a := by
      rcases low_is X 0 2097152 n with ⟨_, h⟩ | ⟨a, h1, h2, _⟩
      · obtain ⟨b, hb⟩ := hex; exact absurd hb (h b)
      · exact ⟨a, h1, h2⟩
    rw [e1] at CH
    rw [e2] at CL
    obtain ⟨Y, hT⟩ := taken_of hX m1
    obtain ⟨Y', hT'⟩ := taken_of hX m2
    clear e1 e2 m1 m2 hex hX hXl
    generalize l.length = k at *
    cases bo with
    | false =>
      have CP := Lib.hid hT.put
      have CF1 := Lib.hid hT.one
      have CF2 := Lib.hid hT.two
      have PY := Lib.hid hT.py
      have PX := Lib.hid hT.px
      have hs := hT.sum
      have hsx := hT.sx
      have hnum := hT.num
      have hsy : sumL Y / 4096 = sumL X / 4096 + 1 + pg := by rw [hs]; omega
      rw [hsy] at PY
      clear hs hT hT'
      generalize hq : sumL X / 4096 = q at *
      have hqb : 0 ≤ q ∧ q ≤ 512 := by omega
      clear hq hsy hsx
      go_enter Try.func4, Try.ntmps4
      go_wp2_with fail
      refine (W0.out _).mono ?_
      rintro e w1 ⟨rfl, hb⟩
      have B := Lib.hid hb
      have K1 := Lib.hid (KL.out.still hb)
      clear hb KL
      go_wp2_with fail
      refine (CM.out _ _ K1.out).mono ?_
      rintro e w2 ⟨vx, rfl, hX, hb⟩
      have B := Lib.hid (below_then B.out hb (Nat.le_refl _))
      have KX := Lib.hid hX
      clear hb hX K1 CM
      go_wp2_with fail
      refine (CH.out _ _ KX.out).mono ?_
      rintro e w9 ⟨rfl, hb⟩
      have B := Lib.hid (below_then B.out hb (Nat.le_refl _))
      have KX := Lib.hid (KX.out.still hb)
      clear hb CH
      go_wp2_with fail
      refine (CP.out _ _ KX.out).mono ?_
      rintro e w9 ⟨vy, rfl, hY, hb⟩
      have B := Lib.hid (below_then B.out hb (Nat.le_refl _))
      have KX := Lib.hid (KX.out.still hb)
      have KY := Lib.hid hY
      clear hY
      clear hb CP
      go_wp2_with fail
      refine (CF1.out _ _ KY.out).mono ?_
      rintro e w9 ⟨rfl, hb⟩
      have B := Lib.hid (below_then B.out hb (Nat.le_refl _))
      have KX := Lib.hid (KX.out.still hb)
      have KY := Lib.hid (KY.out.still hb)
      clear hb CF1
      go_wp2_with fail
      refine (CF2.out _ _ KY.out).mono ?_
      rintro e w9 ⟨rfl, hb⟩
      have B := Lib.hid (below_then B.out hb (Nat.le_refl _))
      have KX := Lib.hid (KX.out.still hb)
      have KY := Lib.hid (KY.out.still hb)
      clear hb CF2
      go_wp2_with fail
      refine (PY.out _ _ KY.out).mono ?_
      rintro e w9 ⟨rfl, hb⟩
      have B := Lib.hid (below_then B.out hb (Nat.le_refl _))
      have KX := Lib.hid (KX.out.still hb)
      clear hb PY
      go_wp2_with fail
      refine (PX.out _ _ KX.out).mono ?_
      rintro e w9 ⟨rfl, hb⟩
      have B := Lib.hid (below_then B.out hb (Nat.le_refl _))
      clear hb PX
      go_wp2_with fail
      go_ret
      exact ⟨rfl, B.out⟩
    | true =>
      have CP := Lib.hid hT'.put
      have CF1 := Lib.hid hT'.one
      have CF2 := Lib.hid hT'.two
      have PY := Lib.hid hT'.py
      have PX := Lib.hid hT'.px
      have hs := hT'.sum
      have hsx := hT'.sx
      have hnum := hT'.num
      have hsy : sumL Y' / 4096 = sumL X / 4096 + 1 + pg := by rw [hs]; omega
      rw [hsy] at PY
      clear hs hT hT'
      generalize hq : sumL X / 4096 = q at *
      have hqb : 0 ≤ q ∧ q ≤ 512 := by omega
      clear hq hsy hsx
      go_enter Try.func4, Try.ntmps4
      go_wp2_with fail
      refine (W0.out _).mono ?_
      rintro e w1 ⟨rfl, hb⟩
      have B := Lib.hid hb
      have K1 := Lib.hid (KL.out.still hb)
      clear hb KL
      go_wp2_with fail
      refine (CM.out _ _ K1.out).mono ?_
      rintro e w2 ⟨vx, rfl, hX, hb⟩
      have B := Lib.hid (below_then B.out hb (Nat.le_refl _))
      have KX := Lib.hid hX
      clear hb hX K1 CM
      go_wp2_with fail
      refine (CH.out _ _ KX.out).mono ?_
      rintro e w9 ⟨rfl, hb⟩
      have B := Lib.hid (below_then B.out hb (Nat.le_refl _))
      have KX := Lib.hid (KX.out.still hb)
      clear hb CH
      go_wp2_with fail
      refine (CL.out _ _ KX.out).mono ?_
      rintro e w9 ⟨rfl, hb⟩
      have B := Lib.hid (below_then B.out hb (Nat.le_refl _))
      have KX := Lib.hid (KX.out.still hb)
      clear hb CL
      go_wp2_with fail
      refine (CP.out _ _ KX.out).mono ?_
      rintro e w9 ⟨vy, rfl, hY, hb⟩
      have B := Lib.hid (below_then B.out hb (Nat.le_refl _))
      have KX := Lib.hid (KX.out.still hb)
      have KY := Lib.hid hY
      clear hY
      clear hb CP
      go_wp2_with fail
      refine (CF1.out _ _ KY.out).mono ?_
      rintro e w9 ⟨rfl, hb⟩
      have B := Lib.hid (below_then B.out hb (Nat.le_refl _))
      have KX := Lib.hid (KX.out.still hb)
      have KY := Lib.hid (KY.out.still hb)
      clear hb CF1
      go_wp2_with fail
      refine (CF2.out _ _ KY.out).mono ?_
      rintro e w9 ⟨rfl, hb⟩
      have B := Lib.hid (below_then B.out hb (Nat.le_refl _))
      have KX := Lib.hid (KX.out.still hb)
      have KY := Lib.hid (KY.out.still hb)
      clear hb CF2
      go_wp2_with fail
      refine (PY.out _ _ KY.out).mono ?_
      rintro e w9 ⟨rfl, hb⟩
      have B := Lib.hid (below_then B.out hb (Nat.le_refl _))
      have KX := Lib.hid (KX.out.still hb)
      clear hb PY
      go_wp2_with fail
      refine (PX.out _ _ KX.out).mono ?_
      rintro e w9 ⟨rfl, hb⟩
      have B := Lib.hid (below_then B.out hb (Nat.le_refl _))
      clear hb PX
      go_wp2_with fail
      go_ret
      exact ⟨rfl, B.out⟩
  · have e1 : highOf n (roomsL 0 2097152 n X) = (0, false) := by
      rcases high_is X 0 2097152 n with ⟨h, _⟩ | ⟨a, _, h2, _⟩
      · exact h
      · exact absurd ⟨a, h2⟩ hex
    have e2 : lowOf (roomsL 0 2097152 n X) = (0, false) := by
      rcases low_is X 0 2097152 n with ⟨h, _⟩ | ⟨a, _, h2, _⟩
      · exact h
      · exact absurd ⟨a, h2⟩ hex
    have hm := most_lt (X := X) (n := n) (by omega) (by omega) (fun b hb => hex ⟨b, hb⟩)
    rw [e1] at CH
    rw [e2] at CL
    clear e1 e2 hex hX hXl
    generalize mostL (gapsL X) = M at *
    generalize l.length = k at *
    cases bo with
    | false =>
      go_enter Try.func4, Try.ntmps4
      go_wp2_with fail
      refine (W0.out _).mono ?_
      rintro e w1 ⟨rfl, hb⟩
      have B := Lib.hid hb
      have K1 := Lib.hid (KL.out.still hb)
      clear hb KL
      go_wp2_with fail
      refine (CM.out _ _ K1.out).mono ?_
      rintro e w2 ⟨vx, rfl, hX, hb⟩
      have B := Lib.hid (below_then B.out hb (Nat.le_refl _))
      have KX := Lib.hid hX
      clear hb hX K1 CM
      go_wp2_with fail
      refine (CH.out _ _ KX.out).mono ?_
      rintro e w9 ⟨rfl, hb⟩
      have B := Lib.hid (below_then B.out hb (Nat.le_refl _))
      have KX := Lib.hid (KX.out.still hb)
      clear hb CH
      go_wp2_with fail
      refine (CG.out _ _ KX.out).mono ?_
      rintro e w9 ⟨rfl, hb⟩
      have B := Lib.hid (below_then B.out hb (Nat.le_refl _))
      have KX := Lib.hid (KX.out.still hb)
      clear hb CG
      go_wp2_with fail
      go_ret
      exact ⟨rfl, B.out⟩
    | true =>
      go_enter Try.func4, Try.ntmps4
      go_wp2_with fail
      refine (W0.out _).mono ?_
      rintro e w1 ⟨rfl, hb⟩
      have B := Lib.hid hb
      have K1 := Lib.hid (KL.out.still hb)
      clear hb KL
      go_wp2_with fail
      refine (CM.out _ _ K1.out).mono ?_
      rintro e w2 ⟨vx, rfl, hX, hb⟩
      have B := Lib.hid (below_then B.out hb (Nat.le_refl _))
      have KX := Lib.hid hX
      clear hb hX K1 CM
      go_wp2_with fail
      refine (CH.out _ _ KX.out).mono ?_
      rintro e w9 ⟨rfl, hb⟩
      have B := Lib.hid (below_then B.out hb (Nat.le_refl _))
      have KX := Lib.hid (KX.out.still hb)
      clear hb CH
      go_wp2_with fail
      refine (CL.out _ _ KX.out).mono ?_
      rintro e w9 ⟨rfl, hb⟩
      have B := Lib.hid (below_then B.out hb (Nat.le_refl _))
      have KX := Lib.hid (KX.out.still hb)
      clear hb CL
      go_wp2_with fail
      refine (CG.out _ _ KX.out).mono ?_
      rintro e w9 ⟨rfl, hb⟩
      have B := Lib.hid (below_then B.out hb (Nat.le_refl _))
      have KX := Lib.hid (KX.out.still hb)
      clear hb CG
      go_wp2_with fail
      go_ret
      exact ⟨rfl, B.out⟩
theorem taken_any (l : List Ar) (v : Value) (pg : Int) (hp0 : 0 ≤ pg) (hp1 : pg ≤ 255) (bo : Bool) (w : World) (hA : Holds w v l) :
    Calls Try.prog 4 #[v, .int .u8 pg, .bool bo] w fun e w' => e = .returned (.bool true) ∧ Below w.heap.size w w' := by
  by_cases hn : l.length ≤ 20
  · exact taken_few l v pg hp0 hp1 bo w hn hA
  · obtain ⟨A, c, rfl⟩ := hA.is
    exact taken_many A l.length c pg bo w (by omega)
end Go.Proofs.Ytmppodobgkhojaa
