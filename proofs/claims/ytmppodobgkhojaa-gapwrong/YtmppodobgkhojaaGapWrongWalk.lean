/-
  Layer 8: of a list that isn't right nothing is told.
-/
import Derived.Test.YtmppodobgkhojaaGapLaw
import Derived.Test.YtmppodobgkhojaaListRefR
namespace Go.Proofs.Ytmppodobgkhojaa
open Go.ChangeShapes Go.WideShapes Go.ChangeAt Go.RowKit Go.Shelf
set_option linter.unusedVariables false
attribute [local go_sem ↓] Go.wp_at_zero Go.wp_at_succ

theorem wrong_gaps {l : List Ar} (h : ¬ RightL l) : gapsL l = [] := by unfold gapsL; rw [if_neg h]
theorem wrong_may {l : List Ar} (h : ¬ RightL l) (addr size : Int) : ¬ FitsAt l addr size := by
  rintro ⟨_, _, _, g, hg, _⟩
  rw [wrong_gaps h] at hg; cases hg
theorem wrong_low {l : List Ar} (h : ¬ RightL l) (lo hi size : Int) : lowOf (roomsL lo hi size l) = (0, false) := by
  rcases low_is l lo hi size with ⟨h1, _⟩ | ⟨a, _, h2, _⟩
  · exact h1
  · exact absurd h2.1 (wrong_may h _ _)
theorem wrong_high {l : List Ar} (h : ¬ RightL l) (lo hi size : Int) : highOf size (roomsL lo hi size l) = (0, false) := by
  rcases high_is l lo hi size with ⟨h1, _⟩ | ⟨a, _, h2, _⟩
  · exact h1
  · exact absurd h2.1 (wrong_may h _ _)

/-- An array of two numbers. -/
def two' (x y : Int) : Value := .agg #[.int .i64 x, .int .i64 y]

set_option maxHeartbeats 2000000 in
theorem wrong_many (A : Option Addr) (n c : Nat) (t0 t1 : Int) (w : World) (hn : 40 < n) :
    Calls Try.prog 8 #[.slice A n c, two' t0 t1] w fun e w' => e = .returned (.bool true) ∧ Below w.heap.size w w' := by
  have W0 := Lib.hid gap_awake
  have hz : (40 : Int) < (n : Int) := by omega
  unfold two'
  go_enter Try.func8, Try.ntmps8
  go_wp2_with fail
  refine (W0.out _).mono ?_
  rintro e w1 ⟨rfl, hb1⟩
  have B1 := Lib.hid (below_then (below_new w _) hb1 (Nat.le_refl _))
  clear hb1
  go_wp2_with fail
  refine (W0.out _).mono ?_
  rintro e w2 ⟨rfl, hb2⟩
  have B2 := Lib.hid (below_then B1.out hb2 (Nat.le_refl _))
  clear hb2
  go_wp2_with fail
  go_ret
  exact ⟨rfl, B2.out⟩
set_option maxHeartbeats 2000000 in
theorem wrong_right (l : List Ar) (v : Value) (t0 t1 : Int) (w : World) (hl : l.length ≤ 40) (hA : Holds w v l) (hr : RightL l) :
    Calls Try.prog 8 #[v, two' t0 t1] w fun e w' => e = .returned (.bool true) ∧ Below w.heap.size w w' := by
  have W0 := Lib.hid gap_awake
  have G0 := Lib.hid ((Bag.new w).add 45 #[.int .i64 t0, .int .i64 t1])
  have KL := Lib.hid (hA.still G0.out.bel)
  have CR : Hid (∀ w' u, Holds w' u l → Calls Try.prog 22 #[u] w' fun e w'' => e = .returned (.bool true) ∧ Below w'.heap.size w' w'') := Lib.hid (fun w' u h => by
    obtain ⟨A, c, rfl, hc, hA⟩ := h
    have := refRight_any A c l (by omega) w' hA
    rwa [decide_eq_true hr] at this)
  obtain ⟨A, c, rfl⟩ := hA.is
  clear hA hr
  generalize l.length = n at *
  have hz : ¬ (40 : Int) < (n : Int) := by omega
  unfold two'
  go_enter Try.func8, Try.ntmps8
  go_wp2_with fail
  refine (W0.out _).mono ?_
  rintro e w1 ⟨rfl, hb⟩
  have G1 := Lib.hid (G0.out.still hb)
  have K1 := Lib.hid (KL.out.still hb)
  clear hb G0 KL
  go_wp2_with fail
  refine (CR.out _ _ K1.out).mono ?_
  rintro e w2 ⟨rfl, hb⟩
  have G2 := Lib.hid (G1.out.still hb)
  clear hb G1 K1 CR
  go_wp2_with fail
  refine (W0.out _).mono ?_
  rintro e w3 ⟨rfl, hb⟩
  have G3 := Lib.hid (G2.out.still hb)
  clear hb G2
  go_wp2_with fail
  go_ret
  exact ⟨rfl, G3.out.bel⟩

set_option maxRecDepth 4000 in
set_option maxHeartbeats 4000000 in
theorem wrong_not (l : List Ar) (v : Value) (t0 t1 : Int) (w : World) (hl : l.length ≤ 40) (hA : Holds w v l) (hr : ¬ RightL l) :
    Calls Try.prog 8 #[v, two' t0 t1] w fun e w' => e = .returned (.bool true) ∧ Below w.heap.size w w' := by
  have W0 := Lib.hid gap_awake
  have G0 := Lib.hid ((Bag.new w).add 45 #[.int .i64 t0, .int .i64 t1])
  have KL := Lib.hid (hA.still G0.out.bel)
  have CR : Hid (∀ w' u, Holds w' u l → Calls Try.prog 22 #[u] w' fun e w'' => e = .returned (.bool false) ∧ Below w'.heap.size w' w'') := Lib.hid (fun w' u h => by
    obtain ⟨A, c, rfl, hc, hA⟩ := h
    have := refRight_any A c l (by omega) w' hA
    rwa [decide_eq_false hr] at this)
  have CL : Hid (∀ w' u, Holds w' u l → Calls Try.prog 15 #[u, .int .i64 t0, .int .i64 t1, .int .i64 4096] w' fun e w'' => e = .returned (.tuple #[.int .i64 0, .bool false]) ∧ Below w'.heap.size w' w'') := Lib.hid (fun w' u h => by
    have := lowest_c h (by omega) t0 t1 4096
    rwa [wrong_low hr] at this)
  have CH : Hid (∀ w' u, Holds w' u l → Calls Try.prog 14 #[u, .int .i64 t0, .int .i64 t1, .int .i64 4096] w' fun e w'' => e = .returned (.tuple #[.int .i64 0, .bool false]) ∧ Below w'.heap.size w' w'') := Lib.hid (fun w' u h => by
    have := highest_c h (by omega) t0 t1 4096 (by omega)
    rwa [wrong_high hr] at this)
  have CG : Hid (∀ w' u, Holds w' u l → Calls Try.prog 13 #[u] w' fun e w'' => ∃ A c, e = .returned (.slice A 0 c) ∧ Below w'.heap.size w' w'') := Lib.hid (fun w' u h => by
    refine (gaps_c h (by omega)).mono fun e w'' ⟨v', he, ⟨A, c, hv, _⟩, hb⟩ => ⟨A, c, ?_, hb⟩
    rw [he, hv, wrong_gaps hr]; rfl)
  have CM : Hid (∀ w' u, Holds w' u l → Calls Try.prog 16 #[u] w' fun e w'' => e = .returned (.int .i64 0) ∧ Below w'.heap.size w' w'') := Lib.hid (fun w' u h => by
    have := largest_c h (by omega)
    rwa [wrong_gaps hr] at this)
  have CF : Hid (∀ w' u, Holds w' u l → Calls Try.prog 18 #[u, .int .i64 t0, .int .i64 4096] w' fun e w'' => e = .returned (.bool false) ∧ Below w'.heap.size w' w'') := Lib.hid (fun w' u h => fits_no h (by omega) (wrong_may hr _ _))
  obtain ⟨A, c, rfl⟩ := hA.is
  clear hA hr
  generalize l.length = n at *
  have hz : ¬ (40 : Int) < (n : Int) := by omega
  unfold two'
  go_enter Try.func8, Try.ntmps8
  go_wp2_with fail
  refine (W0.out _).mono ?_
  rintro e w1 ⟨rfl, hb⟩
  have G := Lib.hid (G0.out.still hb)
  have K := Lib.hid (KL.out.still hb)
  clear hb G0 KL
  go_wp2_with fail
  refine (CR.out _ _ K.out).mono ?_
  rintro e w2 ⟨rfl, hb⟩
  have G := Lib.hid (G.out.still hb)
  have K := Lib.hid (K.out.still hb)
  clear hb CR
  have c0 := G.out.v0.cell 0
  have c1 := G.out.v0.cell 1
  simp at c0 c1
  go_wp2_with fail
  refine (CL.out _ _ K.out).mono ?_
  rintro e w3 ⟨rfl, hb⟩
  have G := Lib.hid (G.out.still hb)
  have K := Lib.hid (K.out.still hb)
  clear hb CL c0 c1
  have c0 := G.out.v0.cell 0
  have c1 := G.out.v0.cell 1
  simp at c0 c1
  go_wp2_with fail
  refine (CH.out _ _ K.out).mono ?_
  rintro e w3 ⟨rfl, hb⟩
  have G := Lib.hid (G.out.still hb)
  have K := Lib.hid (K.out.still hb)
  clear hb CH c0 c1
  have c0 := G.out.v0.cell 0
  have c1 := G.out.v0.cell 1
  simp at c0 c1
  go_wp2_with fail
  refine (CG.out _ _ K.out).mono ?_
  rintro e w3 ⟨A2, c2, rfl, hb⟩
  have G := Lib.hid (G.out.still hb)
  have K := Lib.hid (K.out.still hb)
  clear hb CG c0 c1
  have c0 := G.out.v0.cell 0
  have c1 := G.out.v0.cell 1
  simp at c0 c1
  go_wp2_with fail
  refine (CM.out _ _ K.out).mono ?_
  rintro e w3 ⟨rfl, hb⟩
  have G := Lib.hid (G.out.still hb)
  have K := Lib.hid (K.out.still hb)
  clear hb CM c0 c1
  have c0 := G.out.v0.cell 0
  have c1 := G.out.v0.cell 1
  simp at c0 c1
  go_wp2_with fail
  refine (CF.out _ _ K.out).mono ?_
  rintro e w3 ⟨rfl, hb⟩
  have G := Lib.hid (G.out.still hb)
  have K := Lib.hid (K.out.still hb)
  clear hb CF c0 c1
  have c0 := G.out.v0.cell 0
  have c1 := G.out.v0.cell 1
  simp at c0 c1
  go_wp2_with fail
  go_ret
  exact ⟨rfl, G.out.bel⟩
theorem gwrong_any (l : List Ar) (v : Value) (t0 t1 : Int) (w : World) (hA : Holds w v l) :
    Calls Try.prog 8 #[v, two' t0 t1] w fun e w' => e = .returned (.bool true) ∧ Below w.heap.size w w' := by
  by_cases hn : l.length ≤ 40
  · by_cases hr : RightL l
    · exact wrong_right l v t0 t1 w hn hA hr
    · exact wrong_not l v t0 t1 w hn hA hr
  · obtain ⟨A, c, rfl⟩ := hA.is
    exact wrong_many A l.length c t0 t1 w (by omega)
end Go.Proofs.Ytmppodobgkhojaa
