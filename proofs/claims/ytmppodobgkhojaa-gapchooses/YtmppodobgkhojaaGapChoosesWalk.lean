/-
  Layer 8: of all bounds and sizes the least, and the greatest, address with room is told, or that there is none.
-/
import Derived.Test.YtmppodobgkhojaaGapChoose
namespace Go.Proofs.Ytmppodobgkhojaa
open Go.ChangeShapes Go.WideShapes Go.ChangeAt Go.RowKit Go.Shelf
set_option linter.unusedVariables false
attribute [local go_sem ↓] Go.wp_at_zero Go.wp_at_succ

/-- An array of two numbers. -/
def twoV (t0 t1 : Int) : Value := .agg #[.int .i64 t0, .int .i64 t1]
set_option maxHeartbeats 4000000 in
theorem chooses_many (A : Option Addr) (n c : Nat) (t0 t1 size : Int) (w : World) (hn : 20 < n) :
    Calls Try.prog 7 #[.slice A n c, twoV t0 t1, .int .i64 size] w fun e w' => e = .returned (.bool true) ∧ Below w.heap.size w w' := by
  have W0 := Lib.hid gap_awake
  have G := Lib.hid ((Bag.new w).add 45 #[.int .i64 t0, .int .i64 t1])
  have hz : (20 : Int) < (n : Int) := by omega
  unfold twoV
  go_enter Try.func7, Try.ntmps7
  go_wp2_with fail
  refine (W0.out _).mono ?_
  rintro e w1 ⟨rfl, hb⟩
  have G := Lib.hid (G.out.still hb)
  clear hb
  go_wp2_with fail
  refine (W0.out _).mono ?_
  rintro e w2 ⟨rfl, hb⟩
  have G := Lib.hid (G.out.still hb)
  clear hb
  go_wp2_with fail
  go_ret
  exact ⟨rfl, G.out.bel⟩

theorem none_low {X : List Ar} {lo hi size : Int} (h : ∀ b, ¬ May X lo hi size b) : lowOf (roomsL lo hi size X) = (0, false) := by
  rcases low_is X lo hi size with ⟨h1, _⟩ | ⟨a, _, h2, _⟩
  · exact h1
  · exact absurd h2 (h a)
theorem none_high {X : List Ar} {lo hi size : Int} (h : ∀ b, ¬ May X lo hi size b) : highOf size (roomsL lo hi size X) = (0, false) := by
  rcases high_is X lo hi size with ⟨h1, _⟩ | ⟨a, _, h2, _⟩
  · exact h1
  · exact absurd h2 (h a)
theorem some_low {X : List Ar} {lo hi size a : Int} (h : May X lo hi size a) (k : ∀ x, May X lo hi size x → a ≤ x) : lowOf (roomsL lo hi size X) = (a, true) := by
  rcases low_is X lo hi size with ⟨_, h2⟩ | ⟨b, h1, h2, h3⟩
  · exact absurd h (h2 a)
  · have := k b h2
    have := h3 a h
    rw [h1]; congr 1; omega
theorem some_high {X : List Ar} {lo hi size a : Int} (h : May X lo hi size a) (k : ∀ x, May X lo hi size x → x ≤ a) : highOf size (roomsL lo hi size X) = (a, true) := by
  rcases high_is X lo hi size with ⟨_, h2⟩ | ⟨b, h1, h2, h3⟩
  · exact absurd h (h2 a)
  · have := k b h2
    have := h3 a h
    rw [h1]; congr 1; omega

set_option maxRecDepth 4000 in
set_option maxHeartbeats 8000000 in
theorem chooses_none (l : List Ar) (v : Value) (t0 t1 size : Int) (hs : size ≤ 9223372036854775807) (w : World) (hl : l.length ≤ 20) (hA : Holds w v l)
    (hno : ∀ b, ¬ May (madeL l) t0 t1 size b) :
    Calls Try.prog 7 #[v, twoV t0 t1, .int .i64 size] w fun e w' => e = .returned (.bool true) ∧ Below w.heap.size w w' := by
  have W0 := Lib.hid gap_awake
  have G := Lib.hid ((Bag.new w).add 45 #[.int .i64 t0, .int .i64 t1])
  have KL := Lib.hid (hA.still G.out.bel)
  have CM : Hid (∀ w' u, Holds w' u l → Calls Try.prog 11 #[u] w' fun e w'' => ∃ v', e = .returned v' ∧ Holds w'' v' (madeL l) ∧ Below w'.heap.size w' w'') := Lib.hid (fun w' u h => made_c h (by omega))
  have hX := madeL_right l
  have hXl : (madeL l).length ≤ 10000 := by have := right_len hX; omega
  generalize madeL l = X at *
  have CL : Hid (∀ w' u, Holds w' u X → Calls Try.prog 15 #[u, .int .i64 t0, .int .i64 t1, .int .i64 size] w' fun e w'' => e = .returned (.tuple #[.int .i64 0, .bool false]) ∧ Below w'.heap.size w' w'') := Lib.hid (fun w' u h => by
    have := lowest_c h hXl t0 t1 size
    rwa [none_low hno] at this)
  have CH : Hid (∀ w' u, Holds w' u X → Calls Try.prog 14 #[u, .int .i64 t0, .int .i64 t1, .int .i64 size] w' fun e w'' => e = .returned (.tuple #[.int .i64 0, .bool false]) ∧ Below w'.heap.size w' w'') := Lib.hid (fun w' u h => by
    have := highest_c h hXl t0 t1 size hs
    rwa [none_high hno] at this)
  have C1 : Hid (∀ w' u, Holds w' u X → Calls Try.prog 21 #[u, .int .i64 t0, .int .i64 t1, .int .i64 size, .bool false] w' fun e w'' => e = .returned (.int .i64 (-1)) ∧ Below w'.heap.size w' w'') := Lib.hid (fun w' u h => choose_c h hX t0 t1 size false (.inl ⟨rfl, hno⟩))
  have C2 : Hid (∀ w' u, Holds w' u X → Calls Try.prog 21 #[u, .int .i64 t0, .int .i64 t1, .int .i64 size, .bool true] w' fun e w'' => e = .returned (.int .i64 (-1)) ∧ Below w'.heap.size w' w'') := Lib.hid (fun w' u h => choose_c h hX t0 t1 size true (.inl ⟨rfl, hno⟩))
  clear hno
  obtain ⟨A, c, rfl⟩ := hA.is
  clear hA hX hXl hs
  generalize l.length = n at *
  have hz : ¬ (20 : Int) < (n : Int) := by omega
  unfold twoV
  go_enter Try.func7, Try.ntmps7
  go_wp2_with fail
  refine (W0.out _).mono ?_
  rintro e w1 ⟨rfl, hb⟩
  have G := Lib.hid (G.out.still hb)
  have KL := Lib.hid (KL.out.still hb)
  clear hb
  go_wp2_with fail
  refine (CM.out _ _ KL.out).mono ?_
  rintro e w2 ⟨vx, rfl, hX, hb⟩
  have G := Lib.hid (G.out.still hb)
  have KX := Lib.hid hX
  clear hb hX KL CM
  have c0 := G.out.v0.cell 0
  have c1 := G.out.v0.cell 1
  simp at c0 c1
  go_wp2_with fail
  go_quiet (fail)
  go_wp2_with fail
  refine (CL.out _ _ (KX.out.still (below_drewN (Below.refl _ _) _))).mono ?_
  rintro e w3 ⟨rfl, hb⟩
  have G := Lib.hid ((G.out.drewN _).still hb)
  have KX := Lib.hid ((KX.out.still (below_drewN (Below.refl _ _) _)).still hb)
  clear hb CL c0 c1
  go_wp2_with fail
  refine (CH.out _ _ KX.out).mono ?_
  rintro e w4 ⟨rfl, hb⟩
  have G := Lib.hid (G.out.still hb)
  have KX := Lib.hid (KX.out.still hb)
  clear hb CH
  go_wp2_with fail
  refine (C1.out _ _ KX.out).mono ?_
  rintro e w5 ⟨rfl, hb⟩
  have G := Lib.hid (G.out.still hb)
  have KX := Lib.hid (KX.out.still hb)
  clear hb C1
  go_wp2_with fail
  refine (C2.out _ _ KX.out).mono ?_
  rintro e w6 ⟨rfl, hb⟩
  have G := Lib.hid (G.out.still hb)
  have KX := Lib.hid (KX.out.still hb)
  clear hb C2
  go_wp2_with fail
  go_ret
  exact ⟨rfl, G.out.bel⟩

set_option maxRecDepth 4000 in
set_option maxHeartbeats 8000000 in
theorem chooses_some (l : List Ar) (v : Value) (t0 t1 size : Int) (hs : size ≤ 9223372036854775807) (w : World) (hl : l.length ≤ 20) (hA : Holds w v l)
    (a b : Int) (ha : May (madeL l) t0 t1 size a) (ha2 : ∀ x, May (madeL l) t0 t1 size x → a ≤ x) (hb : May (madeL l) t0 t1 size b) (hb2 : ∀ x, May (madeL l) t0 t1 size x → x ≤ b) :
    Calls Try.prog 7 #[v, twoV t0 t1, .int .i64 size] w fun e w' => e = .returned (.bool true) ∧ Below w.heap.size w w' := by
  have W0 := Lib.hid gap_awake
  have G := Lib.hid ((Bag.new w).add 45 #[.int .i64 t0, .int .i64 t1])
  have KL := Lib.hid (hA.still G.out.bel)
  have CM : Hid (∀ w' u, Holds w' u l → Calls Try.prog 11 #[u] w' fun e w'' => ∃ v', e = .returned v' ∧ Holds w'' v' (madeL l) ∧ Below w'.heap.size w' w'') := Lib.hid (fun w' u h => made_c h (by omega))
  have hX := madeL_right l
  have hXl : (madeL l).length ≤ 10000 := by have := right_len hX; omega
  generalize madeL l = X at *
  have CL : Hid (∀ w' u, Holds w' u X → Calls Try.prog 15 #[u, .int .i64 t0, .int .i64 t1, .int .i64 size] w' fun e w'' => e = .returned (.tuple #[.int .i64 a, .bool true]) ∧ Below w'.heap.size w' w'') := Lib.hid (fun w' u h => by
    have := lowest_c h hXl t0 t1 size
    rwa [some_low ha ha2] at this)
  have CH : Hid (∀ w' u, Holds w' u X → Calls Try.prog 14 #[u, .int .i64 t0, .int .i64 t1, .int .i64 size] w' fun e w'' => e = .returned (.tuple #[.int .i64 b, .bool true]) ∧ Below w'.heap.size w' w'') := Lib.hid (fun w' u h => by
    have := highest_c h hXl t0 t1 size hs
    rwa [some_high hb hb2] at this)
  have C1 : Hid (∀ w' u, Holds w' u X → Calls Try.prog 21 #[u, .int .i64 t0, .int .i64 t1, .int .i64 size, .bool false] w' fun e w'' => e = .returned (.int .i64 a) ∧ Below w'.heap.size w' w'') := Lib.hid (fun w' u h => choose_c h hX t0 t1 size false (low_best ha ha2))
  have C2 : Hid (∀ w' u, Holds w' u X → Calls Try.prog 21 #[u, .int .i64 t0, .int .i64 t1, .int .i64 size, .bool true] w' fun e w'' => e = .returned (.int .i64 b) ∧ Below w'.heap.size w' w'') := Lib.hid (fun w' u h => choose_c h hX t0 t1 size true (high_best hb hb2))
  have F1 : Hid (∀ w' u, Holds w' u X → Calls Try.prog 18 #[u, .int .i64 a, .int .i64 size] w' fun e w'' => e = .returned (.bool true) ∧ Below w'.heap.size w' w'') := Lib.hid (fun w' u h => fits_yes h hXl ha.1)
  have F2 : Hid (∀ w' u, Holds w' u X → Calls Try.prog 18 #[u, .int .i64 b, .int .i64 size] w' fun e w'' => e = .returned (.bool true) ∧ Below w'.heap.size w' w'') := Lib.hid (fun w' u h => fits_yes h hXl hb.1)
  have hab : a ≤ b := ha2 b hb
  have ha0 : 0 ≤ a := by have := may_num ha; omega
  have hb0 : 0 ≤ b := by have := may_num hb; omega
  have da0 : decide (0 ≤ a) = true := decide_eq_true ha0
  have db0 : decide (0 ≤ b) = true := decide_eq_true hb0
  have dab : decide (a ≤ b) = true := decide_eq_true hab
  clear ha ha2 hb hb2
  obtain ⟨A, c, rfl⟩ := hA.is
  clear hA hX hXl hs
  generalize l.length = n at *
  have hz : ¬ (20 : Int) < (n : Int) := by omega
  unfold twoV
  go_enter Try.func7, Try.ntmps7
  go_wp2_with fail
  refine (W0.out _).mono ?_
  rintro e w1 ⟨rfl, hb⟩
  have G := Lib.hid (G.out.still hb)
  have KL := Lib.hid (KL.out.still hb)
  clear hb
  go_wp2_with fail
  refine (CM.out _ _ KL.out).mono ?_
  rintro e w2 ⟨vx, rfl, hX, hb⟩
  have G := Lib.hid (G.out.still hb)
  have KX := Lib.hid hX
  clear hb hX KL CM
  have c0 := G.out.v0.cell 0
  have c1 := G.out.v0.cell 1
  simp at c0 c1
  go_wp2_with fail
  go_quiet (fail)
  go_wp2_with fail
  refine (CL.out _ _ (KX.out.still (below_drewN (Below.refl _ _) _))).mono ?_
  rintro e w3 ⟨rfl, hb⟩
  have G := Lib.hid ((G.out.drewN _).still hb)
  have KX := Lib.hid ((KX.out.still (below_drewN (Below.refl _ _) _)).still hb)
  clear hb CL c0 c1
  go_wp2_with fail
  refine (CH.out _ _ KX.out).mono ?_
  rintro e w4 ⟨rfl, hb⟩
  have G := Lib.hid (G.out.still hb)
  have KX := Lib.hid (KX.out.still hb)
  clear hb CH
  go_wp2_with fail
  refine (C1.out _ _ KX.out).mono ?_
  rintro e w5 ⟨rfl, hb⟩
  have G := Lib.hid (G.out.still hb)
  have KX := Lib.hid (KX.out.still hb)
  clear hb C1
  go_wp2_with fail
  refine (C2.out _ _ KX.out).mono ?_
  rintro e w6 ⟨rfl, hb⟩
  have G := Lib.hid (G.out.still hb)
  have KX := Lib.hid (KX.out.still hb)
  clear hb C2
  go_wp2_with fail
  refine (F1.out _ _ KX.out).mono ?_
  rintro e w7 ⟨rfl, hb⟩
  have G := Lib.hid (G.out.still hb)
  have KX := Lib.hid (KX.out.still hb)
  clear hb F1
  go_wp2_with fail
  refine (F2.out _ _ KX.out).mono ?_
  rintro e w8 ⟨rfl, hb⟩
  have G := Lib.hid (G.out.still hb)
  clear hb F2
  go_wp2_with fail
  go_ret
  exact ⟨rfl, G.out.bel⟩

theorem chooses_any (l : List Ar) (v : Value) (t0 t1 size : Int) (hs : size ≤ 9223372036854775807) (w : World) (hA : Holds w v l) :
    Calls Try.prog 7 #[v, twoV t0 t1, .int .i64 size] w fun e w' => e = .returned (.bool true) ∧ Below w.heap.size w w' := by
  by_cases hn : l.length ≤ 20
  · rcases low_is (madeL l) t0 t1 size with ⟨_, h2⟩ | ⟨a, h1, h2, h3⟩
    · exact chooses_none l v t0 t1 size hs w hn hA h2
    · rcases high_is (madeL l) t0 t1 size with ⟨_, k2⟩ | ⟨b, k1, k2, k3⟩
      · exact absurd h2 (k2 a)
      · exact chooses_some l v t0 t1 size hs w hn hA a b h2 h3 k2 k3
  · obtain ⟨A, c, rfl⟩ := hA.is
    exact chooses_many A l.length c t0 t1 size w (by omega)
end Go.Proofs.Ytmppodobgkhojaa
