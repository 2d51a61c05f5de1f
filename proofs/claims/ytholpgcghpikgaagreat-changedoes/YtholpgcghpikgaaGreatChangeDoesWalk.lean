/-
  Layer 14: of whatever space, right or not, a call is answered as the chapter says.
-/
import Derived.Test.YtholpgcghpikgaaGreatPkCg
import Derived.Test.YtholpgcghpikgaaGreatPkCd
import Derived.Test.YtholpgcghpikgaaGreatPkB
import Derived.Test.YtholpgcghpikgaaGreatPkR
namespace Go.Proofs.YtholpgcghpikgaaGreat
open Go.ChangeShapes Go.WideShapes Go.ChangeAt Go.RowKit Go.Shelf
set_option linter.unusedVariables false

set_option maxHeartbeats 2000000 in
theorem does_many (A : Option Addr) (n cc : Nat) (N : Int) (c : Cl) (w : World) (hn : 40 < n) :
    Calls Tryz.prog 5 #[.agg #[.slice A n cc, .int .i64 N], c.v] w fun e w' => e = .returned (.bool true) ∧ Below w.heap.size w w' := by
  have W0 := Lib.hid ch_awake
  have G := Lib.hid (((Bag.new w).add 26 #[.slice A n cc, .int .i64 N]).add 38 c.cells)
  rw [World.size_alloc] at G
  have hz : (40 : Int) < (n : Int) := by omega
  obtain ⟨ck, ca, cn, cnw, ctw, cp, cf, cb, co⟩ := c
  unfold Cl.v at *
  simp only [Cl.cells] at *
  go_enter Tryz.func5, Tryz.ntmps5
  go_wp2_with fail
  refine (W0.out _).mono ?_
  rintro e w1 ⟨rfl, hb⟩
  have G := Lib.hid (G.out.still hb)
  clear hb
  obtain ⟨s0, s1⟩ := row2c G.out.v1
  go_wp2_with fail
  refine (W0.out _).mono ?_
  rintro e w2 ⟨rfl, hb⟩
  have G := Lib.hid (G.out.still hb)
  clear hb
  go_wp2_with fail
  go_ret
  exact ⟨rfl, G.out.bel⟩

set_option maxRecDepth 4000 in
set_option maxHeartbeats 8000000 in
theorem does_wrong (v : Value) (s : Sc) (c : Cl) (w : World) (hl : s.l.length ≤ 40) (h : Holds w v s.l) (hcf : i64 c.f) (hco : i64 c.o) (hR : ¬ RightSc s) :
    Calls Tryz.prog 5 #[scV v s, c.v] w fun e w' => e = .returned (.bool true) ∧ Below w.heap.size w w' := by
  have W0 := Lib.hid ch_awake
  obtain ⟨X, N⟩ := s
  obtain ⟨A, cc, rfl⟩ := h.is
  have G := Lib.hid (((Bag.new w).add 26 #[.slice A X.length cc, .int .i64 N]).add 38 c.cells)
  have KL := Lib.hid (h.still G.out.bel)
  simp only [World.size_alloc] at G KL
  simp only at hl
  clear h
  obtain ⟨ck, ca, cn, cnw, ctw, cp, cf, cb, co⟩ := c
  have hr : chR ⟨X, N⟩ ⟨ck, ca, cn, cnw, ctw, cp, cf, cb, co⟩ = (⟨X, N⟩, An.ev 1 0) := chR_no (fun k => hR k.1)
  have CR : Hid (∀ W u, Holds W u X → Calls Tryz.prog 12 #[.agg #[u, .int .i64 N]] W fun e w' => e = .returned (.bool false) ∧ Below W.heap.size W w') := Lib.hid (fun W u h => by
    have := scRight_c (s := ⟨X, N⟩) h (by simp only; omega)
    rw [decide_eq_false hR] at this
    exact this)
  have CN : Hid (∀ W u, Holds W u X → Calls Tryz.prog 16 #[.agg #[u, .int .i64 N]] W fun e w' => e = .returned (.bool false) ∧ Below W.heap.size W w') := Lib.hid (fun W u h => by
    have := refScRight_c (s := ⟨X, N⟩) h (by simp only; omega)
    rw [decide_eq_false hR] at this
    exact this)
  have CD : Hid (∀ W u, Holds W u X → Calls Tryz.prog 10 #[.agg #[u, .int .i64 N], .agg #[.int .i64 ck, .int .i64 ca, .int .i64 cn, .int .i64 cnw, .int .i64 ctw, .int .i64 cp, .int .i64 cf, .int .i64 cb, .int .i64 co]] W fun e w' => ∃ v', e = .returned (.tuple #[.agg #[v', .int .i64 N], .agg #[.int .i64 1, .int .i64 0, .int .i64 0, .bool false, .int .i64 0, .int .i64 0]]) ∧ Mine W.heap.size w' v' X ∧ Below W.heap.size W w') := Lib.hid (fun W u h => by
    have := do_c (s := ⟨X, N⟩) h (by simp only; omega) ⟨ck, ca, cn, cnw, ctw, cp, cf, cb, co⟩ hco
    unfold GivesS scV at this
    rw [hr] at this
    exact this)
  have CS : Hid (∀ W u u', Holds W u X → Holds W u' X → Calls Tryz.prog 11 #[.agg #[u, .int .i64 N], .agg #[u', .int .i64 N]] W fun e w' => e = .returned (.bool true) ∧ Below W.heap.size W w') := Lib.hid (fun W u u' h h' => scSame_c (s := ⟨X, N⟩) h h' (by simp only; omega))
  clear hr hR hco hcf
  unfold scV Cl.v at *
  simp only [Cl.cells] at *
  have hz : ¬ (40 : Int) < (X.length : Int) := by omega
  go_enter Tryz.func5, Tryz.ntmps5
  go_wp2_with fail
  refine (W0.out _).mono ?_
  rintro e w1 ⟨rfl, hb⟩
  have G := Lib.hid (G.out.still hb)
  have KL := Lib.hid (KL.out.still hb)
  clear hb
  obtain ⟨c0, c1, c2, c3, c4, c5, c6, c7, c8⟩ := nine G.out.v0
  obtain ⟨s0, s1⟩ := row2c G.out.v1
  go_wp2_with fail
  refine (CD.out _ _ KL.out).mono ?_
  rintro e w2 ⟨vKX, rfl, hm, hb⟩
  obtain ⟨AKX, cKX, rfl⟩ := hm.is
  have SZ := Lib.hid G.out.bel.size
  have BN := Lib.hid (below_new2 w2 (.cells #[.slice AKX X.length cKX, .int .i64 N] 26) (.cells #[.int .i64 1, .int .i64 0, .int .i64 0, .bool false, .int .i64 0, .int .i64 0] 34))
  have G := Lib.hid (((G.out.still hb).add 26 #[.slice AKX X.length cKX, .int .i64 N]).add 34 #[.int .i64 1, .int .i64 0, .int .i64 0, .bool false, .int .i64 0, .int .i64 0])
  rw [World.size_alloc] at G
  have KX := Lib.hid ((hm.base SZ.out).still BN.out)
  have KL := Lib.hid ((KL.out.still hb).still BN.out)
  clear hb hm SZ BN
  clear c0 c1 c2 c3 c4 c5 c6 c7 c8
  clear s0 s1 CD
  obtain ⟨s0, s1⟩ := row2c G.out.v3
  go_wp2_with fail
  refine (CN.out _ _ KL.out).mono ?_
  rintro e w3 ⟨rfl, hb⟩
  have G := Lib.hid (G.out.still hb)
  have KL := Lib.hid (KL.out.still hb)
  have KX := Lib.hid (KX.out.still hb)
  clear hb
  clear s0 s1 CN
  obtain ⟨s0, s1⟩ := row2c G.out.v3
  go_wp2_with fail
  refine (CR.out _ _ KL.out).mono ?_
  rintro e w4 ⟨rfl, hb⟩
  have G := Lib.hid (G.out.still hb)
  have KL := Lib.hid (KL.out.still hb)
  have KX := Lib.hid (KX.out.still hb)
  clear hb
  clear s0 s1 CR
  obtain ⟨s0, s1⟩ := row2c G.out.v3
  obtain ⟨x0, x1⟩ := row2c G.out.v1
  obtain ⟨c0, c1, c2, c3, c4, c5, c6, c7, c8⟩ := nine G.out.v2
  obtain ⟨a0, a1, a2, a3, a4, a5⟩ := row6 G.out.v0
  go_wp2_with fail
  refine (CS.out _ _ _ KX.out.holds KL.out).mono ?_
  rintro e w5 ⟨rfl, hb⟩
  have G := Lib.hid (G.out.still hb)
  clear hb
  go_wp2_with fail
  go_ret
  exact ⟨rfl, G.out.bel⟩

set_option maxRecDepth 4000 in
set_option maxHeartbeats 8000000 in
theorem does_less (v : Value) (s : Sc) (c : Cl) (w : World) (hl : s.l.length ≤ 40) (h : Holds w v s.l) (hcf : i64 c.f) (hco : i64 c.o) (hR : RightSc s) (hk : c.k < 0) :
    Calls Tryz.prog 5 #[scV v s, c.v] w fun e w' => e = .returned (.bool true) ∧ Below w.heap.size w w' := by
  have W0 := Lib.hid ch_awake
  obtain ⟨X, N⟩ := s
  obtain ⟨A, cc, rfl⟩ := h.is
  have G := Lib.hid (((Bag.new w).add 26 #[.slice A X.length cc, .int .i64 N]).add 38 c.cells)
  have KL := Lib.hid (h.still G.out.bel)
  simp only [World.size_alloc] at G KL
  simp only at hl
  clear h
  obtain ⟨ck, ca, cn, cnw, ctw, cp, cf, cb, co⟩ := c
  have hr : chR ⟨X, N⟩ ⟨ck, ca, cn, cnw, ctw, cp, cf, cb, co⟩ = (⟨X, N⟩, An.ev 1 0) := chR_no (fun k => absurd k.2.1 (by simp only at hk ⊢; omega))
  simp only at hk
  have CR : Hid (∀ W u, Holds W u X → Calls Tryz.prog 12 #[.agg #[u, .int .i64 N]] W fun e w' => e = .returned (.bool true) ∧ Below W.heap.size W w') := Lib.hid (fun W u h => by
    have := scRight_c (s := ⟨X, N⟩) h (by simp only; omega)
    rw [decide_eq_true hR] at this
    exact this)
  have CN : Hid (∀ W u, Holds W u X → Calls Tryz.prog 16 #[.agg #[u, .int .i64 N]] W fun e w' => e = .returned (.bool true) ∧ Below W.heap.size W w') := Lib.hid (fun W u h => by
    have := refScRight_c (s := ⟨X, N⟩) h (by simp only; omega)
    rw [decide_eq_true hR] at this
    exact this)
  have CD : Hid (∀ W u, Holds W u X → Calls Tryz.prog 10 #[.agg #[u, .int .i64 N], .agg #[.int .i64 ck, .int .i64 ca, .int .i64 cn, .int .i64 cnw, .int .i64 ctw, .int .i64 cp, .int .i64 cf, .int .i64 cb, .int .i64 co]] W fun e w' => ∃ v', e = .returned (.tuple #[.agg #[v', .int .i64 N], .agg #[.int .i64 1, .int .i64 0, .int .i64 0, .bool false, .int .i64 0, .int .i64 0]]) ∧ Mine W.heap.size w' v' X ∧ Below W.heap.size W w') := Lib.hid (fun W u h => by
    have := do_c (s := ⟨X, N⟩) h (by simp only; omega) ⟨ck, ca, cn, cnw, ctw, cp, cf, cb, co⟩ hco
    unfold GivesS scV at this
    rw [hr] at this
    exact this)
  have CS : Hid (∀ W u u', Holds W u X → Holds W u' X → Calls Tryz.prog 11 #[.agg #[u, .int .i64 N], .agg #[u', .int .i64 N]] W fun e w' => e = .returned (.bool true) ∧ Below W.heap.size W w') := Lib.hid (fun W u u' h h' => scSame_c (s := ⟨X, N⟩) h h' (by simp only; omega))
  clear hr hR hco hcf
  unfold scV Cl.v at *
  simp only [Cl.cells] at *
  have hz : ¬ (40 : Int) < (X.length : Int) := by omega
  go_enter Tryz.func5, Tryz.ntmps5
  go_wp2_with fail
  refine (W0.out _).mono ?_
  rintro e w1 ⟨rfl, hb⟩
  have G := Lib.hid (G.out.still hb)
  have KL := Lib.hid (KL.out.still hb)
  clear hb
  obtain ⟨c0, c1, c2, c3, c4, c5, c6, c7, c8⟩ := nine G.out.v0
  obtain ⟨s0, s1⟩ := row2c G.out.v1
  go_wp2_with fail
  refine (CD.out _ _ KL.out).mono ?_
  rintro e w2 ⟨vKX, rfl, hm, hb⟩
  obtain ⟨AKX, cKX, rfl⟩ := hm.is
  have SZ := Lib.hid G.out.bel.size
  have BN := Lib.hid (below_new2 w2 (.cells #[.slice AKX X.length cKX, .int .i64 N] 26) (.cells #[.int .i64 1, .int .i64 0, .int .i64 0, .bool false, .int .i64 0, .int .i64 0] 34))
  have G := Lib.hid (((G.out.still hb).add 26 #[.slice AKX X.length cKX, .int .i64 N]).add 34 #[.int .i64 1, .int .i64 0, .int .i64 0, .bool false, .int .i64 0, .int .i64 0])
  rw [World.size_alloc] at G
  have KX := Lib.hid ((hm.base SZ.out).still BN.out)
  have KL := Lib.hid ((KL.out.still hb).still BN.out)
  clear hb hm SZ BN
  clear c0 c1 c2 c3 c4 c5 c6 c7 c8
  clear s0 s1 CD
  obtain ⟨s0, s1⟩ := row2c G.out.v3
  go_wp2_with fail
  refine (CN.out _ _ KL.out).mono ?_
  rintro e w3 ⟨rfl, hb⟩
  have G := Lib.hid (G.out.still hb)
  have KL := Lib.hid (KL.out.still hb)
  have KX := Lib.hid (KX.out.still hb)
  clear hb
  clear s0 s1 CN
  obtain ⟨s0, s1⟩ := row2c G.out.v3
  go_wp2_with fail
  refine (CR.out _ _ KL.out).mono ?_
  rintro e w4 ⟨rfl, hb⟩
  have G := Lib.hid (G.out.still hb)
  have KL := Lib.hid (KL.out.still hb)
  have KX := Lib.hid (KX.out.still hb)
  clear hb
  clear s0 s1 CR
  obtain ⟨s0, s1⟩ := row2c G.out.v3
  obtain ⟨x0, x1⟩ := row2c G.out.v1
  obtain ⟨c0, c1, c2, c3, c4, c5, c6, c7, c8⟩ := nine G.out.v2
  obtain ⟨a0, a1, a2, a3, a4, a5⟩ := row6 G.out.v0
  go_wp2_with fail
  refine (CS.out _ _ _ KX.out.holds KL.out).mono ?_
  rintro e w5 ⟨rfl, hb⟩
  have G := Lib.hid (G.out.still hb)
  clear hb
  go_wp2_with fail
  go_ret
  exact ⟨rfl, G.out.bel⟩

set_option maxRecDepth 4000 in
set_option maxHeartbeats 8000000 in
theorem does_more (v : Value) (s : Sc) (c : Cl) (w : World) (hl : s.l.length ≤ 40) (h : Holds w v s.l) (hcf : i64 c.f) (hco : i64 c.o) (hR : RightSc s) (hk0 : ¬ c.k < 0) (hk : 5 < c.k) :
    Calls Tryz.prog 5 #[scV v s, c.v] w fun e w' => e = .returned (.bool true) ∧ Below w.heap.size w w' := by
  have W0 := Lib.hid ch_awake
  obtain ⟨X, N⟩ := s
  obtain ⟨A, cc, rfl⟩ := h.is
  have G := Lib.hid (((Bag.new w).add 26 #[.slice A X.length cc, .int .i64 N]).add 38 c.cells)
  have KL := Lib.hid (h.still G.out.bel)
  simp only [World.size_alloc] at G KL
  simp only at hl
  clear h
  obtain ⟨ck, ca, cn, cnw, ctw, cp, cf, cb, co⟩ := c
  have hr : chR ⟨X, N⟩ ⟨ck, ca, cn, cnw, ctw, cp, cf, cb, co⟩ = (⟨X, N⟩, An.ev 1 0) := chR_no (fun k => absurd k.2.2 (by simp only at hk ⊢; omega))
  simp only at hk hk0
  have CR : Hid (∀ W u, Holds W u X → Calls Tryz.prog 12 #[.agg #[u, .int .i64 N]] W fun e w' => e = .returned (.bool true) ∧ Below W.heap.size W w') := Lib.hid (fun W u h => by
    have := scRight_c (s := ⟨X, N⟩) h (by simp only; omega)
    rw [decide_eq_true hR] at this
    exact this)
  have CN : Hid (∀ W u, Holds W u X → Calls Tryz.prog 16 #[.agg #[u, .int .i64 N]] W fun e w' => e = .returned (.bool true) ∧ Below W.heap.size W w') := Lib.hid (fun W u h => by
    have := refScRight_c (s := ⟨X, N⟩) h (by simp only; omega)
    rw [decide_eq_true hR] at this
    exact this)
  have CD : Hid (∀ W u, Holds W u X → Calls Tryz.prog 10 #[.agg #[u, .int .i64 N], .agg #[.int .i64 ck, .int .i64 ca, .int .i64 cn, .int .i64 cnw, .int .i64 ctw, .int .i64 cp, .int .i64 cf, .int .i64 cb, .int .i64 co]] W fun e w' => ∃ v', e = .returned (.tuple #[.agg #[v', .int .i64 N], .agg #[.int .i64 1, .int .i64 0, .int .i64 0, .bool false, .int .i64 0, .int .i64 0]]) ∧ Mine W.heap.size w' v' X ∧ Below W.heap.size W w') := Lib.hid (fun W u h => by
    have := do_c (s := ⟨X, N⟩) h (by simp only; omega) ⟨ck, ca, cn, cnw, ctw, cp, cf, cb, co⟩ hco
    unfold GivesS scV at this
    rw [hr] at this
    exact this)
  have CS : Hid (∀ W u u', Holds W u X → Holds W u' X → Calls Tryz.prog 11 #[.agg #[u, .int .i64 N], .agg #[u', .int .i64 N]] W fun e w' => e = .returned (.bool true) ∧ Below W.heap.size W w') := Lib.hid (fun W u u' h h' => scSame_c (s := ⟨X, N⟩) h h' (by simp only; omega))
  clear hr hR hco hcf
  unfold scV Cl.v at *
  simp only [Cl.cells] at *
  have hz : ¬ (40 : Int) < (X.length : Int) := by omega
  go_enter Tryz.func5, Tryz.ntmps5
  go_wp2_with fail
  refine (W0.out _).mono ?_
  rintro e w1 ⟨rfl, hb⟩
  have G := Lib.hid (G.out.still hb)
  have KL := Lib.hid (KL.out.still hb)
  clear hb
  obtain ⟨c0, c1, c2, c3, c4, c5, c6, c7, c8⟩ := nine G.out.v0
  obtain ⟨s0, s1⟩ := row2c G.out.v1
  go_wp2_with fail
  refine (CD.out _ _ KL.out).mono ?_
  rintro e w2 ⟨vKX, rfl, hm, hb⟩
  obtain ⟨AKX, cKX, rfl⟩ := hm.is
  have SZ := Lib.hid G.out.bel.size
  have BN := Lib.hid (below_new2 w2 (.cells #[.slice AKX X.length cKX, .int .i64 N] 26) (.cells #[.int .i64 1, .int .i64 0, .int .i64 0, .bool false, .int .i64 0, .int .i64 0] 34))
  have G := Lib.hid (((G.out.still hb).add 26 #[.slice AKX X.length cKX, .int .i64 N]).add 34 #[.int .i64 1, .int .i64 0, .int .i64 0, .bool false, .int .i64 0, .int .i64 0])
  rw [World.size_alloc] at G
  have KX := Lib.hid ((hm.base SZ.out).still BN.out)
  have KL := Lib.hid ((KL.out.still hb).still BN.out)
  clear hb hm SZ BN
  clear c0 c1 c2 c3 c4 c5 c6 c7 c8
  clear s0 s1 CD
  obtain ⟨s0, s1⟩ := row2c G.out.v3
  go_wp2_with fail
  refine (CN.out _ _ KL.out).mono ?_
  rintro e w3 ⟨rfl, hb⟩
  have G := Lib.hid (G.out.still hb)
  have KL := Lib.hid (KL.out.still hb)
  have KX := Lib.hid (KX.out.still hb)
  clear hb
  clear s0 s1 CN
  obtain ⟨s0, s1⟩ := row2c G.out.v3
  go_wp2_with fail
  refine (CR.out _ _ KL.out).mono ?_
  rintro e w4 ⟨rfl, hb⟩
  have G := Lib.hid (G.out.still hb)
  have KL := Lib.hid (KL.out.still hb)
  have KX := Lib.hid (KX.out.still hb)
  clear hb
  clear s0 s1 CR
  obtain ⟨s0, s1⟩ := row2c G.out.v3
  obtain ⟨x0, x1⟩ := row2c G.out.v1
  obtain ⟨c0, c1, c2, c3, c4, c5, c6, c7, c8⟩ := nine G.out.v2
  obtain ⟨a0, a1, a2, a3, a4, a5⟩ := row6 G.out.v0
  go_wp2_with fail
  refine (CS.out _ _ _ KX.out.holds KL.out).mono ?_
  rintro e w5 ⟨rfl, hb⟩
  have G := Lib.hid (G.out.still hb)
  clear hb
  go_wp2_with fail
  go_ret
  exact ⟨rfl, G.out.bel⟩

set_option maxRecDepth 4000 in
set_option maxHeartbeats 8000000 in
theorem does_good (v : Value) (s : Sc) (c : Cl) (w : World) (hl : s.l.length ≤ 40) (h : Holds w v s.l) (hcf : i64 c.f) (hco : i64 c.o) (hR : RightSc s) (hk0 : ¬ c.k < 0) (hk5 : ¬ 5 < c.k) :
    Calls Tryz.prog 5 #[scV v s, c.v] w fun e w' => e = .returned (.bool true) ∧ Below w.heap.size w w' := by
  have W0 := Lib.hid ch_awake
  obtain ⟨X, N⟩ := s
  obtain ⟨A, cc, rfl⟩ := h.is
  have G := Lib.hid (((Bag.new w).add 26 #[.slice A X.length cc, .int .i64 N]).add 38 c.cells)
  have KL := Lib.hid (h.still G.out.bel)
  simp only [World.size_alloc] at G KL
  simp only at hl
  clear h
  obtain ⟨ck, ca, cn, cnw, ctw, cp, cf, cb, co⟩ := c
  simp only at hk0 hk5
  have hS' := chR_right hR ⟨ck, ca, cn, cnw, ctw, cp, cf, cb, co⟩
  obtain ⟨Y, N1, ae, ax, ⟨ap, ah, ab, ao⟩, hr⟩ : ∃ Y N1 e x t, chR ⟨X, N⟩ ⟨ck, ca, cn, cnw, ctw, cp, cf, cb, co⟩ = (⟨Y, N1⟩, ⟨e, x, t⟩) := ⟨_, _, _, _, _, rfl⟩
  rw [hr] at hS'
  have CR : Hid (∀ W u, Holds W u X → Calls Tryz.prog 12 #[.agg #[u, .int .i64 N]] W fun e w' => e = .returned (.bool true) ∧ Below W.heap.size W w') := Lib.hid (fun W u h => by
    have := scRight_c (s := ⟨X, N⟩) h (by simp only; omega)
    rw [decide_eq_true hR] at this
    exact this)
  have CN : Hid (∀ W u, Holds W u X → Calls Tryz.prog 16 #[.agg #[u, .int .i64 N]] W fun e w' => e = .returned (.bool true) ∧ Below W.heap.size W w') := Lib.hid (fun W u h => by
    have := refScRight_c (s := ⟨X, N⟩) h (by simp only; omega)
    rw [decide_eq_true hR] at this
    exact this)
  have CD : Hid (∀ W u, Holds W u X → Calls Tryz.prog 10 #[.agg #[u, .int .i64 N], .agg #[.int .i64 ck, .int .i64 ca, .int .i64 cn, .int .i64 cnw, .int .i64 ctw, .int .i64 cp, .int .i64 cf, .int .i64 cb, .int .i64 co]] W fun e w' => ∃ v', e = .returned (.tuple #[.agg #[v', .int .i64 N1], .agg #[.int .i64 ae, .int .i64 ax, .int .i64 ap, .bool ah, .int .i64 ab, .int .i64 ao]]) ∧ Mine W.heap.size w' v' Y ∧ Below W.heap.size W w') := Lib.hid (fun W u h => by
    have := do_c (s := ⟨X, N⟩) h (by simp only; omega) ⟨ck, ca, cn, cnw, ctw, cp, cf, cb, co⟩ hco
    unfold GivesS scV at this
    rw [hr] at this
    exact this)
  have CQ : Hid (∀ W u, Holds W u X → Calls Tryz.prog 14 #[.agg #[u, .int .i64 N], .agg #[.int .i64 ck, .int .i64 ca, .int .i64 cn, .int .i64 cnw, .int .i64 ctw, .int .i64 cp, .int .i64 cf, .int .i64 cb, .int .i64 co]] W fun e w' => ∃ v', e = .returned (.tuple #[.agg #[v', .int .i64 N1], .agg #[.int .i64 ae, .int .i64 ax, .int .i64 ap, .bool ah, .int .i64 ab, .int .i64 ao]]) ∧ Holds w' v' Y ∧ Below W.heap.size W w') := Lib.hid (fun W u h => by
    have := refDo_c (s := ⟨X, N⟩) h hR ⟨ck, ca, cn, cnw, ctw, cp, cf, cb, co⟩ hcf hco
    unfold GivesSH scV at this
    rw [hr] at this
    exact this)
  have CS : Hid (∀ W u u', Holds W u Y → Holds W u' Y → Calls Tryz.prog 15 #[.agg #[u, .int .i64 N1], .agg #[u', .int .i64 N1]] W fun e w' => e = .returned (.bool true) ∧ Below W.heap.size W w') := Lib.hid (fun W u u' h h' => refSc_c (s := ⟨Y, N1⟩) h h' (sc_len hS'))
  clear hr hR hco hcf hS'
  unfold scV Cl.v at *
  simp only [Cl.cells] at *
  have hz : ¬ (40 : Int) < (X.length : Int) := by omega
  go_enter Tryz.func5, Tryz.ntmps5
  go_wp2_with fail
  refine (W0.out _).mono ?_
  rintro e w1 ⟨rfl, hb⟩
  have G := Lib.hid (G.out.still hb)
  have KL := Lib.hid (KL.out.still hb)
  clear hb
  obtain ⟨c0, c1, c2, c3, c4, c5, c6, c7, c8⟩ := nine G.out.v0
  obtain ⟨s0, s1⟩ := row2c G.out.v1
  go_wp2_with fail
  refine (CD.out _ _ KL.out).mono ?_
  rintro e w2 ⟨vKX, rfl, hm, hb⟩
  obtain ⟨AKX, cKX, rfl⟩ := hm.is
  have SZ := Lib.hid G.out.bel.size
  have BN := Lib.hid (below_new2 w2 (.cells #[.slice AKX Y.length cKX, .int .i64 N1] 26) (.cells #[.int .i64 ae, .int .i64 ax, .int .i64 ap, .bool ah, .int .i64 ab, .int .i64 ao] 34))
  have G := Lib.hid (((G.out.still hb).add 26 #[.slice AKX Y.length cKX, .int .i64 N1]).add 34 #[.int .i64 ae, .int .i64 ax, .int .i64 ap, .bool ah, .int .i64 ab, .int .i64 ao])
  rw [World.size_alloc] at G
  have KX := Lib.hid ((hm.base SZ.out).still BN.out)
  have KL := Lib.hid ((KL.out.still hb).still BN.out)
  clear hb hm SZ BN
  clear c0 c1 c2 c3 c4 c5 c6 c7 c8
  clear s0 s1 CD
  obtain ⟨s0, s1⟩ := row2c G.out.v3
  go_wp2_with fail
  refine (CN.out _ _ KL.out).mono ?_
  rintro e w3 ⟨rfl, hb⟩
  have G := Lib.hid (G.out.still hb)
  have KL := Lib.hid (KL.out.still hb)
  have KX := Lib.hid (KX.out.still hb)
  clear hb
  clear s0 s1 CN
  obtain ⟨s0, s1⟩ := row2c G.out.v3
  go_wp2_with fail
  refine (CR.out _ _ KL.out).mono ?_
  rintro e w4 ⟨rfl, hb⟩
  have G := Lib.hid (G.out.still hb)
  have KL := Lib.hid (KL.out.still hb)
  have KX := Lib.hid (KX.out.still hb)
  clear hb
  clear s0 s1 CR
  obtain ⟨s0, s1⟩ := row2c G.out.v3
  obtain ⟨c0, c1, c2, c3, c4, c5, c6, c7, c8⟩ := nine G.out.v2
  go_wp2_with fail
  refine (CQ.out _ _ KL.out).mono ?_
  rintro e w5 ⟨vKY, rfl, hm, hb⟩
  obtain ⟨AKY, cKY, rfl⟩ := hm.is
  have SZ := Lib.hid G.out.bel.size
  have BN := Lib.hid (below_new2 w5 (.cells #[.slice AKY Y.length cKY, .int .i64 N1] 43) (.cells #[.int .i64 ae, .int .i64 ax, .int .i64 ap, .bool ah, .int .i64 ab, .int .i64 ao] 34))
  have G := Lib.hid (((G.out.still hb).add 43 #[.slice AKY Y.length cKY, .int .i64 N1]).add 34 #[.int .i64 ae, .int .i64 ax, .int .i64 ap, .bool ah, .int .i64 ab, .int .i64 ao])
  rw [World.size_alloc] at G
  have KY := Lib.hid (hm.still BN.out)
  have KX := Lib.hid ((KX.out.still hb).still BN.out)
  clear hb hm SZ BN
  clear c0 c1 c2 c3 c4 c5 c6 c7 c8
  clear s0 s1 CQ
  obtain ⟨y0, y1⟩ := row2c G.out.v1
  obtain ⟨x0, x1⟩ := row2c G.out.v3
  obtain ⟨b0, b1, b2, b3, b4, b5⟩ := row6 G.out.v0
  obtain ⟨a0, a1, a2, a3, a4, a5⟩ := row6 G.out.v2
  go_wp2_with fail
  refine (CS.out _ _ _ KX.out.holds KY.out).mono ?_
  rintro e w6 ⟨rfl, hb⟩
  have G := Lib.hid (G.out.still hb)
  clear hb
  go_wp2_with fail
  go_ret
  exact ⟨rfl, G.out.bel⟩

theorem does_any (v : Value) (s : Sc) (c : Cl) (w : World) (h : Holds w v s.l) (hcf : i64 c.f) (hco : i64 c.o) :
    Calls Tryz.prog 5 #[scV v s, c.v] w fun e w' => e = .returned (.bool true) ∧ Below w.heap.size w w' := by
  by_cases hl : s.l.length ≤ 40
  · by_cases hR : RightSc s
    · by_cases h0 : c.k < 0
      · exact does_less v s c w hl h hcf hco hR h0
      by_cases h5 : 5 < c.k
      · exact does_more v s c w hl h hcf hco hR h0 h5
      exact does_good v s c w hl h hcf hco hR h0 h5
    · exact does_wrong v s c w hl h hcf hco hR
  · obtain ⟨A, cc, rfl⟩ := h.is
    exact does_many A s.l.length cc s.n c w (by omega)
end Go.Proofs.YtholpgcghpikgaaGreat
