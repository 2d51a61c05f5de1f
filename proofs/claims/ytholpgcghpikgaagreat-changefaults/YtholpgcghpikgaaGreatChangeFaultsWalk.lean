/-
  Layer 14: a fault changes nothing; asked twice it is answered alike.
-/
import Derived.Test.YtholpgcghpikgaaGreatPkCg
import Derived.Test.YtholpgcghpikgaaGreatPkB
namespace Go.Proofs.YtholpgcghpikgaaGreat
open Go.ChangeShapes Go.WideShapes Go.ChangeAt Go.RowKit Go.Shelf
set_option linter.unusedVariables false

set_option maxHeartbeats 2000000 in
theorem faults_many (A : Option Addr) (n cc : Nat) (c : Cl) (w : World) (hn : 40 < n) :
    Calls Tryz.prog 6 #[.slice A n cc, c.v] w fun e w' => e = .returned (.bool true) ∧ Below w.heap.size w w' := by
  have W0 := Lib.hid ch_awake
  have G := Lib.hid ((Bag.new w).add 38 c.cells)
  have hz : (40 : Int) < (n : Int) := by omega
  obtain ⟨ck, ca, cn, cnw, ctw, cp, cf, cb, co⟩ := c
  unfold Cl.v at *
  simp only [Cl.cells] at *
  go_enter Tryz.func6, Tryz.ntmps6
  go_wp2_with fail
  refine (W0.out _).mono ?_
  rintro e w1 ⟨rfl, hb⟩
  have G := Lib.hid (G.out.still hb)
  clear hb
  go_wp2_with fail
  refine (W0.out _).mono ?_
  rintro e w2 ⟨rfl, hb⟩
  have G := Lib.hid (G.out.still hb)
  clear hb
  go_wp2_with fail
  go_ret
  exact ⟨rfl, G.out.bel⟩

set_option maxRecDepth 4000 in
set_option maxHeartbeats 8000000 in
theorem faults_few (l : List Cl) (A : Option Addr) (cc : Nat) (c : Cl) (w : World) (hl : l.length ≤ 40) (hA : CallsAt w A l) (hB : ∀ k, k < l.length → i64 (nthC l k).f ∧ i64 (nthC l k).o) (hco : i64 c.o) :
    Calls Tryz.prog 6 #[.slice A l.length cc, c.v] w fun e w' => e = .returned (.bool true) ∧ Below w.heap.size w w' := by
  have W0 := Lib.hid ch_awake
  have G := Lib.hid ((Bag.new w).add 38 c.cells)
  have CP : Hid (∀ W, Below w.heap.size w W → Calls Tryz.prog 9 #[.slice A l.length cc] W fun r w' => ∃ v' q, r = .returned (.tuple #[.agg #[v', .int .i64 (plS l l.length).n], .slice (some ⟨q, 0, none⟩) l.length l.length]) ∧ W.heap.size ≤ q ∧ Whole w' q 34 (ansA (plA l) l.length) ∧ Mine W.heap.size w' v' (plS l l.length).l ∧ Below W.heap.size W w') := Lib.hid (fun W h => play_c l A cc W (by omega) (hA.below h) (fun k hk => (hB k hk).2))
  have hS := pl_right l l.length
  obtain ⟨ck, ca, cn, cnw, ctw, cp, cf, cb, co⟩ := c
  unfold Cl.v at *
  simp only [Cl.cells] at *
  generalize plS l l.length = S at *
  obtain ⟨X, N⟩ := S
  simp only at *
  obtain ⟨ae, ax, ⟨ap, ah, ab, ao⟩, hr⟩ : ∃ e x t, chR ⟨X, N⟩ ⟨5, ca, cn, cnw, ctw, cp, cf, cb, co⟩ = (⟨X, N⟩, ⟨e, x, t⟩) := ⟨_, _, _, Prod.ext (chR_fault _ rfl) rfl⟩
  have CD : Hid (∀ W u, Holds W u X → Calls Tryz.prog 10 #[.agg #[u, .int .i64 N], .agg #[.int .i64 5, .int .i64 ca, .int .i64 cn, .int .i64 cnw, .int .i64 ctw, .int .i64 cp, .int .i64 cf, .int .i64 cb, .int .i64 co]] W fun e w' => ∃ v', e = .returned (.tuple #[.agg #[v', .int .i64 N], .agg #[.int .i64 ae, .int .i64 ax, .int .i64 ap, .bool ah, .int .i64 ab, .int .i64 ao]]) ∧ Mine W.heap.size w' v' X ∧ Below W.heap.size W w') := Lib.hid (fun W u h => by
    have := do_c (s := ⟨X, N⟩) h (sc_len hS) ⟨5, ca, cn, cnw, ctw, cp, cf, cb, co⟩ hco
    unfold GivesS scV at this
    rw [hr] at this
    exact this)
  have CS : Hid (∀ W u u', Holds W u X → Holds W u' X → Calls Tryz.prog 11 #[.agg #[u, .int .i64 N], .agg #[u', .int .i64 N]] W fun e w' => e = .returned (.bool true) ∧ Below W.heap.size W w') := Lib.hid (fun W u u' h h' => scSame_c (s := ⟨X, N⟩) h h' (sc_len hS))
  clear hr hB hA hS hco
  generalize hn : l.length = n at *
  clear hn
  have hz : ¬ (40 : Int) < (n : Int) := by omega
  go_enter Tryz.func6, Tryz.ntmps6
  go_wp2_with fail
  refine (W0.out _).mono ?_
  rintro e w1 ⟨rfl, hb⟩
  have G := Lib.hid (G.out.still hb)
  clear hb
  go_wp2_with fail
  refine (CP.out _ G.out.bel).mono ?_
  rintro e w2 ⟨vs, q1, rfl, hq1, hW, hm, hb⟩
  obtain ⟨As, cs, rfl⟩ := hm.is
  have SZ := Lib.hid G.out.bel.size
  have LT := Lib.hid (G.out.still hb).low
  have G := Lib.hid ((G.out.still hb).add 26 #[.slice As X.length cs, .int .i64 N])
  have KS := Lib.hid ((hm.base SZ.out).still (below_new w2 (.cells #[.slice As X.length cs, .int .i64 N] 26)))
  clear hb hm hW hq1 SZ CP
  obtain ⟨c0, c1, c2, c3, c4, c5, c6, c7, c8⟩ := nine G.out.v1
  have f0 := G.out.v1.frozen 0
  go_upto_region 5 with (fail)
  have hq : w.heap.size < w2.heap.size := LT.out _ (List.mem_cons_self ..)
  have KS := Lib.hid (KS.out.far G.out.v1 (by decide) 0 (.int .i64 5))
  have G := Lib.hid (G.out.set1 0 (.int .i64 5) (by show w2.heap.size ≠ w.heap.size; omega) (fun x hx => by cases hx) (Nat.le_refl _))
  clear f0 hq LT c0 c1 c2 c3 c4 c5 c6 c7 c8
  generalize World.setCell _ _ _ = w3 at *
  generalize w2.heap.size = qs at *
  obtain ⟨c0, c1, c2, c3, c4, c5, c6, c7, c8⟩ := nine G.out.v1
  obtain ⟨s0, s1⟩ := row2c G.out.v0
  go_wp2_with fail
  refine (CD.out _ _ KS.out.holds).mono ?_
  rintro e w4 ⟨vKX, rfl, hm, hb⟩
  obtain ⟨AKX, cKX, rfl⟩ := hm.is
  have SZ := Lib.hid G.out.bel.size
  have BN := Lib.hid (below_new2 w4 (.cells #[.slice AKX X.length cKX, .int .i64 N] 26) (.cells #[.int .i64 ae, .int .i64 ax, .int .i64 ap, .bool ah, .int .i64 ab, .int .i64 ao] 34))
  have G := Lib.hid (((G.out.still hb).add 26 #[.slice AKX X.length cKX, .int .i64 N]).add 34 #[.int .i64 ae, .int .i64 ax, .int .i64 ap, .bool ah, .int .i64 ab, .int .i64 ao])
  rw [World.size_alloc] at G
  have KX := Lib.hid ((hm.base SZ.out).still BN.out)
  have KS := Lib.hid ((KS.out.still hb).still BN.out)
  clear hb hm SZ BN
  clear c0 c1 c2 c3 c4 c5 c6 c7 c8
  clear s0 s1
  obtain ⟨c0, c1, c2, c3, c4, c5, c6, c7, c8⟩ := nine G.out.v3
  obtain ⟨x0, x1⟩ := row2c G.out.v1
  go_wp2_with fail
  refine (CD.out _ _ KX.out.holds).mono ?_
  rintro e w5 ⟨vKY, rfl, hm, hb⟩
  obtain ⟨AKY, cKY, rfl⟩ := hm.is
  have SZ := Lib.hid G.out.bel.size
  have BN := Lib.hid (below_new2 w5 (.cells #[.slice AKY X.length cKY, .int .i64 N] 26) (.cells #[.int .i64 ae, .int .i64 ax, .int .i64 ap, .bool ah, .int .i64 ab, .int .i64 ao] 34))
  have G := Lib.hid (((G.out.still hb).add 26 #[.slice AKY X.length cKY, .int .i64 N]).add 34 #[.int .i64 ae, .int .i64 ax, .int .i64 ap, .bool ah, .int .i64 ab, .int .i64 ao])
  rw [World.size_alloc] at G
  have KY := Lib.hid ((hm.base SZ.out).still BN.out)
  have KS := Lib.hid ((KS.out.still hb).still BN.out)
  have KX := Lib.hid ((KX.out.still hb).still BN.out)
  clear hb hm SZ BN
  clear c0 c1 c2 c3 c4 c5 c6 c7 c8
  clear x0 x1 CD
  obtain ⟨y0, y1⟩ := row2c G.out.v1
  obtain ⟨x0, x1⟩ := row2c G.out.v3
  obtain ⟨s0, s1⟩ := row2c G.out.v4
  go_wp2_with fail
  refine (CS.out _ _ _ KX.out.holds KS.out.holds).mono ?_
  rintro e w6 ⟨rfl, hb⟩
  have G := Lib.hid (G.out.still hb)
  have KS := Lib.hid (KS.out.still hb)
  have KX := Lib.hid (KX.out.still hb)
  have KY := Lib.hid (KY.out.still hb)
  clear hb
  clear y0 y1 x0 x1 s0 s1
  obtain ⟨y0, y1⟩ := row2c G.out.v1
  obtain ⟨x0, x1⟩ := row2c G.out.v3
  obtain ⟨s0, s1⟩ := row2c G.out.v4
  go_wp2_with fail
  refine (CS.out _ _ _ KY.out.holds KS.out.holds).mono ?_
  rintro e w7 ⟨rfl, hb⟩
  have G := Lib.hid (G.out.still hb)
  have KS := Lib.hid (KS.out.still hb)
  have KX := Lib.hid (KX.out.still hb)
  have KY := Lib.hid (KY.out.still hb)
  clear hb
  obtain ⟨a0, a1, a2, a3, a4, a5⟩ := row6 G.out.v2
  obtain ⟨b0, b1, b2, b3, b4, b5⟩ := row6 G.out.v0
  go_wp2_with fail
  go_ret
  exact ⟨rfl, G.out.bel⟩

theorem faults_any (l : List Cl) (A : Option Addr) (cc : Nat) (c : Cl) (w : World) (hA : CallsAt w A l) (hB : ∀ k, k < l.length → i64 (nthC l k).f ∧ i64 (nthC l k).o) (hco : i64 c.o) :
    Calls Tryz.prog 6 #[.slice A l.length cc, c.v] w fun e w' => e = .returned (.bool true) ∧ Below w.heap.size w w' := by
  by_cases hl : l.length ≤ 40
  · exact faults_few l A cc c w hl hA hB hco
  · exact faults_many A l.length cc c w (by omega)
end Go.Proofs.YtholpgcghpikgaaGreat
