/-
  Layer 11: whatever a fault is, the answer is the reference's.
-/
import Derived.Test.YtpekdbncgdlblaaPkPf
import Derived.Test.YtpekdbncgdlblaaPkPd
import Derived.Deep.RegionHeld3
namespace Go.Proofs.Ytpekdbncgdlblaa
open Go.ChangeShapes Go.WideShapes Go.ChangeAt Go.RowKit Go.Shelf
set_option linter.unusedVariables false
attribute [local go_sem ↓] Go.wp_at_zero Go.wp_at_succ

set_option maxHeartbeats 2000000 in
theorem faults_many (A : Option Addr) (n cc : Nat) (c : Cl) (w : World) (hn : 30 < n) :
    Calls Try.prog 5 #[.slice A n cc, c.v] w fun e w' => e = .returned (.bool true) ∧ Below w.heap.size w w' := by
  have W0 := Lib.hid prot_awake
  have G := Lib.hid ((Bag.new w).add 34 c.cells)
  have hz : (30 : Int) < (n : Int) := by omega
  obtain ⟨ck, ca, cn, cnw, ctw, cp, cf, cb, co⟩ := c
  unfold Cl.v
  simp only [Cl.cells] at *
  go_enter Try.func5, Try.ntmps5
  go_wp2_with fail
  refine (W0.out _).mono ?_
  rintro e w1 ⟨rfl, hb⟩
  have G := Lib.hid (G.out.still hb)
  clear hb
  go_wp2_with fail
  refine (W0.out _).mono ?_
  rintro e w2 ⟨rfl, hb⟩
  have G := Lib.hid (G.out.still hb)
  clear hb
  go_wp2_with fail
  go_ret
  exact ⟨rfl, G.out.bel⟩

set_option maxRecDepth 4000 in
set_option maxHeartbeats 8000000 in
theorem faults_few (l : List Ar) (v : Value) (c : Cl) (w : World) (hl : l.length ≤ 30) (hA : Holds w v l)  :
    Calls Try.prog 5 #[v, c.v] w fun e w' => e = .returned (.bool true) ∧ Below w.heap.size w w' := by
  have W0 := Lib.hid prot_awake
  have G := Lib.hid ((Bag.new w).add 34 c.cells)
  have KL := Lib.hid (hA.still G.out.bel)
  have HA0 := Lib.hid hA
  have CS : Hid (∀ w' u, Holds w' u l → Calls Try.prog 10 #[u] w' fun e w'' => ∃ v', e = .returned v' ∧ Mine w'.heap.size w'' v' (someL l) ∧ Below w'.heap.size w' w'') := Lib.hid (fun w' u h => some_c h (by omega))
  have hX := someL_may l
  generalize someL l = X at *
  have hXl : X.length ≤ 10000 := by have := hX.2; omega
  obtain ⟨ck, ca, cn, cnw, ctw, cp, cf, cb, co⟩ := c
  simp only [Cl.cells] at *
  unfold Cl.v
  simp only [Cl.cells]
  obtain ⟨fe, f0, f1, f2, f3, hr⟩ : ∃ fe f0 f1 f2 f3, ansT (faE X ⟨ck, ca, cn, cnw, ctw, cp, cf, cb, co⟩) (faT X ⟨ck, ca, cn, cnw, ctw, cp, cf, cb, co⟩) = #[.int .i64 fe, .int .i64 0, .int .i64 f0, .bool f1, .int .i64 f2, .int .i64 f3] := ⟨_, _, _, _, _, rfl⟩
  have CF : Hid (∀ w' u, Holds w' u X → Calls Try.prog 14 #[u, .agg #[.int .i64 ck, .int .i64 ca, .int .i64 cn, .int .i64 cnw, .int .i64 ctw, .int .i64 cp, .int .i64 cf, .int .i64 cb, .int .i64 co]] w' fun e w'' => e = .returned (.agg #[.int .i64 fe, .int .i64 0, .int .i64 f0, .bool f1, .int .i64 f2, .int .i64 f3]) ∧ Below w'.heap.size w' w'') := Lib.hid (fun w' u h => by
    have := fault_c h hXl ⟨ck, ca, cn, cnw, ctw, cp, cf, cb, co⟩
    rw [hr] at this
    exact this)
  have CR : Hid (∀ w' u, Holds w' u X → Calls Try.prog 15 #[u, .agg #[.int .i64 ck, .int .i64 ca, .int .i64 cn, .int .i64 cnw, .int .i64 ctw, .int .i64 cp, .int .i64 cf, .int .i64 cb, .int .i64 co]] w' fun e w'' => e = .returned (.agg #[.int .i64 fe, .int .i64 0, .int .i64 f0, .bool f1, .int .i64 f2, .int .i64 f3]) ∧ Below w'.heap.size w' w'') := Lib.hid (fun w' u h => by
    have := refFault_c h hX ⟨ck, ca, cn, cnw, ctw, cp, cf, cb, co⟩
    rw [hr] at this
    exact this)
  clear hX hXl hr
  obtain ⟨A, cc, rfl⟩ := hA.is
  clear hA
  generalize hn : l.length = n at *
  clear hn
  have hz : ¬ (30 : Int) < (n : Int) := by omega
  go_enter Try.func5, Try.ntmps5
  go_wp2_with fail
  refine (W0.out _).mono ?_
  rintro e w1 ⟨rfl, hb⟩
  have G := Lib.hid (G.out.still hb)
  have KL := Lib.hid (KL.out.still hb)
  clear hb
  go_wp2_with fail
  refine (CS.out _ _ KL.out).mono ?_
  rintro e w2 ⟨vx, rfl, hm, hb⟩
  have SZ := Lib.hid G.out.bel.size
  have G := Lib.hid (G.out.still hb)
  have KX := Lib.hid (hm.base SZ.out)
  clear hb hm CS KL SZ
  go_upto_region 4 with (fail)
  have BB := Lib.hid (below_drew (Below.refl w2.heap.size w2))
  have KX := Lib.hid (KX.out.still (below_drew (Below.refl _ w2)))
  have HG := Lib.hid (fun W h => G.out.still (w' := W) h)
  have HC : Hid (∀ W, Below w2.heap.size w2 W → (W.cell? ⟨w.heap.size, 0, none⟩ = some (.int .i64 ck) ∧ W.cell? ⟨w.heap.size, 1, none⟩ = some (.int .i64 ca) ∧ W.cell? ⟨w.heap.size, 2, none⟩ = some (.int .i64 cn) ∧ W.cell? ⟨w.heap.size, 3, none⟩ = some (.int .i64 cnw) ∧ W.cell? ⟨w.heap.size, 4, none⟩ = some (.int .i64 ctw) ∧ W.cell? ⟨w.heap.size, 5, none⟩ = some (.int .i64 cp) ∧ W.cell? ⟨w.heap.size, 6, none⟩ = some (.int .i64 cf) ∧ W.cell? ⟨w.heap.size, 7, none⟩ = some (.int .i64 cb) ∧ W.cell? ⟨w.heap.size, 8, none⟩ = some (.int .i64 co))) := Lib.hid (fun W h => nine (HG.out W h).v0)
  clear G
  go_region_held3 (fun W => W.cell? ⟨w.heap.size, 0, none⟩ = some (.int .i64 ck) ∧ W.cell? ⟨w.heap.size, 1, none⟩ = some (.int .i64 ca) ∧ W.cell? ⟨w.heap.size, 2, none⟩ = some (.int .i64 cn) ∧ W.cell? ⟨w.heap.size, 3, none⟩ = some (.int .i64 cnw) ∧ W.cell? ⟨w.heap.size, 4, none⟩ = some (.int .i64 ctw) ∧ W.cell? ⟨w.heap.size, 5, none⟩ = some (.int .i64 cp) ∧ W.cell? ⟨w.heap.size, 6, none⟩ = some (.int .i64 cf) ∧ W.cell? ⟨w.heap.size, 7, none⟩ = some (.int .i64 cb) ∧ W.cell? ⟨w.heap.size, 8, none⟩ = some (.int .i64 co))
    (first | with_reducible exact HC.out _ BB.out | with_reducible exact HC.out _ (BB.out.alloc BB.out.size _))
    (first
    | (go_at_call 14; refine (CF.out _ _ KX.out.holds).mono ?_; rintro e wn ⟨rfl, hb⟩; have BB := Lib.hid (below_then BB.out hb (Nat.le_refl _)); have KX := Lib.hid (KX.out.still hb); clear hb CF)
    | (go_at_call 15; refine (CR.out _ _ KX.out.holds).mono ?_; rintro e wn ⟨rfl, hb⟩; have BB := Lib.hid (below_then BB.out hb (Nat.le_refl _)); have KX := Lib.hid (KX.out.still hb); clear hb CR)
    | fail)
  all_goals
    have G := Lib.hid (HG.out _ BB.out)
    go_wp2_with fail
    go_ret
    exact ⟨rfl, G.out.bel⟩

theorem faults_any (l : List Ar) (v : Value) (c : Cl) (w : World) (hA : Holds w v l) :
    Calls Try.prog 5 #[v, c.v] w fun e w' => e = .returned (.bool true) ∧ Below w.heap.size w w' := by
  by_cases hl : l.length ≤ 30
  · exact faults_few l v c w hl hA
  · obtain ⟨A, cc, rfl⟩ := hA.is
    exact faults_many A l.length cc c w (by omega)
end Go.Proofs.Ytpekdbncgdlblaa
