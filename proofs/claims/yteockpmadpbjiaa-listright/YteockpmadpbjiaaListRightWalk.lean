/-
  Layer 7: of all lists it is told whether they are right; of those that aren't nothing is told.
-/
import Derived.Test.YteockpmadpbjiaaListHold
import Derived.Test.YteockpmadpbjiaaListRefR
namespace Go.Proofs.Yteockpmadpbjiaa
open Go.ChangeShapes Go.WideShapes Go.ChangeAt Go.RowKit Go.Shelf
set_option linter.unusedVariables false
attribute [local go_sem ↓] Go.wp_at_zero Go.wp_at_succ
def two'' (t0 t1 : Int) : Value := .agg #[.int .i64 t0, .int .i64 t1]

set_option maxHeartbeats 2000000 in
theorem right_many (A : Option Addr) (n c : Nat) (a : Ar) (t0 t1 : Int) (w : World) (hn : 40 < n) :
    Calls Try.prog 6 #[.slice A n c, a.v, two'' t0 t1] w fun e w' => e = .returned (.bool true) ∧ Below w.heap.size w w' := by
  have W0 := Lib.hid list_awake
  have hz : (40 : Int) < (n : Int) := by omega
  obtain ⟨a0, a1, a2, a3, a4, a5⟩ := a
  simp only [Ar.v, two'']
  go_enter Try.func6, Try.ntmps6
  go_wp2_with fail
  refine (W0.out _).mono ?_
  rintro e w1 ⟨rfl, hb1⟩
  have B1 := Lib.hid (below_then (Bag.two w 24 25 _ _).bel hb1 (Nat.le_refl _))
  clear hb1
  go_wp2_with fail
  refine (W0.out _).mono ?_
  rintro e w2 ⟨rfl, hb2⟩
  have B2 := Lib.hid (below_then B1.out hb2 (Nat.le_refl _))
  clear hb2
  go_wp2_with fail
  go_ret
  exact ⟨rfl, B2.out⟩

set_option maxHeartbeats 2000000 in
theorem right_yes (l : List Ar) (v : Value) (a : Ar) (t0 t1 : Int) (w : World) (hl : l.length ≤ 40) (hA : Holds w v l) (hr : RightL l) :
    Calls Try.prog 6 #[v, a.v, two'' t0 t1] w fun e w' => e = .returned (.bool true) ∧ Below w.heap.size w w' := by
  have W0 := Lib.hid list_awake
  have G0 := Lib.hid (Bag.two w 24 25 a.cells #[.int .i64 t0, .int .i64 t1])
  have KL := Lib.hid (hA.still G0.out.bel)
  have CR : Hid (∀ w' u, Holds w' u l → Calls Try.prog 17 #[u] w' fun e w'' => e = .returned (.bool true) ∧ Below w'.heap.size w' w'') := Lib.hid (fun w' u h => by
    obtain ⟨A, c, rfl, hc, hA⟩ := h
    have := refRight_any A c l (by omega) w' hA
    rwa [decide_eq_true hr] at this)
  have CL : Hid (∀ w' u, Holds w' u l → Calls Try.prog 18 #[u] w' fun e w'' => e = .returned (.bool true) ∧ Below w'.heap.size w' w'') := Lib.hid (fun w' u h => by
    obtain ⟨A, c, rfl, hc, hA⟩ := h
    have := right_any A l c (by omega) w' hA
    rwa [decide_eq_true hr] at this)
  have CS : Hid (∀ w' u, Holds w' u l → Calls Try.prog 19 #[u, u] w' fun e w'' => e = .returned (.bool true) ∧ Below w'.heap.size w' w'') := Lib.hid (fun w' u h => by
    obtain ⟨A, c, rfl, hc, hA⟩ := h
    exact lsame_any A c l (by omega) hr w' hA)
  obtain ⟨A, c, rfl⟩ : ∃ A c, v = .slice A l.length c := by obtain ⟨A, c, e, _⟩ := hA; exact ⟨A, c, e⟩
  clear hA hr
  generalize l.length = n at *
  have hz : ¬ (40 : Int) < (n : Int) := by omega
  obtain ⟨a0, a1, a2, a3, a4, a5⟩ := a
  simp only [Ar.v, Ar.cells, two''] at G0 KL ⊢
  go_enter Try.func6, Try.ntmps6
  go_wp2_with fail
  refine (W0.out _).mono ?_
  rintro e w1 ⟨rfl, hb⟩
  have G1 := Lib.hid (G0.out.still hb)
  have K1 := Lib.hid (KL.out.still hb)
  clear hb G0 KL
  go_wp2_with fail
  refine (CR.out _ _ K1.out).mono ?_
  rintro e w2 ⟨rfl, hb⟩
  have G2 := Lib.hid (G1.out.still hb)
  have K2 := Lib.hid (K1.out.still hb)
  clear hb G1 K1 CR
  go_wp2_with fail
  refine (CL.out _ _ K2.out).mono ?_
  rintro e w3 ⟨rfl, hb⟩
  have G3 := Lib.hid (G2.out.still hb)
  have K3 := Lib.hid (K2.out.still hb)
  clear hb G2 K2 CL
  go_wp2_with fail
  refine (CS.out _ _ K3.out).mono ?_
  rintro e w4 ⟨rfl, hb⟩
  have G4 := Lib.hid (G3.out.still hb)
  clear hb G3 K3 CS
  go_wp2_with fail
  go_ret
  exact ⟨rfl, G4.out.bel⟩

set_option maxRecDepth 4000 in
set_option maxHeartbeats 4000000 in
theorem right_not (l : List Ar) (v : Value) (a : Ar) (t0 t1 : Int) (w : World) (hl : l.length ≤ 40) (hA : Holds w v l) (hr : ¬ RightL l) :
    Calls Try.prog 6 #[v, a.v, two'' t0 t1] w fun e w' => e = .returned (.bool true) ∧ Below w.heap.size w w' := by
  have W0 := Lib.hid list_awake
  have G0 := Lib.hid (Bag.two w 24 25 a.cells #[.int .i64 t0, .int .i64 t1])
  have KL := Lib.hid (hA.still G0.out.bel)
  have CR : Hid (∀ w' u, Holds w' u l → Calls Try.prog 17 #[u] w' fun e w'' => e = .returned (.bool false) ∧ Below w'.heap.size w' w'') := Lib.hid (fun w' u h => by
    obtain ⟨A, c, rfl, hc, hA⟩ := h
    have := refRight_any A c l (by omega) w' hA
    rwa [decide_eq_false hr] at this)
  have CL : Hid (∀ w' u, Holds w' u l → Calls Try.prog 18 #[u] w' fun e w'' => e = .returned (.bool false) ∧ Below w'.heap.size w' w'') := Lib.hid (fun w' u h => by
    obtain ⟨A, c, rfl, hc, hA⟩ := h
    have := right_any A l c (by omega) w' hA
    rwa [decide_eq_false hr] at this)
  have CF : Hid (∀ w' u, Holds w' u l → Calls Try.prog 20 #[u, .int .i64 t0] w' fun e w'' => e = .returned (.tuple #[Ar.nil.v, .bool false]) ∧ Below w'.heap.size w' w'') := Lib.hid (fun w' u h => by
    obtain ⟨A, c, rfl, hc, hA⟩ := h
    exact find_no A l c t0 (by omega) hr w' hA)
  have CC : Hid (∀ w' u, Holds w' u l → Calls Try.prog 21 #[u, .int .i64 t0, .int .i64 t1] w' fun e w'' => e = .returned (.bool false) ∧ Below w'.heap.size w' w'') := Lib.hid (fun w' u h => by
    obtain ⟨A, c, rfl, hc, hA⟩ := h
    exact covered_no A l c t0 t1 (by omega) hr w' hA)
  have CW : Hid (∀ w' u, Holds w' u l → Calls Try.prog 22 #[u, .int .i64 t0, .int .i64 t1] w' fun e w'' => e = .returned (.slice none 0 0) ∧ Below w'.heap.size w' w'') := Lib.hid (fun w' u h => by
    obtain ⟨A, c, rfl, hc, hA⟩ := h
    exact within_no A l c t0 t1 (by omega) hr w' hA)
  have CU : Hid (∀ w' u, Holds w' u l → Calls Try.prog 13 #[u, .int .i64 t0, .int .i64 t1] w' fun e w'' => e = .returned (.slice none 0 0) ∧ Below w'.heap.size w' w'') := Lib.hid (fun w' u h => by
    obtain ⟨A, c, rfl, hc, hA⟩ := h
    exact cut_no A l c t0 t1 (by omega) hr w' hA)
  have CP : Hid (∀ w' u, Holds w' u l → Calls Try.prog 12 #[u, a.v] w' fun e w'' => e = .returned (.slice none 0 0) ∧ Below w'.heap.size w' w'') := Lib.hid (fun w' u h => by
    obtain ⟨A, c, rfl, hc, hA⟩ := h
    exact put_no A l c a (by omega) (fun h => hr h.1) w' hA)
  have CS : Hid (∀ w' u, Holds w' u l → Calls Try.prog 14 #[u, .int .i64 t0, .int .i64 t1, .int .i64 1] w' fun e w'' => e = .returned (.slice none 0 0) ∧ Below w'.heap.size w' w'') := Lib.hid (fun w' u h => by
    obtain ⟨A, c, rfl, hc, hA⟩ := h
    exact set_no A l c t0 t1 1 (by omega) hr w' hA)
  have CG : Hid (∀ w' u, Holds w' u l → Calls Try.prog 16 #[u] w' fun e w'' => e = .returned (.int .i64 0) ∧ Below w'.heap.size w' w'') := Lib.hid (fun w' u h => by
    obtain ⟨A, c, rfl, hc, hA⟩ := h
    exact pages_no A l c (by omega) hr w' hA)
  obtain ⟨A, c, rfl⟩ : ∃ A c, v = .slice A l.length c := by obtain ⟨A, c, e, _⟩ := hA; exact ⟨A, c, e⟩
  clear hA hr
  generalize l.length = n at *
  have hz : ¬ (40 : Int) < (n : Int) := by omega
  obtain ⟨a0, a1, a2, a3, a4, a5⟩ := a
  simp only [Ar.v, Ar.cells, Ar.nil, two''] at G0 KL CF CP ⊢
  go_enter Try.func6, Try.ntmps6
  go_wp2_with fail
  refine (W0.out _).mono ?_
  rintro e w1 ⟨rfl, hb⟩
  have G1 := Lib.hid (G0.out.still hb)
  have K1 := Lib.hid (KL.out.still hb)
  clear hb G0 KL
  go_wp2_with fail
  refine (CR.out _ _ K1.out).mono ?_
  rintro e w2 ⟨rfl, hb⟩
  have G2 := Lib.hid (G1.out.still hb)
  have K2 := Lib.hid (K1.out.still hb)
  clear hb G1 K1 CR
  go_wp2_with fail
  refine (CL.out _ _ K2.out).mono ?_
  rintro e w3 ⟨rfl, hb⟩
  have G3 := Lib.hid (G2.out.still hb)
  have K3 := Lib.hid (K2.out.still hb)
  clear hb G2 K2 CL
  have r0 := G3.out.v0.cell 0
  have r1 := G3.out.v0.cell 1
  obtain ⟨d0, d1, d2, d3, d4, d5⟩ := row6 G3.out.v1
  go_wp2_with fail
  refine (CF.out _ _ K3.out).mono ?_
  rintro e w4 ⟨rfl, hb⟩
  have G4 := Lib.hid (G3.out.still hb)
  have K4 := Lib.hid (K3.out.still hb)
  clear hb G3 K3 CF r0 r1 d0 d1 d2 d3 d4 d5
  have G5 := Lib.hid (G4.out.add 24 #[.int .i64 0, .int .i64 0, .int .i64 0, .bool false, .int .i64 0, .int .i64 0])
  have K5 := Lib.hid (K4.out.still (below_new w4 (.cells #[.int .i64 0, .int .i64 0, .int .i64 0, .bool false, .int .i64 0, .int .i64 0] 24)))
  clear G4 K4
  have r0 := G5.out.v1.cell 0
  have r1 := G5.out.v1.cell 1
  obtain ⟨d0, d1, d2, d3, d4, d5⟩ := row6 G5.out.v2
  go_wp2_with fail
  refine (CC.out _ _ K5.out).mono ?_
  rintro e w6 ⟨rfl, hb⟩
  have G6 := Lib.hid (G5.out.still hb)
  have K6 := Lib.hid (K5.out.still hb)
  clear hb G5 K5 CC r0 r1 d0 d1 d2 d3 d4 d5
  have r0 := G6.out.v1.cell 0
  have r1 := G6.out.v1.cell 1
  obtain ⟨d0, d1, d2, d3, d4, d5⟩ := row6 G6.out.v2
  go_wp2_with fail
  refine (CW.out _ _ K6.out).mono ?_
  rintro e w7 ⟨rfl, hb⟩
  have G7 := Lib.hid (G6.out.still hb)
  have K7 := Lib.hid (K6.out.still hb)
  clear hb G6 K6 CW r0 r1 d0 d1 d2 d3 d4 d5
  have r0 := G7.out.v1.cell 0
  have r1 := G7.out.v1.cell 1
  obtain ⟨d0, d1, d2, d3, d4, d5⟩ := row6 G7.out.v2
  go_wp2_with fail
  refine (CU.out _ _ K7.out).mono ?_
  rintro e w8 ⟨rfl, hb⟩
  have G8 := Lib.hid (G7.out.still hb)
  have K8 := Lib.hid (K7.out.still hb)
  clear hb G7 K7 CU r0 r1 d0 d1 d2 d3 d4 d5
  have r0 := G8.out.v1.cell 0
  have r1 := G8.out.v1.cell 1
  obtain ⟨d0, d1, d2, d3, d4, d5⟩ := row6 G8.out.v2
  go_wp2_with fail
  refine (CP.out _ _ K8.out).mono ?_
  rintro e w9 ⟨rfl, hb⟩
  have G9 := Lib.hid (G8.out.still hb)
  have K9 := Lib.hid (K8.out.still hb)
  clear hb G8 K8 CP r0 r1 d0 d1 d2 d3 d4 d5
  have r0 := G9.out.v1.cell 0
  have r1 := G9.out.v1.cell 1
  obtain ⟨d0, d1, d2, d3, d4, d5⟩ := row6 G9.out.v2
  go_wp2_with fail
  refine (CS.out _ _ K9.out).mono ?_
  rintro e w10 ⟨rfl, hb⟩
  have G10 := Lib.hid (G9.out.still hb)
  have K10 := Lib.hid (K9.out.still hb)
  clear hb G9 K9 CS r0 r1 d0 d1 d2 d3 d4 d5
  have r0 := G10.out.v1.cell 0
  have r1 := G10.out.v1.cell 1
  obtain ⟨d0, d1, d2, d3, d4, d5⟩ := row6 G10.out.v2
  go_wp2_with fail
  refine (CG.out _ _ K10.out).mono ?_
  rintro e w11 ⟨rfl, hb⟩
  have G11 := Lib.hid (G10.out.still hb)
  have K11 := Lib.hid (K10.out.still hb)
  clear hb G10 K10 CG r0 r1 d0 d1 d2 d3 d4 d5
  have r0 := G11.out.v1.cell 0
  have r1 := G11.out.v1.cell 1
  obtain ⟨d0, d1, d2, d3, d4, d5⟩ := row6 G11.out.v2
  go_wp2_with fail
  go_ret
  exact ⟨rfl, G11.out.bel⟩

theorem right_law (l : List Ar) (v : Value) (a : Ar) (t0 t1 : Int) (w : World) (hA : Holds w v l) :
    Calls Try.prog 6 #[v, a.v, two'' t0 t1] w fun e w' => e = .returned (.bool true) ∧ Below w.heap.size w w' := by
  by_cases hn : l.length ≤ 40
  · by_cases hr : RightL l
    · exact right_yes l v a t0 t1 w hn hA hr
    · exact right_not l v a t0 t1 w hn hA hr
  · obtain ⟨A, c, rfl⟩ : ∃ A c, v = .slice A l.length c := by obtain ⟨A, c, e, _⟩ := hA; exact ⟨A, c, e⟩
    exact right_many A l.length c a t0 t1 w (by omega)
end Go.Proofs.Yteockpmadpbjiaa
