/-
  Layer 7: what is put and cut again leaves what was cut alone.
-/
import Derived.Test.YteockpmadpbjiaaListHold
namespace Go.Proofs.Yteockpmadpbjiaa
open Go.ChangeShapes Go.WideShapes Go.ChangeAt Go.RowKit Go.Shelf
set_option linter.unusedVariables false
attribute [local go_sem ↓] Go.wp_at_zero Go.wp_at_succ

theorem Holds.is {w : World} {v : Value} {X : List Ar} (h : Holds w v X) : ∃ A c, v = .slice A X.length c := by
  obtain ⟨A, c, e, _⟩ := h; exact ⟨A, c, e⟩

set_option maxRecDepth 4000 in
set_option maxHeartbeats 8000000 in
theorem undone_few (l : List Ar) (v : Value) (a : Ar) (w : World) (hl : l.length ≤ 20) (hA : Holds w v l) (hf : Formed a) :
    Calls Try.prog 4 #[v, a.v] w fun e w' => e = .returned (.bool true) ∧ Below w.heap.size w w' := by
  have W0 := Lib.hid list_awake
  have XF := Lib.hid (refFormed_any a)
  rw [decide_eq_true hf] at XF
  have G0 := Lib.hid ((Bag.new w).add 24 a.cells)
  have KL := Lib.hid (hA.still (below_new w (.cells a.cells 24)))
  have CM : Hid (∀ w' u, Holds w' u l → Calls Try.prog 11 #[u] w' fun e w'' => ∃ v', e = .returned v' ∧ Holds w'' v' (madeL l) ∧ Below w'.heap.size w' w'') := Lib.hid (fun w' u h => made_c h (by omega))
  have hX := madeL_right l
  generalize madeL l = X at *
  have CPX : Hid (∀ w' u, Holds w' u X → Calls Try.prog 12 #[u, a.v] w' fun e w'' => ∃ v', e = .returned v' ∧ Holds w'' v' (putC X a) ∧ Below w'.heap.size w' w'') := Lib.hid (fun w' u h => put_c h hX hf)
  have CCX : Hid (∀ w' u, Holds w' u X → Calls Try.prog 13 #[u, .int .i64 a.s, .int .i64 a.e] w' fun e w'' => ∃ v', e = .returned v' ∧ Holds w'' v' (outsideL a.s a.e X) ∧ Below w'.heap.size w' w'') := Lib.hid (fun w' u h => cut_c h hX _ _)
  have CCP : Hid (∀ w' u, Holds w' u (putC X a) → Calls Try.prog 13 #[u, .int .i64 a.s, .int .i64 a.e] w' fun e w'' => ∃ v', e = .returned v' ∧ Holds w'' v' (outsideL a.s a.e X) ∧ Below w'.heap.size w' w'') := Lib.hid (fun w' u h => by
    have := cut_c h (putC_right hX hf) a.s a.e
    rwa [undone_cut hX hf] at this)
  have CPC : Hid (∀ w' u, Holds w' u (outsideL a.s a.e X) → Calls Try.prog 12 #[u, a.v] w' fun e w'' => ∃ v', e = .returned v' ∧ Holds w'' v' (putC X a) ∧ Below w'.heap.size w' w'') := Lib.hid (fun w' u h => by
    have := put_c h (outside_right a.s a.e hX) hf
    rwa [undone_put hX hf] at this)
  have SC : Hid (∀ w' u u', Holds w' u (outsideL a.s a.e X) → Holds w' u' (outsideL a.s a.e X) → Calls Try.prog 15 #[u, u'] w' fun e w'' => e = .returned (.bool true) ∧ Below w'.heap.size w' w'') := Lib.hid (fun w' u u' h h' => same_c h h' rfl (outside_right a.s a.e hX))
  have SP : Hid (∀ w' u u', Holds w' u (putC X a) → Holds w' u' (putC X a) → Calls Try.prog 15 #[u, u'] w' fun e w'' => e = .returned (.bool true) ∧ Below w'.heap.size w' w'') := Lib.hid (fun w' u u' h h' => same_c h h' rfl (putC_right hX hf))
  obtain ⟨A, c, rfl⟩ := hA.is
  clear hA hf hX
  generalize putC X a = P at *
  generalize outsideL a.s a.e X = C at *
  generalize l.length = n at *
  obtain ⟨a0, a1, a2, a3, a4, a5⟩ := a
  simp only [Ar.v, Ar.cells] at XF G0 CPX CCX CCP CPC KL ⊢
  go_enter Try.func4, Try.ntmps4
  go_wp2_with fail
  refine (W0.out _).mono ?_
  rintro e w1 ⟨rfl, hb⟩
  have G1 := Lib.hid (G0.out.still hb)
  have K1 := Lib.hid (KL.out.still hb)
  clear hb G0 KL
  obtain ⟨d0, d1, d2, d3, d4, d5⟩ := row6 G1.out.v0
  go_wp2_with fail
  refine (XF.out _).mono ?_
  rintro e w2 ⟨rfl, hb⟩
  have G2 := Lib.hid (G1.out.still hb)
  have K2 := Lib.hid (K1.out.still hb)
  clear hb G1 K1 d0 d1 d2 d3 d4 d5 XF
  go_wp2_with fail
  refine (CM.out _ _ K2.out).mono ?_
  rintro e w3 ⟨vx, rfl, hX, hb⟩
  have G3 := Lib.hid (G2.out.still hb)
  have KX := Lib.hid hX
  clear hb hX G2 K2 CM
  have HK : Hid (∀ w', Below w3.heap.size w3 w' → (w'.cell? ⟨w.heap.size, 0, none⟩ = some (.int .i64 a0) ∧ w'.cell? ⟨w.heap.size, 1, none⟩ = some (.int .i64 a1) ∧ w'.cell? ⟨w.heap.size, 2, none⟩ = some (.int .i64 a2) ∧ w'.cell? ⟨w.heap.size, 3, none⟩ = some (.bool a3) ∧ w'.cell? ⟨w.heap.size, 4, none⟩ = some (.int .i64 a4) ∧ w'.cell? ⟨w.heap.size, 5, none⟩ = some (.int .i64 a5))) := Lib.hid (fun w' h => row6 (G3.out.still h).v0)
  go_wp2_with fail
  have BB : Hid (Below w3.heap.size w3 w3.drew) := Lib.hid (below_drew (Below.refl _ _))
  have KX : Hid (Holds w3.drew vx X) := Lib.hid (KX.out.still (below_drew (Below.refl _ _)))
  go_region_held3 (fun w' => w'.cell? ⟨w.heap.size, 0, none⟩ = some (.int .i64 a0) ∧ w'.cell? ⟨w.heap.size, 1, none⟩ = some (.int .i64 a1) ∧ w'.cell? ⟨w.heap.size, 2, none⟩ = some (.int .i64 a2) ∧ w'.cell? ⟨w.heap.size, 3, none⟩ = some (.bool a3) ∧ w'.cell? ⟨w.heap.size, 4, none⟩ = some (.int .i64 a4) ∧ w'.cell? ⟨w.heap.size, 5, none⟩ = some (.int .i64 a5))
    (exact HK.out _ BB.out)
    (first
    | (go_at_call 12; refine (CPC.out _ _ K42.out).mono ?_; rintro e w8 ⟨v44, rfl, h44, hb⟩; have BB := Lib.hid (below_then BB.out hb (Nat.le_refl _)); have K44 := Lib.hid h44; have KX := Lib.hid (KX.out.still hb); clear hb h44 CPC)
    | (go_at_call 12; refine (CPX.out _ _ KX.out).mono ?_; rintro e w9 ⟨v47, rfl, h47, hb⟩; have BB := Lib.hid (below_then BB.out hb (Nat.le_refl _)); have K47 := Lib.hid h47; have K44 := Lib.hid (K44.out.still hb); clear hb h47)
    | (go_at_call 12; refine (CPX.out _ _ KX.out).mono ?_; rintro e w4 ⟨v23, rfl, h23, hb⟩; have BB := Lib.hid (below_then BB.out hb (Nat.le_refl _)); have K23 := Lib.hid h23; have KX := Lib.hid (KX.out.still hb); clear hb h23)
    | (go_at_call 13; refine (CCP.out _ _ K23.out).mono ?_; rintro e w5 ⟨v28, rfl, h28, hb⟩; have BB := Lib.hid (below_then BB.out hb (Nat.le_refl _)); have K28 := Lib.hid h28; have KX := Lib.hid (KX.out.still hb); clear hb h28 CCP)
    | (go_at_call 13; refine (CCX.out _ _ KX.out).mono ?_; rintro e w6 ⟨v34, rfl, h34, hb⟩; have BB := Lib.hid (below_then BB.out hb (Nat.le_refl _)); have K34 := Lib.hid h34; have KX := Lib.hid (KX.out.still hb); have K28 := Lib.hid (K28.out.still hb); clear hb h34)
    | (go_at_call 13; refine (CCX.out _ _ KX.out).mono ?_; rintro e w6 ⟨v42, rfl, h42, hb⟩; have BB := Lib.hid (below_then BB.out hb (Nat.le_refl _)); have K42 := Lib.hid h42; have KX := Lib.hid (KX.out.still hb); clear hb h42)
    | (go_at_call 15; refine (SC.out _ _ _ K28.out K34.out).mono ?_; rintro e w7 ⟨rfl, hb⟩; have BB := Lib.hid (below_then BB.out hb (Nat.le_refl _)); have KX := Lib.hid (KX.out.still hb); clear hb SC K28 K34)
    | (go_at_call 15; refine (SP.out _ _ _ K44.out K47.out).mono ?_; rintro e w10 ⟨rfl, hb⟩; have BB := Lib.hid (below_then BB.out hb (Nat.le_refl _)); clear hb SP))
  all_goals (
    go_wp2_with fail
    go_ret
    exact ⟨rfl, below_then G3.out.bel BB.out (Nat.le_refl _)⟩)

set_option maxHeartbeats 2000000 in
theorem undone_many (A : Option Addr) (n c : Nat) (a : Ar) (w : World) (hn : 20 < n) :
    Calls Try.prog 4 #[.slice A n c, a.v] w fun e w' => e = .returned (.bool true) ∧ Below w.heap.size w w' := by
  have W0 := Lib.hid list_awake
  have hz : (20 : Int) < (n : Int) := by omega
  obtain ⟨a0, a1, a2, a3, a4, a5⟩ := a
  simp only [Ar.v]
  go_enter Try.func4, Try.ntmps4
  go_wp2_with fail
  refine (W0.out _).mono ?_
  rintro e w1 ⟨rfl, hb1⟩
  have B1 := Lib.hid (below_then (below_new w _) hb1 (Nat.le_refl _))
  clear hb1
  go_wp2_with fail
  refine (W0.out _).mono ?_
  rintro e w2 ⟨rfl, hb2⟩
  have B2 := Lib.hid (below_then B1.out hb2 (Nat.le_refl _))
  clear hb2
  go_wp2_with fail
  go_ret
  exact ⟨rfl, B2.out⟩
set_option maxHeartbeats 2000000 in
theorem undone_wrong (A : Option Addr) (n c : Nat) (a : Ar) (w : World) (hn : n ≤ 20) (hf : ¬ Formed a) :
    Calls Try.prog 4 #[.slice A n c, a.v] w fun e w' => e = .returned (.bool true) ∧ Below w.heap.size w w' := by
  have W0 := Lib.hid list_awake
  have XF := Lib.hid (refFormed_any a)
  rw [decide_eq_false hf] at XF
  have G0 := Lib.hid ((Bag.new w).add 24 a.cells)
  have hz : ¬ (20 : Int) < (n : Int) := by omega
  clear hf
  obtain ⟨a0, a1, a2, a3, a4, a5⟩ := a
  simp only [Ar.v, Ar.cells] at XF G0 ⊢
  go_enter Try.func4, Try.ntmps4
  go_wp2_with fail
  refine (W0.out _).mono ?_
  rintro e w1 ⟨rfl, hb⟩
  have G1 := Lib.hid (G0.out.still hb)
  clear hb G0
  obtain ⟨d0, d1, d2, d3, d4, d5⟩ := row6 G1.out.v0
  go_wp2_with fail
  refine (XF.out _).mono ?_
  rintro e w2 ⟨rfl, hb⟩
  have G2 := Lib.hid (G1.out.still hb)
  clear hb G1 d0 d1 d2 d3 d4 d5 XF
  go_wp2_with fail
  refine (W0.out _).mono ?_
  rintro e w3 ⟨rfl, hb⟩
  have G3 := Lib.hid (G2.out.still hb)
  clear hb G2
  go_wp2_with fail
  go_ret
  exact ⟨rfl, G3.out.bel⟩
theorem undone_any (l : List Ar) (v : Value) (a : Ar) (w : World) (hA : Holds w v l) :
    Calls Try.prog 4 #[v, a.v] w fun e w' => e = .returned (.bool true) ∧ Below w.heap.size w w' := by
  by_cases hn : l.length ≤ 20
  · by_cases hf : Formed a
    · exact undone_few l v a w hn hA hf
    · obtain ⟨A, c, rfl⟩ := hA.is
      exact undone_wrong A l.length c a w hn hf
  · obtain ⟨A, c, rfl⟩ := hA.is
    exact undone_many A l.length c a w (by omega)
end Go.Proofs.Yteockpmadpbjiaa
