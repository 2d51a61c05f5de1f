/-
  Layer 7: what is put twice, cut twice, or set twice, is as once.
-/
import Derived.Test.YteockpmadpbjiaaListHold
namespace Go.Proofs.Yteockpmadpbjiaa
open Go.ChangeShapes Go.WideShapes Go.ChangeAt Go.RowKit Go.Shelf
set_option linter.unusedVariables false
attribute [local go_sem ↓] Go.wp_at_zero Go.wp_at_succ

theorem row2 {w : World} {q : Nat} {t : TypeId} {a b : Value} (h : Whole w q t #[a, b]) : w.cell? ⟨q, 0, none⟩ = some a ∧ w.cell? ⟨q, 1, none⟩ = some b := ⟨h.cell 0, h.cell 1⟩
/-- Two numbers, as the program has them. -/
def two (t0 t1 : Int) : Value := .agg #[.int .i64 t0, .int .i64 t1]

set_option maxHeartbeats 2000000 in
theorem twice_many (A : Option Addr) (n c : Nat) (a : Ar) (t0 t1 : Int) (w : World) (hn : 20 < n) :
    Calls Try.prog 3 #[.slice A n c, a.v, two t0 t1] w fun e w' => e = .returned (.bool true) ∧ Below w.heap.size w w' := by
  have W0 := Lib.hid list_awake
  have hz : (20 : Int) < (n : Int) := by omega
  obtain ⟨a0, a1, a2, a3, a4, a5⟩ := a
  simp only [Ar.v, two]
  go_enter Try.func3, Try.ntmps3
  go_wp2_with fail
  refine (W0.out _).mono ?_
  rintro e w1 ⟨rfl, hb1⟩
  have B1 := Lib.hid (below_then (below_new2 w _ _) hb1 (Nat.le_refl _))
  clear hb1
  go_wp2_with fail
  refine (W0.out _).mono ?_
  rintro e w2 ⟨rfl, hb2⟩
  have B2 := Lib.hid (below_then B1.out hb2 (Nat.le_refl _))
  clear hb2
  go_wp2_with fail
  go_ret
  exact ⟨rfl, B2.out⟩
set_option maxHeartbeats 2000000 in
theorem twice_wrong (A : Option Addr) (n c : Nat) (a : Ar) (t0 t1 : Int) (w : World) (hn : n ≤ 20) (hf : ¬ Formed a) :
    Calls Try.prog 3 #[.slice A n c, a.v, two t0 t1] w fun e w' => e = .returned (.bool true) ∧ Below w.heap.size w w' := by
  have W0 := Lib.hid list_awake
  have XF := Lib.hid (refFormed_any a)
  rw [decide_eq_false hf] at XF
  have G0 := Lib.hid (((Bag.new w).add 24 a.cells).add 25 #[.int .i64 t0, .int .i64 t1])
  have hz : ¬ (20 : Int) < (n : Int) := by omega
  clear hf
  obtain ⟨a0, a1, a2, a3, a4, a5⟩ := a
  simp only [Ar.v, Ar.cells, two, World.size_alloc] at XF G0 ⊢
  go_enter Try.func3, Try.ntmps3
  go_wp2_with fail
  refine (W0.out _).mono ?_
  rintro e w1 ⟨rfl, hb⟩
  have G1 := Lib.hid (G0.out.still hb)
  clear hb G0
  obtain ⟨d0, d1, d2, d3, d4, d5⟩ := row6 G1.out.v1
  go_wp2_with fail
  refine (XF.out _).mono ?_
  rintro e w2 ⟨rfl, hb⟩
  have G2 := Lib.hid (G1.out.still hb)
  clear hb G1 d0 d1 d2 d3 d4 d5 XF
  go_wp2_with fail
  refine (W0.out _).mono ?_
  rintro e w3 ⟨rfl, hb⟩
  have G3 := Lib.hid (G2.out.still hb)
  clear hb G2
  go_wp2_with fail
  go_ret
  exact ⟨rfl, G3.out.bel⟩

set_option maxRecDepth 4000 in
set_option maxHeartbeats 8000000 in
theorem twice_few (l : List Ar) (v : Value) (a : Ar) (t0 t1 : Int) (w : World) (hl : l.length ≤ 20) (hA : Holds w v l) (hf : Formed a) :
    Calls Try.prog 3 #[v, a.v, two t0 t1] w fun e w' => e = .returned (.bool true) ∧ Below w.heap.size w w' := by
  have W0 := Lib.hid list_awake
  have XF := Lib.hid (refFormed_any a)
  rw [decide_eq_true hf] at XF
  have G0 := Lib.hid (((Bag.new w).add 24 a.cells).add 25 #[.int .i64 t0, .int .i64 t1])
  have KL := Lib.hid (hA.still (below_new2 w (.cells a.cells 24) (.cells #[.int .i64 t0, .int .i64 t1] 25)))
  have CM : Hid (∀ w' u, Holds w' u l → Calls Try.prog 11 #[u] w' fun e w'' => ∃ v', e = .returned v' ∧ Holds w'' v' (madeL l) ∧ Below w'.heap.size w' w'') := Lib.hid (fun w' u h => made_c h (by omega))
  have hX := madeL_right l
  generalize madeL l = X at *
  have hP := putC_right hX hf
  have hC := outside_right t0 t1 hX
  have hS := setC_right hX t0 t1 (pr := 2) (by omega) (by omega)
  have C28 : Hid (∀ w' u, Holds w' u X → Calls Try.prog 12 #[u, a.v] w' fun e w'' => ∃ v', e = .returned v' ∧ Holds w'' v' (putC X a) ∧ Below w'.heap.size w' w'') := Lib.hid (fun w' u h => put_c h hX hf)
  have C34 : Hid (∀ w' u, Holds w' u X → Calls Try.prog 13 #[u, .int .i64 t0, .int .i64 t1] w' fun e w'' => ∃ v', e = .returned v' ∧ Holds w'' v' (outsideL t0 t1 X) ∧ Below w'.heap.size w' w'') := Lib.hid (fun w' u h => cut_c h hX _ _)
  have C40 : Hid (∀ w' u, Holds w' u X → Calls Try.prog 14 #[u, .int .i64 t0, .int .i64 t1, .int .i64 2] w' fun e w'' => ∃ v', e = .returned v' ∧ Holds w'' v' (setC t0 t1 2 X) ∧ Below w'.heap.size w' w'') := Lib.hid (fun w' u h => set_c h hX _ _ (by omega) (by omega))
  have C43 : Hid (∀ w' u, Holds w' u (putC X a) → Calls Try.prog 12 #[u, a.v] w' fun e w'' => ∃ v', e = .returned v' ∧ Holds w'' v' (putC X a) ∧ Below w'.heap.size w' w'') := Lib.hid (fun w' u h => by have := put_c h hP hf; rwa [twice_put hX hf] at this)
  have C52 : Hid (∀ w' u, Holds w' u (outsideL t0 t1 X) → Calls Try.prog 13 #[u, .int .i64 t0, .int .i64 t1] w' fun e w'' => ∃ v', e = .returned v' ∧ Holds w'' v' (outsideL t0 t1 X) ∧ Below w'.heap.size w' w'') := Lib.hid (fun w' u h => by have := cut_c h hC t0 t1; rwa [twice_cut hX] at this)
  have C62 : Hid (∀ w' u, Holds w' u (setC t0 t1 2 X) → Calls Try.prog 14 #[u, .int .i64 t0, .int .i64 t1, .int .i64 2] w' fun e w'' => ∃ v', e = .returned v' ∧ Holds w'' v' (setC t0 t1 2 X) ∧ Below w'.heap.size w' w'') := Lib.hid (fun w' u h => by have := set_c h hS t0 t1 (pr := 2) (by omega) (by omega); rwa [twice_set hX t0 t1 (by omega) (by omega)] at this)
  have SP : Hid (∀ w' u u', Holds w' u (putC X a) → Holds w' u' (putC X a) → Calls Try.prog 15 #[u, u'] w' fun e w'' => e = .returned (.bool true) ∧ Below w'.heap.size w' w'') := Lib.hid (fun w' u u' h h' => same_c h h' rfl hP)
  have SC : Hid (∀ w' u u', Holds w' u (outsideL t0 t1 X) → Holds w' u' (outsideL t0 t1 X) → Calls Try.prog 15 #[u, u'] w' fun e w'' => e = .returned (.bool true) ∧ Below w'.heap.size w' w'') := Lib.hid (fun w' u u' h h' => same_c h h' rfl hC)
  have SS : Hid (∀ w' u u', Holds w' u (setC t0 t1 2 X) → Holds w' u' (setC t0 t1 2 X) → Calls Try.prog 15 #[u, u'] w' fun e w'' => e = .returned (.bool true) ∧ Below w'.heap.size w' w'') := Lib.hid (fun w' u u' h h' => same_c h h' rfl hS)
  obtain ⟨A, c, rfl⟩ : ∃ A c, v = .slice A l.length c := by obtain ⟨A, c, e, _⟩ := hA; exact ⟨A, c, e⟩
  clear hA hf hX hP hC hS
  generalize putC X a = P at *
  generalize outsideL t0 t1 X = C at *
  generalize setC t0 t1 2 X = S at *
  generalize l.length = n at *
  have hz : ¬ (20 : Int) < (n : Int) := by omega
  obtain ⟨a0, a1, a2, a3, a4, a5⟩ := a
  simp only [Ar.v, Ar.cells, two, World.size_alloc] at XF G0 C28 C43 KL ⊢
  go_enter Try.func3, Try.ntmps3
  go_wp2_with fail
  refine (W0.out _).mono ?_
  rintro e w1 ⟨rfl, hb⟩
  have G1 := Lib.hid (G0.out.still hb)
  have K1 := Lib.hid (KL.out.still hb)
  clear hb G0 KL
  obtain ⟨d0, d1, d2, d3, d4, d5⟩ := row6 G1.out.v1
  go_wp2_with fail
  refine (XF.out _).mono ?_
  rintro e w2 ⟨rfl, hb⟩
  have G2 := Lib.hid (G1.out.still hb)
  have K2 := Lib.hid (K1.out.still hb)
  clear hb G1 K1 d0 d1 d2 d3 d4 d5 XF
  go_wp2_with fail
  refine (CM.out _ _ K2.out).mono ?_
  rintro e w3 ⟨vx, rfl, hX, hb⟩
  have G3 := Lib.hid (G2.out.still hb)
  have KX := Lib.hid hX
  clear hb hX G2 K2 CM
  have HK : Hid (∀ w', Below w3.heap.size w3 w' → (w'.cell? ⟨w.heap.size, 0, none⟩ = some (.int .i64 a0) ∧ w'.cell? ⟨w.heap.size, 1, none⟩ = some (.int .i64 a1) ∧ w'.cell? ⟨w.heap.size, 2, none⟩ = some (.int .i64 a2) ∧ w'.cell? ⟨w.heap.size, 3, none⟩ = some (.bool a3) ∧ w'.cell? ⟨w.heap.size, 4, none⟩ = some (.int .i64 a4) ∧ w'.cell? ⟨w.heap.size, 5, none⟩ = some (.int .i64 a5) ∧ w'.cell? ⟨w.heap.size + 1, 0, none⟩ = some (.int .i64 t0) ∧ w'.cell? ⟨w.heap.size + 1, 1, none⟩ = some (.int .i64 t1))) := Lib.hid (fun w' h => by
    obtain ⟨d0, d1, d2, d3, d4, d5⟩ := row6 (G3.out.still h).v1
    obtain ⟨f0, f1⟩ := row2 (G3.out.still h).v0
    exact ⟨d0, d1, d2, d3, d4, d5, f0, f1⟩)
  go_wp2_with fail
  have BB : Hid (Below w3.heap.size w3 w3.drew) := Lib.hid (below_drew (Below.refl _ _))
  have KX : Hid (Holds w3.drew vx X) := Lib.hid (KX.out.still (below_drew (Below.refl _ _)))
  go_region_held3 (fun w' => w'.cell? ⟨w.heap.size, 0, none⟩ = some (.int .i64 a0) ∧ w'.cell? ⟨w.heap.size, 1, none⟩ = some (.int .i64 a1) ∧ w'.cell? ⟨w.heap.size, 2, none⟩ = some (.int .i64 a2) ∧ w'.cell? ⟨w.heap.size, 3, none⟩ = some (.bool a3) ∧ w'.cell? ⟨w.heap.size, 4, none⟩ = some (.int .i64 a4) ∧ w'.cell? ⟨w.heap.size, 5, none⟩ = some (.int .i64 a5) ∧ w'.cell? ⟨w.heap.size + 1, 0, none⟩ = some (.int .i64 t0) ∧ w'.cell? ⟨w.heap.size + 1, 1, none⟩ = some (.int .i64 t1))
    (exact HK.out _ BB.out)
    (first
    | (go_at_call 12; refine (C28.out _ _ KX.out).mono ?_; rintro e wn ⟨vnKP, rfl, hn, hb⟩; have BB := Lib.hid (below_then BB.out hb (Nat.le_refl _)); have KP := Lib.hid hn; clear hn; have KX := Lib.hid (KX.out.still hb); clear hb C28)
    | (go_at_call 13; refine (C34.out _ _ KX.out).mono ?_; rintro e wn ⟨vnKC, rfl, hn, hb⟩; have BB := Lib.hid (below_then BB.out hb (Nat.le_refl _)); have KC := Lib.hid hn; clear hn; have KX := Lib.hid (KX.out.still hb); have KP := Lib.hid (KP.out.still hb); clear hb C34)
    | (go_at_call 14; refine (C40.out _ _ KX.out).mono ?_; rintro e wn ⟨vnKS, rfl, hn, hb⟩; have BB := Lib.hid (below_then BB.out hb (Nat.le_refl _)); have KS := Lib.hid hn; clear hn; have KP := Lib.hid (KP.out.still hb); have KC := Lib.hid (KC.out.still hb); clear hb C40)
    | fail)

  all_goals (
    obtain ⟨d0, d1, d2, d3, d4, d5, f0, f1⟩ := HK.out _ BB.out
    go_wp2_with fail
    refine (C43.out _ _ KP.out).mono ?_
    rintro e w7 ⟨v43, rfl, h43, hb⟩
    have BB := Lib.hid (below_then BB.out hb (Nat.le_refl _))
    have K43 := Lib.hid h43
    have KP := Lib.hid (KP.out.still hb)
    have KC := Lib.hid (KC.out.still hb)
    have KS := Lib.hid (KS.out.still hb)
    clear hb h43 d0 d1 d2 d3 d4 d5 f0 f1
    go_wp2_with fail
    refine (SP.out _ _ _ K43.out KP.out).mono ?_
    rintro e w8 ⟨rfl, hb⟩
    have BB := Lib.hid (below_then BB.out hb (Nat.le_refl _))
    have KC := Lib.hid (KC.out.still hb)
    have KS := Lib.hid (KS.out.still hb)
    clear hb
    obtain ⟨d0, d1, d2, d3, d4, d5, f0, f1⟩ := HK.out _ BB.out
    go_wp2_with fail
    refine (C52.out _ _ KC.out).mono ?_
    rintro e w9 ⟨v52, rfl, h52, hb⟩
    have BB := Lib.hid (below_then BB.out hb (Nat.le_refl _))
    have K52 := Lib.hid h52
    have KC := Lib.hid (KC.out.still hb)
    have KS := Lib.hid (KS.out.still hb)
    clear hb h52 d0 d1 d2 d3 d4 d5 f0 f1
    go_wp2_with fail
    refine (SC.out _ _ _ K52.out KC.out).mono ?_
    rintro e w10 ⟨rfl, hb⟩
    have BB := Lib.hid (below_then BB.out hb (Nat.le_refl _))
    have KS := Lib.hid (KS.out.still hb)
    clear hb
    obtain ⟨d0, d1, d2, d3, d4, d5, f0, f1⟩ := HK.out _ BB.out
    go_wp2_with fail
    refine (C62.out _ _ KS.out).mono ?_
    rintro e w11 ⟨v62, rfl, h62, hb⟩
    have BB := Lib.hid (below_then BB.out hb (Nat.le_refl _))
    have K62 := Lib.hid h62
    have KS := Lib.hid (KS.out.still hb)
    clear hb h62 d0 d1 d2 d3 d4 d5 f0 f1
    go_wp2_with fail
    refine (SS.out _ _ _ K62.out KS.out).mono ?_
    rintro e w12 ⟨rfl, hb⟩
    have BB := Lib.hid (below_then BB.out hb (Nat.le_refl _))
    clear hb
    go_wp2_with fail
    go_ret
    exact ⟨rfl, below_then G3.out.bel BB.out (Nat.le_refl _)⟩)
theorem twice_any (l : List Ar) (v : Value) (a : Ar) (t0 t1 : Int) (w : World) (hA : Holds w v l) :
    Calls Try.prog 3 #[v, a.v, two t0 t1] w fun e w' => e = .returned (.bool true) ∧ Below w.heap.size w w' := by
  by_cases hn : l.length ≤ 20
  · by_cases hf : Formed a
    · exact twice_few l v a t0 t1 w hn hA hf
    · obtain ⟨A, c, rfl⟩ : ∃ A c, v = .slice A l.length c := by obtain ⟨A, c, e, _⟩ := hA; exact ⟨A, c, e⟩
      exact twice_wrong A l.length c a t0 t1 w hn hf
  · obtain ⟨A, c, rfl⟩ : ∃ A c, v = .slice A l.length c := by obtain ⟨A, c, e, _⟩ := hA; exact ⟨A, c, e⟩
    exact twice_many A l.length c a t0 t1 w (by omega)
end Go.Proofs.Yteockpmadpbjiaa
