/-
  Layer 7: two areas that don't touch the same pages may be put in any order.
-/
import Derived.Test.YteockpmadpbjiaaListHold
namespace Go.Proofs.Yteockpmadpbjiaa
open Go.ChangeShapes Go.WideShapes Go.ChangeAt Go.RowKit Go.Shelf
set_option linter.unusedVariables false
attribute [local go_sem ↓] Go.wp_at_zero Go.wp_at_succ

theorem Holds.is' {w : World} {v : Value} {X : List Ar} (h : Holds w v X) : ∃ A c, v = .slice A X.length c := by
  obtain ⟨A, c, e, _⟩ := h; exact ⟨A, c, e⟩

theorem apart_sums (a0 a1 b0 b1 : Int) (h0 : 65536 ≤ a0) (h1 : a0 < a1) (h2 : a1 ≤ 2097152) (k0 : 65536 ≤ b0) (k1 : b0 < b1) (k2 : b1 ≤ 2097152) :
    ((a1 - a0 + b1 - b0) / 4096 == IntKind.i64.wrap ((IntKind.i64.wrap (IntKind.i64.wrap (IntKind.i64.wrap (a1 - a0) + b1) - b0)).tdiv 4096)) = true := by
  have e1 : IntKind.i64.wrap (a1 - a0) = a1 - a0 := by rw [IntKind.wrap_i64]; omega
  have e2 : IntKind.i64.wrap (a1 - a0 + b1) = a1 - a0 + b1 := by rw [IntKind.wrap_i64]; omega
  have e3 : IntKind.i64.wrap (a1 - a0 + b1 - b0) = a1 - a0 + b1 - b0 := by rw [IntKind.wrap_i64]; omega
  rw [e1, e2, e3, tdiv_up (by omega)]
  have e4 : IntKind.i64.wrap ((a1 - a0 + b1 - b0) / 4096) = (a1 - a0 + b1 - b0) / 4096 := by rw [IntKind.wrap_i64]; omega
  rw [e4]; simp

set_option maxRecDepth 4000 in
set_option maxHeartbeats 8000000 in
theorem apart_few (l : List Ar) (v : Value) (a b : Ar) (w : World) (hl : l.length ≤ 20) (hA : Holds w v l) (hf : Formed a) (hg : Formed b) (ho : ¬ (a.s < b.e ∧ b.s < a.e)) :
    Calls Try.prog 5 #[v, a.v, b.v] w fun e w' => e = .returned (.bool true) ∧ Below w.heap.size w w' := by
  have W0 := Lib.hid list_awake
  have XF := Lib.hid (refFormed_any a)
  rw [decide_eq_true hf] at XF
  have XG := Lib.hid (refFormed_any b)
  rw [decide_eq_true hg] at XG
  have na := formed_num hf
  have nb := formed_num hg
  have G0 := Lib.hid (((Bag.new w).add 24 a.cells).add 24 b.cells)
  have KL := Lib.hid (hA.still (below_new2 w (.cells a.cells 24) (.cells b.cells 24)))
  have CM : Hid (∀ w' u, Holds w' u l → Calls Try.prog 11 #[u] w' fun e w'' => ∃ v', e = .returned v' ∧ Holds w'' v' (madeL l) ∧ Below w'.heap.size w' w'') := Lib.hid (fun w' u h => made_c h (by omega))
  have hX := madeL_right l
  generalize madeL l = X at *
  have hd := disj_apart hf hg ho
  have hP := putC_right hX hf
  have hQ := putC_right hX hg
  have hN := putC_right (X := []) trivial hf
  have C44 : Hid (∀ w' u, Holds w' u X → Calls Try.prog 12 #[u, a.v] w' fun e w'' => ∃ v', e = .returned v' ∧ Holds w'' v' (putC X a) ∧ Below w'.heap.size w' w'') := Lib.hid (fun w' u h => put_c h hX hf)
  have C46 : Hid (∀ w' u, Holds w' u (putC X a) → Calls Try.prog 12 #[u, b.v] w' fun e w'' => ∃ v', e = .returned v' ∧ Holds w'' v' (putC (putC X a) b) ∧ Below w'.heap.size w' w'') := Lib.hid (fun w' u h => put_c h hP hg)
  have C49 : Hid (∀ w' u, Holds w' u X → Calls Try.prog 12 #[u, b.v] w' fun e w'' => ∃ v', e = .returned v' ∧ Holds w'' v' (putC X b) ∧ Below w'.heap.size w' w'') := Lib.hid (fun w' u h => put_c h hX hg)
  have C51 : Hid (∀ w' u, Holds w' u (putC X b) → Calls Try.prog 12 #[u, a.v] w' fun e w'' => ∃ v', e = .returned v' ∧ Holds w'' v' (putC (putC X a) b) ∧ Below w'.heap.size w' w'') := Lib.hid (fun w' u h => by
    have := put_c h hQ hf
    rwa [← apart_put hX hf hg hd] at this)
  have C52 : Hid (∀ w' u u', Holds w' u (putC (putC X a) b) → Holds w' u' (putC (putC X a) b) → Calls Try.prog 15 #[u, u'] w' fun e w'' => e = .returned (.bool true) ∧ Below w'.heap.size w' w'') := Lib.hid (fun w' u u' h h' => same_c h h' rfl (putC_right hP hg))
  have C55 : Hid (∀ w', Calls Try.prog 12 #[.slice none 0 0, a.v] w' fun e w'' => ∃ v', e = .returned v' ∧ Holds w'' v' (putC [] a) ∧ Below w'.heap.size w' w'') := Lib.hid (fun w' => put_c (Holds.nil w') trivial hf)
  have C57 : Hid (∀ w' u, Holds w' u (putC [] a) → Calls Try.prog 12 #[u, b.v] w' fun e w'' => ∃ v', e = .returned v' ∧ Holds w'' v' (putC (putC [] a) b) ∧ Below w'.heap.size w' w'') := Lib.hid (fun w' u h => put_c h hN hg)
  have C58 : Hid (∀ w' u, Holds w' u (putC (putC [] a) b) → Calls Try.prog 16 #[u] w' fun e w'' => e = .returned (.int .i64 ((a.e - a.s + b.e - b.s) / 4096)) ∧ Below w'.heap.size w' w'') := Lib.hid (fun w' u h => by
    have := pages_c h (putC_right hN hg)
    rwa [apart_sum hf hg hd, show a.e - a.s + (b.e - b.s) = a.e - a.s + b.e - b.s by omega] at this)
  obtain ⟨A, c, rfl⟩ := hA.is'
  clear hA hf hg hX hP hQ hN hd
  generalize putC (putC X a) b = P at *
  generalize putC X a = Pa at *
  generalize putC X b = Pb at *
  generalize putC (putC [] a) b = R at *
  generalize putC [] a = Q at *
  generalize l.length = n at *
  obtain ⟨a0, a1, a2, a3, a4, a5⟩ := a
  obtain ⟨b0, b1, b2, b3, b4, b5⟩ := b
  simp only [Ar.v, Ar.cells, World.size_alloc] at XF XG G0 C44 C46 C49 C51 C55 C57 C58 KL ho na nb ⊢
  have hz : (n : Int) ≤ 20 := by omega
  have hov : (decide (a0 < b1) && decide (b0 < a1)) = false := by simp; omega
  go_enter Try.func5, Try.ntmps5
  go_wp2_with fail
  refine (W0.out _).mono ?_
  rintro e w1 ⟨rfl, hb⟩
  have G1 := Lib.hid (G0.out.still hb)
  have K1 := Lib.hid (KL.out.still hb)
  clear hb G0 KL
  obtain ⟨d0, d1, d2, d3, d4, d5⟩ := row6 G1.out.v1
  go_wp2_with fail
  refine (XF.out _).mono ?_
  rintro e w2 ⟨rfl, hb⟩
  have G2 := Lib.hid (G1.out.still hb)
  have K2 := Lib.hid (K1.out.still hb)
  clear hb G1 K1 d0 d1 d2 d3 d4 d5 XF
  obtain ⟨d0, d1, d2, d3, d4, d5⟩ := row6 G2.out.v0
  go_wp2_with fail
  refine (XG.out _).mono ?_
  rintro e w3 ⟨rfl, hb⟩
  have G3 := Lib.hid (G2.out.still hb)
  have K3 := Lib.hid (K2.out.still hb)
  clear hb G2 K2 d0 d1 d2 d3 d4 d5 XG
  obtain ⟨d0, d1, d2, d3, d4, d5⟩ := row6 G3.out.v0
  obtain ⟨f0, f1, f2, f3, f4, f5⟩ := row6 G3.out.v1
  have HK : Hid (∀ w', Below w3.heap.size w3 w' → (w'.cell? ⟨w.heap.size, 0, none⟩ = some (.int .i64 a0) ∧ w'.cell? ⟨w.heap.size, 1, none⟩ = some (.int .i64 a1) ∧ w'.cell? ⟨w.heap.size, 2, none⟩ = some (.int .i64 a2) ∧ w'.cell? ⟨w.heap.size, 3, none⟩ = some (.bool a3) ∧ w'.cell? ⟨w.heap.size, 4, none⟩ = some (.int .i64 a4) ∧ w'.cell? ⟨w.heap.size, 5, none⟩ = some (.int .i64 a5) ∧ w'.cell? ⟨w.heap.size + 1, 0, none⟩ = some (.int .i64 b0) ∧ w'.cell? ⟨w.heap.size + 1, 1, none⟩ = some (.int .i64 b1) ∧ w'.cell? ⟨w.heap.size + 1, 2, none⟩ = some (.int .i64 b2) ∧ w'.cell? ⟨w.heap.size + 1, 3, none⟩ = some (.bool b3) ∧ w'.cell? ⟨w.heap.size + 1, 4, none⟩ = some (.int .i64 b4) ∧ w'.cell? ⟨w.heap.size + 1, 5, none⟩ = some (.int .i64 b5))) := Lib.hid (fun w' h => by
    obtain ⟨d0, d1, d2, d3, d4, d5⟩ := row6 (G3.out.still h).v0
    obtain ⟨f0, f1, f2, f3, f4, f5⟩ := row6 (G3.out.still h).v1
    exact ⟨f0, f1, f2, f3, f4, f5, d0, d1, d2, d3, d4, d5⟩)
  by_cases hq : a0 < b1
  · have hq2 : ¬ b0 < a1 := by omega
    go_wp2_with fail
    refine (CM.out _ _ K3.out).mono ?_
    rintro e w4 ⟨vx, rfl, hX, hb⟩
    have B4 := Lib.hid hb
    have KX : Hid (Holds w4.drew vx X) := Lib.hid (hX.still (below_drew (Below.refl _ _)))
    have BB : Hid (Below w3.heap.size w3 w4.drew) := Lib.hid (below_drew hb)
    clear hb hX CM K3 d0 d1 d2 d3 d4 d5 f0 f1 f2 f3 f4 f5
    go_wp2_with fail
    go_region_held3 (fun w' => w'.cell? ⟨w.heap.size, 0, none⟩ = some (.int .i64 a0) ∧ w'.cell? ⟨w.heap.size, 1, none⟩ = some (.int .i64 a1) ∧ w'.cell? ⟨w.heap.size, 2, none⟩ = some (.int .i64 a2) ∧ w'.cell? ⟨w.heap.size, 3, none⟩ = some (.bool a3) ∧ w'.cell? ⟨w.heap.size, 4, none⟩ = some (.int .i64 a4) ∧ w'.cell? ⟨w.heap.size, 5, none⟩ = some (.int .i64 a5) ∧ w'.cell? ⟨w.heap.size + 1, 0, none⟩ = some (.int .i64 b0) ∧ w'.cell? ⟨w.heap.size + 1, 1, none⟩ = some (.int .i64 b1) ∧ w'.cell? ⟨w.heap.size + 1, 2, none⟩ = some (.int .i64 b2) ∧ w'.cell? ⟨w.heap.size + 1, 3, none⟩ = some (.bool b3) ∧ w'.cell? ⟨w.heap.size + 1, 4, none⟩ = some (.int .i64 b4) ∧ w'.cell? ⟨w.heap.size + 1, 5, none⟩ = some (.int .i64 b5))
      (exact HK.out _ BB.out)
      (first
      | (go_at_call 12; refine (C44.out _ _ KX.out).mono ?_; rintro e wn ⟨vnK44, rfl, hn, hb⟩; have BB := Lib.hid (below_then BB.out hb (Nat.le_refl _)); have K44 := Lib.hid hn; clear hn; have KX := Lib.hid (KX.out.still hb); clear hb C44)
      | (go_at_call 12; refine (C46.out _ _ K44.out).mono ?_; rintro e wn ⟨vnK46, rfl, hn, hb⟩; have BB := Lib.hid (below_then BB.out hb (Nat.le_refl _)); have K46 := Lib.hid hn; clear hn; have KX := Lib.hid (KX.out.still hb); clear hb C46)
      | (go_at_call 12; refine (C49.out _ _ KX.out).mono ?_; rintro e wn ⟨vnK49, rfl, hn, hb⟩; have BB := Lib.hid (below_then BB.out hb (Nat.le_refl _)); have K49 := Lib.hid hn; clear hn; have K46 := Lib.hid (K46.out.still hb); clear hb C49)
      | (go_at_call 12; refine (C51.out _ _ K49.out).mono ?_; rintro e wn ⟨vnK51, rfl, hn, hb⟩; have BB := Lib.hid (below_then BB.out hb (Nat.le_refl _)); have K51 := Lib.hid hn; clear hn; have K46 := Lib.hid (K46.out.still hb); clear hb C51)
      | (go_at_call 15; refine (C52.out _ _ _ K46.out K51.out).mono ?_; rintro e wn ⟨rfl, hb⟩; have BB := Lib.hid (below_then BB.out hb (Nat.le_refl _)); clear hb C52)
      | (go_at_call 12; refine (C55.out _).mono ?_; rintro e wn ⟨vnK55, rfl, hn, hb⟩; have BB := Lib.hid (below_then BB.out hb (Nat.le_refl _)); have K55 := Lib.hid hn; clear hn; clear hb C55)
      | (go_at_call 12; refine (C57.out _ _ K55.out).mono ?_; rintro e wn ⟨vnK57, rfl, hn, hb⟩; have BB := Lib.hid (below_then BB.out hb (Nat.le_refl _)); have K57 := Lib.hid hn; clear hn; clear hb C57)
      | (go_at_call 16; refine (C58.out _ _ K57.out).mono ?_; rintro e wn ⟨rfl, hb⟩; have BB := Lib.hid (below_then BB.out hb (Nat.le_refl _)); clear hb C58))
    all_goals (
      go_wp2_with fail
      go_ret
      exact ⟨says_bool (apart_sums a0 a1 b0 b1 (by omega) (by omega) (by omega) (by omega) (by omega) (by omega)), below_then G3.out.bel BB.out (Nat.le_refl _)⟩)
  · go_wp2_with fail
    refine (CM.out _ _ K3.out).mono ?_
    rintro e w4 ⟨vx, rfl, hX, hb⟩
    have B4 := Lib.hid hb
    have KX : Hid (Holds w4.drew vx X) := Lib.hid (hX.still (below_drew (Below.refl _ _)))
    have BB : Hid (Below w3.heap.size w3 w4.drew) := Lib.hid (below_drew hb)
    clear hb hX CM K3 d0 d1 d2 d3 d4 d5 f0 f1 f2 f3 f4 f5
    go_wp2_with fail
    go_region_held3 (fun w' => w'.cell? ⟨w.heap.size, 0, none⟩ = some (.int .i64 a0) ∧ w'.cell? ⟨w.heap.size, 1, none⟩ = some (.int .i64 a1) ∧ w'.cell? ⟨w.heap.size, 2, none⟩ = some (.int .i64 a2) ∧ w'.cell? ⟨w.heap.size, 3, none⟩ = some (.bool a3) ∧ w'.cell? ⟨w.heap.size, 4, none⟩ = some (.int .i64 a4) ∧ w'.cell? ⟨w.heap.size, 5, none⟩ = some (.int .i64 a5) ∧ w'.cell? ⟨w.heap.size + 1, 0, none⟩ = some (.int .i64 b0) ∧ w'.cell? ⟨w.heap.size + 1, 1, none⟩ = some (.int .i64 b1) ∧ w'.cell? ⟨w.heap.size + 1, 2, none⟩ = some (.int .i64 b2) ∧ w'.cell? ⟨w.heap.size + 1, 3, none⟩ = some (.bool b3) ∧ w'.cell? ⟨w.heap.size + 1, 4, none⟩ = some (.int .i64 b4) ∧ w'.cell? ⟨w.heap.size + 1, 5, none⟩ = some (.int .i64 b5))
      (exact HK.out _ BB.out)
      (first
      | (go_at_call 12; refine (C44.out _ _ KX.out).mono ?_; rintro e wn ⟨vnK44, rfl, hn, hb⟩; have BB := Lib.hid (below_then BB.out hb (Nat.le_refl _)); have K44 := Lib.hid hn; clear hn; have KX := Lib.hid (KX.out.still hb); clear hb C44)
      | (go_at_call 12; refine (C46.out _ _ K44.out).mono ?_; rintro e wn ⟨vnK46, rfl, hn, hb⟩; have BB := Lib.hid (below_then BB.out hb (Nat.le_refl _)); have K46 := Lib.hid hn; clear hn; have KX := Lib.hid (KX.out.still hb); clear hb C46)
      | (go_at_call 12; refine (C49.out _ _ KX.out).mono ?_; rintro e wn ⟨vnK49, rfl, hn, hb⟩; have BB := Lib.hid (below_then BB.out hb (Nat.le_refl _)); have K49 := Lib.hid hn; clear hn; have K46 := Lib.hid (K46.out.still hb); clear hb C49)
      | (go_at_call 12; refine (C51.out _ _ K49.out).mono ?_; rintro e wn ⟨vnK51, rfl, hn, hb⟩; have BB := Lib.hid (below_then BB.out hb (Nat.le_refl _)); have K51 := Lib.hid hn; clear hn; have K46 := Lib.hid (K46.out.still hb); clear hb C51)
      | (go_at_call 15; refine (C52.out _ _ _ K46.out K51.out).mono ?_; rintro e wn ⟨rfl, hb⟩; have BB := Lib.hid (below_then BB.out hb (Nat.le_refl _)); clear hb C52)
      | (go_at_call 12; refine (C55.out _).mono ?_; rintro e wn ⟨vnK55, rfl, hn, hb⟩; have BB := Lib.hid (below_then BB.out hb (Nat.le_refl _)); have K55 := Lib.hid hn; clear hn; clear hb C55)
      | (go_at_call 12; refine (C57.out _ _ K55.out).mono ?_; rintro e wn ⟨vnK57, rfl, hn, hb⟩; have BB := Lib.hid (below_then BB.out hb (Nat.le_refl _)); have K57 := Lib.hid hn; clear hn; clear hb C57)
      | (go_at_call 16; refine (C58.out _ _ K57.out).mono ?_; rintro e wn ⟨rfl, hb⟩; have BB := Lib.hid (below_then BB.out hb (Nat.le_refl _)); clear hb C58))
    all_goals (
      go_wp2_with fail
      go_ret
      exact ⟨says_bool (apart_sums a0 a1 b0 b1 (by omega) (by omega) (by omega) (by omega) (by omega) (by omega)), below_then G3.out.bel BB.out (Nat.le_refl _)⟩)

set_option maxHeartbeats 2000000 in
theorem apart_many (A : Option Addr) (n c : Nat) (a b : Ar) (w : World) (hn : 20 < n) :
    Calls Try.prog 5 #[.slice A n c, a.v, b.v] w fun e w' => e = .returned (.bool true) ∧ Below w.heap.size w w' := by
  have W0 := Lib.hid list_awake
  have hz : (20 : Int) < (n : Int) := by omega
  obtain ⟨a0, a1, a2, a3, a4, a5⟩ := a
  obtain ⟨b0, b1, b2, b3, b4, b5⟩ := b
  simp only [Ar.v]
  go_enter Try.func5, Try.ntmps5
  go_wp2_with fail
  refine (W0.out _).mono ?_
  rintro e w1 ⟨rfl, hb1⟩
  have B1 := Lib.hid (below_then (below_new2 w _ _) hb1 (Nat.le_refl _))
  clear hb1
  go_wp2_with fail
  refine (W0.out _).mono ?_
  rintro e w2 ⟨rfl, hb2⟩
  have B2 := Lib.hid (below_then B1.out hb2 (Nat.le_refl _))
  clear hb2
  go_wp2_with fail
  go_ret
  exact ⟨rfl, B2.out⟩
set_option maxHeartbeats 2000000 in
theorem apart_wrong (A : Option Addr) (n c : Nat) (a b : Ar) (w : World) (hn : n ≤ 20) (hf : ¬ (Formed a ∧ Formed b ∧ ¬ (a.s < b.e ∧ b.s < a.e))) :
    Calls Try.prog 5 #[.slice A n c, a.v, b.v] w fun e w' => e = .returned (.bool true) ∧ Below w.heap.size w w' := by
  have W0 := Lib.hid list_awake
  have XF := Lib.hid (refFormed_any a)
  have XG := Lib.hid (refFormed_any b)
  have G0 := Lib.hid (((Bag.new w).add 24 a.cells).add 24 b.cells)
  have hz : ¬ (20 : Int) < (n : Int) := by omega
  by_cases h1 : Formed a
  · by_cases h2 : Formed b
    · have h3 : a.s < b.e ∧ b.s < a.e := Classical.not_not.1 (fun h => hf ⟨h1, h2, h⟩)
      rw [decide_eq_true h1] at XF
      rw [decide_eq_true h2] at XG
      clear hf h1 h2
      obtain ⟨a0, a1, a2, a3, a4, a5⟩ := a
      obtain ⟨b0, b1, b2, b3, b4, b5⟩ := b
      simp only [Ar.v, Ar.cells, World.size_alloc] at XF XG G0 h3 ⊢
      obtain ⟨h3, h4⟩ := h3
      go_enter Try.func5, Try.ntmps5
      go_wp2_with fail
      refine (W0.out _).mono ?_
      rintro e w1 ⟨rfl, hb⟩
      have G1 := Lib.hid (G0.out.still hb)
      clear hb G0
      obtain ⟨d0, d1, d2, d3, d4, d5⟩ := row6 G1.out.v1
      go_wp2_with fail
      refine (XF.out _).mono ?_
      rintro e w2 ⟨rfl, hb⟩
      have G2 := Lib.hid (G1.out.still hb)
      clear hb G1 d0 d1 d2 d3 d4 d5 XF
      obtain ⟨d0, d1, d2, d3, d4, d5⟩ := row6 G2.out.v0
      go_wp2_with fail
      refine (XG.out _).mono ?_
      rintro e w3 ⟨rfl, hb⟩
      have G3 := Lib.hid (G2.out.still hb)
      clear hb G2 d0 d1 d2 d3 d4 d5 XG
      obtain ⟨d0, d1, d2, d3, d4, d5⟩ := row6 G3.out.v0
      obtain ⟨f0, f1, f2, f3, f4, f5⟩ := row6 G3.out.v1
      go_wp2_with fail
      refine (W0.out _).mono ?_
      rintro e w4 ⟨rfl, hb⟩
      have G4 := Lib.hid (G3.out.still hb)
      clear hb G3 d0 d1 d2 d3 d4 d5 f0 f1 f2 f3 f4 f5
      go_wp2_with fail
      go_ret
      exact ⟨rfl, G4.out.bel⟩
    · rw [decide_eq_true h1] at XF
      rw [decide_eq_false h2] at XG
      clear hf h1 h2
      obtain ⟨a0, a1, a2, a3, a4, a5⟩ := a
      obtain ⟨b0, b1, b2, b3, b4, b5⟩ := b
      simp only [Ar.v, Ar.cells, World.size_alloc] at XF XG G0 ⊢
      go_enter Try.func5, Try.ntmps5
      go_wp2_with fail
      refine (W0.out _).mono ?_
      rintro e w1 ⟨rfl, hb⟩
      have G1 := Lib.hid (G0.out.still hb)
      clear hb G0
      obtain ⟨d0, d1, d2, d3, d4, d5⟩ := row6 G1.out.v1
      go_wp2_with fail
      refine (XF.out _).mono ?_
      rintro e w2 ⟨rfl, hb⟩
      have G2 := Lib.hid (G1.out.still hb)
      clear hb G1 d0 d1 d2 d3 d4 d5 XF
      obtain ⟨d0, d1, d2, d3, d4, d5⟩ := row6 G2.out.v0
      go_wp2_with fail
      refine (XG.out _).mono ?_
      rintro e w3 ⟨rfl, hb⟩
      have G3 := Lib.hid (G2.out.still hb)
      clear hb G2 d0 d1 d2 d3 d4 d5 XG
      go_wp2_with fail
      refine (W0.out _).mono ?_
      rintro e w4 ⟨rfl, hb⟩
      have G4 := Lib.hid (G3.out.still hb)
      clear hb G3
      go_wp2_with fail
      go_ret
      exact ⟨rfl, G4.out.bel⟩
  · rw [decide_eq_false h1] at XF
    clear hf h1
    obtain ⟨a0, a1, a2, a3, a4, a5⟩ := a
    obtain ⟨b0, b1, b2, b3, b4, b5⟩ := b
    simp only [Ar.v, Ar.cells, World.size_alloc] at XF XG G0 ⊢
    go_enter Try.func5, Try.ntmps5
    go_wp2_with fail
    refine (W0.out _).mono ?_
    rintro e w1 ⟨rfl, hb⟩
    have G1 := Lib.hid (G0.out.still hb)
    clear hb G0
    obtain ⟨d0, d1, d2, d3, d4, d5⟩ := row6 G1.out.v1
    go_wp2_with fail
    refine (XF.out _).mono ?_
    rintro e w2 ⟨rfl, hb⟩
    have G2 := Lib.hid (G1.out.still hb)
    clear hb G1 d0 d1 d2 d3 d4 d5 XF
    go_wp2_with fail
    refine (W0.out _).mono ?_
    rintro e w3 ⟨rfl, hb⟩
    have G3 := Lib.hid (G2.out.still hb)
    clear hb G2
    go_wp2_with fail
    go_ret
    exact ⟨rfl, G3.out.bel⟩
theorem apart_any (l : List Ar) (v : Value) (a b : Ar) (w : World) (hA : Holds w v l) :
    Calls Try.prog 5 #[v, a.v, b.v] w fun e w' => e = .returned (.bool true) ∧ Below w.heap.size w w' := by
  by_cases hn : l.length ≤ 20
  · by_cases hf : Formed a ∧ Formed b ∧ ¬ (a.s < b.e ∧ b.s < a.e)
    · exact apart_few l v a b w hn hA hf.1 hf.2.1 hf.2.2
    · obtain ⟨A, c, rfl⟩ := hA.is'
      exact apart_wrong A l.length c a b w hn hf
  · obtain ⟨A, c, rfl⟩ := hA.is'
    exact apart_many A l.length c a b w (by omega)
end Go.Proofs.Yteockpmadpbjiaa
