/-
  Layer 10: what is mapped at a fixed place twice is as once; with NOREPLACE the second time is refused.
-/
import Derived.Test.YtfejoeidffnadaaPkN
namespace Go.Proofs.Ytfejoeidffnadaa
open Go.ChangeShapes Go.WideShapes Go.ChangeAt Go.RowKit Go.Shelf
set_option linter.unusedVariables false
attribute [local go_sem ↓] Go.wp_at_zero Go.wp_at_succ

open Classical in
theorem plR_fixed {X : List Ar} {a s f : Int} (h1 : bitF f 1 = true) (h2 : bitF f 2 = false) (hr : rgE a s = 0) : plR X a s f = (a, 0) := by
  unfold plR
  rw [if_pos h1, if_neg (fun h => h hr), if_neg (by rw [h2]; simp)]
open Classical in
theorem plR_there {X : List Ar} {a s f : Int} (h1 : bitF f 1 = true) (h2 : bitF f 2 = true) (hr : rgE a s = 0) (hi : insideL (rgA a s) (rgB a s) X ≠ []) : plR X a s f = (0, 6) := by
  unfold plR
  rw [if_pos h1, if_neg (fun h => h hr), if_pos ⟨h2, hi⟩]
open Classical in
theorem plR_range {X : List Ar} {a s f : Int} (h1 : bitF f 1 = true) (h : (plR X a s f).2 = 0) : rgE a s = 0 := by
  unfold plR at h
  rw [if_pos h1] at h
  by_cases hr : rgE a s = 0
  · exact hr
  · rw [if_pos hr] at h; exact absurd h hr
/-- What follows: the second time. -/
theorem again_once {X : List Ar} {c : Cl} (hf : c.f = 1 ∨ c.f = 5) (h : Asks X c) (hm : (putC X (wtA X c)).length ≤ 24) :
    mapR (putC X (wtA X c)) c = (putC X (wtA X c), 0, (wtA X c).s) ∧ mapR (putC X (wtA X c)) { c with f := c.f + 2 } = (putC X (wtA X c), 6, 0) := by
  have hX := h.may
  have hfm := h.formed
  have hY : MayL (putC X (wtA X c)) := ⟨putC_right hX.1 hfm, hm⟩
  have b1 : bitF c.f 1 = true ∧ bitF c.f 2 = false := by
    obtain ⟨e1, e2, _⟩ := bits_byte (f := c.f) (by omega) (by omega)
    rw [e1, e2]; simp only [decide_eq_true_eq, decide_eq_false_iff_not]; omega
  have b2 : bitF (c.f + 2) 1 = true ∧ bitF (c.f + 2) 2 = true := by
    obtain ⟨e1, e2, _⟩ := bits_byte (f := c.f + 2) (by omega) (by omega)
    rw [e1, e2]; simp only [decide_eq_true_eq]; omega
  have hpl := h.pl
  rw [h.e] at hpl
  have hr := plR_range b1.1 hpl
  have hpx : plE X c = (c.a, 0) := by rw [h.e, plR_fixed b1.1 b1.2 hr]
  have hpy : plE (putC X (wtA X c)) c = (c.a, 0) := by unfold plE; rw [if_pos hY, plR_fixed b1.1 b1.2 hr]
  have ha' : ∀ Y, plE Y c = (c.a, 0) → wtA Y c = wtA X c := fun Y h => by unfold wtA; rw [h, hpx]
  have ha := ha' _ hpy
  refine ⟨?_, ?_⟩
  · have hA : Asks (putC X (wtA X c)) c := ⟨hY, h.n, h.p, h.f, h.b, by unfold plE; rw [if_pos hY], by rw [hpy]⟩
    have hput : putC (putC X (wtA X c)) (wtA X c) = putC X (wtA X c) := twice_put hX.1 hfm
    rw [mapR_ok hA (by rw [ha, hput]; exact hm), ha, hput]
  · have hs := sz_sz h.n
    have hrg := rg_ok hr
    rw [hs.1] at hrg
    have hin : insideL (rgA c.a (szV c.n)) (rgB c.a (szV c.n)) (putC X (wtA X c)) ≠ [] := by
      rw [inside_iff hY.1]
      have hcv := cov_first hfm
      refine ⟨_, by rw [(putC_is hX.1 hfm).2, if_pos hcv]; simp, ?_⟩
      rw [hrg.2.2.2.2.1, hrg.2.2.2.2.2]
      have hs1 : (wtA X c).s = c.a := by unfold wtA; rw [hpx]
      have hs2 : (wtA X c).e = c.a + szV c.n := by unfold wtA; rw [hpx]
      have := formed_num hfm
      unfold Cov at hcv
      unfold Touch
      omega
    have hpz : plE (putC X (wtA X c)) { c with f := c.f + 2 } = (0, 6) := by unfold plE; rw [if_pos hY]; exact plR_there b2.1 b2.2 hr hin
    have hfg : fgE (c.f + 2) = 0 := (fg_zero (by unfold i64; omega)).2 (by omega)
    have he : wtE (putC X (wtA X c)) { c with f := c.f + 2 } = 6 := by
      unfold wtE
      rw [hpz]
      simp only [hfg, h.n, h.p, h.b]
      unfold liE
      rw [if_pos hY]
      simp [firstE]
    unfold mapR
    rw [if_neg (by rw [he]; simp), he]

set_option maxHeartbeats 2000000 in
theorem again_many (A : Option Addr) (n cc : Nat) (c : Cl) (w : World) (hn : 30 < n) :
    Calls Try.prog 3 #[.slice A n cc, c.v] w fun e w' => e = .returned (.bool true) ∧ Below w.heap.size w w' := by
  have W0 := Lib.hid map_awake
  have G := Lib.hid ((Bag.new w).add 24 c.cells)
  have hz : (30 : Int) < (n : Int) := by omega
  obtain ⟨ck, ca, cn, cnw, ctw, cp, cf, cb, co⟩ := c
  unfold Cl.v
  simp only [Cl.cells] at *
  go_enter Try.func3, Try.ntmps3
  go_wp2_with fail
  refine (W0.out _).mono ?_
  rintro e w1 ⟨rfl, hb⟩
  have G := Lib.hid (G.out.still hb)
  clear hb
  go_wp2_with fail
  refine (W0.out _).mono ?_
  rintro e w2 ⟨rfl, hb⟩
  have G := Lib.hid (G.out.still hb)
  clear hb
  go_wp2_with fail
  go_ret
  exact ⟨rfl, G.out.bel⟩

set_option maxHeartbeats 2000000 in
theorem again_neg (A : Option Addr) (n cc : Nat) (c : Cl) (w : World) (hn : n ≤ 30) (hf : c.f < 0) :
    Calls Try.prog 3 #[.slice A n cc, c.v] w fun e w' => e = .returned (.bool true) ∧ Below w.heap.size w w' := by
  have W0 := Lib.hid map_awake
  have G := Lib.hid ((Bag.new w).add 24 c.cells)
  have hz : ¬ (30 : Int) < (n : Int) := by omega
  obtain ⟨ck, ca, cn, cnw, ctw, cp, cf, cb, co⟩ := c
  unfold Cl.v
  simp only [Cl.cells] at *
  go_enter Try.func3, Try.ntmps3
  go_wp2_with fail
  refine (W0.out _).mono ?_
  rintro e w1 ⟨rfl, hb⟩
  have G := Lib.hid (G.out.still hb)
  clear hb
  have c6 : w1.cell? ⟨w.heap.size, 6, none⟩ = some (.int .i64 cf) := G.out.v0.cell 6
  go_wp2_with fail
  refine (W0.out _).mono ?_
  rintro e w2 ⟨rfl, hb⟩
  have G := Lib.hid (G.out.still hb)
  clear hb
  go_wp2_with fail
  go_ret
  exact ⟨rfl, G.out.bel⟩

set_option maxRecDepth 4000 in
set_option maxHeartbeats 8000000 in
theorem again_err (l : List Ar) (v : Value) (c : Cl) (ho : i64 c.o) (w : World) (hl : l.length ≤ 30) (hA : Holds w v l) (hf0 : 0 ≤ c.f) (F : Int) (hF : wrap64 (1 + wrap64 ((wrap64 (c.f.tdiv 4)).tmod 2 * 4)) = F) (hF15 : F = 1 ∨ F = 5) (he : (mapR (someL l) { c with f := F }).2.1 ≠ 0) :
    Calls Try.prog 3 #[v, c.v] w fun e w' => e = .returned (.bool true) ∧ Below w.heap.size w w' := by
  have W0 := Lib.hid map_awake
  have G := Lib.hid ((Bag.new w).add 24 c.cells)
  have KL := Lib.hid (hA.still G.out.bel)
  have HA0 := Lib.hid hA
  have CS : Hid (∀ w' u, Holds w' u l → Calls Try.prog 10 #[u] w' fun e w'' => ∃ v', e = .returned v' ∧ Mine w'.heap.size w'' v' (someL l) ∧ Below w'.heap.size w' w'') := Lib.hid (fun w' u h => some_c h (by omega))
  have hX := someL_may l
  generalize someL l = X at *
  have hXl : X.length ≤ 10000 := by have := hX.2; omega
  obtain ⟨ck, ca, cn, cnw, ctw, cp, cf, cb, co⟩ := c
  simp only [Cl.cells] at *
  unfold Cl.v
  simp only [Cl.cells]
  obtain ⟨hY, hx0⟩ : (mapR X ⟨ck, ca, cn, cnw, ctw, cp, F, cb, co⟩).1 = X ∧ (mapR X ⟨ck, ca, cn, cnw, ctw, cp, F, cb, co⟩).2.2 = 0 := by
    rcases mapR_is X ⟨ck, ca, cn, cnw, ctw, cp, F, cb, co⟩ with ⟨_, h1, h2⟩ | ⟨_, _, h⟩
    · exact ⟨h1, h2⟩
    · rw [h] at he; exact absurd rfl he
  generalize he1 : (mapR X ⟨ck, ca, cn, cnw, ctw, cp, F, cb, co⟩).2.1 = e1 at he
  have C1 : Hid (∀ w' u, Holds w' u X → Calls Try.prog 11 #[u, .agg #[.int .i64 ck, .int .i64 ca, .int .i64 cn, .int .i64 cnw, .int .i64 ctw, .int .i64 cp, .int .i64 F, .int .i64 cb, .int .i64 co]] w' fun e w'' => ∃ v', e = .returned (.tuple #[v', .agg #[.int .i64 e1, .int .i64 0, .int .i64 0, .bool false, .int .i64 0, .int .i64 0]]) ∧ Mine w'.heap.size w'' v' X ∧ Below w'.heap.size w' w'') := Lib.hid (fun w' u h => by
    have := map_c h hXl ⟨ck, ca, cn, cnw, ctw, cp, F, cb, co⟩ ho
    rw [hY, hx0, he1] at this
    exact this)
  have he' : (e1 != 0) = true := by simpa using he
  have CQ : Hid (∀ w' u u', Holds w' u X → Holds w' u' X → Calls Try.prog 12 #[u, u'] w' fun e w'' => e = .returned (.bool true) ∧ Below w'.heap.size w' w'') := Lib.hid (fun w' u u' h h' => same_c h h' rfl hX.1)
  have HF := Lib.hid hF
  have hn0 : ¬ cf < 0 := by omega
  have hF1 : F ≤ 5 := by omega
  have hF0 : 0 ≤ F := by omega
  clear hX hXl ho hF hF15 he1 hY hx0
  obtain ⟨A, cc, rfl⟩ := hA.is
  clear hA
  generalize hn : l.length = n at *
  clear hn
  have hz : ¬ (30 : Int) < (n : Int) := by omega
  go_enter Try.func3, Try.ntmps3
  go_wp2_with fail
  refine (W0.out _).mono ?_
  rintro e w1 ⟨rfl, hb⟩
  have G := Lib.hid (G.out.still hb)
  have KL := Lib.hid (KL.out.still hb)
  clear hb
  obtain ⟨c0, c1, c2, c3, c4, c5, c6, c7, c8⟩ := nine G.out.v0
  have cz := G.out.v0.frozen 6
  have G := Lib.hid (G.out.set0 6 (.int .i64 F) (by simp) (Nat.le_refl _))
  have KL := Lib.hid (HA0.out.still G.out.bel)
  go_upto_region 4 with (fail)
  rw [HF.out]
  clear c0 c1 c2 c3 c4 c5 c6 c7 c8
  clear cz HF
  generalize World.setCell _ _ _ = w1s at *
  go_wp2_with fail
  refine (CS.out _ _ KL.out).mono ?_
  rintro e w2 ⟨vx, rfl, hm, hb⟩
  have SZ := Lib.hid G.out.bel.size
  have G := Lib.hid (G.out.still hb)
  have KX := Lib.hid (hm.base SZ.out)
  clear hb hm CS KL SZ
  obtain ⟨c0, c1, c2, c3, c4, c5, c6, c7, c8⟩ := nine G.out.v0
  go_wp2_with fail
  refine (C1.out _ _ KX.out.holds).mono ?_
  rintro e w3 ⟨vKY, rfl, hm, hb⟩
  have SZ := Lib.hid G.out.bel.size
  have G := Lib.hid (G.out.still hb)
  have KX := Lib.hid (KX.out.still hb)
  have KY := Lib.hid (hm.base SZ.out)
  clear hb hm C1 SZ
  have BN := Lib.hid (below_new w3 (.cells #[.int .i64 e1, .int .i64 0, .int .i64 0, .bool false, .int .i64 0, .int .i64 0] 31))
  have G := Lib.hid (G.out.add 31 #[.int .i64 e1, .int .i64 0, .int .i64 0, .bool false, .int .i64 0, .int .i64 0])
  have KX := Lib.hid (KX.out.still BN.out)
  have KY := Lib.hid (KY.out.still BN.out)
  clear BN
  clear c0 c1 c2 c3 c4 c5 c6 c7 c8
  go_wp2_with fail
  refine (CQ.out _ _ _ KX.out.holds KY.out.holds).mono ?_
  rintro e w4 ⟨rfl, hb⟩
  have G := Lib.hid (G.out.still hb)
  have KX := Lib.hid (KX.out.still hb)
  have KY := Lib.hid (KY.out.still hb)
  clear hb
  go_wp2_with fail
  go_ret
  exact ⟨rfl, G.out.bel⟩

set_option maxRecDepth 4000 in
set_option maxHeartbeats 8000000 in
theorem again_go (l : List Ar) (v : Value) (c : Cl) (ho : i64 c.o) (w : World) (hl : l.length ≤ 30) (hA : Holds w v l) (hf0 : 0 ≤ c.f) (F : Int) (hF : wrap64 (1 + wrap64 ((wrap64 (c.f.tdiv 4)).tmod 2 * 4)) = F) (hF15 : F = 1 ∨ F = 5) (he : (mapR (someL l) { c with f := F }).2.1 = 0) :
    Calls Try.prog 3 #[v, c.v] w fun e w' => e = .returned (.bool true) ∧ Below w.heap.size w w' := by
  have W0 := Lib.hid map_awake
  have G := Lib.hid ((Bag.new w).add 24 c.cells)
  have KL := Lib.hid (hA.still G.out.bel)
  have HA0 := Lib.hid hA
  have CS : Hid (∀ w' u, Holds w' u l → Calls Try.prog 10 #[u] w' fun e w'' => ∃ v', e = .returned v' ∧ Mine w'.heap.size w'' v' (someL l) ∧ Below w'.heap.size w' w'') := Lib.hid (fun w' u h => some_c h (by omega))
  have hX := someL_may l
  generalize someL l = X at *
  have hXl : X.length ≤ 10000 := by have := hX.2; omega
  obtain ⟨ck, ca, cn, cnw, ctw, cp, cf, cb, co⟩ := c
  simp only [Cl.cells] at *
  unfold Cl.v
  simp only [Cl.cells]
  obtain ⟨Y, x1, hr, hr2, hr3, hYr⟩ : ∃ Y x1, mapR X ⟨ck, ca, cn, cnw, ctw, cp, F, cb, co⟩ = (Y, 0, x1) ∧ mapR Y ⟨ck, ca, cn, cnw, ctw, cp, F, cb, co⟩ = (Y, 0, x1) ∧ mapR Y ⟨ck, ca, cn, cnw, ctw, cp, F + 2, cb, co⟩ = (Y, 6, 0) ∧ MayL Y := by
    rcases mapR_is X ⟨ck, ca, cn, cnw, ctw, cp, F, cb, co⟩ with ⟨h, _⟩ | ⟨h1, h2, h3⟩
    · exact absurd he h
    · obtain ⟨k1, k2⟩ := again_once (c := ⟨ck, ca, cn, cnw, ctw, cp, F, cb, co⟩) hF15 h1 h2
      exact ⟨_, _, h3, k1, k2, putC_right hX.1 h1.formed, h2⟩
  have hYl : Y.length ≤ 10000 := by have := hYr.2; omega
  have C1 : Hid (∀ w' u, Holds w' u X → Calls Try.prog 11 #[u, .agg #[.int .i64 ck, .int .i64 ca, .int .i64 cn, .int .i64 cnw, .int .i64 ctw, .int .i64 cp, .int .i64 F, .int .i64 cb, .int .i64 co]] w' fun e w'' => ∃ v', e = .returned (.tuple #[v', .agg #[.int .i64 0, .int .i64 x1, .int .i64 0, .bool false, .int .i64 0, .int .i64 0]]) ∧ Mine w'.heap.size w'' v' Y ∧ Below w'.heap.size w' w'') := Lib.hid (fun w' u h => by
    have := map_c h hXl ⟨ck, ca, cn, cnw, ctw, cp, F, cb, co⟩ ho
    rw [hr] at this
    exact this)
  have C2 : Hid (∀ w' u, Holds w' u Y → Calls Try.prog 11 #[u, .agg #[.int .i64 ck, .int .i64 ca, .int .i64 cn, .int .i64 cnw, .int .i64 ctw, .int .i64 cp, .int .i64 F, .int .i64 cb, .int .i64 co]] w' fun e w'' => ∃ v', e = .returned (.tuple #[v', .agg #[.int .i64 0, .int .i64 x1, .int .i64 0, .bool false, .int .i64 0, .int .i64 0]]) ∧ Mine w'.heap.size w'' v' Y ∧ Below w'.heap.size w' w'') := Lib.hid (fun w' u h => by
    have := map_c h hYl ⟨ck, ca, cn, cnw, ctw, cp, F, cb, co⟩ ho
    rw [hr2] at this
    exact this)
  have C3 : Hid (∀ w' u, Holds w' u Y → Calls Try.prog 11 #[u, .agg #[.int .i64 ck, .int .i64 ca, .int .i64 cn, .int .i64 cnw, .int .i64 ctw, .int .i64 cp, .int .i64 (F + 2), .int .i64 cb, .int .i64 co]] w' fun e w'' => ∃ v', e = .returned (.tuple #[v', .agg #[.int .i64 6, .int .i64 0, .int .i64 0, .bool false, .int .i64 0, .int .i64 0]]) ∧ Mine w'.heap.size w'' v' Y ∧ Below w'.heap.size w' w'') := Lib.hid (fun w' u h => by
    have := map_c h hYl ⟨ck, ca, cn, cnw, ctw, cp, F + 2, cb, co⟩ ho
    rw [hr3] at this
    exact this)
  have CQ : Hid (∀ w' u u', Holds w' u Y → Holds w' u' Y → Calls Try.prog 12 #[u, u'] w' fun e w'' => e = .returned (.bool true) ∧ Below w'.heap.size w' w'') := Lib.hid (fun w' u u' h h' => same_c h h' rfl hYr.1)
  have HF := Lib.hid hF
  have hn0 : ¬ cf < 0 := by omega
  have hF1 : F ≤ 5 := by omega
  have hF0 : 0 ≤ F := by omega
  clear hX hXl ho hF hF15 hr hr2 hr3 hYr hYl he
  obtain ⟨A, cc, rfl⟩ := hA.is
  clear hA
  generalize hn : l.length = n at *
  clear hn
  have hz : ¬ (30 : Int) < (n : Int) := by omega
  go_enter Try.func3, Try.ntmps3
  go_wp2_with fail
  refine (W0.out _).mono ?_
  rintro e w1 ⟨rfl, hb⟩
  have G := Lib.hid (G.out.still hb)
  have KL := Lib.hid (KL.out.still hb)
  clear hb
  obtain ⟨c0, c1, c2, c3, c4, c5, c6, c7, c8⟩ := nine G.out.v0
  have cz := G.out.v0.frozen 6
  have G := Lib.hid (G.out.set0 6 (.int .i64 F) (by simp) (Nat.le_refl _))
  have KL := Lib.hid (HA0.out.still G.out.bel)
  go_upto_region 4 with (fail)
  rw [HF.out]
  clear c0 c1 c2 c3 c4 c5 c6 c7 c8
  clear cz HF
  generalize World.setCell _ _ _ = w1s at *
  go_wp2_with fail
  refine (CS.out _ _ KL.out).mono ?_
  rintro e w2 ⟨vx, rfl, hm, hb⟩
  have SZ := Lib.hid G.out.bel.size
  have G := Lib.hid (G.out.still hb)
  have KX := Lib.hid (hm.base SZ.out)
  clear hb hm CS KL SZ
  obtain ⟨c0, c1, c2, c3, c4, c5, c6, c7, c8⟩ := nine G.out.v0
  go_wp2_with fail
  refine (C1.out _ _ KX.out.holds).mono ?_
  rintro e w3 ⟨vKY, rfl, hm, hb⟩
  have SZ := Lib.hid G.out.bel.size
  have G := Lib.hid (G.out.still hb)
  have KX := Lib.hid (KX.out.still hb)
  have KY := Lib.hid (hm.base SZ.out)
  clear hb hm C1 SZ
  have BN := Lib.hid (below_new w3 (.cells #[.int .i64 0, .int .i64 x1, .int .i64 0, .bool false, .int .i64 0, .int .i64 0] 31))
  have G := Lib.hid (G.out.add 31 #[.int .i64 0, .int .i64 x1, .int .i64 0, .bool false, .int .i64 0, .int .i64 0])
  have KX := Lib.hid (KX.out.still BN.out)
  have KY := Lib.hid (KY.out.still BN.out)
  clear BN
  clear c0 c1 c2 c3 c4 c5 c6 c7 c8
  obtain ⟨c0, c1, c2, c3, c4, c5, c6, c7, c8⟩ := nine G.out.v1
  go_wp2_with fail
  refine (C2.out _ _ KY.out.holds).mono ?_
  rintro e w4 ⟨vKZ, rfl, hm, hb⟩
  have SZ := Lib.hid G.out.bel.size
  have G := Lib.hid (G.out.still hb)
  have KX := Lib.hid (KX.out.still hb)
  have KY := Lib.hid (KY.out.still hb)
  have KZ := Lib.hid (hm.base SZ.out)
  clear hb hm C2 SZ
  have BN := Lib.hid (below_new w4 (.cells #[.int .i64 0, .int .i64 x1, .int .i64 0, .bool false, .int .i64 0, .int .i64 0] 31))
  have G := Lib.hid (G.out.add 31 #[.int .i64 0, .int .i64 x1, .int .i64 0, .bool false, .int .i64 0, .int .i64 0])
  have KX := Lib.hid (KX.out.still BN.out)
  have KY := Lib.hid (KY.out.still BN.out)
  have KZ := Lib.hid (KZ.out.still BN.out)
  clear BN
  clear c0 c1 c2 c3 c4 c5 c6 c7 c8
  obtain ⟨c0, c1, c2, c3, c4, c5, c6, c7, c8⟩ := nine G.out.v2
  have cz := G.out.v2.frozen 6
  have W0s := Lib.hid G.out.v2
  have hne : w4.heap.size ≠ w.heap.size := G.out.v0.apart W0s.out (by decide)
  have hne2 : w3.heap.size ≠ w.heap.size := G.out.v1.apart W0s.out (by decide)
  have G := Lib.hid (G.out.set2 6 (.int .i64 (F + 2)) hne hne2 (by simp) (Nat.le_refl _))
  have KX := Lib.hid (KX.out.far W0s.out (by decide) 6 (.int .i64 (F + 2)))
  have KY := Lib.hid (KY.out.far W0s.out (by decide) 6 (.int .i64 (F + 2)))
  have KZ := Lib.hid (KZ.out.far W0s.out (by decide) 6 (.int .i64 (F + 2)))
  clear W0s hne hne2
  go_wp2_with fail
  refine (C3.out _ _ KY.out.holds).mono ?_
  rintro e w5 ⟨vKW, rfl, hm, hb⟩
  have SZ := Lib.hid G.out.bel.size
  have G := Lib.hid (G.out.still hb)
  have KX := Lib.hid (KX.out.still hb)
  have KY := Lib.hid (KY.out.still hb)
  have KZ := Lib.hid (KZ.out.still hb)
  have KW := Lib.hid (hm.base SZ.out)
  clear hb hm C3 SZ
  have BN := Lib.hid (below_new w5 (.cells #[.int .i64 6, .int .i64 0, .int .i64 0, .bool false, .int .i64 0, .int .i64 0] 31))
  have G := Lib.hid (G.out.add 31 #[.int .i64 6, .int .i64 0, .int .i64 0, .bool false, .int .i64 0, .int .i64 0])
  have KX := Lib.hid (KX.out.still BN.out)
  have KY := Lib.hid (KY.out.still BN.out)
  have KZ := Lib.hid (KZ.out.still BN.out)
  have KW := Lib.hid (KW.out.still BN.out)
  clear BN
  clear c0 c1 c2 c3 c4 c5 c6 c7 c8
  clear cz
  obtain ⟨a0, a1, a2, a3, a4, a5⟩ := row6 G.out.v2
  obtain ⟨b0, b1, b2, b3, b4, b5⟩ := row6 G.out.v1
  go_wp2_with fail
  refine (CQ.out _ _ _ KY.out.holds KZ.out.holds).mono ?_
  rintro e w6 ⟨rfl, hb⟩
  have G := Lib.hid (G.out.still hb)
  have KX := Lib.hid (KX.out.still hb)
  have KY := Lib.hid (KY.out.still hb)
  have KZ := Lib.hid (KZ.out.still hb)
  have KW := Lib.hid (KW.out.still hb)
  clear hb
  obtain ⟨d0, d1, d2, d3, d4, d5⟩ := row6 G.out.v0
  go_wp2_with fail
  refine (CQ.out _ _ _ KW.out.holds KY.out.holds).mono ?_
  rintro e w7 ⟨rfl, hb⟩
  have G := Lib.hid (G.out.still hb)
  have KX := Lib.hid (KX.out.still hb)
  have KY := Lib.hid (KY.out.still hb)
  have KZ := Lib.hid (KZ.out.still hb)
  have KW := Lib.hid (KW.out.still hb)
  clear hb
  go_wp2_with fail
  go_ret
  exact ⟨rfl, G.out.bel⟩

theorem again_any (l : List Ar) (v : Value) (c : Cl) (ho : i64 c.o) (hfb : i64 c.f) (w : World) (hA : Holds w v l) :
    Calls Try.prog 3 #[v, c.v] w fun e w' => e = .returned (.bool true) ∧ Below w.heap.size w w' := by
  by_cases hl : l.length ≤ 30
  · by_cases hf : c.f < 0
    · obtain ⟨A, cc, rfl⟩ := hA.is
      exact again_neg A l.length cc c w hl hf
    · have h15 : wrap64 (1 + wrap64 ((wrap64 (c.f.tdiv 4)).tmod 2 * 4)) = 1 ∨ wrap64 (1 + wrap64 ((wrap64 (c.f.tdiv 4)).tmod 2 * 4)) = 5 := by
        unfold i64 at hfb
        have e1 : wrap64 (c.f.tdiv 4) = c.f / 4 := by rw [Int.tdiv_eq_ediv_of_nonneg (by omega)]; unfold wrap64; omega
        have e2 : (c.f / 4).tmod 2 = c.f / 4 % 2 := Int.tmod_eq_emod_of_nonneg (by omega)
        rw [e1, e2]
        unfold wrap64
        omega
      by_cases he : (mapR (someL l) { c with f := wrap64 (1 + wrap64 ((wrap64 (c.f.tdiv 4)).tmod 2 * 4)) }).2.1 = 0
      · exact again_go l v c ho w hl hA (by omega) _ rfl h15 he
      · exact again_err l v c ho w hl hA (by omega) _ rfl h15 he
  · obtain ⟨A, cc, rfl⟩ := hA.is
    exact again_many A l.length cc c w (by omega)
end Go.Proofs.Ytfejoeidffnadaa
