/-
  Texts of our own, one behind the other (MapRefM): what the laws' proofs rest on; each says at its head what it holds. No conditions.
-/
import Derived.Test.YtholpgcghpikgaaGreatPkT
/-
  Layer 10: the reference's Unmap and Map: a contract for each call.
-/
namespace Go.Proofs.YtholpgcghpikgaaGreat
open Go.ChangeShapes Go.WideShapes Go.ChangeAt Go.RowKit Go.Shelf
set_option linter.unusedVariables false
attribute [local go_sem ↓] Go.wp_at_zero Go.wp_at_succ

theorem um_may {X : List Ar} (hX : MayL X) (c : Cl) : umE X c = rgE c.a c.n := by
  unfold umE liE
  rw [if_pos hX, firstE, if_pos rfl, firstE]
  by_cases h : rgE c.a c.n = 0
  · rw [if_pos h, h]; rfl
  · rw [if_neg h]
section
variable {w : World} {v : Value} {X : List Ar}
set_option maxRecDepth 100000 in
set_option maxHeartbeats 4000000 in
theorem rum_err (h : Holds w v X) (c : Cl) (he : rgE c.a c.n ≠ 0) : Calls Tryz.prog 29 #[v, c.v] w (GivesH w X (rgE c.a c.n) 0) := by
  have G := Lib.hid (((Bag.new w).add 38 c.cells).add 34 (ansC 0 0))
  rw [World.size_alloc] at G
  have CR := Lib.hid (refRange_any c.a c.n)
  generalize rgE c.a c.n = re at *
  generalize rgA c.a c.n = ra at *
  generalize rgB c.a c.n = rb at *
  have he' : (re != 0) = true := by simpa using he
  have HA := Lib.hid h
  obtain ⟨A, cc, rfl⟩ := h.is
  clear h
  generalize hn : X.length = n at *
  clear hn
  obtain ⟨ck, ca, cn, cnw, ctw, cp, cf, cb, co⟩ := c
  unfold Cl.v
  simp only [Cl.cells] at *
  go_enter Tryz.func29, Tryz.ntmps29
  go_wp2_with fail
  refine (CR.out _).mono ?_
  rintro e w1 ⟨rfl, hb⟩
  have G := Lib.hid (G.out.still hb)
  clear hb CR
  obtain ⟨⟨c0, c1, c2, c3, c4, c5⟩, ⟨f0, f1, f2, f3, f4, f5⟩⟩ := six_of G.out.v0
  have HB : Hid (∀ x0 x1 x2 x3 x4 x5, Below w.heap.size w (set6 w1 (w.heap.size + 1) x0 x1 x2 x3 x4 x5)) := Lib.hid (fun x0 x1 x2 x3 x4 x5 => G.out.bel.trans ((six_only w1 (w.heap.size + 1) _ _ _ _ _ _).below (fun k hk => by omega) G.out.bel.size))
  go_wp2_with fail
  refine bodyPost_ret (results_tmp_row rfl _ _ (w.heap.size + 1) 34 (ansC re 0) (0, 0) _ rfl (six_put G.out.v0 _ _ _ _ _ _) Tryz.underlying34 rfl (by kernel_rfl)) rfl ?_
  exact ⟨_, rfl, HA.out.still (HB.out _ _ _ _ _ _), HB.out _ _ _ _ _ _⟩

set_option maxRecDepth 100000 in
set_option maxHeartbeats 4000000 in
theorem rum_cut (h : Holds w v X) (hX : MayL X) (c : Cl) (he : rgE c.a c.n = 0) {Z : List Ar} {ae ax : Int}
    (hk : ∀ (m0 m1 : Nat) w' u, m0 ≤ m1 → m1 ≤ 512 → rgA c.a c.n = 4096 * (m0 : Int) → rgB c.a c.n = 4096 * (m1 : Int) → Holds w' u X → Calls Tryz.prog 61 #[u, .agg (spc (cutTo (spK X X.length) m0 m1)), .int .i64 0] w' (GivesK w' u X Z ae ax)) :
    Calls Tryz.prog 29 #[v, c.v] w (GivesH w Z ae ax) := by
  have G := Lib.hid (((Bag.new w).add 38 c.cells).add 34 (ansC 0 0))
  rw [World.size_alloc] at G
  have KX := Lib.hid (h.still G.out.bel)
  have HA := Lib.hid h
  have CR := Lib.hid (refRange_any c.a c.n)
  have hrg := rg_ok he
  have hsz := sz_pages hrg.2.1
  obtain ⟨m0, hm0⟩ : ∃ m0 : Nat, rgA c.a c.n = 4096 * (m0 : Int) := ⟨(rgA c.a c.n / 4096).toNat, by omega⟩
  obtain ⟨m1, hm1⟩ : ∃ m1 : Nat, rgB c.a c.n = 4096 * (m1 : Int) := ⟨(rgB c.a c.n / 4096).toNat, by omega⟩
  have hm : m0 ≤ m1 ∧ m1 ≤ 512 := by omega
  have CO : Hid (∀ w' u, Holds w' u X → Calls Tryz.prog 63 #[u] w' fun e w'' => e = .returned (.agg (spc (spK X X.length))) ∧ Below w'.heap.size w' w'') := Lib.hid (fun w' u h => by
    obtain ⟨A, c, rfl, hc, hA⟩ := h
    exact ofL_any X hX.1 A c w' hA)
  have CW : Hid (∀ w', Calls Tryz.prog 65 #[.agg (spc (spK X X.length)), .int .i64 (rgA c.a c.n), .int .i64 (rgB c.a c.n)] w' fun e w'' => e = .returned (.agg (spc (cutTo (spK X X.length) m0 m1))) ∧ Below w'.heap.size w' w'') := Lib.hid (fun w' => by rw [hm0, hm1]; exact without_any _ m0 m1 hm.1 hm.2 w')
  have CK : Hid (∀ w' u, Holds w' u X → Calls Tryz.prog 61 #[u, .agg (spc (cutTo (spK X X.length) m0 m1)), .int .i64 0] w' (GivesK w' u X Z ae ax)) := Lib.hid (fun w' u h => hk m0 m1 w' u hm.1 hm.2 hm0 hm1 h)
  rw [he] at CR
  clear hk he hrg hsz hm0 hm1 hm hX
  generalize spc (cutTo (spK X X.length) m0 m1) = s2 at *
  generalize spc (spK X X.length) = s1 at *
  generalize rgA c.a c.n = ra at *
  generalize rgB c.a c.n = rb at *
  obtain ⟨A, cc, rfl⟩ := h.is
  clear h
  generalize hn : X.length = n at *
  clear hn
  obtain ⟨ck, ca, cn, cnw, ctw, cp, cf, cb, co⟩ := c
  unfold Cl.v
  simp only [Cl.cells] at *
  go_enter Tryz.func29, Tryz.ntmps29
  go_wp2_with fail
  refine (CR.out _).mono ?_
  rintro e w1 ⟨rfl, hb⟩
  have G := Lib.hid (G.out.still hb)
  have KX := Lib.hid (KX.out.still hb)
  clear hb CR
  go_wp2_with fail
  refine (CO.out _ _ KX.out).mono ?_
  rintro e w2 ⟨rfl, hb⟩
  have G := Lib.hid (G.out.still hb)
  have KX := Lib.hid (KX.out.still hb)
  clear hb CO
  go_wp2_with fail
  refine (CW.out _).mono ?_
  rintro e w3 ⟨rfl, hb⟩
  have G := Lib.hid (G.out.still hb)
  have KX := Lib.hid (KX.out.still hb)
  clear hb CW
  go_wp2_with fail
  refine (CK.out _ _ KX.out).mono ?_
  rintro e w4 ⟨v4, rfl, hh, hb⟩
  have SZ := Lib.hid G.out.bel.size
  have G := Lib.hid (G.out.still hb)
  clear hb CK KX
  obtain ⟨⟨c0, c1, c2, c3, c4, c5⟩, ⟨f0, f1, f2, f3, f4, f5⟩⟩ := six_of G.out.v0
  have HH := Lib.hid hh
  clear hh
  unfold ansV ansC
  go_wp2_with fail
  refine bodyPost_ret (results_tmp_row rfl _ _ (w.heap.size + 1) 34 (ansC ae ax) (0, 0) _ rfl (six_put G.out.v0 _ _ _ _ _ _) Tryz.underlying34 rfl (by kernel_rfl)) rfl ?_
  have HB := G.out.bel.trans ((six_only w4 (w.heap.size + 1) (.int .i64 ae) (.int .i64 ax) (.int .i64 0) (.bool false) (.int .i64 0) (.int .i64 0)).below (fun k hk => by omega) G.out.bel.size)
  refine ⟨v4, rfl, ?_, HB⟩
  rcases HH.out with ⟨rfl, rfl⟩ | hm
  · exact HA.out.still HB
  · exact (mine_far (hm.base SZ.out) G.out.v0 _ _ _ _ _ _).holds

theorem refUnmap_c (h : Holds w v X) (hX : MayL X) (c : Cl) : Calls Tryz.prog 29 #[v, c.v] w (GivesH w (umR X c).1 (umR X c).2.1 (umR X c).2.2) := by
  unfold umR
  rw [um_may hX]
  by_cases he : rgE c.a c.n = 0
  · rw [if_pos he]
    by_cases hm : (outsideL (rgA c.a c.n) (rgB c.a c.n) X).length ≤ 24
    · rw [if_pos hm]
      refine rum_cut h hX c he fun m0 m1 w' u h1 h2 e0 e1 hu => ?_
      rw [e0, e1] at hm ⊢
      exact refKept_c hu _ (cutTo_good (spK_good hX.1) _ _) (cut_list hX.1 h1) 0 (.inr ⟨hm, rfl, rfl, rfl⟩)
    · rw [if_neg hm]
      refine rum_cut h hX c he fun m0 m1 w' u h1 h2 e0 e1 hu => ?_
      rw [e0, e1] at hm
      exact refKept_c hu _ (cutTo_good (spK_good hX.1) _ _) (cut_list hX.1 h1) 0 (.inl ⟨by omega, rfl, rfl, rfl⟩)
  · rw [if_neg he]
    exact rum_err h c he

/-! Map. -/
theorem wt_may {X : List Ar} (hX : MayL X) (c : Cl) : wtE X c = firstE [szE c.n, prE c.p, fgE c.f, bkE c.b c.o (szV c.n), (plR X c.a (szV c.n) c.f).2] := by
  unfold wtE plE liE
  rw [if_pos hX, if_pos hX, firstE, if_pos rfl]
theorem pr_zero {p : Int} : prE p = 0 ↔ 0 ≤ p ∧ p ≤ 7 := by
  unfold prE
  by_cases h : 0 ≤ p ∧ p ≤ 7
  · rw [if_pos h]; exact ⟨fun _ => h, fun _ => rfl⟩
  · rw [if_neg h]; exact ⟨fun k => (by cases k), fun k => absurd k h⟩
theorem pr_or (p : Int) : prE p = 0 ∨ prE p = 1 := by unfold prE; split <;> simp
set_option maxRecDepth 100000 in
set_option maxHeartbeats 8000000 in
theorem rmap_size (h : Holds w v X) (c : Cl) (he : szE c.n ≠ 0) : Calls Tryz.prog 28 #[v, c.v] w (GivesH w X (szE c.n) 0) := by
  have G := Lib.hid (((Bag.new w).add 38 c.cells).add 34 (ansC 0 0))
  rw [World.size_alloc] at G
  have KX := Lib.hid (h.still G.out.bel)
  have HA := Lib.hid h
  have CS := Lib.hid (refSize_any c.n)
  generalize szE c.n = se at *
  generalize szV c.n = sv at *
  have he' : (se != 0) = true := by simpa using he
  have he2 : (se == 0) = false := by simpa using he
  obtain ⟨A, cc, rfl⟩ := h.is
  clear h
  generalize hn : X.length = n at *
  clear hn
  obtain ⟨ck, ca, cn, cnw, ctw, cp, cf, cb, co⟩ := c
  unfold Cl.v
  simp only [Cl.cells] at *
  go_enter Tryz.func28, Tryz.ntmps28
  go_wp2_with fail
  refine (CS.out _).mono ?_
  rintro e w1 ⟨rfl, hb⟩
  have G := Lib.hid (G.out.still hb)
  have KX := Lib.hid (KX.out.still hb)
  clear hb CS
  obtain ⟨c0, c1, c2, c3, c4, c5, c6, c7, c8⟩ := nine G.out.v1
  obtain ⟨⟨d0, d1, d2, d3, d4, d5⟩, ⟨f0, f1, f2, f3, f4, f5⟩⟩ := six_of G.out.v0
  have HB : Hid (∀ x0 x1 x2 x3 x4 x5, Below w.heap.size w (set6 w1 (w.heap.size + 1) x0 x1 x2 x3 x4 x5)) := Lib.hid (fun x0 x1 x2 x3 x4 x5 => G.out.bel.trans ((six_only w1 (w.heap.size + 1) _ _ _ _ _ _).below (fun k hk => by omega) G.out.bel.size))
  go_wp2_with fail
  refine bodyPost_ret (results_tmp_row rfl _ _ (w.heap.size + 1) 34 (ansC se 0) (0, 0) _ rfl (six_put G.out.v0 _ _ _ _ _ _) Tryz.underlying34 rfl (by kernel_rfl)) rfl ?_
  exact ⟨_, rfl, HA.out.still (HB.out _ _ _ _ _ _), HB.out _ _ _ _ _ _⟩

set_option maxRecDepth 100000 in
set_option maxHeartbeats 8000000 in
theorem rmap_args (h : Holds w v X) (c : Cl) (hn : szE c.n = 0) (hbad : c.p < 0 ∨ (0 ≤ c.p ∧ 7 < c.p) ∨ ((0 ≤ c.p ∧ c.p ≤ 7) ∧ c.f < 0) ∨ ((0 ≤ c.p ∧ c.p ≤ 7) ∧ 0 ≤ c.f ∧ 15 < c.f) ∨ ((0 ≤ c.p ∧ c.p ≤ 7) ∧ (0 ≤ c.f ∧ c.f ≤ 15) ∧ c.f % 4 = 2)) : Calls Tryz.prog 28 #[v, c.v] w (GivesH w X 1 0) := by
  have G := Lib.hid (((Bag.new w).add 38 c.cells).add 34 (ansC 0 0))
  rw [World.size_alloc] at G
  have KX := Lib.hid (h.still G.out.bel)
  have HA := Lib.hid h
  have CS := Lib.hid (refSize_any c.n)
  rw [hn] at CS
  generalize szV c.n = sv at *
  have HD : Hid (0 ≤ c.f → c.f.tmod 4 = c.f % 4) := Lib.hid (fun h => Int.tmod_eq_emod_of_nonneg h)
  obtain ⟨A, cc, rfl⟩ := h.is
  clear h
  generalize hn : X.length = n at *
  clear hn
  obtain ⟨ck, ca, cn, cnw, ctw, cp, cf, cb, co⟩ := c
  clear hn
  unfold Cl.v
  simp only [Cl.cells] at *
  rcases hbad with h1 | ⟨h1, h2⟩ | ⟨⟨h1, h2⟩, h3⟩ | ⟨⟨h1, h2⟩, h3, h4⟩ | ⟨⟨h1, h2⟩, ⟨h3, h4⟩, h5⟩
  · go_enter Tryz.func28, Tryz.ntmps28
    go_wp2_with fail
    refine (CS.out _).mono ?_
    rintro e w1 ⟨rfl, hb⟩
    have G := Lib.hid (G.out.still hb)
    have KX := Lib.hid (KX.out.still hb)
    clear hb CS
    obtain ⟨c0, c1, c2, c3, c4, c5, c6, c7, c8⟩ := nine G.out.v1
    obtain ⟨⟨d0, d1, d2, d3, d4, d5⟩, ⟨f0, f1, f2, f3, f4, f5⟩⟩ := six_of G.out.v0
    have HB : Hid (∀ x0 x1 x2 x3 x4 x5, Below w.heap.size w (set6 w1 (w.heap.size + 1) x0 x1 x2 x3 x4 x5)) := Lib.hid (fun x0 x1 x2 x3 x4 x5 => G.out.bel.trans ((six_only w1 (w.heap.size + 1) _ _ _ _ _ _).below (fun k hk => by omega) G.out.bel.size))
    go_wp2_with fail
    refine bodyPost_ret (results_tmp_row rfl _ _ (w.heap.size + 1) 34 (ansC 1 0) (0, 0) _ rfl (six_put G.out.v0 _ _ _ _ _ _) Tryz.underlying34 rfl (by kernel_rfl)) rfl ?_
    exact ⟨_, rfl, HA.out.still (HB.out _ _ _ _ _ _), HB.out _ _ _ _ _ _⟩
  · go_enter Tryz.func28, Tryz.ntmps28
    go_wp2_with fail
    refine (CS.out _).mono ?_
    rintro e w1 ⟨rfl, hb⟩
    have G := Lib.hid (G.out.still hb)
    have KX := Lib.hid (KX.out.still hb)
    clear hb CS
    obtain ⟨c0, c1, c2, c3, c4, c5, c6, c7, c8⟩ := nine G.out.v1
    obtain ⟨⟨d0, d1, d2, d3, d4, d5⟩, ⟨f0, f1, f2, f3, f4, f5⟩⟩ := six_of G.out.v0
    have HB : Hid (∀ x0 x1 x2 x3 x4 x5, Below w.heap.size w (set6 w1 (w.heap.size + 1) x0 x1 x2 x3 x4 x5)) := Lib.hid (fun x0 x1 x2 x3 x4 x5 => G.out.bel.trans ((six_only w1 (w.heap.size + 1) _ _ _ _ _ _).below (fun k hk => by omega) G.out.bel.size))
    go_wp2_with fail
    refine bodyPost_ret (results_tmp_row rfl _ _ (w.heap.size + 1) 34 (ansC 1 0) (0, 0) _ rfl (six_put G.out.v0 _ _ _ _ _ _) Tryz.underlying34 rfl (by kernel_rfl)) rfl ?_
    exact ⟨_, rfl, HA.out.still (HB.out _ _ _ _ _ _), HB.out _ _ _ _ _ _⟩
  · go_enter Tryz.func28, Tryz.ntmps28
    go_wp2_with fail
    refine (CS.out _).mono ?_
    rintro e w1 ⟨rfl, hb⟩
    have G := Lib.hid (G.out.still hb)
    have KX := Lib.hid (KX.out.still hb)
    clear hb CS
    obtain ⟨c0, c1, c2, c3, c4, c5, c6, c7, c8⟩ := nine G.out.v1
    obtain ⟨⟨d0, d1, d2, d3, d4, d5⟩, ⟨f0, f1, f2, f3, f4, f5⟩⟩ := six_of G.out.v0
    have HB : Hid (∀ x0 x1 x2 x3 x4 x5, Below w.heap.size w (set6 w1 (w.heap.size + 1) x0 x1 x2 x3 x4 x5)) := Lib.hid (fun x0 x1 x2 x3 x4 x5 => G.out.bel.trans ((six_only w1 (w.heap.size + 1) _ _ _ _ _ _).below (fun k hk => by omega) G.out.bel.size))
    go_wp2_with fail
    refine bodyPost_ret (results_tmp_row rfl _ _ (w.heap.size + 1) 34 (ansC 1 0) (0, 0) _ rfl (six_put G.out.v0 _ _ _ _ _ _) Tryz.underlying34 rfl (by kernel_rfl)) rfl ?_
    exact ⟨_, rfl, HA.out.still (HB.out _ _ _ _ _ _), HB.out _ _ _ _ _ _⟩
  · go_enter Tryz.func28, Tryz.ntmps28
    go_wp2_with fail
    refine (CS.out _).mono ?_
    rintro e w1 ⟨rfl, hb⟩
    have G := Lib.hid (G.out.still hb)
    have KX := Lib.hid (KX.out.still hb)
    clear hb CS
    obtain ⟨c0, c1, c2, c3, c4, c5, c6, c7, c8⟩ := nine G.out.v1
    obtain ⟨⟨d0, d1, d2, d3, d4, d5⟩, ⟨f0, f1, f2, f3, f4, f5⟩⟩ := six_of G.out.v0
    have HB : Hid (∀ x0 x1 x2 x3 x4 x5, Below w.heap.size w (set6 w1 (w.heap.size + 1) x0 x1 x2 x3 x4 x5)) := Lib.hid (fun x0 x1 x2 x3 x4 x5 => G.out.bel.trans ((six_only w1 (w.heap.size + 1) _ _ _ _ _ _).below (fun k hk => by omega) G.out.bel.size))
    go_wp2_with fail
    refine bodyPost_ret (results_tmp_row rfl _ _ (w.heap.size + 1) 34 (ansC 1 0) (0, 0) _ rfl (six_put G.out.v0 _ _ _ _ _ _) Tryz.underlying34 rfl (by kernel_rfl)) rfl ?_
    exact ⟨_, rfl, HA.out.still (HB.out _ _ _ _ _ _), HB.out _ _ _ _ _ _⟩
  · have hd := HD.out h3
    have hd2 : (cf % 4 == 2) = true := by rw [h5]; rfl
    go_enter Tryz.func28, Tryz.ntmps28
    go_wp2_with fail
    refine (CS.out _).mono ?_
    rintro e w1 ⟨rfl, hb⟩
    have G := Lib.hid (G.out.still hb)
    have KX := Lib.hid (KX.out.still hb)
    clear hb CS
    obtain ⟨c0, c1, c2, c3, c4, c5, c6, c7, c8⟩ := nine G.out.v1
    obtain ⟨⟨d0, d1, d2, d3, d4, d5⟩, ⟨f0, f1, f2, f3, f4, f5⟩⟩ := six_of G.out.v0
    have HB : Hid (∀ x0 x1 x2 x3 x4 x5, Below w.heap.size w (set6 w1 (w.heap.size + 1) x0 x1 x2 x3 x4 x5)) := Lib.hid (fun x0 x1 x2 x3 x4 x5 => G.out.bel.trans ((six_only w1 (w.heap.size + 1) _ _ _ _ _ _).below (fun k hk => by omega) G.out.bel.size))
    go_wp2_with fail
    refine bodyPost_ret (results_tmp_row rfl _ _ (w.heap.size + 1) 34 (ansC 1 0) (0, 0) _ rfl (six_put G.out.v0 _ _ _ _ _ _) Tryz.underlying34 rfl (by kernel_rfl)) rfl ?_
    exact ⟨_, rfl, HA.out.still (HB.out _ _ _ _ _ _), HB.out _ _ _ _ _ _⟩

set_option maxRecDepth 100000 in
set_option maxHeartbeats 8000000 in
theorem rmap_back (h : Holds w v X) (c : Cl) (hn : szE c.n = 0) (hp : 0 ≤ c.p ∧ c.p ≤ 7) (hf : 0 ≤ c.f ∧ c.f ≤ 15) (h4 : c.f % 4 ≠ 2) (ho : i64 c.o) (he : bkE c.b c.o (szV c.n) ≠ 0) : Calls Tryz.prog 28 #[v, c.v] w (GivesH w X (bkE c.b c.o (szV c.n)) 0) := by
  have G := Lib.hid (((Bag.new w).add 38 c.cells).add 34 (ansC 0 0))
  rw [World.size_alloc] at G
  have KX := Lib.hid (h.still G.out.bel)
  have HA := Lib.hid h
  have CS := Lib.hid (refSize_any c.n)
  have hz := sz_pages hn
  rw [hn] at CS
  have hd : c.f.tmod 4 = c.f % 4 := Int.tmod_eq_emod_of_nonneg hf.1
  have hd2 : (c.f % 4 == 2) = false := by simpa using h4
  have CB := Lib.hid (refBacking_any c.b c.o (szV c.n) (by omega) hz.2.2.2.2 ho)
  obtain ⟨hp0, hp1⟩ := hp
  obtain ⟨hf0, hf1⟩ := hf
  clear ho h4
  generalize bkE c.b c.o (szV c.n) = be at *
  have he' : (be != 0) = true := by simpa using he
  have he2 : (be == 0) = false := by simpa using he
  generalize szV c.n = sv at *
  clear hz hn
  obtain ⟨A, cc, rfl⟩ := h.is
  clear h
  generalize hn : X.length = n at *
  clear hn
  obtain ⟨ck, ca, cn, cnw, ctw, cp, cf, cb, co⟩ := c
  unfold Cl.v
  simp only [Cl.cells] at *
  go_enter Tryz.func28, Tryz.ntmps28
  go_wp2_with fail
  refine (CS.out _).mono ?_
  rintro e w1 ⟨rfl, hb⟩
  have G := Lib.hid (G.out.still hb)
  have KX := Lib.hid (KX.out.still hb)
  clear hb CS
  obtain ⟨c0, c1, c2, c3, c4, c5, c6, c7, c8⟩ := nine G.out.v1
  go_wp2_with fail
  clear c0 c1 c2 c3 c4 c5 c6 c7 c8
  refine (CB.out _).mono ?_
  rintro e w2 ⟨rfl, hb⟩
  have G := Lib.hid (G.out.still hb)
  have KX := Lib.hid (KX.out.still hb)
  clear hb CB
  obtain ⟨c0, c1, c2, c3, c4, c5, c6, c7, c8⟩ := nine G.out.v1
  obtain ⟨⟨d0, d1, d2, d3, d4, d5⟩, ⟨f0, f1, f2, f3, f4, f5⟩⟩ := six_of G.out.v0
  have HB : Hid (∀ x0 x1 x2 x3 x4 x5, Below w.heap.size w (set6 w2 (w.heap.size + 1) x0 x1 x2 x3 x4 x5)) := Lib.hid (fun x0 x1 x2 x3 x4 x5 => G.out.bel.trans ((six_only w2 (w.heap.size + 1) _ _ _ _ _ _).below (fun k hk => by omega) G.out.bel.size))
  go_wp2_with fail
  refine bodyPost_ret (results_tmp_row rfl _ _ (w.heap.size + 1) 34 (ansC be 0) (0, 0) _ rfl (six_put G.out.v0 _ _ _ _ _ _) Tryz.underlying34 rfl (by kernel_rfl)) rfl ?_
  exact ⟨_, rfl, HA.out.still (HB.out _ _ _ _ _ _), HB.out _ _ _ _ _ _⟩

set_option maxRecDepth 100000 in
set_option maxHeartbeats 8000000 in
theorem rmap_place (h : Holds w v X) (c : Cl) (hn : szE c.n = 0) (hp : 0 ≤ c.p ∧ c.p ≤ 7) (hf : 0 ≤ c.f ∧ c.f ≤ 15) (h4 : c.f % 4 ≠ 2) (ho : i64 c.o) (hX : MayL X) (hb : bkE c.b c.o (szV c.n) = 0) (he : (plR X c.a (szV c.n) c.f).2 ≠ 0) : Calls Tryz.prog 28 #[v, c.v] w (GivesH w X (plR X c.a (szV c.n) c.f).2 0) := by
  have G := Lib.hid (((Bag.new w).add 38 c.cells).add 34 (ansC 0 0))
  rw [World.size_alloc] at G
  have KX := Lib.hid (h.still G.out.bel)
  have HA := Lib.hid h
  have CS := Lib.hid (refSize_any c.n)
  have hz := sz_pages hn
  rw [hn] at CS
  have hd : c.f.tmod 4 = c.f % 4 := Int.tmod_eq_emod_of_nonneg hf.1
  have hd2 : (c.f % 4 == 2) = false := by simpa using h4
  have CB := Lib.hid (refBacking_any c.b c.o (szV c.n) (by omega) hz.2.2.2.2 ho)
  obtain ⟨hp0, hp1⟩ := hp
  obtain ⟨hf0, hf1⟩ := hf
  clear ho h4
  rw [hb] at CB
  have CP : Hid (∀ w' u, Holds w' u X → Calls Tryz.prog 60 #[u, .int .i64 c.a, .int .i64 (szV c.n), .int .i64 c.f] w' fun e w'' => e = .returned (plV (plR X c.a (szV c.n) c.f)) ∧ Below w'.heap.size w' w'') := Lib.hid (fun w' u h => refPlace_c h hX _ _ _ hf0 (by omega))
  generalize plR X c.a (szV c.n) c.f = pl at *
  obtain ⟨p1, p2⟩ := pl
  unfold plV at CP
  simp only at CP he ⊢
  have he' : (p2 != 0) = true := by simpa using he
  have he2 : (p2 == 0) = false := by simpa using he
  generalize szV c.n = sv at *
  clear hz hn hX hb
  obtain ⟨A, cc, rfl⟩ := h.is
  clear h
  generalize hn : X.length = n at *
  clear hn
  obtain ⟨ck, ca, cn, cnw, ctw, cp, cf, cb, co⟩ := c
  unfold Cl.v
  simp only [Cl.cells] at *
  go_enter Tryz.func28, Tryz.ntmps28
  go_wp2_with fail
  refine (CS.out _).mono ?_
  rintro e w1 ⟨rfl, hb⟩
  have G := Lib.hid (G.out.still hb)
  have KX := Lib.hid (KX.out.still hb)
  clear hb CS
  obtain ⟨c0, c1, c2, c3, c4, c5, c6, c7, c8⟩ := nine G.out.v1
  go_wp2_with fail
  clear c0 c1 c2 c3 c4 c5 c6 c7 c8
  refine (CB.out _).mono ?_
  rintro e w2 ⟨rfl, hb⟩
  have G := Lib.hid (G.out.still hb)
  have KX := Lib.hid (KX.out.still hb)
  clear hb CB
  obtain ⟨c0, c1, c2, c3, c4, c5, c6, c7, c8⟩ := nine G.out.v1
  go_wp2_with fail
  clear c0 c1 c2 c3 c4 c5 c6 c7 c8
  refine (CP.out _ _ KX.out).mono ?_
  rintro e w3 ⟨rfl, hb⟩
  have G := Lib.hid (G.out.still hb)
  have KX := Lib.hid (KX.out.still hb)
  clear hb CP
  obtain ⟨c0, c1, c2, c3, c4, c5, c6, c7, c8⟩ := nine G.out.v1
  obtain ⟨⟨d0, d1, d2, d3, d4, d5⟩, ⟨f0, f1, f2, f3, f4, f5⟩⟩ := six_of G.out.v0
  have HB : Hid (∀ x0 x1 x2 x3 x4 x5, Below w.heap.size w (set6 w3 (w.heap.size + 1) x0 x1 x2 x3 x4 x5)) := Lib.hid (fun x0 x1 x2 x3 x4 x5 => G.out.bel.trans ((six_only w3 (w.heap.size + 1) _ _ _ _ _ _).below (fun k hk => by omega) G.out.bel.size))
  go_wp2_with fail
  refine bodyPost_ret (results_tmp_row rfl _ _ (w.heap.size + 1) 34 (ansC p2 0) (0, 0) _ rfl (six_put G.out.v0 _ _ _ _ _ _) Tryz.underlying34 rfl (by kernel_rfl)) rfl ?_
  exact ⟨_, rfl, HA.out.still (HB.out _ _ _ _ _ _), HB.out _ _ _ _ _ _⟩

set_option maxRecDepth 100000 in
set_option maxHeartbeats 8000000 in
theorem rmap_put (h : Holds w v X) (c : Cl) (hA : Asks X c) (hf : 0 ≤ c.f ∧ c.f ≤ 15) (h4 : c.f % 4 ≠ 2) (ho : i64 c.o) {Z : List Ar} {ae ax : Int} (hk : ∀ w' u, Holds w' u X → Calls Tryz.prog 61 #[u, .agg (spc (withS (spK X X.length) (wtA X c))), .int .i64 (wtA X c).s] w' (GivesK w' u X Z ae ax)) : Calls Tryz.prog 28 #[v, c.v] w (GivesH w Z ae ax) := by
  have G := Lib.hid (((Bag.new w).add 38 c.cells).add 34 (ansC 0 0))
  rw [World.size_alloc] at G
  have KX := Lib.hid (h.still G.out.bel)
  have HA := Lib.hid h
  have CS := Lib.hid (refSize_any c.n)
  have hX := hA.may
  have hn := hA.n
  have hp := pr_zero.1 hA.p
  have hz := sz_pages hn
  rw [hn] at CS
  have hd : c.f.tmod 4 = c.f % 4 := Int.tmod_eq_emod_of_nonneg hf.1
  have hd2 : (c.f % 4 == 2) = false := by simpa using h4
  have CB := Lib.hid (refBacking_any c.b c.o (szV c.n) (by omega) hz.2.2.2.2 ho)
  obtain ⟨hp0, hp1⟩ := hp
  obtain ⟨hf0, hf1⟩ := hf
  clear ho h4
  rw [hA.b] at CB
  have CP : Hid (∀ w' u, Holds w' u X → Calls Tryz.prog 60 #[u, .int .i64 c.a, .int .i64 (szV c.n), .int .i64 c.f] w' fun e w'' => e = .returned (.tuple #[.int .i64 (wtA X c).s, .int .i64 0]) ∧ Below w'.heap.size w' w'') := Lib.hid (fun w' u h => by
    have := refPlace_c h hX c.a (szV c.n) c.f hf0 (by omega)
    rw [← hA.e] at this
    unfold plV at this
    rw [hA.pl] at this
    exact this)
  have CO : Hid (∀ w' u, Holds w' u X → Calls Tryz.prog 63 #[u] w' fun e w'' => e = .returned (.agg (spc (spK X X.length))) ∧ Below w'.heap.size w' w'') := Lib.hid (fun w' u h => by
    obtain ⟨A, c, rfl, hc, hA⟩ := h
    exact ofL_any X hX.1 A c w' hA)
  have e4 : bitF c.f 4 = (c.f / 4 % 2 == 1) := by
    rw [(bits_byte (f := c.f) hf0 (by omega)).2.2.1]
    by_cases h : c.f / 4 % 2 = 1
    · rw [h]; rfl
    · rw [decide_eq_false h]; simpa using h
  have CW : Hid (∀ w', Calls Tryz.prog 62 #[.agg (spc (spK X X.length)), .int .i64 (wtA X c).s, .int .i64 ((wtA X c).s + szV c.n), .agg #[.int .i64 c.p, .bool (c.f / 4 % 2 == 1), .int .i64 c.b, .int .i64 c.o]] w' fun e w'' => e = .returned (.agg (spc (withS (spK X X.length) (wtA X c)))) ∧ Below w'.heap.size w' w'') := Lib.hid (fun w' => by
    have := with_any (spK X X.length) (wtA X c) hA.formed w'
    have e : (wtA X c).sh = (c.f / 4 % 2 == 1) := e4
    rw [e] at this
    exact this)
  have CK : Hid (∀ w' u, Holds w' u X → Calls Tryz.prog 61 #[u, .agg (spc (withS (spK X X.length) (wtA X c))), .int .i64 (wtA X c).s] w' fun e w'' => ∃ v', e = .returned (.tuple #[v', .agg #[.int .i64 ae, .int .i64 ax, .int .i64 0, .bool false, .int .i64 0, .int .i64 0]]) ∧ ((v' = u ∧ Z = X) ∨ Mine w'.heap.size w'' v' Z) ∧ Below w'.heap.size w' w'') := Lib.hid hk
  have hnum := hA.num
  have hs1 : 65536 ≤ (wtA X c).s := by unfold wtA; simp only; omega
  have hs2 : (wtA X c).s + szV c.n ≤ 2097152 := by unfold wtA; simp only; omega
  have hs3 : IntKind.i64.wrap ((wtA X c).s + szV c.n) = (wtA X c).s + szV c.n := by rw [IntKind.wrap_i64]; omega
  have hd4 : c.f.tdiv 4 = c.f / 4 := Int.tdiv_eq_ediv_of_nonneg hf0
  have hd5 : (c.f / 4).tmod 2 = c.f / 4 % 2 := Int.tmod_eq_emod_of_nonneg (by omega)
  clear hk hA hX hnum e4
  generalize spc (withS (spK X X.length) (wtA X c)) = s2 at *
  generalize spc (spK X X.length) = s1 at *
  generalize (wtA X c).s = at0 at *
  generalize szV c.n = sv at *
  obtain ⟨hz1, hz2, hz3, hz4, hz5⟩ := hz
  clear hz1 hz2 hz3 hn
  obtain ⟨A, cc, rfl⟩ := h.is
  clear h
  generalize hn : X.length = n at *
  clear hn
  obtain ⟨ck, ca, cn, cnw, ctw, cp, cf, cb, co⟩ := c
  unfold Cl.v
  simp only [Cl.cells] at *
  go_enter Tryz.func28, Tryz.ntmps28
  go_wp2_with fail
  refine (CS.out _).mono ?_
  rintro e w1 ⟨rfl, hb⟩
  have G := Lib.hid (G.out.still hb)
  have KX := Lib.hid (KX.out.still hb)
  clear hb CS
  obtain ⟨c0, c1, c2, c3, c4, c5, c6, c7, c8⟩ := nine G.out.v1
  go_wp2_with fail
  clear c0 c1 c2 c3 c4 c5 c6 c7 c8
  refine (CB.out _).mono ?_
  rintro e w2 ⟨rfl, hb⟩
  have G := Lib.hid (G.out.still hb)
  have KX := Lib.hid (KX.out.still hb)
  clear hb CB
  obtain ⟨c0, c1, c2, c3, c4, c5, c6, c7, c8⟩ := nine G.out.v1
  go_wp2_with fail
  clear c0 c1 c2 c3 c4 c5 c6 c7 c8
  refine (CP.out _ _ KX.out).mono ?_
  rintro e w3 ⟨rfl, hb⟩
  have G := Lib.hid (G.out.still hb)
  have KX := Lib.hid (KX.out.still hb)
  clear hb CP
  obtain ⟨c0, c1, c2, c3, c4, c5, c6, c7, c8⟩ := nine G.out.v1
  have SZ := Lib.hid G.out.bel.size
  generalize hsh : (cf / 4 % 2 == 1) = sh at *
  have G := Lib.hid (G.out.add 32 #[.int .i64 cp, .bool sh, .int .i64 cb, .int .i64 co])
  have KX := Lib.hid (KX.out.still (below_new w3 (.cells #[.int .i64 cp, .bool sh, .int .i64 cb, .int .i64 co] 32)))
  go_upto_region 12 with (fail)
  clear c0 c1 c2 c3 c4 c5 c6 c7 c8
  generalize hw4 : World.alloc w3 _ = w4 at *
  clear hw4 hsh
  generalize w3.heap.size = q at *
  have HQ : Hid (q ≠ w.heap.size + 1) := Lib.hid (G.out.v0.apart G.out.v1 (by decide))
  have BB : Hid (Only (fun k => k = w.heap.size + 1) w4 w4.drew) := Lib.hid (Only.refl _ _).drew
  have BL : Hid (Below w4.heap.size w4 w4.drew) := Lib.hid (below_drew (Below.refl _ _))
  have KX : Hid (Holds w4.drew (.slice A n cc) X) := Lib.hid (KX.out.still (below_drew (Below.refl _ _)))
  have HG := Lib.hid (fun W h => G.out.still (w' := W) h)
  have HK : Hid (∀ W, Only (fun k => k = w.heap.size + 1) w4 W → (W.cell? ⟨q, 0, none⟩ = some (.int .i64 cp) ∧ W.cell? ⟨q, 1, none⟩ = some (.bool sh) ∧ W.cell? ⟨q, 2, none⟩ = some (.int .i64 cb) ∧ W.cell? ⟨q, 3, none⟩ = some (.int .i64 co))) := Lib.hid (fun W h => row4 (G.out.v0.only h HQ.out))
  have S2 := Lib.hid G.out.bel.size
  clear G
  go_region_held3 (fun W => W.cell? ⟨q, 0, none⟩ = some (.int .i64 cp) ∧ W.cell? ⟨q, 1, none⟩ = some (.bool sh) ∧ W.cell? ⟨q, 2, none⟩ = some (.int .i64 cb) ∧ W.cell? ⟨q, 3, none⟩ = some (.int .i64 co))
    (first | exact HK.out _ BB.out | exact HK.out _ (BB.out.trans (six_only _ _ _ _ _ _ _ _)))
    (first
    | (go_at_call 63; refine (CO.out _ _ KX.out).mono ?_; rintro e wn ⟨rfl, hb⟩; have BB := Lib.hid (BB.out.trans (Only.of_below hb _)); have BL := Lib.hid (below_then BL.out hb (Nat.le_refl _)); have KX := Lib.hid (KX.out.still hb); clear hb CO)
    | (go_at_call 62; refine (CW.out _).mono ?_; rintro e wn ⟨rfl, hb⟩; have BB := Lib.hid (BB.out.trans (Only.of_below hb _)); have BL := Lib.hid (below_then BL.out hb (Nat.le_refl _)); have KX := Lib.hid (KX.out.still hb); clear hb CW)
    | (go_at_call 61; refine (CK.out _ _ KX.out).mono ?_; rintro e wk ⟨vk, rfl, hm, hb⟩; have BB := Lib.hid (BB.out.trans (Only.of_below hb _)); have S3 := Lib.hid BL.out.size; have BL := Lib.hid (below_then BL.out hb (Nat.le_refl _)); have HH := Lib.hid hm; have G := Lib.hid (HG.out _ BL.out); clear hb hm CK KX; obtain ⟨⟨d0, d1, d2, d3, d4, d5⟩, ⟨f0, f1, f2, f3, f4, f5⟩⟩ := six_of (G.out.v1))
    | fail)
  all_goals
    go_wp2_with fail
    refine bodyPost_ret (results_tmp_row rfl _ _ (w.heap.size + 1) 34 (ansC ae ax) (0, 0) _ rfl (six_put G.out.v1 _ _ _ _ _ _) Tryz.underlying34 rfl (by kernel_rfl)) rfl ?_
    have HB := G.out.bel.trans ((six_only wk (w.heap.size + 1) (.int .i64 ae) (.int .i64 ax) (.int .i64 0) (.bool false) (.int .i64 0) (.int .i64 0)).below (fun k hk => by omega) G.out.bel.size)
    refine ⟨vk, rfl, ?_, HB⟩
    rcases HH.out with ⟨rfl, rfl⟩ | hm
    · exact HA.out.still HB
    · exact (mine_far (hm.base (Nat.le_trans S2.out S3.out)) G.out.v1 _ _ _ _ _ _).holds

theorem refMap_c (h : Holds w v X) (hX : MayL X) (c : Cl) (hfb : i64 c.f) (ho : i64 c.o) : Calls Tryz.prog 28 #[v, c.v] w (GivesH w (mapR X c).1 (mapR X c).2.1 (mapR X c).2.2) := by
  have hw := wt_may hX c
  by_cases h1 : szE c.n = 0
  · by_cases h2 : prE c.p = 0
    · have hp := pr_zero.1 h2
      by_cases h3 : fgE c.f = 0
      · obtain ⟨hf, h4⟩ := (fg_zero hfb).1 h3
        by_cases h5 : bkE c.b c.o (szV c.n) = 0
        · by_cases h6 : (plR X c.a (szV c.n) c.f).2 = 0
          · have hA : Asks X c := ⟨hX, h1, h2, h3, h5, by unfold plE; rw [if_pos hX], by unfold plE; rw [if_pos hX]; exact h6⟩
            have hg := with_good (spK_good hX.1) hA.formed
            have hlist := with_list hX.1 hA.formed
            unfold mapR
            rw [if_pos (wt_zero.2 hA)]
            by_cases hm : (putC X (wtA X c)).length ≤ 24
            · rw [if_pos hm]
              exact rmap_put h c hA hf h4 ho fun w' u hu => refKept_c hu _ hg hlist _ (.inr ⟨hm, rfl, rfl, rfl⟩)
            · rw [if_neg hm]
              exact rmap_put h c hA hf h4 ho fun w' u hu => refKept_c hu _ hg hlist _ (.inl ⟨by omega, rfl, rfl, rfl⟩)
          · have e : wtE X c = (plR X c.a (szV c.n) c.f).2 := by
              rw [hw, firstE, if_pos h1, firstE, if_pos h2, firstE, if_pos h3, firstE, if_pos h5, firstE, if_neg h6]
            unfold mapR
            rw [if_neg (by rw [e]; exact h6), e]
            exact rmap_place h c h1 hp hf h4 ho hX h5 h6
        · have e : wtE X c = bkE c.b c.o (szV c.n) := by
            rw [hw, firstE, if_pos h1, firstE, if_pos h2, firstE, if_pos h3, firstE, if_neg h5]
          unfold mapR
          rw [if_neg (by rw [e]; exact h5), e]
          exact rmap_back h c h1 hp hf h4 ho h5
      · have e : wtE X c = 1 := by
          rw [hw, firstE, if_pos h1, firstE, if_pos h2, firstE, if_neg h3]
          rcases fg_or c.f with h | h
          · exact absurd h h3
          · exact h
        unfold mapR
        rw [if_neg (by rw [e]; omega), e]
        have hbad := mt (fg_zero hfb).2 h3
        exact rmap_args h c h1 (by omega)
    · have e : wtE X c = 1 := by
        rw [hw, firstE, if_pos h1, firstE, if_neg h2]
        rcases pr_or c.p with h | h
        · exact absurd h h2
        · exact h
      unfold mapR
      rw [if_neg (by rw [e]; omega), e]
      have hbad := mt pr_zero.2 h2
      exact rmap_args h c h1 (by omega)
  · have e : wtE X c = szE c.n := by rw [hw, firstE, if_neg h1]
    unfold mapR
    rw [if_neg (by rw [e]; exact h1), e]
    exact rmap_size h c h1
end
end Go.Proofs.YtholpgcghpikgaaGreat
