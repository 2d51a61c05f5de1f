/-
  Texts of our own, one behind the other (RmRefE): what the laws' proofs rest on; each says at its head what it holds. No conditions.
-/
import Derived.Test.YtholpgcghpikgaaGreatPkQg
import Derived.Test.YtholpgcghpikgaaGreatPkB
/-
  Layer 12: the reference's Remap: a contract: what is wrong with it.
-/
namespace Go.Proofs.YtholpgcghpikgaaGreat
open Go.ChangeShapes Go.WideShapes Go.ChangeAt Go.RowKit Go.Shelf
set_option linter.unusedVariables false
attribute [local go_sem ↓] Go.wp_at_zero Go.wp_at_succ

section
variable {w : World} {v : Value} {X : List Ar}
set_option maxRecDepth 100000 in
set_option maxHeartbeats 8000000 in
theorem rr_flags0 (h : Holds w v X) (c : Cl) (hb : c.f < 0) : Calls Tryz.prog 31 #[v, c.v] w (GivesH w X 1 0) := by
  have G := Lib.hid (((Bag.new w).add 38 c.cells).add 34 (ansC 0 0))
  rw [World.size_alloc] at G
  have KX := Lib.hid (h.still G.out.bel)
  have HA := Lib.hid h
  obtain ⟨A, cc, rfl⟩ := h.is
  clear h
  generalize hn : X.length = n at *
  clear hn
  obtain ⟨ck, ca, cn, cnw, ctw, cp, cf, cb, co⟩ := c
  unfold Cl.v
  simp only [Cl.cells] at *
  go_enter Tryz.func31, Tryz.ntmps31
  obtain ⟨c0, c1, c2, c3, c4, c5, c6, c7, c8⟩ := nine G.out.v1
  go_wp2_with fail
  refine bodyPost_ret (results_tmp_row rfl _ _ (w.heap.size + 1) 34 (ansC 1 0) (0, 0) _ rfl (heap_alloc2_new _ _ _) Tryz.underlying34 rfl (by kernel_rfl)) rfl ?_
  exact ⟨_, rfl, HA.out.still (below_new2 _ _ _), below_new2 _ _ _⟩

set_option maxRecDepth 100000 in
set_option maxHeartbeats 8000000 in
theorem rr_flags1 (h : Holds w v X) (c : Cl) (hf0 : 0 ≤ c.f) (hb : 63 < c.f) : Calls Tryz.prog 31 #[v, c.v] w (GivesH w X 1 0) := by
  have G := Lib.hid (((Bag.new w).add 38 c.cells).add 34 (ansC 0 0))
  rw [World.size_alloc] at G
  have KX := Lib.hid (h.still G.out.bel)
  have HA := Lib.hid h
  have d1 : c.f.tmod 2 = c.f % 2 := Int.tmod_eq_emod_of_nonneg hf0
  have d2 : c.f.tdiv 16 = c.f / 16 := Int.tdiv_eq_ediv_of_nonneg hf0
  have d3 : (c.f / 16).tmod 2 = c.f / 16 % 2 := Int.tmod_eq_emod_of_nonneg (by omega)
  have d4 : c.f.tdiv 32 = c.f / 32 := Int.tdiv_eq_ediv_of_nonneg hf0
  have d5 : (c.f / 32).tmod 2 = c.f / 32 % 2 := Int.tmod_eq_emod_of_nonneg (by omega)
  have d6 : c.f.tdiv 2 = c.f / 2 := Int.tdiv_eq_ediv_of_nonneg hf0
  have d7 : (c.f / 2).tmod 8 = c.f / 2 % 8 := Int.tmod_eq_emod_of_nonneg (by omega)
  obtain ⟨A, cc, rfl⟩ := h.is
  clear h
  generalize hn : X.length = n at *
  clear hn
  obtain ⟨ck, ca, cn, cnw, ctw, cp, cf, cb, co⟩ := c
  unfold Cl.v
  simp only [Cl.cells] at *
  go_enter Tryz.func31, Tryz.ntmps31
  obtain ⟨c0, c1, c2, c3, c4, c5, c6, c7, c8⟩ := nine G.out.v1
  go_wp2_with fail
  refine bodyPost_ret (results_tmp_row rfl _ _ (w.heap.size + 1) 34 (ansC 1 0) (0, 0) _ rfl (heap_alloc2_new _ _ _) Tryz.underlying34 rfl (by kernel_rfl)) rfl ?_
  exact ⟨_, rfl, HA.out.still (below_new2 _ _ _), below_new2 _ _ _⟩

set_option maxRecDepth 100000 in
set_option maxHeartbeats 8000000 in
theorem rr_flags2 (h : Holds w v X) (c : Cl) (hf0 : 0 ≤ c.f) (hf1 : c.f ≤ 63) (hb : 0 < c.f / 2 % 8) : Calls Tryz.prog 31 #[v, c.v] w (GivesH w X 1 0) := by
  have G := Lib.hid (((Bag.new w).add 38 c.cells).add 34 (ansC 0 0))
  rw [World.size_alloc] at G
  have KX := Lib.hid (h.still G.out.bel)
  have HA := Lib.hid h
  have d1 : c.f.tmod 2 = c.f % 2 := Int.tmod_eq_emod_of_nonneg hf0
  have d2 : c.f.tdiv 16 = c.f / 16 := Int.tdiv_eq_ediv_of_nonneg hf0
  have d3 : (c.f / 16).tmod 2 = c.f / 16 % 2 := Int.tmod_eq_emod_of_nonneg (by omega)
  have d4 : c.f.tdiv 32 = c.f / 32 := Int.tdiv_eq_ediv_of_nonneg hf0
  have d5 : (c.f / 32).tmod 2 = c.f / 32 % 2 := Int.tmod_eq_emod_of_nonneg (by omega)
  have d6 : c.f.tdiv 2 = c.f / 2 := Int.tdiv_eq_ediv_of_nonneg hf0
  have d7 : (c.f / 2).tmod 8 = c.f / 2 % 8 := Int.tmod_eq_emod_of_nonneg (by omega)
  obtain ⟨A, cc, rfl⟩ := h.is
  clear h
  generalize hn : X.length = n at *
  clear hn
  obtain ⟨ck, ca, cn, cnw, ctw, cp, cf, cb, co⟩ := c
  unfold Cl.v
  simp only [Cl.cells] at *
  go_enter Tryz.func31, Tryz.ntmps31
  obtain ⟨c0, c1, c2, c3, c4, c5, c6, c7, c8⟩ := nine G.out.v1
  go_wp2_with fail
  refine bodyPost_ret (results_tmp_row rfl _ _ (w.heap.size + 1) 34 (ansC 1 0) (0, 0) _ rfl (heap_alloc2_new _ _ _) Tryz.underlying34 rfl (by kernel_rfl)) rfl ?_
  exact ⟨_, rfl, HA.out.still (below_new2 _ _ _), below_new2 _ _ _⟩

set_option maxRecDepth 100000 in
set_option maxHeartbeats 8000000 in
theorem rr_flags3 (h : Holds w v X) (c : Cl) (hf0 : 0 ≤ c.f) (hf1 : c.f ≤ 63) (hf2 : c.f / 2 % 8 = 0) (k1 : (c.f % 2 == 1) = true) (k2 : (c.f / 16 % 2 == 1) = false) : Calls Tryz.prog 31 #[v, c.v] w (GivesH w X 1 0) := by
  have G := Lib.hid (((Bag.new w).add 38 c.cells).add 34 (ansC 0 0))
  rw [World.size_alloc] at G
  have KX := Lib.hid (h.still G.out.bel)
  have HA := Lib.hid h
  have d1 : c.f.tmod 2 = c.f % 2 := Int.tmod_eq_emod_of_nonneg hf0
  have d2 : c.f.tdiv 16 = c.f / 16 := Int.tdiv_eq_ediv_of_nonneg hf0
  have d3 : (c.f / 16).tmod 2 = c.f / 16 % 2 := Int.tmod_eq_emod_of_nonneg (by omega)
  have d4 : c.f.tdiv 32 = c.f / 32 := Int.tdiv_eq_ediv_of_nonneg hf0
  have d5 : (c.f / 32).tmod 2 = c.f / 32 % 2 := Int.tmod_eq_emod_of_nonneg (by omega)
  have d6 : c.f.tdiv 2 = c.f / 2 := Int.tdiv_eq_ediv_of_nonneg hf0
  have d7 : (c.f / 2).tmod 8 = c.f / 2 % 8 := Int.tmod_eq_emod_of_nonneg (by omega)
  have g1 : ¬ c.f < 0 := by omega
  have g2 : ¬ 63 < c.f := by omega
  have g3 : ¬ 0 < c.f / 2 % 8 := by omega
  clear hf2
  obtain ⟨A, cc, rfl⟩ := h.is
  clear h
  generalize hn : X.length = n at *
  clear hn
  obtain ⟨ck, ca, cn, cnw, ctw, cp, cf, cb, co⟩ := c
  unfold Cl.v
  simp only [Cl.cells] at *
  go_enter Tryz.func31, Tryz.ntmps31
  obtain ⟨c0, c1, c2, c3, c4, c5, c6, c7, c8⟩ := nine G.out.v1
  go_wp2_with fail
  refine bodyPost_ret (results_tmp_row rfl _ _ (w.heap.size + 1) 34 (ansC 1 0) (0, 0) _ rfl (heap_alloc2_new _ _ _) Tryz.underlying34 rfl (by kernel_rfl)) rfl ?_
  exact ⟨_, rfl, HA.out.still (below_new2 _ _ _), below_new2 _ _ _⟩

set_option maxRecDepth 100000 in
set_option maxHeartbeats 8000000 in
theorem rr_flags4 (h : Holds w v X) (c : Cl) (hf0 : 0 ≤ c.f) (hf1 : c.f ≤ 63) (hf2 : c.f / 2 % 8 = 0) (k1 : (c.f % 2 == 1) = false) (k2 : (c.f / 16 % 2 == 1) = false) (k3 : (c.f / 32 % 2 == 1) = true) : Calls Tryz.prog 31 #[v, c.v] w (GivesH w X 1 0) := by
  have G := Lib.hid (((Bag.new w).add 38 c.cells).add 34 (ansC 0 0))
  rw [World.size_alloc] at G
  have KX := Lib.hid (h.still G.out.bel)
  have HA := Lib.hid h
  have d1 : c.f.tmod 2 = c.f % 2 := Int.tmod_eq_emod_of_nonneg hf0
  have d2 : c.f.tdiv 16 = c.f / 16 := Int.tdiv_eq_ediv_of_nonneg hf0
  have d3 : (c.f / 16).tmod 2 = c.f / 16 % 2 := Int.tmod_eq_emod_of_nonneg (by omega)
  have d4 : c.f.tdiv 32 = c.f / 32 := Int.tdiv_eq_ediv_of_nonneg hf0
  have d5 : (c.f / 32).tmod 2 = c.f / 32 % 2 := Int.tmod_eq_emod_of_nonneg (by omega)
  have d6 : c.f.tdiv 2 = c.f / 2 := Int.tdiv_eq_ediv_of_nonneg hf0
  have d7 : (c.f / 2).tmod 8 = c.f / 2 % 8 := Int.tmod_eq_emod_of_nonneg (by omega)
  have g1 : ¬ c.f < 0 := by omega
  have g2 : ¬ 63 < c.f := by omega
  have g3 : ¬ 0 < c.f / 2 % 8 := by omega
  clear hf2
  obtain ⟨A, cc, rfl⟩ := h.is
  clear h
  generalize hn : X.length = n at *
  clear hn
  obtain ⟨ck, ca, cn, cnw, ctw, cp, cf, cb, co⟩ := c
  unfold Cl.v
  simp only [Cl.cells] at *
  go_enter Tryz.func31, Tryz.ntmps31
  obtain ⟨c0, c1, c2, c3, c4, c5, c6, c7, c8⟩ := nine G.out.v1
  go_wp2_with fail
  refine bodyPost_ret (results_tmp_row rfl _ _ (w.heap.size + 1) 34 (ansC 1 0) (0, 0) _ rfl (heap_alloc2_new _ _ _) Tryz.underlying34 rfl (by kernel_rfl)) rfl ?_
  exact ⟨_, rfl, HA.out.still (below_new2 _ _ _), below_new2 _ _ _⟩

set_option maxRecDepth 100000 in
set_option maxHeartbeats 8000000 in
theorem rr_range (h : Holds w v X) (c : Cl) (hf0 : 0 ≤ c.f) (hf1 : c.f ≤ 63) (hf2 : c.f / 2 % 8 = 0) (hc : (c.f / 16 % 2 == 1) = true ∨ ((c.f % 2 == 1) = false ∧ (c.f / 16 % 2 == 1) = false ∧ (c.f / 32 % 2 == 1) = false)) (he : rgE c.a c.n ≠ 0) : Calls Tryz.prog 31 #[v, c.v] w (GivesH w X (rgE c.a c.n) 0) := by
  have G := Lib.hid (((Bag.new w).add 38 c.cells).add 34 (ansC 0 0))
  rw [World.size_alloc] at G
  have KX := Lib.hid (h.still G.out.bel)
  have HA := Lib.hid h
  have CR := Lib.hid (refRange_any c.a c.n)
  have d1 : c.f.tmod 2 = c.f % 2 := Int.tmod_eq_emod_of_nonneg hf0
  have d2 : c.f.tdiv 16 = c.f / 16 := Int.tdiv_eq_ediv_of_nonneg hf0
  have d3 : (c.f / 16).tmod 2 = c.f / 16 % 2 := Int.tmod_eq_emod_of_nonneg (by omega)
  have d4 : c.f.tdiv 32 = c.f / 32 := Int.tdiv_eq_ediv_of_nonneg hf0
  have d5 : (c.f / 32).tmod 2 = c.f / 32 % 2 := Int.tmod_eq_emod_of_nonneg (by omega)
  have d6 : c.f.tdiv 2 = c.f / 2 := Int.tdiv_eq_ediv_of_nonneg hf0
  have d7 : (c.f / 2).tmod 8 = c.f / 2 % 8 := Int.tmod_eq_emod_of_nonneg (by omega)
  have g1 : ¬ c.f < 0 := by omega
  have g2 : ¬ 63 < c.f := by omega
  have g3 : ¬ 0 < c.f / 2 % 8 := by omega
  clear hf2
  generalize rgA c.a c.n = ra at *
  generalize rgB c.a c.n = rb at *
  generalize rgE c.a c.n = re at *
  have he' : (re != 0) = true := by simpa using he
  obtain ⟨A, cc, rfl⟩ := h.is
  clear h
  generalize hn : X.length = n at *
  clear hn
  obtain ⟨ck, ca, cn, cnw, ctw, cp, cf, cb, co⟩ := c
  unfold Cl.v
  simp only [Cl.cells] at *
  rcases hc with k2 | ⟨k1, k2, k3⟩
  all_goals
    go_enter Tryz.func31, Tryz.ntmps31
    obtain ⟨c0, c1, c2, c3, c4, c5, c6, c7, c8⟩ := nine G.out.v1
    go_wp2_with fail
    refine (CR.out _).mono ?_
    rintro e w1 ⟨rfl, hb⟩
    have G := Lib.hid (G.out.still hb)
    have KX := Lib.hid (KX.out.still hb)
    clear hb CR c0 c1 c2 c3 c4 c5 c6 c7 c8
    obtain ⟨⟨x0, x1, x2, x3, x4, x5⟩, ⟨f0, f1, f2, f3, f4, f5⟩⟩ := six_of G.out.v0
    have HB := Lib.hid (fun x0 x1 x2 x3 x4 x5 => G.out.bel.trans ((six_only _ (w.heap.size + 1) x0 x1 x2 x3 x4 x5).below (fun k hk => by omega) G.out.bel.size))
    go_wp2_with fail
    refine bodyPost_ret (results_tmp_row rfl _ _ (w.heap.size + 1) 34 (ansC re 0) (0, 0) _ rfl (six_put G.out.v0 _ _ _ _ _ _) Tryz.underlying34 rfl (by kernel_rfl)) rfl ?_
    exact ⟨_, rfl, HA.out.still (HB.out _ _ _ _ _ _), HB.out _ _ _ _ _ _⟩

set_option maxRecDepth 100000 in
set_option maxHeartbeats 8000000 in
theorem rr_size (h : Holds w v X) (c : Cl) (hf0 : 0 ≤ c.f) (hf1 : c.f ≤ 63) (hf2 : c.f / 2 % 8 = 0) (hc : (c.f / 16 % 2 == 1) = true ∨ ((c.f % 2 == 1) = false ∧ (c.f / 16 % 2 == 1) = false ∧ (c.f / 32 % 2 == 1) = false)) (hr : rgE c.a c.n = 0) (he : szE c.nw ≠ 0) : Calls Tryz.prog 31 #[v, c.v] w (GivesH w X (szE c.nw) 0) := by
  have G := Lib.hid (((Bag.new w).add 38 c.cells).add 34 (ansC 0 0))
  rw [World.size_alloc] at G
  have KX := Lib.hid (h.still G.out.bel)
  have HA := Lib.hid h
  have CR := Lib.hid (refRange_any c.a c.n)
  have CZ := Lib.hid (refSize_any c.nw)
  rw [hr] at CR
  clear hr
  have d1 : c.f.tmod 2 = c.f % 2 := Int.tmod_eq_emod_of_nonneg hf0
  have d2 : c.f.tdiv 16 = c.f / 16 := Int.tdiv_eq_ediv_of_nonneg hf0
  have d3 : (c.f / 16).tmod 2 = c.f / 16 % 2 := Int.tmod_eq_emod_of_nonneg (by omega)
  have d4 : c.f.tdiv 32 = c.f / 32 := Int.tdiv_eq_ediv_of_nonneg hf0
  have d5 : (c.f / 32).tmod 2 = c.f / 32 % 2 := Int.tmod_eq_emod_of_nonneg (by omega)
  have d6 : c.f.tdiv 2 = c.f / 2 := Int.tdiv_eq_ediv_of_nonneg hf0
  have d7 : (c.f / 2).tmod 8 = c.f / 2 % 8 := Int.tmod_eq_emod_of_nonneg (by omega)
  have g1 : ¬ c.f < 0 := by omega
  have g2 : ¬ 63 < c.f := by omega
  have g3 : ¬ 0 < c.f / 2 % 8 := by omega
  clear hf2
  generalize rgA c.a c.n = ra at *
  generalize rgB c.a c.n = rb at *
  generalize szE c.nw = re at *
  generalize szV c.nw = sv at *
  have he' : (re != 0) = true := by simpa using he
  obtain ⟨A, cc, rfl⟩ := h.is
  clear h
  generalize hn : X.length = n at *
  clear hn
  obtain ⟨ck, ca, cn, cnw, ctw, cp, cf, cb, co⟩ := c
  unfold Cl.v
  simp only [Cl.cells] at *
  rcases hc with k2 | ⟨k1, k2, k3⟩
  all_goals
    go_enter Tryz.func31, Tryz.ntmps31
    obtain ⟨c0, c1, c2, c3, c4, c5, c6, c7, c8⟩ := nine G.out.v1
    go_wp2_with fail
    refine (CR.out _).mono ?_
    rintro e w1 ⟨rfl, hb⟩
    have G := Lib.hid (G.out.still hb)
    have KX := Lib.hid (KX.out.still hb)
    clear hb CR c0 c1 c2 c3 c4 c5 c6 c7 c8
    obtain ⟨c0, c1, c2, c3, c4, c5, c6, c7, c8⟩ := nine G.out.v1
    go_wp2_with fail
    refine (CZ.out _).mono ?_
    rintro e w2 ⟨rfl, hb⟩
    have G := Lib.hid (G.out.still hb)
    have KX := Lib.hid (KX.out.still hb)
    clear hb CZ c0 c1 c2 c3 c4 c5 c6 c7 c8
    obtain ⟨⟨x0, x1, x2, x3, x4, x5⟩, ⟨f0, f1, f2, f3, f4, f5⟩⟩ := six_of G.out.v0
    have HB := Lib.hid (fun x0 x1 x2 x3 x4 x5 => G.out.bel.trans ((six_only _ (w.heap.size + 1) x0 x1 x2 x3 x4 x5).below (fun k hk => by omega) G.out.bel.size))
    go_wp2_with fail
    refine bodyPost_ret (results_tmp_row rfl _ _ (w.heap.size + 1) 34 (ansC re 0) (0, 0) _ rfl (six_put G.out.v0 _ _ _ _ _ _) Tryz.underlying34 rfl (by kernel_rfl)) rfl ?_
    exact ⟨_, rfl, HA.out.still (HB.out _ _ _ _ _ _), HB.out _ _ _ _ _ _⟩

set_option maxRecDepth 100000 in
set_option maxHeartbeats 8000000 in
theorem rr_same (h : Holds w v X) (c : Cl) (hf0 : 0 ≤ c.f) (hf1 : c.f ≤ 63) (hf2 : c.f / 2 % 8 = 0) (k2 : (c.f / 16 % 2 == 1) = true) (k3 : (c.f / 32 % 2 == 1) = true) (hr : rgE c.a c.n = 0) (hz : szE c.nw = 0) (he : szV c.nw ≠ rgB c.a c.n - rgA c.a c.n) : Calls Tryz.prog 31 #[v, c.v] w (GivesH w X 1 0) := by
  have G := Lib.hid (((Bag.new w).add 38 c.cells).add 34 (ansC 0 0))
  rw [World.size_alloc] at G
  have KX := Lib.hid (h.still G.out.bel)
  have HA := Lib.hid h
  have CR := Lib.hid (refRange_any c.a c.n)
  have CZ := Lib.hid (refSize_any c.nw)
  have hrg := rg_ok hr
  have hsp := sz_pages hrg.2.1
  have hzp := sz_pages hz
  have hw1 : IntKind.i64.wrap (rgB c.a c.n - rgA c.a c.n) = rgB c.a c.n - rgA c.a c.n := by rw [IntKind.wrap_i64]; omega
  rw [hr] at CR
  rw [hz] at CZ
  clear hr hz hrg hsp hzp
  have d1 : c.f.tmod 2 = c.f % 2 := Int.tmod_eq_emod_of_nonneg hf0
  have d2 : c.f.tdiv 16 = c.f / 16 := Int.tdiv_eq_ediv_of_nonneg hf0
  have d3 : (c.f / 16).tmod 2 = c.f / 16 % 2 := Int.tmod_eq_emod_of_nonneg (by omega)
  have d4 : c.f.tdiv 32 = c.f / 32 := Int.tdiv_eq_ediv_of_nonneg hf0
  have d5 : (c.f / 32).tmod 2 = c.f / 32 % 2 := Int.tmod_eq_emod_of_nonneg (by omega)
  have d6 : c.f.tdiv 2 = c.f / 2 := Int.tdiv_eq_ediv_of_nonneg hf0
  have d7 : (c.f / 2).tmod 8 = c.f / 2 % 8 := Int.tmod_eq_emod_of_nonneg (by omega)
  have g1 : ¬ c.f < 0 := by omega
  have g2 : ¬ 63 < c.f := by omega
  have g3 : ¬ 0 < c.f / 2 % 8 := by omega
  clear hf2
  have he' : (szV c.nw != rgB c.a c.n - rgA c.a c.n) = true := by simpa using he
  clear he
  generalize rgA c.a c.n = ra at *
  generalize rgB c.a c.n = rb at *
  generalize szV c.nw = sv at *
  obtain ⟨A, cc, rfl⟩ := h.is
  clear h
  generalize hn : X.length = n at *
  clear hn
  obtain ⟨ck, ca, cn, cnw, ctw, cp, cf, cb, co⟩ := c
  unfold Cl.v
  simp only [Cl.cells] at *
  go_enter Tryz.func31, Tryz.ntmps31
  obtain ⟨c0, c1, c2, c3, c4, c5, c6, c7, c8⟩ := nine G.out.v1
  go_wp2_with fail
  refine (CR.out _).mono ?_
  rintro e w1 ⟨rfl, hb⟩
  have G := Lib.hid (G.out.still hb)
  have KX := Lib.hid (KX.out.still hb)
  clear hb CR c0 c1 c2 c3 c4 c5 c6 c7 c8
  obtain ⟨c0, c1, c2, c3, c4, c5, c6, c7, c8⟩ := nine G.out.v1
  go_wp2_with fail
  refine (CZ.out _).mono ?_
  rintro e w2 ⟨rfl, hb⟩
  have G := Lib.hid (G.out.still hb)
  have KX := Lib.hid (KX.out.still hb)
  clear hb CZ c0 c1 c2 c3 c4 c5 c6 c7 c8
  obtain ⟨⟨x0, x1, x2, x3, x4, x5⟩, ⟨f0, f1, f2, f3, f4, f5⟩⟩ := six_of G.out.v0
  have HB := Lib.hid (fun x0 x1 x2 x3 x4 x5 => G.out.bel.trans ((six_only _ (w.heap.size + 1) x0 x1 x2 x3 x4 x5).below (fun k hk => by omega) G.out.bel.size))
  go_wp2_with fail
  refine bodyPost_ret (results_tmp_row rfl _ _ (w.heap.size + 1) 34 (ansC 1 0) (0, 0) _ rfl (six_put G.out.v0 _ _ _ _ _ _) Tryz.underlying34 rfl (by kernel_rfl)) rfl ?_
  exact ⟨_, rfl, HA.out.still (HB.out _ _ _ _ _ _), HB.out _ _ _ _ _ _⟩

set_option maxRecDepth 100000 in
set_option maxHeartbeats 8000000 in
theorem rr_none (h : Holds w v X) (c : Cl) (hX : MayL X) (hf0 : 0 ≤ c.f) (hf1 : c.f ≤ 63) (hf2 : c.f / 2 % 8 = 0) (hc : ((c.f / 16 % 2 == 1) = true ∧ (c.f / 32 % 2 == 1) = false) ∨ ((c.f / 16 % 2 == 1) = true ∧ (c.f / 32 % 2 == 1) = true ∧ (szV c.nw != rgB c.a c.n - rgA c.a c.n) = false) ∨ ((c.f % 2 == 1) = false ∧ (c.f / 16 % 2 == 1) = false ∧ (c.f / 32 % 2 == 1) = false)) (hr : rgE c.a c.n = 0) (hz : szE c.nw = 0) (he : whB X (rgA c.a c.n) (rgB c.a c.n) = false) : Calls Tryz.prog 31 #[v, c.v] w (GivesH w X 7 0) := by
  have G := Lib.hid (((Bag.new w).add 38 c.cells).add 34 (ansC 0 0))
  rw [World.size_alloc] at G
  have KX := Lib.hid (h.still G.out.bel)
  have HA := Lib.hid h
  have CR := Lib.hid (refRange_any c.a c.n)
  have CZ := Lib.hid (refSize_any c.nw)
  have C1 : Hid (∀ w' u, Holds w' u X → Calls Tryz.prog 66 #[u, .int .i64 (rgA c.a c.n), .int .i64 (rgB c.a c.n)] w' fun e w'' => e = .returned (.tuple #[.int .i64 (fnA X (rgA c.a c.n)).e, .bool (whB X (rgA c.a c.n) (rgB c.a c.n))]) ∧ Below w'.heap.size w' w'') := Lib.hid (fun w' u h => one_c h hX.1 _ _)
  have hrg := rg_ok hr
  have hsp := sz_pages hrg.2.1
  have hzp := sz_pages hz
  have hw1 : IntKind.i64.wrap (rgB c.a c.n - rgA c.a c.n) = rgB c.a c.n - rgA c.a c.n := by rw [IntKind.wrap_i64]; omega
  rw [hr] at CR
  rw [hz] at CZ
  rw [he] at C1
  clear hr hz hrg hsp hzp he hX
  have d1 : c.f.tmod 2 = c.f % 2 := Int.tmod_eq_emod_of_nonneg hf0
  have d2 : c.f.tdiv 16 = c.f / 16 := Int.tdiv_eq_ediv_of_nonneg hf0
  have d3 : (c.f / 16).tmod 2 = c.f / 16 % 2 := Int.tmod_eq_emod_of_nonneg (by omega)
  have d4 : c.f.tdiv 32 = c.f / 32 := Int.tdiv_eq_ediv_of_nonneg hf0
  have d5 : (c.f / 32).tmod 2 = c.f / 32 % 2 := Int.tmod_eq_emod_of_nonneg (by omega)
  have d6 : c.f.tdiv 2 = c.f / 2 := Int.tdiv_eq_ediv_of_nonneg hf0
  have d7 : (c.f / 2).tmod 8 = c.f / 2 % 8 := Int.tmod_eq_emod_of_nonneg (by omega)
  have g1 : ¬ c.f < 0 := by omega
  have g2 : ¬ 63 < c.f := by omega
  have g3 : ¬ 0 < c.f / 2 % 8 := by omega
  clear hf2
  generalize (fnA X (rgA c.a c.n)).e = en at *
  generalize rgA c.a c.n = ra at *
  generalize rgB c.a c.n = rb at *
  generalize szV c.nw = sv at *
  obtain ⟨A, cc, rfl⟩ := h.is
  clear h
  generalize hn : X.length = n at *
  clear hn
  obtain ⟨ck, ca, cn, cnw, ctw, cp, cf, cb, co⟩ := c
  unfold Cl.v
  simp only [Cl.cells] at *
  rcases hc with ⟨k2, k3⟩ | ⟨k2, k3, k4⟩ | ⟨k1, k2, k3⟩
  all_goals
    go_enter Tryz.func31, Tryz.ntmps31
    obtain ⟨c0, c1, c2, c3, c4, c5, c6, c7, c8⟩ := nine G.out.v1
    go_wp2_with fail
    refine (CR.out _).mono ?_
    rintro e w1 ⟨rfl, hb⟩
    have G := Lib.hid (G.out.still hb)
    have KX := Lib.hid (KX.out.still hb)
    clear hb CR c0 c1 c2 c3 c4 c5 c6 c7 c8
    obtain ⟨c0, c1, c2, c3, c4, c5, c6, c7, c8⟩ := nine G.out.v1
    go_wp2_with fail
    refine (CZ.out _).mono ?_
    rintro e w2 ⟨rfl, hb⟩
    have G := Lib.hid (G.out.still hb)
    have KX := Lib.hid (KX.out.still hb)
    clear hb CZ c0 c1 c2 c3 c4 c5 c6 c7 c8
    go_wp2_with fail
    refine (C1.out _ _ KX.out).mono ?_
    rintro e w3 ⟨rfl, hb⟩
    have G := Lib.hid (G.out.still hb)
    have KX := Lib.hid (KX.out.still hb)
    clear hb C1
    obtain ⟨⟨x0, x1, x2, x3, x4, x5⟩, ⟨f0, f1, f2, f3, f4, f5⟩⟩ := six_of G.out.v0
    have HB := Lib.hid (fun x0 x1 x2 x3 x4 x5 => G.out.bel.trans ((six_only _ (w.heap.size + 1) x0 x1 x2 x3 x4 x5).below (fun k hk => by omega) G.out.bel.size))
    go_wp2_with fail
    refine bodyPost_ret (results_tmp_row rfl _ _ (w.heap.size + 1) 34 (ansC 7 0) (0, 0) _ rfl (six_put G.out.v0 _ _ _ _ _ _) Tryz.underlying34 rfl (by kernel_rfl)) rfl ?_
    exact ⟨_, rfl, HA.out.still (HB.out _ _ _ _ _ _), HB.out _ _ _ _ _ _⟩

end
end Go.Proofs.YtholpgcghpikgaaGreat
