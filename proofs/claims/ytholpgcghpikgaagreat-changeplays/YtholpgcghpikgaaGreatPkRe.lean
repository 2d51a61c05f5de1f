/-
  Texts of our own, one behind the other (RmRefS): what the laws' proofs rest on; each says at its head what it holds. No conditions.
-/
import Derived.Test.YtholpgcghpikgaaGreatPkQg
import Derived.Test.YtholpgcghpikgaaGreatPkB
/-
  Layer 12: the reference's Remap: a contract: where it goes elsewhere, and the old pages stay.
-/
namespace Go.Proofs.YtholpgcghpikgaaGreat
open Go.ChangeShapes Go.WideShapes Go.ChangeAt Go.RowKit Go.Shelf
set_option linter.unusedVariables false
attribute [local go_sem ↓] Go.wp_at_zero Go.wp_at_succ

section
variable {w : World} {v : Value} {X : List Ar}
set_option maxRecDepth 100000 in
set_option maxHeartbeats 8000000 in
theorem rw_stays_no (h : Holds w v X) (c : Cl) (hX : MayL X) (hf0 : 0 ≤ c.f) (hf1 : c.f ≤ 63) (hf2 : c.f / 2 % 8 = 0) (hr : rgE c.a c.n = 0) (hz : szE c.nw = 0) (hwh : whB X (rgA c.a c.n) (rgB c.a c.n) = true) {m0 m1 : Nat} (hm0 : rgA c.a c.n = 4096 * (m0 : Int)) (hm1 : rgB c.a c.n = 4096 * (m1 : Int)) {x : At} (hs : spK X X.length m0 = some x) (ho : 0 ≤ x.off ∧ x.off ≤ 1099511627776) (k1 : (c.f % 2 == 1) = false) (k2 : (c.f / 16 % 2 == 1) = true) (k3 : (c.f / 32 % 2 == 1) = true) (k4 : (szV c.nw != rgB c.a c.n - rgA c.a c.n) = false) {at1 : Int} (hbest : Best X 65536 2097152 (szV c.nw) true at1) (hat : at1 = -1) : Calls Tryz.prog 31 #[v, c.v] w (GivesH w X 5 0) := by
  have G := Lib.hid (((Bag.new w).add 38 c.cells).add 34 (ansC 0 0))
  rw [World.size_alloc] at G
  have KX := Lib.hid (h.still G.out.bel)
  have HA := Lib.hid h
  have hat2 : at1 < 0 := by omega
  have CR := Lib.hid (refRange_any c.a c.n)
  have CZ := Lib.hid (refSize_any c.nw)
  have C1 : Hid (∀ w' u, Holds w' u X → Calls Tryz.prog 66 #[u, .int .i64 (rgA c.a c.n), .int .i64 (rgB c.a c.n)] w' fun e w'' => e = .returned (.tuple #[.int .i64 (fnA X (rgA c.a c.n)).e, .bool (whB X (rgA c.a c.n) (rgB c.a c.n))]) ∧ Below w'.heap.size w' w'') := Lib.hid (fun w' u h => one_c h hX.1 _ _)
  have CO : Hid (∀ w' u, Holds w' u X → Calls Tryz.prog 63 #[u] w' fun e w'' => e = .returned (.agg (spl (spK X X.length) 512).toArray) ∧ Below w'.heap.size w' w'') := Lib.hid (fun w' u h => by
    obtain ⟨A, c, rfl, hc, hA⟩ := h
    exact ofL_any X hX.1 A c w' hA)
  have hrg := rg_ok hr
  have hsp := sz_pages hrg.2.1
  have hzp := sz_pages hz
  have hw1 : IntKind.i64.wrap (rgB c.a c.n - rgA c.a c.n) = rgB c.a c.n - rgA c.a c.n := by rw [IntKind.wrap_i64]; omega
  have hw2 : IntKind.i64.wrap (x.off + szV c.nw) = x.off + szV c.nw := by rw [IntKind.wrap_i64]; omega
  have q0 : (rgA c.a c.n).tdiv 4096 = (m0 : Int) := by rw [hm0, tdiv_up (by omega)]; omega
  have q1 : (rgA c.a c.n) / 4096 = (m0 : Int) := by omega
  have zs : (0 : Int) ≤ rgA c.a c.n := by omega
  have hz0 : (0 : Int) ≤ (m0 : Int) := by omega
  have hz1 : (m0 : Int) < 512 := by omega
  have CC : Hid (∀ w' u, Holds w' u X → Calls Tryz.prog 69 #[u, .int .i64 65536, .int .i64 2097152, .int .i64 (szV c.nw), .bool true] w' fun e w'' => e = .returned (.int .i64 at1) ∧ Below w'.heap.size w' w'') := Lib.hid (fun w' u h => choose_c h hX.1 65536 2097152 (szV c.nw) true hbest)
  clear hbest
  rw [hr] at CR
  rw [hz] at CZ
  rw [hwh] at C1
  clear hr hz hrg hsp hzp hwh hX hm0 hm1 
  have d1 : c.f.tmod 2 = c.f % 2 := Int.tmod_eq_emod_of_nonneg hf0
  have d2 : c.f.tdiv 16 = c.f / 16 := Int.tdiv_eq_ediv_of_nonneg hf0
  have d3 : (c.f / 16).tmod 2 = c.f / 16 % 2 := Int.tmod_eq_emod_of_nonneg (by omega)
  have d4 : c.f.tdiv 32 = c.f / 32 := Int.tdiv_eq_ediv_of_nonneg hf0
  have d5 : (c.f / 32).tmod 2 = c.f / 32 % 2 := Int.tmod_eq_emod_of_nonneg (by omega)
  have d6 : c.f.tdiv 2 = c.f / 2 := Int.tdiv_eq_ediv_of_nonneg hf0
  have d7 : (c.f / 2).tmod 8 = c.f / 2 % 8 := Int.tmod_eq_emod_of_nonneg (by omega)
  have g1 : ¬ c.f < 0 := by omega
  have g2 : ¬ 63 < c.f := by omega
  have g3 : ¬ 0 < c.f / 2 % 8 := by omega
  clear hf2
  have HS := Lib.hid hs
  clear hs
  generalize spK X X.length = s at *
  generalize (fnA X (rgA c.a c.n)).e = en at *
  generalize rgA c.a c.n = ra at *
  generalize rgB c.a c.n = rb at *
  generalize szV c.nw = sv at *
  obtain ⟨x0, x1, x2, x3⟩ := x
  simp only at *
  obtain ⟨A, cc, rfl⟩ := h.is
  clear h
  generalize hn : X.length = n at *
  clear hn
  obtain ⟨ck, ca, cn, cnw, ctw, cp, cf, cb, co⟩ := c
  unfold Cl.v
  simp only [Cl.cells] at *
  go_enter Tryz.func31, Tryz.ntmps31
  obtain ⟨c0, c1, c2, c3, c4, c5, c6, c7, c8⟩ := nine G.out.v1
  go_wp2_with fail
  refine (CR.out _).mono ?_
  rintro e w1 ⟨rfl, hb⟩
  have G := Lib.hid (G.out.still hb)
  have KX := Lib.hid (KX.out.still hb)
  clear hb CR c0 c1 c2 c3 c4 c5 c6 c7 c8
  obtain ⟨c0, c1, c2, c3, c4, c5, c6, c7, c8⟩ := nine G.out.v1
  go_wp2_with fail
  refine (CZ.out _).mono ?_
  rintro e w2 ⟨rfl, hb⟩
  have G := Lib.hid (G.out.still hb)
  have KX := Lib.hid (KX.out.still hb)
  clear hb CZ c0 c1 c2 c3 c4 c5 c6 c7 c8
  go_wp2_with fail
  refine (C1.out _ _ KX.out).mono ?_
  rintro e w3 ⟨rfl, hb⟩
  have G := Lib.hid (G.out.still hb)
  have KX := Lib.hid (KX.out.still hb)
  clear hb C1
  go_wp2_with fail
  refine (CO.out _ _ KX.out).mono ?_
  rintro e w4 ⟨rfl, hb⟩
  have G := Lib.hid (G.out.still hb)
  have KX := Lib.hid (KX.out.still hb)
  clear hb CO
  have HC := Lib.hid (ChAt.new (Below.refl w4.heap.size w4) s)
  have TH : Hid ((w4.alloc (.cells Tryz.zeroCells97 97)).there w4.heap.size 0 (spl s 512).toArray.size) := Lib.hid (SpIn.there (s := fun _ => none) (by rw [zero_spc]; exact Whole.new _ _ _))
  have KX := Lib.hid (KX.out.still HC.out.bel)
  have G := Lib.hid ((G.out.still HC.out.bel).join HC.out.s)
  clear HC
  go_upto_region 17 with (refine wpList_store_mid rfl 97 (.tmp 17) (.tmp 108) (by rfl) w4.heap.size 0 (spl s 512).toArray (by rfl) (by rfl) TH.out (space_size' _) (spl_one _ _) ?_)
  generalize hq : w4.heap.size = q at *
  clear TH hq
  generalize World.setCells _ _ _ _ = W1 at *
  obtain ⟨e0, e1, e2, e3, e4⟩ := SpIn.some (G.out.v0) (p := m0) (by omega) HS.out
  simp only at e1 e2 e3 e4
  clear HS
  have BN := Lib.hid (below_new W1 (.cells #[.int .i64 x0, .bool x1, .int .i64 x2, .int .i64 x3] 32))
  have G := Lib.hid (G.out.add 32 #[.int .i64 x0, .bool x1, .int .i64 x2, .int .i64 x3])
  have KX := Lib.hid (KX.out.still BN.out)
  clear BN
  go_upto_region 18 with (fail)
  generalize hw2 : World.alloc W1 _ = W2 at *
  clear hw2 e0 e1 e2 e3 e4
  generalize W1.heap.size = qa at *
  obtain ⟨e0, e1, e2, e3⟩ := row4 (G.out.v0)
  cases hb : (x2 != 0)
  all_goals
    go_wp2_with fail
    refine (CC.out _ _ KX.out).mono ?_
    rintro e w6 ⟨rfl, hb'⟩
    have G := Lib.hid (G.out.still hb')
    have KX := Lib.hid (KX.out.still hb')
    clear hb' CC
    obtain ⟨⟨x0, x1, x2, x3, x4, x5⟩, ⟨f0, f1, f2, f3, f4, f5⟩⟩ := six_of G.out.v2
    have HB := Lib.hid (fun x0 x1 x2 x3 x4 x5 => G.out.bel.trans ((six_only _ (w.heap.size + 1) x0 x1 x2 x3 x4 x5).below (fun k hk => by omega) G.out.bel.size))
    go_wp2_with fail
    refine bodyPost_ret (results_tmp_row rfl _ _ (w.heap.size + 1) 34 (ansC 5 0) (0, 0) _ rfl (six_put G.out.v2 _ _ _ _ _ _) Tryz.underlying34 rfl (by kernel_rfl)) rfl ?_
    exact ⟨_, rfl, HA.out.still (HB.out _ _ _ _ _ _), HB.out _ _ _ _ _ _⟩

set_option maxRecDepth 100000 in
set_option maxHeartbeats 8000000 in
theorem rw_stays_ok (h : Holds w v X) (c : Cl) (hX : MayL X) (hf0 : 0 ≤ c.f) (hf1 : c.f ≤ 63) (hf2 : c.f / 2 % 8 = 0) (hr : rgE c.a c.n = 0) (hz : szE c.nw = 0) (hwh : whB X (rgA c.a c.n) (rgB c.a c.n) = true) {m0 m1 : Nat} (hm0 : rgA c.a c.n = 4096 * (m0 : Int)) (hm1 : rgB c.a c.n = 4096 * (m1 : Int)) {x : At} (hs : spK X X.length m0 = some x) (ho : 0 ≤ x.off ∧ x.off ≤ 1099511627776) (k1 : (c.f % 2 == 1) = false) (k2 : (c.f / 16 % 2 == 1) = true) (k3 : (c.f / 32 % 2 == 1) = true) (k4 : (szV c.nw != rgB c.a c.n - rgA c.a c.n) = false) {at1 : Int} (hbest : Best X 65536 2097152 (szV c.nw) true at1) (hat : 65536 ≤ at1) {Z : List Ar} {ae ax : Int} (hM : ∀ w' u, Holds w' u X → Calls Tryz.prog 67 #[u, .int .i64 (rgA c.a c.n), .int .i64 (rgB c.a c.n), .int .i64 at1, .int .i64 (szV c.nw), .bool true] w' (GivesK w' u X Z ae ax)) : Calls Tryz.prog 31 #[v, c.v] w (GivesH w Z ae ax) := by
  have G := Lib.hid (((Bag.new w).add 38 c.cells).add 34 (ansC 0 0))
  rw [World.size_alloc] at G
  have KX := Lib.hid (h.still G.out.bel)
  have HA := Lib.hid h
  have CM : Hid (∀ w' u, Holds w' u X → Calls Tryz.prog 67 #[u, .int .i64 (rgA c.a c.n), .int .i64 (rgB c.a c.n), .int .i64 at1, .int .i64 (szV c.nw), .bool true] w' fun e w'' => ∃ v', e = .returned (.tuple #[v', .agg #[.int .i64 ae, .int .i64 ax, .int .i64 0, .bool false, .int .i64 0, .int .i64 0]]) ∧ ((v' = u ∧ Z = X) ∨ Mine w'.heap.size w'' v' Z) ∧ Below w'.heap.size w' w'') := Lib.hid hM
  clear hM
  have hat2 : ¬ at1 < 0 := by omega
  have CR := Lib.hid (refRange_any c.a c.n)
  have CZ := Lib.hid (refSize_any c.nw)
  have C1 : Hid (∀ w' u, Holds w' u X → Calls Tryz.prog 66 #[u, .int .i64 (rgA c.a c.n), .int .i64 (rgB c.a c.n)] w' fun e w'' => e = .returned (.tuple #[.int .i64 (fnA X (rgA c.a c.n)).e, .bool (whB X (rgA c.a c.n) (rgB c.a c.n))]) ∧ Below w'.heap.size w' w'') := Lib.hid (fun w' u h => one_c h hX.1 _ _)
  have CO : Hid (∀ w' u, Holds w' u X → Calls Tryz.prog 63 #[u] w' fun e w'' => e = .returned (.agg (spl (spK X X.length) 512).toArray) ∧ Below w'.heap.size w' w'') := Lib.hid (fun w' u h => by
    obtain ⟨A, c, rfl, hc, hA⟩ := h
    exact ofL_any X hX.1 A c w' hA)
  have hrg := rg_ok hr
  have hsp := sz_pages hrg.2.1
  have hzp := sz_pages hz
  have hw1 : IntKind.i64.wrap (rgB c.a c.n - rgA c.a c.n) = rgB c.a c.n - rgA c.a c.n := by rw [IntKind.wrap_i64]; omega
  have hw2 : IntKind.i64.wrap (x.off + szV c.nw) = x.off + szV c.nw := by rw [IntKind.wrap_i64]; omega
  have q0 : (rgA c.a c.n).tdiv 4096 = (m0 : Int) := by rw [hm0, tdiv_up (by omega)]; omega
  have q1 : (rgA c.a c.n) / 4096 = (m0 : Int) := by omega
  have zs : (0 : Int) ≤ rgA c.a c.n := by omega
  have hz0 : (0 : Int) ≤ (m0 : Int) := by omega
  have hz1 : (m0 : Int) < 512 := by omega
  have CC : Hid (∀ w' u, Holds w' u X → Calls Tryz.prog 69 #[u, .int .i64 65536, .int .i64 2097152, .int .i64 (szV c.nw), .bool true] w' fun e w'' => e = .returned (.int .i64 at1) ∧ Below w'.heap.size w' w'') := Lib.hid (fun w' u h => choose_c h hX.1 65536 2097152 (szV c.nw) true hbest)
  clear hbest
  rw [hr] at CR
  rw [hz] at CZ
  rw [hwh] at C1
  clear hr hz hrg hsp hzp hwh hX hm0 hm1 
  have d1 : c.f.tmod 2 = c.f % 2 := Int.tmod_eq_emod_of_nonneg hf0
  have d2 : c.f.tdiv 16 = c.f / 16 := Int.tdiv_eq_ediv_of_nonneg hf0
  have d3 : (c.f / 16).tmod 2 = c.f / 16 % 2 := Int.tmod_eq_emod_of_nonneg (by omega)
  have d4 : c.f.tdiv 32 = c.f / 32 := Int.tdiv_eq_ediv_of_nonneg hf0
  have d5 : (c.f / 32).tmod 2 = c.f / 32 % 2 := Int.tmod_eq_emod_of_nonneg (by omega)
  have d6 : c.f.tdiv 2 = c.f / 2 := Int.tdiv_eq_ediv_of_nonneg hf0
  have d7 : (c.f / 2).tmod 8 = c.f / 2 % 8 := Int.tmod_eq_emod_of_nonneg (by omega)
  have g1 : ¬ c.f < 0 := by omega
  have g2 : ¬ 63 < c.f := by omega
  have g3 : ¬ 0 < c.f / 2 % 8 := by omega
  clear hf2
  have HS := Lib.hid hs
  clear hs
  generalize spK X X.length = s at *
  generalize (fnA X (rgA c.a c.n)).e = en at *
  generalize rgA c.a c.n = ra at *
  generalize rgB c.a c.n = rb at *
  generalize szV c.nw = sv at *
  obtain ⟨x0, x1, x2, x3⟩ := x
  simp only at *
  obtain ⟨A, cc, rfl⟩ := h.is
  clear h
  generalize hn : X.length = n at *
  clear hn
  obtain ⟨ck, ca, cn, cnw, ctw, cp, cf, cb, co⟩ := c
  unfold Cl.v
  simp only [Cl.cells] at *
  go_enter Tryz.func31, Tryz.ntmps31
  obtain ⟨c0, c1, c2, c3, c4, c5, c6, c7, c8⟩ := nine G.out.v1
  go_wp2_with fail
  refine (CR.out _).mono ?_
  rintro e w1 ⟨rfl, hb⟩
  have G := Lib.hid (G.out.still hb)
  have KX := Lib.hid (KX.out.still hb)
  clear hb CR c0 c1 c2 c3 c4 c5 c6 c7 c8
  obtain ⟨c0, c1, c2, c3, c4, c5, c6, c7, c8⟩ := nine G.out.v1
  go_wp2_with fail
  refine (CZ.out _).mono ?_
  rintro e w2 ⟨rfl, hb⟩
  have G := Lib.hid (G.out.still hb)
  have KX := Lib.hid (KX.out.still hb)
  clear hb CZ c0 c1 c2 c3 c4 c5 c6 c7 c8
  go_wp2_with fail
  refine (C1.out _ _ KX.out).mono ?_
  rintro e w3 ⟨rfl, hb⟩
  have G := Lib.hid (G.out.still hb)
  have KX := Lib.hid (KX.out.still hb)
  clear hb C1
  go_wp2_with fail
  refine (CO.out _ _ KX.out).mono ?_
  rintro e w4 ⟨rfl, hb⟩
  have G := Lib.hid (G.out.still hb)
  have KX := Lib.hid (KX.out.still hb)
  clear hb CO
  have HC := Lib.hid (ChAt.new (Below.refl w4.heap.size w4) s)
  have TH : Hid ((w4.alloc (.cells Tryz.zeroCells97 97)).there w4.heap.size 0 (spl s 512).toArray.size) := Lib.hid (SpIn.there (s := fun _ => none) (by rw [zero_spc]; exact Whole.new _ _ _))
  have KX := Lib.hid (KX.out.still HC.out.bel)
  have G := Lib.hid ((G.out.still HC.out.bel).join HC.out.s)
  clear HC
  go_upto_region 17 with (refine wpList_store_mid rfl 97 (.tmp 17) (.tmp 108) (by rfl) w4.heap.size 0 (spl s 512).toArray (by rfl) (by rfl) TH.out (space_size' _) (spl_one _ _) ?_)
  generalize hq : w4.heap.size = q at *
  clear TH hq
  generalize World.setCells _ _ _ _ = W1 at *
  obtain ⟨e0, e1, e2, e3, e4⟩ := SpIn.some (G.out.v0) (p := m0) (by omega) HS.out
  simp only at e1 e2 e3 e4
  clear HS
  have BN := Lib.hid (below_new W1 (.cells #[.int .i64 x0, .bool x1, .int .i64 x2, .int .i64 x3] 32))
  have G := Lib.hid (G.out.add 32 #[.int .i64 x0, .bool x1, .int .i64 x2, .int .i64 x3])
  have KX := Lib.hid (KX.out.still BN.out)
  clear BN
  go_upto_region 18 with (fail)
  generalize hw2 : World.alloc W1 _ = W2 at *
  clear hw2 e0 e1 e2 e3 e4
  generalize W1.heap.size = qa at *
  obtain ⟨e0, e1, e2, e3⟩ := row4 (G.out.v0)
  cases hb : (x2 != 0)
  all_goals
    go_wp2_with fail
    refine (CC.out _ _ KX.out).mono ?_
    rintro e w6 ⟨rfl, hb'⟩
    have G := Lib.hid (G.out.still hb')
    have KX := Lib.hid (KX.out.still hb')
    clear hb' CC
    go_wp2_with fail
    refine (CM.out _ _ KX.out).mono ?_
    rintro e wk ⟨vk, rfl, hh, hb'⟩
    have SZ := Lib.hid G.out.bel.size
    have G := Lib.hid (G.out.still hb')
    clear hb' CM KX
    have HH := Lib.hid hh
    clear hh
    obtain ⟨⟨x0, x1, x2, x3, x4, x5⟩, ⟨f0, f1, f2, f3, f4, f5⟩⟩ := six_of (G.out.v2)
    go_wp2_with fail
    refine bodyPost_ret (results_tmp_row rfl _ _ (w.heap.size + 1) 34 (ansC ae ax) (0, 0) _ rfl (six_put (G.out.v2) _ _ _ _ _ _) Tryz.underlying34 rfl (by kernel_rfl)) rfl ?_
    have HB := G.out.bel.trans ((six_only wk (w.heap.size + 1) (.int .i64 ae) (.int .i64 ax) (.int .i64 0) (.bool false) (.int .i64 0) (.int .i64 0)).below (fun k hk => by omega) G.out.bel.size)
    refine ⟨vk, rfl, ?_, HB⟩
    rcases HH.out with ⟨rfl, rfl⟩ | hm
    · exact HA.out.still HB
    · exact (mine_far (hm.base SZ.out) (G.out.v2) _ _ _ _ _ _).holds

end
end Go.Proofs.YtholpgcghpikgaaGreat
