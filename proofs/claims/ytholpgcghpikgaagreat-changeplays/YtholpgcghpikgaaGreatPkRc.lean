/-
  Texts of our own, one behind the other (RmRefY): what the laws' proofs rest on; each says at its head what it holds. No conditions.
-/
import Derived.Test.YtholpgcghpikgaaGreatPkQg
import Derived.Test.YtholpgcghpikgaaGreatPkB
/-
  Layer 12: the reference's Remap: a contract: where it stays.
-/
namespace Go.Proofs.YtholpgcghpikgaaGreat
open Go.ChangeShapes Go.WideShapes Go.ChangeAt Go.RowKit Go.Shelf
set_option linter.unusedVariables false
attribute [local go_sem ↓] Go.wp_at_zero Go.wp_at_succ

theorem wpList_want_mid {P : Program} {ops : Array Oper} {rest : List Oper} {op : Oper} {a : Act} {w : World} {Q : Exit → Act → World → Prop} (ty : TypeId) (x : Operand) (ho : op.op = .load ty x) (hg : Region.wanted op (yielded ops a.tmps) = true)
    (b o : Nat) (hx : a.eval x = .pointer (some ⟨b, o, none⟩)) (cs : List Value) (d : TypeDesc) (hc : w.rangeAt b o cs)
    (hu : P.underlying ty = some d) (hd : d.isRow = true) (hi : (P.info? ty).map (·.size) = some cs.length)
    (h : wpList P ops Q rest (a.put op.dst (.agg cs.toArray)) w) : wpList P ops Q (op :: rest) a w :=
  wpList_step fun K hK => by rw [if_pos hg]; exact wp_load_mid ty x ho b o hx cs d hc hu hd hi (hK _ _ h)
section
variable {w : World} {v : Value} {X : List Ar}
set_option maxRecDepth 100000 in
set_option maxHeartbeats 8000000 in
theorem rw_shrunk (h : Holds w v X) (c : Cl) (hX : MayL X) (hf0 : 0 ≤ c.f) (hf1 : c.f ≤ 63) (hf2 : c.f / 2 % 8 = 0) (hr : rgE c.a c.n = 0) (hz : szE c.nw = 0) (hwh : whB X (rgA c.a c.n) (rgB c.a c.n) = true) {m0 m1 : Nat} (hm0 : rgA c.a c.n = 4096 * (m0 : Int)) (hm1 : rgB c.a c.n = 4096 * (m1 : Int)) {x : At} (hs : spK X X.length m0 = some x) (ho : 0 ≤ x.off ∧ x.off ≤ 1099511627776) {mb : Bool} (k1 : (c.f % 2 == 1) = false) (k2 : (c.f / 16 % 2 == 1) = mb) (k3 : (c.f / 32 % 2 == 1) = false) (hle : szV c.nw ≤ rgB c.a c.n - rgA c.a c.n) {m2 : Nat} (hm2 : rgA c.a c.n + szV c.nw = 4096 * (m2 : Int)) {Y Z : List Ar} {ae ax : Int} (hg : GoodS (cutTo (spK X X.length) m2 m1)) (hY : listTo (cutTo (spK X X.length) m2 m1) 512 = Y) (hZ : (24 < Y.length ∧ Z = X ∧ ae = 9 ∧ ax = 0) ∨ (Y.length ≤ 24 ∧ Z = Y ∧ ae = 0 ∧ ax = rgA c.a c.n)) : Calls Tryz.prog 31 #[v, c.v] w (GivesH w Z ae ax) := by
  have G := Lib.hid (((Bag.new w).add 38 c.cells).add 34 (ansC 0 0))
  rw [World.size_alloc] at G
  have KX := Lib.hid (h.still G.out.bel)
  have HA := Lib.hid h
  have CK : Hid (∀ w' u, Holds w' u X → Calls Tryz.prog 61 #[u, .agg (spc (cutTo (spK X X.length) m2 m1)), .int .i64 (rgA c.a c.n)] w' fun e w'' => ∃ v', e = .returned (.tuple #[v', .agg #[.int .i64 ae, .int .i64 ax, .int .i64 0, .bool false, .int .i64 0, .int .i64 0]]) ∧ ((v' = u ∧ Z = X) ∨ Mine w'.heap.size w'' v' Z) ∧ Below w'.heap.size w' w'') := Lib.hid (fun w' u h => refKept_c h _ hg hY _ hZ)
  clear hg hY hZ
  have CR := Lib.hid (refRange_any c.a c.n)
  have CZ := Lib.hid (refSize_any c.nw)
  have C1 : Hid (∀ w' u, Holds w' u X → Calls Tryz.prog 66 #[u, .int .i64 (rgA c.a c.n), .int .i64 (rgB c.a c.n)] w' fun e w'' => e = .returned (.tuple #[.int .i64 (fnA X (rgA c.a c.n)).e, .bool (whB X (rgA c.a c.n) (rgB c.a c.n))]) ∧ Below w'.heap.size w' w'') := Lib.hid (fun w' u h => one_c h hX.1 _ _)
  have CO : Hid (∀ w' u, Holds w' u X → Calls Tryz.prog 63 #[u] w' fun e w'' => e = .returned (.agg (spl (spK X X.length) 512).toArray) ∧ Below w'.heap.size w' w'') := Lib.hid (fun w' u h => by
    obtain ⟨A, c, rfl, hc, hA⟩ := h
    exact ofL_any X hX.1 A c w' hA)
  have hrg := rg_ok hr
  have hsp := sz_pages hrg.2.1
  have hzp := sz_pages hz
  have hw1 : IntKind.i64.wrap (rgB c.a c.n - rgA c.a c.n) = rgB c.a c.n - rgA c.a c.n := by rw [IntKind.wrap_i64]; omega
  have hw2 : IntKind.i64.wrap (x.off + szV c.nw) = x.off + szV c.nw := by rw [IntKind.wrap_i64]; omega
  have q0 : (rgA c.a c.n).tdiv 4096 = (m0 : Int) := by rw [hm0, tdiv_up (by omega)]; omega
  have q1 : (rgA c.a c.n) / 4096 = (m0 : Int) := by omega
  have zs : (0 : Int) ≤ rgA c.a c.n := by omega
  have hz0 : (0 : Int) ≤ (m0 : Int) := by omega
  have hz1 : (m0 : Int) < 512 := by omega
  have hw3 : IntKind.i64.wrap (rgA c.a c.n + szV c.nw) = rgA c.a c.n + szV c.nw := by rw [IntKind.wrap_i64]; omega
  have CW : Hid (∀ w', Calls Tryz.prog 65 #[.agg (spl (spK X X.length) 512).toArray, .int .i64 (rgA c.a c.n + szV c.nw), .int .i64 (rgB c.a c.n)] w' fun e w'' => e = .returned (.agg (spc (cutTo (spK X X.length) m2 m1))) ∧ Below w'.heap.size w' w'') := Lib.hid (fun w' => by
    rw [hm2, hm1]
    exact without_any _ m2 m1 (by omega) (by omega) w')
  generalize spc (cutTo (spK X X.length) m2 m1) = s3 at *
  rw [hr] at CR
  rw [hz] at CZ
  rw [hwh] at C1
  clear hr hz hrg hsp hzp hwh hX hm0 hm1 hm2
  have d1 : c.f.tmod 2 = c.f % 2 := Int.tmod_eq_emod_of_nonneg hf0
  have d2 : c.f.tdiv 16 = c.f / 16 := Int.tdiv_eq_ediv_of_nonneg hf0
  have d3 : (c.f / 16).tmod 2 = c.f / 16 % 2 := Int.tmod_eq_emod_of_nonneg (by omega)
  have d4 : c.f.tdiv 32 = c.f / 32 := Int.tdiv_eq_ediv_of_nonneg hf0
  have d5 : (c.f / 32).tmod 2 = c.f / 32 % 2 := Int.tmod_eq_emod_of_nonneg (by omega)
  have d6 : c.f.tdiv 2 = c.f / 2 := Int.tdiv_eq_ediv_of_nonneg hf0
  have d7 : (c.f / 2).tmod 8 = c.f / 2 % 8 := Int.tmod_eq_emod_of_nonneg (by omega)
  have g1 : ¬ c.f < 0 := by omega
  have g2 : ¬ 63 < c.f := by omega
  have g3 : ¬ 0 < c.f / 2 % 8 := by omega
  clear hf2
  have HS := Lib.hid hs
  clear hs
  generalize spK X X.length = s at *
  generalize (fnA X (rgA c.a c.n)).e = en at *
  generalize rgA c.a c.n = ra at *
  generalize rgB c.a c.n = rb at *
  generalize szV c.nw = sv at *
  obtain ⟨x0, x1, x2, x3⟩ := x
  simp only at *
  obtain ⟨A, cc, rfl⟩ := h.is
  clear h
  generalize hn : X.length = n at *
  clear hn
  obtain ⟨ck, ca, cn, cnw, ctw, cp, cf, cb, co⟩ := c
  unfold Cl.v
  simp only [Cl.cells] at *
  cases mb
  all_goals
    go_enter Tryz.func31, Tryz.ntmps31
    obtain ⟨c0, c1, c2, c3, c4, c5, c6, c7, c8⟩ := nine G.out.v1
    go_wp2_with fail
    refine (CR.out _).mono ?_
    rintro e w1 ⟨rfl, hb⟩
    have G := Lib.hid (G.out.still hb)
    have KX := Lib.hid (KX.out.still hb)
    clear hb CR c0 c1 c2 c3 c4 c5 c6 c7 c8
    obtain ⟨c0, c1, c2, c3, c4, c5, c6, c7, c8⟩ := nine G.out.v1
    go_wp2_with fail
    refine (CZ.out _).mono ?_
    rintro e w2 ⟨rfl, hb⟩
    have G := Lib.hid (G.out.still hb)
    have KX := Lib.hid (KX.out.still hb)
    clear hb CZ c0 c1 c2 c3 c4 c5 c6 c7 c8
    go_wp2_with fail
    refine (C1.out _ _ KX.out).mono ?_
    rintro e w3 ⟨rfl, hb⟩
    have G := Lib.hid (G.out.still hb)
    have KX := Lib.hid (KX.out.still hb)
    clear hb C1
    go_wp2_with fail
    refine (CO.out _ _ KX.out).mono ?_
    rintro e w4 ⟨rfl, hb⟩
    have G := Lib.hid (G.out.still hb)
    have KX := Lib.hid (KX.out.still hb)
    clear hb CO
    have HC := Lib.hid (ChAt.new (Below.refl w4.heap.size w4) s)
    have TH : Hid ((w4.alloc (.cells Tryz.zeroCells97 97)).there w4.heap.size 0 (spl s 512).toArray.size) := Lib.hid (SpIn.there (s := fun _ => none) (by rw [zero_spc]; exact Whole.new _ _ _))
    have KX := Lib.hid (KX.out.still HC.out.bel)
    have G := Lib.hid ((G.out.still HC.out.bel).join HC.out.s)
    clear HC
    go_upto_region 17 with (refine wpList_store_mid rfl 97 (.tmp 17) (.tmp 108) (by rfl) w4.heap.size 0 (spl s 512).toArray (by rfl) (by rfl) TH.out (space_size' _) (spl_one _ _) ?_)
    generalize hq : w4.heap.size = q at *
    clear TH hq
    generalize World.setCells _ _ _ _ = W1 at *
    obtain ⟨e0, e1, e2, e3, e4⟩ := SpIn.some (G.out.v0) (p := m0) (by omega) HS.out
    simp only at e1 e2 e3 e4
    clear HS
    have BN := Lib.hid (below_new W1 (.cells #[.int .i64 x0, .bool x1, .int .i64 x2, .int .i64 x3] 32))
    have G := Lib.hid (G.out.add 32 #[.int .i64 x0, .bool x1, .int .i64 x2, .int .i64 x3])
    have KX := Lib.hid (KX.out.still BN.out)
    clear BN
    go_upto_region 18 with (fail)
    generalize hw2 : World.alloc W1 _ = W2 at *
    clear hw2 e0 e1 e2 e3 e4
    generalize W1.heap.size = qa at *
    obtain ⟨e0, e1, e2, e3⟩ := row4 (G.out.v0)
    cases hb : (x2 != 0)
    all_goals
      go_wp2_with (refine wpList_load_mid rfl 97 (.tmp 17) (by rfl) q 0 (by rfl) (spl s 512) _ (SpIn.range (G.out.v1)) Tryz.underlying97 rfl (space_size _) ?_)
      refine (CW.out _).mono ?_
      rintro e w5 ⟨rfl, hb'⟩
      have G := Lib.hid (G.out.still hb')
      have KX := Lib.hid (KX.out.still hb')
      clear hb' CW e0 e1 e2 e3
      go_wp2_with fail
      refine (CK.out _ _ KX.out).mono ?_
      rintro e wk ⟨vk, rfl, hh, hb'⟩
      have SZ := Lib.hid G.out.bel.size
      have G := Lib.hid (G.out.still hb')
      clear hb' CK KX
      have HH := Lib.hid hh
      clear hh
      obtain ⟨⟨x0, x1, x2, x3, x4, x5⟩, ⟨f0, f1, f2, f3, f4, f5⟩⟩ := six_of (G.out.v2)
      go_wp2_with fail
      refine bodyPost_ret (results_tmp_row rfl _ _ (w.heap.size + 1) 34 (ansC ae ax) (0, 0) _ rfl (six_put (G.out.v2) _ _ _ _ _ _) Tryz.underlying34 rfl (by kernel_rfl)) rfl ?_
      have HB := G.out.bel.trans ((six_only wk (w.heap.size + 1) (.int .i64 ae) (.int .i64 ax) (.int .i64 0) (.bool false) (.int .i64 0) (.int .i64 0)).below (fun k hk => by omega) G.out.bel.size)
      refine ⟨vk, rfl, ?_, HB⟩
      rcases HH.out with ⟨rfl, rfl⟩ | hm
      · exact HA.out.still HB
      · exact (mine_far (hm.base SZ.out) (G.out.v2) _ _ _ _ _ _).holds

set_option maxRecDepth 100000 in
set_option maxHeartbeats 8000000 in
theorem rw_long (h : Holds w v X) (c : Cl) (hX : MayL X) (hf0 : 0 ≤ c.f) (hf1 : c.f ≤ 63) (hf2 : c.f / 2 % 8 = 0) (hr : rgE c.a c.n = 0) (hz : szE c.nw = 0) (hwh : whB X (rgA c.a c.n) (rgB c.a c.n) = true) {m0 m1 : Nat} (hm0 : rgA c.a c.n = 4096 * (m0 : Int)) (hm1 : rgB c.a c.n = 4096 * (m1 : Int)) {x : At} (hs : spK X X.length m0 = some x) (ho : 0 ≤ x.off ∧ x.off ≤ 1099511627776) {mb : Bool} (k1 : (c.f % 2 == 1) = false) (k2 : (c.f / 16 % 2 == 1) = mb) (k3 : (c.f / 32 % 2 == 1) = false) (hle : ¬ szV c.nw ≤ rgB c.a c.n - rgA c.a c.n) (hbk : x.bk ≠ 0) (hlg : 1099511627776 < x.off + szV c.nw) : Calls Tryz.prog 31 #[v, c.v] w (GivesH w X 4 0) := by
  have G := Lib.hid (((Bag.new w).add 38 c.cells).add 34 (ansC 0 0))
  rw [World.size_alloc] at G
  have KX := Lib.hid (h.still G.out.bel)
  have HA := Lib.hid h
  have CR := Lib.hid (refRange_any c.a c.n)
  have CZ := Lib.hid (refSize_any c.nw)
  have C1 : Hid (∀ w' u, Holds w' u X → Calls Tryz.prog 66 #[u, .int .i64 (rgA c.a c.n), .int .i64 (rgB c.a c.n)] w' fun e w'' => e = .returned (.tuple #[.int .i64 (fnA X (rgA c.a c.n)).e, .bool (whB X (rgA c.a c.n) (rgB c.a c.n))]) ∧ Below w'.heap.size w' w'') := Lib.hid (fun w' u h => one_c h hX.1 _ _)
  have CO : Hid (∀ w' u, Holds w' u X → Calls Tryz.prog 63 #[u] w' fun e w'' => e = .returned (.agg (spl (spK X X.length) 512).toArray) ∧ Below w'.heap.size w' w'') := Lib.hid (fun w' u h => by
    obtain ⟨A, c, rfl, hc, hA⟩ := h
    exact ofL_any X hX.1 A c w' hA)
  have hrg := rg_ok hr
  have hsp := sz_pages hrg.2.1
  have hzp := sz_pages hz
  have hw1 : IntKind.i64.wrap (rgB c.a c.n - rgA c.a c.n) = rgB c.a c.n - rgA c.a c.n := by rw [IntKind.wrap_i64]; omega
  have hw2 : IntKind.i64.wrap (x.off + szV c.nw) = x.off + szV c.nw := by rw [IntKind.wrap_i64]; omega
  have q0 : (rgA c.a c.n).tdiv 4096 = (m0 : Int) := by rw [hm0, tdiv_up (by omega)]; omega
  have q1 : (rgA c.a c.n) / 4096 = (m0 : Int) := by omega
  have zs : (0 : Int) ≤ rgA c.a c.n := by omega
  have hz0 : (0 : Int) ≤ (m0 : Int) := by omega
  have hz1 : (m0 : Int) < 512 := by omega
  rw [hr] at CR
  rw [hz] at CZ
  rw [hwh] at C1
  clear hr hz hrg hsp hzp hwh hX hm0 hm1 
  have d1 : c.f.tmod 2 = c.f % 2 := Int.tmod_eq_emod_of_nonneg hf0
  have d2 : c.f.tdiv 16 = c.f / 16 := Int.tdiv_eq_ediv_of_nonneg hf0
  have d3 : (c.f / 16).tmod 2 = c.f / 16 % 2 := Int.tmod_eq_emod_of_nonneg (by omega)
  have d4 : c.f.tdiv 32 = c.f / 32 := Int.tdiv_eq_ediv_of_nonneg hf0
  have d5 : (c.f / 32).tmod 2 = c.f / 32 % 2 := Int.tmod_eq_emod_of_nonneg (by omega)
  have d6 : c.f.tdiv 2 = c.f / 2 := Int.tdiv_eq_ediv_of_nonneg hf0
  have d7 : (c.f / 2).tmod 8 = c.f / 2 % 8 := Int.tmod_eq_emod_of_nonneg (by omega)
  have g1 : ¬ c.f < 0 := by omega
  have g2 : ¬ 63 < c.f := by omega
  have g3 : ¬ 0 < c.f / 2 % 8 := by omega
  clear hf2
  have HS := Lib.hid hs
  clear hs
  generalize spK X X.length = s at *
  generalize (fnA X (rgA c.a c.n)).e = en at *
  generalize rgA c.a c.n = ra at *
  generalize rgB c.a c.n = rb at *
  generalize szV c.nw = sv at *
  obtain ⟨x0, x1, x2, x3⟩ := x
  simp only at *
  have hb : (x2 != 0) = true := by simpa using hbk
  obtain ⟨A, cc, rfl⟩ := h.is
  clear h
  generalize hn : X.length = n at *
  clear hn
  obtain ⟨ck, ca, cn, cnw, ctw, cp, cf, cb, co⟩ := c
  unfold Cl.v
  simp only [Cl.cells] at *
  cases mb
  all_goals
    go_enter Tryz.func31, Tryz.ntmps31
    obtain ⟨c0, c1, c2, c3, c4, c5, c6, c7, c8⟩ := nine G.out.v1
    go_wp2_with fail
    refine (CR.out _).mono ?_
    rintro e w1 ⟨rfl, hb⟩
    have G := Lib.hid (G.out.still hb)
    have KX := Lib.hid (KX.out.still hb)
    clear hb CR c0 c1 c2 c3 c4 c5 c6 c7 c8
    obtain ⟨c0, c1, c2, c3, c4, c5, c6, c7, c8⟩ := nine G.out.v1
    go_wp2_with fail
    refine (CZ.out _).mono ?_
    rintro e w2 ⟨rfl, hb⟩
    have G := Lib.hid (G.out.still hb)
    have KX := Lib.hid (KX.out.still hb)
    clear hb CZ c0 c1 c2 c3 c4 c5 c6 c7 c8
    go_wp2_with fail
    refine (C1.out _ _ KX.out).mono ?_
    rintro e w3 ⟨rfl, hb⟩
    have G := Lib.hid (G.out.still hb)
    have KX := Lib.hid (KX.out.still hb)
    clear hb C1
    go_wp2_with fail
    refine (CO.out _ _ KX.out).mono ?_
    rintro e w4 ⟨rfl, hb⟩
    have G := Lib.hid (G.out.still hb)
    have KX := Lib.hid (KX.out.still hb)
    clear hb CO
    have HC := Lib.hid (ChAt.new (Below.refl w4.heap.size w4) s)
    have TH : Hid ((w4.alloc (.cells Tryz.zeroCells97 97)).there w4.heap.size 0 (spl s 512).toArray.size) := Lib.hid (SpIn.there (s := fun _ => none) (by rw [zero_spc]; exact Whole.new _ _ _))
    have KX := Lib.hid (KX.out.still HC.out.bel)
    have G := Lib.hid ((G.out.still HC.out.bel).join HC.out.s)
    clear HC
    go_upto_region 17 with (refine wpList_store_mid rfl 97 (.tmp 17) (.tmp 108) (by rfl) w4.heap.size 0 (spl s 512).toArray (by rfl) (by rfl) TH.out (space_size' _) (spl_one _ _) ?_)
    generalize hq : w4.heap.size = q at *
    clear TH hq
    generalize World.setCells _ _ _ _ = W1 at *
    obtain ⟨e0, e1, e2, e3, e4⟩ := SpIn.some (G.out.v0) (p := m0) (by omega) HS.out
    simp only at e1 e2 e3 e4
    clear HS
    have BN := Lib.hid (below_new W1 (.cells #[.int .i64 x0, .bool x1, .int .i64 x2, .int .i64 x3] 32))
    have G := Lib.hid (G.out.add 32 #[.int .i64 x0, .bool x1, .int .i64 x2, .int .i64 x3])
    have KX := Lib.hid (KX.out.still BN.out)
    clear BN
    go_upto_region 18 with (fail)
    generalize hw2 : World.alloc W1 _ = W2 at *
    clear hw2 e0 e1 e2 e3 e4
    generalize W1.heap.size = qa at *
    obtain ⟨e0, e1, e2, e3⟩ := row4 (G.out.v0)
    obtain ⟨⟨x0, x1, x2, x3, x4, x5⟩, ⟨f0, f1, f2, f3, f4, f5⟩⟩ := six_of G.out.v2
    have HB := Lib.hid (fun x0 x1 x2 x3 x4 x5 => G.out.bel.trans ((six_only _ (w.heap.size + 1) x0 x1 x2 x3 x4 x5).below (fun k hk => by omega) G.out.bel.size))
    go_wp2_with fail
    refine bodyPost_ret (results_tmp_row rfl _ _ (w.heap.size + 1) 34 (ansC 4 0) (0, 0) _ rfl (six_put G.out.v2 _ _ _ _ _ _) Tryz.underlying34 rfl (by kernel_rfl)) rfl ?_
    exact ⟨_, rfl, HA.out.still (HB.out _ _ _ _ _ _), HB.out _ _ _ _ _ _⟩

set_option maxRecDepth 100000 in
set_option maxHeartbeats 8000000 in
theorem rw_fits (h : Holds w v X) (c : Cl) (hX : MayL X) (hf0 : 0 ≤ c.f) (hf1 : c.f ≤ 63) (hf2 : c.f / 2 % 8 = 0) (hr : rgE c.a c.n = 0) (hz : szE c.nw = 0) (hwh : whB X (rgA c.a c.n) (rgB c.a c.n) = true) {m0 m1 : Nat} (hm0 : rgA c.a c.n = 4096 * (m0 : Int)) (hm1 : rgB c.a c.n = 4096 * (m1 : Int)) {x : At} (hs : spK X X.length m0 = some x) (ho : 0 ≤ x.off ∧ x.off ≤ 1099511627776) {mb : Bool} (k1 : (c.f % 2 == 1) = false) (k2 : (c.f / 16 % 2 == 1) = mb) (k3 : (c.f / 32 % 2 == 1) = false) (hle : ¬ szV c.nw ≤ rgB c.a c.n - rgA c.a c.n) (hlg : ¬ 1099511627776 < x.off + szV c.nw) (hen : (fnA X (rgA c.a c.n)).e = rgB c.a c.n) {kk : Nat} (hkk : szV c.nw - rgB c.a c.n + rgA c.a c.n = 4096 * (kk : Int)) (hfr : FreeN (spK X X.length) m1 kk) {b : Ar} (hb : Formed b) (hbs : b.s = rgA c.a c.n) (hbe : b.e = rgA c.a c.n + szV c.nw) (hbx : (⟨b.p, b.sh, b.bk, b.off⟩ : At) = x) {Y Z : List Ar} {ae ax : Int} (hg : GoodS (withS (spK X X.length) b)) (hY : listTo (withS (spK X X.length) b) 512 = Y) (hZ : (24 < Y.length ∧ Z = X ∧ ae = 9 ∧ ax = 0) ∨ (Y.length ≤ 24 ∧ Z = Y ∧ ae = 0 ∧ ax = rgA c.a c.n)) : Calls Tryz.prog 31 #[v, c.v] w (GivesH w Z ae ax) := by
  have G := Lib.hid (((Bag.new w).add 38 c.cells).add 34 (ansC 0 0))
  rw [World.size_alloc] at G
  have KX := Lib.hid (h.still G.out.bel)
  have HA := Lib.hid h
  have CK : Hid (∀ w' u, Holds w' u X → Calls Tryz.prog 61 #[u, .agg (spc (withS (spK X X.length) b)), .int .i64 (rgA c.a c.n)] w' fun e w'' => ∃ v', e = .returned (.tuple #[v', .agg #[.int .i64 ae, .int .i64 ax, .int .i64 0, .bool false, .int .i64 0, .int .i64 0]]) ∧ ((v' = u ∧ Z = X) ∨ Mine w'.heap.size w'' v' Z) ∧ Below w'.heap.size w' w'') := Lib.hid (fun w' u h => refKept_c h _ hg hY _ hZ)
  clear hg hY hZ
  have CR := Lib.hid (refRange_any c.a c.n)
  have CZ := Lib.hid (refSize_any c.nw)
  have C1 : Hid (∀ w' u, Holds w' u X → Calls Tryz.prog 66 #[u, .int .i64 (rgA c.a c.n), .int .i64 (rgB c.a c.n)] w' fun e w'' => e = .returned (.tuple #[.int .i64 (fnA X (rgA c.a c.n)).e, .bool (whB X (rgA c.a c.n) (rgB c.a c.n))]) ∧ Below w'.heap.size w' w'') := Lib.hid (fun w' u h => one_c h hX.1 _ _)
  have CO : Hid (∀ w' u, Holds w' u X → Calls Tryz.prog 63 #[u] w' fun e w'' => e = .returned (.agg (spl (spK X X.length) 512).toArray) ∧ Below w'.heap.size w' w'') := Lib.hid (fun w' u h => by
    obtain ⟨A, c, rfl, hc, hA⟩ := h
    exact ofL_any X hX.1 A c w' hA)
  have hrg := rg_ok hr
  have hsp := sz_pages hrg.2.1
  have hzp := sz_pages hz
  have hw1 : IntKind.i64.wrap (rgB c.a c.n - rgA c.a c.n) = rgB c.a c.n - rgA c.a c.n := by rw [IntKind.wrap_i64]; omega
  have hw2 : IntKind.i64.wrap (x.off + szV c.nw) = x.off + szV c.nw := by rw [IntKind.wrap_i64]; omega
  have q0 : (rgA c.a c.n).tdiv 4096 = (m0 : Int) := by rw [hm0, tdiv_up (by omega)]; omega
  have q1 : (rgA c.a c.n) / 4096 = (m0 : Int) := by omega
  have zs : (0 : Int) ≤ rgA c.a c.n := by omega
  have hz0 : (0 : Int) ≤ (m0 : Int) := by omega
  have hz1 : (m0 : Int) < 512 := by omega
  have hw4 : IntKind.i64.wrap (szV c.nw - rgB c.a c.n) = szV c.nw - rgB c.a c.n := by rw [IntKind.wrap_i64]; omega
  have hw5 : IntKind.i64.wrap (szV c.nw - rgB c.a c.n + rgA c.a c.n) = szV c.nw - rgB c.a c.n + rgA c.a c.n := by rw [IntKind.wrap_i64]; omega
  have q2 : (rgB c.a c.n).tdiv 4096 = (m1 : Int) := by rw [hm1, tdiv_up (by omega)]; omega
  have q3 : (rgB c.a c.n) / 4096 = (m1 : Int) := by omega
  have zs2 : (0 : Int) ≤ rgB c.a c.n := by omega
  have q4 : (szV c.nw - rgB c.a c.n + rgA c.a c.n).tdiv 4096 = (kk : Int) := by rw [tdiv_up (by omega)]; omega
  have q5 : (szV c.nw - rgB c.a c.n + rgA c.a c.n) / 4096 = (kk : Int) := by omega
  have zs3 : (0 : Int) ≤ szV c.nw - rgB c.a c.n + rgA c.a c.n := by omega
  have CF : Hid (∀ w', Calls Tryz.prog 68 #[.agg (spl (spK X X.length) 512).toArray, .int .i64 (m1 : Int), .int .i64 (kk : Int)] w' fun e w'' => e = .returned (.bool true) ∧ Below w'.heap.size w' w'') := Lib.hid (fun w' => free_any _ m1 kk (by omega) (by omega) ⟨fun _ => hfr, fun _ => rfl⟩ w')
  have hw3 : IntKind.i64.wrap (rgA c.a c.n + szV c.nw) = rgA c.a c.n + szV c.nw := by rw [IntKind.wrap_i64]; omega
  have CT : Hid (∀ w', Calls Tryz.prog 62 #[.agg (spl (spK X X.length) 512).toArray, .int .i64 (rgA c.a c.n), .int .i64 (rgA c.a c.n + szV c.nw), .agg #[.int .i64 x.p, .bool x.sh, .int .i64 x.bk, .int .i64 x.off]] w' fun e w'' => e = .returned (.agg (spc (withS (spK X X.length) b))) ∧ Below w'.heap.size w' w'') := Lib.hid (fun w' => by
    have := with_any (spK X X.length) b hb w'
    rw [hbs, hbe] at this
    rw [← hbx]
    exact this)
  have hee : ((fnA X (rgA c.a c.n)).e == rgB c.a c.n) = true := by rw [hen]; simp
  generalize spc (withS (spK X X.length) b) = s3 at *
  rw [hr] at CR
  rw [hz] at CZ
  rw [hwh] at C1
  clear hr hz hrg hsp hzp hwh hX hm0 hm1 hkk hfr hb hbs hbe hbx hen
  have d1 : c.f.tmod 2 = c.f % 2 := Int.tmod_eq_emod_of_nonneg hf0
  have d2 : c.f.tdiv 16 = c.f / 16 := Int.tdiv_eq_ediv_of_nonneg hf0
  have d3 : (c.f / 16).tmod 2 = c.f / 16 % 2 := Int.tmod_eq_emod_of_nonneg (by omega)
  have d4 : c.f.tdiv 32 = c.f / 32 := Int.tdiv_eq_ediv_of_nonneg hf0
  have d5 : (c.f / 32).tmod 2 = c.f / 32 % 2 := Int.tmod_eq_emod_of_nonneg (by omega)
  have d6 : c.f.tdiv 2 = c.f / 2 := Int.tdiv_eq_ediv_of_nonneg hf0
  have d7 : (c.f / 2).tmod 8 = c.f / 2 % 8 := Int.tmod_eq_emod_of_nonneg (by omega)
  have g1 : ¬ c.f < 0 := by omega
  have g2 : ¬ 63 < c.f := by omega
  have g3 : ¬ 0 < c.f / 2 % 8 := by omega
  clear hf2
  have HS := Lib.hid hs
  clear hs
  generalize spK X X.length = s at *
  generalize (fnA X (rgA c.a c.n)).e = en at *
  generalize rgA c.a c.n = ra at *
  generalize rgB c.a c.n = rb at *
  generalize szV c.nw = sv at *
  obtain ⟨x0, x1, x2, x3⟩ := x
  simp only at *
  obtain ⟨A, cc, rfl⟩ := h.is
  clear h
  generalize hn : X.length = n at *
  clear hn
  obtain ⟨ck, ca, cn, cnw, ctw, cp, cf, cb, co⟩ := c
  unfold Cl.v
  simp only [Cl.cells] at *
  cases mb
  all_goals
    go_enter Tryz.func31, Tryz.ntmps31
    obtain ⟨c0, c1, c2, c3, c4, c5, c6, c7, c8⟩ := nine G.out.v1
    go_wp2_with fail
    refine (CR.out _).mono ?_
    rintro e w1 ⟨rfl, hb⟩
    have G := Lib.hid (G.out.still hb)
    have KX := Lib.hid (KX.out.still hb)
    clear hb CR c0 c1 c2 c3 c4 c5 c6 c7 c8
    obtain ⟨c0, c1, c2, c3, c4, c5, c6, c7, c8⟩ := nine G.out.v1
    go_wp2_with fail
    refine (CZ.out _).mono ?_
    rintro e w2 ⟨rfl, hb⟩
    have G := Lib.hid (G.out.still hb)
    have KX := Lib.hid (KX.out.still hb)
    clear hb CZ c0 c1 c2 c3 c4 c5 c6 c7 c8
    go_wp2_with fail
    refine (C1.out _ _ KX.out).mono ?_
    rintro e w3 ⟨rfl, hb⟩
    have G := Lib.hid (G.out.still hb)
    have KX := Lib.hid (KX.out.still hb)
    clear hb C1
    go_wp2_with fail
    refine (CO.out _ _ KX.out).mono ?_
    rintro e w4 ⟨rfl, hb⟩
    have G := Lib.hid (G.out.still hb)
    have KX := Lib.hid (KX.out.still hb)
    clear hb CO
    have HC := Lib.hid (ChAt.new (Below.refl w4.heap.size w4) s)
    have TH : Hid ((w4.alloc (.cells Tryz.zeroCells97 97)).there w4.heap.size 0 (spl s 512).toArray.size) := Lib.hid (SpIn.there (s := fun _ => none) (by rw [zero_spc]; exact Whole.new _ _ _))
    have KX := Lib.hid (KX.out.still HC.out.bel)
    have G := Lib.hid ((G.out.still HC.out.bel).join HC.out.s)
    clear HC
    go_upto_region 17 with (refine wpList_store_mid rfl 97 (.tmp 17) (.tmp 108) (by rfl) w4.heap.size 0 (spl s 512).toArray (by rfl) (by rfl) TH.out (space_size' _) (spl_one _ _) ?_)
    generalize hq : w4.heap.size = q at *
    clear TH hq
    generalize World.setCells _ _ _ _ = W1 at *
    obtain ⟨e0, e1, e2, e3, e4⟩ := SpIn.some (G.out.v0) (p := m0) (by omega) HS.out
    simp only at e1 e2 e3 e4
    clear HS
    have BN := Lib.hid (below_new W1 (.cells #[.int .i64 x0, .bool x1, .int .i64 x2, .int .i64 x3] 32))
    have G := Lib.hid (G.out.add 32 #[.int .i64 x0, .bool x1, .int .i64 x2, .int .i64 x3])
    have KX := Lib.hid (KX.out.still BN.out)
    clear BN
    go_upto_region 18 with (fail)
    generalize hw2 : World.alloc W1 _ = W2 at *
    clear hw2 e0 e1 e2 e3 e4
    generalize W1.heap.size = qa at *
    obtain ⟨e0, e1, e2, e3⟩ := row4 (G.out.v0)
    cases hb : (x2 != 0)
    all_goals
      go_wp2_with (refine wpList_want_mid 97 (.tmp 17) rfl (by rfl) q 0 (by rfl) (spl s 512) _ (SpIn.range (G.out.v1)) Tryz.underlying97 rfl (space_size _) ?_)
      refine (CF.out _).mono ?_
      rintro e w5 ⟨rfl, hb'⟩
      have G := Lib.hid (G.out.still hb')
      have KX := Lib.hid (KX.out.still hb')
      clear hb' CF e0 e1 e2 e3
      obtain ⟨e0, e1, e2, e3⟩ := row4 (G.out.v0)
      go_wp2_with (refine wpList_load_mid rfl 97 (.tmp 17) (by rfl) q 0 (by rfl) (spl s 512) _ (SpIn.range (G.out.v1)) Tryz.underlying97 rfl (space_size _) ?_)
      refine (CT.out _).mono ?_
      rintro e w6 ⟨rfl, hb'⟩
      have G := Lib.hid (G.out.still hb')
      have KX := Lib.hid (KX.out.still hb')
      clear hb' CT e0 e1 e2 e3
      go_wp2_with fail
      refine (CK.out _ _ KX.out).mono ?_
      rintro e wk ⟨vk, rfl, hh, hb'⟩
      have SZ := Lib.hid G.out.bel.size
      have G := Lib.hid (G.out.still hb')
      clear hb' CK KX
      have HH := Lib.hid hh
      clear hh
      obtain ⟨⟨x0, x1, x2, x3, x4, x5⟩, ⟨f0, f1, f2, f3, f4, f5⟩⟩ := six_of (G.out.v2)
      go_wp2_with fail
      refine bodyPost_ret (results_tmp_row rfl _ _ (w.heap.size + 1) 34 (ansC ae ax) (0, 0) _ rfl (six_put (G.out.v2) _ _ _ _ _ _) Tryz.underlying34 rfl (by kernel_rfl)) rfl ?_
      have HB := G.out.bel.trans ((six_only wk (w.heap.size + 1) (.int .i64 ae) (.int .i64 ax) (.int .i64 0) (.bool false) (.int .i64 0) (.int .i64 0)).below (fun k hk => by omega) G.out.bel.size)
      refine ⟨vk, rfl, ?_, HB⟩
      rcases HH.out with ⟨rfl, rfl⟩ | hm
      · exact HA.out.still HB
      · exact (mine_far (hm.base SZ.out) (G.out.v2) _ _ _ _ _ _).holds

end
end Go.Proofs.YtholpgcghpikgaaGreat
