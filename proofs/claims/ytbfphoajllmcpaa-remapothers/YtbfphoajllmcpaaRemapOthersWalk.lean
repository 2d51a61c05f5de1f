/-
  Layer 12: no page is otherwise that is in neither range.
-/
import Derived.Test.YtbfphoajllmcpaaPkQf
import Derived.Test.YtbfphoajllmcpaaPkB
import Derived.Deep.LoopGhost
import Derived.BigQuiet
namespace Go.Proofs.Ytbfphoajllmcpaa
open Go.ChangeShapes Go.WideShapes Go.ChangeAt Go.RowKit Go.Shelf
set_option linter.unusedVariables false
attribute [local go_sem ↓] Go.wp_at_zero Go.wp_at_succ

theorem two_sp (w : World) (s t : Sp) : SpIn ((((w.alloc (.cells Try.zeroCells45 45)).alloc (.cells Try.zeroCells45 45)).setCells w.heap.size 0 (spl s 512)).setCells (w.heap.size + 1) 0 (spl t 512)) w.heap.size s ∧ SpIn ((((w.alloc (.cells Try.zeroCells45 45)).alloc (.cells Try.zeroCells45 45)).setCells w.heap.size 0 (spl s 512)).setCells (w.heap.size + 1) 0 (spl t 512)) (w.heap.size + 1) t ∧ Below w.heap.size w ((((w.alloc (.cells Try.zeroCells45 45)).alloc (.cells Try.zeroCells45 45)).setCells w.heap.size 0 (spl s 512)).setCells (w.heap.size + 1) 0 (spl t 512)) ∧
    ((w.alloc (.cells Try.zeroCells45 45)).alloc (.cells Try.zeroCells45 45)).there w.heap.size 0 (spl s 512).toArray.size ∧ (((w.alloc (.cells Try.zeroCells45 45)).alloc (.cells Try.zeroCells45 45)).setCells w.heap.size 0 (spl s 512)).there (w.heap.size + 1) 0 (spl t 512).toArray.size := by
  have h0 : SpIn ((w.alloc (.cells Try.zeroCells45 45)).alloc (.cells Try.zeroCells45 45)) w.heap.size (fun _ => none) := by
    rw [zero_spc]; exact (Whole.new w _ _).alloc _
  have h1 : SpIn ((w.alloc (.cells Try.zeroCells45 45)).alloc (.cells Try.zeroCells45 45)) (w.heap.size + 1) (fun _ => none) := by
    rw [zero_spc]
    have := Whole.new (w.alloc (.cells (spc fun _ => none) 45)) 45 (spc (fun _ => none))
    rwa [World.size_alloc] at this
  have o1 := only_many (q := w.heap.size) (spl s 512) 0 ((w.alloc (.cells Try.zeroCells45 45)).alloc (.cells Try.zeroCells45 45))
  have h2 : SpIn (((w.alloc (.cells Try.zeroCells45 45)).alloc (.cells Try.zeroCells45 45)).setCells w.heap.size 0 (spl s 512)) (w.heap.size + 1) (fun _ => none) := h1.only o1 (by simp)
  have o2 := only_many (q := w.heap.size + 1) (spl t 512) 0 (((w.alloc (.cells Try.zeroCells45 45)).alloc (.cells Try.zeroCells45 45)).setCells w.heap.size 0 (spl s 512))
  have b0 := below_new2 w (.cells Try.zeroCells45 45) (.cells Try.zeroCells45 45)
  have b1 := b0.trans (o1.below (B := w.heap.size) (fun k hk => by omega) b0.size)
  exact ⟨(SpIn.all h0).only o2 (by simp), SpIn.all h2, b1.trans (o2.below (B := w.heap.size) (fun k hk => by omega) b1.size), SpIn.there h0, SpIn.there h2⟩

set_option maxHeartbeats 2000000 in
theorem touched_q (p : Nat) (hp : p < 512) (lo hi : Int) {r : Bool} (hr : Tells r (Touch lo hi p)) (w : World) : Calls Try.prog 14 #[.int .i64 p, .int .i64 lo, .int .i64 hi] w fun e w' => e = .returned (.bool r) ∧ w = w' := by
  by_cases h1 : lo < hi
  · by_cases h2 : lo < 4096 * (p : Int) + 4096
    · by_cases h3 : 4096 * (p : Int) < hi
      · have hf : r = true := hr.yes ⟨h1, h2, h3⟩
        subst hf
        clear hr
        have d3 : decide (4096 * (p : Int) < hi) = true := decide_eq_true h3
        go_enter Try.func14, Try.ntmps14
        go_wp2_with fail
        go_ret
        exact ⟨rfl, rfl⟩
      · have hf : r = false := hr.no (fun h => h3 h.2.2)
        subst hf
        clear hr
        have d3 : decide (4096 * (p : Int) < hi) = false := decide_eq_false h3
        go_enter Try.func14, Try.ntmps14
        go_wp2_with fail
        go_ret
        exact ⟨rfl, rfl⟩
    · have hf : r = false := hr.no (fun h => h2 h.2.1)
      subst hf
      clear hr
      go_enter Try.func14, Try.ntmps14
      go_wp2_with fail
      go_ret
      exact ⟨rfl, rfl⟩
  · have hf : r = false := hr.no (fun h => h1 h.1)
    subst hf
    clear hr
    go_enter Try.func14, Try.ntmps14
    go_wp2_with fail
    go_ret
    exact ⟨rfl, rfl⟩

instance touch_deco (lo hi p : Int) : Decidable (Touch lo hi p) := by unfold Touch; infer_instance
set_option maxHeartbeats 2000000 in
theorem others_many (A : Option Addr) (n cc : Nat) (c : Cl) (w : World) (hn : 30 < n) :
    Calls Try.prog 7 #[.slice A n cc, c.v] w fun e w' => e = .returned (.bool true) ∧ Below w.heap.size w w' := by
  have W0 := Lib.hid rm_awake
  have G := Lib.hid ((Bag.new w).add 35 c.cells)
  have hz : (30 : Int) < (n : Int) := by omega
  obtain ⟨ck, ca, cn, cnw, ctw, cp, cf, cb, co⟩ := c
  unfold Cl.v
  simp only [Cl.cells] at *
  go_enter Try.func7, Try.ntmps7
  go_wp2_with fail
  refine (W0.out _).mono ?_
  rintro e w1 ⟨rfl, hb⟩
  have G := Lib.hid (G.out.still hb)
  clear hb
  go_wp2_with fail
  refine (W0.out _).mono ?_
  rintro e w2 ⟨rfl, hb⟩
  have G := Lib.hid (G.out.still hb)
  clear hb
  go_wp2_with fail
  go_ret
  exact ⟨rfl, G.out.bel⟩

set_option maxRecDepth 4000 in
set_option maxHeartbeats 8000000 in
theorem others_err (l : List Ar) (v : Value) (c : Cl) (w : World) (hl : l.length ≤ 30) (hA : Holds w v l) (he : (rmR (someL l) c).2.1 ≠ 0) :
    Calls Try.prog 7 #[v, c.v] w fun e w' => e = .returned (.bool true) ∧ Below w.heap.size w w' := by
  have W0 := Lib.hid rm_awake
  have G := Lib.hid ((Bag.new w).add 35 c.cells)
  have KL := Lib.hid (hA.still G.out.bel)
  have HA0 := Lib.hid hA
  have CS : Hid (∀ w' u, Holds w' u l → Calls Try.prog 9 #[u] w' fun e w'' => ∃ v', e = .returned v' ∧ Mine w'.heap.size w'' v' (someL l) ∧ Below w'.heap.size w' w'') := Lib.hid (fun w' u h => some_c h (by omega))
  have hX := someL_may l
  generalize someL l = X at *
  have hXl : X.length ≤ 10000 := by have := hX.2; omega
  obtain ⟨ck, ca, cn, cnw, ctw, cp, cf, cb, co⟩ := c
  simp only [Cl.cells] at *
  unfold Cl.v
  simp only [Cl.cells]
  have hXr := hX.1
  obtain ⟨e1, hr, he1⟩ : ∃ e1, rmR X ⟨ck, ca, cn, cnw, ctw, cp, cf, cb, co⟩ = (X, e1, 0) ∧ e1 ≠ 0 := by
    rcases rmR_is X ⟨ck, ca, cn, cnw, ctw, cp, cf, cb, co⟩ with ⟨h1, h2, h3⟩ | ⟨a, _, _, _, h4⟩
    · exact ⟨(rmR X ⟨ck, ca, cn, cnw, ctw, cp, cf, cb, co⟩).2.1, Prod.ext h2 (Prod.ext rfl h3), h1⟩
    · rw [h4] at he; exact absurd rfl he
  have he1' : (e1 != 0) = true := by simpa using he1
  have C1 : Hid (∀ w' u, Holds w' u X → Calls Try.prog 10 #[u, .agg #[.int .i64 ck, .int .i64 ca, .int .i64 cn, .int .i64 cnw, .int .i64 ctw, .int .i64 cp, .int .i64 cf, .int .i64 cb, .int .i64 co]] w' fun e w'' => ∃ v', e = .returned (.tuple #[v', .agg #[.int .i64 e1, .int .i64 0, .int .i64 0, .bool false, .int .i64 0, .int .i64 0]]) ∧ Mine w'.heap.size w'' v' X ∧ Below w'.heap.size w' w'') := Lib.hid (fun w' u h => by
    have := remap_c h hXl ⟨ck, ca, cn, cnw, ctw, cp, cf, cb, co⟩
    rw [hr] at this
    exact this)
  clear hX hXl hr he he1 hXr
  obtain ⟨A, cc, rfl⟩ := hA.is
  clear hA
  generalize hn : l.length = n at *
  clear hn
  have hz : ¬ (30 : Int) < (n : Int) := by omega
  go_enter Try.func7, Try.ntmps7
  go_wp2_with fail
  refine (W0.out _).mono ?_
  rintro e w1 ⟨rfl, hb⟩
  have G := Lib.hid (G.out.still hb)
  have KL := Lib.hid (KL.out.still hb)
  clear hb
  go_wp2_with fail
  refine (CS.out _ _ KL.out).mono ?_
  rintro e w2 ⟨vx, rfl, hm, hb⟩
  have SZ := Lib.hid G.out.bel.size
  have G := Lib.hid (G.out.still hb)
  have KX := Lib.hid (hm.base SZ.out)
  clear hb hm CS KL SZ
  obtain ⟨c0, c1, c2, c3, c4, c5, c6, c7, c8⟩ := nine G.out.v0
  go_wp2_with fail
  refine (C1.out _ _ KX.out.holds).mono ?_
  rintro e w3 ⟨vKY, rfl, hm, hb⟩
  have SZ := Lib.hid G.out.bel.size
  have G := Lib.hid (G.out.still hb)
  have KX := Lib.hid (KX.out.still hb)
  have KY := Lib.hid (hm.base SZ.out)
  clear hb hm C1 SZ
  have BN := Lib.hid (below_new w3 (.cells #[.int .i64 e1, .int .i64 0, .int .i64 0, .bool false, .int .i64 0, .int .i64 0] 31))
  have G := Lib.hid (G.out.add 31 #[.int .i64 e1, .int .i64 0, .int .i64 0, .bool false, .int .i64 0, .int .i64 0])
  have KX := Lib.hid (KX.out.still BN.out)
  have KY := Lib.hid (KY.out.still BN.out)
  clear BN
  clear c0 c1 c2 c3 c4 c5 c6 c7 c8
  obtain ⟨a0, a1, a2, a3, a4, a5⟩ := row6 G.out.v0
  go_wp2_with fail
  go_ret
  exact ⟨rfl, G.out.bel⟩

set_option maxRecDepth 4000 in
set_option maxHeartbeats 8000000 in
theorem others_ok (l : List Ar) (v : Value) (c : Cl) (w : World) (hl : l.length ≤ 30) (hA : Holds w v l) (a : Ar) (hk : Rmk (someL l) c a) (Y : List Ar) (x : Int) (hYr : RightL Y) (hr : rmR (someL l) c = (Y, 0, x)) (hb : 65536 ≤ c.a ∧ c.a ≤ 2097152 ∧ 0 < c.n ∧ c.n ≤ 2031616 ∧ 65536 ≤ x ∧ x ≤ 2097152 ∧ 0 < c.nw ∧ c.nw ≤ 2031616) (hoth : ∀ p : Nat, ¬ Touch c.a (c.a + c.n) p → ¬ Touch x (x + c.nw) p → tab Y p = tab (someL l) p) :
    Calls Try.prog 7 #[v, c.v] w fun e w' => e = .returned (.bool true) ∧ Below w.heap.size w w' := by
  have W0 := Lib.hid rm_awake
  have G := Lib.hid ((Bag.new w).add 35 c.cells)
  have KL := Lib.hid (hA.still G.out.bel)
  have HA0 := Lib.hid hA
  have CS : Hid (∀ w' u, Holds w' u l → Calls Try.prog 9 #[u] w' fun e w'' => ∃ v', e = .returned v' ∧ Mine w'.heap.size w'' v' (someL l) ∧ Below w'.heap.size w' w'') := Lib.hid (fun w' u h => some_c h (by omega))
  have hX := someL_may l
  generalize someL l = X at *
  have hXl : X.length ≤ 10000 := by have := hX.2; omega
  have hXr := hX.1
  obtain ⟨p1, p2, p3, p4, p5, p6, p7, p8⟩ := hb
  obtain ⟨ck, ca, cn, cnw, ctw, cp, cf, cb, co⟩ := c
  simp only [Cl.cells] at *
  unfold Cl.v
  simp only [Cl.cells]
  try simp only at p1 p2 p3 p4 p5 p6 p7 p8 hoth
  have C1 : Hid (∀ w' u, Holds w' u X → Calls Try.prog 10 #[u, .agg #[.int .i64 ck, .int .i64 ca, .int .i64 cn, .int .i64 cnw, .int .i64 ctw, .int .i64 cp, .int .i64 cf, .int .i64 cb, .int .i64 co]] w' fun e w'' => ∃ v', e = .returned (.tuple #[v', .agg #[.int .i64 0, .int .i64 x, .int .i64 0, .bool false, .int .i64 0, .int .i64 0]]) ∧ Mine w'.heap.size w'' v' Y ∧ Below w'.heap.size w' w'') := Lib.hid (fun w' u h => by
    have := remap_c h hXl ⟨ck, ca, cn, cnw, ctw, cp, cf, cb, co⟩
    rw [hr] at this
    exact this)
  have COX : Hid (∀ w' u, Holds w' u X → Calls Try.prog 13 #[u] w' fun e w'' => e = .returned (.agg (spl (spK X X.length) 512).toArray) ∧ Below w'.heap.size w' w'') := Lib.hid (fun w' u h => by
    obtain ⟨A, c, rfl, hc, hA⟩ := h
    exact ofL_any X hXr A c w' hA)
  have COY : Hid (∀ w' u, Holds w' u Y → Calls Try.prog 13 #[u] w' fun e w'' => e = .returned (.agg (spl (spK Y Y.length) 512).toArray) ∧ Below w'.heap.size w' w'') := Lib.hid (fun w' u h => by
    obtain ⟨A, c, rfl, hc, hA⟩ := h
    exact ofL_any Y hYr A c w' hA)
  have HP : Hid (∀ p : Nat, ¬ Touch ca (ca + cn) p → ¬ Touch x (x + cnw) p → spK Y Y.length p = spK X X.length p) := Lib.hid (fun p e1 e2 => by
    unfold spK
    rw [List.take_length, List.take_length]
    exact hoth p e1 e2)
  have CT1 : Hid (∀ (p : Nat) (hp : p < 512) (r : Bool), Tells r (Touch ca (ca + cn) p) → ∀ w' : World, Calls Try.prog 14 #[.int .i64 p, .int .i64 ca, .int .i64 (ca + cn)] w' fun e w'' => e = .returned (.bool r) ∧ w' = w'') := Lib.hid (fun p hp r hr w' => touched_q p hp _ _ hr w')
  have CT2 : Hid (∀ (p : Nat) (hp : p < 512) (r : Bool), Tells r (Touch x (x + cnw) p) → ∀ w' : World, Calls Try.prog 14 #[.int .i64 p, .int .i64 x, .int .i64 (x + cnw)] w' fun e w'' => e = .returned (.bool r) ∧ w' = w'') := Lib.hid (fun p hp r hr w' => touched_q p hp _ _ hr w')
  have e1 : IntKind.i64.wrap (ca + cn) = ca + cn := by rw [IntKind.wrap_i64]; omega
  have e2 : IntKind.i64.wrap (x + cnw) = x + cnw := by rw [IntKind.wrap_i64]; omega
  clear hk hr hX hXl hXr hYr hoth
  generalize spK X X.length = s at *
  generalize spK Y Y.length = t at *
  obtain ⟨A, cc, rfl⟩ := hA.is
  clear hA
  generalize hn : l.length = n at *
  clear hn
  have hz : ¬ (30 : Int) < (n : Int) := by omega
  go_enter Try.func7, Try.ntmps7
  go_wp2_with fail
  refine (W0.out _).mono ?_
  rintro e w1 ⟨rfl, hb⟩
  have G := Lib.hid (G.out.still hb)
  have KL := Lib.hid (KL.out.still hb)
  clear hb
  go_wp2_with fail
  refine (CS.out _ _ KL.out).mono ?_
  rintro e w2 ⟨vx, rfl, hm, hb⟩
  have SZ := Lib.hid G.out.bel.size
  have G := Lib.hid (G.out.still hb)
  have KX := Lib.hid (hm.base SZ.out)
  clear hb hm CS KL SZ
  obtain ⟨c0, c1, c2, c3, c4, c5, c6, c7, c8⟩ := nine G.out.v0
  go_wp2_with fail
  refine (C1.out _ _ KX.out.holds).mono ?_
  rintro e w3 ⟨vKY, rfl, hm, hb⟩
  have SZ := Lib.hid G.out.bel.size
  have G := Lib.hid (G.out.still hb)
  have KX := Lib.hid (KX.out.still hb)
  have KY := Lib.hid (hm.base SZ.out)
  clear hb hm C1 SZ
  have BN := Lib.hid (below_new w3 (.cells #[.int .i64 0, .int .i64 x, .int .i64 0, .bool false, .int .i64 0, .int .i64 0] 31))
  have G := Lib.hid (G.out.add 31 #[.int .i64 0, .int .i64 x, .int .i64 0, .bool false, .int .i64 0, .int .i64 0])
  have KX := Lib.hid (KX.out.still BN.out)
  have KY := Lib.hid (KY.out.still BN.out)
  clear BN
  clear c0 c1 c2 c3 c4 c5 c6 c7 c8
  obtain ⟨a0, a1, a2, a3, a4, a5⟩ := row6 G.out.v0
  go_wp2_with fail
  refine (COX.out _ _ KX.out.holds).mono ?_
  rintro e w4 ⟨rfl, hb⟩
  have G := Lib.hid (G.out.still hb)
  have KX := Lib.hid (KX.out.still hb)
  have KY := Lib.hid (KY.out.still hb)
  clear hb COX
  go_wp2_with fail
  refine (COY.out _ _ KY.out.holds).mono ?_
  rintro e w5 ⟨rfl, hb⟩
  have G := Lib.hid (G.out.still hb)
  have KX := Lib.hid (KX.out.still hb)
  have KY := Lib.hid (KY.out.still hb)
  clear hb COY
  clear KX KY a0 a1 a2 a3 a4 a5
  obtain ⟨sp1, sp2, sp3, sp4, sp5⟩ := two_sp w5 s t
  have TH1 := Lib.hid sp4
  have TH2 := Lib.hid sp5
  have G := Lib.hid (((G.out.still sp3).join sp1).join sp2)
  clear sp1 sp2 sp3 sp4 sp5
  go_upto_region 8 with (first | (refine wpList_store_mid rfl 45 (.tmp 8) (.tmp 31) (by rfl) w5.heap.size 0 (spl s 512).toArray (by rfl) (by rfl) TH1.out (space_size' _) (spl_one _ _) ?_) | (refine wpList_store_mid rfl 45 (.tmp 9) (.tmp 33) (by rfl) (w5.heap.size + 1) 0 (spl t 512).toArray (by rfl) (by rfl) TH2.out (space_size' _) (spl_one _ _) ?_))
  clear TH1 TH2
  generalize hqq : w5.heap.size = q at *
  clear hqq
  generalize World.setCells _ _ _ _ = W1 at *
  generalize w3.heap.size = qa at *
  go_wp2_with fail
  go_loopg [10] 512 (fun g s10 wr => ∃ j : Nat, j ≤ 512 ∧ 512 - j ≤ g ∧ s10 = .int .i64 j ∧ Hid (Bag w wr [(q + 1, 45, spc t), (q, 45, spc s), (qa, 31, #[.int .i64 0, .int .i64 x, .int .i64 0, .bool false, .int .i64 0, .int .i64 0]), (w.heap.size, 35, #[.int .i64 ck, .int .i64 ca, .int .i64 cn, .int .i64 cnw, .int .i64 ctw, .int .i64 cp, .int .i64 cf, .int .i64 cb, .int .i64 co])]))
  case atStart => exact ⟨0, by omega, by omega, by rfl, G⟩
  case round =>
    clear G
    obtain ⟨j, hj, hg, rfl, G⟩ := hrel
    by_cases hlt : j < 512
    · have hz1 : (j : Int) < 512 := by omega
      have hz0 : (0 : Int) ≤ (j : Int) := by omega
      have c1 := (G.out.v3).cell 1
      have c2 := (G.out.v3).cell 2
      have c3 := (G.out.v3).cell 3
      have a1 := (G.out.v2).cell 1
      simp only [List.getElem?_toArray, List.getElem?_cons_succ, List.getElem?_cons_zero] at c1 c2 c3 a1
      by_cases t1 : Touch ca (ca + cn) j
      · have T1 := Lib.hid (CT1.out j hlt true ⟨fun _ => t1, fun _ => rfl⟩)
        clear CT1 CT2 HP t1
        go_upto_region 11 with (fail)
        go_quiet ((go_at_call 14; exact quietly (T1.out _)))
        have G := Lib.hid (G.out.drewN nq)
        go_wp2_with fail
        go_roundg (512 - (j + 1))
        case measure => omega
        case rel => exact ⟨j + 1, by omega, by omega, by go_num, G⟩
      · have T1 := Lib.hid (CT1.out j hlt false ⟨fun h => (by cases h), fun h => absurd h t1⟩)
        by_cases t2 : Touch x (x + cnw) j
        · have T2 := Lib.hid (CT2.out j hlt true ⟨fun _ => t2, fun _ => rfl⟩)
          clear CT1 CT2 HP t1 t2
          go_upto_region 11 with (fail)
          go_quiet ((go_at_call 14; first | with_reducible exact quietly (T1.out _) | with_reducible exact quietly (T2.out _)))
          have G := Lib.hid (G.out.drewN nq)
          go_wp2_with fail
          go_roundg (512 - (j + 1))
          case measure => omega
          case rel => exact ⟨j + 1, by omega, by omega, by go_num, G⟩
        · have T2 := Lib.hid (CT2.out j hlt false ⟨fun h => (by cases h), fun h => absurd h t2⟩)
          have heq := HP.out j t1 t2
          clear CT1 CT2 HP t1 t2
          cases hs : s j with
          | none =>
            rw [hs] at heq
            obtain ⟨⟨d0, d1, d2, d3, d4⟩, _⟩ := SpIn.five (G.out.v1) (p := j) (by omega) hs
            obtain ⟨⟨f0, f1, f2, f3, f4⟩, _⟩ := SpIn.five (G.out.v0) (p := j) (by omega) heq
            clear hs heq
            go_upto_region 11 with (fail)
            go_quiet ((go_at_call 14; first | with_reducible exact quietly (T1.out _) | with_reducible exact quietly (T2.out _)))
            have G := Lib.hid (G.out.drewN nq)
            go_wp2_with fail
            go_roundg (512 - (j + 1))
            case measure => omega
            case rel => exact ⟨j + 1, by omega, by omega, by go_num, G⟩
          | some z =>
            rw [hs] at heq
            obtain ⟨d0, d1, d2, d3, d4⟩ := SpIn.some (G.out.v1) (p := j) (by omega) hs
            obtain ⟨f0, f1, f2, f3, f4⟩ := SpIn.some (G.out.v0) (p := j) (by omega) heq
            obtain ⟨y0, y1, y2, y3⟩ := z
            simp only at d1 d2 d3 d4 f1 f2 f3 f4
            clear hs heq
            go_upto_region 11 with (fail)
            go_quiet ((go_at_call 14; first | with_reducible exact quietly (T1.out _) | with_reducible exact quietly (T2.out _)))
            have G := Lib.hid (G.out.drewN nq)
            go_wp2_with fail
            go_roundg (512 - (j + 1))
            case measure => omega
            case rel => exact ⟨j + 1, by omega, by omega, by go_num, G⟩
    · obtain rfl : j = 512 := by omega
      go_wp2_with fail
      go_ret
      exact ⟨rfl, G.out.bel⟩

theorem others_any (l : List Ar) (v : Value) (c : Cl) (w : World) (hA : Holds w v l) :
    Calls Try.prog 7 #[v, c.v] w fun e w' => e = .returned (.bool true) ∧ Below w.heap.size w w' := by
  by_cases hl : l.length ≤ 30
  · by_cases he : (rmR (someL l) c).2.1 = 0
    · rcases rmR_is (someL l) c with ⟨h0, _⟩ | ⟨a, hk, hw, hlen, hr⟩
      · exact absurd he h0
      · have hg : (rmK (someL l) c).Goes ((rmK (someL l) c).way.1, (rmK (someL l) c).way.2.1, 0) := by
          have := hk.ok.way
          rw [show (rmK (someL l) c).way = ((rmK (someL l) c).way.1, (rmK (someL l) c).way.2.1, 0) from Prod.ext rfl (Prod.ext rfl hw)] at this
          exact this
        have hYr : RightL (rmK (someL l) c).way.1 := hk.ok.right hk.ok.way
        obtain ⟨m, k, N, O, hp, _, _⟩ := keeps_is hk hg
        refine others_ok l v c w hl hA a hk _ _ hYr hr ?_ fun p h1 h2 => others_is hk hg p h1 h2
        have q1 := hp.x; have q2 := hp.a; have q3 := hp.c; have q4 := hp.m; have q5 := hp.k
        omega
    · exact others_err l v c w hl hA he
  · obtain ⟨A, cc, rfl⟩ := hA.is
    exact others_many A l.length cc c w (by omega)
end Go.Proofs.Ytbfphoajllmcpaa
