/-
  Texts of our own, one behind the other (RmGo): what the laws' proofs rest on; each says at its head what it holds. No conditions.
-/
import Derived.Test.YtholpgcghpikgaaGreatPkQc
/-
  Layer 12: the ways together, and a remap: a contract for each call.
-/
namespace Go.Proofs.YtholpgcghpikgaaGreat
open Go.ChangeShapes Go.WideShapes Go.ChangeAt Go.RowKit Go.Shelf
set_option linter.unusedVariables false

section
variable {w : World} {v : Value} {X : List Ar}
set_option maxRecDepth 4000 in
set_option maxHeartbeats 4000000 in
theorem remapped_err (h : Holds w v X) (hl : X.length ≤ 10000) (c : Cl) (he : rmE X c ≠ 0) : Calls Tryz.prog 46 #[v, c.v] w (Way w ([], 0, rmE X c)) := by
  have G := Lib.hid ((Bag.new w).add 38 c.cells)
  have KX := Lib.hid (h.still G.out.bel)
  have CA : Hid (∀ w' u, Holds w' u X → Calls Tryz.prog 81 #[u, c.v] w' fun e w'' => e = .returned (.tuple #[.agg #[.slice none 0 0, .int .i64 0, .int .i64 0, .int .i64 0, .bool false, .int .i64 0, .int .i64 0, .int .i64 0, .int .i64 0, .int .i64 0], .int .i64 (rmE X c)]) ∧ Below w'.heap.size w' w'') := Lib.hid (fun w' u h => ask_err h hl c he)
  generalize rmE X c = ee at *
  have he' : (ee != 0) = true := by simpa using he
  obtain ⟨A, cc, rfl⟩ := h.is
  clear h hl he
  generalize hn : X.length = n at *
  clear hn
  obtain ⟨ck, ca, cn, cnw, ctw, cp, cf, cb, co⟩ := c
  unfold Cl.v at *
  simp only [Cl.cells] at *
  go_enter Tryz.func46, Tryz.ntmps46
  obtain ⟨c0, c1, c2, c3, c4, c5, c6, c7, c8⟩ := nineA G.out.v0
  go_wp2_with fail
  refine (CA.out _ _ KX.out).mono ?_
  rintro e w1 ⟨rfl, hb⟩
  have G := Lib.hid ((G.out.still hb).add 111 #[.slice none 0 0, .int .i64 0, .int .i64 0, .int .i64 0, .bool false, .int .i64 0, .int .i64 0, .int .i64 0, .int .i64 0, .int .i64 0])
  clear hb CA KX c0 c1 c2 c3 c4 c5 c6 c7 c8
  go_wp2_with fail
  go_ret3
  exact ⟨_, rfl, Holds.nil _, G.out.bel⟩

/-- One way of four is gone, by the flags and the sizes. -/
theorem way_is (a : Ask) : (bitF a.f 1 = true ∧ a.way = a.fx) ∨ (bitF a.f 1 = false ∧ bitF a.f 32 = true ∧ a.way = a.el) ∨ (bitF a.f 1 = false ∧ bitF a.f 32 = false ∧ a.more ≤ 0 ∧ a.way = a.sh) ∨ (bitF a.f 1 = false ∧ bitF a.f 32 = false ∧ ¬ a.more ≤ 0 ∧ a.way = a.gr) := by
  unfold Ask.way
  cases h1 : bitF a.f 1 with
  | true => exact .inl ⟨rfl, if_pos rfl⟩
  | false =>
    rw [if_neg (by simp)]
    cases h2 : bitF a.f 32 with
    | true => exact .inr (.inl ⟨rfl, rfl, if_pos rfl⟩)
    | false =>
      rw [if_neg (by simp)]
      by_cases h3 : a.more ≤ 0
      · exact .inr (.inr (.inl ⟨rfl, rfl, h3, if_pos h3⟩))
      · exact .inr (.inr (.inr ⟨rfl, rfl, h3, if_neg h3⟩))
set_option maxRecDepth 4000 in
set_option maxHeartbeats 8000000 in
theorem remapped_ok (h : Holds w v X) (hl : X.length ≤ 10000) (c : Cl) (he : rmE X c = 0) : Calls Tryz.prog 46 #[v, c.v] w (Way w (rmK X c).way) := by
  obtain ⟨b, hb⟩ := rm_zero.1 he
  have hk := hb.ok
  have G := Lib.hid ((Bag.new w).add 38 c.cells)
  have KX := Lib.hid (h.still G.out.bel)
  have HL : (rmK X c).l = X := rfl
  have CA : Hid (∀ w' u, Holds w' u X → Calls Tryz.prog 81 #[u, c.v] w' fun e w'' => e = .returned (.tuple #[(rmK X c).v u, .int .i64 0]) ∧ Below w'.heap.size w' w'') := Lib.hid (fun w' u h => ask_ok h hl c he)
  have C1 : Hid (∀ w' u, Holds w' u X → Calls Tryz.prog 82 #[(rmK X c).v u] w' (Way w' (rmK X c).fx)) := Lib.hid (fun w' u h => fixed_c h hk)
  have C2 : Hid ((rmK X c).ofE = 0 → ∀ w' u, Holds w' u X → Calls Tryz.prog 83 #[(rmK X c).v u] w' (Way w' (rmK X c).el)) := Lib.hid (fun ho w' u h => else_c h hk ho)
  have C3 : Hid (∀ w' u, Holds w' u X → Calls Tryz.prog 85 #[(rmK X c).v u] w' (Way w' (rmK X c).sh)) := Lib.hid (fun w' u h => shrunk_c h hk)
  have C4 : Hid (∀ w' u, Holds w' u X → Calls Tryz.prog 86 #[(rmK X c).v u] w' (Way w' (rmK X c).gr)) := Lib.hid (fun w' u h => grown_c h hk)
  have CQ : Hid (∀ u, Says 84 #[(rmK X c).v u] (.int .i64 (rmK X c).more)) := Lib.hid (fun u => more_any _ hk u)
  have hs : bitF (rmK X c).f 32 = true → (rmK X c).ofE = 0 := fun k => hk.of_same (by have := hk.same k; omega)
  have hway := way_is (rmK X c)
  clear he hb hk HL
  generalize rmK X c = K at *
  unfold Way at *
  generalize K.way = kw at *
  generalize K.fx = k1 at *
  generalize K.el = k2 at *
  generalize K.sh = k3 at *
  generalize K.gr = k4 at *
  generalize K.more = mo at *
  generalize K.ofE = oe at *
  obtain ⟨X', ⟨s, t, p, sh, bk, off⟩, z, tg, f⟩ := K
  unfold Ask.v Ask.cells at *
  simp only at CA C1 C2 C3 C4 CQ hs hway
  obtain ⟨A, cc, rfl⟩ := h.is
  clear h hl
  generalize hn : X.length = n at *
  clear hn
  obtain ⟨ck, ca, cn, cnw, ctw, cp, cf, cb, co⟩ := c
  unfold Cl.v at *
  simp only [Cl.cells] at *
  rcases hway with ⟨e1, rfl⟩ | ⟨e1, e2, rfl⟩ | ⟨e1, e2, e3, rfl⟩ | ⟨e1, e2, e3, rfl⟩
  · have b1 : (bits .and .i64 f 1 != 0) = true := e1
    clear hs C2 C3 C4 CQ
    go_enter Tryz.func46, Tryz.ntmps46
    obtain ⟨c0, c1, c2, c3, c4, c5, c6, c7, c8⟩ := nineA G.out.v0
    go_wp2_with fail
    refine (CA.out _ _ KX.out).mono ?_
    rintro e w1 ⟨rfl, hb⟩
    have G := Lib.hid ((G.out.still hb).add 111 #[.slice A n cc, .int .i64 s, .int .i64 t, .int .i64 p, .bool sh, .int .i64 bk, .int .i64 off, .int .i64 z, .int .i64 tg, .int .i64 f])
    have KX := Lib.hid ((KX.out.still hb).still (below_new w1 (.cells #[.slice A n cc, .int .i64 s, .int .i64 t, .int .i64 p, .bool sh, .int .i64 bk, .int .i64 off, .int .i64 z, .int .i64 tg, .int .i64 f] 111)))
    clear hb CA c0 c1 c2 c3 c4 c5 c6 c7 c8
    go_upto_region 3 with (fail)
    generalize hw2 : World.alloc w1 _ = w2 at *
    clear hw2
    generalize w1.heap.size = q at *
    obtain ⟨d0, d1, d2, d3, d4, d5, d6, d7, d8, d9⟩ := row10 G.out.v0
    go_wp2_with fail
    refine (C1.out _ _ KX.out).mono ?_
    rintro e wm ⟨vm, rfl, hm, hb⟩
    have G := Lib.hid (G.out.still hb)
    have KM := Lib.hid hm
    clear hb hm C1 KX d0 d1 d2 d3 d4 d5 d6 d7 d8 d9
    go_wp2_with fail
    go_ret3
    exact ⟨_, rfl, KM.out, G.out.bel⟩
  · have b1 : (bits .and .i64 f 1 != 0) = false := e1
    have b2 : (bits .and .i64 f 32 != 0) = true := e2
    have C2 := Lib.hid (C2.out (hs e2))
    clear hs C1 C3 C4 CQ
    go_enter Tryz.func46, Tryz.ntmps46
    obtain ⟨c0, c1, c2, c3, c4, c5, c6, c7, c8⟩ := nineA G.out.v0
    go_wp2_with fail
    refine (CA.out _ _ KX.out).mono ?_
    rintro e w1 ⟨rfl, hb⟩
    have G := Lib.hid ((G.out.still hb).add 111 #[.slice A n cc, .int .i64 s, .int .i64 t, .int .i64 p, .bool sh, .int .i64 bk, .int .i64 off, .int .i64 z, .int .i64 tg, .int .i64 f])
    have KX := Lib.hid ((KX.out.still hb).still (below_new w1 (.cells #[.slice A n cc, .int .i64 s, .int .i64 t, .int .i64 p, .bool sh, .int .i64 bk, .int .i64 off, .int .i64 z, .int .i64 tg, .int .i64 f] 111)))
    clear hb CA c0 c1 c2 c3 c4 c5 c6 c7 c8
    go_upto_region 3 with (fail)
    generalize hw2 : World.alloc w1 _ = w2 at *
    clear hw2
    generalize w1.heap.size = q at *
    obtain ⟨d0, d1, d2, d3, d4, d5, d6, d7, d8, d9⟩ := row10 G.out.v0
    go_wp2_with fail
    refine (C2.out _ _ KX.out).mono ?_
    rintro e wm ⟨vm, rfl, hm, hb⟩
    have G := Lib.hid (G.out.still hb)
    have KM := Lib.hid hm
    clear hb hm C2 KX d0 d1 d2 d3 d4 d5 d6 d7 d8 d9
    go_wp2_with fail
    go_ret3
    exact ⟨_, rfl, KM.out, G.out.bel⟩
  · have b1 : (bits .and .i64 f 1 != 0) = false := e1
    have b2 : (bits .and .i64 f 32 != 0) = false := e2
    clear hs C1 C2 C4
    go_enter Tryz.func46, Tryz.ntmps46
    obtain ⟨c0, c1, c2, c3, c4, c5, c6, c7, c8⟩ := nineA G.out.v0
    go_wp2_with fail
    refine (CA.out _ _ KX.out).mono ?_
    rintro e w1 ⟨rfl, hb⟩
    have G := Lib.hid ((G.out.still hb).add 111 #[.slice A n cc, .int .i64 s, .int .i64 t, .int .i64 p, .bool sh, .int .i64 bk, .int .i64 off, .int .i64 z, .int .i64 tg, .int .i64 f])
    have KX := Lib.hid ((KX.out.still hb).still (below_new w1 (.cells #[.slice A n cc, .int .i64 s, .int .i64 t, .int .i64 p, .bool sh, .int .i64 bk, .int .i64 off, .int .i64 z, .int .i64 tg, .int .i64 f] 111)))
    clear hb CA c0 c1 c2 c3 c4 c5 c6 c7 c8
    go_upto_region 3 with (fail)
    generalize hw2 : World.alloc w1 _ = w2 at *
    clear hw2
    generalize w1.heap.size = q at *
    obtain ⟨d0, d1, d2, d3, d4, d5, d6, d7, d8, d9⟩ := row10 G.out.v0
    go_wp2_with fail
    refine (CQ.out _ _).mono ?_
    rintro e w3 ⟨rfl, hb⟩
    have G := Lib.hid (G.out.still hb)
    have KX := Lib.hid (KX.out.still hb)
    clear hb CQ d0 d1 d2 d3 d4 d5 d6 d7 d8 d9
    obtain ⟨d0, d1, d2, d3, d4, d5, d6, d7, d8, d9⟩ := row10 G.out.v0
    go_wp2_with fail
    refine (C3.out _ _ KX.out).mono ?_
    rintro e wm ⟨vm, rfl, hm, hb⟩
    have G := Lib.hid (G.out.still hb)
    have KM := Lib.hid hm
    clear hb hm C3 KX d0 d1 d2 d3 d4 d5 d6 d7 d8 d9
    go_wp2_with fail
    go_ret3
    exact ⟨_, rfl, KM.out, G.out.bel⟩
  · have b1 : (bits .and .i64 f 1 != 0) = false := e1
    have b2 : (bits .and .i64 f 32 != 0) = false := e2
    clear hs C1 C2 C3
    go_enter Tryz.func46, Tryz.ntmps46
    obtain ⟨c0, c1, c2, c3, c4, c5, c6, c7, c8⟩ := nineA G.out.v0
    go_wp2_with fail
    refine (CA.out _ _ KX.out).mono ?_
    rintro e w1 ⟨rfl, hb⟩
    have G := Lib.hid ((G.out.still hb).add 111 #[.slice A n cc, .int .i64 s, .int .i64 t, .int .i64 p, .bool sh, .int .i64 bk, .int .i64 off, .int .i64 z, .int .i64 tg, .int .i64 f])
    have KX := Lib.hid ((KX.out.still hb).still (below_new w1 (.cells #[.slice A n cc, .int .i64 s, .int .i64 t, .int .i64 p, .bool sh, .int .i64 bk, .int .i64 off, .int .i64 z, .int .i64 tg, .int .i64 f] 111)))
    clear hb CA c0 c1 c2 c3 c4 c5 c6 c7 c8
    go_upto_region 3 with (fail)
    generalize hw2 : World.alloc w1 _ = w2 at *
    clear hw2
    generalize w1.heap.size = q at *
    obtain ⟨d0, d1, d2, d3, d4, d5, d6, d7, d8, d9⟩ := row10 G.out.v0
    go_wp2_with fail
    refine (CQ.out _ _).mono ?_
    rintro e w3 ⟨rfl, hb⟩
    have G := Lib.hid (G.out.still hb)
    have KX := Lib.hid (KX.out.still hb)
    clear hb CQ d0 d1 d2 d3 d4 d5 d6 d7 d8 d9
    obtain ⟨d0, d1, d2, d3, d4, d5, d6, d7, d8, d9⟩ := row10 G.out.v0
    go_wp2_with fail
    refine (C4.out _ _ KX.out).mono ?_
    rintro e wm ⟨vm, rfl, hm, hb⟩
    have G := Lib.hid (G.out.still hb)
    have KM := Lib.hid hm
    clear hb hm C4 KX d0 d1 d2 d3 d4 d5 d6 d7 d8 d9
    go_wp2_with fail
    go_ret3
    exact ⟨_, rfl, KM.out, G.out.bel⟩
set_option maxRecDepth 4000 in
theorem remapped_c (h : Holds w v X) (hl : X.length ≤ 10000) (c : Cl) : Calls Tryz.prog 46 #[v, c.v] w (Way w (rmW X c)) := by
  unfold rmW
  by_cases he : rmE X c = 0
  · rw [if_pos he]; exact remapped_ok h hl c he
  · rw [if_neg he]; exact remapped_err h hl c he

/-! A remap. -/
set_option maxRecDepth 4000 in
set_option maxHeartbeats 8000000 in
theorem remap_bad (h : Holds w v X) (hl : X.length ≤ 10000) (c : Cl) {ke kx : Int} {Z : List Ar} {e : Int} (he : e ≠ 0) (hf : firstE [(rmW X c).2.2, ke] = e)
    (hk : ∀ w' u u', Holds w' u X → Holds w' u' (rmW X c).1 → Calls Tryz.prog 38 #[u, u', .int .i64 (rmW X c).2.1] w' (Gives w' Z ke kx)) : Calls Tryz.prog 22 #[v, c.v] w (Gives w X e 0) := by
  have G := Lib.hid (((Bag.new w).add 38 c.cells).add 34 (ansC 0 0))
  rw [World.size_alloc] at G
  have KX := Lib.hid (h.still G.out.bel)
  have CM : Hid (∀ w' u, Holds w' u X → Calls Tryz.prog 46 #[u, c.v] w' fun e w'' => ∃ v', e = .returned (.tuple #[v', .int .i64 (rmW X c).2.1, .int .i64 (rmW X c).2.2]) ∧ Holds w'' v' (rmW X c).1 ∧ Below w'.heap.size w' w'') := Lib.hid (fun w' u h => remapped_c h hl c)
  have CK : Hid (∀ w' u u', Holds w' u X → Holds w' u' (rmW X c).1 → Calls Tryz.prog 38 #[u, u', .int .i64 (rmW X c).2.1] w' fun e w'' => ∃ v', e = .returned (.tuple #[v', .agg #[.int .i64 ke, .int .i64 kx, .int .i64 0, .bool false, .int .i64 0, .int .i64 0]]) ∧ Mine w'.heap.size w'' v' Z ∧ Below w'.heap.size w' w'') := Lib.hid hk
  have CC : Hid (∀ w' u, Holds w' u X → Calls Tryz.prog 18 #[u] w' fun e w'' => ∃ v', e = .returned v' ∧ Mine w'.heap.size w'' v' X ∧ Below w'.heap.size w' w'') := Lib.hid (fun w' u h => clone_c h hl)
  have he' : (e != 0) = true := by simpa using he
  clear hk he
  generalize (rmW X c).1 = P at *
  generalize (rmW X c).2.1 = ax at *
  generalize (rmW X c).2.2 = we at *
  have CO : Hid (∀ W : World, Calls Tryz.prog 41 #[.slice (some ⟨W.heap.size, 0, none⟩) 2 2] (W.alloc (.cells #[.int .i64 we, .int .i64 ke] 30)) fun r w' => r = .returned (.int .i64 e) ∧ w' = W.alloc (.cells #[.int .i64 we, .int .i64 ke] 30)) := Lib.hid (fun W => by
    have := or_two W 30 we ke
    rwa [hf] at this)
  clear hf
  obtain ⟨A, cc, rfl⟩ := h.is
  clear h hl
  generalize hn : X.length = n at *
  clear hn
  obtain ⟨ck, ca, cn, cnw, ctw, cp, cf, cb, co⟩ := c
  unfold Cl.v ansC at *
  simp only [Cl.cells] at *
  go_enter Tryz.func22, Tryz.ntmps22
  obtain ⟨c0, c1, c2, c3, c4, c5, c6, c7, c8⟩ := nineA G.out.v1
  go_wp2_with fail
  refine (CM.out _ _ KX.out).mono ?_
  rintro r w1 ⟨v1, rfl, hp, hb⟩
  obtain ⟨A1, dd, rfl⟩ := hp.is
  have G := Lib.hid (G.out.still hb)
  have KX := Lib.hid (KX.out.still hb)
  have KP := Lib.hid hp
  clear hb hp CM c0 c1 c2 c3 c4 c5 c6 c7 c8
  generalize hn : P.length = m at *
  clear hn
  go_wp2_with fail
  refine (CK.out _ _ _ KX.out KP.out).mono ?_
  rintro r w2 ⟨v2, rfl, hm, hb⟩
  have G := Lib.hid ((G.out.still hb).add 34 #[.int .i64 ke, .int .i64 kx, .int .i64 0, .bool false, .int .i64 0, .int .i64 0])
  have KX := Lib.hid ((KX.out.still hb).still (below_new w2 (.cells #[.int .i64 ke, .int .i64 kx, .int .i64 0, .bool false, .int .i64 0, .int .i64 0] 34)))
  clear hm hb CK KP
  go_upto_region 3 with (fail)
  generalize hw3 : World.alloc w2 _ = w3 at *
  clear hw3
  generalize w2.heap.size = q at *
  obtain ⟨d0, d1, d2, d3, d4, d5⟩ := row6 G.out.v0
  go_wp2_with fail
  refine (CO.out _).mono ?_
  rintro r w4 ⟨rfl, hw⟩
  have BN : Hid (Below w3.heap.size w3 w4) := Lib.hid (by rw [hw]; exact below_new _ _)
  have G := Lib.hid (G.out.still BN.out)
  have KX := Lib.hid (KX.out.still BN.out)
  clear hw CO BN d0 d1 d2 d3 d4 d5
  go_wp2_with fail
  refine (CC.out _ _ KX.out).mono ?_
  rintro r w5 ⟨v5, rfl, hm, hb⟩
  have SZ := Lib.hid G.out.bel.size
  have G := Lib.hid (G.out.still hb)
  have M := Lib.hid (hm.base SZ.out)
  clear hm hb CC KX
  obtain ⟨⟨d0, d1, d2, d3, d4, d5⟩, ⟨f0, f1, f2, f3, f4, f5⟩⟩ := six_of G.out.v1
  go_wp2_with fail
  refine bodyPost_ret (results_tmp_row rfl _ _ (w.heap.size + 1) 34 (ansC e 0) (0, 0) _ rfl (six_put G.out.v1 _ _ _ _ _ _) Tryz.underlying34 rfl (by kernel_rfl)) rfl ?_
  exact ⟨v5, rfl, mine_far M.out G.out.v1 _ _ _ _ _ _, G.out.bel.trans ((six_only w5 (w.heap.size + 1) _ _ _ _ _ _).below (fun k hk => by omega) G.out.bel.size)⟩

set_option maxRecDepth 4000 in
set_option maxHeartbeats 8000000 in
theorem remap_good (h : Holds w v X) (hl : X.length ≤ 10000) (c : Cl) (he : (rmW X c).2.2 = 0) (hm : (rmW X c).1.length ≤ 24) : Calls Tryz.prog 22 #[v, c.v] w (Gives w (rmW X c).1 0 (rmW X c).2.1) := by
  have G := Lib.hid (((Bag.new w).add 38 c.cells).add 34 (ansC 0 0))
  rw [World.size_alloc] at G
  have KX := Lib.hid (h.still G.out.bel)
  have CM : Hid (∀ w' u, Holds w' u X → Calls Tryz.prog 46 #[u, c.v] w' fun e w'' => ∃ v', e = .returned (.tuple #[v', .int .i64 (rmW X c).2.1, .int .i64 (rmW X c).2.2]) ∧ Holds w'' v' (rmW X c).1 ∧ Below w'.heap.size w' w'') := Lib.hid (fun w' u h => remapped_c h hl c)
  have CK : Hid (∀ w' u u', Holds w' u X → Holds w' u' (rmW X c).1 → Calls Tryz.prog 38 #[u, u', .int .i64 (rmW X c).2.1] w' fun e w'' => ∃ v', e = .returned (.tuple #[v', .agg #[.int .i64 0, .int .i64 (rmW X c).2.1, .int .i64 0, .bool false, .int .i64 0, .int .i64 0]]) ∧ Mine w'.heap.size w'' v' (rmW X c).1 ∧ Below w'.heap.size w' w'') := Lib.hid (fun w' u u' h h' => kept_few h h' hm _)
  rw [he] at CM
  clear he hm
  generalize (rmW X c).1 = P at *
  generalize (rmW X c).2.1 = ax at *
  have CO : Hid (∀ W : World, Calls Tryz.prog 41 #[.slice (some ⟨W.heap.size, 0, none⟩) 2 2] (W.alloc (.cells #[.int .i64 0, .int .i64 0] 30)) fun r w' => r = .returned (.int .i64 0) ∧ w' = W.alloc (.cells #[.int .i64 0, .int .i64 0] 30)) := Lib.hid (fun W => or_two W 30 0 0)
  obtain ⟨A, cc, rfl⟩ := h.is
  clear h hl
  generalize hn : X.length = n at *
  clear hn
  obtain ⟨ck, ca, cn, cnw, ctw, cp, cf, cb, co⟩ := c
  unfold Cl.v ansC at *
  simp only [Cl.cells] at *
  go_enter Tryz.func22, Tryz.ntmps22
  obtain ⟨c0, c1, c2, c3, c4, c5, c6, c7, c8⟩ := nineA G.out.v1
  go_wp2_with fail
  refine (CM.out _ _ KX.out).mono ?_
  rintro r w1 ⟨v1, rfl, hp, hb⟩
  obtain ⟨A1, dd, rfl⟩ := hp.is
  have G := Lib.hid (G.out.still hb)
  have KX := Lib.hid (KX.out.still hb)
  have KP := Lib.hid hp
  clear hb hp CM c0 c1 c2 c3 c4 c5 c6 c7 c8
  generalize hn : P.length = m at *
  clear hn
  go_wp2_with fail
  refine (CK.out _ _ _ KX.out KP.out).mono ?_
  rintro r w2 ⟨v2, rfl, hm, hb⟩
  have SZ := Lib.hid G.out.bel.size
  have G := Lib.hid ((G.out.still hb).add 34 #[.int .i64 0, .int .i64 ax, .int .i64 0, .bool false, .int .i64 0, .int .i64 0])
  have M := Lib.hid ((hm.base SZ.out).still (below_new w2 (.cells #[.int .i64 0, .int .i64 ax, .int .i64 0, .bool false, .int .i64 0, .int .i64 0] 34)))
  clear hm hb CK KP KX
  go_upto_region 3 with (fail)
  generalize hw3 : World.alloc w2 _ = w3 at *
  clear hw3
  generalize w2.heap.size = q at *
  obtain ⟨d0, d1, d2, d3, d4, d5⟩ := row6 G.out.v0
  go_wp2_with fail
  refine (CO.out _).mono ?_
  rintro r w4 ⟨rfl, hw⟩
  have BN : Hid (Below w3.heap.size w3 w4) := Lib.hid (by rw [hw]; exact below_new _ _)
  have G := Lib.hid (G.out.still BN.out)
  have M := Lib.hid (M.out.still BN.out)
  clear hw CO BN d0 d1 d2 d3 d4 d5
  obtain ⟨d0, d1, d2, d3, d4, d5⟩ := row6 G.out.v0
  obtain ⟨⟨g0, g1, g2, g3, g4, g5⟩, ⟨f0, f1, f2, f3, f4, f5⟩⟩ := six_of G.out.v1
  go_upto_region 6 with (fail)
  go_region
  have GW : Hid (Whole (set6 w4 (w.heap.size + 1) (.int .i64 0) (.int .i64 ax) (.int .i64 0) (.bool false) (.int .i64 0) (.int .i64 0)).drew (w.heap.size + 1) 34 (ansC 0 ax)) := Lib.hid (six_put G.out.v1 _ _ _ _ _ _).drew
  have MM : Hid (Mine w.heap.size (set6 w4 (w.heap.size + 1) (.int .i64 0) (.int .i64 ax) (.int .i64 0) (.bool false) (.int .i64 0) (.int .i64 0)).drew v2 P) := Lib.hid ((mine_far M.out G.out.v1 _ _ _ _ _ _).still (below_drew (Below.refl _ _)))
  have HB : Hid (Below w.heap.size w (set6 w4 (w.heap.size + 1) (.int .i64 0) (.int .i64 ax) (.int .i64 0) (.bool false) (.int .i64 0) (.int .i64 0)).drew) := Lib.hid (below_drew (G.out.bel.trans ((six_only w4 (w.heap.size + 1) _ _ _ _ _ _).below (fun k hk => by omega) G.out.bel.size)))
  clear M G d0 d1 d2 d3 d4 d5 g0 g1 g2 g3 g4 g5 f0 f1 f2 f3 f4 f5
  unfold set6 at GW MM HB
  generalize World.drew _ = wz at *
  go_wp2_with fail
  refine bodyPost_ret (results_tmp_row rfl _ _ (w.heap.size + 1) 34 (ansC 0 ax) (0, 0) _ rfl GW.out Tryz.underlying34 rfl (by kernel_rfl)) rfl ?_
  exact ⟨v2, rfl, MM.out, HB.out⟩

theorem remap_c (h : Holds w v X) (hl : X.length ≤ 10000) (c : Cl) : Calls Tryz.prog 22 #[v, c.v] w (Gives w (rmR X c).1 (rmR X c).2.1 (rmR X c).2.2) := by
  unfold rmR
  by_cases he : (rmW X c).2.2 = 0
  · rw [if_pos he]
    by_cases hm : (rmW X c).1.length ≤ 24
    · rw [if_pos hm]; exact remap_good h hl c he hm
    · rw [if_neg hm]
      exact remap_bad h hl c (ke := 9) (kx := 0) (Z := X) (e := 9) (by decide) (by rw [he]; rfl) fun w' u u' h1 h2 => kept_many h1 hl h2 (by omega) _
  · rw [if_neg he]
    have hz : (rmW X c).1 = [] := by
      unfold rmW at he ⊢
      by_cases h0 : rmE X c = 0
      · rw [if_pos h0] at he ⊢
        obtain ⟨b, hb⟩ := rm_zero.1 h0
        have hg := hb.ok.way
        generalize (rmK X c).way = r at *
        cases hg with
        | err e k => rfl
        | mv x _ _ => exact absurd rfl he
        | sh _ _ => exact absurd rfl he
      · rw [if_neg h0]
    exact remap_bad h hl c (ke := 0) (kx := (rmW X c).2.1) (Z := []) he (by unfold firstE; rw [if_neg he]) fun w' u u' h1 h2 => by
      rw [hz] at h2
      exact kept_few h1 h2 (by simp) _
end
end Go.Proofs.YtholpgcghpikgaaGreat
