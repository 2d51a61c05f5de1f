/-
  Texts of our own, one behind the other (ProtRefF): what the laws' proofs rest on; each says at its head what it holds. No conditions.
-/
import Derived.Test.YtholpgcghpikgaaGreatPkPc
import Derived.Test.YtholpgcghpikgaaGreatPkB
/-
  Layer 11: the reference's Fault: a contract.
-/
namespace Go.Proofs.YtholpgcghpikgaaGreat
open Go.ChangeShapes Go.WideShapes Go.ChangeAt Go.RowKit Go.Shelf
set_option linter.unusedVariables false
attribute [local go_sem ↓] Go.wp_at_zero Go.wp_at_succ

theorem At.nil_is : At.nil = ⟨0, false, 0, 0⟩ := rfl
section
variable {w : World} {v : Value} {X : List Ar}
set_option maxRecDepth 100000 in
set_option maxHeartbeats 4000000 in
theorem rf_low (h : Holds w v X) (hX : RightL X) (c : Cl) (hp : c.p < 1) : Calls Tryz.prog 33 #[v, c.v] w fun e w' => e = .returned (.agg (ansT 1 At.nil)) ∧ Below w.heap.size w w' := by
  have G := Lib.hid (((Bag.new w).add 38 c.cells).add 34 (ansC 0 0))
  rw [World.size_alloc] at G
  have KX := Lib.hid (h.still G.out.bel)
  obtain ⟨A, cc, rfl⟩ := h.is
  clear h
  generalize hn : X.length = n at *
  clear hn
  obtain ⟨ck, ca, cn, cnw, ctw, cp, cf, cb, co⟩ := c
  unfold Cl.v
  simp only [Cl.cells] at *
  go_enter Tryz.func33, Tryz.ntmps33
  have c1 := (G.out.v1).cell 1
  have c5 := (G.out.v1).cell 5
  simp only [List.getElem?_toArray, List.getElem?_cons_succ, List.getElem?_cons_zero] at c1 c5
  go_wp2_with fail
  refine bodyPost_ret (results_cell_row rfl _ _ (w.heap.size + 1) 34 _ (0, 0) _ rfl (heap_alloc2_new _ _ _) Tryz.underlying34 rfl (by kernel_rfl)) rfl ?_
  exact ⟨rfl, below_new2 _ _ _⟩

set_option maxRecDepth 100000 in
set_option maxHeartbeats 4000000 in
theorem rf_high (h : Holds w v X) (hX : RightL X) (c : Cl) (hp0 : ¬ c.p < 1) (hp : 7 < c.p) : Calls Tryz.prog 33 #[v, c.v] w fun e w' => e = .returned (.agg (ansT 1 At.nil)) ∧ Below w.heap.size w w' := by
  have G := Lib.hid (((Bag.new w).add 38 c.cells).add 34 (ansC 0 0))
  rw [World.size_alloc] at G
  have KX := Lib.hid (h.still G.out.bel)
  obtain ⟨A, cc, rfl⟩ := h.is
  clear h
  generalize hn : X.length = n at *
  clear hn
  obtain ⟨ck, ca, cn, cnw, ctw, cp, cf, cb, co⟩ := c
  unfold Cl.v
  simp only [Cl.cells] at *
  go_enter Tryz.func33, Tryz.ntmps33
  have c1 := (G.out.v1).cell 1
  have c5 := (G.out.v1).cell 5
  simp only [List.getElem?_toArray, List.getElem?_cons_succ, List.getElem?_cons_zero] at c1 c5
  go_wp2_with fail
  refine bodyPost_ret (results_cell_row rfl _ _ (w.heap.size + 1) 34 _ (0, 0) _ rfl (heap_alloc2_new _ _ _) Tryz.underlying34 rfl (by kernel_rfl)) rfl ?_
  exact ⟨rfl, below_new2 _ _ _⟩

set_option maxRecDepth 100000 in
set_option maxHeartbeats 4000000 in
theorem rf_below (h : Holds w v X) (hX : RightL X) (c : Cl) (hp0 : ¬ c.p < 1) (hp : ¬ 7 < c.p) (ha : c.a < 65536) : Calls Tryz.prog 33 #[v, c.v] w fun e w' => e = .returned (.agg (ansT 7 At.nil)) ∧ Below w.heap.size w w' := by
  have G := Lib.hid (((Bag.new w).add 38 c.cells).add 34 (ansC 0 0))
  rw [World.size_alloc] at G
  have KX := Lib.hid (h.still G.out.bel)
  have CO : Hid (∀ w' u, Holds w' u X → Calls Tryz.prog 63 #[u] w' fun e w'' => e = .returned (.agg (spl (spK X X.length) 512).toArray) ∧ Below w'.heap.size w' w'') := Lib.hid (fun w' u h => by
    obtain ⟨A, c, rfl, hc, hA⟩ := h
    exact ofL_any X hX A c w' hA)
  generalize spK X X.length = s at *
  obtain ⟨A, cc, rfl⟩ := h.is
  clear h
  generalize hn : X.length = n at *
  clear hn
  obtain ⟨ck, ca, cn, cnw, ctw, cp, cf, cb, co⟩ := c
  unfold Cl.v
  simp only [Cl.cells] at *
  go_enter Tryz.func33, Tryz.ntmps33
  have c1 := (G.out.v1).cell 1
  have c5 := (G.out.v1).cell 5
  simp only [List.getElem?_toArray, List.getElem?_cons_succ, List.getElem?_cons_zero] at c1 c5
  go_wp2_with fail
  refine (CO.out _ _ KX.out).mono ?_
  rintro e w2 ⟨rfl, hb⟩
  have G := Lib.hid (G.out.still hb)
  clear hb CO KX c1 c5
  have HC := Lib.hid (ChAt.new (Below.refl w2.heap.size w2) s)
  have TH : Hid ((w2.alloc (.cells Tryz.zeroCells97 97)).there w2.heap.size 0 (spl s 512).toArray.size) := Lib.hid (SpIn.there (s := fun _ => none) (by rw [zero_spc]; exact Whole.new _ _ _))
  have G := Lib.hid ((G.out.still HC.out.bel).join HC.out.s)
  clear HC
  go_upto_region 4 with (refine wpList_store_mid rfl 97 (.tmp 5) (.tmp 18) (by rfl) w2.heap.size 0 (spl s 512).toArray (by rfl) (by rfl) TH.out (space_size' _) (spl_one _ _) ?_)
  generalize hq : w2.heap.size = q at *
  clear TH hq
  generalize World.setCells _ _ _ _ = W1 at *
  have c1 := (G.out.v2).cell 1
  have c5 := (G.out.v2).cell 5
  simp only [List.getElem?_toArray, List.getElem?_cons_succ, List.getElem?_cons_zero] at c1 c5
  obtain ⟨⟨d0, d1, d2, d3, d4, d5⟩, ⟨f0, f1, f2, f3, f4, f5⟩⟩ := six_of (G.out.v1)
  go_wp2_with fail
  refine bodyPost_ret (results_cell_row rfl _ _ (w.heap.size + 1) 34 _ (0, 0) _ rfl (six_put (G.out.v1) _ _ _ _ _ _) Tryz.underlying34 rfl (by kernel_rfl)) rfl ?_
  exact ⟨rfl, G.out.bel.trans ((six_only _ (w.heap.size + 1) _ _ _ _ _ _).below (fun k hk => by omega) G.out.bel.size)⟩

set_option maxRecDepth 100000 in
set_option maxHeartbeats 4000000 in
theorem rf_above (h : Holds w v X) (hX : RightL X) (c : Cl) (hp0 : ¬ c.p < 1) (hp : ¬ 7 < c.p) (ha0 : ¬ c.a < 65536) (ha : 2097152 ≤ c.a) : Calls Tryz.prog 33 #[v, c.v] w fun e w' => e = .returned (.agg (ansT 7 At.nil)) ∧ Below w.heap.size w w' := by
  have G := Lib.hid (((Bag.new w).add 38 c.cells).add 34 (ansC 0 0))
  rw [World.size_alloc] at G
  have KX := Lib.hid (h.still G.out.bel)
  have CO : Hid (∀ w' u, Holds w' u X → Calls Tryz.prog 63 #[u] w' fun e w'' => e = .returned (.agg (spl (spK X X.length) 512).toArray) ∧ Below w'.heap.size w' w'') := Lib.hid (fun w' u h => by
    obtain ⟨A, c, rfl, hc, hA⟩ := h
    exact ofL_any X hX A c w' hA)
  generalize spK X X.length = s at *
  obtain ⟨A, cc, rfl⟩ := h.is
  clear h
  generalize hn : X.length = n at *
  clear hn
  obtain ⟨ck, ca, cn, cnw, ctw, cp, cf, cb, co⟩ := c
  unfold Cl.v
  simp only [Cl.cells] at *
  go_enter Tryz.func33, Tryz.ntmps33
  have c1 := (G.out.v1).cell 1
  have c5 := (G.out.v1).cell 5
  simp only [List.getElem?_toArray, List.getElem?_cons_succ, List.getElem?_cons_zero] at c1 c5
  go_wp2_with fail
  refine (CO.out _ _ KX.out).mono ?_
  rintro e w2 ⟨rfl, hb⟩
  have G := Lib.hid (G.out.still hb)
  clear hb CO KX c1 c5
  have HC := Lib.hid (ChAt.new (Below.refl w2.heap.size w2) s)
  have TH : Hid ((w2.alloc (.cells Tryz.zeroCells97 97)).there w2.heap.size 0 (spl s 512).toArray.size) := Lib.hid (SpIn.there (s := fun _ => none) (by rw [zero_spc]; exact Whole.new _ _ _))
  have G := Lib.hid ((G.out.still HC.out.bel).join HC.out.s)
  clear HC
  go_upto_region 4 with (refine wpList_store_mid rfl 97 (.tmp 5) (.tmp 18) (by rfl) w2.heap.size 0 (spl s 512).toArray (by rfl) (by rfl) TH.out (space_size' _) (spl_one _ _) ?_)
  generalize hq : w2.heap.size = q at *
  clear TH hq
  generalize World.setCells _ _ _ _ = W1 at *
  have c1 := (G.out.v2).cell 1
  have c5 := (G.out.v2).cell 5
  simp only [List.getElem?_toArray, List.getElem?_cons_succ, List.getElem?_cons_zero] at c1 c5
  obtain ⟨⟨d0, d1, d2, d3, d4, d5⟩, ⟨f0, f1, f2, f3, f4, f5⟩⟩ := six_of (G.out.v1)
  go_wp2_with fail
  refine bodyPost_ret (results_cell_row rfl _ _ (w.heap.size + 1) 34 _ (0, 0) _ rfl (six_put (G.out.v1) _ _ _ _ _ _) Tryz.underlying34 rfl (by kernel_rfl)) rfl ?_
  exact ⟨rfl, G.out.bel.trans ((six_only _ (w.heap.size + 1) _ _ _ _ _ _).below (fun k hk => by omega) G.out.bel.size)⟩

set_option maxRecDepth 100000 in
set_option maxHeartbeats 4000000 in
theorem rf_none (h : Holds w v X) (hX : RightL X) (c : Cl) (hp0 : ¬ c.p < 1) (hp : ¬ 7 < c.p) (ha0 : ¬ c.a < 65536) (ha : ¬ 2097152 ≤ c.a) (hs : ∀ m : Nat, c.a / 4096 = (m : Int) → spK X X.length m = none) : Calls Tryz.prog 33 #[v, c.v] w fun e w' => e = .returned (.agg (ansT 7 At.nil)) ∧ Below w.heap.size w w' := by
  have G := Lib.hid (((Bag.new w).add 38 c.cells).add 34 (ansC 0 0))
  rw [World.size_alloc] at G
  have KX := Lib.hid (h.still G.out.bel)
  obtain ⟨m, hm⟩ : ∃ m : Nat, c.a / 4096 = (m : Int) := ⟨(c.a / 4096).toNat, by omega⟩
  have hm1 : m < 512 := by omega
  have hz0 : (0 : Int) ≤ (m : Int) := by omega
  have hz1 : (m : Int) < 512 := by omega
  have q0 : c.a.tdiv 4096 = (m : Int) := by rw [tdiv_up (by omega)]; exact hm
  have zs : (0 : Int) ≤ c.a := by omega
  have HS := Lib.hid (hs m hm)
  clear hs
  have CO : Hid (∀ w' u, Holds w' u X → Calls Tryz.prog 63 #[u] w' fun e w'' => e = .returned (.agg (spl (spK X X.length) 512).toArray) ∧ Below w'.heap.size w' w'') := Lib.hid (fun w' u h => by
    obtain ⟨A, c, rfl, hc, hA⟩ := h
    exact ofL_any X hX A c w' hA)
  generalize spK X X.length = s at *
  obtain ⟨A, cc, rfl⟩ := h.is
  clear h
  generalize hn : X.length = n at *
  clear hn
  obtain ⟨ck, ca, cn, cnw, ctw, cp, cf, cb, co⟩ := c
  unfold Cl.v
  simp only [Cl.cells] at *
  go_enter Tryz.func33, Tryz.ntmps33
  have c1 := (G.out.v1).cell 1
  have c5 := (G.out.v1).cell 5
  simp only [List.getElem?_toArray, List.getElem?_cons_succ, List.getElem?_cons_zero] at c1 c5
  go_wp2_with fail
  refine (CO.out _ _ KX.out).mono ?_
  rintro e w2 ⟨rfl, hb⟩
  have G := Lib.hid (G.out.still hb)
  clear hb CO KX c1 c5
  have HC := Lib.hid (ChAt.new (Below.refl w2.heap.size w2) s)
  have TH : Hid ((w2.alloc (.cells Tryz.zeroCells97 97)).there w2.heap.size 0 (spl s 512).toArray.size) := Lib.hid (SpIn.there (s := fun _ => none) (by rw [zero_spc]; exact Whole.new _ _ _))
  have G := Lib.hid ((G.out.still HC.out.bel).join HC.out.s)
  clear HC
  go_upto_region 4 with (refine wpList_store_mid rfl 97 (.tmp 5) (.tmp 18) (by rfl) w2.heap.size 0 (spl s 512).toArray (by rfl) (by rfl) TH.out (space_size' _) (spl_one _ _) ?_)
  generalize hq : w2.heap.size = q at *
  clear TH hq
  generalize World.setCells _ _ _ _ = W1 at *
  have c1 := (G.out.v2).cell 1
  have c5 := (G.out.v2).cell 5
  simp only [List.getElem?_toArray, List.getElem?_cons_succ, List.getElem?_cons_zero] at c1 c5
  obtain ⟨⟨e0, e1, e2, e3, e4⟩, fz⟩ := SpIn.five (G.out.v0) (p := m) (by omega) HS.out
  clear HS fz e1 e2 e3 e4
  obtain ⟨⟨d0, d1, d2, d3, d4, d5⟩, ⟨f0, f1, f2, f3, f4, f5⟩⟩ := six_of (G.out.v1)
  go_wp2_with fail
  refine bodyPost_ret (results_cell_row rfl _ _ (w.heap.size + 1) 34 _ (0, 0) _ rfl (six_put (G.out.v1) _ _ _ _ _ _) Tryz.underlying34 rfl (by kernel_rfl)) rfl ?_
  exact ⟨rfl, G.out.bel.trans ((six_only _ (w.heap.size + 1) _ _ _ _ _ _).below (fun k hk => by omega) G.out.bel.size)⟩

/-- The bits that are asked, one behind the other. -/
def BitsTo (p k b : Int) : Prop := ∀ b' : Int, (b' = 1 ∨ b' = 2 ∨ b' = 4) → b' < b → badB p k b' = false
theorem bits_all {p k : Int} (h0 : 0 ≤ p) (h1 : p ≤ 7) (h2 : 1 ≤ k) (h3 : k ≤ 7) (h : BitsTo p k 8) : mayB p k = true := by
  rw [may_bits h0 h1 h2 h3, h 1 (by omega) (by omega), h 2 (by omega) (by omega), h 4 (by omega) (by omega)]; rfl
theorem bits_bad {p k b : Int} (h0 : 0 ≤ p) (h1 : p ≤ 7) (h2 : 1 ≤ k) (h3 : k ≤ 7) (hb : b = 1 ∨ b = 2 ∨ b = 4) (h : badB p k b = true) : mayB p k = false := by
  rw [may_bits h0 h1 h2 h3]
  rcases hb with rfl | rfl | rfl <;> rw [h] <;> simp
theorem bits_next {p k b : Int} (hb : b = 1 ∨ b = 2 ∨ b = 4) (h : BitsTo p k b) (hn : badB p k b = false) : BitsTo p k (b * 2) := fun b' h1 h2 => by
  by_cases h3 : b' < b
  · exact h b' h1 h3
  · obtain rfl : b' = b := by omega
    exact hn
theorem bit_of {p b : Int} (h0 : 0 ≤ p) (h1 : p ≤ 7) (hb : b = 1 ∨ b = 2 ∨ b = 4) : ∃ k m : Int, p.tdiv b = k ∧ 0 ≤ k ∧ k ≤ 7 ∧ k.tmod 2 = m ∧ k % 2 = m ∧ p / b = k ∧ p / b % 2 = m := by
  refine ⟨p / b, p / b % 2, Int.tdiv_eq_ediv_of_nonneg h0, ?_, ?_, Int.tmod_eq_emod_of_nonneg ?_, rfl, rfl, rfl⟩ <;> rcases hb with rfl | rfl | rfl <;> omega
set_option maxRecDepth 100000 in
set_option maxHeartbeats 8000000 in
theorem rf_some (h : Holds w v X) (hX : RightL X) (c : Cl) (hp0 : ¬ c.p < 1) (hp : ¬ 7 < c.p) (ha0 : ¬ c.a < 65536) (ha : ¬ 2097152 ≤ c.a) {x : At} (hs : ∀ m : Nat, c.a / 4096 = (m : Int) → spK X X.length m = some x) (hx0 : 0 ≤ x.p) (hx7 : x.p ≤ 7) {R : Array Value} (hr1 : mayB x.p c.p = true → R = ansT 0 x) (hr2 : mayB x.p c.p = false → R = ansT 8 At.nil) :
    Calls Tryz.prog 33 #[v, c.v] w fun e w' => e = .returned (.agg R) ∧ Below w.heap.size w w' := by
  have G := Lib.hid (((Bag.new w).add 38 c.cells).add 34 (ansC 0 0))
  rw [World.size_alloc] at G
  have KX := Lib.hid (h.still G.out.bel)
  obtain ⟨m, hm⟩ : ∃ m : Nat, c.a / 4096 = (m : Int) := ⟨(c.a / 4096).toNat, by omega⟩
  have hm1 : m < 512 := by omega
  have hz0 : (0 : Int) ≤ (m : Int) := by omega
  have hz1 : (m : Int) < 512 := by omega
  have q0 : c.a.tdiv 4096 = (m : Int) := by rw [tdiv_up (by omega)]; exact hm
  have zs : (0 : Int) ≤ c.a := by omega
  have HS := Lib.hid (hs m hm)
  have R1 := Lib.hid hr1
  have R2 := Lib.hid hr2
  clear hs hr1 hr2
  have CO : Hid (∀ w' u, Holds w' u X → Calls Tryz.prog 63 #[u] w' fun e w'' => e = .returned (.agg (spl (spK X X.length) 512).toArray) ∧ Below w'.heap.size w' w'') := Lib.hid (fun w' u h => by
    obtain ⟨A, c, rfl, hc, hA⟩ := h
    exact ofL_any X hX A c w' hA)
  generalize spK X X.length = s at *
  obtain ⟨A, cc, rfl⟩ := h.is
  clear h
  generalize hn : X.length = n at *
  clear hn
  obtain ⟨ck, ca, cn, cnw, ctw, cp, cf, cb, co⟩ := c
  unfold Cl.v
  simp only [Cl.cells] at *
  go_enter Tryz.func33, Tryz.ntmps33
  have c1 := (G.out.v1).cell 1
  have c5 := (G.out.v1).cell 5
  simp only [List.getElem?_toArray, List.getElem?_cons_succ, List.getElem?_cons_zero] at c1 c5
  obtain ⟨x0, x1, x2, x3⟩ := x
  simp only at hx0 hx7
  go_wp2_with fail
  refine (CO.out _ _ KX.out).mono ?_
  rintro e w2 ⟨rfl, hb⟩
  have G := Lib.hid (G.out.still hb)
  clear hb CO KX c1 c5
  have HC := Lib.hid (ChAt.new (Below.refl w2.heap.size w2) s)
  have TH : Hid ((w2.alloc (.cells Tryz.zeroCells97 97)).there w2.heap.size 0 (spl s 512).toArray.size) := Lib.hid (SpIn.there (s := fun _ => none) (by rw [zero_spc]; exact Whole.new _ _ _))
  have G := Lib.hid ((G.out.still HC.out.bel).join HC.out.s)
  clear HC
  go_upto_region 4 with (refine wpList_store_mid rfl 97 (.tmp 5) (.tmp 18) (by rfl) w2.heap.size 0 (spl s 512).toArray (by rfl) (by rfl) TH.out (space_size' _) (spl_one _ _) ?_)
  generalize hq : w2.heap.size = q at *
  clear TH hq
  generalize World.setCells _ _ _ _ = W1 at *
  have c1 := (G.out.v2).cell 1
  have c5 := (G.out.v2).cell 5
  simp only [List.getElem?_toArray, List.getElem?_cons_succ, List.getElem?_cons_zero] at c1 c5
  obtain ⟨e0, e1, e2, e3, e4⟩ := SpIn.some (G.out.v0) (p := m) (by omega) HS.out
  simp only at e1 e2 e3 e4
  clear HS
  have G := Lib.hid (G.out.add 32 #[.int .i64 x0, .bool x1, .int .i64 x2, .int .i64 x3])
  go_upto_region 7 with (fail)
  generalize hw : World.alloc W1 _ = W2 at *
  clear hw e0 e1 e2 e3 e4 c1 c5
  generalize W1.heap.size = qa at *
  have HM1 := Lib.hid (fun h => bits_all (k := cp) hx0 hx7 (by omega) (by omega) h)
  have HM2 := Lib.hid (fun b hb h => bits_bad (k := cp) (b := b) hx0 hx7 (by omega) (by omega) hb h)
  have HK := Lib.hid (fun b hb => bit_of (p := cp) (b := b) (by omega) (by omega) hb)
  have HX := Lib.hid (fun b hb => bit_of (p := x0) (b := b) hx0 hx7 hb)
  clear hm hm1 hz0 hz1 q0 zs ha0 ha
  go_wp2_with fail
  go_loopg [7] 8 (fun g s7 wr => ∃ b : Int, s7 = .int .i64 b ∧ (b = 1 ∨ b = 2 ∨ b = 4 ∨ b = 8) ∧ 8 - b.toNat ≤ g ∧ Hid (BitsTo x0 cp b) ∧ Hid (Bag w wr [(qa, 32, #[.int .i64 x0, .bool x1, .int .i64 x2, .int .i64 x3]), (q, 97, spc s), (w.heap.size + 1, 34, ansC 0 0), (w.heap.size, 38, #[.int .i64 ck, .int .i64 ca, .int .i64 cn, .int .i64 cnw, .int .i64 ctw, .int .i64 cp, .int .i64 cf, .int .i64 cb, .int .i64 co])]))
  case atStart => exact ⟨1, rfl, .inl rfl, by omega, Lib.hid (fun b' h1 h2 => by omega), G⟩
  case round =>
    clear G
    obtain ⟨b, rfl, hb, hg, HB, G⟩ := hrel
    by_cases hlt : b ≤ 4
    · have hb3 : b = 1 ∨ b = 2 ∨ b = 4 := by omega
      have hb0 : ¬ b = 0 := by omega
      have hb1 : (b == 0) = false := by simpa using hb0
      have hb2 : ¬ b = -1 := by omega
      have hbp : 0 < b := by omega
      have HN := Lib.hid (fun h => bits_next hb3 HB.out h)
      have HM2 := Lib.hid (HM2.out b hb3)
      have HDF : Hid (badB x0 cp b = (decide (cp / b % 2 = 1) && decide (x0 / b % 2 = 0))) := Lib.hid rfl
      obtain ⟨k, km, k1, k2, k3, k4, k5, k6, k7⟩ := HK.out b hb3
      obtain ⟨y, ym, y1, y2, y3, y4, y5, y6, y7⟩ := HX.out b hb3
      rw [k7, y7] at HDF
      have c5 := (G.out.v3).cell 5
      have e0 := (G.out.v0).cell 0
      simp only [List.getElem?_toArray, List.getElem?_cons_succ, List.getElem?_cons_zero] at e0 c5
      have K7 := Lib.hid k7
      have Y7 := Lib.hid y7
      clear k7 y7
      by_cases t1 : km = 1
      · by_cases t2 : ym = 0
        · have hbad := HM2.out (by rw [HDF.out, t1, t2]; rfl)
          have HR := Lib.hid (R2.out hbad)
          clear HM1 HM2 HK HX HN HDF HB hbad
          have t1' : (km == 1) = true := by simpa using t1
          have t2' : (ym == 0) = true := by simpa using t2
          obtain ⟨⟨d0, d1, d2, d3, d4, d5⟩, ⟨f0, f1, f2, f3, f4, f5⟩⟩ := six_of (G.out.v2)
          go_wp2_with fail
          refine bodyPost_ret (results_cell_row rfl _ _ (w.heap.size + 1) 34 _ (0, 0) _ rfl (six_put (G.out.v2) _ _ _ _ _ _) Tryz.underlying34 rfl (by kernel_rfl)) rfl ?_
          exact ⟨by rw [HR.out]; rfl, G.out.bel.trans ((six_only _ (w.heap.size + 1) _ _ _ _ _ _).below (fun k hk => by omega) G.out.bel.size)⟩
        · have hok : badB x0 cp b = false := by rw [HDF.out, decide_eq_false t2, Bool.and_false]
          have HB2 := Lib.hid (HN.out hok)
          clear HM2 HN HDF hok HB
          have t1' : (km == 1) = true := by simpa using t1
          have t2' : (ym == 0) = false := by simpa using t2
          go_wp2_with fail
          go_roundg (8 - (b * 2).toNat)
          case measure => omega
          case rel => exact ⟨b * 2, by go_num, by omega, by omega, HB2, G⟩
      · have hok : badB x0 cp b = false := by rw [HDF.out, decide_eq_false t1, Bool.false_and]
        have HB2 := Lib.hid (HN.out hok)
        clear HM2 HN HDF hok HB
        have t1' : (km == 1) = false := by simpa using t1
        go_wp2_with fail
        go_roundg (8 - (b * 2).toNat)
        case measure => omega
        case rel => exact ⟨b * 2, by go_num, by omega, by omega, HB2, G⟩
    · obtain rfl : b = 8 := by omega
      have HR := Lib.hid (R1.out (HM1.out HB.out))
      clear HM1 HM2 HK HX HB
      obtain ⟨e0, e1, e2, e3⟩ := row4 (G.out.v0)
      obtain ⟨⟨d0, d1, d2, d3, d4, d5⟩, ⟨f0, f1, f2, f3, f4, f5⟩⟩ := six_of (G.out.v2)
      go_wp2_with fail
      refine bodyPost_ret (results_cell_row rfl _ _ (w.heap.size + 1) 34 _ (0, 0) _ rfl (six_put (G.out.v2) _ _ _ _ _ _) Tryz.underlying34 rfl (by kernel_rfl)) rfl ?_
      exact ⟨by rw [HR.out]; rfl, G.out.bel.trans ((six_only _ (w.heap.size + 1) _ _ _ _ _ _).below (fun k hk => by omega) G.out.bel.size)⟩
theorem refFault_c (h : Holds w v X) (hX : MayL X) (c : Cl) : Calls Tryz.prog 33 #[v, c.v] w fun e w' => e = .returned (.agg (ansT (faE X c) (faT X c))) ∧ Below w.heap.size w w' := by
  have tk : ∀ m : Nat, c.a / 4096 = (m : Int) → spK X X.length m = tab X (c.a / 4096) := fun m hm => by rw [hm]; unfold spK; rw [List.take_length]
  by_cases hp : 1 ≤ c.p ∧ c.p ≤ 7
  · by_cases ha : c.a < 65536
    · obtain ⟨e1, e2⟩ := fa_none hX (c := c) hp (tab_in hX.1 (by omega))
      rw [e1, e2]
      exact rf_below h hX.1 c (by omega) (by omega) ha
    · by_cases ha2 : 2097152 ≤ c.a
      · obtain ⟨e1, e2⟩ := fa_none hX (c := c) hp (tab_in hX.1 (by omega))
        rw [e1, e2]
        exact rf_above h hX.1 c (by omega) (by omega) ha ha2
      · cases ht : tab X (c.a / 4096) with
        | none =>
          obtain ⟨e1, e2⟩ := fa_none hX (c := c) hp ht
          rw [e1, e2]
          exact rf_none h hX.1 c (by omega) (by omega) ha ha2 (fun m hm => by rw [tk m hm, ht])
        | some x =>
          have hx := tab_prot hX.1 ht
          refine rf_some h hX.1 c (by omega) (by omega) ha ha2 (x := x) (fun m hm => by rw [tk m hm, ht]) hx.1 hx.2 (fun hm => ?_) (fun hm => ?_)
          · rcases fa_some hX (c := c) hp ht with ⟨_, e1, e2⟩ | ⟨e0, _⟩
            · rw [e1, e2]
            · rw [hm] at e0; cases e0
          · rcases fa_some hX (c := c) hp ht with ⟨e0, _⟩ | ⟨_, e1, e2⟩
            · rw [hm] at e0; cases e0
            · rw [e1, e2]
  · obtain ⟨e1, e2⟩ := fa_bad hX (c := c) hp
    rw [e1, e2]
    by_cases h0 : c.p < 1
    · exact rf_low h hX.1 c h0
    · exact rf_high h hX.1 c h0 (by omega)
end
end Go.Proofs.YtholpgcghpikgaaGreat
