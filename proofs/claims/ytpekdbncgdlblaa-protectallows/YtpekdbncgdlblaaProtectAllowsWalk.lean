/-
  Layer 11: what was protected allows just what was said, at each of its pages.
-/
import Derived.Test.YtpekdbncgdlblaaPkPd
import Derived.Deep.RegionHeld3
import Derived.Deep.LoopGhost
namespace Go.Proofs.Ytpekdbncgdlblaa
open Go.ChangeShapes Go.WideShapes Go.ChangeAt Go.RowKit Go.Shelf
set_option linter.unusedVariables false
attribute [local go_sem ↓] Go.wp_at_zero Go.wp_at_succ

set_option maxHeartbeats 2000000 in
theorem allows_many (A : Option Addr) (n cc : Nat) (c : Cl) (kd : Int) (w : World) (hn : 30 < n) :
    Calls Try.prog 7 #[.slice A n cc, c.v, .int .u8 kd] w fun e w' => e = .returned (.bool true) ∧ Below w.heap.size w w' := by
  have W0 := Lib.hid prot_awake
  have G := Lib.hid ((Bag.new w).add 34 c.cells)
  have hz : (30 : Int) < (n : Int) := by omega
  obtain ⟨ck, ca, cn, cnw, ctw, cp, cf, cb, co⟩ := c
  unfold Cl.v
  simp only [Cl.cells] at *
  go_enter Try.func7, Try.ntmps7
  go_wp2_with fail
  refine (W0.out _).mono ?_
  rintro e w1 ⟨rfl, hb⟩
  have G := Lib.hid (G.out.still hb)
  clear hb
  go_wp2_with fail
  refine (W0.out _).mono ?_
  rintro e w2 ⟨rfl, hb⟩
  have G := Lib.hid (G.out.still hb)
  clear hb
  go_wp2_with fail
  go_ret
  exact ⟨rfl, G.out.bel⟩

theorem nine_far {W : World} {p q : Nat} {t : TypeId} {a0 a1 a2 a3 a4 a5 a6 a7 a8 : Value} (h : Whole W p t #[a0, a1, a2, a3, a4, a5, a6, a7, a8]) (hq : p ≠ q) (x0 x1 x2 x3 x4 x5 : Value) :
    (fun W : World => W.cell? ⟨p, 0, none⟩ = some a0 ∧ W.cell? ⟨p, 1, none⟩ = some a1 ∧ W.cell? ⟨p, 2, none⟩ = some a2 ∧ W.cell? ⟨p, 3, none⟩ = some a3 ∧ W.cell? ⟨p, 4, none⟩ = some a4 ∧ W.cell? ⟨p, 5, none⟩ = some a5 ∧ W.cell? ⟨p, 6, none⟩ = some a6 ∧ W.cell? ⟨p, 7, none⟩ = some a7 ∧ W.cell? ⟨p, 8, none⟩ = some a8) (set6 W q x0 x1 x2 x3 x4 x5) :=
  nine (h.only (six_only W q x0 x1 x2 x3 x4 x5) hq)
theorem Bag.six {w wr : World} {l : List (Nat × TypeId × Array Value)} {q : Nat} {a b c d e f : Value} (h : Bag w wr ((q, 30, #[a, b, c, d, e, f]) :: l)) (hl : ∀ x ∈ l, x.1 ≠ q) (hq : w.heap.size ≤ q) (x0 x1 x2 x3 x4 x5 : Value) : Bag w (set6 wr q x0 x1 x2 x3 x4 x5) ((q, 30, #[x0, x1, x2, x3, x4, x5]) :: l) := by
  refine ⟨fun x hx => ?_, h.bel.trans ((six_only wr q _ _ _ _ _ _).below (fun k hk => by omega) h.bel.size)⟩
  rcases List.mem_cons.1 hx with rfl | hx
  · exact six_put h.v0 _ _ _ _ _ _
  · exact (h.all x (List.mem_cons_of_mem _ hx)).only (six_only wr q _ _ _ _ _ _) (hl x hx)
theorem bits_may {p k : Int} (h0 : 0 ≤ p) (h1 : p ≤ 7) (h2 : 1 ≤ k) (h3 : k ≤ 7) : (mayB p k = true ∧ bits .and .i64 p k = k) ∨ (mayB p k = false ∧ ¬ bits .and .i64 p k = k) := by
  rw [and_low p k (by omega) h3]
  cases hm : mayB p k with
  | true =>
    refine .inl ⟨rfl, ?_⟩
    unfold mayB at hm
    rw [Bool.and_eq_true, beq_iff_eq] at hm
    rw [hm.2]; omega
  | false =>
    refine .inr ⟨rfl, fun h => ?_⟩
    unfold mayB at hm
    rw [decide_eq_true (show 1 ≤ k ∧ k ≤ 7 from ⟨h2, h3⟩), Bool.true_and, beq_eq_false_iff_ne] at hm
    exact hm (by omega)
set_option maxRecDepth 4000 in
set_option maxHeartbeats 8000000 in
theorem allows_err (l : List Ar) (v : Value) (c : Cl) (kd : Int) (w : World) (hl : l.length ≤ 30) (hA : Holds w v l) (he : (prtR (someL l) c).2 ≠ 0) :
    Calls Try.prog 7 #[v, c.v, .int .u8 kd] w fun e w' => e = .returned (.bool true) ∧ Below w.heap.size w w' := by
  have W0 := Lib.hid prot_awake
  have G := Lib.hid ((Bag.new w).add 34 c.cells)
  have KL := Lib.hid (hA.still G.out.bel)
  have HA0 := Lib.hid hA
  have CS : Hid (∀ w' u, Holds w' u l → Calls Try.prog 10 #[u] w' fun e w'' => ∃ v', e = .returned v' ∧ Mine w'.heap.size w'' v' (someL l) ∧ Below w'.heap.size w' w'') := Lib.hid (fun w' u h => some_c h (by omega))
  have hX := someL_may l
  generalize someL l = X at *
  have hXl : X.length ≤ 10000 := by have := hX.2; omega
  obtain ⟨ck, ca, cn, cnw, ctw, cp, cf, cb, co⟩ := c
  simp only [Cl.cells] at *
  unfold Cl.v
  simp only [Cl.cells]
  obtain ⟨Y, e1, hr⟩ : ∃ Y e1, prtR X ⟨ck, ca, cn, cnw, ctw, cp, cf, cb, co⟩ = (Y, e1) := ⟨_, _, rfl⟩
  rw [hr] at he
  have he' : (e1 != 0) = true := by simpa using he
  have C1 : Hid (∀ w' u, Holds w' u X → Calls Try.prog 11 #[u, .agg #[.int .i64 ck, .int .i64 ca, .int .i64 cn, .int .i64 cnw, .int .i64 ctw, .int .i64 cp, .int .i64 cf, .int .i64 cb, .int .i64 co]] w' fun e w'' => ∃ v', e = .returned (.tuple #[v', .agg #[.int .i64 e1, .int .i64 0, .int .i64 0, .bool false, .int .i64 0, .int .i64 0]]) ∧ Mine w'.heap.size w'' v' Y ∧ Below w'.heap.size w' w'') := Lib.hid (fun w' u h => by
    have := protect_c h hXl ⟨ck, ca, cn, cnw, ctw, cp, cf, cb, co⟩
    rw [hr] at this
    exact this)
  clear hX hXl hr he
  obtain ⟨A, cc, rfl⟩ := hA.is
  clear hA
  generalize hn : l.length = n at *
  clear hn
  have hz : ¬ (30 : Int) < (n : Int) := by omega
  go_enter Try.func7, Try.ntmps7
  go_wp2_with fail
  refine (W0.out _).mono ?_
  rintro e w1 ⟨rfl, hb⟩
  have G := Lib.hid (G.out.still hb)
  have KL := Lib.hid (KL.out.still hb)
  clear hb
  go_upto_region 3 with (fail)
  have SZ := Lib.hid G.out.bel.size
  have HQ0 : Hid (w.heap.size < w1.heap.size) := Lib.hid (G.out.v0).lt
  have BB := Lib.hid (below_drew (Below.refl w1.heap.size w1))
  have KL0 := KL
  have KL := Lib.hid (KL.out.still (below_drew (Below.refl _ w1)))
  have HG := Lib.hid (fun W h => G.out.still (w' := W) h)
  have HC : Hid (∀ W, Below w1.heap.size w1 W → (W.cell? ⟨w.heap.size, 0, none⟩ = some (.int .i64 ck) ∧ W.cell? ⟨w.heap.size, 1, none⟩ = some (.int .i64 ca) ∧ W.cell? ⟨w.heap.size, 2, none⟩ = some (.int .i64 cn) ∧ W.cell? ⟨w.heap.size, 3, none⟩ = some (.int .i64 cnw) ∧ W.cell? ⟨w.heap.size, 4, none⟩ = some (.int .i64 ctw) ∧ W.cell? ⟨w.heap.size, 5, none⟩ = some (.int .i64 cp) ∧ W.cell? ⟨w.heap.size, 6, none⟩ = some (.int .i64 cf) ∧ W.cell? ⟨w.heap.size, 7, none⟩ = some (.int .i64 cb) ∧ W.cell? ⟨w.heap.size, 8, none⟩ = some (.int .i64 co))) := Lib.hid (fun W h => nine (HG.out W h).v0)
  have BZ : Hid (Below w1.heap.size w1 (w1.alloc (.cells (#[.int .i64 0, .int .i64 0, .int .i64 0, .bool false, .int .i64 0, .int .i64 0]) 30)).drew) := Lib.hid (below_drew (below_new _ _))
  have GZ := Lib.hid (G.out.add 30 (#[.int .i64 0, .int .i64 0, .int .i64 0, .bool false, .int .i64 0, .int .i64 0])).drew
  have KZ : Hid (Holds (w1.alloc (.cells (#[.int .i64 0, .int .i64 0, .int .i64 0, .bool false, .int .i64 0, .int .i64 0]) 30)).drew _ l) := Lib.hid (KL0.out.still BZ.out)
  clear G KL0
  go_region_held3 (fun W => W.cell? ⟨w.heap.size, 0, none⟩ = some (.int .i64 ck) ∧ W.cell? ⟨w.heap.size, 1, none⟩ = some (.int .i64 ca) ∧ W.cell? ⟨w.heap.size, 2, none⟩ = some (.int .i64 cn) ∧ W.cell? ⟨w.heap.size, 3, none⟩ = some (.int .i64 cnw) ∧ W.cell? ⟨w.heap.size, 4, none⟩ = some (.int .i64 ctw) ∧ W.cell? ⟨w.heap.size, 5, none⟩ = some (.int .i64 cp) ∧ W.cell? ⟨w.heap.size, 6, none⟩ = some (.int .i64 cf) ∧ W.cell? ⟨w.heap.size, 7, none⟩ = some (.int .i64 cb) ∧ W.cell? ⟨w.heap.size, 8, none⟩ = some (.int .i64 co))
    (first | with_reducible exact HC.out _ BB.out | with_reducible exact HC.out _ (BB.out.alloc BB.out.size _) | with_reducible exact HC.out _ BZ.out | exact HS.out _ _ _ _ _ _)
    (first
    | (go_at_call 10; with_reducible refine (CS.out _ _ KZ.out).mono ?_; rintro e wn ⟨vx, rfl, hm, hb⟩; have KX := Lib.hid hm.holds; have BB := Lib.hid (below_then BZ.out hb (Nat.le_refl _)); have GA := Lib.hid (GZ.out.still hb); clear hb hm CS KL KZ GZ BZ)
    | (go_at_call 11; have G := GA; with_reducible refine (C1.out _ _ KX.out).mono ?_; rintro e wo ⟨vy, rfl, hm, hb⟩; have HQ : Hid (w.heap.size ≠ w1.heap.size) := Lib.hid (by have := HQ0.out; omega); have HL : Hid (w.heap.size ≤ w1.heap.size) := SZ; have KY := Lib.hid (hm.base (Nat.le_trans SZ.out BB.out.size)); have G := Lib.hid (GA.out.still hb); have HS : Hid (∀ x0 x1 x2 x3 x4 x5, (fun W : World => W.cell? ⟨w.heap.size, 0, none⟩ = some (.int .i64 ck) ∧ W.cell? ⟨w.heap.size, 1, none⟩ = some (.int .i64 ca) ∧ W.cell? ⟨w.heap.size, 2, none⟩ = some (.int .i64 cn) ∧ W.cell? ⟨w.heap.size, 3, none⟩ = some (.int .i64 cnw) ∧ W.cell? ⟨w.heap.size, 4, none⟩ = some (.int .i64 ctw) ∧ W.cell? ⟨w.heap.size, 5, none⟩ = some (.int .i64 cp) ∧ W.cell? ⟨w.heap.size, 6, none⟩ = some (.int .i64 cf) ∧ W.cell? ⟨w.heap.size, 7, none⟩ = some (.int .i64 cb) ∧ W.cell? ⟨w.heap.size, 8, none⟩ = some (.int .i64 co)) (set6 wo w1.heap.size x0 x1 x2 x3 x4 x5)) := Lib.hid (fun x0 x1 x2 x3 x4 x5 => nine_far G.out.v1 HQ.out x0 x1 x2 x3 x4 x5); have BB := Lib.hid (below_then BB.out hb (Nat.le_refl _)); obtain ⟨⟨d0, d1, d2, d3, d4, d5⟩, ⟨f0, f1, f2, f3, f4, f5⟩⟩ := six_of G.out.v0; have KF := Lib.hid (mine_far KY.out G.out.v0 (.int .i64 e1) (.int .i64 0) (.int .i64 0) (.bool false) (.int .i64 0) (.int .i64 0)); have GF := Lib.hid (G.out.six (by intro x hx; simp at hx; subst hx; exact HQ.out) HL.out (.int .i64 e1) (.int .i64 0) (.int .i64 0) (.bool false) (.int .i64 0) (.int .i64 0)); clear hb hm C1 KX GA)
    | (go_at_call 10; with_reducible refine (CS.out _ _ KL.out).mono ?_; rintro e wn ⟨vx, rfl, hm, hb⟩; have KX := Lib.hid hm.holds; have BB := Lib.hid (below_then BB.out hb (Nat.le_refl _)); clear hb hm CS KL)
    | (go_at_call 11; have BW := Lib.hid (below_new wn (.cells (#[.int .i64 0, .int .i64 0, .int .i64 0, .bool false, .int .i64 0, .int .i64 0]) 30)); with_reducible refine (C1.out _ _ (KX.out.still BW.out)).mono ?_; rintro e wo ⟨vy, rfl, hm, hb⟩; have HQ : Hid (w.heap.size ≠ wn.heap.size) := Lib.hid (by have := HQ0.out; have := BB.out.size; omega); have HL : Hid (w.heap.size ≤ wn.heap.size) := Lib.hid (Nat.le_trans SZ.out BB.out.size); have KY := Lib.hid (hm.base (Nat.le_trans SZ.out (BB.out.alloc BB.out.size _).size)); have G := Lib.hid (((HG.out _ BB.out).add 30 (#[.int .i64 0, .int .i64 0, .int .i64 0, .bool false, .int .i64 0, .int .i64 0])).still hb); have HS : Hid (∀ x0 x1 x2 x3 x4 x5, (fun W : World => W.cell? ⟨w.heap.size, 0, none⟩ = some (.int .i64 ck) ∧ W.cell? ⟨w.heap.size, 1, none⟩ = some (.int .i64 ca) ∧ W.cell? ⟨w.heap.size, 2, none⟩ = some (.int .i64 cn) ∧ W.cell? ⟨w.heap.size, 3, none⟩ = some (.int .i64 cnw) ∧ W.cell? ⟨w.heap.size, 4, none⟩ = some (.int .i64 ctw) ∧ W.cell? ⟨w.heap.size, 5, none⟩ = some (.int .i64 cp) ∧ W.cell? ⟨w.heap.size, 6, none⟩ = some (.int .i64 cf) ∧ W.cell? ⟨w.heap.size, 7, none⟩ = some (.int .i64 cb) ∧ W.cell? ⟨w.heap.size, 8, none⟩ = some (.int .i64 co)) (set6 wo wn.heap.size x0 x1 x2 x3 x4 x5)) := Lib.hid (fun x0 x1 x2 x3 x4 x5 => nine_far G.out.v1 HQ.out x0 x1 x2 x3 x4 x5); have BB := Lib.hid (below_then (BB.out.alloc BB.out.size (.cells (#[.int .i64 0, .int .i64 0, .int .i64 0, .bool false, .int .i64 0, .int .i64 0]) 30)) hb (Nat.le_refl _)); obtain ⟨⟨d0, d1, d2, d3, d4, d5⟩, ⟨f0, f1, f2, f3, f4, f5⟩⟩ := six_of G.out.v0; have KF := Lib.hid (mine_far KY.out G.out.v0 (.int .i64 e1) (.int .i64 0) (.int .i64 0) (.bool false) (.int .i64 0) (.int .i64 0)); have GF := Lib.hid (G.out.six (by intro x hx; simp at hx; subst hx; exact HQ.out) HL.out (.int .i64 e1) (.int .i64 0) (.int .i64 0) (.bool false) (.int .i64 0) (.int .i64 0)); clear hb hm C1 KX BW)
    | (go_at_call 11; with_reducible refine (C1.out _ _ KX.out).mono ?_; rintro e wo ⟨vy, rfl, hm, hb⟩; have KY := Lib.hid (hm.base (Nat.le_trans SZ.out BB.out.size)); have BB := Lib.hid (below_then BB.out hb (Nat.le_refl _)); have KF := Lib.hid (KY.out.still (below_new wo (.cells #[.int .i64 e1, .int .i64 0, .int .i64 0, .bool false, .int .i64 0, .int .i64 0] 30))); have GF := Lib.hid ((HG.out _ BB.out).add 30 #[.int .i64 e1, .int .i64 0, .int .i64 0, .bool false, .int .i64 0, .int .i64 0]); clear hb hm C1 KX)
    | fail)
  all_goals
    have G := GF
    have KY := KF
    clear GF KF
    try clear d0 d1 d2 d3 d4 d5 f0 f1 f2 f3 f4 f5 HS HQ HL
    try clear BZ GZ KZ
    clear HG HC BB SZ HQ0
    try unfold set6 at G KY
    first | generalize World.setCell _ _ _ = W2 at * | generalize World.alloc wo _ = W2 at *
    obtain ⟨a0, a1, a2, a3, a4, a5⟩ := row6 G.out.v0
    go_wp2_with fail
    go_ret
    exact ⟨rfl, G.out.bel⟩

set_option maxRecDepth 4000 in
set_option maxHeartbeats 8000000 in
theorem allows_yes (l : List Ar) (v : Value) (c : Cl) (kd : Int) (w : World) (hl : l.length ≤ 30) (hA : Holds w v l) (hk1 : 0 ≤ kd) (hk2 : kd ≤ 255) (he : (prtR (someL l) c).2 = 0) (hmb : mayB c.p (1 + kd % 7) = true) :
    Calls Try.prog 7 #[v, c.v, .int .u8 kd] w fun e w' => e = .returned (.bool true) ∧ Below w.heap.size w w' := by
  have W0 := Lib.hid prot_awake
  have G := Lib.hid ((Bag.new w).add 34 c.cells)
  have KL := Lib.hid (hA.still G.out.bel)
  have HA0 := Lib.hid hA
  have CS : Hid (∀ w' u, Holds w' u l → Calls Try.prog 10 #[u] w' fun e w'' => ∃ v', e = .returned v' ∧ Mine w'.heap.size w'' v' (someL l) ∧ Below w'.heap.size w' w'') := Lib.hid (fun w' u h => some_c h (by omega))
  have hX := someL_may l
  generalize someL l = X at *
  have hXl : X.length ≤ 10000 := by have := hX.2; omega
  obtain ⟨hP, hl24, hr⟩ : Prt X c ∧ (prtL X c).length ≤ 24 ∧ prtR X c = (prtL X c, 0) := by
    rcases prtR_is X c with ⟨h, _⟩ | h
    · exact absurd he h
    · exact h
  have hY : MayL (prtL X c) := ⟨setC_right hX.1 _ _ hP.p0 hP.p7, hl24⟩
  have hYl : (prtL X c).length ≤ 10000 := by omega
  have hal := fun x h1 h2 => allows_is hP (x := x) h1 h2
  have hrg := rg_ok hP.rg
  have hsz := sz_ok hrg.2.1
  have hp0 := hP.p0
  have hp7 := hP.p7
  have tk : kd.tmod 7 = kd % 7 := Int.tmod_eq_emod_of_nonneg hk1
  have rk : 0 ≤ kd % 7 ∧ kd % 7 ≤ 6 := by omega
  generalize kd % 7 = kq at *
  obtain ⟨k, hk⟩ : ∃ k, 1 + kq = k := ⟨_, rfl⟩
  rw [hk] at hmb
  have hk0 : 1 ≤ k ∧ k ≤ 7 := by omega
  have hbt : bits .and .i64 c.p k = k := by
    rcases bits_may hp0 hp7 hk0.1 hk0.2 with ⟨_, h⟩ | ⟨h, _⟩
    · exact h
    · rw [hmb] at h; cases h
  have CF : Hid (∀ x, c.a ≤ x → x < c.a + c.n → ∀ w' u, Holds w' u (prtL X c) → Calls Try.prog 14 #[u, .agg #[.int .i64 0, .int .i64 x, .int .i64 0, .int .i64 0, .int .i64 0, .int .i64 k, .int .i64 0, .int .i64 0, .int .i64 0]] w' fun e w'' => (∃ t1 t2 t3, e = .returned (.agg #[.int .i64 0, .int .i64 0, .int .i64 c.p, .bool t1, .int .i64 t2, .int .i64 t3])) ∧ Below w'.heap.size w' w'') := Lib.hid (fun x h1 h2 w' u h => by
    obtain ⟨t, ht, htp⟩ := hal x h1 h2
    have := fault_c h hYl ⟨0, x, 0, 0, 0, k, 0, 0, 0⟩
    rcases fa_some hY (c := ⟨0, x, 0, 0, 0, k, 0, 0, 0⟩) hk0 ht with ⟨e0, e1, e2⟩ | ⟨e0, e1, e2⟩
    · rw [e1, e2] at this
      refine this.mono fun e w'' ⟨he, hb⟩ => ⟨⟨t.sh, t.bk, t.off, ?_⟩, hb⟩
      rw [he, ← htp]; rfl
    · rw [htp, hmb] at e0; cases e0)
  obtain ⟨M, hM⟩ : ∃ M : Nat, (c.n + 4095) / 4096 = (M : Int) := ⟨((c.n + 4095) / 4096).toNat, by omega⟩
  have hn0 : 0 < c.n ∧ c.n ≤ 2031616 := hsz.1
  have ha0 : 65536 ≤ c.a ∧ c.a ≤ 2097152 := by omega
  obtain ⟨ck, ca, cn, cnw, ctw, cp, cf, cb, co⟩ := c
  simp only [Cl.cells] at *
  unfold Cl.v
  simp only [Cl.cells]
  try simp only at hn0
  try simp only at ha0
  try simp only at hM
  try simp only at hbt
  generalize prtL X ⟨ck, ca, cn, cnw, ctw, cp, cf, cb, co⟩ = Y at *
  have C1 : Hid (∀ w' u, Holds w' u X → Calls Try.prog 11 #[u, .agg #[.int .i64 ck, .int .i64 ca, .int .i64 cn, .int .i64 cnw, .int .i64 ctw, .int .i64 cp, .int .i64 cf, .int .i64 cb, .int .i64 co]] w' fun e w'' => ∃ v', e = .returned (.tuple #[v', .agg #[.int .i64 0, .int .i64 0, .int .i64 0, .bool false, .int .i64 0, .int .i64 0]]) ∧ Mine w'.heap.size w'' v' Y ∧ Below w'.heap.size w' w'') := Lib.hid (fun w' u h => by
    have := protect_c h hXl ⟨ck, ca, cn, cnw, ctw, cp, cf, cb, co⟩
    rw [hr] at this
    exact this)
  obtain ⟨hn01, hn02⟩ := hn0
  obtain ⟨ha01, ha02⟩ := ha0
  obtain ⟨hk01, hk02⟩ := hk0
  obtain ⟨rk1, rk2⟩ := rk
  have CF := Lib.hid (fun j : Nat => CF.out (ca + 4096 * (j : Int)))
  clear hX hXl hr he hP hl24 hY hYl hal hrg hsz hmb hp0 hp7
  obtain ⟨A, cc, rfl⟩ := hA.is
  clear hA
  generalize hn : l.length = n at *
  clear hn
  have hz : ¬ (30 : Int) < (n : Int) := by omega
  go_enter Try.func7, Try.ntmps7
  go_wp2_with fail
  refine (W0.out _).mono ?_
  rintro e w1 ⟨rfl, hb⟩
  have G := Lib.hid (G.out.still hb)
  have KL := Lib.hid (KL.out.still hb)
  clear hb
  go_upto_region 3 with (fail)
  have SZ := Lib.hid G.out.bel.size
  have HQ0 : Hid (w.heap.size < w1.heap.size) := Lib.hid (G.out.v0).lt
  have BB := Lib.hid (below_drew (Below.refl w1.heap.size w1))
  have KL0 := KL
  have KL := Lib.hid (KL.out.still (below_drew (Below.refl _ w1)))
  have HG := Lib.hid (fun W h => G.out.still (w' := W) h)
  have HC : Hid (∀ W, Below w1.heap.size w1 W → (W.cell? ⟨w.heap.size, 0, none⟩ = some (.int .i64 ck) ∧ W.cell? ⟨w.heap.size, 1, none⟩ = some (.int .i64 ca) ∧ W.cell? ⟨w.heap.size, 2, none⟩ = some (.int .i64 cn) ∧ W.cell? ⟨w.heap.size, 3, none⟩ = some (.int .i64 cnw) ∧ W.cell? ⟨w.heap.size, 4, none⟩ = some (.int .i64 ctw) ∧ W.cell? ⟨w.heap.size, 5, none⟩ = some (.int .i64 cp) ∧ W.cell? ⟨w.heap.size, 6, none⟩ = some (.int .i64 cf) ∧ W.cell? ⟨w.heap.size, 7, none⟩ = some (.int .i64 cb) ∧ W.cell? ⟨w.heap.size, 8, none⟩ = some (.int .i64 co))) := Lib.hid (fun W h => nine (HG.out W h).v0)
  have BZ : Hid (Below w1.heap.size w1 (w1.alloc (.cells (#[.int .i64 0, .int .i64 0, .int .i64 0, .bool false, .int .i64 0, .int .i64 0]) 30)).drew) := Lib.hid (below_drew (below_new _ _))
  have GZ := Lib.hid (G.out.add 30 (#[.int .i64 0, .int .i64 0, .int .i64 0, .bool false, .int .i64 0, .int .i64 0])).drew
  have KZ : Hid (Holds (w1.alloc (.cells (#[.int .i64 0, .int .i64 0, .int .i64 0, .bool false, .int .i64 0, .int .i64 0]) 30)).drew _ l) := Lib.hid (KL0.out.still BZ.out)
  clear G KL0
  go_region_held3 (fun W => W.cell? ⟨w.heap.size, 0, none⟩ = some (.int .i64 ck) ∧ W.cell? ⟨w.heap.size, 1, none⟩ = some (.int .i64 ca) ∧ W.cell? ⟨w.heap.size, 2, none⟩ = some (.int .i64 cn) ∧ W.cell? ⟨w.heap.size, 3, none⟩ = some (.int .i64 cnw) ∧ W.cell? ⟨w.heap.size, 4, none⟩ = some (.int .i64 ctw) ∧ W.cell? ⟨w.heap.size, 5, none⟩ = some (.int .i64 cp) ∧ W.cell? ⟨w.heap.size, 6, none⟩ = some (.int .i64 cf) ∧ W.cell? ⟨w.heap.size, 7, none⟩ = some (.int .i64 cb) ∧ W.cell? ⟨w.heap.size, 8, none⟩ = some (.int .i64 co))
    (first | with_reducible exact HC.out _ BB.out | with_reducible exact HC.out _ (BB.out.alloc BB.out.size _) | with_reducible exact HC.out _ BZ.out | exact HS.out _ _ _ _ _ _)
    (first
    | (go_at_call 10; with_reducible refine (CS.out _ _ KZ.out).mono ?_; rintro e wn ⟨vx, rfl, hm, hb⟩; have KX := Lib.hid hm.holds; have BB := Lib.hid (below_then BZ.out hb (Nat.le_refl _)); have GA := Lib.hid (GZ.out.still hb); clear hb hm CS KL KZ GZ BZ)
    | (go_at_call 11; have G := GA; with_reducible refine (C1.out _ _ KX.out).mono ?_; rintro e wo ⟨vy, rfl, hm, hb⟩; have HQ : Hid (w.heap.size ≠ w1.heap.size) := Lib.hid (by have := HQ0.out; omega); have HL : Hid (w.heap.size ≤ w1.heap.size) := SZ; have KY := Lib.hid (hm.base (Nat.le_trans SZ.out BB.out.size)); have G := Lib.hid (GA.out.still hb); have HS : Hid (∀ x0 x1 x2 x3 x4 x5, (fun W : World => W.cell? ⟨w.heap.size, 0, none⟩ = some (.int .i64 ck) ∧ W.cell? ⟨w.heap.size, 1, none⟩ = some (.int .i64 ca) ∧ W.cell? ⟨w.heap.size, 2, none⟩ = some (.int .i64 cn) ∧ W.cell? ⟨w.heap.size, 3, none⟩ = some (.int .i64 cnw) ∧ W.cell? ⟨w.heap.size, 4, none⟩ = some (.int .i64 ctw) ∧ W.cell? ⟨w.heap.size, 5, none⟩ = some (.int .i64 cp) ∧ W.cell? ⟨w.heap.size, 6, none⟩ = some (.int .i64 cf) ∧ W.cell? ⟨w.heap.size, 7, none⟩ = some (.int .i64 cb) ∧ W.cell? ⟨w.heap.size, 8, none⟩ = some (.int .i64 co)) (set6 wo w1.heap.size x0 x1 x2 x3 x4 x5)) := Lib.hid (fun x0 x1 x2 x3 x4 x5 => nine_far G.out.v1 HQ.out x0 x1 x2 x3 x4 x5); have BB := Lib.hid (below_then BB.out hb (Nat.le_refl _)); obtain ⟨⟨d0, d1, d2, d3, d4, d5⟩, ⟨f0, f1, f2, f3, f4, f5⟩⟩ := six_of G.out.v0; have KF := Lib.hid (mine_far KY.out G.out.v0 (.int .i64 0) (.int .i64 0) (.int .i64 0) (.bool false) (.int .i64 0) (.int .i64 0)); have GF := Lib.hid (G.out.six (by intro x hx; simp at hx; subst hx; exact HQ.out) HL.out (.int .i64 0) (.int .i64 0) (.int .i64 0) (.bool false) (.int .i64 0) (.int .i64 0)); clear hb hm C1 KX GA)
    | (go_at_call 10; with_reducible refine (CS.out _ _ KL.out).mono ?_; rintro e wn ⟨vx, rfl, hm, hb⟩; have KX := Lib.hid hm.holds; have BB := Lib.hid (below_then BB.out hb (Nat.le_refl _)); clear hb hm CS KL)
    | (go_at_call 11; have BW := Lib.hid (below_new wn (.cells (#[.int .i64 0, .int .i64 0, .int .i64 0, .bool false, .int .i64 0, .int .i64 0]) 30)); with_reducible refine (C1.out _ _ (KX.out.still BW.out)).mono ?_; rintro e wo ⟨vy, rfl, hm, hb⟩; have HQ : Hid (w.heap.size ≠ wn.heap.size) := Lib.hid (by have := HQ0.out; have := BB.out.size; omega); have HL : Hid (w.heap.size ≤ wn.heap.size) := Lib.hid (Nat.le_trans SZ.out BB.out.size); have KY := Lib.hid (hm.base (Nat.le_trans SZ.out (BB.out.alloc BB.out.size _).size)); have G := Lib.hid (((HG.out _ BB.out).add 30 (#[.int .i64 0, .int .i64 0, .int .i64 0, .bool false, .int .i64 0, .int .i64 0])).still hb); have HS : Hid (∀ x0 x1 x2 x3 x4 x5, (fun W : World => W.cell? ⟨w.heap.size, 0, none⟩ = some (.int .i64 ck) ∧ W.cell? ⟨w.heap.size, 1, none⟩ = some (.int .i64 ca) ∧ W.cell? ⟨w.heap.size, 2, none⟩ = some (.int .i64 cn) ∧ W.cell? ⟨w.heap.size, 3, none⟩ = some (.int .i64 cnw) ∧ W.cell? ⟨w.heap.size, 4, none⟩ = some (.int .i64 ctw) ∧ W.cell? ⟨w.heap.size, 5, none⟩ = some (.int .i64 cp) ∧ W.cell? ⟨w.heap.size, 6, none⟩ = some (.int .i64 cf) ∧ W.cell? ⟨w.heap.size, 7, none⟩ = some (.int .i64 cb) ∧ W.cell? ⟨w.heap.size, 8, none⟩ = some (.int .i64 co)) (set6 wo wn.heap.size x0 x1 x2 x3 x4 x5)) := Lib.hid (fun x0 x1 x2 x3 x4 x5 => nine_far G.out.v1 HQ.out x0 x1 x2 x3 x4 x5); have BB := Lib.hid (below_then (BB.out.alloc BB.out.size (.cells (#[.int .i64 0, .int .i64 0, .int .i64 0, .bool false, .int .i64 0, .int .i64 0]) 30)) hb (Nat.le_refl _)); obtain ⟨⟨d0, d1, d2, d3, d4, d5⟩, ⟨f0, f1, f2, f3, f4, f5⟩⟩ := six_of G.out.v0; have KF := Lib.hid (mine_far KY.out G.out.v0 (.int .i64 0) (.int .i64 0) (.int .i64 0) (.bool false) (.int .i64 0) (.int .i64 0)); have GF := Lib.hid (G.out.six (by intro x hx; simp at hx; subst hx; exact HQ.out) HL.out (.int .i64 0) (.int .i64 0) (.int .i64 0) (.bool false) (.int .i64 0) (.int .i64 0)); clear hb hm C1 KX BW)
    | (go_at_call 11; with_reducible refine (C1.out _ _ KX.out).mono ?_; rintro e wo ⟨vy, rfl, hm, hb⟩; have KY := Lib.hid (hm.base (Nat.le_trans SZ.out BB.out.size)); have BB := Lib.hid (below_then BB.out hb (Nat.le_refl _)); have KF := Lib.hid (KY.out.still (below_new wo (.cells #[.int .i64 0, .int .i64 0, .int .i64 0, .bool false, .int .i64 0, .int .i64 0] 30))); have GF := Lib.hid ((HG.out _ BB.out).add 30 #[.int .i64 0, .int .i64 0, .int .i64 0, .bool false, .int .i64 0, .int .i64 0]); clear hb hm C1 KX)
    | fail)
  all_goals
    have G := GF
    have KY := KF
    clear GF KF
    try clear d0 d1 d2 d3 d4 d5 f0 f1 f2 f3 f4 f5 HS HQ HL
    try clear BZ GZ KZ
    clear HG HC BB SZ HQ0
    try unfold set6 at G KY
    first | generalize World.setCell _ _ _ = W2 at * | generalize World.alloc wo _ = W2 at *
    obtain ⟨a0, a1, a2, a3, a4, a5⟩ := row6 G.out.v0
    obtain ⟨c0, c1, c2, c3, c4, c5, c6, c7, c8⟩ := nine G.out.v1
    go_upto_region 8 with (fail)
    clear a0 a1 a2 a3 a4 a5 c0 c1 c2 c3 c4 c5 c6 c7 c8
    go_loopg [10, 11] M (fun g s10 s11 wr => ∃ j : Nat, j ≤ M ∧ M - j ≤ g ∧ s10 = .int .i64 (ca + 4096 * (j : Int)) ∧ Hid (Bag w wr [(w.heap.size, 34, #[.int .i64 ck, .int .i64 ca, .int .i64 cn, .int .i64 cnw, .int .i64 ctw, .int .i64 cp, .int .i64 cf, .int .i64 cb, .int .i64 co])]) ∧ Hid (Mine w.heap.size wr vy Y))
    case atStart => exact ⟨0, by omega, by omega, by simp, Lib.hid G.out.tail, KY⟩
    case round =>
      clear G KY
      obtain ⟨j, hj, hg, rfl, G, KY⟩ := hrel
      obtain ⟨c0, c1, c2, c3, c4, c5, c6, c7, c8⟩ := nine G.out.v0
      by_cases hlt : j < M
      · have CF1 := Lib.hid (CF.out j (by omega) (by omega))
        have hz1 : ca + 4096 * (j : Int) < ca + cn := by omega
        have hz2 : ca + 4096 * ((j + 1 : Nat) : Int) = ca + 4096 * (j : Int) + 4096 := by omega
        have HZ := Lib.hid hz2
        clear hz2
        have hz3 : 65536 ≤ ca + 4096 * (j : Int) ∧ ca + 4096 * (j : Int) ≤ 4128768 := by omega
        generalize ca + 4096 * (j : Int) = x at *
        obtain ⟨hz31, hz32⟩ := hz3
        clear CF
        go_wp2_with fail
        refine (CF1.out _ _ KY.out.holds).mono ?_
        rintro e wf ⟨⟨t1, t2, t3, rfl⟩, hb⟩
        have G := Lib.hid ((G.out.still hb).add 30 #[.int .i64 0, .int .i64 0, .int .i64 cp, .bool t1, .int .i64 t2, .int .i64 t3])
        have KY := Lib.hid ((KY.out.still hb).still (below_new wf (.cells #[.int .i64 0, .int .i64 0, .int .i64 cp, .bool t1, .int .i64 t2, .int .i64 t3] 30)))
        clear hb CF1 c0 c1 c2 c3 c4 c5 c6 c7 c8
        obtain ⟨c0, c1, c2, c3, c4, c5, c6, c7, c8⟩ := nine G.out.v1
        obtain ⟨a0, a1, a2, a3, a4, a5⟩ := row6 G.out.v0
        go_wp2_with fail
        go_roundg (M - (j + 1))
        case measure => omega
        case rel => exact ⟨j + 1, by omega, by omega, by rw [HZ.out], Lib.hid G.out.tail, KY⟩
      · obtain rfl : j = M := by omega
        have hz1 : ¬ ca + 4096 * (j : Int) < ca + cn := by omega
        go_wp2_with fail
        go_ret
        exact ⟨rfl, G.out.bel⟩

set_option maxRecDepth 4000 in
set_option maxHeartbeats 8000000 in
theorem allows_no (l : List Ar) (v : Value) (c : Cl) (kd : Int) (w : World) (hl : l.length ≤ 30) (hA : Holds w v l) (hk1 : 0 ≤ kd) (hk2 : kd ≤ 255) (he : (prtR (someL l) c).2 = 0) (hmb : mayB c.p (1 + kd % 7) = false) :
    Calls Try.prog 7 #[v, c.v, .int .u8 kd] w fun e w' => e = .returned (.bool true) ∧ Below w.heap.size w w' := by
  have W0 := Lib.hid prot_awake
  have G := Lib.hid ((Bag.new w).add 34 c.cells)
  have KL := Lib.hid (hA.still G.out.bel)
  have HA0 := Lib.hid hA
  have CS : Hid (∀ w' u, Holds w' u l → Calls Try.prog 10 #[u] w' fun e w'' => ∃ v', e = .returned v' ∧ Mine w'.heap.size w'' v' (someL l) ∧ Below w'.heap.size w' w'') := Lib.hid (fun w' u h => some_c h (by omega))
  have hX := someL_may l
  generalize someL l = X at *
  have hXl : X.length ≤ 10000 := by have := hX.2; omega
  obtain ⟨hP, hl24, hr⟩ : Prt X c ∧ (prtL X c).length ≤ 24 ∧ prtR X c = (prtL X c, 0) := by
    rcases prtR_is X c with ⟨h, _⟩ | h
    · exact absurd he h
    · exact h
  have hY : MayL (prtL X c) := ⟨setC_right hX.1 _ _ hP.p0 hP.p7, hl24⟩
  have hYl : (prtL X c).length ≤ 10000 := by omega
  have hal := fun x h1 h2 => allows_is hP (x := x) h1 h2
  have hrg := rg_ok hP.rg
  have hsz := sz_ok hrg.2.1
  have hp0 := hP.p0
  have hp7 := hP.p7
  have tk : kd.tmod 7 = kd % 7 := Int.tmod_eq_emod_of_nonneg hk1
  have rk : 0 ≤ kd % 7 ∧ kd % 7 ≤ 6 := by omega
  generalize kd % 7 = kq at *
  obtain ⟨k, hk⟩ : ∃ k, 1 + kq = k := ⟨_, rfl⟩
  rw [hk] at hmb
  have hk0 : 1 ≤ k ∧ k ≤ 7 := by omega
  obtain ⟨kk, hbt, hkk⟩ : ∃ kk, bits .and .i64 c.p k = kk ∧ ¬ kk = k := by
    rcases bits_may hp0 hp7 hk0.1 hk0.2 with ⟨h, _⟩ | ⟨_, h⟩
    · rw [hmb] at h; cases h
    · exact ⟨_, rfl, h⟩
  have hkk' : (kk == k) = false := by simpa using hkk
  have hkk2 : (kk != k) = true := by simpa using hkk
  have CF : Hid (∀ x, c.a ≤ x → x < c.a + c.n → ∀ w' u, Holds w' u (prtL X c) → Calls Try.prog 14 #[u, .agg #[.int .i64 0, .int .i64 x, .int .i64 0, .int .i64 0, .int .i64 0, .int .i64 k, .int .i64 0, .int .i64 0, .int .i64 0]] w' fun e w'' => (e = .returned (.agg #[.int .i64 8, .int .i64 0, .int .i64 0, .bool false, .int .i64 0, .int .i64 0])) ∧ Below w'.heap.size w' w'') := Lib.hid (fun x h1 h2 w' u h => by
    obtain ⟨t, ht, htp⟩ := hal x h1 h2
    have := fault_c h hYl ⟨0, x, 0, 0, 0, k, 0, 0, 0⟩
    rcases fa_some hY (c := ⟨0, x, 0, 0, 0, k, 0, 0, 0⟩) hk0 ht with ⟨e0, e1, e2⟩ | ⟨e0, e1, e2⟩
    · rw [htp, hmb] at e0; cases e0
    · rw [e1, e2] at this; exact this)
  obtain ⟨M, hM⟩ : ∃ M : Nat, (c.n + 4095) / 4096 = (M : Int) := ⟨((c.n + 4095) / 4096).toNat, by omega⟩
  have hn0 : 0 < c.n ∧ c.n ≤ 2031616 := hsz.1
  have ha0 : 65536 ≤ c.a ∧ c.a ≤ 2097152 := by omega
  obtain ⟨ck, ca, cn, cnw, ctw, cp, cf, cb, co⟩ := c
  simp only [Cl.cells] at *
  unfold Cl.v
  simp only [Cl.cells]
  try simp only at hn0
  try simp only at ha0
  try simp only at hM
  try simp only at hbt
  generalize prtL X ⟨ck, ca, cn, cnw, ctw, cp, cf, cb, co⟩ = Y at *
  have C1 : Hid (∀ w' u, Holds w' u X → Calls Try.prog 11 #[u, .agg #[.int .i64 ck, .int .i64 ca, .int .i64 cn, .int .i64 cnw, .int .i64 ctw, .int .i64 cp, .int .i64 cf, .int .i64 cb, .int .i64 co]] w' fun e w'' => ∃ v', e = .returned (.tuple #[v', .agg #[.int .i64 0, .int .i64 0, .int .i64 0, .bool false, .int .i64 0, .int .i64 0]]) ∧ Mine w'.heap.size w'' v' Y ∧ Below w'.heap.size w' w'') := Lib.hid (fun w' u h => by
    have := protect_c h hXl ⟨ck, ca, cn, cnw, ctw, cp, cf, cb, co⟩
    rw [hr] at this
    exact this)
  obtain ⟨hn01, hn02⟩ := hn0
  obtain ⟨ha01, ha02⟩ := ha0
  obtain ⟨hk01, hk02⟩ := hk0
  obtain ⟨rk1, rk2⟩ := rk
  have CF := Lib.hid (fun j : Nat => CF.out (ca + 4096 * (j : Int)))
  clear hX hXl hr he hP hl24 hY hYl hal hrg hsz hmb hp0 hp7
  obtain ⟨A, cc, rfl⟩ := hA.is
  clear hA
  generalize hn : l.length = n at *
  clear hn
  have hz : ¬ (30 : Int) < (n : Int) := by omega
  go_enter Try.func7, Try.ntmps7
  go_wp2_with fail
  refine (W0.out _).mono ?_
  rintro e w1 ⟨rfl, hb⟩
  have G := Lib.hid (G.out.still hb)
  have KL := Lib.hid (KL.out.still hb)
  clear hb
  go_upto_region 3 with (fail)
  have SZ := Lib.hid G.out.bel.size
  have HQ0 : Hid (w.heap.size < w1.heap.size) := Lib.hid (G.out.v0).lt
  have BB := Lib.hid (below_drew (Below.refl w1.heap.size w1))
  have KL0 := KL
  have KL := Lib.hid (KL.out.still (below_drew (Below.refl _ w1)))
  have HG := Lib.hid (fun W h => G.out.still (w' := W) h)
  have HC : Hid (∀ W, Below w1.heap.size w1 W → (W.cell? ⟨w.heap.size, 0, none⟩ = some (.int .i64 ck) ∧ W.cell? ⟨w.heap.size, 1, none⟩ = some (.int .i64 ca) ∧ W.cell? ⟨w.heap.size, 2, none⟩ = some (.int .i64 cn) ∧ W.cell? ⟨w.heap.size, 3, none⟩ = some (.int .i64 cnw) ∧ W.cell? ⟨w.heap.size, 4, none⟩ = some (.int .i64 ctw) ∧ W.cell? ⟨w.heap.size, 5, none⟩ = some (.int .i64 cp) ∧ W.cell? ⟨w.heap.size, 6, none⟩ = some (.int .i64 cf) ∧ W.cell? ⟨w.heap.size, 7, none⟩ = some (.int .i64 cb) ∧ W.cell? ⟨w.heap.size, 8, none⟩ = some (.int .i64 co))) := Lib.hid (fun W h => nine (HG.out W h).v0)
  have BZ : Hid (Below w1.heap.size w1 (w1.alloc (.cells (#[.int .i64 0, .int .i64 0, .int .i64 0, .bool false, .int .i64 0, .int .i64 0]) 30)).drew) := Lib.hid (below_drew (below_new _ _))
  have GZ := Lib.hid (G.out.add 30 (#[.int .i64 0, .int .i64 0, .int .i64 0, .bool false, .int .i64 0, .int .i64 0])).drew
  have KZ : Hid (Holds (w1.alloc (.cells (#[.int .i64 0, .int .i64 0, .int .i64 0, .bool false, .int .i64 0, .int .i64 0]) 30)).drew _ l) := Lib.hid (KL0.out.still BZ.out)
  clear G KL0
  go_region_held3 (fun W => W.cell? ⟨w.heap.size, 0, none⟩ = some (.int .i64 ck) ∧ W.cell? ⟨w.heap.size, 1, none⟩ = some (.int .i64 ca) ∧ W.cell? ⟨w.heap.size, 2, none⟩ = some (.int .i64 cn) ∧ W.cell? ⟨w.heap.size, 3, none⟩ = some (.int .i64 cnw) ∧ W.cell? ⟨w.heap.size, 4, none⟩ = some (.int .i64 ctw) ∧ W.cell? ⟨w.heap.size, 5, none⟩ = some (.int .i64 cp) ∧ W.cell? ⟨w.heap.size, 6, none⟩ = some (.int .i64 cf) ∧ W.cell? ⟨w.heap.size, 7, none⟩ = some (.int .i64 cb) ∧ W.cell? ⟨w.heap.size, 8, none⟩ = some (.int .i64 co))
    (first | with_reducible exact HC.out _ BB.out | with_reducible exact HC.out _ (BB.out.alloc BB.out.size _) | with_reducible exact HC.out _ BZ.out | exact HS.out _ _ _ _ _ _)
    (first
    | (go_at_call 10; with_reducible refine (CS.out _ _ KZ.out).mono ?_; rintro e wn ⟨vx, rfl, hm, hb⟩; have KX := Lib.hid hm.holds; have BB := Lib.hid (below_then BZ.out hb (Nat.le_refl _)); have GA := Lib.hid (GZ.out.still hb); clear hb hm CS KL KZ GZ BZ)
    | (go_at_call 11; have G := GA; with_reducible refine (C1.out _ _ KX.out).mono ?_; rintro e wo ⟨vy, rfl, hm, hb⟩; have HQ : Hid (w.heap.size ≠ w1.heap.size) := Lib.hid (by have := HQ0.out; omega); have HL : Hid (w.heap.size ≤ w1.heap.size) := SZ; have KY := Lib.hid (hm.base (Nat.le_trans SZ.out BB.out.size)); have G := Lib.hid (GA.out.still hb); have HS : Hid (∀ x0 x1 x2 x3 x4 x5, (fun W : World => W.cell? ⟨w.heap.size, 0, none⟩ = some (.int .i64 ck) ∧ W.cell? ⟨w.heap.size, 1, none⟩ = some (.int .i64 ca) ∧ W.cell? ⟨w.heap.size, 2, none⟩ = some (.int .i64 cn) ∧ W.cell? ⟨w.heap.size, 3, none⟩ = some (.int .i64 cnw) ∧ W.cell? ⟨w.heap.size, 4, none⟩ = some (.int .i64 ctw) ∧ W.cell? ⟨w.heap.size, 5, none⟩ = some (.int .i64 cp) ∧ W.cell? ⟨w.heap.size, 6, none⟩ = some (.int .i64 cf) ∧ W.cell? ⟨w.heap.size, 7, none⟩ = some (.int .i64 cb) ∧ W.cell? ⟨w.heap.size, 8, none⟩ = some (.int .i64 co)) (set6 wo w1.heap.size x0 x1 x2 x3 x4 x5)) := Lib.hid (fun x0 x1 x2 x3 x4 x5 => nine_far G.out.v1 HQ.out x0 x1 x2 x3 x4 x5); have BB := Lib.hid (below_then BB.out hb (Nat.le_refl _)); obtain ⟨⟨d0, d1, d2, d3, d4, d5⟩, ⟨f0, f1, f2, f3, f4, f5⟩⟩ := six_of G.out.v0; have KF := Lib.hid (mine_far KY.out G.out.v0 (.int .i64 0) (.int .i64 0) (.int .i64 0) (.bool false) (.int .i64 0) (.int .i64 0)); have GF := Lib.hid (G.out.six (by intro x hx; simp at hx; subst hx; exact HQ.out) HL.out (.int .i64 0) (.int .i64 0) (.int .i64 0) (.bool false) (.int .i64 0) (.int .i64 0)); clear hb hm C1 KX GA)
    | (go_at_call 10; with_reducible refine (CS.out _ _ KL.out).mono ?_; rintro e wn ⟨vx, rfl, hm, hb⟩; have KX := Lib.hid hm.holds; have BB := Lib.hid (below_then BB.out hb (Nat.le_refl _)); clear hb hm CS KL)
    | (go_at_call 11; have BW := Lib.hid (below_new wn (.cells (#[.int .i64 0, .int .i64 0, .int .i64 0, .bool false, .int .i64 0, .int .i64 0]) 30)); with_reducible refine (C1.out _ _ (KX.out.still BW.out)).mono ?_; rintro e wo ⟨vy, rfl, hm, hb⟩; have HQ : Hid (w.heap.size ≠ wn.heap.size) := Lib.hid (by have := HQ0.out; have := BB.out.size; omega); have HL : Hid (w.heap.size ≤ wn.heap.size) := Lib.hid (Nat.le_trans SZ.out BB.out.size); have KY := Lib.hid (hm.base (Nat.le_trans SZ.out (BB.out.alloc BB.out.size _).size)); have G := Lib.hid (((HG.out _ BB.out).add 30 (#[.int .i64 0, .int .i64 0, .int .i64 0, .bool false, .int .i64 0, .int .i64 0])).still hb); have HS : Hid (∀ x0 x1 x2 x3 x4 x5, (fun W : World => W.cell? ⟨w.heap.size, 0, none⟩ = some (.int .i64 ck) ∧ W.cell? ⟨w.heap.size, 1, none⟩ = some (.int .i64 ca) ∧ W.cell? ⟨w.heap.size, 2, none⟩ = some (.int .i64 cn) ∧ W.cell? ⟨w.heap.size, 3, none⟩ = some (.int .i64 cnw) ∧ W.cell? ⟨w.heap.size, 4, none⟩ = some (.int .i64 ctw) ∧ W.cell? ⟨w.heap.size, 5, none⟩ = some (.int .i64 cp) ∧ W.cell? ⟨w.heap.size, 6, none⟩ = some (.int .i64 cf) ∧ W.cell? ⟨w.heap.size, 7, none⟩ = some (.int .i64 cb) ∧ W.cell? ⟨w.heap.size, 8, none⟩ = some (.int .i64 co)) (set6 wo wn.heap.size x0 x1 x2 x3 x4 x5)) := Lib.hid (fun x0 x1 x2 x3 x4 x5 => nine_far G.out.v1 HQ.out x0 x1 x2 x3 x4 x5); have BB := Lib.hid (below_then (BB.out.alloc BB.out.size (.cells (#[.int .i64 0, .int .i64 0, .int .i64 0, .bool false, .int .i64 0, .int .i64 0]) 30)) hb (Nat.le_refl _)); obtain ⟨⟨d0, d1, d2, d3, d4, d5⟩, ⟨f0, f1, f2, f3, f4, f5⟩⟩ := six_of G.out.v0; have KF := Lib.hid (mine_far KY.out G.out.v0 (.int .i64 0) (.int .i64 0) (.int .i64 0) (.bool false) (.int .i64 0) (.int .i64 0)); have GF := Lib.hid (G.out.six (by intro x hx; simp at hx; subst hx; exact HQ.out) HL.out (.int .i64 0) (.int .i64 0) (.int .i64 0) (.bool false) (.int .i64 0) (.int .i64 0)); clear hb hm C1 KX BW)
    | (go_at_call 11; with_reducible refine (C1.out _ _ KX.out).mono ?_; rintro e wo ⟨vy, rfl, hm, hb⟩; have KY := Lib.hid (hm.base (Nat.le_trans SZ.out BB.out.size)); have BB := Lib.hid (below_then BB.out hb (Nat.le_refl _)); have KF := Lib.hid (KY.out.still (below_new wo (.cells #[.int .i64 0, .int .i64 0, .int .i64 0, .bool false, .int .i64 0, .int .i64 0] 30))); have GF := Lib.hid ((HG.out _ BB.out).add 30 #[.int .i64 0, .int .i64 0, .int .i64 0, .bool false, .int .i64 0, .int .i64 0]); clear hb hm C1 KX)
    | fail)
  all_goals
    have G := GF
    have KY := KF
    clear GF KF
    try clear d0 d1 d2 d3 d4 d5 f0 f1 f2 f3 f4 f5 HS HQ HL
    try clear BZ GZ KZ
    clear HG HC BB SZ HQ0
    try unfold set6 at G KY
    first | generalize World.setCell _ _ _ = W2 at * | generalize World.alloc wo _ = W2 at *
    obtain ⟨a0, a1, a2, a3, a4, a5⟩ := row6 G.out.v0
    obtain ⟨c0, c1, c2, c3, c4, c5, c6, c7, c8⟩ := nine G.out.v1
    go_upto_region 8 with (fail)
    clear a0 a1 a2 a3 a4 a5 c0 c1 c2 c3 c4 c5 c6 c7 c8
    go_loopg [10, 11] M (fun g s10 s11 wr => ∃ j : Nat, j ≤ M ∧ M - j ≤ g ∧ s10 = .int .i64 (ca + 4096 * (j : Int)) ∧ Hid (Bag w wr [(w.heap.size, 34, #[.int .i64 ck, .int .i64 ca, .int .i64 cn, .int .i64 cnw, .int .i64 ctw, .int .i64 cp, .int .i64 cf, .int .i64 cb, .int .i64 co])]) ∧ Hid (Mine w.heap.size wr vy Y))
    case atStart => exact ⟨0, by omega, by omega, by simp, Lib.hid G.out.tail, KY⟩
    case round =>
      clear G KY
      obtain ⟨j, hj, hg, rfl, G, KY⟩ := hrel
      obtain ⟨c0, c1, c2, c3, c4, c5, c6, c7, c8⟩ := nine G.out.v0
      by_cases hlt : j < M
      · have CF1 := Lib.hid (CF.out j (by omega) (by omega))
        have hz1 : ca + 4096 * (j : Int) < ca + cn := by omega
        have hz2 : ca + 4096 * ((j + 1 : Nat) : Int) = ca + 4096 * (j : Int) + 4096 := by omega
        have HZ := Lib.hid hz2
        clear hz2
        have hz3 : 65536 ≤ ca + 4096 * (j : Int) ∧ ca + 4096 * (j : Int) ≤ 4128768 := by omega
        generalize ca + 4096 * (j : Int) = x at *
        obtain ⟨hz31, hz32⟩ := hz3
        clear CF
        go_wp2_with fail
        refine (CF1.out _ _ KY.out.holds).mono ?_
        rintro e wf ⟨rfl, hb⟩
        have G := Lib.hid ((G.out.still hb).add 30 #[.int .i64 8, .int .i64 0, .int .i64 0, .bool false, .int .i64 0, .int .i64 0])
        have KY := Lib.hid ((KY.out.still hb).still (below_new wf (.cells #[.int .i64 8, .int .i64 0, .int .i64 0, .bool false, .int .i64 0, .int .i64 0] 30)))
        clear hb CF1 c0 c1 c2 c3 c4 c5 c6 c7 c8
        obtain ⟨c0, c1, c2, c3, c4, c5, c6, c7, c8⟩ := nine G.out.v1
        obtain ⟨a0, a1, a2, a3, a4, a5⟩ := row6 G.out.v0
        go_wp2_with fail
        go_roundg (M - (j + 1))
        case measure => omega
        case rel => exact ⟨j + 1, by omega, by omega, by rw [HZ.out], Lib.hid G.out.tail, KY⟩
      · obtain rfl : j = M := by omega
        have hz1 : ¬ ca + 4096 * (j : Int) < ca + cn := by omega
        go_wp2_with fail
        go_ret
        exact ⟨rfl, G.out.bel⟩

theorem allows_any (l : List Ar) (v : Value) (c : Cl) (kd : Int) (h0 : 0 ≤ kd) (h1 : kd ≤ 255) (w : World) (hA : Holds w v l) :
    Calls Try.prog 7 #[v, c.v, .int .u8 kd] w fun e w' => e = .returned (.bool true) ∧ Below w.heap.size w w' := by
  by_cases hl : l.length ≤ 30
  · by_cases he : (prtR (someL l) c).2 = 0
    · cases hm : mayB c.p (1 + kd % 7) with
      | true => exact allows_yes l v c kd w hl hA h0 h1 he hm
      | false => exact allows_no l v c kd w hl hA h0 h1 he hm
    · exact allows_err l v c kd w hl hA he
  · obtain ⟨A, cc, rfl⟩ := hA.is
    exact allows_many A l.length cc c kd w (by omega)
end Go.Proofs.Ytpekdbncgdlblaa
