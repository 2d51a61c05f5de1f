/-
  Texts of our own, one behind the other (ChRef): what the laws' proofs rest on; each says at its head what it holds. No conditions.
-/
import Derived.Test.YtholpgcghpikgaaGreatPkCc
import Derived.Test.YtholpgcghpikgaaGreatPkU
import Derived.Test.YtholpgcghpikgaaGreatPkR
import Derived.Test.YtholpgcghpikgaaGreatPkPe
import Derived.Test.YtholpgcghpikgaaGreatPkPf
import Derived.Test.YtholpgcghpikgaaGreatPkRf
import Derived.Test.YtholpgcghpikgaaGreatPkBd
import Derived.BigRegion
/-
  Layer 14: the reference: what a call does, of a right space.
-/
namespace Go.Proofs.YtholpgcghpikgaaGreat
open Go.ChangeShapes Go.WideShapes Go.ChangeAt Go.RowKit Go.Shelf
set_option linter.unusedVariables false

/-- A space, and an answer. -/
def GivesSH (w : World) (S : Sc) (a : An) (r : Ending) (w' : World) : Prop := ∃ v', r = .returned (.tuple #[scV v' S, a.v]) ∧ Holds w' v' S.l ∧ Below w.heap.size w w'
/-- A list stays where a block turns that can't hold areas. -/
theorem Holds.apart {w w' : World} {v : Value} {Y : List Ar} {q : Nat} (h : Holds w v Y) (ho : Only (fun k => k = q) w w') (hq : ∀ off (a : Ar), AreaAt w q off a → Formed a → False) (hY : RightL Y) : Holds w' v Y := by
  obtain ⟨A, c, rfl, hc, hA⟩ := h
  refine ⟨A, c, rfl, hc, ?_⟩
  rcases hA with h0 | ⟨b, off, rfl, hb, hcs⟩
  · exact .inl h0
  · by_cases hn : Y = []
    · exact .inl hn
    · have hne : ¬ b = q := fun e => by
        have hl : 0 < Y.length := by
          cases Y with
          | nil => exact absurd rfl hn
          | cons a l => simp
        have := hcs 0 hl
        rw [e] at this
        exact hq _ _ this (right_formed hY _ (List.getElem_mem hl))
      refine .inr ⟨b, off, rfl, Nat.lt_of_lt_of_le hb ho.size, fun j hj => ?_⟩
      have k := hcs j hj
      have e : ∀ i, w'.cell? ⟨b, i, none⟩ = w.cell? ⟨b, i, none⟩ := fun i => ho.cell (p := ⟨b, i, none⟩) hb hne
      exact ⟨(e _).trans k.c0, (e _).trans k.c1, (e _).trans k.c2, (e _).trans k.c3, (e _).trans k.c4, (e _).trans k.c5⟩
theorem not_two {w : World} {q : Nat} {t : TypeId} {a b : Value} (h : Whole w q t #[a, b]) : ∀ off (x : Ar), AreaAt w q off x → Formed x → False := fun off x k _ => by
  have := k.c5
  rw [h.cell] at this
  have e : (#[a, b] : Array Value)[off + 5]? = none := Array.getElem?_eq_none (by simp)
  rw [e] at this
  cases this
theorem not_six {w : World} {q : Nat} {t : TypeId} {e0 : Int} {b c d e f : Value} (h : Whole w q t #[.int .i64 e0, b, c, d, e, f]) (he : e0 < 65536) : ∀ off (x : Ar), AreaAt w q off x → Formed x → False := fun off x k hf => by
  have k5 := k.c5
  rw [h.cell] at k5
  have ho : off = 0 := by
    rcases Nat.eq_zero_or_pos off with h0 | h0
    · exact h0
    · have e' : (#[.int .i64 e0, b, c, d, e, f] : Array Value)[off + 5]? = none := Array.getElem?_eq_none (by simp; omega)
      rw [e'] at k5
      cases k5
  subst ho
  have k0 := k.c0
  rw [h.cell] at k0
  simp only [List.getElem?_toArray, List.getElem?_cons_zero, Option.some.injEq, Value.int.injEq, true_and] at k0
  have := hf.placed.lo
  omega
/-- The answer's variable, laid anew. -/
theorem rlay6 {w wr : World} {l : List (Nat × TypeId × Array Value)} {q : Nat} {t : TypeId} {e0 : Int} {y1 y2 y3 y4 y5 v : Value} {Y : List Ar} (G : Bag w wr ((q, t, #[.int .i64 e0, y1, y2, y3, y4, y5]) :: l)) (M : Holds wr v Y) (hY : RightL Y) (he : e0 < 65536) (hl : ∀ x ∈ l, x.1 < q) (hb : w.heap.size ≤ q) (z0 z1 z2 z3 z4 z5 : Value) :
    Bag w (set6 wr q z0 z1 z2 z3 z4 z5) ((q, t, #[z0, z1, z2, z3, z4, z5]) :: l) ∧ Holds (set6 wr q z0 z1 z2 z3 z4 z5) v Y := by
  have o2 := six_only wr q z0 z1 z2 z3 z4 z5
  refine ⟨⟨fun y hy => ?_, G.bel.trans (o2.below (fun k hk => by omega) G.bel.size)⟩, M.apart o2 (not_six G.v0 he) hY⟩
  rcases List.mem_cons.1 hy with rfl | hy
  · exact six_put G.v0 _ _ _ _ _ _
  · have := hl y hy
    exact (G.tail.all y hy).only o2 (by omega)
theorem rlay_end0 {w wr : World} {r4 r5 : Nat} {l : List (Nat × TypeId × Array Value)} {x0 : Nat × TypeId × Array Value} {a b y1 y2 y3 y4 y5 v : Value} {Y : List Ar} (G : Bag w wr (x0 :: (r5, 34, #[.int .i64 0, y1, y2, y3, y4, y5]) :: (r4, 43, #[a, b]) :: l)) (M : Holds wr v Y) (hY : RightL Y) (h4 : w.heap.size ≤ r4) (h5 : w.heap.size ≤ r5) (hne : r4 ≠ r5) (x x' z0 z1 z2 z3 z4 z5 : Value) {W1 W2 : World} (e1 : W1 = setTwo wr r4 x x') (e2 : W2 = set6 W1 r5 z0 z1 z2 z3 z4 z5) :
    Whole W2 r4 43 #[x, x'] ∧ Whole W2 r5 34 #[z0, z1, z2, z3, z4, z5] ∧ Holds W2 v Y ∧ Below w.heap.size w W2 := by
  have o1 : Only (fun k => k = r4) wr W1 := by rw [e1]; exact two_only wr r4 x x'
  have g4 : Whole W1 r4 43 #[x, x'] := by rw [e1]; exact two_put G.v2 x x'
  have g5 : Whole W1 r5 34 #[.int .i64 0, y1, y2, y3, y4, y5] := G.v1.only o1 (by show ¬ r5 = r4; omega)
  have m1 : Holds W1 v Y := M.apart o1 (not_two G.v2) hY
  have o2 : Only (fun k => k = r5) W1 W2 := by rw [e2]; exact six_only W1 r5 z0 z1 z2 z3 z4 z5
  have g6 : Whole W2 r5 34 #[z0, z1, z2, z3, z4, z5] := by rw [e2]; exact six_put g5 _ _ _ _ _ _
  have m2 : Holds W2 v Y := m1.apart o2 (not_six g5 (by omega)) hY
  exact ⟨g4.only o2 (by show ¬ r4 = r5; omega), g6, m2, (G.bel.trans (o1.below (fun k hk => by omega) G.bel.size)).trans (o2.below (fun k hk => by omega) (Nat.le_trans G.bel.size o1.size))⟩
theorem holds_drew {w : World} {v : Value} {l : List Ar} (h : Holds w v l) : Holds w.drew v l := h.still (below_drew (Below.refl _ _))
theorem rlay_end {w wr : World} {r4 r5 : Nat} {l : List (Nat × TypeId × Array Value)} {x0 : Nat × TypeId × Array Value} {a b y1 y2 y3 y4 y5 v : Value} {Y : List Ar} (G : Bag w wr (x0 :: (r5, 34, #[.int .i64 0, y1, y2, y3, y4, y5]) :: (r4, 43, #[a, b]) :: l)) (M : Holds wr v Y) (hY : RightL Y) (h4 : w.heap.size ≤ r4) (h5 : w.heap.size ≤ r5) (hne : r4 ≠ r5) (x x' z0 z1 z2 z3 z4 z5 : Value) :
    Whole (set6 (setTwo wr r4 x x') r5 z0 z1 z2 z3 z4 z5).drew r4 43 #[x, x'] ∧ Whole (set6 (setTwo wr r4 x x') r5 z0 z1 z2 z3 z4 z5).drew r5 34 #[z0, z1, z2, z3, z4, z5] ∧ Holds (set6 (setTwo wr r4 x x') r5 z0 z1 z2 z3 z4 z5).drew v Y ∧ Below w.heap.size w (set6 (setTwo wr r4 x x') r5 z0 z1 z2 z3 z4 z5).drew := by
  obtain ⟨h1, h2, h3, h4⟩ := rlay_end0 G M hY h4 h5 hne x x' z0 z1 z2 z3 z4 z5 rfl rfl
  exact ⟨h1.drew, h2.drew, holds_drew h3, below_drew h4⟩
set_option maxHeartbeats 1000000 in
theorem refScRight_c {w : World} {v : Value} {s : Sc} (h : Holds w v s.l) (hl : s.l.length ≤ 1000) : Calls Tryz.prog 16 #[scV v s] w fun e w' => e = .returned (.bool (decide (RightSc s))) ∧ Below w.heap.size w w' := by
  obtain ⟨X, n⟩ := s
  obtain ⟨A, c, rfl⟩ := h.is
  simp only at *
  have G := Lib.hid ((Bag.new w).add 43 #[.slice A X.length c, .int .i64 n])
  have KX := Lib.hid (h.still G.out.bel)
  have CN := Lib.hid (refBkRight_any n)
  unfold scV
  by_cases hm : MayL X
  · have CR : Hid (∀ W u, Holds W u X → Calls Tryz.prog 34 #[u] W fun e w' => e = .returned (.bool true) ∧ Below W.heap.size W w') := Lib.hid (fun W u h => refMay_c h hl ⟨fun _ => hm, fun _ => rfl⟩)
    by_cases hn : bkIn n
    · rw [decide_eq_true hn] at CN
      rw [decide_eq_true (show RightSc ⟨X, n⟩ from ⟨hm, hn⟩)]
      clear h hl
      generalize X.length = m at *
      go_enter Tryz.func16, Tryz.ntmps16
      obtain ⟨c0, c1⟩ := row2c G.out.v0
      go_wp2_with fail
      refine (CR.out _ _ KX.out).mono ?_
      rintro e w1 ⟨rfl, hb⟩
      have G := Lib.hid (G.out.still hb)
      clear hb c0 c1
      obtain ⟨c0, c1⟩ := row2c G.out.v0
      go_wp2_with fail
      refine (CN.out _).mono ?_
      rintro e w2 ⟨rfl, hb⟩
      have G := Lib.hid (G.out.still hb)
      go_wp2_with fail
      go_ret
      exact ⟨rfl, G.out.bel⟩
    · rw [decide_eq_false hn] at CN
      rw [decide_eq_false (fun k : RightSc ⟨X, n⟩ => hn k.2)]
      clear h hl
      generalize X.length = m at *
      go_enter Tryz.func16, Tryz.ntmps16
      obtain ⟨c0, c1⟩ := row2c G.out.v0
      go_wp2_with fail
      refine (CR.out _ _ KX.out).mono ?_
      rintro e w1 ⟨rfl, hb⟩
      have G := Lib.hid (G.out.still hb)
      clear hb c0 c1
      obtain ⟨c0, c1⟩ := row2c G.out.v0
      go_wp2_with fail
      refine (CN.out _).mono ?_
      rintro e w2 ⟨rfl, hb⟩
      have G := Lib.hid (G.out.still hb)
      go_wp2_with fail
      go_ret
      exact ⟨rfl, G.out.bel⟩
  · have CR : Hid (∀ W u, Holds W u X → Calls Tryz.prog 34 #[u] W fun e w' => e = .returned (.bool false) ∧ Below W.heap.size W w') := Lib.hid (fun W u h => refMay_c h hl ⟨fun k => (by cases k), fun k => absurd k hm⟩)
    rw [decide_eq_false (fun k : RightSc ⟨X, n⟩ => hm k.1)]
    clear h hl
    generalize X.length = m at *
    go_enter Tryz.func16, Tryz.ntmps16
    obtain ⟨c0, c1⟩ := row2c G.out.v0
    go_wp2_with fail
    refine (CR.out _ _ KX.out).mono ?_
    rintro e w1 ⟨rfl, hb⟩
    have G := Lib.hid (G.out.still hb)
    clear hb c0 c1
    go_wp2_with fail
    go_ret
    exact ⟨rfl, G.out.bel⟩
section
variable {w : World} {A : Option Addr} {cc : Nat} {X : List Ar} {n ca cn cnw ctw cp cf cb co : Int}
set_option maxRecDepth 4000 in
set_option maxHeartbeats 8000000 in
theorem rdo_map (h : Holds w (.slice A X.length cc) X) {Y : List Ar} {e1 x1 : Int} (hY : RightL Y) (hC : ∀ w' u, Holds w' u X → Calls Tryz.prog 28 #[u, .agg #[.int .i64 0, .int .i64 ca, .int .i64 cn, .int .i64 cnw, .int .i64 ctw, .int .i64 cp, .int .i64 cf, .int .i64 cb, .int .i64 co]] w' (GivesH w' Y e1 x1)) : Calls Tryz.prog 14 #[.agg #[.slice A X.length cc, .int .i64 n], .agg #[.int .i64 0, .int .i64 ca, .int .i64 cn, .int .i64 cnw, .int .i64 ctw, .int .i64 cp, .int .i64 cf, .int .i64 cb, .int .i64 co]] w (GivesSH w ⟨Y, n⟩ (An.ev e1 x1)) := by
  have G := Lib.hid ((((((Bag.new w).add 43 #[.slice A X.length cc, .int .i64 n]).add 38 #[.int .i64 0, .int .i64 ca, .int .i64 cn, .int .i64 cnw, .int .i64 ctw, .int .i64 cp, .int .i64 cf, .int .i64 cb, .int .i64 co]).add 43 #[.slice none 0 0, .int .i64 0]).add 34 #[.int .i64 0, .int .i64 0, .int .i64 0, .bool false, .int .i64 0, .int .i64 0]).add 34 #[.int .i64 1, .int .i64 0, .int .i64 0, .bool false, .int .i64 0, .int .i64 0])
  have KX := Lib.hid (h.still G.out.bel)
  have C1 : Hid (∀ w' u, Holds w' u X → Calls Tryz.prog 28 #[u, .agg #[.int .i64 0, .int .i64 ca, .int .i64 cn, .int .i64 cnw, .int .i64 ctw, .int .i64 cp, .int .i64 cf, .int .i64 cb, .int .i64 co]] w' fun e w'' => ∃ v', e = .returned (.tuple #[v', .agg #[.int .i64 e1, .int .i64 x1, .int .i64 0, .bool false, .int .i64 0, .int .i64 0]]) ∧ Holds w'' v' Y ∧ Below w'.heap.size w' w'') := Lib.hid hC
  have HY := Lib.hid hY
  clear hY hC
  simp only [World.size_alloc] at G KX
  clear h
  go_enter Tryz.func14, Tryz.ntmps14
  go_upto_region 2 with (fail)
  generalize hw0 : World.alloc (World.alloc (World.alloc (World.alloc (World.alloc w _) _) _) _) _ = w0 at *
  clear hw0
  obtain ⟨c0, c1, c2, c3, c4, c5, c6, c7, c8⟩ := nine G.out.v3
  obtain ⟨b0, b1⟩ := row2c G.out.v4
  go_wp2_with fail
  refine (C1.out _ _ KX.out).mono ?_
  rintro e w3 ⟨v3, rfl, hm, hb⟩
  obtain ⟨A3, c3x, rfl⟩ := hm.is
  have G := Lib.hid (G.out.still hb)
  have M := Lib.hid (hm)
  clear hm hb C1 KX c0 c1 c2 c3 c4 c5 c6 c7 c8 b0 b1
  obtain ⟨⟨d0, d1, d2, d3, d4, d5⟩, ⟨f0, f1, f2, f3, f4, f5⟩⟩ := six_of G.out.v0
  generalize Y.length = yl at *
  go_upto_region 17 with (fail)
  have HLOW : Hid (∀ x ∈ ([(w.heap.size + 1 + 1 + 1, 34, #[.int .i64 0, .int .i64 0, .int .i64 0, .bool false, .int .i64 0, .int .i64 0]), (w.heap.size + 1 + 1, 43, #[.slice none 0 0, .int .i64 0]), (w.heap.size + 1, 38, #[.int .i64 0, .int .i64 ca, .int .i64 cn, .int .i64 cnw, .int .i64 ctw, .int .i64 cp, .int .i64 cf, .int .i64 cb, .int .i64 co]), (w.heap.size, 43, #[.slice A X.length cc, .int .i64 n])] : List (Nat × TypeId × Array Value)), x.1 < w.heap.size + 1 + 1 + 1 + 1) := Lib.hid (fun x hx => by
    simp only [List.mem_cons, List.not_mem_nil, or_false] at hx
    rcases hx with rfl | rfl | rfl | rfl <;> simp only <;> omega)
  obtain ⟨GL, ML⟩ := rlay6 G.out M.out HY.out (by omega) HLOW.out (by omega) (.int .i64 e1) (.int .i64 x1) (.int .i64 0) (.bool false) (.int .i64 0) (.int .i64 0)
  have G := Lib.hid GL
  have M := Lib.hid ML
  clear GL ML HLOW d0 d1 d2 d3 d4 d5 f0 f1 f2 f3 f4 f5
  unfold set6 at G M
  generalize World.setCell _ _ _ = W5 at *
  obtain ⟨d0, d1, d2, d3, d4, d5⟩ := row6 G.out.v0
  obtain ⟨⟨i0, i1, i2, i3, i4, i5⟩, ⟨f0, f1, f2, f3, f4, f5⟩⟩ := six_of G.out.v1
  obtain ⟨j0, j1⟩ := row2c G.out.v2
  obtain ⟨g0, g1⟩ := row2f G.out.v2
  have k1 : w.heap.size + 1 + 1 ≠ w.heap.size + 1 + 1 + 1 + 1 := by omega
  have k2 : w.heap.size + 1 + 1 + 1 + 1 ≠ w.heap.size + 1 + 1 := by omega
  have k5 : w.heap.size + 1 + 1 + 1 ≠ w.heap.size + 1 + 1 + 1 + 1 := by omega
  have k6 : w.heap.size + 1 + 1 + 1 + 1 ≠ w.heap.size + 1 + 1 + 1 := by omega
  have k9 : w.heap.size + 1 + 1 ≠ w.heap.size + 1 + 1 + 1 := by omega
  have k10 : w.heap.size + 1 + 1 + 1 ≠ w.heap.size + 1 + 1 := by omega
  have k11 : w.heap.size ≤ w.heap.size + 1 + 1 := by omega
  have k12 : w.heap.size ≤ w.heap.size + 1 + 1 + 1 := by omega
  have KK := Lib.hid (And.intro k11 (And.intro k12 k9))
  clear k11 k12
  generalize w.heap.size + 1 + 1 + 1 + 1 = q at *
  generalize w.heap.size + 1 + 1 + 1 = r5 at *
  generalize w.heap.size + 1 + 1 = r4 at *
  go_region
  all_goals
    obtain ⟨e4, e5, eM, eB⟩ := rlay_end G.out M.out HY.out KK.out.1 KK.out.2.1 KK.out.2.2 (.slice A3 yl c3x) (.int .i64 n) (.int .i64 e1) (.int .i64 x1) (.int .i64 0) (.bool false) (.int .i64 0) (.int .i64 0)
    have E4 := Lib.hid e4
    have E5 := Lib.hid e5
    have EM := Lib.hid eM
    have EB := Lib.hid eB
    clear e4 e5 eM eB
    unfold set6 setTwo at E4 E5 EM EB
    generalize World.drew _ = W6 at *
    clear d0 d1 d2 d3 d4 d5 i0 i1 i2 i3 i4 i5 f0 f1 f2 f3 f4 f5 j0 j1 g0 g1
    go_wp2_with fail
    refine bodyPost_ret (results_cell_cell rfl _ _ r4 r5 43 34 #[.slice A3 yl c3x, .int .i64 n] #[.int .i64 e1, .int .i64 x1, .int .i64 0, .bool false, .int .i64 0, .int .i64 0] (0, 0) (0, 0) _ _ rfl E4.out rfl E5.out Tryz.underlying43 rfl (by kernel_rfl) Tryz.underlying34 rfl (by kernel_rfl)) rfl ?_
    exact ⟨_, rfl, EM.out, EB.out⟩

set_option maxRecDepth 4000 in
set_option maxHeartbeats 8000000 in
theorem rdo_unmap (h : Holds w (.slice A X.length cc) X) {Y : List Ar} {e1 x1 : Int} (hY : RightL Y) (hC : ∀ w' u, Holds w' u X → Calls Tryz.prog 29 #[u, .agg #[.int .i64 1, .int .i64 ca, .int .i64 cn, .int .i64 cnw, .int .i64 ctw, .int .i64 cp, .int .i64 cf, .int .i64 cb, .int .i64 co]] w' (GivesH w' Y e1 x1)) : Calls Tryz.prog 14 #[.agg #[.slice A X.length cc, .int .i64 n], .agg #[.int .i64 1, .int .i64 ca, .int .i64 cn, .int .i64 cnw, .int .i64 ctw, .int .i64 cp, .int .i64 cf, .int .i64 cb, .int .i64 co]] w (GivesSH w ⟨Y, n⟩ (An.ev e1 x1)) := by
  have G := Lib.hid ((((((Bag.new w).add 43 #[.slice A X.length cc, .int .i64 n]).add 38 #[.int .i64 1, .int .i64 ca, .int .i64 cn, .int .i64 cnw, .int .i64 ctw, .int .i64 cp, .int .i64 cf, .int .i64 cb, .int .i64 co]).add 43 #[.slice none 0 0, .int .i64 0]).add 34 #[.int .i64 0, .int .i64 0, .int .i64 0, .bool false, .int .i64 0, .int .i64 0]).add 34 #[.int .i64 1, .int .i64 0, .int .i64 0, .bool false, .int .i64 0, .int .i64 0])
  have KX := Lib.hid (h.still G.out.bel)
  have C1 : Hid (∀ w' u, Holds w' u X → Calls Tryz.prog 29 #[u, .agg #[.int .i64 1, .int .i64 ca, .int .i64 cn, .int .i64 cnw, .int .i64 ctw, .int .i64 cp, .int .i64 cf, .int .i64 cb, .int .i64 co]] w' fun e w'' => ∃ v', e = .returned (.tuple #[v', .agg #[.int .i64 e1, .int .i64 x1, .int .i64 0, .bool false, .int .i64 0, .int .i64 0]]) ∧ Holds w'' v' Y ∧ Below w'.heap.size w' w'') := Lib.hid hC
  have HY := Lib.hid hY
  clear hY hC
  simp only [World.size_alloc] at G KX
  clear h
  go_enter Tryz.func14, Tryz.ntmps14
  go_upto_region 2 with (fail)
  generalize hw0 : World.alloc (World.alloc (World.alloc (World.alloc (World.alloc w _) _) _) _) _ = w0 at *
  clear hw0
  obtain ⟨c0, c1, c2, c3, c4, c5, c6, c7, c8⟩ := nine G.out.v3
  obtain ⟨b0, b1⟩ := row2c G.out.v4
  go_wp2_with fail
  refine (C1.out _ _ KX.out).mono ?_
  rintro e w3 ⟨v3, rfl, hm, hb⟩
  obtain ⟨A3, c3x, rfl⟩ := hm.is
  have G := Lib.hid (G.out.still hb)
  have M := Lib.hid (hm)
  clear hm hb C1 KX c0 c1 c2 c3 c4 c5 c6 c7 c8 b0 b1
  obtain ⟨⟨d0, d1, d2, d3, d4, d5⟩, ⟨f0, f1, f2, f3, f4, f5⟩⟩ := six_of G.out.v0
  generalize Y.length = yl at *
  go_upto_region 17 with (fail)
  have HLOW : Hid (∀ x ∈ ([(w.heap.size + 1 + 1 + 1, 34, #[.int .i64 0, .int .i64 0, .int .i64 0, .bool false, .int .i64 0, .int .i64 0]), (w.heap.size + 1 + 1, 43, #[.slice none 0 0, .int .i64 0]), (w.heap.size + 1, 38, #[.int .i64 1, .int .i64 ca, .int .i64 cn, .int .i64 cnw, .int .i64 ctw, .int .i64 cp, .int .i64 cf, .int .i64 cb, .int .i64 co]), (w.heap.size, 43, #[.slice A X.length cc, .int .i64 n])] : List (Nat × TypeId × Array Value)), x.1 < w.heap.size + 1 + 1 + 1 + 1) := Lib.hid (fun x hx => by
    simp only [List.mem_cons, List.not_mem_nil, or_false] at hx
    rcases hx with rfl | rfl | rfl | rfl <;> simp only <;> omega)
  obtain ⟨GL, ML⟩ := rlay6 G.out M.out HY.out (by omega) HLOW.out (by omega) (.int .i64 e1) (.int .i64 x1) (.int .i64 0) (.bool false) (.int .i64 0) (.int .i64 0)
  have G := Lib.hid GL
  have M := Lib.hid ML
  clear GL ML HLOW d0 d1 d2 d3 d4 d5 f0 f1 f2 f3 f4 f5
  unfold set6 at G M
  generalize World.setCell _ _ _ = W5 at *
  obtain ⟨d0, d1, d2, d3, d4, d5⟩ := row6 G.out.v0
  obtain ⟨⟨i0, i1, i2, i3, i4, i5⟩, ⟨f0, f1, f2, f3, f4, f5⟩⟩ := six_of G.out.v1
  obtain ⟨j0, j1⟩ := row2c G.out.v2
  obtain ⟨g0, g1⟩ := row2f G.out.v2
  have k1 : w.heap.size + 1 + 1 ≠ w.heap.size + 1 + 1 + 1 + 1 := by omega
  have k2 : w.heap.size + 1 + 1 + 1 + 1 ≠ w.heap.size + 1 + 1 := by omega
  have k5 : w.heap.size + 1 + 1 + 1 ≠ w.heap.size + 1 + 1 + 1 + 1 := by omega
  have k6 : w.heap.size + 1 + 1 + 1 + 1 ≠ w.heap.size + 1 + 1 + 1 := by omega
  have k9 : w.heap.size + 1 + 1 ≠ w.heap.size + 1 + 1 + 1 := by omega
  have k10 : w.heap.size + 1 + 1 + 1 ≠ w.heap.size + 1 + 1 := by omega
  have k11 : w.heap.size ≤ w.heap.size + 1 + 1 := by omega
  have k12 : w.heap.size ≤ w.heap.size + 1 + 1 + 1 := by omega
  have KK := Lib.hid (And.intro k11 (And.intro k12 k9))
  clear k11 k12
  generalize w.heap.size + 1 + 1 + 1 + 1 = q at *
  generalize w.heap.size + 1 + 1 + 1 = r5 at *
  generalize w.heap.size + 1 + 1 = r4 at *
  go_region
  all_goals
    obtain ⟨e4, e5, eM, eB⟩ := rlay_end G.out M.out HY.out KK.out.1 KK.out.2.1 KK.out.2.2 (.slice A3 yl c3x) (.int .i64 n) (.int .i64 e1) (.int .i64 x1) (.int .i64 0) (.bool false) (.int .i64 0) (.int .i64 0)
    have E4 := Lib.hid e4
    have E5 := Lib.hid e5
    have EM := Lib.hid eM
    have EB := Lib.hid eB
    clear e4 e5 eM eB
    unfold set6 setTwo at E4 E5 EM EB
    generalize World.drew _ = W6 at *
    clear d0 d1 d2 d3 d4 d5 i0 i1 i2 i3 i4 i5 f0 f1 f2 f3 f4 f5 j0 j1 g0 g1
    go_wp2_with fail
    refine bodyPost_ret (results_cell_cell rfl _ _ r4 r5 43 34 #[.slice A3 yl c3x, .int .i64 n] #[.int .i64 e1, .int .i64 x1, .int .i64 0, .bool false, .int .i64 0, .int .i64 0] (0, 0) (0, 0) _ _ rfl E4.out rfl E5.out Tryz.underlying43 rfl (by kernel_rfl) Tryz.underlying34 rfl (by kernel_rfl)) rfl ?_
    exact ⟨_, rfl, EM.out, EB.out⟩

set_option maxRecDepth 4000 in
set_option maxHeartbeats 8000000 in
theorem rdo_protect (h : Holds w (.slice A X.length cc) X) {Y : List Ar} {e1 x1 : Int} (hY : RightL Y) (hC : ∀ w' u, Holds w' u X → Calls Tryz.prog 30 #[u, .agg #[.int .i64 2, .int .i64 ca, .int .i64 cn, .int .i64 cnw, .int .i64 ctw, .int .i64 cp, .int .i64 cf, .int .i64 cb, .int .i64 co]] w' (GivesH w' Y e1 x1)) : Calls Tryz.prog 14 #[.agg #[.slice A X.length cc, .int .i64 n], .agg #[.int .i64 2, .int .i64 ca, .int .i64 cn, .int .i64 cnw, .int .i64 ctw, .int .i64 cp, .int .i64 cf, .int .i64 cb, .int .i64 co]] w (GivesSH w ⟨Y, n⟩ (An.ev e1 x1)) := by
  have G := Lib.hid ((((((Bag.new w).add 43 #[.slice A X.length cc, .int .i64 n]).add 38 #[.int .i64 2, .int .i64 ca, .int .i64 cn, .int .i64 cnw, .int .i64 ctw, .int .i64 cp, .int .i64 cf, .int .i64 cb, .int .i64 co]).add 43 #[.slice none 0 0, .int .i64 0]).add 34 #[.int .i64 0, .int .i64 0, .int .i64 0, .bool false, .int .i64 0, .int .i64 0]).add 34 #[.int .i64 1, .int .i64 0, .int .i64 0, .bool false, .int .i64 0, .int .i64 0])
  have KX := Lib.hid (h.still G.out.bel)
  have C1 : Hid (∀ w' u, Holds w' u X → Calls Tryz.prog 30 #[u, .agg #[.int .i64 2, .int .i64 ca, .int .i64 cn, .int .i64 cnw, .int .i64 ctw, .int .i64 cp, .int .i64 cf, .int .i64 cb, .int .i64 co]] w' fun e w'' => ∃ v', e = .returned (.tuple #[v', .agg #[.int .i64 e1, .int .i64 x1, .int .i64 0, .bool false, .int .i64 0, .int .i64 0]]) ∧ Holds w'' v' Y ∧ Below w'.heap.size w' w'') := Lib.hid hC
  have HY := Lib.hid hY
  clear hY hC
  simp only [World.size_alloc] at G KX
  clear h
  go_enter Tryz.func14, Tryz.ntmps14
  go_upto_region 2 with (fail)
  generalize hw0 : World.alloc (World.alloc (World.alloc (World.alloc (World.alloc w _) _) _) _) _ = w0 at *
  clear hw0
  obtain ⟨c0, c1, c2, c3, c4, c5, c6, c7, c8⟩ := nine G.out.v3
  obtain ⟨b0, b1⟩ := row2c G.out.v4
  go_wp2_with fail
  refine (C1.out _ _ KX.out).mono ?_
  rintro e w3 ⟨v3, rfl, hm, hb⟩
  obtain ⟨A3, c3x, rfl⟩ := hm.is
  have G := Lib.hid (G.out.still hb)
  have M := Lib.hid (hm)
  clear hm hb C1 KX c0 c1 c2 c3 c4 c5 c6 c7 c8 b0 b1
  obtain ⟨⟨d0, d1, d2, d3, d4, d5⟩, ⟨f0, f1, f2, f3, f4, f5⟩⟩ := six_of G.out.v0
  generalize Y.length = yl at *
  go_upto_region 17 with (fail)
  have HLOW : Hid (∀ x ∈ ([(w.heap.size + 1 + 1 + 1, 34, #[.int .i64 0, .int .i64 0, .int .i64 0, .bool false, .int .i64 0, .int .i64 0]), (w.heap.size + 1 + 1, 43, #[.slice none 0 0, .int .i64 0]), (w.heap.size + 1, 38, #[.int .i64 2, .int .i64 ca, .int .i64 cn, .int .i64 cnw, .int .i64 ctw, .int .i64 cp, .int .i64 cf, .int .i64 cb, .int .i64 co]), (w.heap.size, 43, #[.slice A X.length cc, .int .i64 n])] : List (Nat × TypeId × Array Value)), x.1 < w.heap.size + 1 + 1 + 1 + 1) := Lib.hid (fun x hx => by
    simp only [List.mem_cons, List.not_mem_nil, or_false] at hx
    rcases hx with rfl | rfl | rfl | rfl <;> simp only <;> omega)
  obtain ⟨GL, ML⟩ := rlay6 G.out M.out HY.out (by omega) HLOW.out (by omega) (.int .i64 e1) (.int .i64 x1) (.int .i64 0) (.bool false) (.int .i64 0) (.int .i64 0)
  have G := Lib.hid GL
  have M := Lib.hid ML
  clear GL ML HLOW d0 d1 d2 d3 d4 d5 f0 f1 f2 f3 f4 f5
  unfold set6 at G M
  generalize World.setCell _ _ _ = W5 at *
  obtain ⟨d0, d1, d2, d3, d4, d5⟩ := row6 G.out.v0
  obtain ⟨⟨i0, i1, i2, i3, i4, i5⟩, ⟨f0, f1, f2, f3, f4, f5⟩⟩ := six_of G.out.v1
  obtain ⟨j0, j1⟩ := row2c G.out.v2
  obtain ⟨g0, g1⟩ := row2f G.out.v2
  have k1 : w.heap.size + 1 + 1 ≠ w.heap.size + 1 + 1 + 1 + 1 := by omega
  have k2 : w.heap.size + 1 + 1 + 1 + 1 ≠ w.heap.size + 1 + 1 := by omega
  have k5 : w.heap.size + 1 + 1 + 1 ≠ w.heap.size + 1 + 1 + 1 + 1 := by omega
  have k6 : w.heap.size + 1 + 1 + 1 + 1 ≠ w.heap.size + 1 + 1 + 1 := by omega
  have k9 : w.heap.size + 1 + 1 ≠ w.heap.size + 1 + 1 + 1 := by omega
  have k10 : w.heap.size + 1 + 1 + 1 ≠ w.heap.size + 1 + 1 := by omega
  have k11 : w.heap.size ≤ w.heap.size + 1 + 1 := by omega
  have k12 : w.heap.size ≤ w.heap.size + 1 + 1 + 1 := by omega
  have KK := Lib.hid (And.intro k11 (And.intro k12 k9))
  clear k11 k12
  generalize w.heap.size + 1 + 1 + 1 + 1 = q at *
  generalize w.heap.size + 1 + 1 + 1 = r5 at *
  generalize w.heap.size + 1 + 1 = r4 at *
  go_region
  all_goals
    obtain ⟨e4, e5, eM, eB⟩ := rlay_end G.out M.out HY.out KK.out.1 KK.out.2.1 KK.out.2.2 (.slice A3 yl c3x) (.int .i64 n) (.int .i64 e1) (.int .i64 x1) (.int .i64 0) (.bool false) (.int .i64 0) (.int .i64 0)
    have E4 := Lib.hid e4
    have E5 := Lib.hid e5
    have EM := Lib.hid eM
    have EB := Lib.hid eB
    clear e4 e5 eM eB
    unfold set6 setTwo at E4 E5 EM EB
    generalize World.drew _ = W6 at *
    clear d0 d1 d2 d3 d4 d5 i0 i1 i2 i3 i4 i5 f0 f1 f2 f3 f4 f5 j0 j1 g0 g1
    go_wp2_with fail
    refine bodyPost_ret (results_cell_cell rfl _ _ r4 r5 43 34 #[.slice A3 yl c3x, .int .i64 n] #[.int .i64 e1, .int .i64 x1, .int .i64 0, .bool false, .int .i64 0, .int .i64 0] (0, 0) (0, 0) _ _ rfl E4.out rfl E5.out Tryz.underlying43 rfl (by kernel_rfl) Tryz.underlying34 rfl (by kernel_rfl)) rfl ?_
    exact ⟨_, rfl, EM.out, EB.out⟩

set_option maxRecDepth 4000 in
set_option maxHeartbeats 8000000 in
theorem rdo_remap (h : Holds w (.slice A X.length cc) X) {Y : List Ar} {e1 x1 : Int} (hY : RightL Y) (hC : ∀ w' u, Holds w' u X → Calls Tryz.prog 31 #[u, .agg #[.int .i64 3, .int .i64 ca, .int .i64 cn, .int .i64 cnw, .int .i64 ctw, .int .i64 cp, .int .i64 cf, .int .i64 cb, .int .i64 co]] w' (GivesH w' Y e1 x1)) : Calls Tryz.prog 14 #[.agg #[.slice A X.length cc, .int .i64 n], .agg #[.int .i64 3, .int .i64 ca, .int .i64 cn, .int .i64 cnw, .int .i64 ctw, .int .i64 cp, .int .i64 cf, .int .i64 cb, .int .i64 co]] w (GivesSH w ⟨Y, n⟩ (An.ev e1 x1)) := by
  have G := Lib.hid ((((((Bag.new w).add 43 #[.slice A X.length cc, .int .i64 n]).add 38 #[.int .i64 3, .int .i64 ca, .int .i64 cn, .int .i64 cnw, .int .i64 ctw, .int .i64 cp, .int .i64 cf, .int .i64 cb, .int .i64 co]).add 43 #[.slice none 0 0, .int .i64 0]).add 34 #[.int .i64 0, .int .i64 0, .int .i64 0, .bool false, .int .i64 0, .int .i64 0]).add 34 #[.int .i64 1, .int .i64 0, .int .i64 0, .bool false, .int .i64 0, .int .i64 0])
  have KX := Lib.hid (h.still G.out.bel)
  have C1 : Hid (∀ w' u, Holds w' u X → Calls Tryz.prog 31 #[u, .agg #[.int .i64 3, .int .i64 ca, .int .i64 cn, .int .i64 cnw, .int .i64 ctw, .int .i64 cp, .int .i64 cf, .int .i64 cb, .int .i64 co]] w' fun e w'' => ∃ v', e = .returned (.tuple #[v', .agg #[.int .i64 e1, .int .i64 x1, .int .i64 0, .bool false, .int .i64 0, .int .i64 0]]) ∧ Holds w'' v' Y ∧ Below w'.heap.size w' w'') := Lib.hid hC
  have HY := Lib.hid hY
  clear hY hC
  simp only [World.size_alloc] at G KX
  clear h
  go_enter Tryz.func14, Tryz.ntmps14
  go_upto_region 2 with (fail)
  generalize hw0 : World.alloc (World.alloc (World.alloc (World.alloc (World.alloc w _) _) _) _) _ = w0 at *
  clear hw0
  obtain ⟨c0, c1, c2, c3, c4, c5, c6, c7, c8⟩ := nine G.out.v3
  obtain ⟨b0, b1⟩ := row2c G.out.v4
  go_wp2_with fail
  refine (C1.out _ _ KX.out).mono ?_
  rintro e w3 ⟨v3, rfl, hm, hb⟩
  obtain ⟨A3, c3x, rfl⟩ := hm.is
  have G := Lib.hid (G.out.still hb)
  have M := Lib.hid (hm)
  clear hm hb C1 KX c0 c1 c2 c3 c4 c5 c6 c7 c8 b0 b1
  obtain ⟨⟨d0, d1, d2, d3, d4, d5⟩, ⟨f0, f1, f2, f3, f4, f5⟩⟩ := six_of G.out.v0
  generalize Y.length = yl at *
  go_upto_region 17 with (fail)
  have HLOW : Hid (∀ x ∈ ([(w.heap.size + 1 + 1 + 1, 34, #[.int .i64 0, .int .i64 0, .int .i64 0, .bool false, .int .i64 0, .int .i64 0]), (w.heap.size + 1 + 1, 43, #[.slice none 0 0, .int .i64 0]), (w.heap.size + 1, 38, #[.int .i64 3, .int .i64 ca, .int .i64 cn, .int .i64 cnw, .int .i64 ctw, .int .i64 cp, .int .i64 cf, .int .i64 cb, .int .i64 co]), (w.heap.size, 43, #[.slice A X.length cc, .int .i64 n])] : List (Nat × TypeId × Array Value)), x.1 < w.heap.size + 1 + 1 + 1 + 1) := Lib.hid (fun x hx => by
    simp only [List.mem_cons, List.not_mem_nil, or_false] at hx
    rcases hx with rfl | rfl | rfl | rfl <;> simp only <;> omega)
  obtain ⟨GL, ML⟩ := rlay6 G.out M.out HY.out (by omega) HLOW.out (by omega) (.int .i64 e1) (.int .i64 x1) (.int .i64 0) (.bool false) (.int .i64 0) (.int .i64 0)
  have G := Lib.hid GL
  have M := Lib.hid ML
  clear GL ML HLOW d0 d1 d2 d3 d4 d5 f0 f1 f2 f3 f4 f5
  unfold set6 at G M
  generalize World.setCell _ _ _ = W5 at *
  obtain ⟨d0, d1, d2, d3, d4, d5⟩ := row6 G.out.v0
  obtain ⟨⟨i0, i1, i2, i3, i4, i5⟩, ⟨f0, f1, f2, f3, f4, f5⟩⟩ := six_of G.out.v1
  obtain ⟨j0, j1⟩ := row2c G.out.v2
  obtain ⟨g0, g1⟩ := row2f G.out.v2
  have k1 : w.heap.size + 1 + 1 ≠ w.heap.size + 1 + 1 + 1 + 1 := by omega
  have k2 : w.heap.size + 1 + 1 + 1 + 1 ≠ w.heap.size + 1 + 1 := by omega
  have k5 : w.heap.size + 1 + 1 + 1 ≠ w.heap.size + 1 + 1 + 1 + 1 := by omega
  have k6 : w.heap.size + 1 + 1 + 1 + 1 ≠ w.heap.size + 1 + 1 + 1 := by omega
  have k9 : w.heap.size + 1 + 1 ≠ w.heap.size + 1 + 1 + 1 := by omega
  have k10 : w.heap.size + 1 + 1 + 1 ≠ w.heap.size + 1 + 1 := by omega
  have k11 : w.heap.size ≤ w.heap.size + 1 + 1 := by omega
  have k12 : w.heap.size ≤ w.heap.size + 1 + 1 + 1 := by omega
  have KK := Lib.hid (And.intro k11 (And.intro k12 k9))
  clear k11 k12
  generalize w.heap.size + 1 + 1 + 1 + 1 = q at *
  generalize w.heap.size + 1 + 1 + 1 = r5 at *
  generalize w.heap.size + 1 + 1 = r4 at *
  go_region
  all_goals
    obtain ⟨e4, e5, eM, eB⟩ := rlay_end G.out M.out HY.out KK.out.1 KK.out.2.1 KK.out.2.2 (.slice A3 yl c3x) (.int .i64 n) (.int .i64 e1) (.int .i64 x1) (.int .i64 0) (.bool false) (.int .i64 0) (.int .i64 0)
    have E4 := Lib.hid e4
    have E5 := Lib.hid e5
    have EM := Lib.hid eM
    have EB := Lib.hid eB
    clear e4 e5 eM eB
    unfold set6 setTwo at E4 E5 EM EB
    generalize World.drew _ = W6 at *
    clear d0 d1 d2 d3 d4 d5 i0 i1 i2 i3 i4 i5 f0 f1 f2 f3 f4 f5 j0 j1 g0 g1
    go_wp2_with fail
    refine bodyPost_ret (results_cell_cell rfl _ _ r4 r5 43 34 #[.slice A3 yl c3x, .int .i64 n] #[.int .i64 e1, .int .i64 x1, .int .i64 0, .bool false, .int .i64 0, .int .i64 0] (0, 0) (0, 0) _ _ rfl E4.out rfl E5.out Tryz.underlying43 rfl (by kernel_rfl) Tryz.underlying34 rfl (by kernel_rfl)) rfl ?_
    exact ⟨_, rfl, EM.out, EB.out⟩

set_option maxRecDepth 4000 in
set_option maxHeartbeats 8000000 in
theorem rdo_move (h : Holds w (.slice A X.length cc) X) {Y : List Ar} {n1 e1 x1 : Int} (hY : RightL Y) (hC : ∀ w' u, Holds w' u X → Calls Tryz.prog 32 #[u, .int .i64 n, .int .i64 ca] w' (GivesBH w' Y n1 e1 x1)) : Calls Tryz.prog 14 #[.agg #[.slice A X.length cc, .int .i64 n], .agg #[.int .i64 4, .int .i64 ca, .int .i64 cn, .int .i64 cnw, .int .i64 ctw, .int .i64 cp, .int .i64 cf, .int .i64 cb, .int .i64 co]] w (GivesSH w ⟨Y, n1⟩ (An.ev e1 x1)) := by
  have G := Lib.hid ((((((Bag.new w).add 43 #[.slice A X.length cc, .int .i64 n]).add 38 #[.int .i64 4, .int .i64 ca, .int .i64 cn, .int .i64 cnw, .int .i64 ctw, .int .i64 cp, .int .i64 cf, .int .i64 cb, .int .i64 co]).add 43 #[.slice none 0 0, .int .i64 0]).add 34 #[.int .i64 0, .int .i64 0, .int .i64 0, .bool false, .int .i64 0, .int .i64 0]).add 34 #[.int .i64 1, .int .i64 0, .int .i64 0, .bool false, .int .i64 0, .int .i64 0])
  have KX := Lib.hid (h.still G.out.bel)
  have C1 : Hid (∀ w' u, Holds w' u X → Calls Tryz.prog 32 #[u, .int .i64 n, .int .i64 ca] w' fun e w'' => ∃ v', e = .returned (.tuple #[v', .int .i64 n1, .agg #[.int .i64 e1, .int .i64 x1, .int .i64 0, .bool false, .int .i64 0, .int .i64 0]]) ∧ Holds w'' v' Y ∧ Below w'.heap.size w' w'') := Lib.hid hC
  have HY := Lib.hid hY
  clear hY hC
  simp only [World.size_alloc] at G KX
  clear h
  go_enter Tryz.func14, Tryz.ntmps14
  go_upto_region 2 with (fail)
  generalize hw0 : World.alloc (World.alloc (World.alloc (World.alloc (World.alloc w _) _) _) _) _ = w0 at *
  clear hw0
  obtain ⟨c0, c1, c2, c3, c4, c5, c6, c7, c8⟩ := nine G.out.v3
  obtain ⟨b0, b1⟩ := row2c G.out.v4
  go_wp2_with fail
  refine (C1.out _ _ KX.out).mono ?_
  rintro e w3 ⟨v3, rfl, hm, hb⟩
  obtain ⟨A3, c3x, rfl⟩ := hm.is
  have G := Lib.hid (G.out.still hb)
  have M := Lib.hid (hm)
  clear hm hb C1 KX c0 c1 c2 c3 c4 c5 c6 c7 c8 b0 b1
  obtain ⟨⟨d0, d1, d2, d3, d4, d5⟩, ⟨f0, f1, f2, f3, f4, f5⟩⟩ := six_of G.out.v0
  generalize Y.length = yl at *
  go_upto_region 17 with (fail)
  have HLOW : Hid (∀ x ∈ ([(w.heap.size + 1 + 1 + 1, 34, #[.int .i64 0, .int .i64 0, .int .i64 0, .bool false, .int .i64 0, .int .i64 0]), (w.heap.size + 1 + 1, 43, #[.slice none 0 0, .int .i64 0]), (w.heap.size + 1, 38, #[.int .i64 4, .int .i64 ca, .int .i64 cn, .int .i64 cnw, .int .i64 ctw, .int .i64 cp, .int .i64 cf, .int .i64 cb, .int .i64 co]), (w.heap.size, 43, #[.slice A X.length cc, .int .i64 n])] : List (Nat × TypeId × Array Value)), x.1 < w.heap.size + 1 + 1 + 1 + 1) := Lib.hid (fun x hx => by
    simp only [List.mem_cons, List.not_mem_nil, or_false] at hx
    rcases hx with rfl | rfl | rfl | rfl <;> simp only <;> omega)
  obtain ⟨GL, ML⟩ := rlay6 G.out M.out HY.out (by omega) HLOW.out (by omega) (.int .i64 e1) (.int .i64 x1) (.int .i64 0) (.bool false) (.int .i64 0) (.int .i64 0)
  have G := Lib.hid GL
  have M := Lib.hid ML
  clear GL ML HLOW d0 d1 d2 d3 d4 d5 f0 f1 f2 f3 f4 f5
  unfold set6 at G M
  generalize World.setCell _ _ _ = W5 at *
  obtain ⟨d0, d1, d2, d3, d4, d5⟩ := row6 G.out.v0
  obtain ⟨⟨i0, i1, i2, i3, i4, i5⟩, ⟨f0, f1, f2, f3, f4, f5⟩⟩ := six_of G.out.v1
  obtain ⟨j0, j1⟩ := row2c G.out.v2
  obtain ⟨g0, g1⟩ := row2f G.out.v2
  have k1 : w.heap.size + 1 + 1 ≠ w.heap.size + 1 + 1 + 1 + 1 := by omega
  have k2 : w.heap.size + 1 + 1 + 1 + 1 ≠ w.heap.size + 1 + 1 := by omega
  have k5 : w.heap.size + 1 + 1 + 1 ≠ w.heap.size + 1 + 1 + 1 + 1 := by omega
  have k6 : w.heap.size + 1 + 1 + 1 + 1 ≠ w.heap.size + 1 + 1 + 1 := by omega
  have k9 : w.heap.size + 1 + 1 ≠ w.heap.size + 1 + 1 + 1 := by omega
  have k10 : w.heap.size + 1 + 1 + 1 ≠ w.heap.size + 1 + 1 := by omega
  have k11 : w.heap.size ≤ w.heap.size + 1 + 1 := by omega
  have k12 : w.heap.size ≤ w.heap.size + 1 + 1 + 1 := by omega
  have KK := Lib.hid (And.intro k11 (And.intro k12 k9))
  clear k11 k12
  generalize w.heap.size + 1 + 1 + 1 + 1 = q at *
  generalize w.heap.size + 1 + 1 + 1 = r5 at *
  generalize w.heap.size + 1 + 1 = r4 at *
  go_region
  all_goals
    obtain ⟨e4, e5, eM, eB⟩ := rlay_end G.out M.out HY.out KK.out.1 KK.out.2.1 KK.out.2.2 (.slice A3 yl c3x) (.int .i64 n1) (.int .i64 e1) (.int .i64 x1) (.int .i64 0) (.bool false) (.int .i64 0) (.int .i64 0)
    have E4 := Lib.hid e4
    have E5 := Lib.hid e5
    have EM := Lib.hid eM
    have EB := Lib.hid eB
    clear e4 e5 eM eB
    unfold set6 setTwo at E4 E5 EM EB
    generalize World.drew _ = W6 at *
    clear d0 d1 d2 d3 d4 d5 i0 i1 i2 i3 i4 i5 f0 f1 f2 f3 f4 f5 j0 j1 g0 g1
    go_wp2_with fail
    refine bodyPost_ret (results_cell_cell rfl _ _ r4 r5 43 34 #[.slice A3 yl c3x, .int .i64 n1] #[.int .i64 e1, .int .i64 x1, .int .i64 0, .bool false, .int .i64 0, .int .i64 0] (0, 0) (0, 0) _ _ rfl E4.out rfl E5.out Tryz.underlying43 rfl (by kernel_rfl) Tryz.underlying34 rfl (by kernel_rfl)) rfl ?_
    exact ⟨_, rfl, EM.out, EB.out⟩

set_option maxRecDepth 4000 in
set_option maxHeartbeats 8000000 in
theorem rdo_fault (h : Holds w (.slice A X.length cc) X) {e1 t1 t3 t4 : Int} {t2 : Bool} (hY : RightL X) (hC : ∀ w' u, Holds w' u X → Calls Tryz.prog 33 #[u, .agg #[.int .i64 5, .int .i64 ca, .int .i64 cn, .int .i64 cnw, .int .i64 ctw, .int .i64 cp, .int .i64 cf, .int .i64 cb, .int .i64 co]] w' fun e w'' => e = .returned (.agg #[.int .i64 e1, .int .i64 0, .int .i64 t1, .bool t2, .int .i64 t3, .int .i64 t4]) ∧ Below w'.heap.size w' w'') : Calls Tryz.prog 14 #[.agg #[.slice A X.length cc, .int .i64 n], .agg #[.int .i64 5, .int .i64 ca, .int .i64 cn, .int .i64 cnw, .int .i64 ctw, .int .i64 cp, .int .i64 cf, .int .i64 cb, .int .i64 co]] w (GivesSH w ⟨X, n⟩ ⟨e1, 0, ⟨t1, t2, t3, t4⟩⟩) := by
  have G := Lib.hid ((((((Bag.new w).add 43 #[.slice A X.length cc, .int .i64 n]).add 38 #[.int .i64 5, .int .i64 ca, .int .i64 cn, .int .i64 cnw, .int .i64 ctw, .int .i64 cp, .int .i64 cf, .int .i64 cb, .int .i64 co]).add 43 #[.slice none 0 0, .int .i64 0]).add 34 #[.int .i64 0, .int .i64 0, .int .i64 0, .bool false, .int .i64 0, .int .i64 0]).add 34 #[.int .i64 1, .int .i64 0, .int .i64 0, .bool false, .int .i64 0, .int .i64 0])
  have KX := Lib.hid (h.still G.out.bel)
  have C1 : Hid (∀ w' u, Holds w' u X → Calls Tryz.prog 33 #[u, .agg #[.int .i64 5, .int .i64 ca, .int .i64 cn, .int .i64 cnw, .int .i64 ctw, .int .i64 cp, .int .i64 cf, .int .i64 cb, .int .i64 co]] w' fun e w'' => e = .returned (.agg #[.int .i64 e1, .int .i64 0, .int .i64 t1, .bool t2, .int .i64 t3, .int .i64 t4]) ∧ Below w'.heap.size w' w'') := Lib.hid hC
  have HY := Lib.hid hY
  clear hY hC
  simp only [World.size_alloc] at G KX
  clear h
  go_enter Tryz.func14, Tryz.ntmps14
  go_upto_region 2 with (fail)
  generalize hw0 : World.alloc (World.alloc (World.alloc (World.alloc (World.alloc w _) _) _) _) _ = w0 at *
  clear hw0
  obtain ⟨c0, c1, c2, c3, c4, c5, c6, c7, c8⟩ := nine G.out.v3
  obtain ⟨b0, b1⟩ := row2c G.out.v4
  go_wp2_with fail
  refine (C1.out _ _ KX.out).mono ?_
  rintro e w3 ⟨rfl, hb⟩
  have G := Lib.hid (G.out.still hb)
  have M := Lib.hid (KX.out.still hb)
  clear hb C1 KX c0 c1 c2 c3 c4 c5 c6 c7 c8 b0 b1
  obtain ⟨⟨d0, d1, d2, d3, d4, d5⟩, ⟨f0, f1, f2, f3, f4, f5⟩⟩ := six_of G.out.v0
  go_upto_region 17 with (fail)
  have HLOW : Hid (∀ x ∈ ([(w.heap.size + 1 + 1 + 1, 34, #[.int .i64 0, .int .i64 0, .int .i64 0, .bool false, .int .i64 0, .int .i64 0]), (w.heap.size + 1 + 1, 43, #[.slice none 0 0, .int .i64 0]), (w.heap.size + 1, 38, #[.int .i64 5, .int .i64 ca, .int .i64 cn, .int .i64 cnw, .int .i64 ctw, .int .i64 cp, .int .i64 cf, .int .i64 cb, .int .i64 co]), (w.heap.size, 43, #[.slice A X.length cc, .int .i64 n])] : List (Nat × TypeId × Array Value)), x.1 < w.heap.size + 1 + 1 + 1 + 1) := Lib.hid (fun x hx => by
    simp only [List.mem_cons, List.not_mem_nil, or_false] at hx
    rcases hx with rfl | rfl | rfl | rfl <;> simp only <;> omega)
  obtain ⟨GL, ML⟩ := rlay6 G.out M.out HY.out (by omega) HLOW.out (by omega) (.int .i64 e1) (.int .i64 0) (.int .i64 t1) (.bool t2) (.int .i64 t3) (.int .i64 t4)
  have G := Lib.hid GL
  have M := Lib.hid ML
  clear GL ML HLOW d0 d1 d2 d3 d4 d5 f0 f1 f2 f3 f4 f5
  unfold set6 at G M
  generalize World.setCell _ _ _ = W5 at *
  obtain ⟨d0, d1, d2, d3, d4, d5⟩ := row6 G.out.v0
  obtain ⟨⟨i0, i1, i2, i3, i4, i5⟩, ⟨f0, f1, f2, f3, f4, f5⟩⟩ := six_of G.out.v1
  obtain ⟨j0, j1⟩ := row2c G.out.v2
  obtain ⟨g0, g1⟩ := row2f G.out.v2
  have k1 : w.heap.size + 1 + 1 ≠ w.heap.size + 1 + 1 + 1 + 1 := by omega
  have k2 : w.heap.size + 1 + 1 + 1 + 1 ≠ w.heap.size + 1 + 1 := by omega
  have k5 : w.heap.size + 1 + 1 + 1 ≠ w.heap.size + 1 + 1 + 1 + 1 := by omega
  have k6 : w.heap.size + 1 + 1 + 1 + 1 ≠ w.heap.size + 1 + 1 + 1 := by omega
  have k9 : w.heap.size + 1 + 1 ≠ w.heap.size + 1 + 1 + 1 := by omega
  have k10 : w.heap.size + 1 + 1 + 1 ≠ w.heap.size + 1 + 1 := by omega
  have k11 : w.heap.size ≤ w.heap.size + 1 + 1 := by omega
  have k12 : w.heap.size ≤ w.heap.size + 1 + 1 + 1 := by omega
  have KK := Lib.hid (And.intro k11 (And.intro k12 k9))
  clear k11 k12
  generalize w.heap.size + 1 + 1 + 1 + 1 = q at *
  generalize w.heap.size + 1 + 1 + 1 = r5 at *
  generalize w.heap.size + 1 + 1 = r4 at *
  go_region
  all_goals
    obtain ⟨e4, e5, eM, eB⟩ := rlay_end G.out M.out HY.out KK.out.1 KK.out.2.1 KK.out.2.2 (.slice A X.length cc) (.int .i64 n) (.int .i64 e1) (.int .i64 0) (.int .i64 t1) (.bool t2) (.int .i64 t3) (.int .i64 t4)
    have E4 := Lib.hid e4
    have E5 := Lib.hid e5
    have EM := Lib.hid eM
    have EB := Lib.hid eB
    clear e4 e5 eM eB
    unfold set6 setTwo at E4 E5 EM EB
    generalize World.drew _ = W6 at *
    clear d0 d1 d2 d3 d4 d5 i0 i1 i2 i3 i4 i5 f0 f1 f2 f3 f4 f5 j0 j1 g0 g1
    go_wp2_with fail
    refine bodyPost_ret (results_cell_cell rfl _ _ r4 r5 43 34 #[.slice A X.length cc, .int .i64 n] #[.int .i64 e1, .int .i64 0, .int .i64 t1, .bool t2, .int .i64 t3, .int .i64 t4] (0, 0) (0, 0) _ _ rfl E4.out rfl E5.out Tryz.underlying43 rfl (by kernel_rfl) Tryz.underlying34 rfl (by kernel_rfl)) rfl ?_
    exact ⟨_, rfl, EM.out, EB.out⟩

set_option maxRecDepth 4000 in
set_option maxHeartbeats 8000000 in
theorem rdo_no (h : Holds w (.slice A X.length cc) X) {ck : Int} (hY : RightL X) (h0 : ck ≠ 0) (h1 : ck ≠ 1) (h2 : ck ≠ 2) (h3 : ck ≠ 3) (h4 : ck ≠ 4) (h5 : ck ≠ 5) : Calls Tryz.prog 14 #[.agg #[.slice A X.length cc, .int .i64 n], .agg #[.int .i64 ck, .int .i64 ca, .int .i64 cn, .int .i64 cnw, .int .i64 ctw, .int .i64 cp, .int .i64 cf, .int .i64 cb, .int .i64 co]] w (GivesSH w ⟨X, n⟩ (An.ev 1 0)) := by
  have G := Lib.hid ((((((Bag.new w).add 43 #[.slice A X.length cc, .int .i64 n]).add 38 #[.int .i64 ck, .int .i64 ca, .int .i64 cn, .int .i64 cnw, .int .i64 ctw, .int .i64 cp, .int .i64 cf, .int .i64 cb, .int .i64 co]).add 43 #[.slice none 0 0, .int .i64 0]).add 34 #[.int .i64 0, .int .i64 0, .int .i64 0, .bool false, .int .i64 0, .int .i64 0]).add 34 #[.int .i64 1, .int .i64 0, .int .i64 0, .bool false, .int .i64 0, .int .i64 0])
  have KX := Lib.hid (h.still G.out.bel)
  have HY := Lib.hid hY
  clear hY
  simp only [World.size_alloc] at G KX
  clear h
  go_enter Tryz.func14, Tryz.ntmps14
  go_upto_region 2 with (fail)
  generalize hw0 : World.alloc (World.alloc (World.alloc (World.alloc (World.alloc w _) _) _) _) _ = w0 at *
  clear hw0
  obtain ⟨c0, c1, c2, c3, c4, c5, c6, c7, c8⟩ := nine G.out.v3
  obtain ⟨b0, b1⟩ := row2c G.out.v4
  have M := KX
  clear KX
  obtain ⟨⟨d0, d1, d2, d3, d4, d5⟩, ⟨f0, f1, f2, f3, f4, f5⟩⟩ := six_of G.out.v0
  go_upto_region 17 with (fail)
  clear d0 d1 d2 d3 d4 d5 f0 f1 f2 f3 f4 f5
  obtain ⟨d0, d1, d2, d3, d4, d5⟩ := row6 G.out.v0
  obtain ⟨⟨i0, i1, i2, i3, i4, i5⟩, ⟨f0, f1, f2, f3, f4, f5⟩⟩ := six_of G.out.v1
  obtain ⟨j0, j1⟩ := row2c G.out.v2
  obtain ⟨g0, g1⟩ := row2f G.out.v2
  have k1 : w.heap.size + 1 + 1 ≠ w.heap.size + 1 + 1 + 1 + 1 := by omega
  have k2 : w.heap.size + 1 + 1 + 1 + 1 ≠ w.heap.size + 1 + 1 := by omega
  have k5 : w.heap.size + 1 + 1 + 1 ≠ w.heap.size + 1 + 1 + 1 + 1 := by omega
  have k6 : w.heap.size + 1 + 1 + 1 + 1 ≠ w.heap.size + 1 + 1 + 1 := by omega
  have k9 : w.heap.size + 1 + 1 ≠ w.heap.size + 1 + 1 + 1 := by omega
  have k10 : w.heap.size + 1 + 1 + 1 ≠ w.heap.size + 1 + 1 := by omega
  have k11 : w.heap.size ≤ w.heap.size + 1 + 1 := by omega
  have k12 : w.heap.size ≤ w.heap.size + 1 + 1 + 1 := by omega
  have KK := Lib.hid (And.intro k11 (And.intro k12 k9))
  clear k11 k12
  generalize w.heap.size + 1 + 1 + 1 + 1 = q at *
  generalize w.heap.size + 1 + 1 + 1 = r5 at *
  generalize w.heap.size + 1 + 1 = r4 at *
  go_region
  all_goals
    obtain ⟨e4, e5, eM, eB⟩ := rlay_end G.out M.out HY.out KK.out.1 KK.out.2.1 KK.out.2.2 (.slice A X.length cc) (.int .i64 n) (.int .i64 1) (.int .i64 0) (.int .i64 0) (.bool false) (.int .i64 0) (.int .i64 0)
    have E4 := Lib.hid e4
    have E5 := Lib.hid e5
    have EM := Lib.hid eM
    have EB := Lib.hid eB
    clear e4 e5 eM eB
    unfold set6 setTwo at E4 E5 EM EB
    generalize World.drew _ = W6 at *
    clear d0 d1 d2 d3 d4 d5 i0 i1 i2 i3 i4 i5 f0 f1 f2 f3 f4 f5 j0 j1 g0 g1
    go_wp2_with fail
    refine bodyPost_ret (results_cell_cell rfl _ _ r4 r5 43 34 #[.slice A X.length cc, .int .i64 n] #[.int .i64 1, .int .i64 0, .int .i64 0, .bool false, .int .i64 0, .int .i64 0] (0, 0) (0, 0) _ _ rfl E4.out rfl E5.out Tryz.underlying43 rfl (by kernel_rfl) Tryz.underlying34 rfl (by kernel_rfl)) rfl ?_
    exact ⟨_, rfl, EM.out, EB.out⟩

end
section
variable {w : World} {v : Value} {s : Sc}
/-- A call of a right space, as the reference has it. -/
theorem refDo_c (h : Holds w v s.l) (hs : RightSc s) (c : Cl) (hf : i64 c.f) (ho : i64 c.o) : Calls Tryz.prog 14 #[scV v s, c.v] w (GivesSH w (chR s c).1 (chR s c).2) := by
  obtain ⟨X, n⟩ := s
  obtain ⟨A, cc, rfl⟩ := h.is
  obtain ⟨ck, ca, cn, cnw, ctw, cp, cf, cb, co⟩ := c
  by_cases hk : 0 ≤ ck ∧ ck ≤ 5
  · rw [chR_yes (s := ⟨X, n⟩) (c := ⟨ck, ca, cn, cnw, ctw, cp, cf, cb, co⟩) ⟨hs, hk⟩]
    rcases (by omega : ck = 0 ∨ ck = 1 ∨ ck = 2 ∨ ck = 3 ∨ ck = 4 ∨ ck = 5) with rfl | rfl | rfl | rfl | rfl | rfl
    · exact rdo_map h (mapR_may hs.1 _).1 fun w' u hu => refMap_c hu hs.1 ⟨0, ca, cn, cnw, ctw, cp, cf, cb, co⟩ hf ho
    · exact rdo_unmap h (umR_may hs.1 _).1 fun w' u hu => refUnmap_c hu hs.1 ⟨1, ca, cn, cnw, ctw, cp, cf, cb, co⟩
    · exact rdo_protect h (prtR_may hs.1 _).1 fun w' u hu => refProt_c hu hs.1 ⟨2, ca, cn, cnw, ctw, cp, cf, cb, co⟩
    · exact rdo_remap h (rmR_may hs.1 _).1 fun w' u hu => refRemap_c hu hs.1 ⟨3, ca, cn, cnw, ctw, cp, cf, cb, co⟩ hf
    · exact rdo_move h (bkR_may hs.1).1 fun w' u hu => refMove_c hu hs.1 n ca hs.2
    · exact rdo_fault h hs.1.1 fun w' u hu => refFault_c hu hs.1 ⟨5, ca, cn, cnw, ctw, cp, cf, cb, co⟩
  · rw [chR_no (s := ⟨X, n⟩) (c := ⟨ck, ca, cn, cnw, ctw, cp, cf, cb, co⟩) (fun k => hk k.2)]
    exact rdo_no (ck := ck) h hs.1.1 (by omega) (by omega) (by omega) (by omega) (by omega) (by omega)
end
end Go.Proofs.YtholpgcghpikgaaGreat
