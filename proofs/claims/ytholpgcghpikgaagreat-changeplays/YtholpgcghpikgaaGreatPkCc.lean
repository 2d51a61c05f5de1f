/-
  Texts of our own, one behind the other (ChDo, ChAct): what the laws' proofs rest on; each says at its head what it holds. No conditions.
-/
import Derived.Test.YtholpgcghpikgaaGreatPkCb
import Derived.Test.YtholpgcghpikgaaGreatPkPb
import Derived.Test.YtholpgcghpikgaaGreatPkQd
import Derived.Test.YtholpgcghpikgaaGreatPkBb
import Derived.BigRegion
/-
  Layer 14: what a call does: its contract.
-/
namespace Go.Proofs.YtholpgcghpikgaaGreat
open Go.ChangeShapes Go.WideShapes Go.ChangeAt Go.RowKit Go.Shelf
set_option linter.unusedVariables false

/-- A space of its own, and an answer. -/
def GivesS (w : World) (S : Sc) (a : An) (r : Ending) (w' : World) : Prop := ∃ v', r = .returned (.tuple #[scV v' S, a.v]) ∧ Mine w.heap.size w' v' S.l ∧ Below w.heap.size w w'

/-- Two cells are written. -/
def setTwo (w : World) (q : Nat) (x0 x1 : Value) : World := (w.setCell ⟨q, 0, none⟩ x0).setCell ⟨q, 1, none⟩ x1
theorem two_put {w : World} {q : Nat} {t : TypeId} {a b : Value} (h : Whole w q t #[a, b]) (x0 x1 : Value) : Whole (setTwo w q x0 x1) q t #[x0, x1] := (Whole.put h 0 _).put 1 _
theorem two_only (w : World) (q : Nat) (x0 x1 : Value) : Only (fun k => k = q) w (setTwo w q x0 x1) :=
  ((Only.refl (fun k => k = q) w).setCell (p := ⟨q, 0, none⟩) (.inl rfl) _).setCell (p := ⟨q, 1, none⟩) (.inl rfl) _
theorem mine_two {B : Nat} {w : World} {v : Value} {l : List Ar} {q : Nat} {t : TypeId} {cs : Array Value} (h : Mine B w v l) (hq : Whole w q t cs) (ht : 52 ≠ t) (x0 x1 : Value) : Mine B (setTwo w q x0 x1) v l :=
  h.only (two_only w q _ _) (fun k hk e => own_apart h hq ht (by rw [hk, e]))
theorem Bag.put2 {w wr : World} {l : List (Nat × TypeId × Array Value)} {q : Nat} {t : TypeId} {a b : Value} (h : Bag w wr ((q, t, #[a, b]) :: l)) (hq : w.heap.size ≤ q) (hl : ∀ x ∈ l, x.1 < q) (x0 x1 : Value) : Bag w (setTwo wr q x0 x1) ((q, t, #[x0, x1]) :: l) := by
  refine ⟨fun x hx => ?_, h.bel.trans ((two_only wr q _ _).below (fun k hk => by omega) h.bel.size)⟩
  rcases List.mem_cons.1 hx with rfl | hx
  · exact two_put h.v0 _ _
  · exact (h.tail.all x hx).only (two_only wr q _ _) (by have := hl x hx; omega)
theorem Bag.low {w wr : World} {l : List (Nat × TypeId × Array Value)} (h : Bag w wr l) : ∀ x ∈ l, x.1 < wr.heap.size := fun x hx => (h.all x hx).lt

/-- What the two variables hold when an answer has been laid into them. -/
theorem lay1 {w wr : World} {l : List (Nat × TypeId × Array Value)} {q q7 B : Nat} {a b y0 y1 y2 y3 y4 y5 v : Value} {Y : List Ar} (G : Bag w wr ((q7, 34, #[y0, y1, y2, y3, y4, y5]) :: (q, 26, #[a, b]) :: l)) (M : Mine B wr v Y) (hl : ∀ x ∈ l, x.1 < q) (hq : q < q7) (hb : w.heap.size ≤ q) (x z0 z1 z2 z3 z4 z5 : Value) :
    Bag w (set6 (wr.setCell ⟨q, 0, none⟩ x) q7 z0 z1 z2 z3 z4 z5) ((q7, 34, #[z0, z1, z2, z3, z4, z5]) :: (q, 26, #[x, b]) :: l) ∧ Mine B (set6 (wr.setCell ⟨q, 0, none⟩ x) q7 z0 z1 z2 z3 z4 z5) v Y := by
  have o1 : Only (fun k => k = q) wr (wr.setCell ⟨q, 0, none⟩ x) := (Only.refl (fun k => k = q) wr).setCell (p := ⟨q, 0, none⟩) (.inl rfl) _
  have h1 : Whole (wr.setCell ⟨q, 0, none⟩ x) q 26 #[x, b] := Whole.put G.v1 0 x
  have h7 : Whole (wr.setCell ⟨q, 0, none⟩ x) q7 34 #[y0, y1, y2, y3, y4, y5] := G.v0.only o1 (by omega)
  have m1 : Mine B (wr.setCell ⟨q, 0, none⟩ x) v Y := M.only o1 (fun k hk e => own_apart M G.v1 (by decide) (by rw [hk, e]))
  have o2 := six_only (wr.setCell ⟨q, 0, none⟩ x) q7 z0 z1 z2 z3 z4 z5
  refine ⟨⟨fun y hy => ?_, (G.bel.trans (o1.below (fun k hk => by omega) G.bel.size)).trans (o2.below (fun k hk => by omega) (Nat.le_trans G.bel.size o1.size))⟩, mine_far m1 h7 _ _ _ _ _ _⟩
  rcases List.mem_cons.1 hy with rfl | hy
  · exact six_put h7 _ _ _ _ _ _
  rcases List.mem_cons.1 hy with rfl | hy
  · exact h1.only o2 (by show ¬ q = q7; omega)
  · have := hl y hy
    exact ((G.tail.tail.all y hy).only o1 (by omega)).only o2 (by omega)
theorem lay2 {w wr : World} {l : List (Nat × TypeId × Array Value)} {q q7 B : Nat} {a b y0 y1 y2 y3 y4 y5 v : Value} {Y : List Ar} (G : Bag w wr ((q7, 34, #[y0, y1, y2, y3, y4, y5]) :: (q, 26, #[a, b]) :: l)) (M : Mine B wr v Y) (hl : ∀ x ∈ l, x.1 < q) (hq : q < q7) (hb : w.heap.size ≤ q) (x x' z0 z1 z2 z3 z4 z5 : Value) :
    Bag w (set6 (setTwo wr q x x') q7 z0 z1 z2 z3 z4 z5) ((q7, 34, #[z0, z1, z2, z3, z4, z5]) :: (q, 26, #[x, x']) :: l) ∧ Mine B (set6 (setTwo wr q x x') q7 z0 z1 z2 z3 z4 z5) v Y := by
  have o1 : Only (fun k => k = q) wr (setTwo wr q x x') := two_only wr q x x'
  have h1 : Whole (setTwo wr q x x') q 26 #[x, x'] := two_put G.v1 x x'
  have h7 : Whole (setTwo wr q x x') q7 34 #[y0, y1, y2, y3, y4, y5] := G.v0.only o1 (by omega)
  have m1 : Mine B (setTwo wr q x x') v Y := M.only o1 (fun k hk e => own_apart M G.v1 (by decide) (by rw [hk, e]))
  have o2 := six_only (setTwo wr q x x') q7 z0 z1 z2 z3 z4 z5
  refine ⟨⟨fun y hy => ?_, (G.bel.trans (o1.below (fun k hk => by omega) G.bel.size)).trans (o2.below (fun k hk => by omega) (Nat.le_trans G.bel.size o1.size))⟩, mine_far m1 h7 _ _ _ _ _ _⟩
  rcases List.mem_cons.1 hy with rfl | hy
  · exact six_put h7 _ _ _ _ _ _
  rcases List.mem_cons.1 hy with rfl | hy
  · exact h1.only o2 (by show ¬ q = q7; omega)
  · have := hl y hy
    exact ((G.tail.tail.all y hy).only o1 (by omega)).only o2 (by omega)
theorem lay0 {w wr : World} {l : List (Nat × TypeId × Array Value)} {q7 B : Nat} {y0 y1 y2 y3 y4 y5 v : Value} {Y : List Ar} (G : Bag w wr ((q7, 34, #[y0, y1, y2, y3, y4, y5]) :: l)) (M : Mine B wr v Y) (hl : ∀ x ∈ l, x.1 < q7) (hb : w.heap.size ≤ q7) (z0 z1 z2 z3 z4 z5 : Value) :
    Bag w (set6 wr q7 z0 z1 z2 z3 z4 z5) ((q7, 34, #[z0, z1, z2, z3, z4, z5]) :: l) ∧ Mine B (set6 wr q7 z0 z1 z2 z3 z4 z5) v Y := by
  have o2 := six_only wr q7 z0 z1 z2 z3 z4 z5
  refine ⟨⟨fun y hy => ?_, G.bel.trans (o2.below (fun k hk => by omega) G.bel.size)⟩, mine_far M G.v0 _ _ _ _ _ _⟩
  rcases List.mem_cons.1 hy with rfl | hy
  · exact six_put G.v0 _ _ _ _ _ _
  · have := hl y hy
    exact (G.tail.all y hy).only o2 (by omega)
theorem lay_e {w wr : World} {l : List (Nat × TypeId × Array Value)} {q7 B : Nat} {y0 y1 y2 y3 y4 y5 v : Value} {Y : List Ar} (G : Bag w wr ((q7, 34, #[y0, y1, y2, y3, y4, y5]) :: l)) (M : Mine B wr v Y) (hl : ∀ x ∈ l, x.1 < q7) (hb : w.heap.size ≤ q7) (z0 : Value) :
    Bag w (wr.setCell ⟨q7, 0, none⟩ z0) ((q7, 34, #[z0, y1, y2, y3, y4, y5]) :: l) ∧ Mine B (wr.setCell ⟨q7, 0, none⟩ z0) v Y := by
  have o2 : Only (fun k => k = q7) wr (wr.setCell ⟨q7, 0, none⟩ z0) := (Only.refl (fun k => k = q7) wr).setCell (p := ⟨q7, 0, none⟩) (.inl rfl) _
  refine ⟨⟨fun y hy => ?_, G.bel.trans (o2.below (fun k hk => by omega) G.bel.size)⟩, M.only o2 (fun k hk e => own_apart M G.v0 (by decide) (by rw [hk, e]))⟩
  rcases List.mem_cons.1 hy with rfl | hy
  · exact Whole.put G.v0 0 z0
  · have := hl y hy
    exact (G.tail.all y hy).only o2 (by omega)
theorem mine_drew {B : Nat} {w : World} {v : Value} {l : List Ar} (h : Mine B w v l) : Mine B w.drew v l := h.still (below_drew (Below.refl _ _))
/-- The answers' cells, when both have been laid. -/
theorem lay_end0 {w wr : World} {r4 r5 : Nat} {l : List (Nat × TypeId × Array Value)} {x0 x1 : Nat × TypeId × Array Value} {a b y0 y1 y2 y3 y4 y5 v : Value} {Y : List Ar} (G : Bag w wr (x0 :: x1 :: (r5, 34, #[y0, y1, y2, y3, y4, y5]) :: (r4, 26, #[a, b]) :: l)) (M : Mine w.heap.size wr v Y) (h4 : w.heap.size ≤ r4) (h5 : w.heap.size ≤ r5) (hne : r4 ≠ r5) (x x' z0 z1 z2 z3 z4 z5 : Value) {W1 W2 : World} (e1 : W1 = setTwo wr r4 x x') (e2 : W2 = set6 W1 r5 z0 z1 z2 z3 z4 z5) :
    Whole W2 r4 26 #[x, x'] ∧ Whole W2 r5 34 #[z0, z1, z2, z3, z4, z5] ∧ Mine w.heap.size W2 v Y ∧ Below w.heap.size w W2 := by
  have o1 : Only (fun k => k = r4) wr W1 := by rw [e1]; exact two_only wr r4 x x'
  have g4 : Whole W1 r4 26 #[x, x'] := by rw [e1]; exact two_put G.v3 x x'
  have g5 : Whole W1 r5 34 #[y0, y1, y2, y3, y4, y5] := G.v2.only o1 (by show ¬ r5 = r4; omega)
  have m1 : Mine w.heap.size W1 v Y := by rw [e1]; exact mine_two M G.v3 (by decide) x x'
  have o2 : Only (fun k => k = r5) W1 W2 := by rw [e2]; exact six_only W1 r5 z0 z1 z2 z3 z4 z5
  have g6 : Whole W2 r5 34 #[z0, z1, z2, z3, z4, z5] := by rw [e2]; exact six_put g5 _ _ _ _ _ _
  have m2 : Mine w.heap.size W2 v Y := by rw [e2]; exact mine_far m1 g5 _ _ _ _ _ _
  exact ⟨g4.only o2 (by show ¬ r4 = r5; omega), g6, m2, (G.bel.trans (o1.below (fun k hk => by omega) G.bel.size)).trans (o2.below (fun k hk => by omega) (Nat.le_trans G.bel.size o1.size))⟩
theorem lay_end {w wr : World} {r4 r5 : Nat} {l : List (Nat × TypeId × Array Value)} {x0 x1 : Nat × TypeId × Array Value} {a b y0 y1 y2 y3 y4 y5 v : Value} {Y : List Ar} (G : Bag w wr (x0 :: x1 :: (r5, 34, #[y0, y1, y2, y3, y4, y5]) :: (r4, 26, #[a, b]) :: l)) (M : Mine w.heap.size wr v Y) (h4 : w.heap.size ≤ r4) (h5 : w.heap.size ≤ r5) (hne : r4 ≠ r5) (x x' z0 z1 z2 z3 z4 z5 : Value) :
    Whole (set6 (setTwo wr r4 x x') r5 z0 z1 z2 z3 z4 z5).drew r4 26 #[x, x'] ∧ Whole (set6 (setTwo wr r4 x x') r5 z0 z1 z2 z3 z4 z5).drew r5 34 #[z0, z1, z2, z3, z4, z5] ∧ Mine w.heap.size (set6 (setTwo wr r4 x x') r5 z0 z1 z2 z3 z4 z5).drew v Y ∧ Below w.heap.size w (set6 (setTwo wr r4 x x') r5 z0 z1 z2 z3 z4 z5).drew := by
  obtain ⟨h1, h2, h3, h4⟩ := lay_end0 G M h4 h5 hne x x' z0 z1 z2 z3 z4 z5 rfl rfl
  exact ⟨h1.drew, h2.drew, mine_drew h3, below_drew h4⟩
section
variable {w : World} {A : Option Addr} {cc : Nat} {X : List Ar} {n ca cn cnw ctw cp cf cb co : Int}
set_option maxRecDepth 4000 in
set_option maxHeartbeats 8000000 in
theorem do_map (h : Holds w (.slice A X.length cc) X) (hl : X.length ≤ 10000) (r : Bool) (hr : decide (RightSc ⟨X, n⟩) = r) (ht : r = true) {Y : List Ar} {e1 x1 : Int} (hC : ∀ w' u, Holds w' u X → Calls Tryz.prog 19 #[u, .agg #[.int .i64 0, .int .i64 ca, .int .i64 cn, .int .i64 cnw, .int .i64 ctw, .int .i64 cp, .int .i64 cf, .int .i64 cb, .int .i64 co]] w' (Gives w' Y e1 x1)) : Calls Tryz.prog 10 #[.agg #[.slice A X.length cc, .int .i64 n], .agg #[.int .i64 0, .int .i64 ca, .int .i64 cn, .int .i64 cnw, .int .i64 ctw, .int .i64 cp, .int .i64 cf, .int .i64 cb, .int .i64 co]] w (GivesS w ⟨Y, n⟩ (An.ev e1 x1)) := by
  have G := Lib.hid (((((Bag.new w).add 26 #[.slice A X.length cc, .int .i64 n]).add 38 #[.int .i64 0, .int .i64 ca, .int .i64 cn, .int .i64 cnw, .int .i64 ctw, .int .i64 cp, .int .i64 cf, .int .i64 cb, .int .i64 co]).add 26 #[.slice none 0 0, .int .i64 0]).add 34 #[.int .i64 0, .int .i64 0, .int .i64 0, .bool false, .int .i64 0, .int .i64 0])
  have KX := Lib.hid (h.still G.out.bel)
  have CC : Hid (∀ w' u, Holds w' u X → Calls Tryz.prog 18 #[u] w' fun e w'' => ∃ v', e = .returned v' ∧ Mine w'.heap.size w'' v' X ∧ Below w'.heap.size w' w'') := Lib.hid (fun w' u h => clone_c h hl)
  have CR : Hid (∀ w' u, Holds w' u X → Calls Tryz.prog 12 #[.agg #[u, .int .i64 n]] w' fun e w'' => e = .returned (.bool r) ∧ Below w'.heap.size w' w'') := Lib.hid (fun w' u h => by
    have := scRight_c (s := ⟨X, n⟩) h hl
    rw [hr] at this
    exact this)
  have C1 : Hid (∀ w' u, Holds w' u X → Calls Tryz.prog 19 #[u, .agg #[.int .i64 0, .int .i64 ca, .int .i64 cn, .int .i64 cnw, .int .i64 ctw, .int .i64 cp, .int .i64 cf, .int .i64 cb, .int .i64 co]] w' fun e w'' => ∃ v', e = .returned (.tuple #[v', .agg #[.int .i64 e1, .int .i64 x1, .int .i64 0, .bool false, .int .i64 0, .int .i64 0]]) ∧ Mine w'.heap.size w'' v' Y ∧ Below w'.heap.size w' w'') := Lib.hid hC
  subst ht
  simp only [World.size_alloc] at G KX
  clear hr h
  go_enter Tryz.func10, Tryz.ntmps10
  go_upto_region 1 with (fail)
  generalize hw0 : World.alloc (World.alloc (World.alloc (World.alloc w _) _) _) _ = w0 at *
  clear hw0
  have LOW := Lib.hid G.out.low
  have SZ := Lib.hid G.out.bel.size
  have HC : Hid (∀ W, Below w0.heap.size w0 W → (W.cell? ⟨w.heap.size, 0, none⟩ = some (.slice A X.length cc) ∧ W.cell? ⟨w.heap.size, 1, none⟩ = some (.int .i64 n))) := Lib.hid (fun W h => row2c (G.out.still h).v3)
  have B0 : Hid (Below w0.heap.size w0 w0.drew) := Lib.hid (below_drew (Below.refl _ _))
  have BZ : Hid (Below w0.heap.size w0 (w0.alloc (.cells #[.slice none 0 0, .int .i64 0] 26)).drew) := Lib.hid (below_drew (below_new _ _))
  have GZ := Lib.hid (G.out.add 26 #[.slice none 0 0, .int .i64 0]).drew
  have HG := Lib.hid (fun W h => G.out.still (w' := W) h)
  have KZ : Hid (Holds (w0.alloc (.cells #[.slice none 0 0, .int .i64 0] 26)).drew (.slice A X.length cc) X) := Lib.hid (KX.out.still BZ.out)
  have K0 : Hid (Holds w0.drew (.slice A X.length cc) X) := Lib.hid (KX.out.still B0.out)
  clear G
  go_region_held3 (fun W => W.cell? ⟨w.heap.size, 0, none⟩ = some (.slice A X.length cc) ∧ W.cell? ⟨w.heap.size, 1, none⟩ = some (.int .i64 n))
    (first | with_reducible exact HC.out _ B0.out | with_reducible exact HC.out _ BZ.out | with_reducible exact HC.out _ BB.out | with_reducible exact HC.out _ (BB.out.alloc BB.out.size _) | exact HS.out _ _)
    (first
    | (go_at_call 18; with_reducible refine (CC.out _ _ KZ.out).mono ?_; rintro e wk ⟨vk, rfl, hm, hb⟩; obtain ⟨Ak, ck1, rfl⟩ := hm.is; have BB := Lib.hid (below_then BZ.out hb (Nat.le_refl _)); have GA := Lib.hid (GZ.out.still hb); have M := Lib.hid (hm.base (Nat.le_trans SZ.out (Nat.le_trans (BZ.out.size) (Nat.le_refl _)))); obtain ⟨d0, d1⟩ := row2c GA.out.v0; obtain ⟨f0, f1⟩ := row2f GA.out.v0; have GF := Lib.hid (GA.out.put2 SZ.out LOW.out (.slice Ak X.length ck1) (.int .i64 n)); have MF := Lib.hid (mine_two M.out GA.out.v0 (by decide) (.slice Ak X.length ck1) (.int .i64 n)); have HS : Hid (∀ x y, (fun W : World => W.cell? ⟨w.heap.size, 0, none⟩ = some (.slice A X.length cc) ∧ W.cell? ⟨w.heap.size, 1, none⟩ = some (.int .i64 n)) (setTwo wk w0.heap.size x y)) := Lib.hid (fun x y => row2c (GA.out.put2 SZ.out LOW.out x y).v4); have KF := Lib.hid (KX.out.still (BB.out.trans ((two_only wk w0.heap.size (.slice Ak X.length ck1) (.int .i64 n)).below (fun k hk => Nat.le_of_eq hk.symm) BB.out.size))); have LF : Hid (w.heap.size + 1 + 1 + 1 < w0.heap.size) := Lib.hid (LOW.out _ (List.mem_cons_self ..)); have TA : Hid True := Lib.hid trivial; clear hb hm CC KZ GZ BZ)
    | (go_at_call 18; with_reducible refine (CC.out _ _ K0.out).mono ?_; rintro e wk ⟨vk, rfl, hm, hb⟩; obtain ⟨Ak, ck1, rfl⟩ := hm.is; have BB := Lib.hid (below_then B0.out hb (Nat.le_refl _)); have GF := Lib.hid ((HG.out _ BB.out).add 26 #[.slice Ak X.length ck1, .int .i64 n]); have MF := Lib.hid ((hm.base SZ.out).still (below_new wk (.cells #[.slice Ak X.length ck1, .int .i64 n] 26))); have KF := Lib.hid (KX.out.still (BB.out.alloc BB.out.size (.cells #[.slice Ak X.length ck1, .int .i64 n] 26))); have LF : Hid (w.heap.size + 1 + 1 + 1 < wk.heap.size) := Lib.hid (Nat.lt_of_lt_of_le (LOW.out _ (List.mem_cons_self ..)) BB.out.size); have TB : Hid True := Lib.hid trivial; clear hb hm CC K0)
    | fail)
  all_goals
    clear HG HC KX BB LOW
    try clear HS GA M d0 d1 f0 f1
    try clear BZ GZ KZ
    try clear B0 K0
    try unfold setTwo at GF MF KF
    first | (have := TA; generalize World.setCell _ _ _ = W at *; generalize w0.heap.size = q at *; clear TA) | (have := TB; generalize World.alloc wk _ = W at *; generalize wk.heap.size = q at *; clear TB)
    have G := Lib.hid (GF.out.add 34 #[.int .i64 0, .int .i64 0, .int .i64 0, .bool false, .int .i64 0, .int .i64 0])
    have BN := Lib.hid (below_new W (.cells #[.int .i64 0, .int .i64 0, .int .i64 0, .bool false, .int .i64 0, .int .i64 0] 34))
    have M := Lib.hid (MF.out.still BN.out)
    have KX := Lib.hid (KF.out.still BN.out)
    have LQ := Lib.hid GF.out.v0.lt
    clear GF MF KF BN
    obtain ⟨c0, c1, c2, c3, c4, c5, c6, c7, c8⟩ := nine G.out.v4
    obtain ⟨b0, b1⟩ := row2c G.out.v5
    go_wp2_with fail
    refine (CR.out _ _ KX.out).mono ?_
    rintro e w2 ⟨rfl, hb⟩
    have G := Lib.hid (G.out.still hb)
    have M := Lib.hid (M.out.still hb)
    have KX := Lib.hid (KX.out.still hb)
    clear hb CR c0 c1 c2 c3 c4 c5 c6 c7 c8 b0 b1
    have LQ7 : Hid (q < W.heap.size) := LQ
    generalize W.heap.size = q7 at *
    obtain ⟨c0, c1, c2, c3, c4, c5, c6, c7, c8⟩ := nine G.out.v4
    obtain ⟨b0, b1⟩ := row2c G.out.v5
    go_wp2_with fail
    refine (C1.out _ _ KX.out).mono ?_
    rintro e w3 ⟨v3, rfl, hm, hb⟩
    obtain ⟨A3, c3x, rfl⟩ := hm.is
    have S3 := Lib.hid G.out.bel.size
    have G := Lib.hid (G.out.still hb)
    have M := Lib.hid (hm.base S3.out)
    clear hm hb C1 KX S3 c0 c1 c2 c3 c4 c5 c6 c7 c8 b0 b1
    obtain ⟨⟨d0, d1, d2, d3, d4, d5⟩, ⟨f0, f1, f2, f3, f4, f5⟩⟩ := six_of G.out.v0
    obtain ⟨h0, h1⟩ := row2c G.out.v1
    obtain ⟨g0, g1⟩ := row2f G.out.v1
    have hne : q ≠ q7 := Nat.ne_of_lt LQ7.out
    have hne' : q7 ≠ q := fun h => hne h.symm
    generalize Y.length = yl at *
    go_upto_region 20 with (fail)
    have HLOW : Hid (∀ x ∈ ([(w.heap.size + 1 + 1 + 1, 34, #[.int .i64 0, .int .i64 0, .int .i64 0, .bool false, .int .i64 0, .int .i64 0]), (w.heap.size + 1 + 1, 26, #[.slice none 0 0, .int .i64 0]), (w.heap.size + 1, 38, #[.int .i64 0, .int .i64 ca, .int .i64 cn, .int .i64 cnw, .int .i64 ctw, .int .i64 cp, .int .i64 cf, .int .i64 cb, .int .i64 co]), (w.heap.size, 26, #[.slice A X.length cc, .int .i64 n])] : List (Nat × TypeId × Array Value)), x.1 < q) := Lib.hid (fun x hx => by
      have := LF.out
      have := LQ7.out
      simp only [List.mem_cons, List.not_mem_nil, or_false] at hx
      rcases hx with rfl | rfl | rfl | rfl <;> simp only <;> omega)
    obtain ⟨GL, ML⟩ := lay1 G.out M.out HLOW.out LQ7.out (by have := LF.out; omega) (.slice A3 yl c3x) (.int .i64 e1) (.int .i64 x1) (.int .i64 0) (.bool false) (.int .i64 0) (.int .i64 0)
    have G := Lib.hid GL
    have M := Lib.hid ML
    clear GL ML d0 d1 d2 d3 d4 d5 f0 f1 f2 f3 f4 f5 h0 h1 g0 g1
    try unfold set6 at G M
    try unfold setTwo at G M
    generalize World.setCell _ _ _ = W5 at *
    obtain ⟨d0, d1, d2, d3, d4, d5⟩ := row6 G.out.v0
    obtain ⟨h0, h1⟩ := row2c G.out.v1
    obtain ⟨⟨i0, i1, i2, i3, i4, i5⟩, ⟨f0, f1, f2, f3, f4, f5⟩⟩ := six_of G.out.v2
    obtain ⟨j0, j1⟩ := row2c G.out.v3
    obtain ⟨g0, g1⟩ := row2f G.out.v3
    have lf := LF.out
    have lq := LQ7.out
    have k1 : w.heap.size + 1 + 1 ≠ q7 := by omega
    have k2 : q7 ≠ w.heap.size + 1 + 1 := by omega
    have k3 : w.heap.size + 1 + 1 ≠ q := by omega
    have k4 : q ≠ w.heap.size + 1 + 1 := by omega
    have k5 : w.heap.size + 1 + 1 + 1 ≠ q7 := by omega
    have k6 : q7 ≠ w.heap.size + 1 + 1 + 1 := by omega
    have k7 : w.heap.size + 1 + 1 + 1 ≠ q := by omega
    have k8 : q ≠ w.heap.size + 1 + 1 + 1 := by omega
    have k9 : w.heap.size + 1 + 1 ≠ w.heap.size + 1 + 1 + 1 := by omega
    have k10 : w.heap.size + 1 + 1 + 1 ≠ w.heap.size + 1 + 1 := by omega
    have k11 : w.heap.size ≤ w.heap.size + 1 + 1 := by omega
    have k12 : w.heap.size ≤ w.heap.size + 1 + 1 + 1 := by omega
    have KK := Lib.hid (And.intro k11 (And.intro k12 k9))
    clear k11 k12
    generalize w.heap.size + 1 + 1 + 1 = r5 at *
    generalize w.heap.size + 1 + 1 = r4 at *
    clear lf lq
    go_region
    all_goals
    obtain ⟨e4, e5, eM, eB⟩ := lay_end G.out M.out KK.out.1 KK.out.2.1 KK.out.2.2 (.slice A3 yl c3x) (.int .i64 n) (.int .i64 e1) (.int .i64 x1) (.int .i64 0) (.bool false) (.int .i64 0) (.int .i64 0)
    have E4 := Lib.hid e4
    have E5 := Lib.hid e5
    have EM := Lib.hid eM
    have EB := Lib.hid eB
    clear e4 e5 eM eB
    unfold set6 setTwo at E4 E5 EM EB
    generalize World.drew _ = W6 at *
    clear d0 d1 d2 d3 d4 d5 h0 h1 i0 i1 i2 i3 i4 i5 f0 f1 f2 f3 f4 f5 j0 j1 g0 g1
    go_wp2_with fail
    refine bodyPost_ret (results_cell_cell rfl _ _ r4 r5 26 34 #[.slice A3 yl c3x, .int .i64 n] #[.int .i64 e1, .int .i64 x1, .int .i64 0, .bool false, .int .i64 0, .int .i64 0] (0, 0) (0, 0) _ _ rfl E4.out rfl E5.out Tryz.underlying26 rfl (by kernel_rfl) Tryz.underlying34 rfl (by kernel_rfl)) rfl ?_
    exact ⟨_, rfl, EM.out, EB.out⟩

set_option maxRecDepth 4000 in
set_option maxHeartbeats 8000000 in
theorem do_unmap (h : Holds w (.slice A X.length cc) X) (hl : X.length ≤ 10000) (r : Bool) (hr : decide (RightSc ⟨X, n⟩) = r) (ht : r = true) {Y : List Ar} {e1 x1 : Int} (hC : ∀ w' u, Holds w' u X → Calls Tryz.prog 20 #[u, .agg #[.int .i64 1, .int .i64 ca, .int .i64 cn, .int .i64 cnw, .int .i64 ctw, .int .i64 cp, .int .i64 cf, .int .i64 cb, .int .i64 co]] w' (Gives w' Y e1 x1)) : Calls Tryz.prog 10 #[.agg #[.slice A X.length cc, .int .i64 n], .agg #[.int .i64 1, .int .i64 ca, .int .i64 cn, .int .i64 cnw, .int .i64 ctw, .int .i64 cp, .int .i64 cf, .int .i64 cb, .int .i64 co]] w (GivesS w ⟨Y, n⟩ (An.ev e1 x1)) := by
  have G := Lib.hid (((((Bag.new w).add 26 #[.slice A X.length cc, .int .i64 n]).add 38 #[.int .i64 1, .int .i64 ca, .int .i64 cn, .int .i64 cnw, .int .i64 ctw, .int .i64 cp, .int .i64 cf, .int .i64 cb, .int .i64 co]).add 26 #[.slice none 0 0, .int .i64 0]).add 34 #[.int .i64 0, .int .i64 0, .int .i64 0, .bool false, .int .i64 0, .int .i64 0])
  have KX := Lib.hid (h.still G.out.bel)
  have CC : Hid (∀ w' u, Holds w' u X → Calls Tryz.prog 18 #[u] w' fun e w'' => ∃ v', e = .returned v' ∧ Mine w'.heap.size w'' v' X ∧ Below w'.heap.size w' w'') := Lib.hid (fun w' u h => clone_c h hl)
  have CR : Hid (∀ w' u, Holds w' u X → Calls Tryz.prog 12 #[.agg #[u, .int .i64 n]] w' fun e w'' => e = .returned (.bool r) ∧ Below w'.heap.size w' w'') := Lib.hid (fun w' u h => by
    have := scRight_c (s := ⟨X, n⟩) h hl
    rw [hr] at this
    exact this)
  have C1 : Hid (∀ w' u, Holds w' u X → Calls Tryz.prog 20 #[u, .agg #[.int .i64 1, .int .i64 ca, .int .i64 cn, .int .i64 cnw, .int .i64 ctw, .int .i64 cp, .int .i64 cf, .int .i64 cb, .int .i64 co]] w' fun e w'' => ∃ v', e = .returned (.tuple #[v', .agg #[.int .i64 e1, .int .i64 x1, .int .i64 0, .bool false, .int .i64 0, .int .i64 0]]) ∧ Mine w'.heap.size w'' v' Y ∧ Below w'.heap.size w' w'') := Lib.hid hC
  subst ht
  simp only [World.size_alloc] at G KX
  clear hr h
  go_enter Tryz.func10, Tryz.ntmps10
  go_upto_region 1 with (fail)
  generalize hw0 : World.alloc (World.alloc (World.alloc (World.alloc w _) _) _) _ = w0 at *
  clear hw0
  have LOW := Lib.hid G.out.low
  have SZ := Lib.hid G.out.bel.size
  have HC : Hid (∀ W, Below w0.heap.size w0 W → (W.cell? ⟨w.heap.size, 0, none⟩ = some (.slice A X.length cc) ∧ W.cell? ⟨w.heap.size, 1, none⟩ = some (.int .i64 n))) := Lib.hid (fun W h => row2c (G.out.still h).v3)
  have B0 : Hid (Below w0.heap.size w0 w0.drew) := Lib.hid (below_drew (Below.refl _ _))
  have BZ : Hid (Below w0.heap.size w0 (w0.alloc (.cells #[.slice none 0 0, .int .i64 0] 26)).drew) := Lib.hid (below_drew (below_new _ _))
  have GZ := Lib.hid (G.out.add 26 #[.slice none 0 0, .int .i64 0]).drew
  have HG := Lib.hid (fun W h => G.out.still (w' := W) h)
  have KZ : Hid (Holds (w0.alloc (.cells #[.slice none 0 0, .int .i64 0] 26)).drew (.slice A X.length cc) X) := Lib.hid (KX.out.still BZ.out)
  have K0 : Hid (Holds w0.drew (.slice A X.length cc) X) := Lib.hid (KX.out.still B0.out)
  clear G
  go_region_held3 (fun W => W.cell? ⟨w.heap.size, 0, none⟩ = some (.slice A X.length cc) ∧ W.cell? ⟨w.heap.size, 1, none⟩ = some (.int .i64 n))
    (first | with_reducible exact HC.out _ B0.out | with_reducible exact HC.out _ BZ.out | with_reducible exact HC.out _ BB.out | with_reducible exact HC.out _ (BB.out.alloc BB.out.size _) | exact HS.out _ _)
    (first
    | (go_at_call 18; with_reducible refine (CC.out _ _ KZ.out).mono ?_; rintro e wk ⟨vk, rfl, hm, hb⟩; obtain ⟨Ak, ck1, rfl⟩ := hm.is; have BB := Lib.hid (below_then BZ.out hb (Nat.le_refl _)); have GA := Lib.hid (GZ.out.still hb); have M := Lib.hid (hm.base (Nat.le_trans SZ.out (Nat.le_trans (BZ.out.size) (Nat.le_refl _)))); obtain ⟨d0, d1⟩ := row2c GA.out.v0; obtain ⟨f0, f1⟩ := row2f GA.out.v0; have GF := Lib.hid (GA.out.put2 SZ.out LOW.out (.slice Ak X.length ck1) (.int .i64 n)); have MF := Lib.hid (mine_two M.out GA.out.v0 (by decide) (.slice Ak X.length ck1) (.int .i64 n)); have HS : Hid (∀ x y, (fun W : World => W.cell? ⟨w.heap.size, 0, none⟩ = some (.slice A X.length cc) ∧ W.cell? ⟨w.heap.size, 1, none⟩ = some (.int .i64 n)) (setTwo wk w0.heap.size x y)) := Lib.hid (fun x y => row2c (GA.out.put2 SZ.out LOW.out x y).v4); have KF := Lib.hid (KX.out.still (BB.out.trans ((two_only wk w0.heap.size (.slice Ak X.length ck1) (.int .i64 n)).below (fun k hk => Nat.le_of_eq hk.symm) BB.out.size))); have LF : Hid (w.heap.size + 1 + 1 + 1 < w0.heap.size) := Lib.hid (LOW.out _ (List.mem_cons_self ..)); have TA : Hid True := Lib.hid trivial; clear hb hm CC KZ GZ BZ)
    | (go_at_call 18; with_reducible refine (CC.out _ _ K0.out).mono ?_; rintro e wk ⟨vk, rfl, hm, hb⟩; obtain ⟨Ak, ck1, rfl⟩ := hm.is; have BB := Lib.hid (below_then B0.out hb (Nat.le_refl _)); have GF := Lib.hid ((HG.out _ BB.out).add 26 #[.slice Ak X.length ck1, .int .i64 n]); have MF := Lib.hid ((hm.base SZ.out).still (below_new wk (.cells #[.slice Ak X.length ck1, .int .i64 n] 26))); have KF := Lib.hid (KX.out.still (BB.out.alloc BB.out.size (.cells #[.slice Ak X.length ck1, .int .i64 n] 26))); have LF : Hid (w.heap.size + 1 + 1 + 1 < wk.heap.size) := Lib.hid (Nat.lt_of_lt_of_le (LOW.out _ (List.mem_cons_self ..)) BB.out.size); have TB : Hid True := Lib.hid trivial; clear hb hm CC K0)
    | fail)
  all_goals
    clear HG HC KX BB LOW
    try clear HS GA M d0 d1 f0 f1
    try clear BZ GZ KZ
    try clear B0 K0
    try unfold setTwo at GF MF KF
    first | (have := TA; generalize World.setCell _ _ _ = W at *; generalize w0.heap.size = q at *; clear TA) | (have := TB; generalize World.alloc wk _ = W at *; generalize wk.heap.size = q at *; clear TB)
    have G := Lib.hid (GF.out.add 34 #[.int .i64 0, .int .i64 0, .int .i64 0, .bool false, .int .i64 0, .int .i64 0])
    have BN := Lib.hid (below_new W (.cells #[.int .i64 0, .int .i64 0, .int .i64 0, .bool false, .int .i64 0, .int .i64 0] 34))
    have M := Lib.hid (MF.out.still BN.out)
    have KX := Lib.hid (KF.out.still BN.out)
    have LQ := Lib.hid GF.out.v0.lt
    clear GF MF KF BN
    obtain ⟨c0, c1, c2, c3, c4, c5, c6, c7, c8⟩ := nine G.out.v4
    obtain ⟨b0, b1⟩ := row2c G.out.v5
    go_wp2_with fail
    refine (CR.out _ _ KX.out).mono ?_
    rintro e w2 ⟨rfl, hb⟩
    have G := Lib.hid (G.out.still hb)
    have M := Lib.hid (M.out.still hb)
    have KX := Lib.hid (KX.out.still hb)
    clear hb CR c0 c1 c2 c3 c4 c5 c6 c7 c8 b0 b1
    have LQ7 : Hid (q < W.heap.size) := LQ
    generalize W.heap.size = q7 at *
    obtain ⟨c0, c1, c2, c3, c4, c5, c6, c7, c8⟩ := nine G.out.v4
    obtain ⟨b0, b1⟩ := row2c G.out.v5
    go_wp2_with fail
    refine (C1.out _ _ KX.out).mono ?_
    rintro e w3 ⟨v3, rfl, hm, hb⟩
    obtain ⟨A3, c3x, rfl⟩ := hm.is
    have S3 := Lib.hid G.out.bel.size
    have G := Lib.hid (G.out.still hb)
    have M := Lib.hid (hm.base S3.out)
    clear hm hb C1 KX S3 c0 c1 c2 c3 c4 c5 c6 c7 c8 b0 b1
    obtain ⟨⟨d0, d1, d2, d3, d4, d5⟩, ⟨f0, f1, f2, f3, f4, f5⟩⟩ := six_of G.out.v0
    obtain ⟨h0, h1⟩ := row2c G.out.v1
    obtain ⟨g0, g1⟩ := row2f G.out.v1
    have hne : q ≠ q7 := Nat.ne_of_lt LQ7.out
    have hne' : q7 ≠ q := fun h => hne h.symm
    generalize Y.length = yl at *
    go_upto_region 20 with (fail)
    have HLOW : Hid (∀ x ∈ ([(w.heap.size + 1 + 1 + 1, 34, #[.int .i64 0, .int .i64 0, .int .i64 0, .bool false, .int .i64 0, .int .i64 0]), (w.heap.size + 1 + 1, 26, #[.slice none 0 0, .int .i64 0]), (w.heap.size + 1, 38, #[.int .i64 1, .int .i64 ca, .int .i64 cn, .int .i64 cnw, .int .i64 ctw, .int .i64 cp, .int .i64 cf, .int .i64 cb, .int .i64 co]), (w.heap.size, 26, #[.slice A X.length cc, .int .i64 n])] : List (Nat × TypeId × Array Value)), x.1 < q) := Lib.hid (fun x hx => by
      have := LF.out
      have := LQ7.out
      simp only [List.mem_cons, List.not_mem_nil, or_false] at hx
      rcases hx with rfl | rfl | rfl | rfl <;> simp only <;> omega)
    obtain ⟨GL, ML⟩ := lay1 G.out M.out HLOW.out LQ7.out (by have := LF.out; omega) (.slice A3 yl c3x) (.int .i64 e1) (.int .i64 x1) (.int .i64 0) (.bool false) (.int .i64 0) (.int .i64 0)
    have G := Lib.hid GL
    have M := Lib.hid ML
    clear GL ML d0 d1 d2 d3 d4 d5 f0 f1 f2 f3 f4 f5 h0 h1 g0 g1
    try unfold set6 at G M
    try unfold setTwo at G M
    generalize World.setCell _ _ _ = W5 at *
    obtain ⟨d0, d1, d2, d3, d4, d5⟩ := row6 G.out.v0
    obtain ⟨h0, h1⟩ := row2c G.out.v1
    obtain ⟨⟨i0, i1, i2, i3, i4, i5⟩, ⟨f0, f1, f2, f3, f4, f5⟩⟩ := six_of G.out.v2
    obtain ⟨j0, j1⟩ := row2c G.out.v3
    obtain ⟨g0, g1⟩ := row2f G.out.v3
    have lf := LF.out
    have lq := LQ7.out
    have k1 : w.heap.size + 1 + 1 ≠ q7 := by omega
    have k2 : q7 ≠ w.heap.size + 1 + 1 := by omega
    have k3 : w.heap.size + 1 + 1 ≠ q := by omega
    have k4 : q ≠ w.heap.size + 1 + 1 := by omega
    have k5 : w.heap.size + 1 + 1 + 1 ≠ q7 := by omega
    have k6 : q7 ≠ w.heap.size + 1 + 1 + 1 := by omega
    have k7 : w.heap.size + 1 + 1 + 1 ≠ q := by omega
    have k8 : q ≠ w.heap.size + 1 + 1 + 1 := by omega
    have k9 : w.heap.size + 1 + 1 ≠ w.heap.size + 1 + 1 + 1 := by omega
    have k10 : w.heap.size + 1 + 1 + 1 ≠ w.heap.size + 1 + 1 := by omega
    have k11 : w.heap.size ≤ w.heap.size + 1 + 1 := by omega
    have k12 : w.heap.size ≤ w.heap.size + 1 + 1 + 1 := by omega
    have KK := Lib.hid (And.intro k11 (And.intro k12 k9))
    clear k11 k12
    generalize w.heap.size + 1 + 1 + 1 = r5 at *
    generalize w.heap.size + 1 + 1 = r4 at *
    clear lf lq
    go_region
    all_goals
    obtain ⟨e4, e5, eM, eB⟩ := lay_end G.out M.out KK.out.1 KK.out.2.1 KK.out.2.2 (.slice A3 yl c3x) (.int .i64 n) (.int .i64 e1) (.int .i64 x1) (.int .i64 0) (.bool false) (.int .i64 0) (.int .i64 0)
    have E4 := Lib.hid e4
    have E5 := Lib.hid e5
    have EM := Lib.hid eM
    have EB := Lib.hid eB
    clear e4 e5 eM eB
    unfold set6 setTwo at E4 E5 EM EB
    generalize World.drew _ = W6 at *
    clear d0 d1 d2 d3 d4 d5 h0 h1 i0 i1 i2 i3 i4 i5 f0 f1 f2 f3 f4 f5 j0 j1 g0 g1
    go_wp2_with fail
    refine bodyPost_ret (results_cell_cell rfl _ _ r4 r5 26 34 #[.slice A3 yl c3x, .int .i64 n] #[.int .i64 e1, .int .i64 x1, .int .i64 0, .bool false, .int .i64 0, .int .i64 0] (0, 0) (0, 0) _ _ rfl E4.out rfl E5.out Tryz.underlying26 rfl (by kernel_rfl) Tryz.underlying34 rfl (by kernel_rfl)) rfl ?_
    exact ⟨_, rfl, EM.out, EB.out⟩

set_option maxRecDepth 4000 in
set_option maxHeartbeats 8000000 in
theorem do_protect (h : Holds w (.slice A X.length cc) X) (hl : X.length ≤ 10000) (r : Bool) (hr : decide (RightSc ⟨X, n⟩) = r) (ht : r = true) {Y : List Ar} {e1 x1 : Int} (hC : ∀ w' u, Holds w' u X → Calls Tryz.prog 21 #[u, .agg #[.int .i64 2, .int .i64 ca, .int .i64 cn, .int .i64 cnw, .int .i64 ctw, .int .i64 cp, .int .i64 cf, .int .i64 cb, .int .i64 co]] w' (Gives w' Y e1 x1)) : Calls Tryz.prog 10 #[.agg #[.slice A X.length cc, .int .i64 n], .agg #[.int .i64 2, .int .i64 ca, .int .i64 cn, .int .i64 cnw, .int .i64 ctw, .int .i64 cp, .int .i64 cf, .int .i64 cb, .int .i64 co]] w (GivesS w ⟨Y, n⟩ (An.ev e1 x1)) := by
  have G := Lib.hid (((((Bag.new w).add 26 #[.slice A X.length cc, .int .i64 n]).add 38 #[.int .i64 2, .int .i64 ca, .int .i64 cn, .int .i64 cnw, .int .i64 ctw, .int .i64 cp, .int .i64 cf, .int .i64 cb, .int .i64 co]).add 26 #[.slice none 0 0, .int .i64 0]).add 34 #[.int .i64 0, .int .i64 0, .int .i64 0, .bool false, .int .i64 0, .int .i64 0])
  have KX := Lib.hid (h.still G.out.bel)
  have CC : Hid (∀ w' u, Holds w' u X → Calls Tryz.prog 18 #[u] w' fun e w'' => ∃ v', e = .returned v' ∧ Mine w'.heap.size w'' v' X ∧ Below w'.heap.size w' w'') := Lib.hid (fun w' u h => clone_c h hl)
  have CR : Hid (∀ w' u, Holds w' u X → Calls Tryz.prog 12 #[.agg #[u, .int .i64 n]] w' fun e w'' => e = .returned (.bool r) ∧ Below w'.heap.size w' w'') := Lib.hid (fun w' u h => by
    have := scRight_c (s := ⟨X, n⟩) h hl
    rw [hr] at this
    exact this)
  have C1 : Hid (∀ w' u, Holds w' u X → Calls Tryz.prog 21 #[u, .agg #[.int .i64 2, .int .i64 ca, .int .i64 cn, .int .i64 cnw, .int .i64 ctw, .int .i64 cp, .int .i64 cf, .int .i64 cb, .int .i64 co]] w' fun e w'' => ∃ v', e = .returned (.tuple #[v', .agg #[.int .i64 e1, .int .i64 x1, .int .i64 0, .bool false, .int .i64 0, .int .i64 0]]) ∧ Mine w'.heap.size w'' v' Y ∧ Below w'.heap.size w' w'') := Lib.hid hC
  subst ht
  simp only [World.size_alloc] at G KX
  clear hr h
  go_enter Tryz.func10, Tryz.ntmps10
  go_upto_region 1 with (fail)
  generalize hw0 : World.alloc (World.alloc (World.alloc (World.alloc w _) _) _) _ = w0 at *
  clear hw0
  have LOW := Lib.hid G.out.low
  have SZ := Lib.hid G.out.bel.size
  have HC : Hid (∀ W, Below w0.heap.size w0 W → (W.cell? ⟨w.heap.size, 0, none⟩ = some (.slice A X.length cc) ∧ W.cell? ⟨w.heap.size, 1, none⟩ = some (.int .i64 n))) := Lib.hid (fun W h => row2c (G.out.still h).v3)
  have B0 : Hid (Below w0.heap.size w0 w0.drew) := Lib.hid (below_drew (Below.refl _ _))
  have BZ : Hid (Below w0.heap.size w0 (w0.alloc (.cells #[.slice none 0 0, .int .i64 0] 26)).drew) := Lib.hid (below_drew (below_new _ _))
  have GZ := Lib.hid (G.out.add 26 #[.slice none 0 0, .int .i64 0]).drew
  have HG := Lib.hid (fun W h => G.out.still (w' := W) h)
  have KZ : Hid (Holds (w0.alloc (.cells #[.slice none 0 0, .int .i64 0] 26)).drew (.slice A X.length cc) X) := Lib.hid (KX.out.still BZ.out)
  have K0 : Hid (Holds w0.drew (.slice A X.length cc) X) := Lib.hid (KX.out.still B0.out)
  clear G
  go_region_held3 (fun W => W.cell? ⟨w.heap.size, 0, none⟩ = some (.slice A X.length cc) ∧ W.cell? ⟨w.heap.size, 1, none⟩ = some (.int .i64 n))
    (first | with_reducible exact HC.out _ B0.out | with_reducible exact HC.out _ BZ.out | with_reducible exact HC.out _ BB.out | with_reducible exact HC.out _ (BB.out.alloc BB.out.size _) | exact HS.out _ _)
    (first
    | (go_at_call 18; with_reducible refine (CC.out _ _ KZ.out).mono ?_; rintro e wk ⟨vk, rfl, hm, hb⟩; obtain ⟨Ak, ck1, rfl⟩ := hm.is; have BB := Lib.hid (below_then BZ.out hb (Nat.le_refl _)); have GA := Lib.hid (GZ.out.still hb); have M := Lib.hid (hm.base (Nat.le_trans SZ.out (Nat.le_trans (BZ.out.size) (Nat.le_refl _)))); obtain ⟨d0, d1⟩ := row2c GA.out.v0; obtain ⟨f0, f1⟩ := row2f GA.out.v0; have GF := Lib.hid (GA.out.put2 SZ.out LOW.out (.slice Ak X.length ck1) (.int .i64 n)); have MF := Lib.hid (mine_two M.out GA.out.v0 (by decide) (.slice Ak X.length ck1) (.int .i64 n)); have HS : Hid (∀ x y, (fun W : World => W.cell? ⟨w.heap.size, 0, none⟩ = some (.slice A X.length cc) ∧ W.cell? ⟨w.heap.size, 1, none⟩ = some (.int .i64 n)) (setTwo wk w0.heap.size x y)) := Lib.hid (fun x y => row2c (GA.out.put2 SZ.out LOW.out x y).v4); have KF := Lib.hid (KX.out.still (BB.out.trans ((two_only wk w0.heap.size (.slice Ak X.length ck1) (.int .i64 n)).below (fun k hk => Nat.le_of_eq hk.symm) BB.out.size))); have LF : Hid (w.heap.size + 1 + 1 + 1 < w0.heap.size) := Lib.hid (LOW.out _ (List.mem_cons_self ..)); have TA : Hid True := Lib.hid trivial; clear hb hm CC KZ GZ BZ)
    | (go_at_call 18; with_reducible refine (CC.out _ _ K0.out).mono ?_; rintro e wk ⟨vk, rfl, hm, hb⟩; obtain ⟨Ak, ck1, rfl⟩ := hm.is; have BB := Lib.hid (below_then B0.out hb (Nat.le_refl _)); have GF := Lib.hid ((HG.out _ BB.out).add 26 #[.slice Ak X.length ck1, .int .i64 n]); have MF := Lib.hid ((hm.base SZ.out).still (below_new wk (.cells #[.slice Ak X.length ck1, .int .i64 n] 26))); have KF := Lib.hid (KX.out.still (BB.out.alloc BB.out.size (.cells #[.slice Ak X.length ck1, .int .i64 n] 26))); have LF : Hid (w.heap.size + 1 + 1 + 1 < wk.heap.size) := Lib.hid (Nat.lt_of_lt_of_le (LOW.out _ (List.mem_cons_self ..)) BB.out.size); have TB : Hid True := Lib.hid trivial; clear hb hm CC K0)
    | fail)
  all_goals
    clear HG HC KX BB LOW
    try clear HS GA M d0 d1 f0 f1
    try clear BZ GZ KZ
    try clear B0 K0
    try unfold setTwo at GF MF KF
    first | (have := TA; generalize World.setCell _ _ _ = W at *; generalize w0.heap.size = q at *; clear TA) | (have := TB; generalize World.alloc wk _ = W at *; generalize wk.heap.size = q at *; clear TB)
    have G := Lib.hid (GF.out.add 34 #[.int .i64 0, .int .i64 0, .int .i64 0, .bool false, .int .i64 0, .int .i64 0])
    have BN := Lib.hid (below_new W (.cells #[.int .i64 0, .int .i64 0, .int .i64 0, .bool false, .int .i64 0, .int .i64 0] 34))
    have M := Lib.hid (MF.out.still BN.out)
    have KX := Lib.hid (KF.out.still BN.out)
    have LQ := Lib.hid GF.out.v0.lt
    clear GF MF KF BN
    obtain ⟨c0, c1, c2, c3, c4, c5, c6, c7, c8⟩ := nine G.out.v4
    obtain ⟨b0, b1⟩ := row2c G.out.v5
    go_wp2_with fail
    refine (CR.out _ _ KX.out).mono ?_
    rintro e w2 ⟨rfl, hb⟩
    have G := Lib.hid (G.out.still hb)
    have M := Lib.hid (M.out.still hb)
    have KX := Lib.hid (KX.out.still hb)
    clear hb CR c0 c1 c2 c3 c4 c5 c6 c7 c8 b0 b1
    have LQ7 : Hid (q < W.heap.size) := LQ
    generalize W.heap.size = q7 at *
    obtain ⟨c0, c1, c2, c3, c4, c5, c6, c7, c8⟩ := nine G.out.v4
    obtain ⟨b0, b1⟩ := row2c G.out.v5
    go_wp2_with fail
    refine (C1.out _ _ KX.out).mono ?_
    rintro e w3 ⟨v3, rfl, hm, hb⟩
    obtain ⟨A3, c3x, rfl⟩ := hm.is
    have S3 := Lib.hid G.out.bel.size
    have G := Lib.hid (G.out.still hb)
    have M := Lib.hid (hm.base S3.out)
    clear hm hb C1 KX S3 c0 c1 c2 c3 c4 c5 c6 c7 c8 b0 b1
    obtain ⟨⟨d0, d1, d2, d3, d4, d5⟩, ⟨f0, f1, f2, f3, f4, f5⟩⟩ := six_of G.out.v0
    obtain ⟨h0, h1⟩ := row2c G.out.v1
    obtain ⟨g0, g1⟩ := row2f G.out.v1
    have hne : q ≠ q7 := Nat.ne_of_lt LQ7.out
    have hne' : q7 ≠ q := fun h => hne h.symm
    generalize Y.length = yl at *
    go_upto_region 20 with (fail)
    have HLOW : Hid (∀ x ∈ ([(w.heap.size + 1 + 1 + 1, 34, #[.int .i64 0, .int .i64 0, .int .i64 0, .bool false, .int .i64 0, .int .i64 0]), (w.heap.size + 1 + 1, 26, #[.slice none 0 0, .int .i64 0]), (w.heap.size + 1, 38, #[.int .i64 2, .int .i64 ca, .int .i64 cn, .int .i64 cnw, .int .i64 ctw, .int .i64 cp, .int .i64 cf, .int .i64 cb, .int .i64 co]), (w.heap.size, 26, #[.slice A X.length cc, .int .i64 n])] : List (Nat × TypeId × Array Value)), x.1 < q) := Lib.hid (fun x hx => by
      have := LF.out
      have := LQ7.out
      simp only [List.mem_cons, List.not_mem_nil, or_false] at hx
      rcases hx with rfl | rfl | rfl | rfl <;> simp only <;> omega)
    obtain ⟨GL, ML⟩ := lay1 G.out M.out HLOW.out LQ7.out (by have := LF.out; omega) (.slice A3 yl c3x) (.int .i64 e1) (.int .i64 x1) (.int .i64 0) (.bool false) (.int .i64 0) (.int .i64 0)
    have G := Lib.hid GL
    have M := Lib.hid ML
    clear GL ML d0 d1 d2 d3 d4 d5 f0 f1 f2 f3 f4 f5 h0 h1 g0 g1
    try unfold set6 at G M
    try unfold setTwo at G M
    generalize World.setCell _ _ _ = W5 at *
    obtain ⟨d0, d1, d2, d3, d4, d5⟩ := row6 G.out.v0
    obtain ⟨h0, h1⟩ := row2c G.out.v1
    obtain ⟨⟨i0, i1, i2, i3, i4, i5⟩, ⟨f0, f1, f2, f3, f4, f5⟩⟩ := six_of G.out.v2
    obtain ⟨j0, j1⟩ := row2c G.out.v3
    obtain ⟨g0, g1⟩ := row2f G.out.v3
    have lf := LF.out
    have lq := LQ7.out
    have k1 : w.heap.size + 1 + 1 ≠ q7 := by omega
    have k2 : q7 ≠ w.heap.size + 1 + 1 := by omega
    have k3 : w.heap.size + 1 + 1 ≠ q := by omega
    have k4 : q ≠ w.heap.size + 1 + 1 := by omega
    have k5 : w.heap.size + 1 + 1 + 1 ≠ q7 := by omega
    have k6 : q7 ≠ w.heap.size + 1 + 1 + 1 := by omega
    have k7 : w.heap.size + 1 + 1 + 1 ≠ q := by omega
    have k8 : q ≠ w.heap.size + 1 + 1 + 1 := by omega
    have k9 : w.heap.size + 1 + 1 ≠ w.heap.size + 1 + 1 + 1 := by omega
    have k10 : w.heap.size + 1 + 1 + 1 ≠ w.heap.size + 1 + 1 := by omega
    have k11 : w.heap.size ≤ w.heap.size + 1 + 1 := by omega
    have k12 : w.heap.size ≤ w.heap.size + 1 + 1 + 1 := by omega
    have KK := Lib.hid (And.intro k11 (And.intro k12 k9))
    clear k11 k12
    generalize w.heap.size + 1 + 1 + 1 = r5 at *
    generalize w.heap.size + 1 + 1 = r4 at *
    clear lf lq
    go_region
    all_goals
    obtain ⟨e4, e5, eM, eB⟩ := lay_end G.out M.out KK.out.1 KK.out.2.1 KK.out.2.2 (.slice A3 yl c3x) (.int .i64 n) (.int .i64 e1) (.int .i64 x1) (.int .i64 0) (.bool false) (.int .i64 0) (.int .i64 0)
    have E4 := Lib.hid e4
    have E5 := Lib.hid e5
    have EM := Lib.hid eM
    have EB := Lib.hid eB
    clear e4 e5 eM eB
    unfold set6 setTwo at E4 E5 EM EB
    generalize World.drew _ = W6 at *
    clear d0 d1 d2 d3 d4 d5 h0 h1 i0 i1 i2 i3 i4 i5 f0 f1 f2 f3 f4 f5 j0 j1 g0 g1
    go_wp2_with fail
    refine bodyPost_ret (results_cell_cell rfl _ _ r4 r5 26 34 #[.slice A3 yl c3x, .int .i64 n] #[.int .i64 e1, .int .i64 x1, .int .i64 0, .bool false, .int .i64 0, .int .i64 0] (0, 0) (0, 0) _ _ rfl E4.out rfl E5.out Tryz.underlying26 rfl (by kernel_rfl) Tryz.underlying34 rfl (by kernel_rfl)) rfl ?_
    exact ⟨_, rfl, EM.out, EB.out⟩

set_option maxRecDepth 4000 in
set_option maxHeartbeats 8000000 in
theorem do_remap (h : Holds w (.slice A X.length cc) X) (hl : X.length ≤ 10000) (r : Bool) (hr : decide (RightSc ⟨X, n⟩) = r) (ht : r = true) {Y : List Ar} {e1 x1 : Int} (hC : ∀ w' u, Holds w' u X → Calls Tryz.prog 22 #[u, .agg #[.int .i64 3, .int .i64 ca, .int .i64 cn, .int .i64 cnw, .int .i64 ctw, .int .i64 cp, .int .i64 cf, .int .i64 cb, .int .i64 co]] w' (Gives w' Y e1 x1)) : Calls Tryz.prog 10 #[.agg #[.slice A X.length cc, .int .i64 n], .agg #[.int .i64 3, .int .i64 ca, .int .i64 cn, .int .i64 cnw, .int .i64 ctw, .int .i64 cp, .int .i64 cf, .int .i64 cb, .int .i64 co]] w (GivesS w ⟨Y, n⟩ (An.ev e1 x1)) := by
  have G := Lib.hid (((((Bag.new w).add 26 #[.slice A X.length cc, .int .i64 n]).add 38 #[.int .i64 3, .int .i64 ca, .int .i64 cn, .int .i64 cnw, .int .i64 ctw, .int .i64 cp, .int .i64 cf, .int .i64 cb, .int .i64 co]).add 26 #[.slice none 0 0, .int .i64 0]).add 34 #[.int .i64 0, .int .i64 0, .int .i64 0, .bool false, .int .i64 0, .int .i64 0])
  have KX := Lib.hid (h.still G.out.bel)
  have CC : Hid (∀ w' u, Holds w' u X → Calls Tryz.prog 18 #[u] w' fun e w'' => ∃ v', e = .returned v' ∧ Mine w'.heap.size w'' v' X ∧ Below w'.heap.size w' w'') := Lib.hid (fun w' u h => clone_c h hl)
  have CR : Hid (∀ w' u, Holds w' u X → Calls Tryz.prog 12 #[.agg #[u, .int .i64 n]] w' fun e w'' => e = .returned (.bool r) ∧ Below w'.heap.size w' w'') := Lib.hid (fun w' u h => by
    have := scRight_c (s := ⟨X, n⟩) h hl
    rw [hr] at this
    exact this)
  have C1 : Hid (∀ w' u, Holds w' u X → Calls Tryz.prog 22 #[u, .agg #[.int .i64 3, .int .i64 ca, .int .i64 cn, .int .i64 cnw, .int .i64 ctw, .int .i64 cp, .int .i64 cf, .int .i64 cb, .int .i64 co]] w' fun e w'' => ∃ v', e = .returned (.tuple #[v', .agg #[.int .i64 e1, .int .i64 x1, .int .i64 0, .bool false, .int .i64 0, .int .i64 0]]) ∧ Mine w'.heap.size w'' v' Y ∧ Below w'.heap.size w' w'') := Lib.hid hC
  subst ht
  simp only [World.size_alloc] at G KX
  clear hr h
  go_enter Tryz.func10, Tryz.ntmps10
  go_upto_region 1 with (fail)
  generalize hw0 : World.alloc (World.alloc (World.alloc (World.alloc w _) _) _) _ = w0 at *
  clear hw0
  have LOW := Lib.hid G.out.low
  have SZ := Lib.hid G.out.bel.size
  have HC : Hid (∀ W, Below w0.heap.size w0 W → (W.cell? ⟨w.heap.size, 0, none⟩ = some (.slice A X.length cc) ∧ W.cell? ⟨w.heap.size, 1, none⟩ = some (.int .i64 n))) := Lib.hid (fun W h => row2c (G.out.still h).v3)
  have B0 : Hid (Below w0.heap.size w0 w0.drew) := Lib.hid (below_drew (Below.refl _ _))
  have BZ : Hid (Below w0.heap.size w0 (w0.alloc (.cells #[.slice none 0 0, .int .i64 0] 26)).drew) := Lib.hid (below_drew (below_new _ _))
  have GZ := Lib.hid (G.out.add 26 #[.slice none 0 0, .int .i64 0]).drew
  have HG := Lib.hid (fun W h => G.out.still (w' := W) h)
  have KZ : Hid (Holds (w0.alloc (.cells #[.slice none 0 0, .int .i64 0] 26)).drew (.slice A X.length cc) X) := Lib.hid (KX.out.still BZ.out)
  have K0 : Hid (Holds w0.drew (.slice A X.length cc) X) := Lib.hid (KX.out.still B0.out)
  clear G
  go_region_held3 (fun W => W.cell? ⟨w.heap.size, 0, none⟩ = some (.slice A X.length cc) ∧ W.cell? ⟨w.heap.size, 1, none⟩ = some (.int .i64 n))
    (first | with_reducible exact HC.out _ B0.out | with_reducible exact HC.out _ BZ.out | with_reducible exact HC.out _ BB.out | with_reducible exact HC.out _ (BB.out.alloc BB.out.size _) | exact HS.out _ _)
    (first
    | (go_at_call 18; with_reducible refine (CC.out _ _ KZ.out).mono ?_; rintro e wk ⟨vk, rfl, hm, hb⟩; obtain ⟨Ak, ck1, rfl⟩ := hm.is; have BB := Lib.hid (below_then BZ.out hb (Nat.le_refl _)); have GA := Lib.hid (GZ.out.still hb); have M := Lib.hid (hm.base (Nat.le_trans SZ.out (Nat.le_trans (BZ.out.size) (Nat.le_refl _)))); obtain ⟨d0, d1⟩ := row2c GA.out.v0; obtain ⟨f0, f1⟩ := row2f GA.out.v0; have GF := Lib.hid (GA.out.put2 SZ.out LOW.out (.slice Ak X.length ck1) (.int .i64 n)); have MF := Lib.hid (mine_two M.out GA.out.v0 (by decide) (.slice Ak X.length ck1) (.int .i64 n)); have HS : Hid (∀ x y, (fun W : World => W.cell? ⟨w.heap.size, 0, none⟩ = some (.slice A X.length cc) ∧ W.cell? ⟨w.heap.size, 1, none⟩ = some (.int .i64 n)) (setTwo wk w0.heap.size x y)) := Lib.hid (fun x y => row2c (GA.out.put2 SZ.out LOW.out x y).v4); have KF := Lib.hid (KX.out.still (BB.out.trans ((two_only wk w0.heap.size (.slice Ak X.length ck1) (.int .i64 n)).below (fun k hk => Nat.le_of_eq hk.symm) BB.out.size))); have LF : Hid (w.heap.size + 1 + 1 + 1 < w0.heap.size) := Lib.hid (LOW.out _ (List.mem_cons_self ..)); have TA : Hid True := Lib.hid trivial; clear hb hm CC KZ GZ BZ)
    | (go_at_call 18; with_reducible refine (CC.out _ _ K0.out).mono ?_; rintro e wk ⟨vk, rfl, hm, hb⟩; obtain ⟨Ak, ck1, rfl⟩ := hm.is; have BB := Lib.hid (below_then B0.out hb (Nat.le_refl _)); have GF := Lib.hid ((HG.out _ BB.out).add 26 #[.slice Ak X.length ck1, .int .i64 n]); have MF := Lib.hid ((hm.base SZ.out).still (below_new wk (.cells #[.slice Ak X.length ck1, .int .i64 n] 26))); have KF := Lib.hid (KX.out.still (BB.out.alloc BB.out.size (.cells #[.slice Ak X.length ck1, .int .i64 n] 26))); have LF : Hid (w.heap.size + 1 + 1 + 1 < wk.heap.size) := Lib.hid (Nat.lt_of_lt_of_le (LOW.out _ (List.mem_cons_self ..)) BB.out.size); have TB : Hid True := Lib.hid trivial; clear hb hm CC K0)
    | fail)
  all_goals
    clear HG HC KX BB LOW
    try clear HS GA M d0 d1 f0 f1
    try clear BZ GZ KZ
    try clear B0 K0
    try unfold setTwo at GF MF KF
    first | (have := TA; generalize World.setCell _ _ _ = W at *; generalize w0.heap.size = q at *; clear TA) | (have := TB; generalize World.alloc wk _ = W at *; generalize wk.heap.size = q at *; clear TB)
    have G := Lib.hid (GF.out.add 34 #[.int .i64 0, .int .i64 0, .int .i64 0, .bool false, .int .i64 0, .int .i64 0])
    have BN := Lib.hid (below_new W (.cells #[.int .i64 0, .int .i64 0, .int .i64 0, .bool false, .int .i64 0, .int .i64 0] 34))
    have M := Lib.hid (MF.out.still BN.out)
    have KX := Lib.hid (KF.out.still BN.out)
    have LQ := Lib.hid GF.out.v0.lt
    clear GF MF KF BN
    obtain ⟨c0, c1, c2, c3, c4, c5, c6, c7, c8⟩ := nine G.out.v4
    obtain ⟨b0, b1⟩ := row2c G.out.v5
    go_wp2_with fail
    refine (CR.out _ _ KX.out).mono ?_
    rintro e w2 ⟨rfl, hb⟩
    have G := Lib.hid (G.out.still hb)
    have M := Lib.hid (M.out.still hb)
    have KX := Lib.hid (KX.out.still hb)
    clear hb CR c0 c1 c2 c3 c4 c5 c6 c7 c8 b0 b1
    have LQ7 : Hid (q < W.heap.size) := LQ
    generalize W.heap.size = q7 at *
    obtain ⟨c0, c1, c2, c3, c4, c5, c6, c7, c8⟩ := nine G.out.v4
    obtain ⟨b0, b1⟩ := row2c G.out.v5
    go_wp2_with fail
    refine (C1.out _ _ KX.out).mono ?_
    rintro e w3 ⟨v3, rfl, hm, hb⟩
    obtain ⟨A3, c3x, rfl⟩ := hm.is
    have S3 := Lib.hid G.out.bel.size
    have G := Lib.hid (G.out.still hb)
    have M := Lib.hid (hm.base S3.out)
    clear hm hb C1 KX S3 c0 c1 c2 c3 c4 c5 c6 c7 c8 b0 b1
    obtain ⟨⟨d0, d1, d2, d3, d4, d5⟩, ⟨f0, f1, f2, f3, f4, f5⟩⟩ := six_of G.out.v0
    obtain ⟨h0, h1⟩ := row2c G.out.v1
    obtain ⟨g0, g1⟩ := row2f G.out.v1
    have hne : q ≠ q7 := Nat.ne_of_lt LQ7.out
    have hne' : q7 ≠ q := fun h => hne h.symm
    generalize Y.length = yl at *
    go_upto_region 20 with (fail)
    have HLOW : Hid (∀ x ∈ ([(w.heap.size + 1 + 1 + 1, 34, #[.int .i64 0, .int .i64 0, .int .i64 0, .bool false, .int .i64 0, .int .i64 0]), (w.heap.size + 1 + 1, 26, #[.slice none 0 0, .int .i64 0]), (w.heap.size + 1, 38, #[.int .i64 3, .int .i64 ca, .int .i64 cn, .int .i64 cnw, .int .i64 ctw, .int .i64 cp, .int .i64 cf, .int .i64 cb, .int .i64 co]), (w.heap.size, 26, #[.slice A X.length cc, .int .i64 n])] : List (Nat × TypeId × Array Value)), x.1 < q) := Lib.hid (fun x hx => by
      have := LF.out
      have := LQ7.out
      simp only [List.mem_cons, List.not_mem_nil, or_false] at hx
      rcases hx with rfl | rfl | rfl | rfl <;> simp only <;> omega)
    obtain ⟨GL, ML⟩ := lay1 G.out M.out HLOW.out LQ7.out (by have := LF.out; omega) (.slice A3 yl c3x) (.int .i64 e1) (.int .i64 x1) (.int .i64 0) (.bool false) (.int .i64 0) (.int .i64 0)
    have G := Lib.hid GL
    have M := Lib.hid ML
    clear GL ML d0 d1 d2 d3 d4 d5 f0 f1 f2 f3 f4 f5 h0 h1 g0 g1
    try unfold set6 at G M
    try unfold setTwo at G M
    generalize World.setCell _ _ _ = W5 at *
    obtain ⟨d0, d1, d2, d3, d4, d5⟩ := row6 G.out.v0
    obtain ⟨h0, h1⟩ := row2c G.out.v1
    obtain ⟨⟨i0, i1, i2, i3, i4, i5⟩, ⟨f0, f1, f2, f3, f4, f5⟩⟩ := six_of G.out.v2
    obtain ⟨j0, j1⟩ := row2c G.out.v3
    obtain ⟨g0, g1⟩ := row2f G.out.v3
    have lf := LF.out
    have lq := LQ7.out
    have k1 : w.heap.size + 1 + 1 ≠ q7 := by omega
    have k2 : q7 ≠ w.heap.size + 1 + 1 := by omega
    have k3 : w.heap.size + 1 + 1 ≠ q := by omega
    have k4 : q ≠ w.heap.size + 1 + 1 := by omega
    have k5 : w.heap.size + 1 + 1 + 1 ≠ q7 := by omega
    have k6 : q7 ≠ w.heap.size + 1 + 1 + 1 := by omega
    have k7 : w.heap.size + 1 + 1 + 1 ≠ q := by omega
    have k8 : q ≠ w.heap.size + 1 + 1 + 1 := by omega
    have k9 : w.heap.size + 1 + 1 ≠ w.heap.size + 1 + 1 + 1 := by omega
    have k10 : w.heap.size + 1 + 1 + 1 ≠ w.heap.size + 1 + 1 := by omega
    have k11 : w.heap.size ≤ w.heap.size + 1 + 1 := by omega
    have k12 : w.heap.size ≤ w.heap.size + 1 + 1 + 1 := by omega
    have KK := Lib.hid (And.intro k11 (And.intro k12 k9))
    clear k11 k12
    generalize w.heap.size + 1 + 1 + 1 = r5 at *
    generalize w.heap.size + 1 + 1 = r4 at *
    clear lf lq
    go_region
    all_goals
    obtain ⟨e4, e5, eM, eB⟩ := lay_end G.out M.out KK.out.1 KK.out.2.1 KK.out.2.2 (.slice A3 yl c3x) (.int .i64 n) (.int .i64 e1) (.int .i64 x1) (.int .i64 0) (.bool false) (.int .i64 0) (.int .i64 0)
    have E4 := Lib.hid e4
    have E5 := Lib.hid e5
    have EM := Lib.hid eM
    have EB := Lib.hid eB
    clear e4 e5 eM eB
    unfold set6 setTwo at E4 E5 EM EB
    generalize World.drew _ = W6 at *
    clear d0 d1 d2 d3 d4 d5 h0 h1 i0 i1 i2 i3 i4 i5 f0 f1 f2 f3 f4 f5 j0 j1 g0 g1
    go_wp2_with fail
    refine bodyPost_ret (results_cell_cell rfl _ _ r4 r5 26 34 #[.slice A3 yl c3x, .int .i64 n] #[.int .i64 e1, .int .i64 x1, .int .i64 0, .bool false, .int .i64 0, .int .i64 0] (0, 0) (0, 0) _ _ rfl E4.out rfl E5.out Tryz.underlying26 rfl (by kernel_rfl) Tryz.underlying34 rfl (by kernel_rfl)) rfl ?_
    exact ⟨_, rfl, EM.out, EB.out⟩

set_option maxRecDepth 4000 in
set_option maxHeartbeats 8000000 in
theorem do_move (h : Holds w (.slice A X.length cc) X) (hl : X.length ≤ 10000) (r : Bool) (hr : decide (RightSc ⟨X, n⟩) = r) (ht : r = true) {Y : List Ar} {n1 e1 x1 : Int} (hC : ∀ w' u, Holds w' u X → Calls Tryz.prog 23 #[u, .int .i64 n, .agg #[.int .i64 4, .int .i64 ca, .int .i64 cn, .int .i64 cnw, .int .i64 ctw, .int .i64 cp, .int .i64 cf, .int .i64 cb, .int .i64 co]] w' (GivesB w' Y n1 e1 x1)) : Calls Tryz.prog 10 #[.agg #[.slice A X.length cc, .int .i64 n], .agg #[.int .i64 4, .int .i64 ca, .int .i64 cn, .int .i64 cnw, .int .i64 ctw, .int .i64 cp, .int .i64 cf, .int .i64 cb, .int .i64 co]] w (GivesS w ⟨Y, n1⟩ (An.ev e1 x1)) := by
  have G := Lib.hid (((((Bag.new w).add 26 #[.slice A X.length cc, .int .i64 n]).add 38 #[.int .i64 4, .int .i64 ca, .int .i64 cn, .int .i64 cnw, .int .i64 ctw, .int .i64 cp, .int .i64 cf, .int .i64 cb, .int .i64 co]).add 26 #[.slice none 0 0, .int .i64 0]).add 34 #[.int .i64 0, .int .i64 0, .int .i64 0, .bool false, .int .i64 0, .int .i64 0])
  have KX := Lib.hid (h.still G.out.bel)
  have CC : Hid (∀ w' u, Holds w' u X → Calls Tryz.prog 18 #[u] w' fun e w'' => ∃ v', e = .returned v' ∧ Mine w'.heap.size w'' v' X ∧ Below w'.heap.size w' w'') := Lib.hid (fun w' u h => clone_c h hl)
  have CR : Hid (∀ w' u, Holds w' u X → Calls Tryz.prog 12 #[.agg #[u, .int .i64 n]] w' fun e w'' => e = .returned (.bool r) ∧ Below w'.heap.size w' w'') := Lib.hid (fun w' u h => by
    have := scRight_c (s := ⟨X, n⟩) h hl
    rw [hr] at this
    exact this)
  have C1 : Hid (∀ w' u, Holds w' u X → Calls Tryz.prog 23 #[u, .int .i64 n, .agg #[.int .i64 4, .int .i64 ca, .int .i64 cn, .int .i64 cnw, .int .i64 ctw, .int .i64 cp, .int .i64 cf, .int .i64 cb, .int .i64 co]] w' fun e w'' => ∃ v', e = .returned (.tuple #[v', .int .i64 n1, .agg #[.int .i64 e1, .int .i64 x1, .int .i64 0, .bool false, .int .i64 0, .int .i64 0]]) ∧ Mine w'.heap.size w'' v' Y ∧ Below w'.heap.size w' w'') := Lib.hid hC
  subst ht
  simp only [World.size_alloc] at G KX
  clear hr h
  go_enter Tryz.func10, Tryz.ntmps10
  go_upto_region 1 with (fail)
  generalize hw0 : World.alloc (World.alloc (World.alloc (World.alloc w _) _) _) _ = w0 at *
  clear hw0
  have LOW := Lib.hid G.out.low
  have SZ := Lib.hid G.out.bel.size
  have HC : Hid (∀ W, Below w0.heap.size w0 W → (W.cell? ⟨w.heap.size, 0, none⟩ = some (.slice A X.length cc) ∧ W.cell? ⟨w.heap.size, 1, none⟩ = some (.int .i64 n))) := Lib.hid (fun W h => row2c (G.out.still h).v3)
  have B0 : Hid (Below w0.heap.size w0 w0.drew) := Lib.hid (below_drew (Below.refl _ _))
  have BZ : Hid (Below w0.heap.size w0 (w0.alloc (.cells #[.slice none 0 0, .int .i64 0] 26)).drew) := Lib.hid (below_drew (below_new _ _))
  have GZ := Lib.hid (G.out.add 26 #[.slice none 0 0, .int .i64 0]).drew
  have HG := Lib.hid (fun W h => G.out.still (w' := W) h)
  have KZ : Hid (Holds (w0.alloc (.cells #[.slice none 0 0, .int .i64 0] 26)).drew (.slice A X.length cc) X) := Lib.hid (KX.out.still BZ.out)
  have K0 : Hid (Holds w0.drew (.slice A X.length cc) X) := Lib.hid (KX.out.still B0.out)
  clear G
  go_region_held3 (fun W => W.cell? ⟨w.heap.size, 0, none⟩ = some (.slice A X.length cc) ∧ W.cell? ⟨w.heap.size, 1, none⟩ = some (.int .i64 n))
    (first | with_reducible exact HC.out _ B0.out | with_reducible exact HC.out _ BZ.out | with_reducible exact HC.out _ BB.out | with_reducible exact HC.out _ (BB.out.alloc BB.out.size _) | exact HS.out _ _)
    (first
    | (go_at_call 18; with_reducible refine (CC.out _ _ KZ.out).mono ?_; rintro e wk ⟨vk, rfl, hm, hb⟩; obtain ⟨Ak, ck1, rfl⟩ := hm.is; have BB := Lib.hid (below_then BZ.out hb (Nat.le_refl _)); have GA := Lib.hid (GZ.out.still hb); have M := Lib.hid (hm.base (Nat.le_trans SZ.out (Nat.le_trans (BZ.out.size) (Nat.le_refl _)))); obtain ⟨d0, d1⟩ := row2c GA.out.v0; obtain ⟨f0, f1⟩ := row2f GA.out.v0; have GF := Lib.hid (GA.out.put2 SZ.out LOW.out (.slice Ak X.length ck1) (.int .i64 n)); have MF := Lib.hid (mine_two M.out GA.out.v0 (by decide) (.slice Ak X.length ck1) (.int .i64 n)); have HS : Hid (∀ x y, (fun W : World => W.cell? ⟨w.heap.size, 0, none⟩ = some (.slice A X.length cc) ∧ W.cell? ⟨w.heap.size, 1, none⟩ = some (.int .i64 n)) (setTwo wk w0.heap.size x y)) := Lib.hid (fun x y => row2c (GA.out.put2 SZ.out LOW.out x y).v4); have KF := Lib.hid (KX.out.still (BB.out.trans ((two_only wk w0.heap.size (.slice Ak X.length ck1) (.int .i64 n)).below (fun k hk => Nat.le_of_eq hk.symm) BB.out.size))); have LF : Hid (w.heap.size + 1 + 1 + 1 < w0.heap.size) := Lib.hid (LOW.out _ (List.mem_cons_self ..)); have TA : Hid True := Lib.hid trivial; clear hb hm CC KZ GZ BZ)
    | (go_at_call 18; with_reducible refine (CC.out _ _ K0.out).mono ?_; rintro e wk ⟨vk, rfl, hm, hb⟩; obtain ⟨Ak, ck1, rfl⟩ := hm.is; have BB := Lib.hid (below_then B0.out hb (Nat.le_refl _)); have GF := Lib.hid ((HG.out _ BB.out).add 26 #[.slice Ak X.length ck1, .int .i64 n]); have MF := Lib.hid ((hm.base SZ.out).still (below_new wk (.cells #[.slice Ak X.length ck1, .int .i64 n] 26))); have KF := Lib.hid (KX.out.still (BB.out.alloc BB.out.size (.cells #[.slice Ak X.length ck1, .int .i64 n] 26))); have LF : Hid (w.heap.size + 1 + 1 + 1 < wk.heap.size) := Lib.hid (Nat.lt_of_lt_of_le (LOW.out _ (List.mem_cons_self ..)) BB.out.size); have TB : Hid True := Lib.hid trivial; clear hb hm CC K0)
    | fail)
  all_goals
    clear HG HC KX BB LOW
    try clear HS GA M d0 d1 f0 f1
    try clear BZ GZ KZ
    try clear B0 K0
    try unfold setTwo at GF MF KF
    first | (have := TA; generalize World.setCell _ _ _ = W at *; generalize w0.heap.size = q at *; clear TA) | (have := TB; generalize World.alloc wk _ = W at *; generalize wk.heap.size = q at *; clear TB)
    have G := Lib.hid (GF.out.add 34 #[.int .i64 0, .int .i64 0, .int .i64 0, .bool false, .int .i64 0, .int .i64 0])
    have BN := Lib.hid (below_new W (.cells #[.int .i64 0, .int .i64 0, .int .i64 0, .bool false, .int .i64 0, .int .i64 0] 34))
    have M := Lib.hid (MF.out.still BN.out)
    have KX := Lib.hid (KF.out.still BN.out)
    have LQ := Lib.hid GF.out.v0.lt
    clear GF MF KF BN
    obtain ⟨c0, c1, c2, c3, c4, c5, c6, c7, c8⟩ := nine G.out.v4
    obtain ⟨b0, b1⟩ := row2c G.out.v5
    go_wp2_with fail
    refine (CR.out _ _ KX.out).mono ?_
    rintro e w2 ⟨rfl, hb⟩
    have G := Lib.hid (G.out.still hb)
    have M := Lib.hid (M.out.still hb)
    have KX := Lib.hid (KX.out.still hb)
    clear hb CR c0 c1 c2 c3 c4 c5 c6 c7 c8 b0 b1
    have LQ7 : Hid (q < W.heap.size) := LQ
    generalize W.heap.size = q7 at *
    obtain ⟨c0, c1, c2, c3, c4, c5, c6, c7, c8⟩ := nine G.out.v4
    obtain ⟨b0, b1⟩ := row2c G.out.v5
    go_wp2_with fail
    refine (C1.out _ _ KX.out).mono ?_
    rintro e w3 ⟨v3, rfl, hm, hb⟩
    obtain ⟨A3, c3x, rfl⟩ := hm.is
    have S3 := Lib.hid G.out.bel.size
    have G := Lib.hid (G.out.still hb)
    have M := Lib.hid (hm.base S3.out)
    clear hm hb C1 KX S3 c0 c1 c2 c3 c4 c5 c6 c7 c8 b0 b1
    obtain ⟨⟨d0, d1, d2, d3, d4, d5⟩, ⟨f0, f1, f2, f3, f4, f5⟩⟩ := six_of G.out.v0
    obtain ⟨h0, h1⟩ := row2c G.out.v1
    obtain ⟨g0, g1⟩ := row2f G.out.v1
    have hne : q ≠ q7 := Nat.ne_of_lt LQ7.out
    have hne' : q7 ≠ q := fun h => hne h.symm
    generalize Y.length = yl at *
    go_upto_region 20 with (fail)
    have HLOW : Hid (∀ x ∈ ([(w.heap.size + 1 + 1 + 1, 34, #[.int .i64 0, .int .i64 0, .int .i64 0, .bool false, .int .i64 0, .int .i64 0]), (w.heap.size + 1 + 1, 26, #[.slice none 0 0, .int .i64 0]), (w.heap.size + 1, 38, #[.int .i64 4, .int .i64 ca, .int .i64 cn, .int .i64 cnw, .int .i64 ctw, .int .i64 cp, .int .i64 cf, .int .i64 cb, .int .i64 co]), (w.heap.size, 26, #[.slice A X.length cc, .int .i64 n])] : List (Nat × TypeId × Array Value)), x.1 < q) := Lib.hid (fun x hx => by
      have := LF.out
      have := LQ7.out
      simp only [List.mem_cons, List.not_mem_nil, or_false] at hx
      rcases hx with rfl | rfl | rfl | rfl <;> simp only <;> omega)
    obtain ⟨GL, ML⟩ := lay2 G.out M.out HLOW.out LQ7.out (by have := LF.out; omega) (.slice A3 yl c3x) (.int .i64 n1) (.int .i64 e1) (.int .i64 x1) (.int .i64 0) (.bool false) (.int .i64 0) (.int .i64 0)
    have G := Lib.hid GL
    have M := Lib.hid ML
    clear GL ML d0 d1 d2 d3 d4 d5 f0 f1 f2 f3 f4 f5 h0 h1 g0 g1
    try unfold set6 at G M
    try unfold setTwo at G M
    generalize World.setCell _ _ _ = W5 at *
    obtain ⟨d0, d1, d2, d3, d4, d5⟩ := row6 G.out.v0
    obtain ⟨h0, h1⟩ := row2c G.out.v1
    obtain ⟨⟨i0, i1, i2, i3, i4, i5⟩, ⟨f0, f1, f2, f3, f4, f5⟩⟩ := six_of G.out.v2
    obtain ⟨j0, j1⟩ := row2c G.out.v3
    obtain ⟨g0, g1⟩ := row2f G.out.v3
    have lf := LF.out
    have lq := LQ7.out
    have k1 : w.heap.size + 1 + 1 ≠ q7 := by omega
    have k2 : q7 ≠ w.heap.size + 1 + 1 := by omega
    have k3 : w.heap.size + 1 + 1 ≠ q := by omega
    have k4 : q ≠ w.heap.size + 1 + 1 := by omega
    have k5 : w.heap.size + 1 + 1 + 1 ≠ q7 := by omega
    have k6 : q7 ≠ w.heap.size + 1 + 1 + 1 := by omega
    have k7 : w.heap.size + 1 + 1 + 1 ≠ q := by omega
    have k8 : q ≠ w.heap.size + 1 + 1 + 1 := by omega
    have k9 : w.heap.size + 1 + 1 ≠ w.heap.size + 1 + 1 + 1 := by omega
    have k10 : w.heap.size + 1 + 1 + 1 ≠ w.heap.size + 1 + 1 := by omega
    have k11 : w.heap.size ≤ w.heap.size + 1 + 1 := by omega
    have k12 : w.heap.size ≤ w.heap.size + 1 + 1 + 1 := by omega
    have KK := Lib.hid (And.intro k11 (And.intro k12 k9))
    clear k11 k12
    generalize w.heap.size + 1 + 1 + 1 = r5 at *
    generalize w.heap.size + 1 + 1 = r4 at *
    clear lf lq
    go_region
    all_goals
    obtain ⟨e4, e5, eM, eB⟩ := lay_end G.out M.out KK.out.1 KK.out.2.1 KK.out.2.2 (.slice A3 yl c3x) (.int .i64 n1) (.int .i64 e1) (.int .i64 x1) (.int .i64 0) (.bool false) (.int .i64 0) (.int .i64 0)
    have E4 := Lib.hid e4
    have E5 := Lib.hid e5
    have EM := Lib.hid eM
    have EB := Lib.hid eB
    clear e4 e5 eM eB
    unfold set6 setTwo at E4 E5 EM EB
    generalize World.drew _ = W6 at *
    clear d0 d1 d2 d3 d4 d5 h0 h1 i0 i1 i2 i3 i4 i5 f0 f1 f2 f3 f4 f5 j0 j1 g0 g1
    go_wp2_with fail
    refine bodyPost_ret (results_cell_cell rfl _ _ r4 r5 26 34 #[.slice A3 yl c3x, .int .i64 n1] #[.int .i64 e1, .int .i64 x1, .int .i64 0, .bool false, .int .i64 0, .int .i64 0] (0, 0) (0, 0) _ _ rfl E4.out rfl E5.out Tryz.underlying26 rfl (by kernel_rfl) Tryz.underlying34 rfl (by kernel_rfl)) rfl ?_
    exact ⟨_, rfl, EM.out, EB.out⟩

set_option maxRecDepth 4000 in
set_option maxHeartbeats 8000000 in
theorem do_fault (h : Holds w (.slice A X.length cc) X) (hl : X.length ≤ 10000) (r : Bool) (hr : decide (RightSc ⟨X, n⟩) = r) (ht : r = true) {e1 t1 t3 t4 : Int} {t2 : Bool} (hC : ∀ w' u, Holds w' u X → Calls Tryz.prog 24 #[u, .agg #[.int .i64 5, .int .i64 ca, .int .i64 cn, .int .i64 cnw, .int .i64 ctw, .int .i64 cp, .int .i64 cf, .int .i64 cb, .int .i64 co]] w' fun e w'' => e = .returned (.agg #[.int .i64 e1, .int .i64 0, .int .i64 t1, .bool t2, .int .i64 t3, .int .i64 t4]) ∧ Below w'.heap.size w' w'') : Calls Tryz.prog 10 #[.agg #[.slice A X.length cc, .int .i64 n], .agg #[.int .i64 5, .int .i64 ca, .int .i64 cn, .int .i64 cnw, .int .i64 ctw, .int .i64 cp, .int .i64 cf, .int .i64 cb, .int .i64 co]] w (GivesS w ⟨X, n⟩ ⟨e1, 0, ⟨t1, t2, t3, t4⟩⟩) := by
  have G := Lib.hid (((((Bag.new w).add 26 #[.slice A X.length cc, .int .i64 n]).add 38 #[.int .i64 5, .int .i64 ca, .int .i64 cn, .int .i64 cnw, .int .i64 ctw, .int .i64 cp, .int .i64 cf, .int .i64 cb, .int .i64 co]).add 26 #[.slice none 0 0, .int .i64 0]).add 34 #[.int .i64 0, .int .i64 0, .int .i64 0, .bool false, .int .i64 0, .int .i64 0])
  have KX := Lib.hid (h.still G.out.bel)
  have CC : Hid (∀ w' u, Holds w' u X → Calls Tryz.prog 18 #[u] w' fun e w'' => ∃ v', e = .returned v' ∧ Mine w'.heap.size w'' v' X ∧ Below w'.heap.size w' w'') := Lib.hid (fun w' u h => clone_c h hl)
  have CR : Hid (∀ w' u, Holds w' u X → Calls Tryz.prog 12 #[.agg #[u, .int .i64 n]] w' fun e w'' => e = .returned (.bool r) ∧ Below w'.heap.size w' w'') := Lib.hid (fun w' u h => by
    have := scRight_c (s := ⟨X, n⟩) h hl
    rw [hr] at this
    exact this)
  have C1 : Hid (∀ w' u, Holds w' u X → Calls Tryz.prog 24 #[u, .agg #[.int .i64 5, .int .i64 ca, .int .i64 cn, .int .i64 cnw, .int .i64 ctw, .int .i64 cp, .int .i64 cf, .int .i64 cb, .int .i64 co]] w' fun e w'' => e = .returned (.agg #[.int .i64 e1, .int .i64 0, .int .i64 t1, .bool t2, .int .i64 t3, .int .i64 t4]) ∧ Below w'.heap.size w' w'') := Lib.hid hC
  subst ht
  simp only [World.size_alloc] at G KX
  clear hr h
  go_enter Tryz.func10, Tryz.ntmps10
  go_upto_region 1 with (fail)
  generalize hw0 : World.alloc (World.alloc (World.alloc (World.alloc w _) _) _) _ = w0 at *
  clear hw0
  have LOW := Lib.hid G.out.low
  have SZ := Lib.hid G.out.bel.size
  have HC : Hid (∀ W, Below w0.heap.size w0 W → (W.cell? ⟨w.heap.size, 0, none⟩ = some (.slice A X.length cc) ∧ W.cell? ⟨w.heap.size, 1, none⟩ = some (.int .i64 n))) := Lib.hid (fun W h => row2c (G.out.still h).v3)
  have B0 : Hid (Below w0.heap.size w0 w0.drew) := Lib.hid (below_drew (Below.refl _ _))
  have BZ : Hid (Below w0.heap.size w0 (w0.alloc (.cells #[.slice none 0 0, .int .i64 0] 26)).drew) := Lib.hid (below_drew (below_new _ _))
  have GZ := Lib.hid (G.out.add 26 #[.slice none 0 0, .int .i64 0]).drew
  have HG := Lib.hid (fun W h => G.out.still (w' := W) h)
  have KZ : Hid (Holds (w0.alloc (.cells #[.slice none 0 0, .int .i64 0] 26)).drew (.slice A X.length cc) X) := Lib.hid (KX.out.still BZ.out)
  have K0 : Hid (Holds w0.drew (.slice A X.length cc) X) := Lib.hid (KX.out.still B0.out)
  clear G
  go_region_held3 (fun W => W.cell? ⟨w.heap.size, 0, none⟩ = some (.slice A X.length cc) ∧ W.cell? ⟨w.heap.size, 1, none⟩ = some (.int .i64 n))
    (first | with_reducible exact HC.out _ B0.out | with_reducible exact HC.out _ BZ.out | with_reducible exact HC.out _ BB.out | with_reducible exact HC.out _ (BB.out.alloc BB.out.size _) | exact HS.out _ _)
    (first
    | (go_at_call 18; with_reducible refine (CC.out _ _ KZ.out).mono ?_; rintro e wk ⟨vk, rfl, hm, hb⟩; obtain ⟨Ak, ck1, rfl⟩ := hm.is; have BB := Lib.hid (below_then BZ.out hb (Nat.le_refl _)); have GA := Lib.hid (GZ.out.still hb); have M := Lib.hid (hm.base (Nat.le_trans SZ.out (Nat.le_trans (BZ.out.size) (Nat.le_refl _)))); obtain ⟨d0, d1⟩ := row2c GA.out.v0; obtain ⟨f0, f1⟩ := row2f GA.out.v0; have GF := Lib.hid (GA.out.put2 SZ.out LOW.out (.slice Ak X.length ck1) (.int .i64 n)); have MF := Lib.hid (mine_two M.out GA.out.v0 (by decide) (.slice Ak X.length ck1) (.int .i64 n)); have HS : Hid (∀ x y, (fun W : World => W.cell? ⟨w.heap.size, 0, none⟩ = some (.slice A X.length cc) ∧ W.cell? ⟨w.heap.size, 1, none⟩ = some (.int .i64 n)) (setTwo wk w0.heap.size x y)) := Lib.hid (fun x y => row2c (GA.out.put2 SZ.out LOW.out x y).v4); have KF := Lib.hid (KX.out.still (BB.out.trans ((two_only wk w0.heap.size (.slice Ak X.length ck1) (.int .i64 n)).below (fun k hk => Nat.le_of_eq hk.symm) BB.out.size))); have LF : Hid (w.heap.size + 1 + 1 + 1 < w0.heap.size) := Lib.hid (LOW.out _ (List.mem_cons_self ..)); have TA : Hid True := Lib.hid trivial; clear hb hm CC KZ GZ BZ)
    | (go_at_call 18; with_reducible refine (CC.out _ _ K0.out).mono ?_; rintro e wk ⟨vk, rfl, hm, hb⟩; obtain ⟨Ak, ck1, rfl⟩ := hm.is; have BB := Lib.hid (below_then B0.out hb (Nat.le_refl _)); have GF := Lib.hid ((HG.out _ BB.out).add 26 #[.slice Ak X.length ck1, .int .i64 n]); have MF := Lib.hid ((hm.base SZ.out).still (below_new wk (.cells #[.slice Ak X.length ck1, .int .i64 n] 26))); have KF := Lib.hid (KX.out.still (BB.out.alloc BB.out.size (.cells #[.slice Ak X.length ck1, .int .i64 n] 26))); have LF : Hid (w.heap.size + 1 + 1 + 1 < wk.heap.size) := Lib.hid (Nat.lt_of_lt_of_le (LOW.out _ (List.mem_cons_self ..)) BB.out.size); have TB : Hid True := Lib.hid trivial; clear hb hm CC K0)
    | fail)
  all_goals
    clear HG HC KX BB LOW
    try clear HS GA M d0 d1 f0 f1
    try clear BZ GZ KZ
    try clear B0 K0
    try unfold setTwo at GF MF KF
    first | (have := TA; generalize World.setCell _ _ _ = W at *; generalize w0.heap.size = q at *; clear TA) | (have := TB; generalize World.alloc wk _ = W at *; generalize wk.heap.size = q at *; clear TB)
    have G := Lib.hid (GF.out.add 34 #[.int .i64 0, .int .i64 0, .int .i64 0, .bool false, .int .i64 0, .int .i64 0])
    have BN := Lib.hid (below_new W (.cells #[.int .i64 0, .int .i64 0, .int .i64 0, .bool false, .int .i64 0, .int .i64 0] 34))
    have M := Lib.hid (MF.out.still BN.out)
    have KX := Lib.hid (KF.out.still BN.out)
    have LQ := Lib.hid GF.out.v0.lt
    clear GF MF KF BN
    obtain ⟨c0, c1, c2, c3, c4, c5, c6, c7, c8⟩ := nine G.out.v4
    obtain ⟨b0, b1⟩ := row2c G.out.v5
    go_wp2_with fail
    refine (CR.out _ _ KX.out).mono ?_
    rintro e w2 ⟨rfl, hb⟩
    have G := Lib.hid (G.out.still hb)
    have M := Lib.hid (M.out.still hb)
    have KX := Lib.hid (KX.out.still hb)
    clear hb CR c0 c1 c2 c3 c4 c5 c6 c7 c8 b0 b1
    have LQ7 : Hid (q < W.heap.size) := LQ
    generalize W.heap.size = q7 at *
    obtain ⟨c0, c1, c2, c3, c4, c5, c6, c7, c8⟩ := nine G.out.v4
    obtain ⟨b0, b1⟩ := row2c G.out.v5
    go_wp2_with fail
    refine (C1.out _ _ KX.out).mono ?_
    rintro e w3 ⟨rfl, hb⟩
    have S3 := Lib.hid G.out.bel.size
    have G := Lib.hid (G.out.still hb)
    have M := Lib.hid (M.out.still hb)
    clear hb C1 KX S3 c0 c1 c2 c3 c4 c5 c6 c7 c8 b0 b1
    obtain ⟨⟨d0, d1, d2, d3, d4, d5⟩, ⟨f0, f1, f2, f3, f4, f5⟩⟩ := six_of G.out.v0
    obtain ⟨h0, h1⟩ := row2c G.out.v1
    obtain ⟨g0, g1⟩ := row2f G.out.v1
    have hne : q ≠ q7 := Nat.ne_of_lt LQ7.out
    have hne' : q7 ≠ q := fun h => hne h.symm
    go_upto_region 20 with (fail)
    have HLOW : Hid (∀ x ∈ ([(q, 26, #[.slice Ak X.length ck1, .int .i64 n]), (w.heap.size + 1 + 1 + 1, 34, #[.int .i64 0, .int .i64 0, .int .i64 0, .bool false, .int .i64 0, .int .i64 0]), (w.heap.size + 1 + 1, 26, #[.slice none 0 0, .int .i64 0]), (w.heap.size + 1, 38, #[.int .i64 5, .int .i64 ca, .int .i64 cn, .int .i64 cnw, .int .i64 ctw, .int .i64 cp, .int .i64 cf, .int .i64 cb, .int .i64 co]), (w.heap.size, 26, #[.slice A X.length cc, .int .i64 n])] : List (Nat × TypeId × Array Value)), x.1 < q7) := Lib.hid (fun x hx => by
      have := LF.out
      have := LQ7.out
      simp only [List.mem_cons, List.not_mem_nil, or_false] at hx
      rcases hx with rfl | rfl | rfl | rfl | rfl <;> simp only <;> omega)
    obtain ⟨GL, ML⟩ := lay0 G.out M.out HLOW.out (by have := LF.out; have := LQ7.out; omega) (.int .i64 e1) (.int .i64 0) (.int .i64 t1) (.bool t2) (.int .i64 t3) (.int .i64 t4)
    have G := Lib.hid GL
    have M := Lib.hid ML
    clear GL ML d0 d1 d2 d3 d4 d5 f0 f1 f2 f3 f4 f5 h0 h1 g0 g1
    try unfold set6 at G M
    try unfold setTwo at G M
    generalize World.setCell _ _ _ = W5 at *
    obtain ⟨d0, d1, d2, d3, d4, d5⟩ := row6 G.out.v0
    obtain ⟨h0, h1⟩ := row2c G.out.v1
    obtain ⟨⟨i0, i1, i2, i3, i4, i5⟩, ⟨f0, f1, f2, f3, f4, f5⟩⟩ := six_of G.out.v2
    obtain ⟨j0, j1⟩ := row2c G.out.v3
    obtain ⟨g0, g1⟩ := row2f G.out.v3
    have lf := LF.out
    have lq := LQ7.out
    have k1 : w.heap.size + 1 + 1 ≠ q7 := by omega
    have k2 : q7 ≠ w.heap.size + 1 + 1 := by omega
    have k3 : w.heap.size + 1 + 1 ≠ q := by omega
    have k4 : q ≠ w.heap.size + 1 + 1 := by omega
    have k5 : w.heap.size + 1 + 1 + 1 ≠ q7 := by omega
    have k6 : q7 ≠ w.heap.size + 1 + 1 + 1 := by omega
    have k7 : w.heap.size + 1 + 1 + 1 ≠ q := by omega
    have k8 : q ≠ w.heap.size + 1 + 1 + 1 := by omega
    have k9 : w.heap.size + 1 + 1 ≠ w.heap.size + 1 + 1 + 1 := by omega
    have k10 : w.heap.size + 1 + 1 + 1 ≠ w.heap.size + 1 + 1 := by omega
    have k11 : w.heap.size ≤ w.heap.size + 1 + 1 := by omega
    have k12 : w.heap.size ≤ w.heap.size + 1 + 1 + 1 := by omega
    have KK := Lib.hid (And.intro k11 (And.intro k12 k9))
    clear k11 k12
    generalize w.heap.size + 1 + 1 + 1 = r5 at *
    generalize w.heap.size + 1 + 1 = r4 at *
    clear lf lq
    go_region
    all_goals
    obtain ⟨e4, e5, eM, eB⟩ := lay_end G.out M.out KK.out.1 KK.out.2.1 KK.out.2.2 (.slice Ak X.length ck1) (.int .i64 n) (.int .i64 e1) (.int .i64 0) (.int .i64 t1) (.bool t2) (.int .i64 t3) (.int .i64 t4)
    have E4 := Lib.hid e4
    have E5 := Lib.hid e5
    have EM := Lib.hid eM
    have EB := Lib.hid eB
    clear e4 e5 eM eB
    unfold set6 setTwo at E4 E5 EM EB
    generalize World.drew _ = W6 at *
    clear d0 d1 d2 d3 d4 d5 h0 h1 i0 i1 i2 i3 i4 i5 f0 f1 f2 f3 f4 f5 j0 j1 g0 g1
    go_wp2_with fail
    refine bodyPost_ret (results_cell_cell rfl _ _ r4 r5 26 34 #[.slice Ak X.length ck1, .int .i64 n] #[.int .i64 e1, .int .i64 0, .int .i64 t1, .bool t2, .int .i64 t3, .int .i64 t4] (0, 0) (0, 0) _ _ rfl E4.out rfl E5.out Tryz.underlying26 rfl (by kernel_rfl) Tryz.underlying34 rfl (by kernel_rfl)) rfl ?_
    exact ⟨_, rfl, EM.out, EB.out⟩

set_option maxRecDepth 4000 in
set_option maxHeartbeats 8000000 in
theorem do_wrong (h : Holds w (.slice A X.length cc) X) (hl : X.length ≤ 10000) (r : Bool) (hr : decide (RightSc ⟨X, n⟩) = r) {ck : Int} (ht : r = false) : Calls Tryz.prog 10 #[.agg #[.slice A X.length cc, .int .i64 n], .agg #[.int .i64 ck, .int .i64 ca, .int .i64 cn, .int .i64 cnw, .int .i64 ctw, .int .i64 cp, .int .i64 cf, .int .i64 cb, .int .i64 co]] w (GivesS w ⟨X, n⟩ (An.ev 1 0)) := by
  have G := Lib.hid (((((Bag.new w).add 26 #[.slice A X.length cc, .int .i64 n]).add 38 #[.int .i64 ck, .int .i64 ca, .int .i64 cn, .int .i64 cnw, .int .i64 ctw, .int .i64 cp, .int .i64 cf, .int .i64 cb, .int .i64 co]).add 26 #[.slice none 0 0, .int .i64 0]).add 34 #[.int .i64 0, .int .i64 0, .int .i64 0, .bool false, .int .i64 0, .int .i64 0])
  have KX := Lib.hid (h.still G.out.bel)
  have CC : Hid (∀ w' u, Holds w' u X → Calls Tryz.prog 18 #[u] w' fun e w'' => ∃ v', e = .returned v' ∧ Mine w'.heap.size w'' v' X ∧ Below w'.heap.size w' w'') := Lib.hid (fun w' u h => clone_c h hl)
  have CR : Hid (∀ w' u, Holds w' u X → Calls Tryz.prog 12 #[.agg #[u, .int .i64 n]] w' fun e w'' => e = .returned (.bool r) ∧ Below w'.heap.size w' w'') := Lib.hid (fun w' u h => by
    have := scRight_c (s := ⟨X, n⟩) h hl
    rw [hr] at this
    exact this)
  subst ht
  simp only [World.size_alloc] at G KX
  clear hr h
  go_enter Tryz.func10, Tryz.ntmps10
  go_upto_region 1 with (fail)
  generalize hw0 : World.alloc (World.alloc (World.alloc (World.alloc w _) _) _) _ = w0 at *
  clear hw0
  have LOW := Lib.hid G.out.low
  have SZ := Lib.hid G.out.bel.size
  have HC : Hid (∀ W, Below w0.heap.size w0 W → (W.cell? ⟨w.heap.size, 0, none⟩ = some (.slice A X.length cc) ∧ W.cell? ⟨w.heap.size, 1, none⟩ = some (.int .i64 n))) := Lib.hid (fun W h => row2c (G.out.still h).v3)
  have B0 : Hid (Below w0.heap.size w0 w0.drew) := Lib.hid (below_drew (Below.refl _ _))
  have BZ : Hid (Below w0.heap.size w0 (w0.alloc (.cells #[.slice none 0 0, .int .i64 0] 26)).drew) := Lib.hid (below_drew (below_new _ _))
  have GZ := Lib.hid (G.out.add 26 #[.slice none 0 0, .int .i64 0]).drew
  have HG := Lib.hid (fun W h => G.out.still (w' := W) h)
  have KZ : Hid (Holds (w0.alloc (.cells #[.slice none 0 0, .int .i64 0] 26)).drew (.slice A X.length cc) X) := Lib.hid (KX.out.still BZ.out)
  have K0 : Hid (Holds w0.drew (.slice A X.length cc) X) := Lib.hid (KX.out.still B0.out)
  clear G
  go_region_held3 (fun W => W.cell? ⟨w.heap.size, 0, none⟩ = some (.slice A X.length cc) ∧ W.cell? ⟨w.heap.size, 1, none⟩ = some (.int .i64 n))
    (first | with_reducible exact HC.out _ B0.out | with_reducible exact HC.out _ BZ.out | with_reducible exact HC.out _ BB.out | with_reducible exact HC.out _ (BB.out.alloc BB.out.size _) | exact HS.out _ _)
    (first
    | (go_at_call 18; with_reducible refine (CC.out _ _ KZ.out).mono ?_; rintro e wk ⟨vk, rfl, hm, hb⟩; obtain ⟨Ak, ck1, rfl⟩ := hm.is; have BB := Lib.hid (below_then BZ.out hb (Nat.le_refl _)); have GA := Lib.hid (GZ.out.still hb); have M := Lib.hid (hm.base (Nat.le_trans SZ.out (Nat.le_trans (BZ.out.size) (Nat.le_refl _)))); obtain ⟨d0, d1⟩ := row2c GA.out.v0; obtain ⟨f0, f1⟩ := row2f GA.out.v0; have GF := Lib.hid (GA.out.put2 SZ.out LOW.out (.slice Ak X.length ck1) (.int .i64 n)); have MF := Lib.hid (mine_two M.out GA.out.v0 (by decide) (.slice Ak X.length ck1) (.int .i64 n)); have HS : Hid (∀ x y, (fun W : World => W.cell? ⟨w.heap.size, 0, none⟩ = some (.slice A X.length cc) ∧ W.cell? ⟨w.heap.size, 1, none⟩ = some (.int .i64 n)) (setTwo wk w0.heap.size x y)) := Lib.hid (fun x y => row2c (GA.out.put2 SZ.out LOW.out x y).v4); have KF := Lib.hid (KX.out.still (BB.out.trans ((two_only wk w0.heap.size (.slice Ak X.length ck1) (.int .i64 n)).below (fun k hk => Nat.le_of_eq hk.symm) BB.out.size))); have LF : Hid (w.heap.size + 1 + 1 + 1 < w0.heap.size) := Lib.hid (LOW.out _ (List.mem_cons_self ..)); have TA : Hid True := Lib.hid trivial; clear hb hm CC KZ GZ BZ)
    | (go_at_call 18; with_reducible refine (CC.out _ _ K0.out).mono ?_; rintro e wk ⟨vk, rfl, hm, hb⟩; obtain ⟨Ak, ck1, rfl⟩ := hm.is; have BB := Lib.hid (below_then B0.out hb (Nat.le_refl _)); have GF := Lib.hid ((HG.out _ BB.out).add 26 #[.slice Ak X.length ck1, .int .i64 n]); have MF := Lib.hid ((hm.base SZ.out).still (below_new wk (.cells #[.slice Ak X.length ck1, .int .i64 n] 26))); have KF := Lib.hid (KX.out.still (BB.out.alloc BB.out.size (.cells #[.slice Ak X.length ck1, .int .i64 n] 26))); have LF : Hid (w.heap.size + 1 + 1 + 1 < wk.heap.size) := Lib.hid (Nat.lt_of_lt_of_le (LOW.out _ (List.mem_cons_self ..)) BB.out.size); have TB : Hid True := Lib.hid trivial; clear hb hm CC K0)
    | fail)
  all_goals
    clear HG HC KX BB LOW
    try clear HS GA M d0 d1 f0 f1
    try clear BZ GZ KZ
    try clear B0 K0
    try unfold setTwo at GF MF KF
    first | (have := TA; generalize World.setCell _ _ _ = W at *; generalize w0.heap.size = q at *; clear TA) | (have := TB; generalize World.alloc wk _ = W at *; generalize wk.heap.size = q at *; clear TB)
    have G := Lib.hid (GF.out.add 34 #[.int .i64 0, .int .i64 0, .int .i64 0, .bool false, .int .i64 0, .int .i64 0])
    have BN := Lib.hid (below_new W (.cells #[.int .i64 0, .int .i64 0, .int .i64 0, .bool false, .int .i64 0, .int .i64 0] 34))
    have M := Lib.hid (MF.out.still BN.out)
    have KX := Lib.hid (KF.out.still BN.out)
    have LQ := Lib.hid GF.out.v0.lt
    clear GF MF KF BN
    obtain ⟨c0, c1, c2, c3, c4, c5, c6, c7, c8⟩ := nine G.out.v4
    obtain ⟨b0, b1⟩ := row2c G.out.v5
    go_wp2_with fail
    refine (CR.out _ _ KX.out).mono ?_
    rintro e w2 ⟨rfl, hb⟩
    have G := Lib.hid (G.out.still hb)
    have M := Lib.hid (M.out.still hb)
    have KX := Lib.hid (KX.out.still hb)
    clear hb CR c0 c1 c2 c3 c4 c5 c6 c7 c8 b0 b1
    have LQ7 : Hid (q < W.heap.size) := LQ
    generalize W.heap.size = q7 at *
    obtain ⟨c0, c1, c2, c3, c4, c5, c6, c7, c8⟩ := nine G.out.v4
    obtain ⟨b0, b1⟩ := row2c G.out.v5
    obtain ⟨⟨d0, d1, d2, d3, d4, d5⟩, ⟨f0, f1, f2, f3, f4, f5⟩⟩ := six_of G.out.v0
    obtain ⟨h0, h1⟩ := row2c G.out.v1
    obtain ⟨g0, g1⟩ := row2f G.out.v1
    have hne : q ≠ q7 := Nat.ne_of_lt LQ7.out
    have hne' : q7 ≠ q := fun h => hne h.symm
    go_upto_region 20 with (fail)
    have HLOW : Hid (∀ x ∈ ([(q, 26, #[.slice Ak X.length ck1, .int .i64 n]), (w.heap.size + 1 + 1 + 1, 34, #[.int .i64 0, .int .i64 0, .int .i64 0, .bool false, .int .i64 0, .int .i64 0]), (w.heap.size + 1 + 1, 26, #[.slice none 0 0, .int .i64 0]), (w.heap.size + 1, 38, #[.int .i64 ck, .int .i64 ca, .int .i64 cn, .int .i64 cnw, .int .i64 ctw, .int .i64 cp, .int .i64 cf, .int .i64 cb, .int .i64 co]), (w.heap.size, 26, #[.slice A X.length cc, .int .i64 n])] : List (Nat × TypeId × Array Value)), x.1 < q7) := Lib.hid (fun x hx => by
      have := LF.out
      have := LQ7.out
      simp only [List.mem_cons, List.not_mem_nil, or_false] at hx
      rcases hx with rfl | rfl | rfl | rfl | rfl <;> simp only <;> omega)
    obtain ⟨GL, ML⟩ := lay_e G.out M.out HLOW.out (by have := LF.out; have := LQ7.out; omega) (.int .i64 1)
    have G := Lib.hid GL
    have M := Lib.hid ML
    clear GL ML d0 d1 d2 d3 d4 d5 f0 f1 f2 f3 f4 f5 h0 h1 g0 g1
    try unfold set6 at G M
    try unfold setTwo at G M
    generalize World.setCell _ _ _ = W5 at *
    obtain ⟨d0, d1, d2, d3, d4, d5⟩ := row6 G.out.v0
    obtain ⟨h0, h1⟩ := row2c G.out.v1
    obtain ⟨⟨i0, i1, i2, i3, i4, i5⟩, ⟨f0, f1, f2, f3, f4, f5⟩⟩ := six_of G.out.v2
    obtain ⟨j0, j1⟩ := row2c G.out.v3
    obtain ⟨g0, g1⟩ := row2f G.out.v3
    have lf := LF.out
    have lq := LQ7.out
    have k1 : w.heap.size + 1 + 1 ≠ q7 := by omega
    have k2 : q7 ≠ w.heap.size + 1 + 1 := by omega
    have k3 : w.heap.size + 1 + 1 ≠ q := by omega
    have k4 : q ≠ w.heap.size + 1 + 1 := by omega
    have k5 : w.heap.size + 1 + 1 + 1 ≠ q7 := by omega
    have k6 : q7 ≠ w.heap.size + 1 + 1 + 1 := by omega
    have k7 : w.heap.size + 1 + 1 + 1 ≠ q := by omega
    have k8 : q ≠ w.heap.size + 1 + 1 + 1 := by omega
    have k9 : w.heap.size + 1 + 1 ≠ w.heap.size + 1 + 1 + 1 := by omega
    have k10 : w.heap.size + 1 + 1 + 1 ≠ w.heap.size + 1 + 1 := by omega
    have k11 : w.heap.size ≤ w.heap.size + 1 + 1 := by omega
    have k12 : w.heap.size ≤ w.heap.size + 1 + 1 + 1 := by omega
    have KK := Lib.hid (And.intro k11 (And.intro k12 k9))
    clear k11 k12
    generalize w.heap.size + 1 + 1 + 1 = r5 at *
    generalize w.heap.size + 1 + 1 = r4 at *
    clear lf lq
    go_region
    all_goals
    obtain ⟨e4, e5, eM, eB⟩ := lay_end G.out M.out KK.out.1 KK.out.2.1 KK.out.2.2 (.slice Ak X.length ck1) (.int .i64 n) (.int .i64 1) (.int .i64 0) (.int .i64 0) (.bool false) (.int .i64 0) (.int .i64 0)
    have E4 := Lib.hid e4
    have E5 := Lib.hid e5
    have EM := Lib.hid eM
    have EB := Lib.hid eB
    clear e4 e5 eM eB
    unfold set6 setTwo at E4 E5 EM EB
    generalize World.drew _ = W6 at *
    clear d0 d1 d2 d3 d4 d5 h0 h1 i0 i1 i2 i3 i4 i5 f0 f1 f2 f3 f4 f5 j0 j1 g0 g1
    go_wp2_with fail
    refine bodyPost_ret (results_cell_cell rfl _ _ r4 r5 26 34 #[.slice Ak X.length ck1, .int .i64 n] #[.int .i64 1, .int .i64 0, .int .i64 0, .bool false, .int .i64 0, .int .i64 0] (0, 0) (0, 0) _ _ rfl E4.out rfl E5.out Tryz.underlying26 rfl (by kernel_rfl) Tryz.underlying34 rfl (by kernel_rfl)) rfl ?_
    exact ⟨_, rfl, EM.out, EB.out⟩

set_option maxRecDepth 4000 in
set_option maxHeartbeats 8000000 in
theorem do_less (h : Holds w (.slice A X.length cc) X) (hl : X.length ≤ 10000) (r : Bool) (hr : decide (RightSc ⟨X, n⟩) = r) {ck : Int} (ht : r = true) (hk : ck < 0) : Calls Tryz.prog 10 #[.agg #[.slice A X.length cc, .int .i64 n], .agg #[.int .i64 ck, .int .i64 ca, .int .i64 cn, .int .i64 cnw, .int .i64 ctw, .int .i64 cp, .int .i64 cf, .int .i64 cb, .int .i64 co]] w (GivesS w ⟨X, n⟩ (An.ev 1 0)) := by
  have G := Lib.hid (((((Bag.new w).add 26 #[.slice A X.length cc, .int .i64 n]).add 38 #[.int .i64 ck, .int .i64 ca, .int .i64 cn, .int .i64 cnw, .int .i64 ctw, .int .i64 cp, .int .i64 cf, .int .i64 cb, .int .i64 co]).add 26 #[.slice none 0 0, .int .i64 0]).add 34 #[.int .i64 0, .int .i64 0, .int .i64 0, .bool false, .int .i64 0, .int .i64 0])
  have KX := Lib.hid (h.still G.out.bel)
  have CC : Hid (∀ w' u, Holds w' u X → Calls Tryz.prog 18 #[u] w' fun e w'' => ∃ v', e = .returned v' ∧ Mine w'.heap.size w'' v' X ∧ Below w'.heap.size w' w'') := Lib.hid (fun w' u h => clone_c h hl)
  have CR : Hid (∀ w' u, Holds w' u X → Calls Tryz.prog 12 #[.agg #[u, .int .i64 n]] w' fun e w'' => e = .returned (.bool r) ∧ Below w'.heap.size w' w'') := Lib.hid (fun w' u h => by
    have := scRight_c (s := ⟨X, n⟩) h hl
    rw [hr] at this
    exact this)
  subst ht
  simp only [World.size_alloc] at G KX
  clear hr h
  go_enter Tryz.func10, Tryz.ntmps10
  go_upto_region 1 with (fail)
  generalize hw0 : World.alloc (World.alloc (World.alloc (World.alloc w _) _) _) _ = w0 at *
  clear hw0
  have LOW := Lib.hid G.out.low
  have SZ := Lib.hid G.out.bel.size
  have HC : Hid (∀ W, Below w0.heap.size w0 W → (W.cell? ⟨w.heap.size, 0, none⟩ = some (.slice A X.length cc) ∧ W.cell? ⟨w.heap.size, 1, none⟩ = some (.int .i64 n))) := Lib.hid (fun W h => row2c (G.out.still h).v3)
  have B0 : Hid (Below w0.heap.size w0 w0.drew) := Lib.hid (below_drew (Below.refl _ _))
  have BZ : Hid (Below w0.heap.size w0 (w0.alloc (.cells #[.slice none 0 0, .int .i64 0] 26)).drew) := Lib.hid (below_drew (below_new _ _))
  have GZ := Lib.hid (G.out.add 26 #[.slice none 0 0, .int .i64 0]).drew
  have HG := Lib.hid (fun W h => G.out.still (w' := W) h)
  have KZ : Hid (Holds (w0.alloc (.cells #[.slice none 0 0, .int .i64 0] 26)).drew (.slice A X.length cc) X) := Lib.hid (KX.out.still BZ.out)
  have K0 : Hid (Holds w0.drew (.slice A X.length cc) X) := Lib.hid (KX.out.still B0.out)
  clear G
  go_region_held3 (fun W => W.cell? ⟨w.heap.size, 0, none⟩ = some (.slice A X.length cc) ∧ W.cell? ⟨w.heap.size, 1, none⟩ = some (.int .i64 n))
    (first | with_reducible exact HC.out _ B0.out | with_reducible exact HC.out _ BZ.out | with_reducible exact HC.out _ BB.out | with_reducible exact HC.out _ (BB.out.alloc BB.out.size _) | exact HS.out _ _)
    (first
    | (go_at_call 18; with_reducible refine (CC.out _ _ KZ.out).mono ?_; rintro e wk ⟨vk, rfl, hm, hb⟩; obtain ⟨Ak, ck1, rfl⟩ := hm.is; have BB := Lib.hid (below_then BZ.out hb (Nat.le_refl _)); have GA := Lib.hid (GZ.out.still hb); have M := Lib.hid (hm.base (Nat.le_trans SZ.out (Nat.le_trans (BZ.out.size) (Nat.le_refl _)))); obtain ⟨d0, d1⟩ := row2c GA.out.v0; obtain ⟨f0, f1⟩ := row2f GA.out.v0; have GF := Lib.hid (GA.out.put2 SZ.out LOW.out (.slice Ak X.length ck1) (.int .i64 n)); have MF := Lib.hid (mine_two M.out GA.out.v0 (by decide) (.slice Ak X.length ck1) (.int .i64 n)); have HS : Hid (∀ x y, (fun W : World => W.cell? ⟨w.heap.size, 0, none⟩ = some (.slice A X.length cc) ∧ W.cell? ⟨w.heap.size, 1, none⟩ = some (.int .i64 n)) (setTwo wk w0.heap.size x y)) := Lib.hid (fun x y => row2c (GA.out.put2 SZ.out LOW.out x y).v4); have KF := Lib.hid (KX.out.still (BB.out.trans ((two_only wk w0.heap.size (.slice Ak X.length ck1) (.int .i64 n)).below (fun k hk => Nat.le_of_eq hk.symm) BB.out.size))); have LF : Hid (w.heap.size + 1 + 1 + 1 < w0.heap.size) := Lib.hid (LOW.out _ (List.mem_cons_self ..)); have TA : Hid True := Lib.hid trivial; clear hb hm CC KZ GZ BZ)
    | (go_at_call 18; with_reducible refine (CC.out _ _ K0.out).mono ?_; rintro e wk ⟨vk, rfl, hm, hb⟩; obtain ⟨Ak, ck1, rfl⟩ := hm.is; have BB := Lib.hid (below_then B0.out hb (Nat.le_refl _)); have GF := Lib.hid ((HG.out _ BB.out).add 26 #[.slice Ak X.length ck1, .int .i64 n]); have MF := Lib.hid ((hm.base SZ.out).still (below_new wk (.cells #[.slice Ak X.length ck1, .int .i64 n] 26))); have KF := Lib.hid (KX.out.still (BB.out.alloc BB.out.size (.cells #[.slice Ak X.length ck1, .int .i64 n] 26))); have LF : Hid (w.heap.size + 1 + 1 + 1 < wk.heap.size) := Lib.hid (Nat.lt_of_lt_of_le (LOW.out _ (List.mem_cons_self ..)) BB.out.size); have TB : Hid True := Lib.hid trivial; clear hb hm CC K0)
    | fail)
  all_goals
    clear HG HC KX BB LOW
    try clear HS GA M d0 d1 f0 f1
    try clear BZ GZ KZ
    try clear B0 K0
    try unfold setTwo at GF MF KF
    first | (have := TA; generalize World.setCell _ _ _ = W at *; generalize w0.heap.size = q at *; clear TA) | (have := TB; generalize World.alloc wk _ = W at *; generalize wk.heap.size = q at *; clear TB)
    have G := Lib.hid (GF.out.add 34 #[.int .i64 0, .int .i64 0, .int .i64 0, .bool false, .int .i64 0, .int .i64 0])
    have BN := Lib.hid (below_new W (.cells #[.int .i64 0, .int .i64 0, .int .i64 0, .bool false, .int .i64 0, .int .i64 0] 34))
    have M := Lib.hid (MF.out.still BN.out)
    have KX := Lib.hid (KF.out.still BN.out)
    have LQ := Lib.hid GF.out.v0.lt
    clear GF MF KF BN
    obtain ⟨c0, c1, c2, c3, c4, c5, c6, c7, c8⟩ := nine G.out.v4
    obtain ⟨b0, b1⟩ := row2c G.out.v5
    go_wp2_with fail
    refine (CR.out _ _ KX.out).mono ?_
    rintro e w2 ⟨rfl, hb⟩
    have G := Lib.hid (G.out.still hb)
    have M := Lib.hid (M.out.still hb)
    have KX := Lib.hid (KX.out.still hb)
    clear hb CR c0 c1 c2 c3 c4 c5 c6 c7 c8 b0 b1
    have LQ7 : Hid (q < W.heap.size) := LQ
    generalize W.heap.size = q7 at *
    obtain ⟨c0, c1, c2, c3, c4, c5, c6, c7, c8⟩ := nine G.out.v4
    obtain ⟨b0, b1⟩ := row2c G.out.v5
    obtain ⟨⟨d0, d1, d2, d3, d4, d5⟩, ⟨f0, f1, f2, f3, f4, f5⟩⟩ := six_of G.out.v0
    obtain ⟨h0, h1⟩ := row2c G.out.v1
    obtain ⟨g0, g1⟩ := row2f G.out.v1
    have hne : q ≠ q7 := Nat.ne_of_lt LQ7.out
    have hne' : q7 ≠ q := fun h => hne h.symm
    go_upto_region 20 with (fail)
    have HLOW : Hid (∀ x ∈ ([(q, 26, #[.slice Ak X.length ck1, .int .i64 n]), (w.heap.size + 1 + 1 + 1, 34, #[.int .i64 0, .int .i64 0, .int .i64 0, .bool false, .int .i64 0, .int .i64 0]), (w.heap.size + 1 + 1, 26, #[.slice none 0 0, .int .i64 0]), (w.heap.size + 1, 38, #[.int .i64 ck, .int .i64 ca, .int .i64 cn, .int .i64 cnw, .int .i64 ctw, .int .i64 cp, .int .i64 cf, .int .i64 cb, .int .i64 co]), (w.heap.size, 26, #[.slice A X.length cc, .int .i64 n])] : List (Nat × TypeId × Array Value)), x.1 < q7) := Lib.hid (fun x hx => by
      have := LF.out
      have := LQ7.out
      simp only [List.mem_cons, List.not_mem_nil, or_false] at hx
      rcases hx with rfl | rfl | rfl | rfl | rfl <;> simp only <;> omega)
    obtain ⟨GL, ML⟩ := lay_e G.out M.out HLOW.out (by have := LF.out; have := LQ7.out; omega) (.int .i64 1)
    have G := Lib.hid GL
    have M := Lib.hid ML
    clear GL ML d0 d1 d2 d3 d4 d5 f0 f1 f2 f3 f4 f5 h0 h1 g0 g1
    try unfold set6 at G M
    try unfold setTwo at G M
    generalize World.setCell _ _ _ = W5 at *
    obtain ⟨d0, d1, d2, d3, d4, d5⟩ := row6 G.out.v0
    obtain ⟨h0, h1⟩ := row2c G.out.v1
    obtain ⟨⟨i0, i1, i2, i3, i4, i5⟩, ⟨f0, f1, f2, f3, f4, f5⟩⟩ := six_of G.out.v2
    obtain ⟨j0, j1⟩ := row2c G.out.v3
    obtain ⟨g0, g1⟩ := row2f G.out.v3
    have lf := LF.out
    have lq := LQ7.out
    have k1 : w.heap.size + 1 + 1 ≠ q7 := by omega
    have k2 : q7 ≠ w.heap.size + 1 + 1 := by omega
    have k3 : w.heap.size + 1 + 1 ≠ q := by omega
    have k4 : q ≠ w.heap.size + 1 + 1 := by omega
    have k5 : w.heap.size + 1 + 1 + 1 ≠ q7 := by omega
    have k6 : q7 ≠ w.heap.size + 1 + 1 + 1 := by omega
    have k7 : w.heap.size + 1 + 1 + 1 ≠ q := by omega
    have k8 : q ≠ w.heap.size + 1 + 1 + 1 := by omega
    have k9 : w.heap.size + 1 + 1 ≠ w.heap.size + 1 + 1 + 1 := by omega
    have k10 : w.heap.size + 1 + 1 + 1 ≠ w.heap.size + 1 + 1 := by omega
    have k11 : w.heap.size ≤ w.heap.size + 1 + 1 := by omega
    have k12 : w.heap.size ≤ w.heap.size + 1 + 1 + 1 := by omega
    have KK := Lib.hid (And.intro k11 (And.intro k12 k9))
    clear k11 k12
    generalize w.heap.size + 1 + 1 + 1 = r5 at *
    generalize w.heap.size + 1 + 1 = r4 at *
    clear lf lq
    go_region
    all_goals
    obtain ⟨e4, e5, eM, eB⟩ := lay_end G.out M.out KK.out.1 KK.out.2.1 KK.out.2.2 (.slice Ak X.length ck1) (.int .i64 n) (.int .i64 1) (.int .i64 0) (.int .i64 0) (.bool false) (.int .i64 0) (.int .i64 0)
    have E4 := Lib.hid e4
    have E5 := Lib.hid e5
    have EM := Lib.hid eM
    have EB := Lib.hid eB
    clear e4 e5 eM eB
    unfold set6 setTwo at E4 E5 EM EB
    generalize World.drew _ = W6 at *
    clear d0 d1 d2 d3 d4 d5 h0 h1 i0 i1 i2 i3 i4 i5 f0 f1 f2 f3 f4 f5 j0 j1 g0 g1
    go_wp2_with fail
    refine bodyPost_ret (results_cell_cell rfl _ _ r4 r5 26 34 #[.slice Ak X.length ck1, .int .i64 n] #[.int .i64 1, .int .i64 0, .int .i64 0, .bool false, .int .i64 0, .int .i64 0] (0, 0) (0, 0) _ _ rfl E4.out rfl E5.out Tryz.underlying26 rfl (by kernel_rfl) Tryz.underlying34 rfl (by kernel_rfl)) rfl ?_
    exact ⟨_, rfl, EM.out, EB.out⟩

set_option maxRecDepth 4000 in
set_option maxHeartbeats 8000000 in
theorem do_more (h : Holds w (.slice A X.length cc) X) (hl : X.length ≤ 10000) (r : Bool) (hr : decide (RightSc ⟨X, n⟩) = r) {ck : Int} (ht : r = true) (hk0 : ¬ ck < 0) (hk : 5 < ck) : Calls Tryz.prog 10 #[.agg #[.slice A X.length cc, .int .i64 n], .agg #[.int .i64 ck, .int .i64 ca, .int .i64 cn, .int .i64 cnw, .int .i64 ctw, .int .i64 cp, .int .i64 cf, .int .i64 cb, .int .i64 co]] w (GivesS w ⟨X, n⟩ (An.ev 1 0)) := by
  have G := Lib.hid (((((Bag.new w).add 26 #[.slice A X.length cc, .int .i64 n]).add 38 #[.int .i64 ck, .int .i64 ca, .int .i64 cn, .int .i64 cnw, .int .i64 ctw, .int .i64 cp, .int .i64 cf, .int .i64 cb, .int .i64 co]).add 26 #[.slice none 0 0, .int .i64 0]).add 34 #[.int .i64 0, .int .i64 0, .int .i64 0, .bool false, .int .i64 0, .int .i64 0])
  have KX := Lib.hid (h.still G.out.bel)
  have CC : Hid (∀ w' u, Holds w' u X → Calls Tryz.prog 18 #[u] w' fun e w'' => ∃ v', e = .returned v' ∧ Mine w'.heap.size w'' v' X ∧ Below w'.heap.size w' w'') := Lib.hid (fun w' u h => clone_c h hl)
  have CR : Hid (∀ w' u, Holds w' u X → Calls Tryz.prog 12 #[.agg #[u, .int .i64 n]] w' fun e w'' => e = .returned (.bool r) ∧ Below w'.heap.size w' w'') := Lib.hid (fun w' u h => by
    have := scRight_c (s := ⟨X, n⟩) h hl
    rw [hr] at this
    exact this)
  subst ht
  simp only [World.size_alloc] at G KX
  clear hr h
  go_enter Tryz.func10, Tryz.ntmps10
  go_upto_region 1 with (fail)
  generalize hw0 : World.alloc (World.alloc (World.alloc (World.alloc w _) _) _) _ = w0 at *
  clear hw0
  have LOW := Lib.hid G.out.low
  have SZ := Lib.hid G.out.bel.size
  have HC : Hid (∀ W, Below w0.heap.size w0 W → (W.cell? ⟨w.heap.size, 0, none⟩ = some (.slice A X.length cc) ∧ W.cell? ⟨w.heap.size, 1, none⟩ = some (.int .i64 n))) := Lib.hid (fun W h => row2c (G.out.still h).v3)
  have B0 : Hid (Below w0.heap.size w0 w0.drew) := Lib.hid (below_drew (Below.refl _ _))
  have BZ : Hid (Below w0.heap.size w0 (w0.alloc (.cells #[.slice none 0 0, .int .i64 0] 26)).drew) := Lib.hid (below_drew (below_new _ _))
  have GZ := Lib.hid (G.out.add 26 #[.slice none 0 0, .int .i64 0]).drew
  have HG := Lib.hid (fun W h => G.out.still (w' := W) h)
  have KZ : Hid (Holds (w0.alloc (.cells #[.slice none 0 0, .int .i64 0] 26)).drew (.slice A X.length cc) X) := Lib.hid (KX.out.still BZ.out)
  have K0 : Hid (Holds w0.drew (.slice A X.length cc) X) := Lib.hid (KX.out.still B0.out)
  clear G
  go_region_held3 (fun W => W.cell? ⟨w.heap.size, 0, none⟩ = some (.slice A X.length cc) ∧ W.cell? ⟨w.heap.size, 1, none⟩ = some (.int .i64 n))
    (first | with_reducible exact HC.out _ B0.out | with_reducible exact HC.out _ BZ.out | with_reducible exact HC.out _ BB.out | with_reducible exact HC.out _ (BB.out.alloc BB.out.size _) | exact HS.out _ _)
    (first
    | (go_at_call 18; with_reducible refine (CC.out _ _ KZ.out).mono ?_; rintro e wk ⟨vk, rfl, hm, hb⟩; obtain ⟨Ak, ck1, rfl⟩ := hm.is; have BB := Lib.hid (below_then BZ.out hb (Nat.le_refl _)); have GA := Lib.hid (GZ.out.still hb); have M := Lib.hid (hm.base (Nat.le_trans SZ.out (Nat.le_trans (BZ.out.size) (Nat.le_refl _)))); obtain ⟨d0, d1⟩ := row2c GA.out.v0; obtain ⟨f0, f1⟩ := row2f GA.out.v0; have GF := Lib.hid (GA.out.put2 SZ.out LOW.out (.slice Ak X.length ck1) (.int .i64 n)); have MF := Lib.hid (mine_two M.out GA.out.v0 (by decide) (.slice Ak X.length ck1) (.int .i64 n)); have HS : Hid (∀ x y, (fun W : World => W.cell? ⟨w.heap.size, 0, none⟩ = some (.slice A X.length cc) ∧ W.cell? ⟨w.heap.size, 1, none⟩ = some (.int .i64 n)) (setTwo wk w0.heap.size x y)) := Lib.hid (fun x y => row2c (GA.out.put2 SZ.out LOW.out x y).v4); have KF := Lib.hid (KX.out.still (BB.out.trans ((two_only wk w0.heap.size (.slice Ak X.length ck1) (.int .i64 n)).below (fun k hk => Nat.le_of_eq hk.symm) BB.out.size))); have LF : Hid (w.heap.size + 1 + 1 + 1 < w0.heap.size) := Lib.hid (LOW.out _ (List.mem_cons_self ..)); have TA : Hid True := Lib.hid trivial; clear hb hm CC KZ GZ BZ)
    | (go_at_call 18; with_reducible refine (CC.out _ _ K0.out).mono ?_; rintro e wk ⟨vk, rfl, hm, hb⟩; obtain ⟨Ak, ck1, rfl⟩ := hm.is; have BB := Lib.hid (below_then B0.out hb (Nat.le_refl _)); have GF := Lib.hid ((HG.out _ BB.out).add 26 #[.slice Ak X.length ck1, .int .i64 n]); have MF := Lib.hid ((hm.base SZ.out).still (below_new wk (.cells #[.slice Ak X.length ck1, .int .i64 n] 26))); have KF := Lib.hid (KX.out.still (BB.out.alloc BB.out.size (.cells #[.slice Ak X.length ck1, .int .i64 n] 26))); have LF : Hid (w.heap.size + 1 + 1 + 1 < wk.heap.size) := Lib.hid (Nat.lt_of_lt_of_le (LOW.out _ (List.mem_cons_self ..)) BB.out.size); have TB : Hid True := Lib.hid trivial; clear hb hm CC K0)
    | fail)
  all_goals
    clear HG HC KX BB LOW
    try clear HS GA M d0 d1 f0 f1
    try clear BZ GZ KZ
    try clear B0 K0
    try unfold setTwo at GF MF KF
    first | (have := TA; generalize World.setCell _ _ _ = W at *; generalize w0.heap.size = q at *; clear TA) | (have := TB; generalize World.alloc wk _ = W at *; generalize wk.heap.size = q at *; clear TB)
    have G := Lib.hid (GF.out.add 34 #[.int .i64 0, .int .i64 0, .int .i64 0, .bool false, .int .i64 0, .int .i64 0])
    have BN := Lib.hid (below_new W (.cells #[.int .i64 0, .int .i64 0, .int .i64 0, .bool false, .int .i64 0, .int .i64 0] 34))
    have M := Lib.hid (MF.out.still BN.out)
    have KX := Lib.hid (KF.out.still BN.out)
    have LQ := Lib.hid GF.out.v0.lt
    clear GF MF KF BN
    obtain ⟨c0, c1, c2, c3, c4, c5, c6, c7, c8⟩ := nine G.out.v4
    obtain ⟨b0, b1⟩ := row2c G.out.v5
    go_wp2_with fail
    refine (CR.out _ _ KX.out).mono ?_
    rintro e w2 ⟨rfl, hb⟩
    have G := Lib.hid (G.out.still hb)
    have M := Lib.hid (M.out.still hb)
    have KX := Lib.hid (KX.out.still hb)
    clear hb CR c0 c1 c2 c3 c4 c5 c6 c7 c8 b0 b1
    have LQ7 : Hid (q < W.heap.size) := LQ
    generalize W.heap.size = q7 at *
    obtain ⟨c0, c1, c2, c3, c4, c5, c6, c7, c8⟩ := nine G.out.v4
    obtain ⟨b0, b1⟩ := row2c G.out.v5
    obtain ⟨⟨d0, d1, d2, d3, d4, d5⟩, ⟨f0, f1, f2, f3, f4, f5⟩⟩ := six_of G.out.v0
    obtain ⟨h0, h1⟩ := row2c G.out.v1
    obtain ⟨g0, g1⟩ := row2f G.out.v1
    have hne : q ≠ q7 := Nat.ne_of_lt LQ7.out
    have hne' : q7 ≠ q := fun h => hne h.symm
    go_upto_region 20 with (fail)
    have HLOW : Hid (∀ x ∈ ([(q, 26, #[.slice Ak X.length ck1, .int .i64 n]), (w.heap.size + 1 + 1 + 1, 34, #[.int .i64 0, .int .i64 0, .int .i64 0, .bool false, .int .i64 0, .int .i64 0]), (w.heap.size + 1 + 1, 26, #[.slice none 0 0, .int .i64 0]), (w.heap.size + 1, 38, #[.int .i64 ck, .int .i64 ca, .int .i64 cn, .int .i64 cnw, .int .i64 ctw, .int .i64 cp, .int .i64 cf, .int .i64 cb, .int .i64 co]), (w.heap.size, 26, #[.slice A X.length cc, .int .i64 n])] : List (Nat × TypeId × Array Value)), x.1 < q7) := Lib.hid (fun x hx => by
      have := LF.out
      have := LQ7.out
      simp only [List.mem_cons, List.not_mem_nil, or_false] at hx
      rcases hx with rfl | rfl | rfl | rfl | rfl <;> simp only <;> omega)
    obtain ⟨GL, ML⟩ := lay_e G.out M.out HLOW.out (by have := LF.out; have := LQ7.out; omega) (.int .i64 1)
    have G := Lib.hid GL
    have M := Lib.hid ML
    clear GL ML d0 d1 d2 d3 d4 d5 f0 f1 f2 f3 f4 f5 h0 h1 g0 g1
    try unfold set6 at G M
    try unfold setTwo at G M
    generalize World.setCell _ _ _ = W5 at *
    obtain ⟨d0, d1, d2, d3, d4, d5⟩ := row6 G.out.v0
    obtain ⟨h0, h1⟩ := row2c G.out.v1
    obtain ⟨⟨i0, i1, i2, i3, i4, i5⟩, ⟨f0, f1, f2, f3, f4, f5⟩⟩ := six_of G.out.v2
    obtain ⟨j0, j1⟩ := row2c G.out.v3
    obtain ⟨g0, g1⟩ := row2f G.out.v3
    have lf := LF.out
    have lq := LQ7.out
    have k1 : w.heap.size + 1 + 1 ≠ q7 := by omega
    have k2 : q7 ≠ w.heap.size + 1 + 1 := by omega
    have k3 : w.heap.size + 1 + 1 ≠ q := by omega
    have k4 : q ≠ w.heap.size + 1 + 1 := by omega
    have k5 : w.heap.size + 1 + 1 + 1 ≠ q7 := by omega
    have k6 : q7 ≠ w.heap.size + 1 + 1 + 1 := by omega
    have k7 : w.heap.size + 1 + 1 + 1 ≠ q := by omega
    have k8 : q ≠ w.heap.size + 1 + 1 + 1 := by omega
    have k9 : w.heap.size + 1 + 1 ≠ w.heap.size + 1 + 1 + 1 := by omega
    have k10 : w.heap.size + 1 + 1 + 1 ≠ w.heap.size + 1 + 1 := by omega
    have k11 : w.heap.size ≤ w.heap.size + 1 + 1 := by omega
    have k12 : w.heap.size ≤ w.heap.size + 1 + 1 + 1 := by omega
    have KK := Lib.hid (And.intro k11 (And.intro k12 k9))
    clear k11 k12
    generalize w.heap.size + 1 + 1 + 1 = r5 at *
    generalize w.heap.size + 1 + 1 = r4 at *
    clear lf lq
    go_region
    all_goals
    obtain ⟨e4, e5, eM, eB⟩ := lay_end G.out M.out KK.out.1 KK.out.2.1 KK.out.2.2 (.slice Ak X.length ck1) (.int .i64 n) (.int .i64 1) (.int .i64 0) (.int .i64 0) (.bool false) (.int .i64 0) (.int .i64 0)
    have E4 := Lib.hid e4
    have E5 := Lib.hid e5
    have EM := Lib.hid eM
    have EB := Lib.hid eB
    clear e4 e5 eM eB
    unfold set6 setTwo at E4 E5 EM EB
    generalize World.drew _ = W6 at *
    clear d0 d1 d2 d3 d4 d5 h0 h1 i0 i1 i2 i3 i4 i5 f0 f1 f2 f3 f4 f5 j0 j1 g0 g1
    go_wp2_with fail
    refine bodyPost_ret (results_cell_cell rfl _ _ r4 r5 26 34 #[.slice Ak X.length ck1, .int .i64 n] #[.int .i64 1, .int .i64 0, .int .i64 0, .bool false, .int .i64 0, .int .i64 0] (0, 0) (0, 0) _ _ rfl E4.out rfl E5.out Tryz.underlying26 rfl (by kernel_rfl) Tryz.underlying34 rfl (by kernel_rfl)) rfl ?_
    exact ⟨_, rfl, EM.out, EB.out⟩

end
end Go.Proofs.YtholpgcghpikgaaGreat

/-
  Layer 14: what a call does, of whatever space: its contract in one.
-/
namespace Go.Proofs.YtholpgcghpikgaaGreat
open Go.ChangeShapes Go.WideShapes Go.ChangeAt Go.RowKit Go.Shelf
set_option linter.unusedVariables false

section
variable {w : World} {v : Value} {s : Sc}
theorem chR_no {c : Cl} (h : ¬ (RightSc s ∧ kindB c)) : chR s c = (s, An.ev 1 0) := by unfold chR; rw [if_neg h]
theorem chR_yes {c : Cl} (h : RightSc s ∧ kindB c) : chR s c = chG s c := by unfold chR; rw [if_pos h]
/-- A call, whatever the space is. -/
theorem do_c (h : Holds w v s.l) (hl : s.l.length ≤ 10000) (c : Cl) (ho : i64 c.o) : Calls Tryz.prog 10 #[scV v s, c.v] w (GivesS w (chR s c).1 (chR s c).2) := by
  obtain ⟨X, n⟩ := s
  obtain ⟨A, cc, rfl⟩ := h.is
  obtain ⟨ck, ca, cn, cnw, ctw, cp, cf, cb, co⟩ := c
  by_cases hr : RightSc ⟨X, n⟩
  · have hd := decide_eq_true hr
    by_cases h0 : ck < 0
    · rw [chR_no (fun k => absurd k.2.1 (by simp only; omega))]
      exact do_less h hl true hd rfl h0
    by_cases h5 : 5 < ck
    · rw [chR_no (fun k => absurd k.2.2 (by simp only; omega))]
      exact do_more h hl true hd rfl h0 h5
    rw [chR_yes ⟨hr, by unfold kindB; simp only; omega⟩]
    rcases (by omega : ck = 0 ∨ ck = 1 ∨ ck = 2 ∨ ck = 3 ∨ ck = 4 ∨ ck = 5) with rfl | rfl | rfl | rfl | rfl | rfl
    · exact do_map h hl true hd rfl fun w' u hu => map_c hu hl ⟨0, ca, cn, cnw, ctw, cp, cf, cb, co⟩ ho
    · exact do_unmap h hl true hd rfl fun w' u hu => unmap_c hu hl ⟨1, ca, cn, cnw, ctw, cp, cf, cb, co⟩
    · exact do_protect h hl true hd rfl fun w' u hu => protect_c hu hl ⟨2, ca, cn, cnw, ctw, cp, cf, cb, co⟩
    · exact do_remap h hl true hd rfl fun w' u hu => remap_c hu hl ⟨3, ca, cn, cnw, ctw, cp, cf, cb, co⟩
    · exact do_move h hl true hd rfl fun w' u hu => move_c hu hl n ⟨4, ca, cn, cnw, ctw, cp, cf, cb, co⟩
    · exact do_fault h hl true hd rfl fun w' u hu => fault_c hu hl ⟨5, ca, cn, cnw, ctw, cp, cf, cb, co⟩
  · rw [chR_no (fun k => hr k.1)]
    exact do_wrong h hl false (decide_eq_false hr) rfl
end
end Go.Proofs.YtholpgcghpikgaaGreat
