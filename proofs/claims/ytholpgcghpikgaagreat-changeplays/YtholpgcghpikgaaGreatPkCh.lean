/-
  Texts of our own, one behind the other (ChDid): what the laws' proofs rest on; each says at its head what it holds. No conditions.
-/
import Derived.Test.YtholpgcghpikgaaGreatPkCe
import Derived.Test.YtholpgcghpikgaaGreatPkCd
/-
  Layer 14: 'x, a := f(..)' where the order is drawn: two variables that are laid ahead of the call, or behind it.
-/
namespace Go.Proofs.YtholpgcghpikgaaGreat
open Go.ChangeShapes Go.WideShapes Go.ChangeAt Go.RowKit Go.Shelf
set_option linter.unusedVariables false

theorem below_al {w w' : World} {o : Obj} (h : Below w.heap.size w w') : Below w.heap.size w (w'.alloc o) := h.alloc h.size o
theorem below_st {B : Nat} {w w' : World} {q i : Nat} {u : Value} (h : Below B w w') (hq : B ≤ q) : Below B w (w'.setCell ⟨q, i, none⟩ u) := h.setCell (p := ⟨q, i, none⟩) hq u
theorem Whole.undrew {w : World} {b : Nat} {t : TypeId} {cs : Array Value} (h : Whole w.drew b t cs) : Whole w b t cs := h
/-- Two blocks that are laid one behind the other. -/
theorem two_new (w : World) (t t' : TypeId) (a b : Array Value) : Whole ((w.alloc (.cells a t)).alloc (.cells b t')).drew w.heap.size t a ∧ Whole ((w.alloc (.cells a t)).alloc (.cells b t')).drew (w.heap.size + 1) t' b := by
  refine ⟨((Whole.new w _ _).alloc _).drew, ?_⟩
  have := Whole.new (w.alloc (.cells a t)) t' b
  rw [World.size_alloc] at this
  exact this.drew
/-- Two variables are laid, and all else that was there is as it was. -/
structure Laid (t : TypeId) (wk W : World) (q6 q7 : Nat) (cs6 cs7 : Array Value) : Prop where
  v6 : Whole W q6 t cs6
  v7 : Whole W q7 34 cs7
  ne : q6 ≠ q7
  only : Only (fun k => k = q6 ∨ k = q7) wk W
  e6 : q6 < wk.heap.size → Whole wk q6 t #[.slice none 0 0, .int .i64 0]
  e7 : q7 < wk.heap.size → Whole wk q7 34 #[.int .i64 0, .int .i64 0, .int .i64 0, .bool false, .int .i64 0, .int .i64 0]
section
variable {t : TypeId} {wk : World} {x x' y0 y1 y2 y3 y4 y5 : Value}
theorem laid1 : Laid t wk ((wk.alloc (.cells #[x, x'] t)).alloc (.cells #[y0, y1, y2, y3, y4, y5] 34)) wk.heap.size (wk.heap.size + 1) #[x, x'] #[y0, y1, y2, y3, y4, y5] := by
  obtain ⟨h1, h2⟩ := two_new wk t 34 #[x, x'] #[y0, y1, y2, y3, y4, y5]
  exact ⟨h1, h2, by omega, ((Only.refl _ wk).alloc _).alloc _, fun h => absurd h (by omega), fun h => absurd h (by omega)⟩
theorem laid2 : Laid t wk ((wk.alloc (.cells #[y0, y1, y2, y3, y4, y5] 34)).alloc (.cells #[x, x'] t)) (wk.heap.size + 1) wk.heap.size #[x, x'] #[y0, y1, y2, y3, y4, y5] := by
  obtain ⟨h1, h2⟩ := two_new wk 34 t #[y0, y1, y2, y3, y4, y5] #[x, x']
  exact ⟨h2, h1, by omega, ((Only.refl _ wk).alloc _).alloc _, fun h => absurd h (by omega), fun h => absurd h (by omega)⟩
theorem laid4 {q p : Nat} (H6 : Whole wk q t #[.slice none 0 0, .int .i64 0]) (H7 : Whole wk p 34 #[.int .i64 0, .int .i64 0, .int .i64 0, .bool false, .int .i64 0, .int .i64 0]) (hne : q ≠ p) : Laid t wk (((((((((wk).setCell ⟨q, 0, none⟩ x).setCell ⟨q, 1, none⟩ x').setCell ⟨p, 0, none⟩ y0).setCell ⟨p, 1, none⟩ y1).setCell ⟨p, 2, none⟩ y2).setCell ⟨p, 3, none⟩ y3).setCell ⟨p, 4, none⟩ y4).setCell ⟨p, 5, none⟩ y5) q p #[x, x'] #[y0, y1, y2, y3, y4, y5] := by
  have o1 : Only (fun k => k = q) wk (setTwo wk q x x') := two_only wk q x x'
  have h6 : Whole (setTwo wk q x x') q t #[x, x'] := two_put H6 _ _
  have h7 : Whole (setTwo wk q x x') p 34 #[.int .i64 0, .int .i64 0, .int .i64 0, .bool false, .int .i64 0, .int .i64 0] := H7.only o1 (fun e => hne e.symm)
  have o2 := six_only (setTwo wk q x x') p y0 y1 y2 y3 y4 y5
  exact ⟨h6.only o2 hne, six_put h7 y0 y1 y2 y3 y4 y5, hne, (o1.mono (fun k _ h => .inl h)).trans (o2.mono (fun k _ h => .inr h)), fun _ => H6, fun _ => H7⟩
theorem laid3 {q : Nat} (H6 : Whole wk q t #[.slice none 0 0, .int .i64 0]) : Laid t wk (((((((((wk.alloc (.cells #[.int .i64 0, .int .i64 0, .int .i64 0, .bool false, .int .i64 0, .int .i64 0] 34)).setCell ⟨q, 0, none⟩ x).setCell ⟨q, 1, none⟩ x').setCell ⟨wk.heap.size, 0, none⟩ y0).setCell ⟨wk.heap.size, 1, none⟩ y1).setCell ⟨wk.heap.size, 2, none⟩ y2).setCell ⟨wk.heap.size, 3, none⟩ y3).setCell ⟨wk.heap.size, 4, none⟩ y4).setCell ⟨wk.heap.size, 5, none⟩ y5) q wk.heap.size #[x, x'] #[y0, y1, y2, y3, y4, y5] := by
  have hq := H6.lt
  have h := laid4 (x := x) (x' := x') (y0 := y0) (y1 := y1) (y2 := y2) (y3 := y3) (y4 := y4) (y5 := y5) (H6.alloc (.cells #[.int .i64 0, .int .i64 0, .int .i64 0, .bool false, .int .i64 0, .int .i64 0] 34)) (Whole.new wk 34 #[.int .i64 0, .int .i64 0, .int .i64 0, .bool false, .int .i64 0, .int .i64 0]) (Nat.ne_of_lt hq)
  exact ⟨h.v6, h.v7, h.ne, ((Only.refl _ wk).alloc _).trans (h.only.mono (fun k _ h => h)), fun _ => H6, fun h => absurd h (by omega)⟩
theorem laid5 {p : Nat} (H7 : Whole wk p 34 #[.int .i64 0, .int .i64 0, .int .i64 0, .bool false, .int .i64 0, .int .i64 0]) : Laid t wk (((((((wk.alloc (.cells #[x, x'] t)).setCell ⟨p, 0, none⟩ y0).setCell ⟨p, 1, none⟩ y1).setCell ⟨p, 2, none⟩ y2).setCell ⟨p, 3, none⟩ y3).setCell ⟨p, 4, none⟩ y4).setCell ⟨p, 5, none⟩ y5) wk.heap.size p #[x, x'] #[y0, y1, y2, y3, y4, y5] := by
  have hp := H7.lt
  have h7 : Whole (wk.alloc (.cells #[x, x'] t)) p 34 #[.int .i64 0, .int .i64 0, .int .i64 0, .bool false, .int .i64 0, .int .i64 0] := H7.alloc _
  have o2 := six_only (wk.alloc (.cells #[x, x'] t)) p y0 y1 y2 y3 y4 y5
  exact ⟨(Whole.new wk t #[x, x']).only o2 (by show ¬ wk.heap.size = p; omega), six_put h7 y0 y1 y2 y3 y4 y5, by omega, ((Only.refl _ wk).alloc _).trans (o2.mono (fun k _ h => .inr h)), fun h => absurd h (by omega), fun _ => H7⟩
end
section
variable {t : TypeId} {wk W w w0 : World} {q6 q7 : Nat} {cs6 cs7 : Array Value}
theorem Laid.below {B : Nat} (h : Laid t wk W q6 q7 cs6 cs7) (hb : Below B w0 wk) (h6 : B ≤ q6) (h7 : B ≤ q7) (hB : B ≤ wk.heap.size) : Below B w0 W :=
  hb.trans (h.only.below (fun k hk => by rcases hk with rfl | rfl <;> assumption) hB)
theorem Laid.mine {B : Nat} {v : Value} {Y : List Ar} (h : Laid t wk W q6 q7 cs6 cs7) (M : Mine B wk v Y) (ht : 52 ≠ t) : Mine B W v Y :=
  M.only h.only (fun k hk hs => by
    have hlt := (M.lt k hk).2
    rcases hs with rfl | rfl
    · exact own_apart M (h.e6 hlt) ht hk
    · exact own_apart M (h.e7 hlt) (by decide) hk)
theorem Holds.apart2 {S : Nat → Prop} {v : Value} {Y : List Ar} (h : Holds w v Y) (ho : Only S w w0) (hS : ∀ q, S q → q < w.heap.size → ∀ off (a : Ar), AreaAt w q off a → Formed a → False) (hY : RightL Y) : Holds w0 v Y := by
  obtain ⟨A, c, rfl, hc, hA⟩ := h
  refine ⟨A, c, rfl, hc, ?_⟩
  rcases hA with h0 | ⟨b, off, rfl, hb, hcs⟩
  · exact .inl h0
  · by_cases hn : Y = []
    · exact .inl hn
    · have hne : ¬ S b := fun e => by
        have hl : 0 < Y.length := by
          cases Y with
          | nil => exact absurd rfl hn
          | cons a l => simp
        exact hS b e hb _ _ (hcs 0 hl) (right_formed hY _ (List.getElem_mem hl))
      refine .inr ⟨b, off, rfl, Nat.lt_of_lt_of_le hb ho.size, fun j hj => ?_⟩
      have k := hcs j hj
      have e : ∀ i, w0.cell? ⟨b, i, none⟩ = w.cell? ⟨b, i, none⟩ := fun i => ho.cell (p := ⟨b, i, none⟩) hb hne
      exact ⟨(e _).trans k.c0, (e _).trans k.c1, (e _).trans k.c2, (e _).trans k.c3, (e _).trans k.c4, (e _).trans k.c5⟩
theorem Laid.holds {v : Value} {Y : List Ar} (h : Laid t wk W q6 q7 cs6 cs7) (M : Holds wk v Y) (hY : RightL Y) : Holds W v Y :=
  M.apart2 h.only (fun k hk hlt => by
    rcases hk with rfl | rfl
    · exact not_two (h.e6 hlt)
    · exact not_six (h.e7 hlt) (by omega)) hY
/-- The two variables, among those that were there. -/
structure DidAt (t : TypeId) (w0 wx : World) (qx qa : Nat) (cs6 cs7 : Array Value) : Prop where
  bel : Below w0.heap.size w0 wx
  hx : w0.heap.size ≤ qx
  ha : w0.heap.size ≤ qa
  vx : Whole wx qx t cs6
  va : Whole wx qa 34 cs7
theorem Laid.did (h : Laid t wk W q6 q7 cs6 cs7) (hb : Below w0.heap.size w0 wk) (h6 : w0.heap.size ≤ q6) (h7 : w0.heap.size ≤ q7) : DidAt t w0 W q6 q7 cs6 cs7 :=
  ⟨h.below hb h6 h7 hb.size, h6, h7, h.v6, h.v7⟩
theorem Bag.did {l : List (Nat × TypeId × Array Value)} (h : Bag w w0 l) (d : DidAt t w0 W q6 q7 cs6 cs7) : Bag w W ((q7, 34, cs7) :: (q6, t, cs6) :: l) := by
  have hs := h.still d.bel
  refine ⟨fun x hx => ?_, hs.bel⟩
  rcases List.mem_cons.1 hx with rfl | hx
  · exact d.va
  rcases List.mem_cons.1 hx with rfl | hx
  · exact d.vx
  · exact hs.all x hx
end
end Go.Proofs.YtholpgcghpikgaaGreat
