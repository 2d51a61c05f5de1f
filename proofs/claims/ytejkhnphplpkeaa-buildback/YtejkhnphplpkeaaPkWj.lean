/-
  Texts of our own, one behind the other (SlInc): what the laws' proofs rest on; each says at its head what it holds. No conditions.
-/
import Derived.Test.YtejkhnphplpkeaaPkWi
/-
  Layer 15: a node whose three rows are written, and what stays beside it.
-/
namespace Go.Proofs.Ytejkhnphplpkeaa
open Go.ChangeShapes Go.WideShapes Go.ChangeAt Go.RowKit
set_option linter.unusedVariables false

/-- A block of one of three rows. -/
def OneOf (x y z : Value) (q : Nat) : Prop := x.ownBlock = some q ∨ y.ownBlock = some q ∨ z.ownBlock = some q
/-- Three rows that have been written, and no more. -/
structure Inc (w5 wr : World) (B : Nat) (K : Nat) (x y z : Value) (E S G : List Int) : Prop where
  le : E.length = K
  ls : S.length = K
  lg : G.length = K
  me : Mw B wr x E
  ms : Mw B wr y S
  mg : Mw B wr z G
  only : Only (OneOf x y z) w5 wr
theorem own_set {B g K c : Nat} {w : World} {l : List Int} (h : Mw B w (.slice (some ⟨g, 0, none⟩) K c) l) (hK : l.length = K) (k : Nat) (a : Int) : Mw B (w.setCell ⟨g, k, none⟩ (.int .i64 a)) (.slice (some ⟨g, 0, none⟩) K c) (l.set k a) := by
  subst hK
  have := (World.ownsRow.stored h k (.int .i64 a)).1
  unfold Mw
  rw [List.length_set, List.map_set]
  exact this
theorem own_cell {B g K c : Nat} {w : World} {l : List Int} (h : Mw B w (.slice (some ⟨g, 0, none⟩) K c) l) (hK : l.length = K) (k : Nat) (hk : k < K) : w.cell? ⟨g, k, none⟩ = some (.int .i64 (nth l k)) ∧ w.frozen? ⟨g, k, none⟩ = false := by
  subst hK
  exact ⟨own_int h k hk, World.ownsRow.frozenAt h k⟩
theorem Inc.start {w5 : World} {B : Nat} {n : Nd} {x y z : Value} (m : NdMine B w5 n x y z) (hc : n.Counted) : Inc w5 w5 B n.ends.length x y z n.ends n.slots n.gaps := ⟨rfl, hc.sl, hc.gl, m.me, m.ms, m.mg, Only.refl _ _⟩
theorem Inc.put {w5 wr : World} {B K g1 g2 g3 c1 c2 c3 : Nat} {E S G : List Int} (h : Inc w5 wr B K (.slice (some ⟨g1, 0, none⟩) K c1) (.slice (some ⟨g2, 0, none⟩) K c2) (.slice (some ⟨g3, 0, none⟩) K c3) E S G) (h12 : g1 ≠ g2) (h13 : g1 ≠ g3) (h23 : g2 ≠ g3) (k : Nat) (a b c : Int) :
    Inc w5 (((wr.setCell ⟨g1, k, none⟩ (.int .i64 a)).setCell ⟨g2, k, none⟩ (.int .i64 b)).setCell ⟨g3, k, none⟩ (.int .i64 c)) B K (.slice (some ⟨g1, 0, none⟩) K c1) (.slice (some ⟨g2, 0, none⟩) K c2) (.slice (some ⟨g3, 0, none⟩) K c3) (E.set k a) (S.set k b) (G.set k c) := by
  refine ⟨by rw [List.length_set]; exact h.le, by rw [List.length_set]; exact h.ls, by rw [List.length_set]; exact h.lg, ?_, ?_, ?_, ?_⟩
  · exact own_far (p := ⟨g3, k, none⟩) (own_far (p := ⟨g2, k, none⟩) (own_set h.me h.le k a) (by simp [Value.ownBlock, h12]) _) (by simp [Value.ownBlock, h13]) _
  · exact own_far (p := ⟨g3, k, none⟩) (own_set (own_far (p := ⟨g1, k, none⟩) h.ms (by simp [Value.ownBlock]; omega) _) h.ls k b) (by simp [Value.ownBlock, h23]) _
  · exact own_set (own_far (p := ⟨g2, k, none⟩) (own_far (p := ⟨g1, k, none⟩) h.mg (by simp [Value.ownBlock]; omega) _) (by simp [Value.ownBlock]; omega) _) h.lg k c
  · exact ((h.only.setCell (p := ⟨g1, k, none⟩) (.inl (.inl rfl)) _).setCell (p := ⟨g2, k, none⟩) (.inl (.inr (.inl rfl))) _).setCell (p := ⟨g3, k, none⟩) (.inl (.inr (.inr rfl))) _
section
variable {w5 wr w : World} {B : Nat} {n : Nd} {x y z : Value}
theorem NdMine.lts (m : NdMine B w5 n x y z) : ∀ q, OneOf x y z q → B ≤ q ∧ q < w5.heap.size := fun q h => by
  rcases h with h | h | h
  · exact World.ownsRow.lt m.me q h
  · exact World.ownsRow.lt m.ms q h
  · exact World.ownsRow.lt m.mg q h
theorem NdMine.not (m : NdMine B w5 n x y z) {q : Nat} {t : TypeId} {cs : Array Value} (h : Whole w5 q t cs) (ht : 2 ≠ t) : ¬ OneOf x y z q := fun o => by
  rcases o with o | o | o
  · exact own_apart m.me h ht o
  · exact own_apart m.ms h ht o
  · exact own_apart m.mg h ht o
theorem bag_inc {l : List (Nat × TypeId × Array Value)} (G : Bag w w5 l) (m : NdMine B w5 n x y z) (ho : Only (OneOf x y z) w5 wr) (hB : w.heap.size ≤ B) (ht : ∀ e ∈ l, 2 ≠ e.2.1) : Bag w wr l :=
  G.only ho (fun e he => m.not (G.all e he) (ht e he)) (fun k hk => Nat.le_trans hB (m.lts k hk).1)
theorem NdMine.beside {C : Nat} {n' : Nd} {x' y' z' : Value} (m : NdMine C w5 n' x' y' z') (ho : Only (OneOf x y z) w5 wr) (hlt : ∀ q, OneOf x y z q → q < C) : NdMine C wr n' x' y' z' :=
  ⟨m.me.only ho (fun k hk o => by have := hlt k o; have := (World.ownsRow.lt m.me k hk).1; omega), m.ms.only ho (fun k hk o => by have := hlt k o; have := (World.ownsRow.lt m.ms k hk).1; omega),
    m.mg.only ho (fun k hk o => by have := hlt k o; have := (World.ownsRow.lt m.mg k hk).1; omega), m.es, m.eg, m.sg⟩
/-- Its three blocks. -/
theorem NdMine.blocks (m : NdMine B w5 n x y z) (hc : n.Counted) : ∃ g1 g2 g3 c1 c2 c3, x = .slice (some ⟨g1, 0, none⟩) n.ends.length c1 ∧ y = .slice (some ⟨g2, 0, none⟩) n.ends.length c2 ∧ z = .slice (some ⟨g3, 0, none⟩) n.ends.length c3 ∧ g1 ≠ g2 ∧ g1 ≠ g3 ∧ g2 ≠ g3 := by
  have h1 := hc.one
  obtain ⟨g1, c1, rfl, _, _⟩ := m.me.form (by omega)
  obtain ⟨g2, c2, rfl, _, _⟩ := m.ms.form (by have := hc.sl; omega)
  obtain ⟨g3, c3, rfl, _, _⟩ := m.mg.form (by have := hc.gl; omega)
  refine ⟨g1, g2, g3, c1, c2, c3, rfl, by rw [hc.sl], by rw [hc.gl], fun e => ?_, fun e => ?_, fun e => ?_⟩
  · exact m.es g1 rfl (by rw [e]; rfl)
  · exact m.eg g1 rfl (by rw [e]; rfl)
  · exact m.sg g2 rfl (by rw [e]; rfl)
end
/-- Variables beside a row of numbers that is written. -/
theorem bag_row {w W : World} {l : List (Nat × TypeId × Array Value)} {base g K c : Nat} {xs : List Int} (G : Bag w W l) (m : Mw base W (.slice (some ⟨g, 0, none⟩) K c) xs) (hB : w.heap.size ≤ base) (ht : ∀ e ∈ l, 2 ≠ e.2.1) (i : Nat) (u : Value) : Bag w (W.setCell ⟨g, i, none⟩ u) l :=
  G.only (S := fun k => k = g) ((Only.refl (fun k => k = g) W).setCell (p := ⟨g, i, none⟩) (.inl rfl) u) (fun e he hq => own_apart m (G.all e he) (ht e he) (by rw [hq]; rfl)) (fun k hk => by rw [hk]; exact Nat.le_trans hB (World.ownsRow.lt m g rfl).1)
theorem fits_set {l : List Int} (h : Fits l) (i : Nat) {v : Int} (h0 : -9223372036854775808 ≤ v) (h1 : v ≤ 9223372036854775807) : Fits (l.set i v) := by
  intro j hj
  rw [List.length_set] at hj
  rw [nth_set _ _ _ _ hj]
  by_cases e : j = i
  · rw [if_pos e]; exact ⟨h0, h1⟩
  · rw [if_neg e]; exact h j hj
theorem form28 {base : Nat} {w : World} {v : Value} {l : List Int} (h : Mw base w v l) (hl : l.length = 28) : ∃ g c, v = .slice (some ⟨g, 0, none⟩) 28 c ∧ base ≤ g ∧ g < w.heap.size := by
  obtain ⟨g, c, rfl, h1, h2⟩ := h.form (by omega)
  exact ⟨g, c, by rw [hl], h1, h2⟩
theorem set_other {l : List Int} {i : Nat} {v : Int} (hi : i < l.length) (h : nth l i ≠ v) : l.set i v ≠ l := fun e => h (by
  have := nth_set l i i v hi
  rw [if_pos rfl, e] at this
  exact this)
end Go.Proofs.Ytejkhnphplpkeaa
