/-
  Variables of a call, each in a block of its own, that a call which only tells leaves alone.
-/
import Derived.Test.YtmppodobgkhojaaOwn
namespace Go.Proofs.Ytmppodobgkhojaa
open Go.RowKit

/-- From w on, all that has turned is new; and these variables hold what they hold. -/
structure Bag (w wr : World) (l : List (Nat × TypeId × Array Value)) : Prop where
  all : ∀ x ∈ l, Whole wr x.1 x.2.1 x.2.2
  bel : Below w.heap.size w wr
section
variable {w wr w' : World} {l : List (Nat × TypeId × Array Value)}
theorem Bag.new (w : World) : Bag w w [] := ⟨(fun _ h => by cases h), Below.refl _ _⟩
theorem Bag.add (h : Bag w wr l) (t : TypeId) (cs : Array Value) : Bag w (wr.alloc (.cells cs t)) ((wr.heap.size, t, cs) :: l) := by
  refine ⟨fun x hx => ?_, h.bel.alloc h.bel.size _⟩
  rcases List.mem_cons.1 hx with rfl | hx
  · exact Whole.new _ _ _
  · exact (h.all x hx).alloc _
theorem Bag.two (w : World) (t t' : TypeId) (cs cs' : Array Value) : Bag w ((w.alloc (.cells cs t)).alloc (.cells cs' t')) [(w.heap.size + 1, t', cs'), (w.heap.size, t, cs)] := by
  have h := ((Bag.new w).add t cs).add t' cs'
  simpa using h
theorem Bag.still (h : Bag w wr l) (hb : Below wr.heap.size wr w') : Bag w w' l :=
  ⟨fun x hx => (h.all x hx).below hb (h.all x hx).lt, h.bel.trans (hb.mono h.bel.size)⟩
theorem Bag.drew (h : Bag w wr l) : Bag w wr.drew l := ⟨fun x hx => h.all x hx, below_drew h.bel⟩
theorem Bag.drewN (h : Bag w wr l) (n : Nat) : Bag w (wr.drewN n) l := ⟨fun x hx => h.all x hx, below_drewN h.bel n⟩
/-! The variables, from the last one that was laid. -/
theorem Bag.v0 {q : Nat} {t : TypeId} {cs : Array Value} (h : Bag w wr ((q, t, cs) :: l)) : Whole wr q t cs := h.all (q, t, cs) (by simp)
theorem Bag.v1 {x0 : Nat × TypeId × Array Value} {q : Nat} {t : TypeId} {cs : Array Value} (h : Bag w wr (x0 :: (q, t, cs) :: l)) : Whole wr q t cs := h.all (q, t, cs) (by simp)
theorem Bag.v2 {x0 : Nat × TypeId × Array Value} {x1 : Nat × TypeId × Array Value} {q : Nat} {t : TypeId} {cs : Array Value} (h : Bag w wr (x0 :: x1 :: (q, t, cs) :: l)) : Whole wr q t cs := h.all (q, t, cs) (by simp)
theorem Bag.v3 {x0 : Nat × TypeId × Array Value} {x1 : Nat × TypeId × Array Value} {x2 : Nat × TypeId × Array Value} {q : Nat} {t : TypeId} {cs : Array Value} (h : Bag w wr (x0 :: x1 :: x2 :: (q, t, cs) :: l)) : Whole wr q t cs := h.all (q, t, cs) (by simp)
theorem Bag.v4 {x0 : Nat × TypeId × Array Value} {x1 : Nat × TypeId × Array Value} {x2 : Nat × TypeId × Array Value} {x3 : Nat × TypeId × Array Value} {q : Nat} {t : TypeId} {cs : Array Value} (h : Bag w wr (x0 :: x1 :: x2 :: x3 :: (q, t, cs) :: l)) : Whole wr q t cs := h.all (q, t, cs) (by simp)
theorem Bag.v5 {x0 : Nat × TypeId × Array Value} {x1 : Nat × TypeId × Array Value} {x2 : Nat × TypeId × Array Value} {x3 : Nat × TypeId × Array Value} {x4 : Nat × TypeId × Array Value} {q : Nat} {t : TypeId} {cs : Array Value} (h : Bag w wr (x0 :: x1 :: x2 :: x3 :: x4 :: (q, t, cs) :: l)) : Whole wr q t cs := h.all (q, t, cs) (by simp)
theorem Bag.v6 {x0 : Nat × TypeId × Array Value} {x1 : Nat × TypeId × Array Value} {x2 : Nat × TypeId × Array Value} {x3 : Nat × TypeId × Array Value} {x4 : Nat × TypeId × Array Value} {x5 : Nat × TypeId × Array Value} {q : Nat} {t : TypeId} {cs : Array Value} (h : Bag w wr (x0 :: x1 :: x2 :: x3 :: x4 :: x5 :: (q, t, cs) :: l)) : Whole wr q t cs := h.all (q, t, cs) (by simp)
theorem Bag.v7 {x0 : Nat × TypeId × Array Value} {x1 : Nat × TypeId × Array Value} {x2 : Nat × TypeId × Array Value} {x3 : Nat × TypeId × Array Value} {x4 : Nat × TypeId × Array Value} {x5 : Nat × TypeId × Array Value} {x6 : Nat × TypeId × Array Value} {q : Nat} {t : TypeId} {cs : Array Value} (h : Bag w wr (x0 :: x1 :: x2 :: x3 :: x4 :: x5 :: x6 :: (q, t, cs) :: l)) : Whole wr q t cs := h.all (q, t, cs) (by simp)
theorem Bag.tail {x : Nat × TypeId × Array Value} (h : Bag w wr (x :: l)) : Bag w wr l := ⟨fun y hy => h.all y (List.mem_cons_of_mem _ hy), h.bel⟩
theorem Bag.only (h : Bag w wr l) {S : Nat → Prop} (ho : Only S wr w') (hS : ∀ x ∈ l, ¬ S x.1) (hn : ∀ k, S k → w.heap.size ≤ k) : Bag w w' l :=
  ⟨fun x hx => (h.all x hx).only ho (hS x hx), h.bel.trans (ho.below hn h.bel.size)⟩
end
theorem row4 {w : World} {q : Nat} {t : TypeId} {a b c d : Value} (h : Whole w q t #[a, b, c, d]) : w.cell? ⟨q, 0, none⟩ = some a ∧ w.cell? ⟨q, 1, none⟩ = some b ∧ w.cell? ⟨q, 2, none⟩ = some c ∧ w.cell? ⟨q, 3, none⟩ = some d :=
  ⟨h.cell 0, h.cell 1, h.cell 2, h.cell 3⟩
theorem row6 {w : World} {q : Nat} {t : TypeId} {a b c d e f : Value} (h : Whole w q t #[a, b, c, d, e, f]) : w.cell? ⟨q, 0, none⟩ = some a ∧ w.cell? ⟨q, 1, none⟩ = some b ∧ w.cell? ⟨q, 2, none⟩ = some c ∧ w.cell? ⟨q, 3, none⟩ = some d ∧ w.cell? ⟨q, 4, none⟩ = some e ∧ w.cell? ⟨q, 5, none⟩ = some f :=
  ⟨h.cell 0, h.cell 1, h.cell 2, h.cell 3, h.cell 4, h.cell 5⟩
end Go.Proofs.Ytmppodobgkhojaa
