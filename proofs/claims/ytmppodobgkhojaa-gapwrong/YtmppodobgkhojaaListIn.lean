/-
  Layer 7: what lies in a range, and what stays: a contract for each call.
-/
import Derived.Test.YtmppodobgkhojaaListGo
namespace Go.Proofs.Ytmppodobgkhojaa
open Go.ChangeShapes Go.WideShapes Go.ChangeAt Go.RowKit Go.Shelf
set_option linter.unusedVariables false
attribute [local go_sem] Oper.semAt_some

/-- A loop that gathers: its variables, and the list that it has so far, in the variable q. -/
structure Going (w W : World) (q : Nat) (bs : List (Nat × TypeId × Array Value)) (out : List Ar) : Prop where
  bag : Bag w W bs
  out : ∃ v, Whole W q 22 #[v] ∧ Mine w.heap.size W v out
  new : w.heap.size ≤ q
  kinds : ∀ x ∈ bs, x.2.1 ≠ 35 ∧ x.1 ≠ q

theorem whole_grown {W W' : World} {row : Option Nat} {b : Nat} {t : TypeId} {cs : Array Value} (h : Whole W b t cs) (hg : W.grownBy W' row) (hr : ∀ r, row = some r → ∃ o : Obj, W.heap[r]? = some o ∧ o.isCells = false) : Whole W' b t cs :=
  h.grown hg (fun e' => by obtain ⟨o, ho, hc⟩ := hr b e'.symm; rw [show W.heap[b]? = _ from h] at ho; cases ho; cases hc)
theorem mine_grown {B : Nat} {W W' : World} {row : Option Nat} {v : Value} {l : List Ar} (h : Mine B W v l) (hg : W.grownBy W' row) (hr : ∀ r, row = some r → ∃ o : Obj, W.heap[r]? = some o ∧ o.isCells = false) : Mine B W' v l := by
  refine World.ownsRow.kept h hg ?_
  rcases h.2 with ⟨rfl, _⟩ | ⟨g, cap, cur, rfl, _, hgb, _⟩
  · exact .inl rfl
  · refine .inr fun e' => ?_
    obtain ⟨o, ho, hc⟩ := hr g (by simpa [Value.ownBlock] using e'.symm)
    rw [hgb] at ho; cases ho; cases hc
theorem going_own {β : Type} {B : Nat} {w : World} {q : Nat} {bs : List (Nat × TypeId × Array Value)} (f : β → List Ar) (hB : w.heap.size ≤ B) : OwnFrom B (fun s W => Going w W q bs (f s)) := by
  rintro s X Y row ⟨⟨hb, hbel⟩, ⟨v, hv, hm⟩, hq, hk⟩ hg hr
  have hr' : ∀ r, row = some r → ∃ o : Obj, X.heap[r]? = some o ∧ o.isCells = false := fun r e => (hr r e).2
  exact ⟨⟨fun x hx => whole_grown (hb x hx) hg hr', hbel.grown hg hbel.size (fun k e => Nat.le_trans hB (hr k e).1)⟩, ⟨v, whole_grown hv hg hr', mine_grown hm hg hr'⟩, hq, hk⟩
/-- The variable of a round: it isn't the list's own memory. -/
def RoundVar (q : Nat) (W : World) (Bx : Nat) (x : Ar) : Prop := ArIn W Bx x ∧ ∃ v, Whole W q 22 #[v] ∧ v.ownBlock ≠ some Bx
theorem round_own {q : Nat} {X Y : World} {row : Option Nat} {Bx : Nat} {x : Ar} (h : RoundVar q X Bx x) (hg : X.grownBy Y row) (hr : ∀ r, row = some r → ∃ o : Obj, X.heap[r]? = some o ∧ o.isCells = false) : RoundVar q Y Bx x :=
  ⟨whole_grown h.1 hg hr, by obtain ⟨v, h1, h2⟩ := h.2; exact ⟨v, whole_grown h1 hg hr, h2⟩⟩
theorem whole_eq {W : World} {q : Nat} {t : TypeId} {v v' : Value} (h : Whole W q t #[v]) (h' : Whole W q t #[v']) : v = v' := by
  unfold Whole at h h'; rw [h] at h'; injection h' with h'; injection h' with h1; simpa using h1
section
variable {w W W1 : World} {q : Nat} {bs : List (Nat × TypeId × Array Value)} {out out' : List Ar} {v v' : Value}
theorem Going.alloc (h : Going w W q bs out) (o : Obj) : Going w (W.alloc o) q bs out := by
  obtain ⟨⟨hb, hbel⟩, ⟨v, hv, hm⟩, hq, hk⟩ := h
  exact ⟨⟨fun x hx => (hb x hx).alloc o, hbel.alloc hbel.size _⟩, ⟨v, hv.alloc o, World.ownsRow.alloc hm o⟩, hq, hk⟩
theorem Going.still (h : Going w W q bs out) (hb : Below W.heap.size W W1) : Going w W1 q bs out := by
  obtain ⟨hbag, ⟨v, hv, hm⟩, hq, hk⟩ := h
  exact ⟨hbag.still hb, ⟨v, hv.below hb hv.lt, hm.still hb⟩, hq, hk⟩
theorem Going.var (h : Going w W q bs out) (x : Ar) : RoundVar q (W.alloc (.cells x.cells 35)) W.heap.size x := by
  obtain ⟨_, ⟨v, hv, hm⟩, _, _⟩ := h
  refine ⟨Whole.new _ _ _, v, hv.alloc _, fun e => ?_⟩
  have := (hm.lt _ e).2
  omega
/-- What is left alone when the list turned. -/
theorem Going.apart (h : Going w W q bs out) (hv : Whole W q 22 #[v]) (ho : Only (fun k => v.ownBlock = some k) W W1) : Whole W1 q 22 #[v] ∧ (∀ x ∈ bs, Whole W1 x.1 x.2.1 x.2.2) ∧ Below w.heap.size W W1 ∧ KeepsOthers W W1 := by
  obtain ⟨⟨hb, hbel⟩, ⟨v2, hv2, hm⟩, hq, hk⟩ := h
  obtain rfl := whole_eq hv hv2
  refine ⟨hv.only ho (own_apart hm hv (by decide)), fun x hx => (hb x hx).only ho (own_apart hm (hb x hx) (Ne.symm (hk x hx).1)), ho.below (fun k hk => (hm.lt k hk).1) hbel.size, ⟨ho.size, fun k o hk hc => ?_⟩⟩
  refine (ho.block k (Array.getElem?_eq_some_iff.1 hk).1 (fun e => ?_)).trans hk
  rcases hm.2 with ⟨rfl, _⟩ | ⟨g, cap, cur, rfl, _, hgb, _⟩
  · simp [Value.ownBlock] at e
  · obtain rfl : g = k := by simpa [Value.ownBlock] using e
    rw [hgb] at hk; cases hk; cases hc
/-- The list is stored back. -/
theorem Going.put (h : Going w W q bs out) (hv : Whole W q 22 #[v]) (ho : Only (fun k => v.ownBlock = some k) W W1) (hm : Mine w.heap.size W1 v' out') :
    Going w (W1.setCell ⟨q, 0, none⟩ v') q bs out' ∧ KeepsOthers W (W1.setCell ⟨q, 0, none⟩ v') ∧ Below w.heap.size W (W1.setCell ⟨q, 0, none⟩ v') := by
  obtain ⟨h1, h2, h3, h4⟩ := h.apart hv ho
  refine ⟨⟨⟨fun x hx => (h2 x hx).far (h.kinds x hx).2 _, (h.bag.bel.trans h3).setCell (p := ⟨q, 0, none⟩) h.new _⟩, ⟨v', h1.put 0 v', own_far hm (own_apart hm h1 (by decide)) _⟩, h.new, h.kinds⟩, h4.trans (KeepsOthers.setCell _ _ _), h3.setCell (p := ⟨q, 0, none⟩) h.new _⟩
end

theorem inside_len (lo hi : Int) (l : List Ar) : (insideL lo hi l).length ≤ l.length := by
  induction l with
  | nil => simp [insideL]
  | cons a l ih =>
    have h1 : insideL lo hi (a :: l) = partL a lo hi ++ insideL lo hi l := by simp [insideL]
    have h2 : (partL a lo hi).length ≤ 1 := by unfold partL; split <;> simp
    rw [h1, List.length_append, List.length_cons]; omega

end Go.Proofs.Ytmppodobgkhojaa
