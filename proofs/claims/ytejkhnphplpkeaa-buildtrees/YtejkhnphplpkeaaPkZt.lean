/-
  Texts of our own, one behind the other (RbRow): what the laws' proofs rest on; each says at its head what it holds. No conditions.
-/
import Derived.Test.YtejkhnphplpkeaaPkZs
/-
  Layer 18: the reference's tree in memory: three rows that grow side by side.
-/
namespace Go.Proofs.Ytejkhnphplpkeaa
open Go.ChangeShapes Go.WideShapes Go.ChangeAt Go.RowKit
set_option linter.unusedVariables false

/-- A row of nodes. -/
def nsC (l : List Pd) : List Value := l.flatMap fun p => [.bool p.n.inner, .int .i64 p.n.lo, p.x, p.y, p.z]
theorem nsC_len (l : List Pd) : (nsC l).length = l.length * 5 := by
  induction l with
  | nil => rfl
  | cons e l ih => show (_ ++ nsC l).length = _; rw [List.length_append, ih, List.length_cons]; simp; omega
theorem nsC_app (l l' : List Pd) : nsC (l ++ l') = nsC l ++ nsC l' := by unfold nsC; rw [List.flatMap_append]
theorem nsC_at (l : List Pd) (i j : Nat) (hi : i < l.length) (hj : j < 5) : (nsC l)[i * 5 + j]? = (([.bool (pdAt l i).n.inner, .int .i64 (pdAt l i).n.lo, (pdAt l i).x, (pdAt l i).y, (pdAt l i).z] : List Value))[j]? := by
  induction l generalizing i with
  | nil => simp at hi
  | cons e l ih =>
    have ec : nsC (e :: l) = [.bool e.n.inner, .int .i64 e.n.lo, e.x, e.y, e.z] ++ nsC l := rfl
    match i with
    | 0 =>
      rw [ec, Nat.zero_mul, Nat.zero_add, List.getElem?_append_left (by simpa using hj)]
      rfl
    | i + 1 =>
      have := ih i (by simpa using hi)
      rw [ec, List.getElem?_append_right (by simp; omega), show (i + 1) * 5 + j - ([.bool e.n.inner, .int .i64 e.n.lo, e.x, e.y, e.z] : List Value).length = i * 5 + j by simp; omega, this]
      rfl
theorem snode_info : (Try.prog.info? 34).map (fun i => (i.zero, i.size, i.bytes)) = some (some (.agg #[.bool false, .int .i64 0, .slice none 0 0, .slice none 0 0, .slice none 0 0]), 5, 88) := by kernel_rfl
theorem snode_info' : ∃ i0, Try.prog.info? 34 = some i0 ∧ i0.zero = some (.agg #[.bool false, .int .i64 0, .slice none 0 0, .slice none 0 0, .slice none 0 0]) ∧ i0.size = 5 ∧ i0.bytes = 88 := by
  obtain ⟨i0, h1, h2⟩ := Option.map_eq_some_iff.1 snode_info
  simp only [Prod.mk.injEq] at h2
  exact ⟨i0, h1, h2.1, h2.2.1, h2.2.2⟩
/-- A node's slices lie apart from a row. -/
def Far (p : Pd) (v : Value) : Prop := ∀ k, (p.x.ownBlock = some k ∨ p.y.ownBlock = some k ∨ p.z.ownBlock = some k) → v.ownBlock ≠ some k
/-- Nodes, entries, numbers: while a round goes on. -/
structure InX (base : Nat) (w3 : World) (S : Nat → Prop) (ov : Value) (os : List Pd) (ps : List Pd) (uv : Value) (ul : List En) (mv : Value) (ml : List Int) (wr : World) : Prop where
  row : wr.ownsRow base 34 5 ov os.length (nsC os)
  nds : ∀ p ∈ ps, NdMine w3.heap.size wr p.n p.x p.y p.z
  mes : Mes w3.heap.size wr uv ul
  mw : Mw w3.heap.size wr mv ml
  far : ∀ p ∈ ps, Far p mv
  only : Only S w3 wr
  blk : ∀ k, ov.ownBlock = some k → S k ∨ w3.heap.size ≤ k
section
variable {base : Nat} {w3 wr W : World} {S : Nat → Prop} {ov uv mv : Value} {os ps : List Pd} {ul : List En} {ml : List Int}
theorem Only.then_below (h : Only S w3 wr) (hb : Below wr.heap.size wr W) : Only S w3 W := by
  have k := (Only.of_below hb S)
  exact h.trans k
theorem InX.still (h : InX base w3 S ov os ps uv ul mv ml wr) (hb : Below wr.heap.size wr W) : InX base w3 S ov os ps uv ul mv ml W :=
  ⟨own_still h.row hb, fun p hp => (h.nds p hp).still hb, h.mes.still hb, h.mw.still hb, h.far, h.only.then_below hb, h.blk⟩
theorem far_new {n : Nd} {x y z : Value} (h : NdMine wr.heap.size W n x y z) (hm : Mw base wr mv ml) {hh : Int} : Far ⟨hh, n, x, y, z⟩ mv := by
  intro k hk he
  have lt := (World.ownsRow.lt hm k he).2
  rcases hk with hk | hk | hk
  · have := (World.ownsRow.lt h.me k hk).1; omega
  · have := (World.ownsRow.lt h.ms k hk).1; omega
  · have := (World.ownsRow.lt h.mg k hk).1; omega
theorem InX.node {p : Pd} (h : InX base w3 S ov os ps uv ul mv ml wr) (hb : Below wr.heap.size wr W) (hn : NdMine wr.heap.size W p.n p.x p.y p.z) : InX base w3 S ov os (ps ++ [p]) uv ul mv ml W := by
  have k := h.still hb
  refine ⟨k.row, fun q hq => ?_, k.mes, k.mw, fun q hq => ?_, k.only, k.blk⟩
  · rcases List.mem_append.1 hq with hq | hq
    · exact k.nds q hq
    · have e : q = p := by simpa using hq
      subst e
      exact hn.base' h.only.size
  · rcases List.mem_append.1 hq with hq | hq
    · exact k.far q hq
    · have e : q = p := by simpa using hq
      subst e
      obtain ⟨qh, qn, qx, qy, qz⟩ := q
      exact far_new hn h.mw
theorem nd_grown {n : Nd} {x y z u : Value} {b b' m size : Nat} {t : TypeId} {xs : List Value} (h : NdMine b wr n x y z) (hr : wr.ownsRow b' t size u m xs) (ht : 2 ≠ t) (hg : wr.grownBy W u.ownBlock) : NdMine b W n x y z :=
  ⟨own_kept h.me hr hg ht, own_kept h.ms hr hg ht, own_kept h.mg hr hg ht, h.es, h.eg, h.sg⟩
theorem InX.up {A : Value} {e : En} (h : InX base w3 S ov os ps uv ul mv ml wr) (hg : wr.grownBy W uv.ownBlock) (hr : W.ownsRow w3.heap.size 44 3 A (ul.length + 1) (enCells ul ++ [.int .i64 e.lo, .int .i64 e.hi, .int .i64 e.h])) : InX base w3 S ov os ps A (ul ++ [e]) mv ml W := by
  refine ⟨own_kept h.row h.mes hg (by decide), fun p hp => nd_grown (h.nds p hp) h.mes (by decide) hg, ?_, own_kept h.mw h.mes hg (by decide), h.far, h.only.grown hg (fun k hk => .inr (World.ownsRow.lt h.mes k hk).1), h.blk⟩
  unfold Mes
  rw [List.length_append, enCells_app]
  exact hr
theorem InX.out {A : Option Addr} {c gg H : Nat} {p : Pd} (h : InX base w3 S ov os ps uv ul mv ml wr) (hg : wr.grownBy W ov.ownBlock) (hat : ov.ownBlock = some gg ∨ gg = H) (hH : w3.heap.size ≤ H) (hA : A = some ⟨gg, 0, none⟩) (hr : W.ownsRow base 34 5 (.slice A (os.length + 1) c) (os.length + 1) (nsC os ++ [.bool p.n.inner, .int .i64 p.n.lo, p.x, p.y, p.z])) : InX base w3 S (.slice A (os.length + 1) c) (os ++ [p]) ps uv ul mv ml W := by
  subst hA
  refine ⟨?_, fun p hp => nd_grown (h.nds p hp) h.row (by decide) hg, own_kept h.mes h.row hg (by decide), own_kept h.mw h.row hg (by decide), h.far, h.only.grown hg h.blk, fun k hk => ?_⟩
  · rw [List.length_append, nsC_app]
    exact hr
  · have e : gg = k := by simpa [Value.ownBlock] using hk
    subst e
    rcases hat with h1 | h1
    · exact h.blk _ h1
    · exact .inr (by omega)
theorem mw_far {b : Nat} {x : Value} {l : List Int} (h : Mw b wr x l) (hne : ∀ k, x.ownBlock = some k → mv.ownBlock ≠ some k) (hg : wr.grownBy W mv.ownBlock) : Mw b W x l := by
  refine World.ownsRow.kept h hg ?_
  cases hv : x.ownBlock with
  | none => exact .inl rfl
  | some k => exact .inr (fun he => hne k hv he.symm)
theorem InX.most {A : Option Addr} {c gg H : Nat} {x : Int} (h : InX base w3 S ov os ps uv ul mv ml wr) (hg : wr.grownBy W mv.ownBlock) (hat : mv.ownBlock = some gg ∨ gg = H) (hH : wr.heap.size ≤ H) (hA : A = some ⟨gg, 0, none⟩) (hr : W.ownsRow w3.heap.size 2 1 (.slice A (ml.length + 1) c) (ml.length + 1) (ml.map (Value.int .i64) ++ [.int .i64 x])) : InX base w3 S ov os ps uv ul (.slice A (ml.length + 1) c) (ml ++ [x]) W := by
  subst hA
  refine ⟨own_kept h.row h.mw hg (by decide), fun p hp => ?_, own_kept h.mes h.mw hg (by decide), ?_, fun p hp k hk he => ?_, h.only.grown hg (fun k hk => .inr (World.ownsRow.lt h.mw k hk).1), h.blk⟩
  · have n := h.nds p hp
    have f := h.far p hp
    exact ⟨mw_far n.me (fun k hk => f k (.inl hk)) hg, mw_far n.ms (fun k hk => f k (.inr (.inl hk))) hg, mw_far n.mg (fun k hk => f k (.inr (.inr hk))) hg, n.es, n.eg, n.sg⟩
  · unfold Mw
    rw [List.length_append, List.map_append]
    exact hr
  · have e : gg = k := by simpa [Value.ownBlock] using he
    subst e
    rcases hat with h1 | h1
    · exact h.far p hp _ hk h1
    · have n := h.nds p hp
      rcases hk with hk | hk | hk
      · have := (World.ownsRow.lt n.me _ hk).2; omega
      · have := (World.ownsRow.lt n.ms _ hk).2; omega
      · have := (World.ownsRow.lt n.mg _ hk).2; omega
end
end Go.Proofs.Ytejkhnphplpkeaa
