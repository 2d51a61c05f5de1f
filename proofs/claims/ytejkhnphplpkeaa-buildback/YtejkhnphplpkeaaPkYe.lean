/-
  Texts of our own, one behind the other (SeekRefN): what the laws' proofs rest on; each says at its head what it holds. No conditions.
-/
import Derived.Test.YtejkhnphplpkeaaPkYc
import Derived.Test.YtejkhnphplpkeaaPkWe
import Derived.Deep.AppendLies
import Derived.Deep.RegionLaw
/-
  Layer 16: the reference's node of words.
-/
namespace Go.Proofs.Ytejkhnphplpkeaa
open Go.ChangeShapes Go.WideShapes Go.ChangeAt Go.RowKit
set_option linter.unusedVariables false

theorem int64_info' : ∃ i0, Try.prog.info? 2 = some i0 ∧ i0.zero = some (.int .i64 0) ∧ i0.size = 1 ∧ i0.bytes = 8 := by
  obtain ⟨i0, h1, h2⟩ := Option.map_eq_some_iff.1 int_info
  simp only [Prod.mk.injEq] at h2
  exact ⟨i0, h1, h2.1, h2.2.1, h2.2.2⟩
/-- A node that is being built. -/
structure Bld (w wr : World) (q0 q6 : Nat) (n : Nd) (e s g : Value) : Prop where
  node : Whole wr q6 34 #[.bool n.inner, .int .i64 n.lo, e, s, g]
  res : Whole wr q0 34 nilC
  mine : NdMine w.heap.size wr n e s g
  bel : Below w.heap.size w wr
section
variable {w wr w1 : World} {q0 q6 : Nat} {n : Nd} {e s g : Value}
theorem Bld.still (h : Bld w wr q0 q6 n e s g) (hb : Below wr.heap.size wr w1) : Bld w w1 q0 q6 n e s g := ⟨h.node.below hb h.node.lt, h.res.below hb h.res.lt, h.mine.still hb, below_then h.bel hb (Nat.le_refl _)⟩
theorem kept_row {base : Nat} {o : Obj} {v u : Value} {l : List Int} (h : Mw base w v l) (hg : (w.alloc o).grownBy w1 u.ownBlock) (hne : ∀ k, v.ownBlock = some k → u.ownBlock ≠ some k) : Mw base w1 v l := by
  have h2 : Mw base (w.alloc o) v l := World.ownsRow.alloc h o
  refine World.ownsRow.kept h2 hg ?_
  cases hv : v.ownBlock with
  | none => exact .inl rfl
  | some k => exact .inr (fun he => hne k hv he.symm)
theorem new_row {base : Nat} {v u : Value} {l l' : List Int} {gg cap : Nat} (h : Mw base w v l) (hu : ∀ k, v.ownBlock = some k → u.ownBlock ≠ some k) (hat : u.ownBlock = some gg ∨ gg = w.heap.size + 1) : ∀ k, v.ownBlock = some k → (Value.slice (some ⟨gg, 0, none⟩) l'.length cap).ownBlock ≠ some k := by
  intro k hk he
  have e : gg = k := by simpa [Value.ownBlock] using he
  subst e
  rcases hat with h1 | h1
  · exact hu _ hk h1
  · have := (World.ownsRow.lt h _ hk).2
    omega
theorem far_row {base : Nat} {v u : Value} {l : List Int} {cs : Array Value} {i : Nat} (h : Mw base w v l) (hq : Whole w q6 34 cs) : Mw base (w.setCell ⟨q6, i, none⟩ u) v l := own_far (p := ⟨q6, i, none⟩) h (own_apart h hq (by decide)) u
theorem built_row {o : Obj} {cs : Array Value} {t : TypeId} {k base : Nat} {v : Value} {l : List Int} (hw : Whole w k t cs) (m : Mw base w v l) (ht : 2 ≠ t) (hg : (w.alloc o).grownBy w1 v.ownBlock) : Whole w1 k t cs :=
  (hw.alloc o).grown hg (fun he => own_apart m hw ht he.symm)

theorem Bld.ends {o : Obj} {x : Int} {gg cap : Nat} (h : Bld w wr q0 q6 n e s g) (hne : q0 ≠ q6) (hq6 : w.heap.size ≤ q6) (hg : (wr.alloc o).grownBy w1 e.ownBlock) (hr : w1.ownsRow w.heap.size 2 1 (.slice (some ⟨gg, 0, none⟩) (n.ends ++ [x]).length cap) (n.ends ++ [x]).length ((n.ends ++ [x]).map (Value.int .i64))) (hat : e.ownBlock = some gg ∨ gg = wr.heap.size + 1) :
    Bld w (w1.setCell ⟨q6, 2, none⟩ (.slice (some ⟨gg, 0, none⟩) (n.ends ++ [x]).length cap)) q0 q6 { n with ends := n.ends ++ [x] } (.slice (some ⟨gg, 0, none⟩) (n.ends ++ [x]).length cap) s g := by
  have hn := built_row h.node h.mine.me (by decide) hg
  have h0 := built_row h.res h.mine.me (by decide) hg
  have hb : Below w.heap.size w w1 := (h.bel.alloc h.bel.size o).grown hg (Nat.le_trans h.bel.size (by simp)) h.mine.me.blk
  refine ⟨hn.put 2 _, h0.far (p := ⟨q6, 2, none⟩) hne _, ⟨far_row hr hn, far_row (kept_row h.mine.ms hg (fun k h1 h2 => h.mine.es k h2 h1)) hn, far_row (kept_row h.mine.mg hg (fun k h1 h2 => h.mine.eg k h2 h1)) hn, (fun k h1 h2 => new_row (l' := n.ends ++ [x]) (cap := cap) h.mine.ms (fun k h1 h2 => h.mine.es k h2 h1) hat k h2 h1), (fun k h1 h2 => new_row (l' := n.ends ++ [x]) (cap := cap) h.mine.mg (fun k h1 h2 => h.mine.eg k h2 h1) hat k h2 h1), h.mine.sg⟩, hb.setCell (p := ⟨q6, 2, none⟩) hq6 _⟩
theorem Bld.ends_at {o : Obj} (h : Bld w wr q0 q6 n e s g) (hg : (wr.alloc o).grownBy w1 e.ownBlock) : w1.cell? ⟨q6, 2, none⟩ = some e ∧ w1.frozen? ⟨q6, 2, none⟩ = false := by
  have hn := built_row h.node h.mine.me (by decide) hg
  exact ⟨hn.cell 2, hn.frozen 2⟩
theorem Bld.slots {o : Obj} {x : Int} {gg cap : Nat} (h : Bld w wr q0 q6 n e s g) (hne : q0 ≠ q6) (hq6 : w.heap.size ≤ q6) (hg : (wr.alloc o).grownBy w1 s.ownBlock) (hr : w1.ownsRow w.heap.size 2 1 (.slice (some ⟨gg, 0, none⟩) (n.slots ++ [x]).length cap) (n.slots ++ [x]).length ((n.slots ++ [x]).map (Value.int .i64))) (hat : s.ownBlock = some gg ∨ gg = wr.heap.size + 1) :
    Bld w (w1.setCell ⟨q6, 3, none⟩ (.slice (some ⟨gg, 0, none⟩) (n.slots ++ [x]).length cap)) q0 q6 { n with slots := n.slots ++ [x] } e (.slice (some ⟨gg, 0, none⟩) (n.slots ++ [x]).length cap) g := by
  have hn := built_row h.node h.mine.ms (by decide) hg
  have h0 := built_row h.res h.mine.ms (by decide) hg
  have hb : Below w.heap.size w w1 := (h.bel.alloc h.bel.size o).grown hg (Nat.le_trans h.bel.size (by simp)) h.mine.ms.blk
  refine ⟨hn.put 3 _, h0.far (p := ⟨q6, 3, none⟩) hne _, ⟨far_row (kept_row h.mine.me hg h.mine.es) hn, far_row hr hn, far_row (kept_row h.mine.mg hg (fun k h1 h2 => h.mine.sg k h2 h1)) hn, (new_row h.mine.me h.mine.es hat), h.mine.eg, (fun k h1 h2 => new_row (l' := n.slots ++ [x]) (cap := cap) h.mine.mg (fun k h1 h2 => h.mine.sg k h2 h1) hat k h2 h1)⟩, hb.setCell (p := ⟨q6, 3, none⟩) hq6 _⟩
theorem Bld.slots_at {o : Obj} (h : Bld w wr q0 q6 n e s g) (hg : (wr.alloc o).grownBy w1 s.ownBlock) : w1.cell? ⟨q6, 3, none⟩ = some s ∧ w1.frozen? ⟨q6, 3, none⟩ = false := by
  have hn := built_row h.node h.mine.ms (by decide) hg
  exact ⟨hn.cell 3, hn.frozen 3⟩
theorem Bld.gaps {o : Obj} {x : Int} {gg cap : Nat} (h : Bld w wr q0 q6 n e s g) (hne : q0 ≠ q6) (hq6 : w.heap.size ≤ q6) (hg : (wr.alloc o).grownBy w1 g.ownBlock) (hr : w1.ownsRow w.heap.size 2 1 (.slice (some ⟨gg, 0, none⟩) (n.gaps ++ [x]).length cap) (n.gaps ++ [x]).length ((n.gaps ++ [x]).map (Value.int .i64))) (hat : g.ownBlock = some gg ∨ gg = wr.heap.size + 1) :
    Bld w (w1.setCell ⟨q6, 4, none⟩ (.slice (some ⟨gg, 0, none⟩) (n.gaps ++ [x]).length cap)) q0 q6 { n with gaps := n.gaps ++ [x] } e s (.slice (some ⟨gg, 0, none⟩) (n.gaps ++ [x]).length cap) := by
  have hn := built_row h.node h.mine.mg (by decide) hg
  have h0 := built_row h.res h.mine.mg (by decide) hg
  have hb : Below w.heap.size w w1 := (h.bel.alloc h.bel.size o).grown hg (Nat.le_trans h.bel.size (by simp)) h.mine.mg.blk
  refine ⟨hn.put 4 _, h0.far (p := ⟨q6, 4, none⟩) hne _, ⟨far_row (kept_row h.mine.me hg h.mine.eg) hn, far_row (kept_row h.mine.ms hg h.mine.sg) hn, far_row hr hn, h.mine.es, (new_row h.mine.me h.mine.eg hat), (new_row h.mine.ms h.mine.sg hat)⟩, hb.setCell (p := ⟨q6, 4, none⟩) hq6 _⟩
theorem Bld.gaps_at {o : Obj} (h : Bld w wr q0 q6 n e s g) (hg : (wr.alloc o).grownBy w1 g.ownBlock) : w1.cell? ⟨q6, 4, none⟩ = some g ∧ w1.frozen? ⟨q6, 4, none⟩ = false := by
  have hn := built_row h.node h.mine.mg (by decide) hg
  exact ⟨hn.cell 4, hn.frozen 4⟩

/-- What comes of words. -/
def NodeWPost (base : Nat) (w' : World) (e : Ending) (r : Option Nd × Nat) : Prop :=
  match r.1 with
  | none => e = .returned (.tuple #[nilN, .bool false, .int .i64 (r.2 : Int)])
  | some n => ∃ x y z, e = .returned (.tuple #[n.val x y z, .bool true, .int .i64 (r.2 : Int)]) ∧ NdMine base w' n x y z
/-- The first entries. -/
def upTo (n : Nd) (i : Nat) : Nd := ⟨n.inner, n.lo, n.ends.take i, n.slots.take i, n.gaps.take i⟩
theorem take_one {l : List Int} {i : Nat} (h : i < l.length) : l.take (i + 1) = l.take i ++ [nth l i] := by
  rw [List.take_add_one, List.getElem?_eq_getElem h]
  unfold nth
  rw [List.getD_eq_getElem?_getD, List.getElem?_eq_getElem h]
  rfl
theorem upTo_all {n : Nd} (h : n.Counted) : upTo n n.ends.length = n := by
  obtain ⟨a, b, c, d, e⟩ := n
  have h1 := h.sl
  have h2 := h.gl
  simp only at h1 h2
  unfold upTo
  simp only [List.take_length]
  rw [← h1, List.take_length, h1, ← h2, List.take_length]
end

end Go.Proofs.Ytejkhnphplpkeaa
