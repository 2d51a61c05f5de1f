/-
  Layer 6: what an area's page has, parts and joins: a contract for each call.
-/
import Derived.Test.YtmppodobgkhojaaArea
import Derived.Deep.RegionWith
import Derived.Deep.CutBlock
import Derived.Laws.ResultCell
namespace Go.Proofs.Ytmppodobgkhojaa
open Go.ChangeShapes Go.WideShapes Go.ChangeAt Go.RowKit
set_option linter.unusedVariables false

theorem ArIn.fr {w : World} {q : Nat} {a : Ar} (h : ArIn w q a) (i : Nat) : w.frozen? ⟨q, i, none⟩ = false := Whole.frozen h i
def At.cells (a : At) : Array Value := #[.int .i64 a.p, .bool a.sh, .int .i64 a.bk, .int .i64 a.off]

/-- Two variables of a call: what it was handed, and what it will answer. -/
structure Two (w w' : World) (q : Nat) (a : Ar) (t : TypeId) (cs : Array Value) : Prop where
  var : ArIn w' q a
  res : Whole w' (q + 1) t cs
  bel : Below q w w'
theorem Two.new (w : World) (a : Ar) (t : TypeId) (cs : Array Value) : Two w ((w.alloc (.cells a.cells 35)).alloc (.cells cs t)) w.heap.size a t cs :=
  ⟨(ArIn.new w a).alloc _, by have := Whole.new (w.alloc (.cells a.cells 35)) t cs; simpa using this, below_new2 _ _ _⟩
section
variable {w w' w'' : World} {q : Nat} {a : Ar} {t : TypeId} {cs : Array Value}
theorem Two.lt (h : Two w w' q a t cs) : q + 1 < w'.heap.size := h.res.lt
theorem Two.still (h : Two w w' q a t cs) (hb : Below w'.heap.size w' w'') : Two w w'' q a t cs :=
  ⟨h.var.still hb (by have := h.lt; omega), h.res.below hb h.lt, h.bel.trans (hb.mono (by have := h.lt; omega))⟩
theorem Two.drew (h : Two w w' q a t cs) : Two w w'.drew q a t cs := ⟨h.var, h.res, below_drew h.bel⟩
theorem Two.put (h : Two w w' q a t cs) (b : Ar) : Two w ((((((w'.setCell ⟨q, 0, none⟩ (.int .i64 b.s)).setCell ⟨q, 1, none⟩ (.int .i64 b.e)).setCell ⟨q, 2, none⟩ (.int .i64 b.p)).setCell ⟨q, 3, none⟩ (.bool b.sh)).setCell ⟨q, 4, none⟩ (.int .i64 b.bk)).setCell ⟨q, 5, none⟩ (.int .i64 b.off)) q b t cs := by
  refine ⟨?_, ?_, ?_⟩
  · exact (((((Whole.put h.var 0 _).put 1 _).put 2 _).put 3 _).put 4 _).put 5 _
  · refine Whole.far (Whole.far (Whole.far (Whole.far (Whole.far (Whole.far h.res ?_ _) ?_ _) ?_ _) ?_ _) ?_ _) ?_ _
    all_goals simp
  · exact (((((h.bel.setCell (Nat.le_refl _) _).setCell (Nat.le_refl _) _).setCell (Nat.le_refl _) _).setCell (Nat.le_refl _) _).setCell (Nat.le_refl _) _).setCell (Nat.le_refl _) _
end

/-- A struct through its cell, and one thing more. -/
theorem results_row_tmp {P : Program} {fn : Func} {p u : Tmp} {ty : TypeId} (h : fn.results = #[.cell p ty, .tmp u]) (tmps : Array Value) (w : World) (g : Nat) (t : TypeId) (cs : Array Value) (fr : Nat × Nat) (d : TypeDesc)
    (hp : tmps.getD p undef = .pointer (some ⟨g, 0, none⟩)) (hg : w.heap[g]? = some (.cells cs t fr))
    (hu : P.underlying ty = some d) (hd : (match d with | .struct _ | .array _ _ => true | _ => false) = true) (hi : (P.info? ty).map (·.size) = some cs.size) :
    (results fn tmps).run P w = .ok (.tuple #[.agg cs, tmps.getD u undef]) w := by
  rw [results_cell_tmp h, hp]
  simp [asAddr, Result.andThen, run_loadVar_row w g t ty cs fr d hg hu hd hi]
theorem at_put {w : World} {q : Nat} {t : TypeId} {a b c d : Value} (h : Whole w q t #[a, b, c, d]) (x y z u : Value) :
    Whole ((((w.setCell ⟨q, 0, none⟩ x).setCell ⟨q, 1, none⟩ y).setCell ⟨q, 2, none⟩ z).setCell ⟨q, 3, none⟩ u) q t #[x, y, z, u] :=
  (((Whole.put h 0 _).put 1 _).put 2 _).put 3 _
theorem at_cs {w : World} {q : Nat} {t : TypeId} {a b c d : Value} (h : Whole w q t #[a, b, c, d]) : w.cell? ⟨q, 0, none⟩ = some a ∧ w.cell? ⟨q, 1, none⟩ = some b ∧ w.cell? ⟨q, 2, none⟩ = some c ∧ w.cell? ⟨q, 3, none⟩ = some d ∧
    w.frozen? ⟨q, 0, none⟩ = false ∧ w.frozen? ⟨q, 1, none⟩ = false ∧ w.frozen? ⟨q, 2, none⟩ = false ∧ w.frozen? ⟨q, 3, none⟩ = false :=
  ⟨h.cell 0, h.cell 1, h.cell 2, h.cell 3, h.frozen 0, h.frozen 1, h.frozen 2, h.frozen 3⟩

end Go.Proofs.Ytmppodobgkhojaa
