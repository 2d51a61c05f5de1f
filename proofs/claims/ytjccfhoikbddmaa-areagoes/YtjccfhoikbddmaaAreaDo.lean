/-
  Layer 6: what an area's page has, parts and joins: a contract for each call.
-/
import Derived.Test.YtjccfhoikbddmaaArea
import Derived.Deep.RegionWith
import Derived.Deep.CutBlock
import Derived.Laws.ResultCell
namespace Go.Proofs.Ytjccfhoikbddmaa
open Go.ChangeShapes Go.WideShapes Go.ChangeAt Go.RowKit
set_option linter.unusedVariables false

theorem ArIn.fr {w : World} {q : Nat} {a : Ar} (h : ArIn w q a) (i : Nat) : w.frozen? ⟨q, i, none⟩ = false := Whole.frozen h i
def At.cells (a : At) : Array Value := #[.int .i64 a.p, .bool a.sh, .int .i64 a.bk, .int .i64 a.off]

/-- Two variables of a call: what it was handed, and what it will answer. -/
structure Two (w w' : World) (q : Nat) (a : Ar) (t : TypeId) (cs : Array Value) : Prop where
  var : ArIn w' q a
  res : Whole w' (q + 1) t cs
  bel : Below q w w'
theorem Two.new (w : World) (a : Ar) (t : TypeId) (cs : Array Value) : Two w ((w.alloc (.cells a.cells 23)).alloc (.cells cs t)) w.heap.size a t cs :=
  ⟨(ArIn.new w a).alloc _, by have := Whole.new (w.alloc (.cells a.cells 23)) t cs; simpa using this, below_new2 _ _ _⟩
section
variable {w w' w'' : World} {q : Nat} {a : Ar} {t : TypeId} {cs : Array Value}
theorem Two.lt (h : Two w w' q a t cs) : q + 1 < w'.heap.size := h.res.lt
theorem Two.still (h : Two w w' q a t cs) (hb : Below w'.heap.size w' w'') : Two w w'' q a t cs :=
  ⟨h.var.still hb (by have := h.lt; omega), h.res.below hb h.lt, h.bel.trans (hb.mono (by have := h.lt; omega))⟩
theorem Two.drew (h : Two w w' q a t cs) : Two w w'.drew q a t cs := ⟨h.var, h.res, below_drew h.bel⟩
theorem Two.put (h : Two w w' q a t cs) (b : Ar) : Two w ((((((w'.setCell ⟨q, 0, none⟩ (.int .i64 b.s)).setCell ⟨q, 1, none⟩ (.int .i64 b.e)).setCell ⟨q, 2, none⟩ (.int .i64 b.p)).setCell ⟨q, 3, none⟩ (.bool b.sh)).setCell ⟨q, 4, none⟩ (.int .i64 b.bk)).setCell ⟨q, 5, none⟩ (.int .i64 b.off)) q b t cs := by
  refine ⟨?_, ?_, ?_⟩
  · exact (((((Whole.put h.var 0 _).put 1 _).put 2 _).put 3 _).put 4 _).put 5 _
  · refine Whole.far (Whole.far (Whole.far (Whole.far (Whole.far (Whole.far h.res ?_ _) ?_ _) ?_ _) ?_ _) ?_ _) ?_ _
    all_goals simp
  · exact (((((h.bel.setCell (Nat.le_refl _) _).setCell (Nat.le_refl _) _).setCell (Nat.le_refl _) _).setCell (Nat.le_refl _) _).setCell (Nat.le_refl _) _).setCell (Nat.le_refl _) _
end

/-- A struct through its cell, and one thing more. -/
theorem results_row_tmp {P : Program} {fn : Func} {p u : Tmp} {ty : TypeId} (h : fn.results = #[.cell p ty, .tmp u]) (tmps : Array Value) (w : World) (g : Nat) (t : TypeId) (cs : Array Value) (fr : Nat × Nat) (d : TypeDesc)
    (hp : tmps.getD p undef = .pointer (some ⟨g, 0, none⟩)) (hg : w.heap[g]? = some (.cells cs t fr))
    (hu : P.underlying ty = some d) (hd : (match d with | .struct _ | .array _ _ => true | _ => false) = true) (hi : (P.info? ty).map (·.size) = some cs.size) :
    (results fn tmps).run P w = .ok (.tuple #[.agg cs, tmps.getD u undef]) w := by
  rw [results_cell_tmp h, hp]
  simp [asAddr, Result.andThen, run_loadVar_row w g t ty cs fr d hg hu hd hi]
theorem at_put {w : World} {q : Nat} {t : TypeId} {a b c d : Value} (h : Whole w q t #[a, b, c, d]) (x y z u : Value) :
    Whole ((((w.setCell ⟨q, 0, none⟩ x).setCell ⟨q, 1, none⟩ y).setCell ⟨q, 2, none⟩ z).setCell ⟨q, 3, none⟩ u) q t #[x, y, z, u] :=
  (((Whole.put h 0 _).put 1 _).put 2 _).put 3 _
theorem at_cs {w : World} {q : Nat} {t : TypeId} {a b c d : Value} (h : Whole w q t #[a, b, c, d]) : w.cell? ⟨q, 0, none⟩ = some a ∧ w.cell? ⟨q, 1, none⟩ = some b ∧ w.cell? ⟨q, 2, none⟩ = some c ∧ w.cell? ⟨q, 3, none⟩ = some d ∧
    w.frozen? ⟨q, 0, none⟩ = false ∧ w.frozen? ⟨q, 1, none⟩ = false ∧ w.frozen? ⟨q, 2, none⟩ = false ∧ w.frozen? ⟨q, 3, none⟩ = false :=
  ⟨h.cell 0, h.cell 1, h.cell 2, h.cell 3, h.frozen 0, h.frozen 1, h.frozen 2, h.frozen 3⟩

set_option maxHeartbeats 1000000 in
theorem attr_any (a : Ar) (x : Int) : Says 11 #[a.v, .int .i64 x] (if HasA a x then .tuple #[(a.attr x).v, .bool true] else .tuple #[At.nil.v, .bool false]) := by
  intro w
  have A0 := Lib.hid (Two.new w a 32 At.nil.cells)
  have X := Lib.hid (has_any a x)
  by_cases hp : HasA a x
  · rw [if_pos hp]
    rw [show decide (HasA a x) = true from decide_eq_true hp] at X
    have h1 := hp.formed.off0
    have h2 := hp.formed.placed.lo
    have h3 := hp.formed.placed.hi
    have h4 := hp.lo
    have h5 := hp.hi
    have D := Lib.hid (down_any x (by omega) (by omega))
    have F := Lib.hid (from_any a (x - x % 4096) (by omega) (by omega) (by omega) (by omega) (by omega) (by omega))
    clear hp h1 h2 h3 h4 h5
    generalize hF : a.from (x - x % 4096) = f at *
    have HF := Lib.hid hF
    clear hF
    obtain ⟨s, t, p, sh, bk, off⟩ := a
    obtain ⟨s', t', p', sh', bk', off'⟩ := f
    unfold Ar.v at *
    go_enter Try.func11, Try.ntmps11
    go_upto_region 1 with (fail)
    unfold Ar.cells At.nil At.cells at A0
    simp only at A0
    generalize (w.alloc _).alloc _ = w0 at *
    generalize hq : w.heap.size = q at *
    have HQ := Lib.hid hq
    clear hq
    obtain ⟨c0, c1, c2, c3, c4, c5⟩ := A0.out.var.cs
    go_wp2_with fail
    refine (X.out _).mono ?_
    rintro e w1 ⟨rfl, hb1⟩
    have A1 := Lib.hid (A0.out.still hb1)
    clear c0 c1 c2 c3 c4 c5 hb1 A0
    obtain ⟨c0, c1, c2, c3, c4, c5⟩ := A1.out.var.cs
    go_wp2_with fail
    have A1' := Lib.hid A1.out.drew
    go_region_with (first
      | (go_at_call 22; refine (D.out _).mono ?_; rintro e w' ⟨rfl, rfl⟩)
      | (go_at_call 21; refine (F.out _).mono ?_; rintro e w2 ⟨rfl, hb2⟩; have A2 := Lib.hid (A1'.out.still hb2); obtain ⟨d0, d1, d2, d3, d4, d5⟩ := A2.out.var.cs; have f0 := A2.out.var.fr 0; have f1 := A2.out.var.fr 1; have f2 := A2.out.var.fr 2; have f3 := A2.out.var.fr 3; have f4 := A2.out.var.fr 4; have f5 := A2.out.var.fr 5))
    all_goals
      have A3 := Lib.hid (A2.out.put ⟨s', t', p', sh', bk', off'⟩)
      simp only at A3
      clear c0 c1 c2 c3 c4 c5 d0 d1 d2 d3 d4 d5 f0 f1 f2 f3 f4 f5 A2 A1 A1' hb2
      generalize World.setCell _ _ _ = w3 at *
      obtain ⟨c0, c1, c2, c3, c4, c5⟩ := A3.out.var.cs
      obtain ⟨d0, d1, d2, d3, f0, f1, f2, f3⟩ := at_cs A3.out.res
      go_wp2_with fail
      refine bodyPost_ret (results_row_tmp rfl _ _ (q + 1) 32 _ (0, 0) _ rfl (at_put A3.out.res _ _ _ _) Try.underlying32 rfl (by kernel_rfl)) rfl ?_
      have hf := HF.out
      simp only [Ar.from, Ar.mk.injEq] at hf
      obtain ⟨-, -, rfl, rfl, rfl, hf⟩ := hf
      refine ⟨?_, ?_⟩
      · simp only [Ar.attr, Ar.from, At.v, pg, hf]
        rfl
      · rw [HQ.out]
        exact (((A3.out.bel.setCell (by simp) _).setCell (by simp) _).setCell (by simp) _).setCell (by simp) _
  · rw [if_neg hp]
    rw [show decide (HasA a x) = false from decide_eq_false hp] at X
    clear hp
    obtain ⟨s, t, p, sh, bk, off⟩ := a
    unfold Ar.v At.v At.nil at *
    go_enter Try.func11, Try.ntmps11
    go_upto_region 1 with (fail)
    unfold Ar.cells At.cells at A0
    simp only at A0
    generalize (w.alloc _).alloc _ = w0 at *
    generalize hq : w.heap.size = q at *
    have HQ := Lib.hid hq
    clear hq
    obtain ⟨c0, c1, c2, c3, c4, c5⟩ := A0.out.var.cs
    go_wp2_with fail
    refine (X.out _).mono ?_
    rintro e w1 ⟨rfl, hb1⟩
    have A1 := Lib.hid (A0.out.still hb1)
    clear c0 c1 c2 c3 c4 c5 hb1 A0
    obtain ⟨d0, d1, d2, d3, f0, f1, f2, f3⟩ := at_cs A1.out.res
    go_wp2_with fail
    refine bodyPost_ret (results_row_tmp rfl _ _ (q + 1) 32 _ (0, 0) _ rfl (at_put A1.out.res _ _ _ _) Try.underlying32 rfl (by kernel_rfl)) rfl ?_
    refine ⟨rfl, ?_⟩
    rw [HQ.out]
    exact (((A1.out.bel.setCell (by simp) _).setCell (by simp) _).setCell (by simp) _).setCell (by simp) _
end Go.Proofs.Ytjccfhoikbddmaa
