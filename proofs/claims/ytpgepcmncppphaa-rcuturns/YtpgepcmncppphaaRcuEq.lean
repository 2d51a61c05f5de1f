/-
  Layer 4: two boards are the same; and regions whose callees lay blocks of their own.
-/
import Derived.Test.YtpgepcmncppphaaRcuTurnsMake
import Derived.ChangeKeysEq
import Derived.Laws.StructEq
namespace Go.Proofs.Ytpgepcmncppphaa
open Go.ChangeShapes Go.WideShapes Go.ChangeAt Go.RowKit
set_option linter.unusedVariables false

theorem part_num (xs : Array Value) (i : Nat) (v : Int) (w : World) (h : xs[i]? = some (.int .i64 v)) : (Go.part 2 xs i).run Try.prog w = .ok (.int .i64 v) w := by
  simp [Go.part, isAgg, run_underlying Try.underlying2, h]
theorem items_same (d : Nat) (xs : Array Value) (w : World) (is : List Nat) (h : ∀ i ∈ is, ∃ v, xs[i]? = some (.int .i64 v)) : (Op.eqItems (d + 1) 2 1 xs xs is).run Try.prog w = .ok true w := by
  induction is with
  | nil => simp [Op.eqItems]
  | cons i is ih =>
    obtain ⟨v, hv⟩ := h i (by simp)
    have hp : (Go.part 2 xs (i * 1)).run Try.prog w = .ok (.int .i64 v) w := by rw [Nat.mul_one]; exact part_num xs i v w hv
    simp only [Op.eqItems, Sem.run_bind, hp, Result.andThen_ok, run_equalIn_int w d 2 .i64 .i64 v v Try.underlying2, beq_self_eq_true, Bool.not_true, Bool.false_eq_true, if_false]
    exact ih (fun j hj => h j (by simp [hj]))
theorem board_struct : Try.prog.underlying 29 = some (.struct (Try.prog.fieldsOf 29)) := by
  unfold Program.fieldsOf
  rw [Try.underlying29]
theorem board_held : Try.prog.stoodInHeld 29 = false := by kernel_rfl
theorem board_fields : (Try.prog.fieldsOf 29).toList.map (fun f => (f.name, f.type, f.offset)) = [("Epoch", 2, 0), ("Cell", 27, 1)] := by
  unfold Program.fieldsOf
  rw [Try.underlying29]
  rfl
theorem cell_size : (Try.prog.info? 27).map (·.size) = some 16 := by kernel_rfl
theorem two_of {α : Type} : ∀ (l : List α), l.length = 2 → ∃ x y, l = [x, y]
  | [x, y], _ => ⟨x, y, rfl⟩
theorem fields_gen {P : Program} {D : Nat} {xs : Array Value} {w : World} {t1 t2 : TypeId} {o1 o2 : Nat} {v1 v2 : Value} (fs : List Field) (hf : fs.map (fun f => (f.name, f.type, f.offset)) = [("Epoch", t1, o1), ("Cell", t2, o2)])
    (p1 : (Go.part t1 xs o1).run P w = .ok v1 w) (p2 : (Go.part t2 xs o2).run P w = .ok v2 w) (q1 : (Op.equalIn D t1 v1 v1).run P w = .ok true w) (q2 : (Op.equalIn D t2 v2 v2).run P w = .ok true w) : (Op.eqFields D xs xs fs).run P w = .ok true w := by
  obtain ⟨f1, f2, rfl⟩ := two_of fs (show fs.length = 2 by simpa using congrArg List.length hf)
  simp only [List.map_cons, List.map_nil, List.cons.injEq, Prod.mk.injEq, and_true] at hf
  obtain ⟨⟨n1, rfl, rfl⟩, n2, rfl, rfl⟩ := hf
  have m1 : f1.name ≠ "_" := by rw [n1]; decide
  have m2 : f2.name ≠ "_" := by rw [n2]; decide
  simp [Op.eqFields, m1, m2, p1, p2, q1, q2]
theorem part_agg {P : Program} {t e : TypeId} {n k : Nat} (xs : Array Value) (o : Nat) (w : World) (ht : P.underlying t = some (.array n e)) (hs : (P.info? t).map (·.size) = some k) : (Go.part t xs o).run P w = .ok (.agg (xs.extract o (o + k))) w := by
  obtain ⟨i, hi, hs⟩ := Option.map_eq_some_iff.1 hs
  simp [Go.part, isAgg, run_underlying ht, sizeOf, typeInfo, hi, hs]
theorem cell_same (d : Nat) (l : List Int) (h : l.length = 17) (w : World) : (Op.equalIn (d + 2) 27 (.agg ((nums l).extract 1 17)) (.agg ((nums l).extract 1 17))).run Try.prog w = .ok true w := by
  obtain ⟨i, hi, hz⟩ := Option.map_eq_some_iff.1 Try.info2'
  rw [run_equalIn_array w (d + 1) _ _ Try.underlying27 hi, show Try.prog.cellsOf 2 = 1 from by kernel_rfl]
  refine items_same d _ w _ (fun k hk => ⟨nth l (1 + k), ?_⟩)
  have hk16 : k < 16 := by simpa using hk
  rw [Array.getElem?_extract, if_pos (by rw [nums_size, h]; omega)]
  exact nums_at l (1 + k) (by omega)
theorem board_same (d : Nat) (l : List Int) (h : l.length = 17) (w : World) : (Op.equalIn (d + 3) 29 (.agg (nums l)) (.agg (nums l))).run Try.prog w = .ok true w := by
  rw [run_equalIn_struct w (d + 2) 29 _ _ board_struct board_held]
  refine fields_gen _ board_fields (part_num _ _ _ w (nums_at l 0 (by omega))) (part_agg (nums l) 1 w Try.underlying27 cell_size) ?_ (cell_same d l h w)
  rw [run_equalIn_int w (d + 1) 2 .i64 .i64 _ _ Try.underlying2]
  simp
theorem board_neq (l : List Int) (h : l.length = 17) (w : World) : (binOp .neq 29 (.agg (nums l)) (.agg (nums l))).run Try.prog w = .ok (.bool false) w := by
  rw [run_neq_struct, board_same 9997 l h w]
  rfl
theorem board_eq (l : List Int) (h : l.length = 17) (w : World) : (Op.equalIn 10000 29 (.agg (nums l)) (.agg (nums l))).run Try.prog w = .ok true w := board_same 9997 l h w
theorem board_load (w : World) (bb : Nat) (l : List Int) (h : l.length = 17) (hw : Whole w bb 29 (nums l)) : (loadVar 29 ⟨bb, 0, none⟩).run Try.prog w = .ok (.agg (nums l)) w :=
  run_loadVar_row w bb 29 29 (nums l) (0, 0) _ hw Try.underlying29 rfl (by rw [nums_size, h]; kernel_rfl)
theorem board_guard (op : BinOp) (x y : Operand) (xs ys : Array Value) (w : World) : (eqGuard op 29 x y (.agg xs) (.agg ys)).run Try.prog w = .ok () w := run_eqGuard_agg w op 29 x y xs ys (by kernel_rfl)

/-- A load of a row, where each world of the class holds it. -/
theorem quiet_load_row {P : Program} {C : World → Prop} {o : Oper} {a : Act} {K : Act → Prop} (ty : TypeId) (x : Operand) (ho : o.op = .load ty x) (g : Nat) (v : Value) (hx : a.eval x = .pointer (some ⟨g, 0, none⟩))
    (hl : ∀ w, C w → (loadVar ty ⟨g, 0, none⟩).run P w = .ok v w) (hk : K (a.put o.dst v)) : o.quiet P a C K :=
  ⟨v, fun w hw => by
    unfold Oper.quietAt execOp
    simp only [ho, hx, Instr.loadAt, Instr.sureAddr, Sem.run_bind, Sem.run_pure, Result.andThen_ok, hl w hw]
    exact ⟨rfl, rfl⟩, hk⟩

/-- A world that goes on from w. -/
structure Kin (w : World) where
  v : World
  h : Below w.heap.size w v
instance (w : World) : Nonempty (Kin w) := ⟨⟨w, Below.refl _ _⟩⟩
instance (w : World) : Inhabited (Kin w) := ⟨⟨w, Below.refl _ _⟩⟩
theorem region_kin {id : Nat} {Q : Exit → Act → World → Prop} {a : Act} {w : World} {l : List Oper} (hm : Try.prog.follows .mixedOrders = true) (hB : Region.lexB .any l.toArray = true)
    (h : wpQuiet Try.prog l.toArray (fun w' => ∃ p : Kin w, w' = p.v) (fun a' => ∀ w', (∃ p : Kin w, w' = p.v) → Q .normal a' w') l a) : (Code.region id l.toArray true).wp Try.prog Q a w :=
  wp_region_quiet (C := fun w' => ∃ p : Kin w, w' = p.v) hm hB ⟨⟨w.drew, below_drew (Below.refl _ _)⟩, rfl⟩ (by simpa using h)
end Go.Proofs.Ytpgepcmncppphaa
