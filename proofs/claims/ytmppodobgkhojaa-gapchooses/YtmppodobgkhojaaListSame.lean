/-
  Layer 7: two lists are the same: a contract for each call, where they are.
-/
import Derived.Test.YtmppodobgkhojaaListOps
import Derived.BigQuiet
import Derived.Laws.StructEq
namespace Go.Proofs.Ytmppodobgkhojaa
open Go.ChangeShapes Go.WideShapes Go.ChangeAt Go.RowKit Go.Shelf
set_option linter.unusedVariables false

theorem area_struct : Try.prog.underlying 35 = some (.struct (Try.prog.fieldsOf 35)) := by
  unfold Program.fieldsOf
  rw [Try.underlying35]
theorem area_held : Try.prog.stoodInHeld 35 = false := by kernel_rfl
set_option maxHeartbeats 1000000 in
theorem area_neq (a : Ar) (w : World) : (binOp .neq 35 a.v a.v).run Try.prog w = .ok (.bool false) w := by
  obtain ⟨a0, a1, a2, a3, a4, a5⟩ := a
  unfold Ar.v
  rw [run_neq_struct, run_equalIn_struct w 9999 35 _ _ area_struct area_held]
  unfold Program.fieldsOf
  rw [Try.underlying35]
  simp [Op.eqFields, Go.part, isAgg, go_sem, run_underlying Try.underlying2, run_underlying Try.underlying3, run_underlying Try.underlying4]
theorem area_guard (op : BinOp) (x y : Operand) (a b : Ar) (w : World) : (eqGuard op 35 x y a.v b.v).run Try.prog w = .ok () w := run_eqGuard_agg w op 35 x y _ _ (by kernel_rfl)

end Go.Proofs.Ytmppodobgkhojaa
