/-
  Layer 3: a step, over whatever task keeps a contract.
-/
import Derived.Test.YtngihgdcoeokhaaTrailOps
import Derived.Defers
import Derived.Recover
namespace Go.Proofs.Ytngihgdcoeokhaa
open Go.ChangeShapes Go.WideShapes Go.ChangeAt Go.RowKit
set_option linter.unusedVariables false

/-- The deferred closure finds no panic. -/
theorem catch_idle (w : World) : CallsD Try.prog 28 #[] .returning w fun e u' w' => e = .returned (.tuple #[]) ∧ u' = .returning ∧ w' = w := by
  refine callsD_of_wpS Try.func28 rfl fun c₀ cs hu => ?_
  apply wpS_region
  simp [wpOpsS, go_sem, recoverD, hu, Try.ntmps28, bodyPostS, results, Try.results28]
  cases c₀
  simp_all

/-- Run: the task is called once. -/
theorem run_any {w : World} {tb : Nat} (F : FuncId) (first : Array Value) (Q : World → Prop) (hcf : ∀ w, (callFunc F (first.push (.pointer (some ⟨tb, 0, none⟩)))).run Try.prog w = .ok (.enter F (first.push (.pointer (some ⟨tb, 0, none⟩)))) w)
    (h : Calls Try.prog F (first.push (.pointer (some ⟨tb, 0, none⟩))) w fun e w' => e = .returned (.tuple #[]) ∧ Q w') :
    Calls Try.prog 19 #[.pointer (some ⟨tb, 0, none⟩), .func (.func F) first #[]] w fun e w' => e = .returned (.tuple #[]) ∧ Q w' := by
  have H := Lib.hid h
  clear h
  go_enter_defers Try.func19, Try.ntmps19
  go_wp2_with fail
  refine H.out.mono ?_
  rintro e w1 ⟨rfl, hq⟩
  have HQ := Lib.hid hq
  clear hq
  go_wp2_with fail
  refine leaves_cons (f := 28) (args := #[]) (by simp) (by simp [go_sem]) ?_
  refine (catch_idle _).mono ?_
  rintro e u' w'' ⟨rfl, rfl, rfl⟩
  simp [Leaves, settle, results, Try.results19, go_sem]
  exact HQ.out

section
variable {w w' w'' : World} {b g tb : Nat} {tv mv tv' mv' : Value} {T : Tr} {m m' : Mm}

/-- Of a task that is over nothing is run. -/
theorem step_over (time : Int) (task : Value) (h : St w b g tb tv mv T m) (ho : T.over = true) :
    Calls Try.prog 11 #[.pointer (some ⟨tb, 0, none⟩), .int .i64 time, task] w fun e w' => e = .returned (.bool true) ∧ w = w' := by
  have h3 := h.c3
  rw [ho] at h3
  clear h
  go_enter Try.func11, Try.ntmps11
  go_wp2_with fail
  go_ret
  exact ⟨rfl, rfl⟩

/-- Where a step begins. -/
def beganAt (w : World) (tb : Nat) (time : Int) : World := ((w.setCell ⟨tb, 4, none⟩ (.int .i64 1)).setCell ⟨tb, 5, none⟩ (.int .i64 0)).setCell ⟨tb, 6, none⟩ (.int .i64 time)
theorem St.began (h : St w b g tb tv mv T m) (time : Int) : St (beganAt w tb time) b g tb tv mv (began time T) m :=
  ((h.put 4 (.int .i64 1) { T with ph := 1 } rfl rfl rfl).put 5 (.int .i64 0) { T with ph := 1, place := 0 } rfl rfl rfl).put 6 (.int .i64 time) (Go.Proofs.Ytngihgdcoeokhaa.began time T) rfl rfl rfl
theorem moved_began (w : World) (b g tb : Nat) (tv mv : Value) (time : Int) : Moved w b g tb tv mv (beganAt w tb time) tv mv :=
  (St.moved ..).trans ((St.moved ..).trans (St.moved ..))
/-- Where it ends. -/
def endedAt (w : World) (tb : Nat) (o : Bool) : World := (w.setCell ⟨tb, 3, none⟩ (.bool o)).setCell ⟨tb, 4, none⟩ (.int .i64 0)
theorem St.ended (h : St w b g tb tv mv T m) : St (endedAt w tb (!dry T)) b g tb tv mv (ended T) m :=
  (h.put 3 (.bool (!dry T)) { T with over := !dry T } rfl rfl rfl).put 4 (.int .i64 0) (Go.Proofs.Ytngihgdcoeokhaa.ended T) rfl rfl rfl
theorem moved_ended (w : World) (b g tb : Nat) (tv mv : Value) (o : Bool) : Moved w b g tb tv mv (endedAt w tb o) tv mv := (St.moved ..).trans (St.moved ..)

set_option maxHeartbeats 1000000 in
theorem step_runs (time : Int) (F : FuncId) (first : Array Value) (P : World → Tr → Mm → Value → Value → Prop)
    (hcf : ∀ w, (callFunc F (first.push (.pointer (some ⟨tb, 0, none⟩)))).run Try.prog w = .ok (.enter F (first.push (.pointer (some ⟨tb, 0, none⟩)))) w)
    (h : St w b g tb tv mv T m) (ho : T.over = false) (hp : T.ph = 0)
    (hrun : Calls Try.prog F (first.push (.pointer (some ⟨tb, 0, none⟩))) (beganAt w tb time) fun e w' => e = .returned (.tuple #[]) ∧ ∃ T' m' tv' mv', St w' b g tb tv' mv' T' m' ∧ Fine T' ∧ P w' T' m' tv' mv') :
    Calls Try.prog 11 #[.pointer (some ⟨tb, 0, none⟩), .int .i64 time, .func (.func F) first #[]] w fun e w'' =>
      ∃ w1 T' m' tv' mv', e = .returned (.bool (!dry T')) ∧ St w1 b g tb tv' mv' T' m' ∧ Fine T' ∧ P w1 T' m' tv' mv' ∧ endedAt w1 tb (!dry T') = w'' := by
  have R := Lib.hid (run_any (tb := tb) F first _ hcf hrun)
  have h3 := h.c3
  rw [ho] at h3
  have h4 := h.c4
  rw [hp] at h4
  have f4 := h.f 4
  have h5 := h.c5
  have h6 := h.c6
  have f5 := h.f 5
  have f6 := h.f 6
  have hnot : ∀ (x : Bool) (w : World), (Op.unary .not (.bool x)).run Try.prog w = .ok (.bool (!x)) w := fun _ _ => rfl
  unfold beganAt at R
  clear h hrun hcf
  go_enter Try.func11, Try.ntmps11
  go_wp2_with (go_at_call 19; refine R.out.mono ?_; rintro e w1 ⟨rfl, T', m', tv', mv', s1, f1, p1⟩)
  refine (drys s1 f1).mono ?_
  rintro e w2 ⟨rfl, rfl⟩
  have g3 := s1.c3
  have g4 := s1.c4
  have q3 := s1.f 3
  have q4 := s1.f 4
  have FIN : Hid (∃ w2 T'' m' tv' mv', Ending.returned (.bool (!dry T')) = .returned (.bool (!dry T'')) ∧ St w2 b g tb tv' mv' T'' m' ∧ Fine T'' ∧ P w2 T'' m' tv' mv' ∧ endedAt w2 tb (!dry T'') = endedAt w1 tb (!dry T')) := ⟨w1, T', m', tv', mv', rfl, s1, f1, p1, rfl⟩
  clear s1 f1 p1 R h3 h4 h5 h6 f4 f5 f6 ho hp
  go_wp2_with fail
  go_ret
  exact FIN.out
end
end Go.Proofs.Ytngihgdcoeokhaa
