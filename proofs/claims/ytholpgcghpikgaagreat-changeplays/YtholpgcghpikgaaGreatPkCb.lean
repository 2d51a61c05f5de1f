/-
  Texts of our own, one behind the other (ChSp): what the laws' proofs rest on; each says at its head what it holds. No conditions.
-/
import Derived.Test.YtholpgcghpikgaaGreatPkCa
import Derived.Test.YtholpgcghpikgaaGreatPkLb
import Derived.Test.YtholpgcghpikgaaGreatPkBa
/-
  Layer 14: values that hold a space; whether one is right, and whether two are the same: a contract for each call.
-/
namespace Go.Proofs.YtholpgcghpikgaaGreat
open Go.ChangeShapes Go.WideShapes Go.ChangeAt Go.RowKit Go.Shelf
set_option linter.unusedVariables false

/-- A value that holds a space. -/
def scV (v : Value) (s : Sc) : Value := .agg #[v, .int .i64 s.n]
theorem results_cell_cell {P : Program} {fn : Func} {p u : Tmp} {ty tz : TypeId} (h : fn.results = #[.cell p ty, .cell u tz]) (tmps : Array Value) (w : World) (g q : Nat) (t t' : TypeId) (cs ds : Array Value) (fr fr' : Nat × Nat) (d d' : TypeDesc)
    (hp : tmps.getD p undef = .pointer (some ⟨g, 0, none⟩)) (hg : w.heap[g]? = some (.cells cs t fr)) (hq : tmps.getD u undef = .pointer (some ⟨q, 0, none⟩)) (hh : w.heap[q]? = some (.cells ds t' fr'))
    (hu : P.underlying ty = some d) (hd : (match d with | .struct _ | .array _ _ => true | _ => false) = true) (hi : (P.info? ty).map (·.size) = some cs.size)
    (hu' : P.underlying tz = some d') (hd' : (match d' with | .struct _ | .array _ _ => true | _ => false) = true) (hi' : (P.info? tz).map (·.size) = some ds.size) :
    (results fn tmps).run P w = .ok (.tuple #[.agg cs, .agg ds]) w := by
  have e : (results fn tmps).run P w = ((asAddr (tmps.getD p undef)).run P w).andThen fun a w₁ => ((loadVar ty a).run P w₁).andThen fun v w₂ => ((asAddr (tmps.getD u undef)).run P w₂).andThen fun b w₃ => ((loadVar tz b).run P w₃).andThen fun v' w₄ => .ok (.tuple #[v, v']) w₄ := by
    simp only [results, h]
    simp [Sem.run_bind, Result.andThen]
  rw [e, hp, hq]
  simp [asAddr, Result.andThen, run_loadVar_row w g t ty cs fr d hg hu hd hi, run_loadVar_row w q t' tz ds fr' d' hh hu' hd' hi']
theorem row2c {w : World} {q : Nat} {t : TypeId} {a b : Value} (h : Whole w q t #[a, b]) : w.cell? ⟨q, 0, none⟩ = some a ∧ w.cell? ⟨q, 1, none⟩ = some b := ⟨h.cell 0, h.cell 1⟩
theorem row2f {w : World} {q : Nat} {t : TypeId} {a b : Value} (h : Whole w q t #[a, b]) : w.frozen? ⟨q, 0, none⟩ = false ∧ w.frozen? ⟨q, 1, none⟩ = false := ⟨h.frozen 0, h.frozen 1⟩

section
variable {w : World} {v v' : Value} {s : Sc}
set_option maxHeartbeats 1000000 in
theorem scRight_c (h : Holds w v s.l) (hl : s.l.length ≤ 10000) : Calls Tryz.prog 12 #[scV v s] w fun e w' => e = .returned (.bool (decide (RightSc s))) ∧ Below w.heap.size w w' := by
  obtain ⟨X, n⟩ := s
  obtain ⟨A, c, rfl, hc, hA⟩ := h
  simp only at *
  have G := Lib.hid ((Bag.new w).add 26 #[.slice A X.length c, .int .i64 n])
  have CR : Hid (∀ W, Below w.heap.size w W → Calls Tryz.prog 26 #[.slice A X.length c] W fun e w' => e = .returned (.bool (decide (RightL X))) ∧ Below W.heap.size W w') := Lib.hid (fun W h => right_any A X c (by omega) W ((hA.below h).mono h.size))
  have CN := Lib.hid (bkRight_any n)
  unfold scV
  clear hA hc
  by_cases hr : RightL X
  · rw [decide_eq_true hr] at CR
    by_cases hm : X.length ≤ 24
    · have hz : (X.length : Int) ≤ (24 : Int) := by omega
      by_cases hn : bkIn n
      · rw [decide_eq_true hn] at CN
        rw [decide_eq_true (show RightSc ⟨X, n⟩ from ⟨⟨hr, hm⟩, hn⟩)]
        generalize X.length = m at *
        go_enter Tryz.func12, Tryz.ntmps12
        obtain ⟨c0, c1⟩ := row2c G.out.v0
        go_wp2_with fail
        refine (CR.out _ G.out.bel).mono ?_
        rintro e w1 ⟨rfl, hb⟩
        have G := Lib.hid (G.out.still hb)
        clear hb c0 c1
        obtain ⟨c0, c1⟩ := row2c G.out.v0
        go_wp2_with fail
        refine (CN.out _).mono ?_
        rintro e w2 ⟨rfl, hb⟩
        have G := Lib.hid (G.out.still hb)
        go_wp2_with fail
        go_ret
        exact ⟨rfl, G.out.bel⟩
      · rw [decide_eq_false hn] at CN
        rw [decide_eq_false (fun k : RightSc ⟨X, n⟩ => hn k.2)]
        generalize X.length = m at *
        go_enter Tryz.func12, Tryz.ntmps12
        obtain ⟨c0, c1⟩ := row2c G.out.v0
        go_wp2_with fail
        refine (CR.out _ G.out.bel).mono ?_
        rintro e w1 ⟨rfl, hb⟩
        have G := Lib.hid (G.out.still hb)
        clear hb c0 c1
        obtain ⟨c0, c1⟩ := row2c G.out.v0
        go_wp2_with fail
        refine (CN.out _).mono ?_
        rintro e w2 ⟨rfl, hb⟩
        have G := Lib.hid (G.out.still hb)
        go_wp2_with fail
        go_ret
        exact ⟨rfl, G.out.bel⟩
    · have hz : ¬ (X.length : Int) ≤ (24 : Int) := by omega
      rw [decide_eq_false (fun k : RightSc ⟨X, n⟩ => hm k.1.2)]
      generalize X.length = m at *
      go_enter Tryz.func12, Tryz.ntmps12
      obtain ⟨c0, c1⟩ := row2c G.out.v0
      go_wp2_with fail
      refine (CR.out _ G.out.bel).mono ?_
      rintro e w1 ⟨rfl, hb⟩
      have G := Lib.hid (G.out.still hb)
      clear hb c0 c1
      obtain ⟨c0, c1⟩ := row2c G.out.v0
      go_wp2_with fail
      go_ret
      exact ⟨rfl, G.out.bel⟩
  · rw [decide_eq_false hr] at CR
    rw [decide_eq_false (fun k : RightSc ⟨X, n⟩ => hr k.1.1)]
    generalize X.length = m at *
    go_enter Tryz.func12, Tryz.ntmps12
    obtain ⟨c0, c1⟩ := row2c G.out.v0
    go_wp2_with fail
    refine (CR.out _ G.out.bel).mono ?_
    rintro e w1 ⟨rfl, hb⟩
    have G := Lib.hid (G.out.still hb)
    clear hb c0 c1
    go_wp2_with fail
    go_ret
    exact ⟨rfl, G.out.bel⟩
set_option maxHeartbeats 1000000 in
theorem scSame_c (h : Holds w v s.l) (h' : Holds w v' s.l) (hl : s.l.length ≤ 10000) : Calls Tryz.prog 11 #[scV v s, scV v' s] w fun e w' => e = .returned (.bool true) ∧ Below w.heap.size w w' := by
  obtain ⟨X, n⟩ := s
  obtain ⟨A, c, rfl, hc, hA⟩ := h
  obtain ⟨A', c', rfl, hc', hA'⟩ := h'
  simp only at *
  have G := Lib.hid (Bag.two w 26 26 #[.slice A X.length c, .int .i64 n] #[.slice A' X.length c', .int .i64 n])
  have CE : Hid (∀ W, Below w.heap.size w W → Calls Tryz.prog 25 #[.slice A X.length c, .slice A' X.length c'] W fun e w' => e = .returned (.bool true) ∧ Below W.heap.size W w') := Lib.hid (fun W h => equal_any A A' c c' X (by omega) W ((hA.below h).mono h.size) ((hA'.below h).mono h.size))
  unfold scV
  clear hA hA' hc hc' hl
  generalize X.length = m at *
  go_enter Tryz.func11, Tryz.ntmps11
  obtain ⟨c0, c1⟩ := row2c G.out.v0
  obtain ⟨d0, d1⟩ := row2c G.out.v1
  go_wp2_with fail
  refine (CE.out _ G.out.bel).mono ?_
  rintro e w1 ⟨rfl, hb⟩
  have G := Lib.hid (G.out.still hb)
  go_wp2_with fail
  go_ret
  exact ⟨rfl, G.out.bel⟩
set_option maxHeartbeats 1000000 in
theorem refSc_c (h : Holds w v s.l) (h' : Holds w v' s.l) (hl : s.l.length ≤ 10000) : Calls Tryz.prog 15 #[scV v s, scV v' s] w fun e w' => e = .returned (.bool true) ∧ Below w.heap.size w w' := by
  obtain ⟨X, n⟩ := s
  obtain ⟨A, c, rfl, hc, hA⟩ := h
  obtain ⟨A', c', rfl, hc', hA'⟩ := h'
  simp only at *
  have G := Lib.hid (Bag.two w 26 43 #[.slice A X.length c, .int .i64 n] #[.slice A' X.length c', .int .i64 n])
  have CE : Hid (∀ W, Below w.heap.size w W → Calls Tryz.prog 17 #[.slice A X.length c, .slice A' X.length c'] W fun e w' => e = .returned (.bool true) ∧ Below W.heap.size W w') := Lib.hid (fun W h => refSame_any A A' c c' X (by omega) W ((hA.below h).mono h.size) ((hA'.below h).mono h.size))
  unfold scV
  clear hA hA' hc hc' hl
  generalize X.length = m at *
  go_enter Tryz.func15, Tryz.ntmps15
  obtain ⟨c0, c1⟩ := row2c G.out.v0
  obtain ⟨d0, d1⟩ := row2c G.out.v1
  go_wp2_with fail
  refine (CE.out _ G.out.bel).mono ?_
  rintro e w1 ⟨rfl, hb⟩
  have G := Lib.hid (G.out.still hb)
  go_wp2_with fail
  go_ret
  exact ⟨rfl, G.out.bel⟩
theorem scStart_c (w : World) : Calls Tryz.prog 13 #[] w fun e w' => e = .returned (scV (.slice none 0 0) Sc.first) ∧ Below w.heap.size w w' := by
  go_enter Tryz.func13, Tryz.ntmps13
  go_wp2_with fail
  refine bodyPost_ret (results_cell_row rfl _ _ w.heap.size 26 #[.slice none 0 0, .int .i64 65536] (0, 0) _ rfl (heap_alloc_new _ _) Tryz.underlying26 rfl (by kernel_rfl)) rfl ?_
  exact ⟨rfl, below_new _ _⟩
end
end Go.Proofs.YtholpgcghpikgaaGreat
