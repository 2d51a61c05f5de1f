/-
  Layer 4: the statement on turns: where it says nothing; what it makes at first.
-/
import Derived.Test.YtpgepcmncppphaaRcuTurnsSt
namespace Go.Proofs.Ytpgepcmncppphaa
open Go.ChangeShapes Go.WideShapes Go.ChangeAt Go.RowKit
set_option linter.unusedVariables false

theorem task_info : (Try.prog.info? 37).map (fun i => (i.zero, i.size, i.bytes)) = some (some (.agg #[.int .u8 0, .int .i64 0, .int .i64 0, .int .i64 0, .bool false, .bool false]), 6, 40) := by kernel_rfl
/-- A row of new tasks. -/
def newTasks (n : Nat) : Array Value := madeCells #[.int .u8 0, .int .i64 0, .int .i64 0, .int .i64 0, .bool false, .bool false] (n * 6)
theorem rowTasks (n : Nat) (hn : n ≤ 100) (w : World) : (Instr.makeSlice 31 (.int .i64 (n : Int)) (.int .i64 (n : Int))).run Try.prog w = .ok (.slice (some ⟨w.heap.size, 0, none⟩) n n) (w.alloc (.cells (newTasks n) 37)) := by
  obtain ⟨i, hi, hzz⟩ := Option.map_eq_some_iff.1 task_info
  simp only [Prod.mk.injEq] at hzz
  obtain ⟨hz, hs, hb⟩ := hzz
  have hr := run_make (P := Try.prog) w 31 37 i _ Try.underlying31 hi hz .i64 .i64 n n (by omega) (Int.le_refl _) (by rw [hb]; omega) (by omega)
  simp only [Int.toNat_natCast, hs] at hr
  exact hr
theorem newTasks_size (n : Nat) : (newTasks n).size = n * 6 := size_madeCells _ _
theorem bool_info : (Try.prog.info? 4).map (fun i => (i.zero, i.size, i.bytes)) = some (some (.bool false), 1, 1) := by kernel_rfl
theorem rowBools (n : Nat) (hn : n ≤ 100) (w : World) : (Instr.makeSlice 32 (.int .i64 (n : Int)) (.int .i64 (n : Int))).run Try.prog w = .ok (.slice (some ⟨w.heap.size, 0, none⟩) n n) (w.alloc (.cells (madeCells #[.bool false] n) 4)) := by
  obtain ⟨i, hi, hzz⟩ := Option.map_eq_some_iff.1 bool_info
  simp only [Prod.mk.injEq] at hzz
  obtain ⟨hz, hs, hb⟩ := hzz
  have hr := run_make (P := Try.prog) w 32 4 i _ Try.underlying32 hi hz .i64 .i64 n n (by omega) (Int.le_refl _) (by rw [hb]; omega) (by omega)
  simp only [Int.toNat_natCast, hs, Nat.mul_one] at hr
  exact hr
theorem ptr_info : (Try.prog.info? 33).map (fun i => (i.zero, i.size, i.bytes)) = some (some (.pointer none), 1, 8) := by kernel_rfl
theorem ptr_info' : ∃ i0, Try.prog.info? 33 = some i0 ∧ i0.zero = some (.pointer none) ∧ i0.size = 1 ∧ i0.bytes = 8 := by
  obtain ⟨i0, h1, h2⟩ := Option.map_eq_some_iff.1 ptr_info
  simp only [Prod.mk.injEq] at h2
  exact ⟨i0, h1, h2.1, h2.2.1, h2.2.2⟩

/-- Whose a block is, at first. -/
def ow0 (b g bb hb qb : Nat) (k : Nat) : Nat := if k = b ∨ k = g then 1 else if k = bb then 2 else if k = qb then 3 else if k = hb then 5 else 0

theorem half_first {w0 w1 w2 : World} {b g P : Nat} (kf : Nat → Int) (rf : Nat → Nat) (hbel : Below w0.heap.size w0 w1) (hm : MemAt w2 b g (List.replicate 30 0) 0) (hb : w1.heap.size ≤ b) (hg : w1.heap.size ≤ g) (hb2 : Below w1.heap.size w1 w2) :
    Half w0 (((w2.alloc (.cells (nums bl0) 29)).alloc (.cells (newTasks P) 37)).alloc (.cells (madeCells #[.bool false] P) 4)) (ow0 b g w2.heap.size (w2.heap.size + 1) (w2.heap.size + 2)) b g w2.heap.size (w2.heap.size + 1) (w2.heap.size + 2) P kf rf (fun _ => 0) (.slice none 0 0) 0 0 (newTasks P) := by
  have s1 := hbel.size
  have s2 := hb2.size
  have l1 := hm.top.lt
  have l2 := hm.row.lt
  have hb4 : Below w2.heap.size w2 (((w2.alloc (.cells (nums bl0) 29)).alloc (.cells (newTasks P) 37)).alloc (.cells (madeCells #[.bool false] P) 4)) := (((Below.refl _ _).alloc (Nat.le_refl _) _).alloc (by simp only [World.size_alloc]; omega) _).alloc (by simp only [World.size_alloc]; omega) _
  have hm3 := hm.only (Only.of_below hb4 (fun _ => False)) id id
  refine ⟨hm3, ((Whole.new w2 _ _).alloc _).alloc _, World.ownsRow_nil _ _ _ _, fun j hj => by omega, ?_, newTasks_size P, fun j hj => by omega, ?_, ?_, ?_, ?_, ?_, fun k hk => by simp [Value.ownBlock] at hk, ?_, fun j hj => by omega, ?_, ?_⟩
  · have := (Whole.new (w2.alloc (.cells (nums bl0) 29)) 37 (newTasks P)).alloc (.cells (madeCells #[.bool false] P) 4)
    rwa [World.size_alloc] at this
  · have := Whole.new ((w2.alloc (.cells (nums bl0) 29)).alloc (.cells (newTasks P) 37)) 4 (madeCells #[.bool false] P)
    rwa [World.size_alloc, World.size_alloc] at this
  · simp [ow0]
  · simp [ow0]
  · unfold ow0
    rw [if_neg (by omega), if_pos rfl]
  · unfold ow0
    rw [if_neg (by omega), if_neg (by omega), if_pos rfl]
  · unfold ow0
    rw [if_neg (by omega), if_neg (by omega), if_neg (by omega), if_pos rfl]
  · intro k hk
    unfold ow0
    rw [if_neg (by omega), if_neg (by omega), if_neg (by omega), if_neg (by omega)]
  · have h1 := hbel.trans (hb2.mono s1)
    exact h1.trans (hb4.mono h1.size)

set_option maxHeartbeats 4000000 in
theorem turns_none (LA : Option Addr) (n lc : Nat) (TA : Option Addr) (tn tc : Nat) (w : World) (h : n = 0 ∨ 8 < n ∨ 300 < tn) :
    Calls Try.prog 3 #[.slice LA n lc, .slice TA tn tc] w fun e w' => e = .returned (.bool true) ∧ Below w.heap.size w w' := by
  have hnot : ∀ (x : Bool) (w : World), (Op.unary .not (.bool x)).run Try.prog w = .ok (.bool (!x)) w := fun _ _ => rfl
  have hcase : (n = 0) ∨ (¬ n = 0 ∧ 8 < n) ∨ (¬ n = 0 ∧ ¬ 8 < n ∧ 300 < tn) := by omega
  clear h
  rcases hcase with h0 | ⟨h0, h1⟩ | ⟨h0, h1, h2⟩
  · subst h0
    go_enter Try.func3, Try.ntmps3
    go_wp2_with fail
    refine (rcu_awake _).mono ?_
    rintro e w1 ⟨rfl, hb1⟩
    go_wp2_with fail
    refine (rcu_awake _).mono ?_
    rintro e w3 ⟨rfl, hb3⟩
    go_wp2_with fail
    go_ret
    exact ⟨rfl, hb1.trans (hb3.mono hb1.size)⟩
  · have hne : ((n : Int) == 0) = false := beq_eq_false_iff_ne.2 (by omega)
    have hgt : decide (8 < (n : Int)) = true := by simp; omega
    go_enter Try.func3, Try.ntmps3
    go_wp2_with fail
    refine (rcu_awake _).mono ?_
    rintro e w1 ⟨rfl, hb1⟩
    go_wp2_with fail
    refine (rcu_awake _).mono ?_
    rintro e w3 ⟨rfl, hb3⟩
    go_wp2_with fail
    go_ret
    exact ⟨rfl, hb1.trans (hb3.mono hb1.size)⟩
  · have hne : ((n : Int) == 0) = false := beq_eq_false_iff_ne.2 (by omega)
    have hgt : decide (8 < (n : Int)) = false := by simp; omega
    have hgt2 : decide (300 < (tn : Int)) = true := by simp; omega
    go_enter Try.func3, Try.ntmps3
    go_wp2_with fail
    refine (rcu_awake _).mono ?_
    rintro e w1 ⟨rfl, hb1⟩
    go_wp2_with fail
    refine (rcu_awake _).mono ?_
    rintro e w3 ⟨rfl, hb3⟩
    go_wp2_with fail
    go_ret
    exact ⟨rfl, hb1.trans (hb3.mono hb1.size)⟩
end Go.Proofs.Ytpgepcmncppphaa
