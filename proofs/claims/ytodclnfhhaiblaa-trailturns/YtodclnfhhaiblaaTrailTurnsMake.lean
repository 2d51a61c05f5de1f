/-
  Layer 3: the statement on turns: where it says nothing; what it makes.
-/
import Derived.Test.YtodclnfhhaiblaaTrailTurnsSt
namespace Go.Proofs.Ytodclnfhhaiblaa
open Go.ChangeShapes Go.WideShapes Go.ChangeAt Go.RowKit
set_option linter.unusedVariables false

theorem thread_info : (Try.prog.info? 43).map (fun i => (i.zero, i.size, i.bytes)) = some (some (.agg #[.int .i64 0, .int .i64 0, .int .i64 0, .slice none 0 0]), 4, 48) := by kernel_rfl

/-- A row of new threads. -/
def newThreads (n : Nat) : Array Value := madeCells #[.int .i64 0, .int .i64 0, .int .i64 0, .slice none 0 0] (n * 4)
theorem rowThreads (n : Nat) (hn : n ≤ 100) (w : World) : (Instr.makeSlice 31 (.int .i64 (n : Int)) (.int .i64 (n : Int))).run Try.prog w = .ok (.slice (some ⟨w.heap.size, 0, none⟩) n n) (w.alloc (.cells (newThreads n) 43)) := by
  obtain ⟨i, hi, hzz⟩ := Option.map_eq_some_iff.1 thread_info
  simp only [Prod.mk.injEq] at hzz
  obtain ⟨hz, hs, hb⟩ := hzz
  have hr := run_make (P := Try.prog) w 31 43 i _ Try.underlying31 hi hz .i64 .i64 n n (by omega) (Int.le_refl _) (by rw [hb]; omega) (by omega)
  simp only [Int.toNat_natCast, hs] at hr
  exact hr
theorem newThreads_size (n : Nat) : (newThreads n).size = n * 4 := size_madeCells _ _
theorem newThreads_at (n i : Nat) (h : i < n) : (newThreads n)[i * 4]? = some (.int .i64 0) ∧ (newThreads n)[i * 4 + 1]? = some (.int .i64 0) ∧ (newThreads n)[i * 4 + 2]? = some (.int .i64 0) ∧ (newThreads n)[i * 4 + 3]? = some (.slice none 0 0) := by
  have key : ∀ j, j < n * 4 → (newThreads n)[j]? = some ((#[.int .i64 0, .int .i64 0, .int .i64 0, .slice none 0 0] : Array Value)[j % 4]!) := by
    intro j hj
    simp [newThreads, madeCells, hj]
  refine ⟨?_, ?_, ?_, ?_⟩
  · rw [key _ (by omega), show i * 4 % 4 = 0 from by omega]; rfl
  · rw [key _ (by omega), show (i * 4 + 1) % 4 = 1 from by omega]; rfl
  · rw [key _ (by omega), show (i * 4 + 2) % 4 = 2 from by omega]; rfl
  · rw [key _ (by omega), show (i * 4 + 3) % 4 = 3 from by omega]; rfl

theorem ptr_info : (Try.prog.info? 33).map (fun i => (i.zero, i.size, i.bytes)) = some (some (.pointer none), 1, 8) := by kernel_rfl
theorem ptr_info' : ∃ i0, Try.prog.info? 33 = some i0 ∧ i0.zero = some (.pointer none) ∧ i0.size = 1 ∧ i0.bytes = 8 := by
  obtain ⟨i0, h1, h2⟩ := Option.map_eq_some_iff.1 ptr_info
  simp only [Prod.mk.injEq] at h2
  exact ⟨i0, h1, h2.1, h2.2.1, h2.2.2⟩

/-- A new memory of the reference, wherever it lies. -/
theorem new_ref_ex (n : Int) (w : World) (hn : n ≤ 127) : Calls Try.prog 10 #[.int .i64 n] w fun e w' => ∃ rb A c, e = .returned (.pointer (some ⟨rb, 0, none⟩)) ∧ RefAt w' rb rb A c (List.replicate n.toNat 0) 0 ∧ w.heap.size ≤ rb ∧ Below w.heap.size w w' := by
  refine (refNew_any n w hn).mono ?_
  rintro e w' ⟨rfl, ⟨A, c, h1⟩, h2⟩
  exact ⟨_, A, c, rfl, h1, Nat.le_refl _, h2⟩

/-- Whose a block is, at first. -/
def ow0 (b g rb : Nat) (A : Option Addr) (hb sb : Nat) (k : Nat) : Nat := if k = b ∨ k = g then 1 else if k = sb then 3 else if k = hb then 5 else if k = rb ∨ A.map Addr.block = some k then 2 else 0

theorem half_first {w0 w1 w2 w3 : World} {b g rb : Nat} {A : Option Addr} {c P : Nat} {mc : Nat} (hbel : Below w0.heap.size w0 w1) (hm : MemAt w2 b g (List.replicate mc 0) 0) (hb : w1.heap.size ≤ b) (hg : w1.heap.size ≤ g) (hb2 : Below w1.heap.size w1 w2)
    (hr : RefAt w3 rb rb A c (List.replicate mc 0) 0) (hrb : w2.heap.size ≤ rb) (hb3 : Below w2.heap.size w2 w3) (cs : Array Value) (ss : List Int) :
    Half w0 ((w3.alloc (.cells cs 43)).alloc (.cells (nums ss) 2)) (ow0 b g rb A w3.heap.size (w3.heap.size + 1)) b g rb rb A c w3.heap.size (w3.heap.size + 1) P (fun _ => 0) (.slice none 0 0) 0 ⟨List.replicate mc 0, 0⟩ cs ss := by
  have s1 := hbel.size
  have s2 := hb2.size
  have s3 := hb3.size
  have l1 := hm.top.lt
  have l2 := hm.row.lt
  have l3 := hr.top.lt
  have hA : ∀ x : Addr, A = some x → rb ≤ x.block ∧ x.block < w3.heap.size := fun x hx => hr.own.lt x.block (by rw [hx]; rfl)
  have hb4 : Below w3.heap.size w3 ((w3.alloc (.cells cs 43)).alloc (.cells (nums ss) 2)) := ((Below.refl _ _).alloc (Nat.le_refl _) _).alloc (by simp only [World.size_alloc]; omega) _
  have hm3 := (hm.only (Only.of_below hb3 (fun _ => False)) id id).only (Only.of_below hb4 (fun _ => False)) id id
  refine ⟨hm3, hr.only (Only.of_below hb4 (fun _ => False)) (fun _ _ => id), World.ownsRow_nil _ _ _ _, fun j hj => by omega, (Whole.new w3 _ _).alloc _, ?_, ?_, ?_, ?_, ?_, ?_, fun k hk => by simp [Value.ownBlock] at hk, ?_, fun j hj => by omega, ?_, ?_⟩
  · have := Whole.new (w3.alloc (.cells cs 43)) 2 (nums ss)
    rwa [World.size_alloc] at this
  · simp [ow0]
  · simp [ow0]
  · unfold ow0
    rw [if_neg (by omega), if_neg (by omega), if_neg (by omega), if_pos (.inl rfl)]
  · intro x hx
    have := hA x hx
    unfold ow0
    rw [if_neg (by omega), if_neg (by omega), if_neg (by omega), if_pos (.inr (by rw [hx]; rfl))]
  · unfold ow0
    rw [if_neg (by omega), if_pos rfl]
  · unfold ow0
    rw [if_neg (by omega), if_neg (by omega), if_pos rfl]
  · intro k hk
    unfold ow0
    rw [if_neg (by omega), if_neg (by omega), if_neg (by omega), if_neg]
    rintro (h | h)
    · omega
    · cases hx : A with
      | none => rw [hx] at h; simp at h
      | some x =>
        rw [hx] at h
        simp at h
        have := hA x hx
        omega
  · have h1 := hbel.trans (hb2.mono s1)
    have h2 := h1.trans (hb3.mono h1.size)
    exact h2.trans (hb4.mono h2.size)


set_option maxHeartbeats 4000000 in
set_option maxRecDepth 100000 in
theorem turns_none (cells : Int) (LA : Option Addr) (LB LO lc : Nat) (ns : List Nat) (TA : Option Addr) (tn tc : Nat) (w : World) (hR : Rows3 w LA LB LO ns) (h : few3 ns 6 = false ∨ ns.length = 0 ∨ 300 < tn) (hlt : 0 < ns.length → LB < w.heap.size) :
    Calls Try.prog 3 #[.int .u8 cells, .slice LA ns.length lc, .slice TA tn tc] w fun e w' => e = .returned (.bool true) ∧ Below w.heap.size w w' := by
  have hnot : ∀ (x : Bool) (w : World), (Op.unary .not (.bool x)).run Try.prog w = .ok (.bool (!x)) w := fun _ _ => rfl
  have HR := Lib.hid hR
  have HLT := Lib.hid hlt
  clear hR hlt
  have hcase : (few3 ns 6 = false) ∨ (few3 ns 6 = true ∧ ns.length = 0) ∨ (few3 ns 6 = true ∧ ¬ ns.length = 0 ∧ 300 < tn) := by
    cases hf : few3 ns 6 with
    | false => exact .inl rfl
    | true =>
      by_cases h0 : ns.length = 0
      · exact .inr (.inl ⟨rfl, h0⟩)
      · refine .inr (.inr ⟨rfl, h0, ?_⟩)
        rcases h with h | h | h
        · rw [hf] at h; cases h
        · exact absurd h h0
        · exact h
  clear h
  generalize hnn : ns.length = n at *
  have HN := Lib.hid hnn
  clear hnn
  go_enter Try.func3, Try.ntmps3
  go_wp2_with fail
  refine (tr_awake _).mono ?_
  rintro e w1 ⟨rfl, hb1⟩
  go_wp2_with fail
  rw [← HN.out]
  refine (few_any LA LB LO lc ns 6 w1 (by decide) ⟨HR.out.1, fun k x hk => ?_⟩).mono ?_
  · obtain ⟨B, c, hc⟩ := HR.out.2 k x hk
    exact ⟨B, c, (hb1.cell (p := ⟨LB, LO + k, none⟩) (World.block_lt_of_cell? w _ hc)).trans hc⟩
  rintro e w2 ⟨rfl, rfl⟩
  rw [HN.out]
  rcases hcase with hf | ⟨hf, h0⟩ | ⟨hf, h0, h3⟩
  · rw [hf]
    go_wp2_with fail
    refine (tr_awake _).mono ?_
    rintro e w3 ⟨rfl, hb3⟩
    go_wp2_with fail
    go_ret
    exact ⟨rfl, hb1.trans (hb3.mono hb1.size)⟩
  · rw [hf]
    subst h0
    go_wp2_with fail
    refine (tr_awake _).mono ?_
    rintro e w3 ⟨rfl, hb3⟩
    go_wp2_with fail
    go_ret
    exact ⟨rfl, hb1.trans (hb3.mono hb1.size)⟩
  · rw [hf]
    have hne : ((n : Int) == 0) = false := beq_eq_false_iff_ne.2 (by omega)
    have hgt : decide (300 < (tn : Int)) = true := by simp; omega
    go_wp2_with fail
    refine (tr_awake _).mono ?_
    rintro e w3 ⟨rfl, hb3⟩
    go_wp2_with fail
    go_ret
    exact ⟨rfl, hb1.trans (hb3.mono hb1.size)⟩
end Go.Proofs.Ytodclnfhhaiblaa
