/-
  Layer 5: trails that are made one behind the other; what is made at first.
-/
import Derived.Test.YtngihgdcoeokhaaLatchRefStep
namespace Go.Proofs.Ytngihgdcoeokhaa
open Go.ChangeShapes Go.WideShapes Go.ChangeAt Go.RowKit
set_option linter.unusedVariables false

/-- The first trails are made. -/
structure Half (w0 w : World) (ow : Nat → Nat) (b g qb P : Nat) (tbf : Nat → Nat) (av : Value) (i : Nat) : Prop where
  mem : MemAt w b g [0, 0, 0] 0
  row : w.ownsRow 0 31 1 av i ((List.range i).map (fun j => Value.pointer (some ⟨tbf j, 0, none⟩)))
  tr : ∀ j, j < i → TrAt w b (tbf j) (.slice none 0 0) (.slice none 0 0) newTr
  got : Whole w qb 2 (nums (List.replicate P 0))
  lb : ow b = 1
  lg : ow g = 1
  lqb : ow qb = 3
  lab : ∀ k, av.ownBlock = some k → ow k = 4
  ltb : ∀ j, j < i → ow (tbf j) = 10 + j
  old : ∀ k, k < w0.heap.size → ow k = 0
  bel : Below w0.heap.size w0 w

section
variable {w0 w w1 w2 w' : World} {ow : Nat → Nat} {b g qb P : Nat} {tbf : Nat → Nat} {av av' : Value} {i : Nat}

theorem Half.new (H : Half w0 w ow b g qb P tbf av i) {j : Nat} (h : ow j ≠ 0) : w0.heap.size ≤ j := by
  rcases Nat.lt_or_ge j w0.heap.size with h1 | h1
  · exact absurd (H.old j h1) h
  · exact h1
/-- One trail more. -/
theorem Half.more {tb : Nat} {o : Obj} (H : Half w0 w ow b g qb P tbf av i) (hs : St w1 b g tb (.slice none 0 0) (.slice none 0 0) newTr ⟨[0, 0, 0], 0⟩) (htb : w.heap.size ≤ tb) (hb1 : Below w.heap.size w w1)
    (hg : (w1.alloc o).grownBy w2 av.ownBlock) (hown : w2.ownsRow 0 31 1 av' (i + 1) (((List.range i).map (fun j => Value.pointer (some ⟨tbf j, 0, none⟩))) ++ [.pointer (some ⟨tb, 0, none⟩)]))
    (hat : av'.ownBlock = av.ownBlock ∨ av'.ownBlock = some (w1.alloc o).heap.size) :
    Half w0 w2 (relab (relab ow w.heap.size (10 + i)) w1.heap.size 4) b g qb P (upd tbf i tb) av' (i + 1) ∧ Only (fun k => ow k = 4) w w2 ∧ (∀ k, k < w.heap.size → relab (relab ow w.heap.size (10 + i)) w1.heap.size 4 k = ow k) := by
  have hsz := hb1.size
  have ho : Only (fun k => av.ownBlock = some k) w1 w2 := ((Only.refl _ w1).alloc o).grown hg (fun k hk => .inl hk)
  have hfalse := Only.of_below hb1 (fun _ => False)
  have hna : ∀ k, ow k ≠ 4 → ¬ av.ownBlock = some k := fun k hk he => hk (H.lab k he)
  have rl : ∀ k, k < w.heap.size → relab (relab ow w.heap.size (10 + i)) w1.heap.size 4 k = ow k := fun k hk => by rw [relab_lt (by omega), relab_lt hk]
  have htlt : tb < w1.heap.size := hs.tr.top.lt
  have hbel1 := H.bel.trans (hb1.mono H.bel.size)
  have hrow1 : w1.ownsRow 0 31 1 av i ((List.range i).map (fun j => Value.pointer (some ⟨tbf j, 0, none⟩))) := own_still H.row hb1
  have hsz1 : (w1.alloc o).heap.size = w1.heap.size + 1 := by simp
  refine ⟨⟨hs.mem.only ho (hna b (by have := H.lb; omega)) (hna g (by have := H.lg; omega)), ?_, ?_, ?_, ?_, ?_, ?_, ?_, ?_, ?_, ?_⟩, (Only.of_below hb1 _).trans (ho.mono (fun k hk he => H.lab k he)), rl⟩
  · have e : ((List.range (i + 1)).map (fun j => Value.pointer (some ⟨upd tbf i tb j, 0, none⟩))) = ((List.range i).map (fun j => Value.pointer (some ⟨tbf j, 0, none⟩))) ++ [.pointer (some ⟨tb, 0, none⟩)] := by
      rw [List.range_succ, List.map_append]
      congr 1
      · apply List.map_congr_left
        intro j hj
        rw [upd_other _ _ (by have := List.mem_range.1 hj; omega)]
      · simp [upd_same]
    rw [e]
    exact hown
  · intro j hj
    by_cases hji : j = i
    · subst hji
      rw [upd_same]
      exact hs.tr.only ho (fun he => own_apart hrow1 hs.tr.top (by decide) he) (fun k hk => by simp [Value.ownBlock] at hk) (fun k hk => by simp [Value.ownBlock] at hk)
    · rw [upd_other _ _ hji]
      refine ((H.tr j (by omega)).only hfalse id (fun _ _ => id) (fun _ _ => id)).only ho (hna _ ?_) (fun k hk => by simp [Value.ownBlock] at hk) (fun k hk => by simp [Value.ownBlock] at hk)
      have := H.ltb j (by omega)
      omega
  · exact (H.got.only hfalse id).only ho (hna _ (by have := H.lqb; omega))
  · rw [rl b H.mem.top.lt]; exact H.lb
  · rw [rl g H.mem.row.lt]; exact H.lg
  · rw [rl qb H.got.lt]; exact H.lqb
  · intro k hk
    rcases hat with ha | ha
    · rw [ha] at hk
      rw [rl k (H.row.lt k hk).2]; exact H.lab k hk
    · rw [ha, hsz1] at hk
      injection hk with hk
      rw [relab_ge (by omega)]
  · intro j hj
    by_cases hji : j = i
    · subst hji
      rw [upd_same, relab_lt htlt, relab_ge htb]
    · rw [upd_other _ _ hji, rl _ (H.tr j (by omega)).top.lt]
      exact H.ltb j (by omega)
  · intro k hk
    have := H.bel.size
    rw [rl k (by omega)]; exact H.old k hk
  · exact hbel1.trans (ho.below (fun k hk => by
      have h4 := H.lab k hk
      exact H.new (by omega)) hbel1.size)

/-- All are made. -/
theorem Half.sys {ab ac : Nat} (H : Half w0 w ow b g qb P tbf (.slice (some ⟨ab, 0, none⟩) P ac) P) :
    Sys w0 w ow b g ab qb P tbf (fun _ => .slice none 0 0) (fun _ => .slice none 0 0) (fun _ => newTr) [0, 0, 0] 0 (List.replicate P 0) := by
  refine ⟨H.mem, fun i hi => ?_, H.tr, H.got, by simp, H.lb, H.lg, H.lqb, H.lab ab rfl, H.ltb, fun i hi k hk => by simp [Value.ownBlock] at hk, fun i hi k hk => by simp [Value.ownBlock] at hk, H.old, H.bel⟩
  rw [H.row.cellAt i (by omega), List.getElem?_map, List.getElem?_range hi]
  rfl
end

theorem ptr_info : (Try.prog.info? 31).map (fun i => (i.zero, i.size, i.bytes)) = some (some (.pointer none), 1, 8) := by kernel_rfl
theorem ptr_info' : ∃ i0, Try.prog.info? 31 = some i0 ∧ i0.zero = some (.pointer none) ∧ i0.size = 1 ∧ i0.bytes = 8 := by
  obtain ⟨i0, h1, h2⟩ := Option.map_eq_some_iff.1 ptr_info
  simp only [Prod.mk.injEq] at h2
  exact ⟨i0, h1, h2.1, h2.2.1, h2.2.2⟩
theorem thread_info : (Try.prog.info? 39).map (fun i => (i.zero, i.size, i.bytes)) = some (some (.agg #[.int .i64 0, .int .i64 0, .int .i64 0]), 3, 24) := by kernel_rfl
/-- A row of new threads. -/
def newThreads (n : Nat) : Array Value := madeCells #[.int .i64 0, .int .i64 0, .int .i64 0] (n * 3)
theorem rowThreads (n : Nat) (hn : n ≤ 100) (w : World) : (Instr.makeSlice 29 (.int .i64 (n : Int)) (.int .i64 (n : Int))).run Try.prog w = .ok (.slice (some ⟨w.heap.size, 0, none⟩) n n) (w.alloc (.cells (newThreads n) 39)) := by
  obtain ⟨i, hi, hzz⟩ := Option.map_eq_some_iff.1 thread_info
  simp only [Prod.mk.injEq] at hzz
  obtain ⟨hz, hs, hb⟩ := hzz
  have hr := run_make (P := Try.prog) w 29 39 i _ Try.underlying29 hi hz .i64 .i64 n n (by omega) (Int.le_refl _) (by rw [hb]; omega) (by omega)
  simp only [Int.toNat_natCast, hs] at hr
  exact hr
theorem newThreads_size (n : Nat) : (newThreads n).size = n * 3 := size_madeCells _ _
theorem newThreads_at (n i : Nat) (hi : i < n * 3) : (newThreads n)[i]? = some (.int .i64 0) := by
  unfold newThreads madeCells
  rw [Array.getElem?_map, Array.getElem?_range, if_pos hi]
  have : i % 3 = 0 ∨ i % 3 = 1 ∨ i % 3 = 2 := by omega
  rcases this with h | h | h <;> simp [h]
theorem rowInts (n : Nat) (hn : n ≤ 100) (w : World) : (Instr.makeSlice 30 (.int .i64 (n : Int)) (.int .i64 (n : Int))).run Try.prog w = .ok (.slice (some ⟨w.heap.size, 0, none⟩) n n) (w.alloc (.cells (nums (List.replicate n 0)) 2)) := by
  rw [← nums_made]
  exact rowOf n (by omega) w

/-- Whose a block is, at first. -/
def ow0 (b g lb nb hb qb : Nat) (k : Nat) : Nat := if k = b ∨ k = g then 1 else if k = qb then 3 else if k = lb then 2 else if k = nb then 5 else if k = hb then 6 else 0

/-- The statement on turns. -/
theorem first_turns {w0 w1 w2 : World} {b g P : Nat} (hbel : Below w0.heap.size w0 w1) (hm : MemAt w2 b g [0, 0, 0] 0) (hb : w1.heap.size ≤ b) (hg : w1.heap.size ≤ g) (hb2 : Below w1.heap.size w1 w2) :
    Half w0 ((((w2.alloc (.cells #[.int .i64 0, .int .i64 0] 27)).alloc (.cells #[.int .i64 0] 2)).alloc (.cells (newThreads P) 39)).alloc (.cells (nums (List.replicate P 0)) 2)) (ow0 b g w2.heap.size (w2.heap.size + 1) (w2.heap.size + 2) (w2.heap.size + 3)) b g (w2.heap.size + 3) P (fun _ => 0) (.slice none 0 0) 0 ∧
    RSys ((((w2.alloc (.cells #[.int .i64 0, .int .i64 0] 27)).alloc (.cells #[.int .i64 0] 2)).alloc (.cells (newThreads P) 39)).alloc (.cells (nums (List.replicate P 0)) 2)) (ow0 b g w2.heap.size (w2.heap.size + 1) (w2.heap.size + 2) (w2.heap.size + 3)) w2.heap.size (w2.heap.size + 1) (w2.heap.size + 2) P (fun _ => th0) ⟨0, 0, 0⟩ (newThreads P) := by
  have s1 := hbel.size
  have s2 := hb2.size
  have l1 := hm.top.lt
  have l2 := hm.row.lt
  have hb4 : Below w2.heap.size w2 ((((w2.alloc (.cells #[.int .i64 0, .int .i64 0] 27)).alloc (.cells #[.int .i64 0] 2)).alloc (.cells (newThreads P) 39)).alloc (.cells (nums (List.replicate P 0)) 2)) := ((((Below.refl _ _).alloc (Nat.le_refl _) _).alloc (by simp only [World.size_alloc]; omega) _).alloc (by simp only [World.size_alloc]; omega) _).alloc (by simp only [World.size_alloc]; omega) _
  have hm3 := hm.only (Only.of_below hb4 (fun _ => False)) id id
  refine ⟨⟨hm3, World.ownsRow_nil _ _ _ _, fun j hj => by omega, ?_, ?_, ?_, ?_, fun k hk => by simp [Value.ownBlock] at hk, fun j hj => by omega, ?_, ?_⟩, ⟨(((Whole.new w2 _ _).alloc _).alloc _).alloc _, ?_, ?_, newThreads_size P, fun i hi => ⟨newThreads_at P _ (by omega), newThreads_at P _ (by omega), newThreads_at P _ (by omega)⟩, ?_, ?_, ?_⟩⟩
  · have := Whole.new (((w2.alloc (.cells #[.int .i64 0, .int .i64 0] 27)).alloc (.cells #[.int .i64 0] 2)).alloc (.cells (newThreads P) 39)) 2 (nums (List.replicate P 0))
    rwa [World.size_alloc, World.size_alloc, World.size_alloc] at this
  · simp [ow0]
  · simp [ow0]
  · unfold ow0
    rw [if_neg (by omega), if_pos rfl]
  · intro k hk
    unfold ow0
    rw [if_neg (by omega), if_neg (by omega), if_neg (by omega), if_neg (by omega), if_neg (by omega)]
  · have h1 := hbel.trans (hb2.mono s1)
    exact h1.trans (hb4.mono h1.size)
  · have := ((Whole.new (w2.alloc (.cells #[.int .i64 0, .int .i64 0] 27)) 2 #[.int .i64 0]).alloc (.cells (newThreads P) 39)).alloc (.cells (nums (List.replicate P 0)) 2)
    rwa [World.size_alloc] at this
  · have := (Whole.new ((w2.alloc (.cells #[.int .i64 0, .int .i64 0] 27)).alloc (.cells #[.int .i64 0] 2)) 39 (newThreads P)).alloc (.cells (nums (List.replicate P 0)) 2)
    rwa [World.size_alloc, World.size_alloc] at this
  · unfold ow0
    rw [if_neg (by omega), if_neg (by omega), if_pos rfl]
  · unfold ow0
    rw [if_neg (by omega), if_neg (by omega), if_neg (by omega), if_pos rfl]
  · unfold ow0
    rw [if_neg (by omega), if_neg (by omega), if_neg (by omega), if_neg (by omega), if_pos rfl]

/-- The statement on fairness. -/
theorem first_fair {w0 w1 w2 : World} {b g P : Nat} (hbel : Below w0.heap.size w0 w1) (hm : MemAt w2 b g [0, 0, 0] 0) (hb : w1.heap.size ≤ b) (hg : w1.heap.size ≤ g) (hb2 : Below w1.heap.size w1 w2) :
    Half w0 (w2.alloc (.cells (nums (List.replicate P 0)) 2)) (fun k => if k = b ∨ k = g then 1 else if k = w2.heap.size then 3 else 0) b g w2.heap.size P (fun _ => 0) (.slice none 0 0) 0 := by
  have s1 := hbel.size
  have s2 := hb2.size
  have l1 := hm.top.lt
  have l2 := hm.row.lt
  have hb4 : Below w2.heap.size w2 (w2.alloc (.cells (nums (List.replicate P 0)) 2)) := (Below.refl _ _).alloc (Nat.le_refl _) _
  have hm3 := hm.only (Only.of_below hb4 (fun _ => False)) id id
  refine ⟨hm3, World.ownsRow_nil _ _ _ _, fun j hj => by omega, Whole.new w2 _ _, by simp, by simp, ?_, fun k hk => by simp [Value.ownBlock] at hk, fun j hj => by omega, ?_, ?_⟩
  · rw [if_neg (by omega), if_pos rfl]
  · intro k hk
    rw [if_neg (by omega), if_neg (by omega)]
  · have h1 := hbel.trans (hb2.mono s1)
    exact h1.trans (hb4.mono h1.size)

/-- What stays of all, from step to step. -/
structure Runs (w0 w : World) (ow : Nat → Nat) (b g ab qb P : Nat) (tbf : Nat → Nat) (xf : Nat → Th) (B : Bd) (n : Nat) (tvf mvf : Nat → Value) (Tf : Nat → Tr) (c : Int) (gl : List Int) : Prop where
  sys : Sys w0 w ow b g ab qb P tbf tvf mvf Tf B.cells c gl
  sim : ∀ i, i < P → Sim (xf i) (Tf i)
  got : ∀ i, i < P → (xf i).at_ = 5 → nth gl i = (xf i).tk
  cnt : c ≤ n
section
variable {w0 w w' : World} {ow : Nat → Nat} {b g ab qb P : Nat} {tbf : Nat → Nat} {xf : Nat → Th} {B : Bd} {n : Nat} {tvf mvf : Nat → Value} {Tf : Nat → Tr} {c : Int} {gl : List Int} {i : Nat}
theorem Runs.still (R : Runs w0 w ow b g ab qb P tbf xf B n tvf mvf Tf c gl) (h : Below w.heap.size w w') : Runs w0 w' ow b g ab qb P tbf xf B n tvf mvf Tf c gl := ⟨R.sys.still h, R.sim, R.got, R.cnt⟩
theorem nth_set (gl : List Int) (i j : Nat) (v : Int) (h : i < gl.length) : nth (gl.set i v) j = if j = i then v else nth gl j := by
  unfold nth
  rw [List.getD_eq_getElem?_getD, List.getD_eq_getElem?_getD, List.getElem?_set]
  by_cases hj : i = j
  · subst hj; simp [h]
  · simp [hj, Ne.symm hj]
/-- A step of trail i. -/
theorem runs_step (time : Int) (R : Runs w0 w ow b g ab qb P tbf xf B n tvf mvf Tf c gl) (hi : i < P) (hn : n ≤ 100000) :
    Calls Try.prog 11 #[.pointer (some ⟨tbf i, 0, none⟩), .int .i64 time, .func (.func 12) #[.agg #[.pointer (some ⟨qb, i, none⟩)]] #[]] w fun e w' =>
      e = .returned (.bool ((ustep (xf i) B).1.at_ == 5)) ∧ ∃ tvf' mvf' Tf' c' gl', Runs w0 w' (relab ow w.heap.size (10 + i)) b g ab qb P tbf (upd xf i (ustep (xf i) B).1) (ustep (xf i) B).2 (n + 1) tvf' mvf' Tf' c' gl' ∧ Only (fun k => ow k = 1 ∨ ow k = 10 + i ∨ ow k = 3) w w' := by
  have hc := R.cnt
  refine (thread_step time (R.sys.st hi) (R.sim i hi) (R.sys.cellIn hi) (by omega)).mono ?_
  rintro e w' ⟨rfl, T', c', tv', mv', hS⟩
  obtain ⟨s1, o1⟩ := R.sys.stepped hi hS
  have hc' := hS.cnt
  refine ⟨rfl, _, _, _, _, _, ⟨s1, fun j hj => ?_, fun j hj h5 => ?_, by push_cast; omega⟩, o1⟩
  · by_cases hji : j = i
    · subst hji; rw [upd_same, upd_same]; exact hS.sim
    · rw [upd_other _ _ hji, upd_other _ _ hji]; exact R.sim j hj
  · by_cases hji : j = i
    · subst hji
      rw [upd_same] at h5 ⊢
      by_cases h4 : (xf j).at_ = 4
      · have hl : lays (xf j) = some (xf j).tk := by simp [lays, h4]
        rw [hl]
        simp only
        rw [nth_set _ _ _ _ (by rw [R.sys.gsize]; exact hj), if_pos rfl]
        simp [ustep, h4]
      · have hl : lays (xf j) = none := by simp [lays, h4]
        rw [hl]
        simp only
        have h55 : (xf j).at_ = 5 := by
          have := (R.sim j hj).told.len.2
          revert h5
          unfold ustep
          repeat' split
          all_goals (intro h5; simp at h5; try omega)
        rw [ustep_over _ _ h55]
        exact R.got j hj h55
    · rw [upd_other _ _ hji] at h5 ⊢
      have := R.got j hj h5
      split
      · exact this
      · rw [nth_set _ _ _ _ (by rw [R.sys.gsize]; exact hi), if_neg hji]; exact this
end
end Go.Proofs.Ytngihgdcoeokhaa
