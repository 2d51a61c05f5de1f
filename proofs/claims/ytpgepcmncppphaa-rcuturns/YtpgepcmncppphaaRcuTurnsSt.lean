/-
  Layer 4: what the statement on turns makes, and keeps from step to step.
-/
import Derived.Test.YtpgepcmncppphaaRcuSys
namespace Go.Proofs.Ytpgepcmncppphaa
open Go.ChangeShapes Go.WideShapes Go.ChangeAt Go.RowKit
set_option linter.unusedVariables false

/-- The arguments in memory: calls, and turns. -/
structure Arg4 (w : World) (LA : Option Addr) (LB LO P : Nat) (kf pf : Nat → Int) (TA : Option Addr) (TB TO tn : Nat) : Prop where
  la : 0 < P → LA = some ⟨LB, LO, none⟩
  k : ∀ i, i < P → w.cell? ⟨LB, LO + i * 2, none⟩ = some (.int .u8 (kf i)) ∧ 0 ≤ kf i ∧ kf i ≤ 255
  p : ∀ i, i < P → w.cell? ⟨LB, LO + i * 2 + 1, none⟩ = some (.int .u8 (pf i)) ∧ 0 ≤ pf i ∧ pf i ≤ 255
  ta : 0 < tn → TA = some ⟨TB, TO, none⟩
  turn : ∀ k, k < tn → ∃ x : Int, w.cell? ⟨TB, TO + k, none⟩ = some (.int .u8 x) ∧ 0 ≤ x ∧ x ≤ 255

section
variable {w0 w w' : World} {LA : Option Addr} {LB LO P : Nat} {kf pf : Nat → Int} {TA : Option Addr} {TB TO tn : Nat}
theorem Arg4.still (H : Arg4 w0 LA LB LO P kf pf TA TB TO tn) (hb : Below w0.heap.size w0 w) : Arg4 w LA LB LO P kf pf TA TB TO tn := by
  have key : ∀ p u, w0.cell? p = some u → w.cell? p = some u := fun p u hc => (hb.cell (World.block_lt_of_cell? w0 _ hc)).trans hc
  refine ⟨H.la, fun i hi => ⟨key _ _ (H.k i hi).1, (H.k i hi).2⟩, fun i hi => ⟨key _ _ (H.p i hi).1, (H.p i hi).2⟩, H.ta, fun k hk => ?_⟩
  obtain ⟨x, h1, h2⟩ := H.turn k hk
  exact ⟨x, key _ _ h1, h2⟩
end

/-- Six cells are laid. -/
def put6 (cs : Array Value) (o : Nat) (v0 v1 v2 v3 v4 v5 : Value) : Array Value :=
  (((((cs.setIfInBounds o v0).setIfInBounds (o + 1) v1).setIfInBounds (o + 2) v2).setIfInBounds (o + 3) v3).setIfInBounds (o + 4) v4).setIfInBounds (o + 5) v5
theorem put6_size (cs : Array Value) (o : Nat) (v0 v1 v2 v3 v4 v5 : Value) : (put6 cs o v0 v1 v2 v3 v4 v5).size = cs.size := by simp [put6]
theorem put6_get {cs : Array Value} {o : Nat} (v0 v1 v2 v3 v4 v5 : Value) (h : o + 6 ≤ cs.size) (j : Nat) :
    (put6 cs o v0 v1 v2 v3 v4 v5)[j]? = if j = o + 5 then some v5 else if j = o + 4 then some v4 else if j = o + 3 then some v3 else if j = o + 2 then some v2 else if j = o + 1 then some v1 else if j = o then some v0 else cs[j]? := by
  unfold put6
  rw [set_at _ (by simp; omega), set_at _ (by simp; omega), set_at _ (by simp; omega), set_at _ (by simp; omega), set_at _ (by simp; omega), set_at _ (by omega)]

/-- The first trails and tasks are made. -/
structure Half (w0 w : World) (ow : Nat → Nat) (b g bb hb qb P : Nat) (kf : Nat → Int) (rf : Nat → Nat) (tbf : Nat → Nat) (av : Value) (i k : Nat) (cs : Array Value) : Prop where
  mem : MemAt w b g (List.replicate 30 0) 0
  board : Whole w bb 29 (nums bl0)
  row : w.ownsRow 0 33 1 av i ((List.range i).map (fun j => Value.pointer (some ⟨tbf j, 0, none⟩)))
  tr : ∀ j, j < i → TrAt w b (tbf j) (.slice none 0 0) (.slice none 0 0) newTr
  whole : Whole w hb 37 cs
  size : cs.size = P * 6
  th : ∀ j, j < k → TaskIn cs j (kf j) (rf j) rt0
  flag : Whole w qb 4 (madeCells #[.bool false] P)
  lb : ow b = 1
  lg : ow g = 1
  lbb : ow bb = 2
  lqb : ow qb = 3
  lab : ∀ k, av.ownBlock = some k → ow k = 4
  lhb : ow hb = 5
  ltb : ∀ j, j < i → ow (tbf j) = 10 + j
  old : ∀ k, k < w0.heap.size → ow k = 0
  bel : Below w0.heap.size w0 w

section
variable {w0 w w1 w2 w' : World} {ow : Nat → Nat} {b g bb hb qb P : Nat} {kf : Nat → Int} {rf : Nat → Nat} {tbf : Nat → Nat} {av av' : Value} {i k : Nat} {cs : Array Value}

theorem Half.new (H : Half w0 w ow b g bb hb qb P kf rf tbf av i k cs) {j : Nat} (h : ow j ≠ 0) : w0.heap.size ≤ j := by
  rcases Nat.lt_or_ge j w0.heap.size with h1 | h1
  · exact absurd (H.old j h1) h
  · exact h1
/-- One trail more. -/
theorem Half.more {tb : Nat} {o : Obj} (H : Half w0 w ow b g bb hb qb P kf rf tbf av i k cs) (hs : St w1 b g tb (.slice none 0 0) (.slice none 0 0) newTr ⟨List.replicate 30 0, 0⟩) (htb : w.heap.size ≤ tb) (hb1 : Below w.heap.size w w1)
    (hg : (w1.alloc o).grownBy w2 av.ownBlock) (hown : w2.ownsRow 0 33 1 av' (i + 1) (((List.range i).map (fun j => Value.pointer (some ⟨tbf j, 0, none⟩))) ++ [.pointer (some ⟨tb, 0, none⟩)]))
    (hat : av'.ownBlock = av.ownBlock ∨ av'.ownBlock = some (w1.alloc o).heap.size) :
    Half w0 w2 (relab (relab ow w.heap.size (10 + i)) w1.heap.size 4) b g bb hb qb P kf rf (upd tbf i tb) av' (i + 1) k cs := by
  have hsz := hb1.size
  have ho : Only (fun k => av.ownBlock = some k) w1 w2 := ((Only.refl _ w1).alloc o).grown hg (fun k hk => .inl hk)
  have hfalse := Only.of_below hb1 (fun _ => False)
  have hna : ∀ k, ow k ≠ 4 → ¬ av.ownBlock = some k := fun k hk he => hk (H.lab k he)
  have rl : ∀ k, k < w.heap.size → relab (relab ow w.heap.size (10 + i)) w1.heap.size 4 k = ow k := fun k hk => by rw [relab_lt (by omega), relab_lt hk]
  have htlt : tb < w1.heap.size := hs.tr.top.lt
  have hbel1 := H.bel.trans (hb1.mono H.bel.size)
  have hrow1 : w1.ownsRow 0 33 1 av i ((List.range i).map (fun j => Value.pointer (some ⟨tbf j, 0, none⟩))) := own_still H.row hb1
  have hsz1 : (w1.alloc o).heap.size = w1.heap.size + 1 := by simp
  refine ⟨hs.mem.only ho (hna b (by have := H.lb; omega)) (hna g (by have := H.lg; omega)), ?_, ?_, ?_, ?_, H.size, H.th, ?_, ?_, ?_, ?_, ?_, ?_, ?_, ?_, ?_, ?_⟩
  · exact (H.board.only hfalse id).only ho (hna _ (by have := H.lbb; omega))
  · have e : ((List.range (i + 1)).map (fun j => Value.pointer (some ⟨upd tbf i tb j, 0, none⟩))) = ((List.range i).map (fun j => Value.pointer (some ⟨tbf j, 0, none⟩))) ++ [.pointer (some ⟨tb, 0, none⟩)] := by
      rw [List.range_succ, List.map_append]
      congr 1
      · apply List.map_congr_left
        intro j hj
        rw [upd_other _ _ (by have := List.mem_range.1 hj; omega)]
      · simp [upd_same]
    rw [e]
    exact hown
  · intro j hj
    by_cases hji : j = i
    · subst hji
      rw [upd_same]
      exact hs.tr.only ho (fun he => own_apart hrow1 hs.tr.top (by decide) he) (fun k hk => by simp [Value.ownBlock] at hk) (fun k hk => by simp [Value.ownBlock] at hk)
    · rw [upd_other _ _ hji]
      refine ((H.tr j (by omega)).only hfalse id (fun _ _ => id) (fun _ _ => id)).only ho (hna _ ?_) (fun k hk => by simp [Value.ownBlock] at hk) (fun k hk => by simp [Value.ownBlock] at hk)
      have := H.ltb j (by omega)
      omega
  · exact (H.whole.only hfalse id).only ho (hna _ (by have := H.lhb; omega))
  · exact (H.flag.only hfalse id).only ho (hna _ (by have := H.lqb; omega))
  · rw [rl b H.mem.top.lt]; exact H.lb
  · rw [rl g H.mem.row.lt]; exact H.lg
  · rw [rl bb H.board.lt]; exact H.lbb
  · rw [rl qb H.flag.lt]; exact H.lqb
  · intro k hk
    rcases hat with ha | ha
    · rw [ha] at hk
      rw [rl k (H.row.lt k hk).2]; exact H.lab k hk
    · rw [ha, hsz1] at hk
      injection hk with hk
      rw [relab_ge (by omega)]
  · rw [rl hb H.whole.lt]; exact H.lhb
  · intro j hj
    by_cases hji : j = i
    · subst hji
      rw [upd_same, relab_lt htlt, relab_ge htb]
    · rw [upd_other _ _ hji, rl _ (H.tr j (by omega)).top.lt]
      exact H.ltb j (by omega)
  · intro k hk
    have := H.bel.size
    rw [rl k (by omega)]; exact H.old k hk
  · exact hbel1.trans (ho.below (fun k hk => by
      have h4 := H.lab k hk
      exact H.new (by omega)) hbel1.size)

/-- Behind a change of the tasks' row alone. -/
theorem Half.laid {cs' : Array Value} {k' : Nat} (H : Half w0 w ow b g bb hb qb P kf rf tbf av i k cs) (ho : Only (fun j => j = hb) w w') (hw : Whole w' hb 37 cs') (hs : cs'.size = P * 6) (hth : ∀ j, j < k' → TaskIn cs' j (kf j) (rf j) rt0) :
    Half w0 w' ow b g bb hb qb P kf rf tbf av i k' cs' := by
  have ho' : Only (fun j => ow j = 5) w w' := ho.mono (fun j _ hj => by subst hj; exact H.lhb)
  refine ⟨H.mem.only ho' (by have := H.lb; omega) (by have := H.lg; omega), H.board.only ho' (by have := H.lbb; omega), own_only H.row ho' (fun j hj => by have := H.lab j hj; omega),
    fun j hj => (H.tr j hj).only ho' (by have := H.ltb j hj; omega) (fun k hk => by simp [Value.ownBlock] at hk) (fun k hk => by simp [Value.ownBlock] at hk), hw, hs, hth, H.flag.only ho' (by have := H.lqb; omega), H.lb, H.lg, H.lbb, H.lqb, H.lab, H.lhb, H.ltb, H.old,
    H.bel.trans (ho'.below (fun j hj => H.new (by omega)) H.bel.size)⟩
theorem Half.still (H : Half w0 w ow b g bb hb qb P kf rf tbf av i k cs) (h : Below w.heap.size w w') : Half w0 w' ow b g bb hb qb P kf rf tbf av i k cs :=
  H.laid ((Only.of_below h (fun _ => False)).mono (fun _ _ h => h.elim)) (H.whole.below h H.whole.lt) H.size H.th
/-- One task more. -/
theorem Half.task (H : Half w0 w ow b g bb hb qb P kf rf tbf av i k cs) (hk : k < P) :
    Half w0 ((((((w.setCell ⟨hb, k * 6, none⟩ (.int .u8 (kf k))).setCell ⟨hb, k * 6 + 1, none⟩ (.int .i64 (rf k))).setCell ⟨hb, k * 6 + 2, none⟩ (.int .i64 0)).setCell ⟨hb, k * 6 + 3, none⟩ (.int .i64 0)).setCell ⟨hb, k * 6 + 4, none⟩ (.bool false)).setCell ⟨hb, k * 6 + 5, none⟩ (.bool false))
      ow b g bb hb qb P kf rf tbf av i (k + 1) (put6 cs (k * 6) (.int .u8 (kf k)) (.int .i64 (rf k)) (.int .i64 0) (.int .i64 0) (.bool false) (.bool false)) := by
  have hfit : k * 6 + 6 ≤ cs.size := by rw [H.size]; omega
  refine H.laid ?_ ?_ (by rw [put6_size]; exact H.size) (fun j hj => ?_)
  · exact ((((((Only.refl (fun j => j = hb) w).setCell (p := ⟨hb, k * 6, none⟩) (.inl rfl) _).setCell (p := ⟨hb, k * 6 + 1, none⟩) (.inl rfl) _).setCell (p := ⟨hb, k * 6 + 2, none⟩) (.inl rfl) _).setCell (p := ⟨hb, k * 6 + 3, none⟩) (.inl rfl) _).setCell (p := ⟨hb, k * 6 + 4, none⟩) (.inl rfl) _).setCell (p := ⟨hb, k * 6 + 5, none⟩) (.inl rfl) _
  · exact (((((H.whole.put _ _).put _ _).put _ _).put _ _).put _ _).put _ _
  · unfold TaskIn
    simp only [put6_get _ _ _ _ _ _ hfit]
    by_cases hjk : j = k
    · subst hjk
      simp [rt0]
    · obtain ⟨h0, h1, h2, h3, h4, h5⟩ := H.th j (by omega)
      have key : ∀ q, q < 6 → ∀ v0 v1 v2 v3 v4 v5 : Option Value, (if j * 6 + q = k * 6 + 5 then v5 else if j * 6 + q = k * 6 + 4 then v4 else if j * 6 + q = k * 6 + 3 then v3 else if j * 6 + q = k * 6 + 2 then v2 else if j * 6 + q = k * 6 + 1 then v1 else if j * 6 + q = k * 6 then v0 else cs[j * 6 + q]?) = cs[j * 6 + q]? := by
        intro q hq v0 v1 v2 v3 v4 v5
        rw [if_neg (by omega), if_neg (by omega), if_neg (by omega), if_neg (by omega), if_neg (by omega), if_neg (by omega)]
      exact ⟨(key 0 (by omega) ..).trans h0, (key 1 (by omega) ..).trans h1, (key 2 (by omega) ..).trans h2, (key 3 (by omega) ..).trans h3, (key 4 (by omega) ..).trans h4, (key 5 (by omega) ..).trans h5⟩

/-- All are made. -/
theorem Half.sys {ab ac : Nat} (H : Half w0 w ow b g bb hb qb P kf rf tbf (.slice (some ⟨ab, 0, none⟩) P ac) P P cs) :
    Sys w0 w ow b g bb ab hb qb P kf rf tbf (fun _ => .slice none 0 0) (fun _ => .slice none 0 0) (fun _ => newTr) (fun _ => rt0) (fun _ => false) ⟨List.replicate 30 0, 0⟩ bl0 cs (madeCells #[.bool false] P) := by
  refine ⟨H.mem, by simp, H.board, by simp [bl0], fun i hi => ?_, H.tr, H.whole, H.size, H.th, H.flag, size_madeCells _ _, fun i hi => ?_, H.lb, H.lg, H.lbb, H.lqb, H.lab ab rfl, H.lhb, H.ltb, fun i hi k hk => by simp [Value.ownBlock] at hk, fun i hi k hk => by simp [Value.ownBlock] at hk, H.old, H.bel⟩
  · rw [H.row.cellAt i (by omega), List.getElem?_map, List.getElem?_range hi]
    rfl
  · simp [madeCells, hi, Nat.mod_one]
end

/-- The main loop's relation. -/
def TurnsRel (w0 : World) (b g bb ab hb qb P : Nat) (kf : Nat → Int) (rf : Nat → Nat) (tbf : Nat → Nat) (tn : Nat) (iv : Value) (wr : World) : Prop :=
  ∃ n : Nat, n ≤ tn ∧ iv = .int .i64 n ∧ ∃ ow tvf mvf Tf xf m bl cs fl, Sys w0 wr ow b g bb ab hb qb P kf rf tbf tvf mvf Tf xf (fun i => (xf i).went) m bl cs fl ∧ (∀ i, i < P → Sim (kf i) (xf i) (Tf i)) ∧ seen m.cs 3 17 = bl ∧ m.cnt ≤ n
/-- The first loop's. -/
def MakeRel (w0 : World) (b g bb hb qb P : Nat) (kf : Nat → Int) (rf : Nat → Nat) (av iv : Value) (wr : World) : Prop :=
  ∃ i : Nat, i ≤ P ∧ iv = .int .i64 i ∧ ∃ ow tbf cs, Half w0 wr ow b g bb hb qb P kf rf tbf av i i cs
end Go.Proofs.Ytpgepcmncppphaa
