/-
  Layer 5: all trails, and what they got: who has which block. The reference's threads and latch beside them.
-/
import Derived.Test.YtngihgdcoeokhaaLatchRef
namespace Go.Proofs.Ytngihgdcoeokhaa
open Go.ChangeShapes Go.WideShapes Go.ChangeAt Go.RowKit
set_option linter.unusedVariables false

/-- Everything that is made, and whose it is. -/
structure Sys (w0 w : World) (ow : Nat → Nat) (b g ab qb P : Nat) (tbf : Nat → Nat) (tvf mvf : Nat → Value) (Tf : Nat → Tr) (cs : List Int) (c : Int) (gl : List Int) : Prop where
  mem : MemAt w b g cs c
  all : ∀ i, i < P → w.cell? ⟨ab, i, none⟩ = some (.pointer (some ⟨tbf i, 0, none⟩))
  tr : ∀ i, i < P → TrAt w b (tbf i) (tvf i) (mvf i) (Tf i)
  got : Whole w qb 2 (nums gl)
  gsize : gl.length = P
  lb : ow b = 1
  lg : ow g = 1
  lqb : ow qb = 3
  lab : ow ab = 4
  ltb : ∀ i, i < P → ow (tbf i) = 10 + i
  ltv : ∀ i, i < P → ∀ k, (tvf i).ownBlock = some k → ow k = 10 + i
  lmv : ∀ i, i < P → ∀ k, (mvf i).ownBlock = some k → ow k = 10 + i
  old : ∀ k, k < w0.heap.size → ow k = 0
  bel : Below w0.heap.size w0 w

/-- The reference's. -/
structure RSys (w : World) (ow : Nat → Nat) (lb nb hb P : Nat) (xf : Nat → Th) (B : Bd) (cs : Array Value) : Prop where
  latch : Whole w lb 27 #[.int .i64 B.d, .int .i64 B.s]
  num : Whole w nb 2 #[.int .i64 B.n]
  whole : Whole w hb 39 cs
  size : cs.size = P * 3
  th : ∀ i, i < P → cs[i * 3]? = some (.int .i64 (xf i).at_) ∧ cs[i * 3 + 1]? = some (.int .i64 (xf i).tk) ∧ cs[i * 3 + 2]? = some (.int .i64 (xf i).saw)
  llb : ow lb = 2
  lnb : ow nb = 5
  lhb : ow hb = 6

section
variable {w0 w w' : World} {ow : Nat → Nat} {b g ab qb P : Nat} {tbf : Nat → Nat} {tvf mvf : Nat → Value} {Tf : Nat → Tr} {cs : List Int} {c : Int} {gl : List Int}

theorem Sys.new (S : Sys w0 w ow b g ab qb P tbf tvf mvf Tf cs c gl) {k : Nat} (h : ow k ≠ 0) : w0.heap.size ≤ k := by
  rcases Nat.lt_or_ge k w0.heap.size with h1 | h1
  · exact absurd (S.old k h1) h
  · exact h1
theorem Sys.st (S : Sys w0 w ow b g ab qb P tbf tvf mvf Tf cs c gl) {i : Nat} (hi : i < P) : St w b g (tbf i) (tvf i) (mvf i) (Tf i) ⟨cs, c⟩ :=
  ⟨S.tr i hi, S.mem, fun h => by have h1 := S.ltv i hi g h; have h2 := S.lg; omega⟩
theorem Sys.mine (S : Sys w0 w ow b g ab qb P tbf tvf mvf Tf cs c gl) {i k : Nat} (hi : i < P) (h : All b g (tbf i) (tvf i) (mvf i) k) : ow k = 1 ∨ ow k = 10 + i := by
  rcases h with rfl | rfl | rfl | h | h
  · exact .inl S.lb
  · exact .inl S.lg
  · exact .inr (S.ltb i hi)
  · exact .inr (S.ltv i hi k h)
  · exact .inr (S.lmv i hi k h)
theorem Sys.cellIn (S : Sys w0 w ow b g ab qb P tbf tvf mvf Tf cs c gl) {i : Nat} (hi : i < P) : CellIn w b g (tbf i) (tvf i) (mvf i) (some ⟨qb, i, none⟩) := by
  intro p hp
  injection hp with hp
  subst hp
  refine ⟨⟨_, (S.got.cell i).trans (nums_at gl i (by rw [S.gsize]; exact hi))⟩, S.got.frozen i, fun h => ?_⟩
  have h3 := S.lqb
  have := S.mine hi h
  simp only at this
  omega
/-- Behind a change of blocks that are none of these. -/
theorem Sys.only {L : Nat → Prop} (S : Sys w0 w ow b g ab qb P tbf tvf mvf Tf cs c gl) (h : Only (fun k => L (ow k)) w w') (h0 : ¬ L 0) (h1 : ¬ L 1) (h3 : ¬ L 3) (h4 : ¬ L 4) (h10 : ∀ i, i < P → ¬ L (10 + i)) : Sys w0 w' ow b g ab qb P tbf tvf mvf Tf cs c gl := by
  refine ⟨S.mem.only h (by rw [S.lb]; exact h1) (by rw [S.lg]; exact h1), fun i hi => ?_, fun i hi => ?_, S.got.only h (by rw [S.lqb]; exact h3), S.gsize, S.lb, S.lg, S.lqb, S.lab, S.ltb, S.ltv, S.lmv, S.old, S.bel.trans (h.below (fun k hk => S.new (fun e => h0 (e ▸ hk))) S.bel.size)⟩
  · have e := S.all i hi
    exact (h.cell (p := ⟨ab, i, none⟩) (World.block_lt_of_cell? w _ e) (by simp only; rw [S.lab]; exact h4)).trans e
  · refine (S.tr i hi).only h (by rw [S.ltb i hi]; exact h10 i hi) (fun k hk => ?_) (fun k hk => ?_)
    · rw [S.ltv i hi k hk]; exact h10 i hi
    · rw [S.lmv i hi k hk]; exact h10 i hi
theorem Sys.still (S : Sys w0 w ow b g ab qb P tbf tvf mvf Tf cs c gl) (h : Below w.heap.size w w') : Sys w0 w' ow b g ab qb P tbf tvf mvf Tf cs c gl :=
  S.only (L := fun _ => False) (Only.of_below h _) id id id id (fun _ _ => id)
/-- Behind a count of the memory, or a change of its cells. -/
theorem Sys.memory {cs' : List Int} {c' : Int} (S : Sys w0 w ow b g ab qb P tbf tvf mvf Tf cs c gl) (hm : MemAt w' b g cs' c') (h : Only (Two b g) w w') : Sys w0 w' ow b g ab qb P tbf tvf mvf Tf cs' c' gl := by
  have ho : Only (fun k => ow k = 1) w w' := h.mono (fun k _ hk => by
    rcases hk with rfl | rfl
    · exact S.lb
    · exact S.lg)
  refine ⟨hm, fun i hi => ?_, fun i hi => ?_, S.got.only ho (by rw [S.lqb]; omega), S.gsize, S.lb, S.lg, S.lqb, S.lab, S.ltb, S.ltv, S.lmv, S.old, S.bel.trans (ho.below (fun k hk => S.new (by omega)) S.bel.size)⟩
  · have e := S.all i hi
    exact (ho.cell (p := ⟨ab, i, none⟩) (World.block_lt_of_cell? w _ e) (by simp only; rw [S.lab]; omega)).trans e
  · refine (S.tr i hi).only ho (by rw [S.ltb i hi]; omega) (fun k hk => ?_) (fun k hk => ?_)
    · rw [S.ltv i hi k hk]; omega
    · rw [S.lmv i hi k hk]; omega

/-- Behind a step of trail i. -/
theorem Sys.stepped {x : Th} {B : Bd} {T' : Tr} {c' : Int} {tv' mv' : Value} {i : Nat} (S : Sys w0 w ow b g ab qb P tbf tvf mvf Tf cs c gl) (hi : i < P) (hS : US x B w b g (tbf i) (tvf i) (mvf i) ⟨qb, i, none⟩ c T' c' tv' mv' w') :
    Sys w0 w' (relab ow w.heap.size (10 + i)) b g ab qb P tbf (upd tvf i tv') (upd mvf i mv') (upd Tf i T') (ustep x B).2.cells c' (match lays x with | none => gl | some k => gl.set i k) ∧
    Only (fun k => ow k = 1 ∨ ow k = 10 + i ∨ ow k = 3) w w' := by
  have hml : ∀ k, k < w.heap.size → May b g (tbf i) (tvf i) (mvf i) (some ⟨qb, i, none⟩) k → ow k = 1 ∨ ow k = 10 + i ∨ ow k = 3 := by
    rintro k _ (h | ⟨p, hp, rfl⟩)
    · rcases S.mine hi h with h1 | h1
      · exact .inl h1
      · exact .inr (.inl h1)
    · injection hp with hp
      subst hp
      exact .inr (.inr S.lqb)
  have ho : Only (fun k => ow k = 1 ∨ ow k = 10 + i ∨ ow k = 3) w w' := hS.only.mono hml
  have hna : ¬ All b g (tbf i) (tvf i) (mvf i) qb := fun h => by
    have h3 := S.lqb
    rcases S.mine hi h with h1 | h1 <;> omega
  have hb' : Below w0.heap.size w0 w' := S.bel.trans (ho.below (fun k hk => S.new (by omega)) S.bel.size)
  refine ⟨⟨hS.st.mem, ?_, ?_, hS.got S.got hna, ?_, ?_, ?_, ?_, ?_, ?_, ?_, ?_, ?_, hb'⟩, ho⟩
  · intro j hj
    have h1 := S.all j hj
    exact (ho.cell (p := ⟨ab, j, none⟩) (World.block_lt_of_cell? w _ h1) (by have := S.lab; simp only; omega)).trans h1
  · intro j hj
    by_cases hji : j = i
    · subst hji
      rw [upd_same, upd_same, upd_same]
      exact hS.st.tr
    · rw [upd_other _ _ hji, upd_other _ _ hji, upd_other _ _ hji]
      refine (S.tr j hj).only ho ?_ (fun k hk => ?_) (fun k hk => ?_)
      · have := S.ltb j hj; omega
      · have := S.ltv j hj k hk; omega
      · have := S.lmv j hj k hk; omega
  · split
    · exact S.gsize
    · rw [List.length_set]; exact S.gsize
  · rw [relab_lt S.mem.top.lt]; exact S.lb
  · rw [relab_lt S.mem.row.lt]; exact S.lg
  · rw [relab_lt S.got.lt]; exact S.lqb
  · rw [relab_lt (World.block_lt_of_cell? w _ (S.all i hi))]; exact S.lab
  · intro j hj
    rw [relab_lt (S.tr j hj).top.lt]; exact S.ltb j hj
  · intro j hj k hk
    by_cases hji : j = i
    · subst hji
      rw [upd_same] at hk
      by_cases hlt : k < w.heap.size
      · rw [relab_lt hlt]
        rcases hS.t k hk with h1 | h1
        · exact S.ltv j hj k h1
        · omega
      · rw [relab_ge (by omega)]
    · rw [upd_other _ _ hji] at hk
      rw [relab_lt ((S.tr j hj).told.lt k hk).2]; exact S.ltv j hj k hk
  · intro j hj k hk
    by_cases hji : j = i
    · subst hji
      rw [upd_same] at hk
      by_cases hlt : k < w.heap.size
      · rw [relab_lt hlt]
        rcases hS.m k hk with h1 | h1
        · exact S.lmv j hj k h1
        · omega
      · rw [relab_ge (by omega)]
    · rw [upd_other _ _ hji] at hk
      rw [relab_lt ((S.tr j hj).marks.lt k hk).2]; exact S.lmv j hj k hk
  · intro k hk
    have := S.bel.size
    rw [relab_lt (by omega)]; exact S.old k hk
end

section
variable {w0 w w' : World} {ow : Nat → Nat} {lb nb hb P : Nat} {xf : Nat → Th} {B : Bd} {cs : Array Value}
theorem RSys.only {L : Nat → Prop} (R : RSys w ow lb nb hb P xf B cs) (h : Only (fun k => L (ow k)) w w') (h2 : ¬ L 2) (h5 : ¬ L 5) (h6 : ¬ L 6) : RSys w' ow lb nb hb P xf B cs :=
  ⟨R.latch.only h (by rw [R.llb]; exact h2), R.num.only h (by rw [R.lnb]; exact h5), R.whole.only h (by rw [R.lhb]; exact h6), R.size, R.th, R.llb, R.lnb, R.lhb⟩
theorem RSys.still (R : RSys w ow lb nb hb P xf B cs) (h : Below w.heap.size w w') : RSys w' ow lb nb hb P xf B cs := R.only (L := fun _ => False) (Only.of_below h _) id id id
/-- Behind a change of other blocks, under labels that agree. -/
theorem RSys.moved {ow' : Nat → Nat} {L : Nat → Prop} (R : RSys w ow lb nb hb P xf B cs) (h : Only (fun k => L (ow k)) w w') (h2 : ¬ L 2) (h5 : ¬ L 5) (h6 : ¬ L 6) (hag : ∀ k, k < w.heap.size → ow' k = ow k) : RSys w' ow' lb nb hb P xf B cs :=
  ⟨R.latch.only h (by rw [R.llb]; exact h2), R.num.only h (by rw [R.lnb]; exact h5), R.whole.only h (by rw [R.lhb]; exact h6), R.size, R.th, by rw [hag _ R.latch.lt]; exact R.llb, by rw [hag _ R.num.lt]; exact R.lnb, by rw [hag _ R.whole.lt]; exact R.lhb⟩
end
end Go.Proofs.Ytngihgdcoeokhaa
