/-
  Layer 4: all trails, the reference's tasks and its board, the flags: who has which block.
-/
import Derived.Test.YtpgepcmncppphaaRcuRefStep
namespace Go.Proofs.Ytpgepcmncppphaa
open Go.ChangeShapes Go.WideShapes Go.ChangeAt Go.RowKit
set_option linter.unusedVariables false

/-- A task of the reference in its row. -/
def TaskIn (cs : Array Value) (i : Nat) (kd : Int) (r : Nat) (x : Rt) : Prop :=
  cs[i * 6]? = some (.int .u8 kd) ∧ cs[i * 6 + 1]? = some (.int .i64 r) ∧ cs[i * 6 + 2]? = some (.int .i64 x.at_) ∧ cs[i * 6 + 3]? = some (.int .i64 x.saw) ∧ cs[i * 6 + 4]? = some (.bool x.over) ∧ cs[i * 6 + 5]? = some (.bool x.went)

/-- Everything that is made, and whose it is. -/
structure Sys (w0 w : World) (ow : Nat → Nat) (b g bb ab hb qb P : Nat) (kf : Nat → Int) (rf : Nat → Nat) (tbf : Nat → Nat) (tvf mvf : Nat → Value) (Tf : Nat → Tr) (xf : Nat → Rt) (wf : Nat → Bool) (m : Mm) (bl : List Int) (cs fl : Array Value) : Prop where
  mem : MemAt w b g m.cs m.cnt
  len : m.cs.length = 30
  board : Whole w bb 29 (nums bl)
  blen : bl.length = 17
  all : ∀ i, i < P → w.cell? ⟨ab, i, none⟩ = some (.pointer (some ⟨tbf i, 0, none⟩))
  tr : ∀ i, i < P → TrAt w b (tbf i) (tvf i) (mvf i) (Tf i)
  whole : Whole w hb 37 cs
  size : cs.size = P * 6
  th : ∀ i, i < P → TaskIn cs i (kf i) (rf i) (xf i)
  flag : Whole w qb 4 fl
  fsize : fl.size = P
  fls : ∀ i, i < P → fl[i]? = some (.bool (wf i))
  lb : ow b = 1
  lg : ow g = 1
  lbb : ow bb = 2
  lqb : ow qb = 3
  lab : ow ab = 4
  lhb : ow hb = 5
  ltb : ∀ i, i < P → ow (tbf i) = 10 + i
  ltv : ∀ i, i < P → ∀ k, (tvf i).ownBlock = some k → ow k = 10 + i
  lmv : ∀ i, i < P → ∀ k, (mvf i).ownBlock = some k → ow k = 10 + i
  old : ∀ k, k < w0.heap.size → ow k = 0
  bel : Below w0.heap.size w0 w

section
variable {w0 w w' : World} {ow : Nat → Nat} {b g bb ab hb qb P : Nat} {kf : Nat → Int} {rf : Nat → Nat} {tbf : Nat → Nat} {tvf mvf : Nat → Value} {Tf : Nat → Tr} {xf : Nat → Rt} {wf : Nat → Bool} {m m' : Mm} {bl bl' : List Int} {cs fl : Array Value}

theorem Sys.new (S : Sys w0 w ow b g bb ab hb qb P kf rf tbf tvf mvf Tf xf wf m bl cs fl) {k : Nat} (h : ow k ≠ 0) : w0.heap.size ≤ k := by
  rcases Nat.lt_or_ge k w0.heap.size with h1 | h1
  · exact absurd (S.old k h1) h
  · exact h1
theorem Sys.st (S : Sys w0 w ow b g bb ab hb qb P kf rf tbf tvf mvf Tf xf wf m bl cs fl) {i : Nat} (hi : i < P) : St w b g (tbf i) (tvf i) (mvf i) (Tf i) m :=
  ⟨S.tr i hi, S.mem, fun h => by have h1 := S.ltv i hi g h; have h2 := S.lg; omega⟩
theorem Sys.mine (S : Sys w0 w ow b g bb ab hb qb P kf rf tbf tvf mvf Tf xf wf m bl cs fl) {i k : Nat} (hi : i < P) (h : All b g (tbf i) (tvf i) (mvf i) k) : ow k = 1 ∨ ow k = 10 + i := by
  rcases h with rfl | rfl | rfl | h | h
  · exact .inl S.lb
  · exact .inl S.lg
  · exact .inr (S.ltb i hi)
  · exact .inr (S.ltv i hi k h)
  · exact .inr (S.lmv i hi k h)
theorem Sys.flagIn (S : Sys w0 w ow b g bb ab hb qb P kf rf tbf tvf mvf Tf xf wf m bl cs fl) {i : Nat} (hi : i < P) : FlagIn w b g (tbf i) (tvf i) (mvf i) (some ⟨qb, i, none⟩) := by
  intro p hp
  injection hp with hp
  subst hp
  refine ⟨⟨wf i, (S.flag.cell i).trans (S.fls i hi)⟩, S.flag.frozen i, fun h => ?_⟩
  have h3 := S.lqb
  have := S.mine hi h
  simp only at this
  omega
theorem Sys.still (S : Sys w0 w ow b g bb ab hb qb P kf rf tbf tvf mvf Tf xf wf m bl cs fl) (h : Below w.heap.size w w') : Sys w0 w' ow b g bb ab hb qb P kf rf tbf tvf mvf Tf xf wf m bl cs fl := by
  have ho := Only.of_below h (fun _ => False)
  exact ⟨S.mem.only ho id id, S.len, S.board.only ho id, S.blen, fun i hi => (h.cell (World.block_lt_of_cell? w _ (S.all i hi))).trans (S.all i hi), fun i hi => (S.tr i hi).only ho id (fun _ _ => id) (fun _ _ => id), S.whole.only ho id, S.size, S.th,
    S.flag.only ho id, S.fsize, S.fls, S.lb, S.lg, S.lbb, S.lqb, S.lab, S.lhb, S.ltb, S.ltv, S.lmv, S.old, S.bel.trans (h.mono S.bel.size)⟩

/-- Behind a step of trail i. -/
theorem Sys.stepped {y : Rt} {kd : Int} {a : Bool} {T' : Tr} {tv' mv' : Value} {i : Nat} (S : Sys w0 w ow b g bb ab hb qb P kf rf tbf tvf mvf Tf xf wf m bl cs fl) (hi : i < P) (hS : SStep kd y bl' w b g (tbf i) (tvf i) (mvf i) (some ⟨qb, i, none⟩) m a T' m' tv' mv' w') :
    Sys w0 w' (relab ow w.heap.size (10 + i)) b g bb ab hb qb P kf rf tbf (upd tvf i tv') (upd mvf i mv') (upd Tf i T') xf (upd wf i (wf i || a)) m' bl cs (if a then fl.setIfInBounds i (.bool true) else fl) := by
  have hml : ∀ k, k < w.heap.size → May b g (tbf i) (tvf i) (mvf i) (some ⟨qb, i, none⟩) k → ow k = 1 ∨ ow k = 10 + i ∨ ow k = 3 := by
    rintro k _ (h | ⟨p, hp, rfl⟩)
    · rcases S.mine hi h with h1 | h1
      · exact .inl h1
      · exact .inr (.inl h1)
    · injection hp with hp
      subst hp
      exact .inr (.inr S.lqb)
  have ho : Only (fun k => ow k = 1 ∨ ow k = 10 + i ∨ ow k = 3) w w' := hS.only.mono hml
  have hna : ¬ All b g (tbf i) (tvf i) (mvf i) qb := fun h => by
    have h3 := S.lqb
    rcases S.mine hi h with h1 | h1 <;> omega
  have hb' : Below w0.heap.size w0 w' := S.bel.trans (ho.below (fun k hk => S.new (by omega)) S.bel.size)
  refine ⟨hS.st.mem, hS.size, ?_, S.blen, ?_, ?_, ?_, S.size, S.th, hS.flags S.flag hna, ?_, ?_, ?_, ?_, ?_, ?_, ?_, ?_, ?_, ?_, ?_, ?_, hb'⟩
  · exact S.board.only ho (by have := S.lbb; omega)
  · intro j hj
    have h1 := S.all j hj
    exact (ho.cell (p := ⟨ab, j, none⟩) (World.block_lt_of_cell? w _ h1) (by have := S.lab; simp only; omega)).trans h1
  · intro j hj
    by_cases hji : j = i
    · subst hji
      rw [upd_same, upd_same, upd_same]
      exact hS.st.tr
    · rw [upd_other _ _ hji, upd_other _ _ hji, upd_other _ _ hji]
      refine (S.tr j hj).only ho ?_ (fun k hk => ?_) (fun k hk => ?_)
      · have := S.ltb j hj; omega
      · have := S.ltv j hj k hk; omega
      · have := S.lmv j hj k hk; omega
  · exact S.whole.only ho (by have := S.lhb; omega)
  · cases a
    · exact S.fsize
    · simpa using S.fsize
  · intro j hj
    have hfi : i < fl.size := by rw [S.fsize]; exact hi
    cases a with
    | false =>
      by_cases hji : j = i
      · subst hji
        rw [upd_same]
        simpa using S.fls j hj
      · rw [upd_other _ _ hji]
        simpa using S.fls j hj
    | true =>
      show (fl.setIfInBounds i (.bool true))[j]? = _
      rw [set_at _ hfi j]
      by_cases hji : j = i
      · subst hji
        rw [upd_same]
        simp
      · rw [upd_other _ _ hji, if_neg hji]
        exact S.fls j hj
  · rw [relab_lt S.mem.top.lt]; exact S.lb
  · rw [relab_lt S.mem.row.lt]; exact S.lg
  · rw [relab_lt S.board.lt]; exact S.lbb
  · rw [relab_lt S.flag.lt]; exact S.lqb
  · rw [relab_lt (World.block_lt_of_cell? w _ (S.all i hi))]; exact S.lab
  · rw [relab_lt S.whole.lt]; exact S.lhb
  · intro j hj
    rw [relab_lt (S.tr j hj).top.lt]; exact S.ltb j hj
  · intro j hj k hk
    by_cases hji : j = i
    · subst hji
      rw [upd_same] at hk
      by_cases hlt : k < w.heap.size
      · rw [relab_lt hlt]
        rcases hS.rt k hk with h1 | h1
        · exact S.ltv j hj k h1
        · omega
      · rw [relab_ge (by omega)]
    · rw [upd_other _ _ hji] at hk
      rw [relab_lt ((S.tr j hj).told.lt k hk).2]; exact S.ltv j hj k hk
  · intro j hj k hk
    by_cases hji : j = i
    · subst hji
      rw [upd_same] at hk
      by_cases hlt : k < w.heap.size
      · rw [relab_lt hlt]
        rcases hS.rm k hk with h1 | h1
        · exact S.lmv j hj k h1
        · omega
      · rw [relab_ge (by omega)]
    · rw [upd_other _ _ hji] at hk
      rw [relab_lt ((S.tr j hj).marks.lt k hk).2]; exact S.lmv j hj k hk
  · intro k hk
    have := S.bel.size
    rw [relab_lt (by omega)]; exact S.old k hk

/-- The reference's task i. -/
theorem Sys.rs (S : Sys w0 w ow b g bb ab hb qb P kf rf tbf tvf mvf Tf xf wf m bl cs fl) {i : Nat} (hi : i < P) : Rs w cs hb (i * 6) bb (kf i) (rf i) (xf i) bl cs w := by
  obtain ⟨h0, h1, h2, h3, h4, h5⟩ := S.th i hi
  exact ⟨S.whole, by rw [S.size]; omega, h0, h1, h2, h3, h4, h5, rfl, fun _ _ => rfl, S.board, S.blen, Only.refl _ _⟩
/-- Behind its step. -/
theorem Sys.ref {y : Rt} {cs' : Array Value} {i : Nat} (S : Sys w0 w ow b g bb ab hb qb P kf rf tbf tvf mvf Tf xf wf m bl cs fl) (hi : i < P) (hR : Rs w cs hb (i * 6) bb (kf i) (rf i) y bl' cs' w') :
    Sys w0 w' ow b g bb ab hb qb P kf rf tbf tvf mvf Tf (upd xf i y) wf m bl' cs' fl := by
  have ho : Only (fun k => ow k = 5 ∨ ow k = 2) w w' := hR.only.mono (fun k _ hk => by
    rcases hk with rfl | rfl
    · exact .inl S.lhb
    · exact .inr S.lbb)
  have hb' : Below w0.heap.size w0 w' := S.bel.trans (ho.below (fun k hk => S.new (by omega)) S.bel.size)
  refine ⟨S.mem.only ho (by have := S.lb; omega) (by have := S.lg; omega), S.len, hR.board, hR.len, ?_, ?_, hR.whole, hR.size.trans S.size, ?_, S.flag.only ho (by have := S.lqb; omega), S.fsize, S.fls, S.lb, S.lg, S.lbb, S.lqb, S.lab, S.lhb, S.ltb, S.ltv, S.lmv, S.old, hb'⟩
  · intro j hj
    have h1 := S.all j hj
    exact (ho.cell (p := ⟨ab, j, none⟩) (World.block_lt_of_cell? w _ h1) (by have := S.lab; simp only; omega)).trans h1
  · intro j hj
    refine (S.tr j hj).only ho ?_ (fun k hk => ?_) (fun k hk => ?_)
    · have := S.ltb j hj; omega
    · have := S.ltv j hj k hk; omega
    · have := S.lmv j hj k hk; omega
  · intro j hj
    by_cases hji : j = i
    · subst hji
      rw [upd_same]
      exact ⟨hR.k0, hR.k1, hR.k2, hR.k3, hR.k4, hR.k5⟩
    · rw [upd_other _ _ hji]
      have key : ∀ k, k < 6 → cs'[j * 6 + k]? = cs[j * 6 + k]? := fun k hk => hR.same _ (by omega)
      obtain ⟨h0, h1, h2, h3, h4, h5⟩ := S.th j hj
      exact ⟨(key 0 (by omega)).trans h0, (key 1 (by omega)).trans h1, (key 2 (by omega)).trans h2, (key 3 (by omega)).trans h3, (key 4 (by omega)).trans h4, (key 5 (by omega)).trans h5⟩
end
end Go.Proofs.Ytpgepcmncppphaa
