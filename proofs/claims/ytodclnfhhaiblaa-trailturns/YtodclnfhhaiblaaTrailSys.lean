/-
  Layer 3: all trails, all threads, both memories: who has which block.
-/
import Derived.Test.YtodclnfhhaiblaaTrailPair
import Derived.Test.YtodclnfhhaiblaaTrailLike
namespace Go.Proofs.Ytodclnfhhaiblaa
open Go.ChangeShapes Go.WideShapes Go.ChangeAt Go.RowKit
set_option linter.unusedVariables false

/-- New blocks are had by id. -/
def relab (ow : Nat → Nat) (n id : Nat) : Nat → Nat := fun k => if k < n then ow k else id
theorem relab_lt {ow : Nat → Nat} {n id k : Nat} (h : k < n) : relab ow n id k = ow k := by simp [relab, h]
theorem relab_ge {ow : Nat → Nat} {n id k : Nat} (h : n ≤ k) : relab ow n id k = id := by simp [relab]; omega
def upd {α : Type} (f : Nat → α) (i : Nat) (x : α) : Nat → α := fun j => if j = i then x else f j
theorem upd_same {α : Type} (f : Nat → α) (i : Nat) (x : α) : upd f i x i = x := by simp [upd]
theorem upd_other {α : Type} (f : Nat → α) {i j : Nat} (x : α) (h : j ≠ i) : upd f i x j = f j := by simp [upd, h]

/-- Everything that is made, and whose it is. -/
structure Bare (w0 w : World) (ow : Nat → Nat) (b g rb base : Nat) (A : Option Addr) (c ab hb sb P : Nat) (tbf : Nat → Nat) (tvf mvf rvf : Nat → Value) (Tf : Nat → Tr) (hf : Nat → Th) (ss : List Int) (m mr : Mm) (cs : Array Value) : Prop where
  mem : MemAt w b g m.cs m.cnt
  ref : RefAt w rb base A c mr.cs mr.cnt
  all : ∀ i, i < P → w.cell? ⟨ab, i, none⟩ = some (.pointer (some ⟨tbf i, 0, none⟩))
  tr : ∀ i, i < P → TrAt w b (tbf i) (tvf i) (mvf i) (Tf i)
  whole : Whole w hb 43 cs
  size : cs.size = P * 4
  th : ∀ i, i < P → cs[i * 4]? = some (.int .i64 (hf i).a) ∧ cs[i * 4 + 1]? = some (.int .i64 (hf i).t) ∧ cs[i * 4 + 2]? = some (.int .i64 (hf i).s) ∧ cs[i * 4 + 3]? = some (rvf i)
  own : ∀ i, i < P → w.ownsRow 0 84 2 (rvf i) (hf i).mks.length (markCells (hf i).mks)
  sum : Whole w sb 2 (nums ss)
  slen : ss.length = P
  lb : ow b = 1
  lg : ow g = 1
  lrb : ow rb = 2
  lA : ∀ x : Addr, A = some x → ow x.block = 2
  lsb : ow sb = 3
  lab : ow ab = 4
  lhb : ow hb = 5
  ltb : ∀ i, i < P → ow (tbf i) = 10 + 2 * i
  ltv : ∀ i, i < P → ∀ k, (tvf i).ownBlock = some k → ow k = 10 + 2 * i
  lmv : ∀ i, i < P → ∀ k, (mvf i).ownBlock = some k → ow k = 10 + 2 * i
  lrv : ∀ i, i < P → ∀ k, (rvf i).ownBlock = some k → ow k = 11 + 2 * i
  old : ∀ k, k < w0.heap.size → ow k = 0
  bel : Below w0.heap.size w0 w

section
variable {w0 w w' : World} {ow : Nat → Nat} {b g rb base : Nat} {A : Option Addr} {c ab hb sb P : Nat} {tbf : Nat → Nat} {tvf mvf rvf : Nat → Value} {Tf : Nat → Tr} {hf : Nat → Th} {ss : List Int} {m mr : Mm} {cs : Array Value}

theorem Bare.new (B : Bare w0 w ow b g rb base A c ab hb sb P tbf tvf mvf rvf Tf hf ss m mr cs) {k : Nat} (h : ow k ≠ 0) : w0.heap.size ≤ k := by
  rcases Nat.lt_or_ge k w0.heap.size with h1 | h1
  · exact absurd (B.old k h1) h
  · exact h1
theorem Bare.st (B : Bare w0 w ow b g rb base A c ab hb sb P tbf tvf mvf rvf Tf hf ss m mr cs) {i : Nat} (hi : i < P) : St w b g (tbf i) (tvf i) (mvf i) (Tf i) m :=
  ⟨B.tr i hi, B.mem, fun h => by have h1 := B.ltv i hi g h; have h2 := B.lg; omega⟩
theorem Bare.mine (B : Bare w0 w ow b g rb base A c ab hb sb P tbf tvf mvf rvf Tf hf ss m mr cs) {i k : Nat} (hi : i < P) (h : All b g (tbf i) (tvf i) (mvf i) k) : ow k = 1 ∨ ow k = 10 + 2 * i := by
  rcases h with rfl | rfl | rfl | h | h
  · exact .inl B.lb
  · exact .inl B.lg
  · exact .inr (B.ltb i hi)
  · exact .inr (B.ltv i hi k h)
  · exact .inr (B.lmv i hi k h)
theorem put4_self {o : Nat} {a t : Nat} {s : Int} {mv : Value} (h : o + 4 ≤ cs.size) (h0 : cs[o]? = some (.int .i64 a)) (h1 : cs[o + 1]? = some (.int .i64 t)) (h2 : cs[o + 2]? = some (.int .i64 s)) (h3 : cs[o + 3]? = some mv) : put4 cs o a t s mv = cs := by
  apply Array.ext_getElem?
  intro i
  rw [put4_get i h]
  split
  · subst_vars; exact h0.symm
  · split
    · subst_vars; exact h1.symm
    · split
      · subst_vars; exact h2.symm
      · split
        · subst_vars; exact h3.symm
        · rfl
theorem Bare.fit (B : Bare w0 w ow b g rb base A c ab hb sb P tbf tvf mvf rvf Tf hf ss m mr cs) {i : Nat} (hi : i < P) : i * 4 + 4 ≤ cs.size := by rw [B.size]; omega
theorem Bare.sys (B : Bare w0 w ow b g rb base A c ab hb sb P tbf tvf mvf rvf Tf hf ss m mr cs) {i : Nat} (hi : i < P) : ThSys w hb (i * 4) cs (rvf i) (hf i) rb base A c mr := by
  obtain ⟨h0, h1, h2, h3⟩ := B.th i hi
  refine ⟨⟨?_, B.fit hi, B.own i hi⟩, B.ref⟩
  rw [put4_self (B.fit hi) h0 h1 h2 h3]
  exact B.whole
theorem Bare.still (B : Bare w0 w ow b g rb base A c ab hb sb P tbf tvf mvf rvf Tf hf ss m mr cs) (h : Below w.heap.size w w') : Bare w0 w' ow b g rb base A c ab hb sb P tbf tvf mvf rvf Tf hf ss m mr cs := by
  have ho := Only.of_below h (fun _ => False)
  exact ⟨B.mem.only ho id id, B.ref.only ho (fun _ _ => id), fun i hi => (h.cell (World.block_lt_of_cell? w _ (B.all i hi))).trans (B.all i hi), fun i hi => (B.tr i hi).only ho id (fun _ _ => id) (fun _ _ => id), B.whole.only ho id, B.size, B.th,
    fun i hi => own_still (B.own i hi) h, B.sum.only ho id, B.slen, B.lb, B.lg, B.lrb, B.lA, B.lsb, B.lab, B.lhb, B.ltb, B.ltv, B.lmv, B.lrv, B.old, B.bel.trans (h.mono B.bel.size)⟩
theorem Bare.ref_lt (B : Bare w0 w ow b g rb base A c ab hb sb P tbf tvf mvf rvf Tf hf ss m mr cs) {x : Addr} (hx : A = some x) : x.block < w.heap.size := (B.ref.own.lt x.block (by rw [hx]; rfl)).2

/-- Behind a step of trail i. -/
theorem Bare.stepped {R : Pst × Bool} {tv' mv' : Value} {i : Nat} (B : Bare w0 w ow b g rb base A c ab hb sb P tbf tvf mvf rvf Tf hf ss m mr cs) (hi : i < P) (hS : Stepped w b g (tbf i) (tvf i) (mvf i) (some ⟨sb, i, none⟩) R tv' mv' w') :
    Bare w0 w' (relab ow w.heap.size (10 + 2 * i)) b g rb base A c ab hb sb P tbf (upd tvf i tv') (upd mvf i mv') rvf (upd Tf i (ended R.1.T)) hf (if R.2 then ss.set i R.1.s else ss) R.1.m mr cs := by
  have hml : ∀ k, k < w.heap.size → May b g (tbf i) (tvf i) (mvf i) (some ⟨sb, i, none⟩) k → ow k = 1 ∨ ow k = 10 + 2 * i ∨ ow k = 3 := by
    rintro k _ (h | ⟨p, hp, rfl⟩)
    · rcases B.mine hi h with h1 | h1
      · exact .inl h1
      · exact .inr (.inl h1)
    · injection hp with hp
      subst hp
      exact .inr (.inr B.lsb)
  have ho : Only (fun k => ow k = 1 ∨ ow k = 10 + 2 * i ∨ ow k = 3) w w' := hS.only.mono hml
  have hna : ¬ All b g (tbf i) (tvf i) (mvf i) sb := fun h => by
    have h3 := B.lsb
    rcases B.mine hi h with h1 | h1 <;> omega
  have hb' : Below w0.heap.size w0 w' := B.bel.trans (ho.below (fun k hk => B.new (by omega)) B.bel.size)
  refine ⟨hS.st.mem, ?_, ?_, ?_, ?_, B.size, B.th, ?_, ?_, ?_, ?_, ?_, ?_, ?_, ?_, ?_, ?_, ?_, ?_, ?_, ?_, ?_, hb'⟩
  · refine B.ref.only ho (fun k hk => ?_)
    have : ow k = 2 := by
      rcases hk with rfl | ⟨x, hA, rfl⟩
      · exact B.lrb
      · exact B.lA x hA
    omega
  · intro j hj
    have h1 := B.all j hj
    exact (ho.cell (p := ⟨ab, j, none⟩) (World.block_lt_of_cell? w _ h1) (by have := B.lab; simp only; omega)).trans h1
  · intro j hj
    by_cases hji : j = i
    · subst hji
      rw [upd_same, upd_same, upd_same]
      exact hS.st.tr
    · rw [upd_other _ _ hji, upd_other _ _ hji, upd_other _ _ hji]
      refine (B.tr j hj).only ho ?_ (fun k hk => ?_) (fun k hk => ?_)
      · have := B.ltb j hj; omega
      · have := B.ltv j hj k hk; omega
      · have := B.lmv j hj k hk; omega
  · exact B.whole.only ho (by have := B.lhb; omega)
  · intro j hj
    refine own_only (B.own j hj) ho (fun k hk => ?_)
    have := B.lrv j hj k hk
    omega
  · have hsum := hS.sum ⟨sb, i, none⟩ rfl hna B.sum.lt
    simp only at hsum
    unfold Whole
    rw [hsum]
    split
    · have := B.sum.put i (.int .i64 R.1.s)
      rw [nums_set] at this
      exact this
    · exact B.sum
  · split
    · rw [List.length_set]; exact B.slen
    · exact B.slen
  · rw [relab_lt B.mem.top.lt]; exact B.lb
  · rw [relab_lt B.mem.row.lt]; exact B.lg
  · rw [relab_lt B.ref.top.lt]; exact B.lrb
  · intro x hx
    rw [relab_lt (B.ref_lt hx)]; exact B.lA x hx
  · rw [relab_lt B.sum.lt]; exact B.lsb
  · rw [relab_lt (World.block_lt_of_cell? w _ (B.all i hi))]; exact B.lab
  · rw [relab_lt B.whole.lt]; exact B.lhb
  · intro j hj
    rw [relab_lt (B.tr j hj).top.lt]; exact B.ltb j hj
  · intro j hj k hk
    by_cases hji : j = i
    · subst hji
      rw [upd_same] at hk
      by_cases hlt : k < w.heap.size
      · rw [relab_lt hlt]
        rcases hS.t k hk with h1 | h1
        · exact B.ltv j hj k h1
        · omega
      · rw [relab_ge (by omega)]
    · rw [upd_other _ _ hji] at hk
      rw [relab_lt ((B.tr j hj).told.lt k hk).2]; exact B.ltv j hj k hk
  · intro j hj k hk
    by_cases hji : j = i
    · subst hji
      rw [upd_same] at hk
      by_cases hlt : k < w.heap.size
      · rw [relab_lt hlt]
        rcases hS.m k hk with h1 | h1
        · exact B.lmv j hj k h1
        · omega
      · rw [relab_ge (by omega)]
    · rw [upd_other _ _ hji] at hk
      rw [relab_lt ((B.tr j hj).marks.lt k hk).2]; exact B.lmv j hj k hk
  · intro j hj k hk
    rw [relab_lt ((B.own j hj).lt k hk).2]; exact B.lrv j hj k hk
  · intro k hk
    have := B.bel.size
    rw [relab_lt (by omega)]; exact B.old k hk

/-- Behind a step of thread i. -/
theorem Bare.threaded {h' : Th} {rv' : Value} {m' : Mm} {i : Nat} (B : Bare w0 w ow b g rb base A c ab hb sb P tbf tvf mvf rvf Tf hf ss m mr cs) (hi : i < P) (hT : ThSys w' hb (i * 4) cs rv' h' rb base A c m') (hM : ThMoved w hb (rvf i) rb A w' rv') :
    Bare w0 w' (relab ow w.heap.size (11 + 2 * i)) b g rb base A c ab hb sb P tbf tvf mvf (upd rvf i rv') Tf (upd hf i h') ss m m' (put4 cs (i * 4) h'.a h'.t h'.s rv') := by
  have hml : ∀ k, k < w.heap.size → Tset hb (rvf i) rb A k → ow k = 5 ∨ ow k = 11 + 2 * i ∨ ow k = 2 := by
    rintro k _ (rfl | h | rfl | ⟨x, hA, rfl⟩)
    · exact .inl B.lhb
    · exact .inr (.inl (B.lrv i hi k h))
    · exact .inr (.inr B.lrb)
    · exact .inr (.inr (B.lA x hA))
  have ho : Only (fun k => ow k = 5 ∨ ow k = 11 + 2 * i ∨ ow k = 2) w w' := hM.only.mono hml
  have hb' : Below w0.heap.size w0 w' := B.bel.trans (ho.below (fun k hk => B.new (by omega)) B.bel.size)
  refine ⟨?_, hT.ref, ?_, ?_, hT.th.whole, ?_, ?_, ?_, ?_, B.slen, ?_, ?_, ?_, ?_, ?_, ?_, ?_, ?_, ?_, ?_, ?_, ?_, hb'⟩
  · exact B.mem.only ho (by have := B.lb; omega) (by have := B.lg; omega)
  · intro j hj
    have h1 := B.all j hj
    exact (ho.cell (p := ⟨ab, j, none⟩) (World.block_lt_of_cell? w _ h1) (by have := B.lab; simp only; omega)).trans h1
  · intro j hj
    refine (B.tr j hj).only ho ?_ (fun k hk => ?_) (fun k hk => ?_)
    · have := B.ltb j hj; omega
    · have := B.ltv j hj k hk; omega
    · have := B.lmv j hj k hk; omega
  · rw [put4_size]; exact B.size
  · intro j hj
    have hfit := B.fit hi
    by_cases hji : j = i
    · subst hji
      rw [upd_same, upd_same, put4_get _ hfit, put4_get _ hfit, put4_get _ hfit, put4_get _ hfit]
      simp
    · rw [upd_other _ _ hji, upd_other _ _ hji, put4_get _ hfit, put4_get _ hfit, put4_get _ hfit, put4_get _ hfit]
      obtain ⟨h0, h1, h2, h3⟩ := B.th j hj
      have hne : j * 4 + 3 < i * 4 ∨ i * 4 + 3 < j * 4 := by omega
      refine ⟨?_, ?_, ?_, ?_⟩
      · rw [if_neg (by omega), if_neg (by omega), if_neg (by omega), if_neg (by omega)]; exact h0
      · rw [if_neg (by omega), if_neg (by omega), if_neg (by omega), if_neg (by omega)]; exact h1
      · rw [if_neg (by omega), if_neg (by omega), if_neg (by omega), if_neg (by omega)]; exact h2
      · rw [if_neg (by omega), if_neg (by omega), if_neg (by omega), if_neg (by omega)]; exact h3
  · intro j hj
    by_cases hji : j = i
    · subst hji
      rw [upd_same, upd_same]
      exact hT.th.own
    · rw [upd_other _ _ hji, upd_other _ _ hji]
      refine own_only (B.own j hj) ho (fun k hk => ?_)
      have := B.lrv j hj k hk
      omega
  · exact B.sum.only ho (by have := B.lsb; omega)
  · rw [relab_lt B.mem.top.lt]; exact B.lb
  · rw [relab_lt B.mem.row.lt]; exact B.lg
  · rw [relab_lt B.ref.top.lt]; exact B.lrb
  · intro x hx
    rw [relab_lt (B.ref_lt hx)]; exact B.lA x hx
  · rw [relab_lt B.sum.lt]; exact B.lsb
  · rw [relab_lt (World.block_lt_of_cell? w _ (B.all i hi))]; exact B.lab
  · rw [relab_lt B.whole.lt]; exact B.lhb
  · intro j hj
    rw [relab_lt (B.tr j hj).top.lt]; exact B.ltb j hj
  · intro j hj k hk
    rw [relab_lt ((B.tr j hj).told.lt k hk).2]; exact B.ltv j hj k hk
  · intro j hj k hk
    rw [relab_lt ((B.tr j hj).marks.lt k hk).2]; exact B.lmv j hj k hk
  · intro j hj k hk
    by_cases hji : j = i
    · subst hji
      rw [upd_same] at hk
      by_cases hlt : k < w.heap.size
      · rw [relab_lt hlt]
        rcases hM.m k hk with h1 | h1
        · exact B.lrv j hj k h1
        · omega
      · rw [relab_ge (by omega)]
    · rw [upd_other _ _ hji] at hk
      rw [relab_lt ((B.own j hj).lt k hk).2]; exact B.lrv j hj k hk
  · intro k hk
    have := B.bel.size
    rw [relab_lt (by omega)]; exact B.old k hk
end
end Go.Proofs.Ytodclnfhhaiblaa
