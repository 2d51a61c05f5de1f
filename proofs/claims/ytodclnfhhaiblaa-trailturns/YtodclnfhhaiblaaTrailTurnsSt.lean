/-
  Layer 3: what the statement on turns keeps from step to step.
-/
import Derived.Test.YtodclnfhhaiblaaTrailSys
namespace Go.Proofs.Ytodclnfhhaiblaa
open Go.ChangeShapes Go.WideShapes Go.ChangeAt Go.RowKit
set_option linter.unusedVariables false

/-- The arguments in memory: programs, and turns. -/
structure Arg3 (w : World) (LA : Option Addr) (LB LO P : Nat) (Bf : Nat → Option Addr) (cf lbf lof : Nat → Nat) (ls : Nat → List Pop) (TA : Option Addr) (TB TO tn : Nat) : Prop where
  la : 0 < P → LA = some ⟨LB, LO, none⟩
  row : ∀ i, i < P → w.cell? ⟨LB, LO + i, none⟩ = some (.slice (Bf i) (ls i).length (cf i))
  ops : ∀ i, i < P → OpsIn w (Bf i) (lbf i) (lof i) (ls i)
  ta : 0 < tn → TA = some ⟨TB, TO, none⟩
  turn : ∀ k, k < tn → ∃ x : Int, w.cell? ⟨TB, TO + k, none⟩ = some (.int .u8 x) ∧ 0 ≤ x ∧ x ≤ 255

section
variable {w0 w w' : World} {LA : Option Addr} {LB LO P : Nat} {Bf : Nat → Option Addr} {cf lbf lof : Nat → Nat} {ls : Nat → List Pop} {TA : Option Addr} {TB TO tn : Nat}
theorem Arg3.still (H : Arg3 w0 LA LB LO P Bf cf lbf lof ls TA TB TO tn) (hb : Below w0.heap.size w0 w) : Arg3 w LA LB LO P Bf cf lbf lof ls TA TB TO tn := by
  have key : ∀ p u, w0.cell? p = some u → w.cell? p = some u := fun p u hc => (hb.cell (World.block_lt_of_cell? w0 _ hc)).trans hc
  refine ⟨H.la, fun i hi => key _ _ (H.row i hi), fun i hi => (H.ops i hi).still hb, H.ta, fun k hk => ?_⟩
  obtain ⟨x, h1, h2⟩ := H.turn k hk
  exact ⟨x, key _ _ h1, h2⟩
end

/-- The first trails are made. -/
structure Half (w0 w : World) (ow : Nat → Nat) (b g rb base : Nat) (A : Option Addr) (c hb sb P : Nat) (tbf : Nat → Nat) (av : Value) (i : Nat) (m : Mm) (cs : Array Value) (ss : List Int) : Prop where
  mem : MemAt w b g m.cs m.cnt
  ref : RefAt w rb base A c m.cs m.cnt
  row : w.ownsRow 0 33 1 av i ((List.range i).map (fun j => Value.pointer (some ⟨tbf j, 0, none⟩)))
  tr : ∀ j, j < i → TrAt w b (tbf j) (.slice none 0 0) (.slice none 0 0) newTr
  whole : Whole w hb 43 cs
  sum : Whole w sb 2 (nums ss)
  lb : ow b = 1
  lg : ow g = 1
  lrb : ow rb = 2
  lA : ∀ x : Addr, A = some x → ow x.block = 2
  lsb : ow sb = 3
  lab : ∀ k, av.ownBlock = some k → ow k = 4
  lhb : ow hb = 5
  ltb : ∀ j, j < i → ow (tbf j) = 10 + 2 * j
  old : ∀ k, k < w0.heap.size → ow k = 0
  bel : Below w0.heap.size w0 w

section
variable {w0 w w1 w2 w' : World} {ow : Nat → Nat} {b g rb base : Nat} {A : Option Addr} {c hb sb P : Nat} {tbf : Nat → Nat} {av av' : Value} {i : Nat} {m : Mm} {cs : Array Value} {ss : List Int}

theorem Half.new (H : Half w0 w ow b g rb base A c hb sb P tbf av i m cs ss) {k : Nat} (h : ow k ≠ 0) : w0.heap.size ≤ k := by
  rcases Nat.lt_or_ge k w0.heap.size with h1 | h1
  · exact absurd (H.old k h1) h
  · exact h1
/-- One more. -/
theorem Half.more {tb : Nat} {o : Obj} (H : Half w0 w ow b g rb base A c hb sb P tbf av i m cs ss) (hs : St w1 b g tb (.slice none 0 0) (.slice none 0 0) newTr m) (htb : w.heap.size ≤ tb) (hb1 : Below w.heap.size w w1)
    (hg : (w1.alloc o).grownBy w2 av.ownBlock) (hown : w2.ownsRow 0 33 1 av' (i + 1) (((List.range i).map (fun j => Value.pointer (some ⟨tbf j, 0, none⟩))) ++ [.pointer (some ⟨tb, 0, none⟩)]))
    (hat : av'.ownBlock = av.ownBlock ∨ av'.ownBlock = some (w1.alloc o).heap.size) :
    Half w0 w2 (relab (relab ow w.heap.size (10 + 2 * i)) w1.heap.size 4) b g rb base A c hb sb P (upd tbf i tb) av' (i + 1) m cs ss := by
  have hsz := hb1.size
  have ho : Only (fun k => av.ownBlock = some k) w1 w2 := ((Only.refl _ w1).alloc o).grown hg (fun k hk => .inl hk)
  have hfalse := Only.of_below hb1 (fun _ => False)
  have hna : ∀ k, ow k ≠ 4 → ¬ av.ownBlock = some k := fun k hk he => hk (H.lab k he)
  have rl : ∀ k, k < w.heap.size → relab (relab ow w.heap.size (10 + 2 * i)) w1.heap.size 4 k = ow k := fun k hk => by rw [relab_lt (by omega), relab_lt hk]
  have htlt : tb < w1.heap.size := hs.tr.top.lt
  have hbel1 := H.bel.trans (hb1.mono H.bel.size)
  have hrow1 : w1.ownsRow 0 33 1 av i ((List.range i).map (fun j => Value.pointer (some ⟨tbf j, 0, none⟩))) := own_still H.row hb1
  have hsz1 : (w1.alloc o).heap.size = w1.heap.size + 1 := by simp
  refine ⟨hs.mem.only ho (hna b (by have := H.lb; omega)) (hna g (by have := H.lg; omega)), ?_, ?_, ?_, ?_, ?_, ?_, ?_, ?_, ?_, ?_, ?_, ?_, ?_, ?_, ?_⟩
  · refine (H.ref.only hfalse (fun _ _ => id)).only ho (fun k hk => hna k ?_)
    have : ow k = 2 := by
      rcases hk with rfl | ⟨x, hA, rfl⟩
      · exact H.lrb
      · exact H.lA x hA
    omega
  · have e : ((List.range (i + 1)).map (fun j => Value.pointer (some ⟨upd tbf i tb j, 0, none⟩))) = ((List.range i).map (fun j => Value.pointer (some ⟨tbf j, 0, none⟩))) ++ [.pointer (some ⟨tb, 0, none⟩)] := by
      rw [List.range_succ, List.map_append]
      congr 1
      · apply List.map_congr_left
        intro j hj
        rw [upd_other _ _ (by have := List.mem_range.1 hj; omega)]
      · simp [upd_same]
    rw [e]
    exact hown
  · intro j hj
    by_cases hji : j = i
    · subst hji
      rw [upd_same]
      exact hs.tr.only ho (fun he => own_apart hrow1 hs.tr.top (by decide) he) (fun k hk => by simp [Value.ownBlock] at hk) (fun k hk => by simp [Value.ownBlock] at hk)
    · rw [upd_other _ _ hji]
      refine ((H.tr j (by omega)).only hfalse id (fun _ _ => id) (fun _ _ => id)).only ho (hna _ ?_) (fun k hk => by simp [Value.ownBlock] at hk) (fun k hk => by simp [Value.ownBlock] at hk)
      have := H.ltb j (by omega)
      omega
  · exact (H.whole.only hfalse id).only ho (hna _ (by have := H.lhb; omega))
  · exact (H.sum.only hfalse id).only ho (hna _ (by have := H.lsb; omega))
  · rw [rl b H.mem.top.lt]; exact H.lb
  · rw [rl g H.mem.row.lt]; exact H.lg
  · rw [rl rb H.ref.top.lt]; exact H.lrb
  · intro x hx
    rw [rl x.block (H.ref.own.lt x.block (by rw [hx]; rfl)).2]; exact H.lA x hx
  · rw [rl sb H.sum.lt]; exact H.lsb
  · intro k hk
    rcases hat with ha | ha
    · rw [ha] at hk
      rw [rl k (H.row.lt k hk).2]; exact H.lab k hk
    · rw [ha, hsz1] at hk
      injection hk with hk
      rw [relab_ge (by omega)]
  · rw [rl hb H.whole.lt]; exact H.lhb
  · intro j hj
    by_cases hji : j = i
    · subst hji
      rw [upd_same, relab_lt htlt, relab_ge htb]
    · rw [upd_other _ _ hji, rl _ (H.tr j (by omega)).top.lt]
      exact H.ltb j (by omega)
  · intro k hk
    have := H.bel.size
    rw [rl k (by omega)]; exact H.old k hk
  · exact hbel1.trans (ho.below (fun k hk => by
      have h4 := H.lab k hk
      exact H.new (by omega)) hbel1.size)

/-- All are made. -/
theorem Half.bare {ab ac : Nat} (H : Half w0 w ow b g rb base A c hb sb P tbf (.slice (some ⟨ab, 0, none⟩) P ac) P m cs ss) (hcs : cs.size = P * 4) (hss : ss.length = P)
    (hth : ∀ i, i < P → cs[i * 4]? = some (.int .i64 0) ∧ cs[i * 4 + 1]? = some (.int .i64 0) ∧ cs[i * 4 + 2]? = some (.int .i64 0) ∧ cs[i * 4 + 3]? = some (.slice none 0 0)) :
    Bare w0 w ow b g rb base A c ab hb sb P tbf (fun _ => .slice none 0 0) (fun _ => .slice none 0 0) (fun _ => .slice none 0 0) (fun _ => newTr) (fun _ => ⟨0, 0, 0, []⟩) ss m m cs := by
  refine ⟨H.mem, H.ref, fun i hi => ?_, H.tr, H.whole, hcs, hth, fun i hi => World.ownsRow_nil _ _ _ _, H.sum, hss, H.lb, H.lg, H.lrb, H.lA, H.lsb, H.lab ab rfl, H.lhb, H.ltb, fun i hi k hk => by simp [Value.ownBlock] at hk, fun i hi k hk => by simp [Value.ownBlock] at hk, fun i hi k hk => by simp [Value.ownBlock] at hk, H.old, H.bel⟩
  rw [H.row.cellAt i (by omega), List.getElem?_map, List.getElem?_range hi]
  rfl
end

/-- The main loop's relation. -/
def TurnsRel (w0 : World) (b g rb base : Nat) (A : Option Addr) (c ab hb sb P : Nat) (tbf : Nat → Nat) (ls : Nat → List Pop) (mc tn : Nat) (iv : Value) (wr : World) : Prop :=
  ∃ n : Nat, n ≤ tn ∧ iv = .int .i64 n ∧ ∃ ow tvf mvf rvf Tf hf ss m cs, Bare w0 wr ow b g rb base A c ab hb sb P tbf tvf mvf rvf Tf hf ss m m cs ∧ (∀ i, i < P → Pair (ls i) (Tf i) (hf i) (nth ss i)) ∧ m.cnt ≤ n ∧ m.cs.length = mc
/-- The first loop's. -/
def MakeRel (w0 : World) (b g rb base : Nat) (A : Option Addr) (c hb sb P : Nat) (m : Mm) (cs : Array Value) (ss : List Int) (av iv : Value) (wr : World) : Prop :=
  ∃ i : Nat, i ≤ P ∧ iv = .int .i64 i ∧ ∃ ow tbf, Half w0 wr ow b g rb base A c hb sb P tbf av i m cs ss

theorem memOf_len (k i v old : Int) (m : Mm) : (memOf k i v old m).cs.length = m.cs.length := by
  unfold memOf
  repeat' split
  all_goals simp
theorem nxt_len (r : List Pop) (time : Int) (h : Th) (m : Mm) : (nxt r time h m).m.cs.length = m.cs.length := by
  cases r with
  | nil => rfl
  | cons o q => simp only [nxt]; split <;> exact memOf_len ..
theorem nth_set_same {ss : List Int} {i : Nat} (h : i < ss.length) (x : Int) : nth (ss.set i x) i = x := by simp [nth, List.getD_eq_getElem?_getD, h]
theorem nth_set_other {ss : List Int} {i j : Nat} (h : j ≠ i) (x : Int) : nth (ss.set i x) j = nth ss j := by simp [nth, List.getD_eq_getElem?_getD, List.getElem?_set_ne (Ne.symm h)]
end Go.Proofs.Ytodclnfhhaiblaa
