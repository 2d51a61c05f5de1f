/-
  Layer 8: a loop over a function that goes through another one itself: what both owe one another.
-/
import Derived.Test.YtmppodobgkhojaaGapEach
import Derived.Test.YtmppodobgkhojaaGapWithin
import Derived.Test.YtmppodobgkhojaaListGo
namespace Go.Proofs.Ytmppodobgkhojaa
open Go.ChangeShapes Go.WideShapes Go.ChangeAt Go.RowKit Go.Shelf
set_option linter.unusedVariables false
attribute [local go_sem] Oper.semAt_some

/-- What a body that is told a gap may turn: cells below n₁ (but none below n₀, and no area); nothing else. -/
structure Kc (n₀ n₁ : Nat) (W W' : World) : Prop where
  kp : KpA n₀ W W'
  rest : ∀ k o, W.heap[k]? = some o → (n₁ ≤ k ∨ o.isCells = false) → W'.heap[k]? = some o
theorem Kc.size {n₀ n₁ : Nat} {W W' : World} (h : Kc n₀ n₁ W W') : W.heap.size ≤ W'.heap.size := h.kp.bel.size
theorem Kc.refl (n₀ n₁ : Nat) (W : World) : Kc n₀ n₁ W W := ⟨KpA.refl _ _, fun _ _ h _ => h⟩
theorem Kc.trans {n₀ n₁ : Nat} {A B C : World} (h : Kc n₀ n₁ A B) (k : Kc n₀ n₁ B C) : Kc n₀ n₁ A C := ⟨h.kp.trans k.kp, fun i o h1 h2 => k.rest i o (h.rest i o h1 h2) h2⟩
theorem Kc.still {n₀ n₁ : Nat} {W W' : World} (hn : n₀ ≤ W.heap.size) (h : Below W.heap.size W W') : Kc n₀ n₁ W W' :=
  ⟨KpA.still hn h, fun k o hk _ => (h.block k (Array.getElem?_eq_some_iff.1 hk).1).trans hk⟩
theorem Kc.set {n₀ n₁ b : Nat} {t : TypeId} {W : World} {cs : Array Value} (h : Whole W b t cs) (ht : t ≠ tArea) (hn : n₀ ≤ b) (hb : b < n₁) (i : Nat) (v : Value) : Kc n₀ n₁ W (W.setCell ⟨b, i, none⟩ v) :=
  ⟨KpA.set h ht hn i v, fun k o hk ho => (Below.heap_setCell _ _ _ k (fun e => by
    have e2 : k = b := e
    subst e2
    rcases ho with ho | ho
    · omega
    · unfold Whole at h; rw [h] at hk; injection hk with hk; subst hk; cases ho)).trans hk⟩

/-- What a teller is owed by a round: as above, but that the loop's own record, ahead of B, may turn. -/
structure Kr (n₀ n₁ B : Nat) (W W' : World) : Prop where
  kp : KpA n₀ W W'
  cells : ∀ k o, W.heap[k]? = some o → n₁ ≤ k → o.isCells = true → W'.heap[k]? = some o
  from' : KeepsFrom B W W'
/-- What is said is said of what lies ahead of B. -/
def Deaf (B : Nat) (I : List GG → World → Prop) : Prop := ∀ s X Y, I s X → Only (fun k => B ≤ k) X Y → I s Y
theorem Deaf.mono {B B' : Nat} {I : List GG → World → Prop} (h : Deaf B I) (hb : B ≤ B') : Deaf B' I := fun s X Y hs ho => h s X Y hs ⟨ho.os, ho.tape, ho.output, ho.size, fun k hk hn => ho.block k hk (fun h => hn (by omega))⟩
theorem only_put {B l : Nat} (W : World) (o : Obj) (h : B ≤ l) : Only (fun k => B ≤ k) W (W.putObj l o) := ⟨rfl, rfl, rfl, by simp, fun k hk hn => World.putObj_heap_other (fun e => hn (by omega))⟩
theorem only_still {B : Nat} {W W' : World} (h : Below W.heap.size W W') : Only (fun k => B ≤ k) W W' := ⟨h.os, h.tape, h.output, h.size, fun k hk _ => h.block k hk⟩
theorem only_set {B b i : Nat} (W : World) (v : Value) (h : B ≤ b) : Only (fun k => B ≤ k) W (W.setCell ⟨b, i, none⟩ v) := by
  have hb := (Below.refl b W).setCell (p := ⟨b, i, none⟩) (Nat.le_refl _) v
  exact ⟨hb.os, hb.tape, hb.output, hb.size, fun k hk hn => hb.block k (by omega)⟩
theorem Deaf.own {B : Nat} {I : List GG → World → Prop} (h : Deaf B I) : OwnFrom B I := fun s X Y row hs hg hr => h s X Y hs ⟨hg.os, hg.tape, hg.output, hg.size, fun k hk hn => hg.block k hk (fun e => hn (hr k e.symm).1)⟩
/-- A teller's contract. -/
def SeqOwn (gf : Nat) (lb : Array Value) (n₀ n₁ : Nat) (S Sp : List GG → Prop) (N : Nat) (w : World) : Prop :=
  ∀ (l : Nat) (J Jx : List GG → World → Prop) (W : World), Below w.heap.size w W → Deaf W.heap.size J → Deaf W.heap.size Jx →
    (∀ pre x W1, J pre W1 → pre.length < N → YieldAt Fence.wide 3 Try.prog l #[x.1.v] W1 fun e W' =>
      (e = .returned (.bool true) ∧ J (pre ++ [x]) W' ∧ Kr n₀ n₁ W.heap.size W1 W') ∨ (e = .returned (.bool false) ∧ Jx (pre ++ [x]) W' ∧ KeepsFrom W.heap.size W1 W')) →
    J [] W →
    CallsIn Fence.wide 4 Try.prog gf (#[.func (.yield l) #[] #[]] ++ lb) W fun e W' => (∃ v, e = .returned v) ∧ ((∃ xs, S xs ∧ J xs W') ∨ (∃ pre, Sp pre ∧ Jx pre W'))

/-- How a body is left that is told a gap. -/
def heard (n₀ n₁ : Nat) (I Ix : World → Prop) (W : World) : Exit → Act → World → Prop
  | .normal, _, W' => Kc n₀ n₁ W W' ∧ I W'
  | .ret, _, W' => Kc n₀ n₁ W W' ∧ Ix W'
  | _, _, _ => False

/-- The record of a loop is turned. -/
theorem Kr.turned {n₀ n₁ B l : Nat} {W W' : World} {o o' o'' : Obj} (h : Kc n₀ n₁ (W.putObj l o') W') (hn : n₀ ≤ n₁) (hl1 : n₁ ≤ l) (hl : l < B) (hW : W.heap[l]? = some o) (ho : o.isCells = false) (ho' : o'.isCells = false) : Kr n₀ n₁ B W (W'.putObj l o'') := by
  have hlt := (Array.getElem?_eq_some_iff.1 hW).1
  have hs : W'.heap.size ≥ W.heap.size := by have := h.size; simpa using this
  have key : ∀ k x, k ≠ l → W.heap[k]? = some x → (n₁ ≤ k ∨ x.isCells = false) → (W'.putObj l o'').heap[k]? = some x := fun k x hk hx hc =>
    (World.putObj_heap_other hk).trans (h.rest k x ((World.putObj_heap_other hk).trans hx) hc)
  refine ⟨⟨⟨?_, ?_, ?_, ?_, ?_⟩, ?_⟩, ?_, ?_, ?_⟩
  · exact h.kp.bel.os
  · exact h.kp.bel.tape
  · exact h.kp.bel.output
  · simpa using hs
  · intro k hk
    have hne : k ≠ l := by omega
    rw [World.putObj_heap_other hne, h.kp.bel.block k hk, World.putObj_heap_other hne]
  · intro k cs hk
    have hne : k ≠ l := fun e => by subst e; unfold Whole at hk; rw [hW] at hk; injection hk with hk; subst hk; cases ho
    exact (World.putObj_heap_other hne).trans (h.kp.ars k cs ((World.putObj_heap_other hne).trans hk))
  · intro k x hx hk hc
    have hne : k ≠ l := fun e => by subst e; rw [hW] at hx; injection hx with hx; subst hx; rw [ho] at hc; cases hc
    exact key k x hne hx (.inl hk)
  · simpa using hs
  · intro k x hB hx hc
    exact key k x (by omega) hx (.inr hc)

/-- **A loop over such a teller.** -/
theorem range_own {g : Operand} {t : Tmp} {assign body : Code} {Q : Exit → Act → World → Prop} {a : Act} {w : World} {gf : Nat} {lb : Array Value}
    (hg : a.eval g = .func (.func gf) #[] lb) (eg : ∀ args w, (callFunc gf args).run Try.prog w = .ok (.enter gf args) w)
    {n₀ n₁ : Nat} {S Sp : List GG → Prop} {N : Nat} {w0 : World} (hseq : SeqOwn gf lb n₀ n₁ S Sp N w0) (hb0 : Below w0.heap.size w0 w) (hn : n₀ ≤ n₁) (hn1 : n₁ ≤ w.heap.size)
    (I Ix : List GG → World → Prop) (hI : Deaf w.heap.size I) (hIx : Deaf w.heap.size Ix) (h0 : I [] w)
    (Ax : GG → Act → World → Prop) (hAx : ∀ x a', OwnFrom w.heap.size (fun (_ : Unit) W => Ax x a' W))
    (hassign : ∀ (l : Nat) (pre : List GG) (x : GG) (W : World) (K : Act → World → Prop), I pre W → (∀ a' W', Below W.heap.size W W' → I pre W' → Ax x a' W' → K a' W') →
      assign.wpIn (Fence.wide.inRound l) 3 Try.prog (Exit.then K (fun _ _ _ => False)) { tmps := ((#[t] : Array Tmp).zip #[x.1.v]).foldl (fun t (p, v) => t.setIfInBounds p v) a.tmps, defers := [] } W)
    (hbody : ∀ (l : Nat) (pre : List GG) (x : GG) (a' : Act) (W : World), I pre W → Ax x a' W → pre.length < N → body.wpIn (Fence.wide.inRound l) 3 Try.prog (heard n₀ n₁ (I (pre ++ [x])) (Ix (pre ++ [x])) W) a' W)
    (hdone : ∀ (D : Nat) (xs : List GG) (W : World), w.heap.size ≤ D → S xs → I xs W → W.heap[D]? = some (.deferred (some [])) → Q .normal { a with defers := { target := .collected D, args := #[] } :: a.defers } W)
    (hstop : ∀ (D : Nat) (pre : List GG) (W : World), w.heap.size ≤ D → Sp pre → Ix pre W → W.heap[D]? = some (.deferred (some [])) → Code.ret.wpIn Fence.wide 5 Try.prog Q { a with defers := { target := .collected D, args := #[] } :: a.defers } W) :
    (Code.rangeFunc g #[t] assign body).wpIn Fence.wide 5 Try.prog Q a w := by
  refine wpIn_rangeFunc fun fn hfn => ?_
  -- the record, as it goes through its states
  let rec' : LoopState → Option Code → Obj := fun st pe => .loop { state := st, pending := pe, fn, tmps := a.tmps, params := #[t], assign, body, defers := w.heap.size }
  have hnc : ∀ st pe, (rec' st pe).isCells = false := fun _ _ => rfl
  obtain ⟨W1, hW1⟩ : ∃ W1, (w.alloc (.deferred (some []))).alloc (rec' .ready none) = W1 := ⟨_, rfl⟩
  have hs1 : W1.heap.size = w.heap.size + 2 := by rw [← hW1]; simp
  have hL1 : W1.heap[w.heap.size + 1]? = some (rec' .ready none) := by
    have := World.alloc_heap_new (w.alloc (.deferred (some []))) (rec' .ready none); rw [World.size_alloc] at this; rw [← hW1]; exact this
  have hD1 : W1.heap[w.heap.size]? = some (.deferred (some [])) := by
    rw [← hW1]; exact (Below.heap_alloc _ _ _ (by simp)).trans (World.alloc_heap_new w _)
  -- what is said of the two blocks stays where others turn
  have stays : ∀ {X Y : World} {k : Nat} {o : Obj}, Only (fun k => W1.heap.size ≤ k) X Y → k < w.heap.size + 2 → X.heap[k]? = some o → Y.heap[k]? = some o := fun ho hk hX =>
    (ho.block _ (Array.getElem?_eq_some_iff.1 hX).1 (by omega)).trans hX
  refine ⟨w.heap.size + 1, [{ target := .collected w.heap.size, args := #[] }], W1, { target := .fn (.func gf) lb, args := #[.func (.yield (w.heap.size + 1)) #[] #[]] }, W1, gf,
    #[.func (.yield (w.heap.size + 1)) #[] #[]] ++ lb, W1, ?_, ?_, (fun _ _ => trivial), ?_, (fun _ => by omega), ?_⟩
  · rw [← hW1]; exact run_enterLoop_outer _ _ _ _ _
  · simp only [resolve, hg]; simp [go_sem]
  · simp [invoke, go_sem, eg]
  refine (hseq (w.heap.size + 1)
    (fun pre W => I pre W ∧ W.heap[w.heap.size + 1]? = some (rec' .ready none) ∧ W.heap[w.heap.size]? = some (.deferred (some [])))
    (fun pre W => Ix pre W ∧ W.heap[w.heap.size + 1]? = some (rec' .done (some .ret)) ∧ W.heap[w.heap.size]? = some (.deferred (some [])))
    W1 ?_
    (fun s X Y hs ho => ⟨hI.mono (by omega) s X Y hs.1 ho, stays ho (by omega) hs.2.1, stays ho (by omega) hs.2.2⟩)
    (fun s X Y hs ho => ⟨hIx.mono (by omega) s X Y hs.1 ho, stays ho (by omega) hs.2.1, stays ho (by omega) hs.2.2⟩)
    ?_ ⟨?_, hL1, hD1⟩).mono ?_
  · rw [← hW1]; exact hb0.trans ((below_new2 w _ _).mono hb0.size)
  · -- a round
    rintro pre x W ⟨hi, hl, hd⟩ hlen
    have hy := run_yield (P := Try.prog) (args := #[x.1.v]) hl rfl
    refine ⟨fn, _, assign, body, hy, roundIn_of_wpIn hfn (hassign _ pre x W _ hi ?_)⟩
    intro a' Wa hba hia hax
    have hla : Wa.heap[w.heap.size + 1]? = some (rec' .ready none) := (hba.block _ (Array.getElem?_eq_some_iff.1 hl).1).trans hl
    have hda : Wa.heap[w.heap.size]? = some (.deferred (some [])) := (hba.block _ (Array.getElem?_eq_some_iff.1 hd).1).trans hd
    have hlt : w.heap.size + 1 < Wa.heap.size := (Array.getElem?_eq_some_iff.1 hla).1
    refine ⟨_, run_beginRound hla rfl, ?_⟩
    have hsW : w.heap.size ≤ W.heap.size := by have := (Array.getElem?_eq_some_iff.1 hl).1; omega
    refine wpIn_mono (hbody _ pre x a' _ (hI.own.putObj _ hia (by omega) hla rfl) ((hAx x a').putObj (s := ()) _ hax (by omega) hla rfl) hlen) ?_
    have fin : ∀ (jump : Option Code) (W3 : World), Kc n₀ n₁ (Wa.putObj (w.heap.size + 1) (rec' .busy none)) W3 →
        (Instr.endRound (w.heap.size + 1) jump).run Try.prog W3 = .ok (.bool jump.isNone) (W3.putObj (w.heap.size + 1) (rec' (if jump.isNone then .ready else .done) jump)) ∧
        W3.heap[w.heap.size + 1]? = some (rec' .busy none) ∧
        (W3.putObj (w.heap.size + 1) (rec' (if jump.isNone then .ready else .done) jump)).heap[w.heap.size + 1]? = some (rec' (if jump.isNone then .ready else .done) jump) ∧
        (W3.putObj (w.heap.size + 1) (rec' (if jump.isNone then .ready else .done) jump)).heap[w.heap.size]? = some (.deferred (some [])) := fun jump W3 hk => by
      have h3 := hk.rest (w.heap.size + 1) _ (World.putObj_heap_same hlt) (.inr rfl)
      have h4 := hk.rest w.heap.size _ ((World.putObj_heap_other (by omega)).trans hda) (.inr rfl)
      exact ⟨run_endRound jump h3, h3, World.putObj_heap_same (Array.getElem?_eq_some_iff.1 h3).1, (World.putObj_heap_other (by omega)).trans h4⟩
    have kr : ∀ (W3 : World) (o : Obj), Kc n₀ n₁ (Wa.putObj (w.heap.size + 1) (rec' .busy none)) W3 → Kr n₀ n₁ W1.heap.size W (W3.putObj (w.heap.size + 1) o) := fun W3 o hk => by
      have h1 := Kr.turned (B := W1.heap.size) (o'' := o) hk hn (by omega) (by omega) hla rfl rfl
      have h2 : Kc n₀ n₁ W Wa := Kc.still (by omega) hba
      exact ⟨h2.kp.trans h1.kp, fun k o hk hn ho => h1.cells k o (h2.rest k o hk (.inl hn)) hn ho, ⟨Nat.le_trans h2.size h1.from'.size, fun k o hB hk ho => h1.from'.same k o hB (h2.rest k o hk (.inr ho)) ho⟩⟩
    rintro e a3 W3 hp
    cases e with
    | normal =>
      obtain ⟨hk, hi3⟩ := hp
      obtain ⟨hr, h3, h4, h5⟩ := fin none W3 hk
      exact ⟨_, _, hr, .inl ⟨rfl, ⟨hI.own.putObj _ hi3 (by omega) h3 rfl, h4, h5⟩, kr W3 _ hk⟩⟩
    | ret =>
      obtain ⟨hk, hi3⟩ := hp
      obtain ⟨hr, h3, h4, h5⟩ := fin (some .ret) W3 hk
      exact ⟨_, _, hr, .inr ⟨rfl, ⟨hIx.own.putObj _ hi3 (by omega) h3 rfl, h4, h5⟩, (kr W3 _ hk).from'⟩⟩
    | exit _ => exact hp.elim
    | goto _ => exact hp.elim
    | panic _ => exact hp.elim
    | outgrown => exact hp.elim
  · rw [← hW1]; exact hI.own.alloc _ (hI.own.alloc _ h0)
  · -- behind it
    rintro e W2 ⟨⟨v, rfl⟩, (⟨xs, hS, hi, hl, hd⟩ | ⟨pre, hSp, hi, hl, hd⟩)⟩
    · exact ⟨none, _, run_endLoop hl (by simp), hdone _ xs _ (Nat.le_refl _) hS (hI.own.putObj _ hi (by omega) hl rfl) ((World.putObj_heap_other (by omega)).trans hd)⟩
    · exact ⟨some .ret, _, run_endLoop hl (by simp), hstop _ pre _ (Nat.le_refl _) hSp (hIx.own.putObj _ hi (by omega) hl rfl) ((World.putObj_heap_other (by omega)).trans hd)⟩
end Go.Proofs.Ytmppodobgkhojaa
