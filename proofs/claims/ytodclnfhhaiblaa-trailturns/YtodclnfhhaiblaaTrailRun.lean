/-
  Layer 3, pure: what a step of a program does, said over what was told.
-/
import Derived.Test.YtodclnfhhaiblaaTrailPure
namespace Go.Proofs.Ytodclnfhhaiblaa
open Go.RowKit

/-- Is it a mark? -/
def isM (o : Pop) : Bool := decide (o.kd % 6 = 5)
/-- From the first access on. -/
def skip : List Pop → List Pop
  | [] => []
  | o :: l => if isM o then skip l else o :: l
/-- The marks ahead of it. -/
def lead (time : Int) : List Pop → List (Int × Int)
  | [] => []
  | o :: l => if isM o then (o.i, time) :: lead time l else []
/-- How many accesses. -/
def many3 : List Pop → Nat
  | [] => 0
  | o :: l => (if isM o then 0 else 1) + many3 l
/-- What an access adds to the sum, where it was told t. -/
def gotOf (o : Pop) (t : Int) : Int :=
  if o.kd % 6 = 0 ∨ o.kd % 6 = 2 then t else if o.kd % 6 = 3 then (if t ≠ 0 then 1 else 0) else if o.kd % 6 = 4 then o.old else 0
/-- What is left of a program behind the accesses that were told, and the sum. -/
def replay : List Pop → List Int → Int → List Pop × Int
  | l, [], s => (l, s)
  | [], _ :: _, s => ([], s)
  | o :: l, t :: ts, s => if isM o then replay l (t :: ts) s else replay l ts (wrap64 (s + gotOf o t))

theorem replay_nil (l : List Pop) (s : Int) : replay l [] s = (l, s) := by cases l <;> rfl
theorem replay_mark {o : Pop} (h : isM o = true) (l : List Pop) (t : Int) (ts : List Int) (s : Int) : replay (o :: l) (t :: ts) s = replay l (t :: ts) s := by simp [replay, h]
theorem replay_acc {o : Pop} (h : isM o = false) (l : List Pop) (t : Int) (ts : List Int) (s : Int) : replay (o :: l) (t :: ts) s = replay l ts (wrap64 (s + gotOf o t)) := by simp [replay, h]

theorem wrap_wrap (a : Int) : wrap64 (wrap64 a) = wrap64 a := by unfold wrap64; omega
theorem wrap_zero : wrap64 0 = 0 := by unfold wrap64; omega

theorem isM_yes {o : Pop} (h : isM o = true) : o.kd % 6 = 5 := of_decide_eq_true h
theorem isM_no {o : Pop} (h : isM o = false) : ¬ o.kd % 6 = 5 := of_decide_eq_false h

/-- A mark that isn't behind a fresh access. -/
theorem pop_mark {o : Pop} {x : Pst} (h : isM o = true) (hf : fresh x.T = false) (hs : wrap64 x.s = x.s) : pop o x = x := by
  have h5 := isM_yes h
  simp [pop, popT, popM, popG, h5, marked, hf, hs]
/-- An access that is told again. -/
theorem pop_again {o : Pop} {x : Pst} {t : Int} {ts : List Int} (h : isM o = false) (hp : x.T.ph = 1) (hd : x.T.told.drop x.T.place = t :: ts) :
    pop o x = ⟨{ x.T with place := x.T.place + 1 }, x.m, wrap64 (x.s + gotOf o t)⟩ := by
  have h5 := isM_no h
  have hlt : x.T.place < x.T.told.length := by
    rcases Nat.lt_or_ge x.T.place x.T.told.length with h1 | h1
    · exact h1
    · rw [List.drop_eq_nil_of_le h1] at hd; cases hd
  have hne : ¬ x.T.place = x.T.told.length := by omega
  have ht : nth x.T.told x.T.place = t := by
    rw [List.drop_eq_getElem_cons hlt] at hd
    injection hd with h1 h2
    simp [nth, List.getD_eq_getElem?_getD, List.getElem?_eq_getElem hlt, h1]
  simp only [pop, popT, popM, popG, h5, if_false, accT, accM, accV, hp, if_true, hne, and_false, ht, gotOf]

/-- The accesses that are remembered are told again. -/
theorem run_again : ∀ (l : List Pop) (r : List Int) (x : Pst), x.T.ph = 1 → x.T.told.drop x.T.place = r → r.length ≤ many3 l → wrap64 x.s = x.s →
    runP l x = runP (replay l r x.s).1 ⟨{ x.T with place := x.T.place + r.length }, x.m, (replay l r x.s).2⟩ ∧ wrap64 (replay l r x.s).2 = (replay l r x.s).2 := by
  intro l
  induction l with
  | nil =>
    intro r x hp hr hl hs
    have : r = [] := List.eq_nil_of_length_eq_zero (by simpa [many3] using hl)
    subst this
    simp [replay, runP, hs]
  | cons o l ih =>
    intro r x hp hr hl hs
    cases r with
    | nil => simp [replay, hs]
    | cons t ts =>
      cases hm : isM o with
      | true =>
        rw [replay_mark hm]
        have hp1 := pop_mark (x := x) hm (by simp [fresh, hp]) hs
        have : runP (o :: l) x = runP l x := by
          simp only [runP, hp1]
          have : dry x.T = false := by simp [dry, hp]
          simp [this]
        rw [this]
        exact ih (t :: ts) x hp hr (by simpa [many3, hm] using hl) hs
      | false =>
        rw [replay_acc hm]
        have hp1 := pop_again hm hp hr
        have hr' : x.T.told.drop (x.T.place + 1) = ts := by
          rw [← List.drop_drop, hr]; rfl
        have : runP (o :: l) x = runP l ⟨{ x.T with place := x.T.place + 1 }, x.m, wrap64 (x.s + gotOf o t)⟩ := by
          simp only [runP, hp1]
          have : dry { x.T with place := x.T.place + 1 } = false := by simp [dry, hp]
          simp [this]
        rw [this]
        have := ih ts ⟨{ x.T with place := x.T.place + 1 }, x.m, wrap64 (x.s + gotOf o t)⟩ hp hr' (by simp [many3, hm] at hl; omega) (wrap_wrap _)
        simp only at this
        rw [this.1]
        refine ⟨?_, this.2⟩
        simp [Nat.add_assoc, Nat.add_comm 1]
/-- Marks ahead of an access that isn't done yet are nothing. -/
theorem run_skip : ∀ (l : List Pop) (x : Pst), x.T.ph = 1 → wrap64 x.s = x.s → runP l x = runP (skip l) x := by
  intro l
  induction l with
  | nil => intro x _ _; rfl
  | cons o l ih =>
    intro x hp hs
    cases hm : isM o with
    | true =>
      have hp1 := pop_mark (x := x) hm (by simp [fresh, hp]) hs
      have hd : dry x.T = false := by simp [dry, hp]
      simp only [runP, hp1, hd, skip, hm, if_true, Bool.false_eq_true, if_false]
      exact ih x hp hs
    | false => simp [skip, hm]
/-- Marks behind an access that was done are remembered; at the next one the trail is dry. -/
theorem run_lead : ∀ (l : List Pop) (x : Pst), x.T.ph = 2 → wrap64 x.s = x.s →
    (runP l x).1.T = { x.T with marks := x.T.marks ++ lead x.T.time l, ph := if skip l = [] then 2 else 4 } ∧ (runP l x).1.m = x.m ∧ (runP l x).2 = decide (skip l = []) ∧ (skip l = [] → (runP l x).1.s = x.s) := by
  intro l
  induction l with
  | nil => intro x hp _; simp [runP, lead, skip, ← hp]
  | cons o l ih =>
    intro x hp hs
    cases hm : isM o with
    | true =>
      have h5 := isM_yes hm
      have hf : fresh x.T = true := by simp [fresh, hp]
      have e : pop o x = ⟨{ x.T with marks := x.T.marks ++ [(o.i, x.T.time)] }, x.m, x.s⟩ := by
        simp [pop, popT, popM, popG, h5, marked, hf, hs]
      have hd : dry { x.T with marks := x.T.marks ++ [(o.i, x.T.time)] } = false := by simp [dry, hp]
      have := ih ⟨{ x.T with marks := x.T.marks ++ [(o.i, x.T.time)] }, x.m, x.s⟩ hp hs
      simp only [runP, e, hd, Bool.false_eq_true, if_false, skip, hm, if_true, lead]
      simpa using this
    | false =>
      have h5 := isM_no hm
      have e : (pop o x).T = { x.T with ph := 4 } := by simp [pop, popT, h5, accT, hp]
      have e2 : (pop o x).m = x.m := by simp [pop, popM, h5, accM, hp]
      have hd : dry (pop o x).T = true := by rw [e]; simp [dry]
      simp only [runP, hd, if_true, skip, hm, Bool.false_eq_true, if_false, lead]
      rw [e, e2]
      simp

theorem skip_many : ∀ l, many3 (skip l) = many3 l
  | [] => rfl
  | o :: l => by
    cases hm : isM o with
    | true => simp [skip, many3, hm, skip_many l]
    | false => simp [skip, many3, hm]
theorem skip_nil : ∀ l, skip l = [] ↔ many3 l = 0
  | [] => by simp [skip, many3]
  | o :: l => by
    cases hm : isM o with
    | true => simp [skip, many3, hm, skip_nil l]
    | false => simp [skip, many3, hm]
theorem skip_cons : ∀ {l o q}, skip l = o :: q → isM o = false ∧ many3 l = many3 q + 1
  | [], o, q, h => by simp [skip] at h
  | a :: l, o, q, h => by
    cases hm : isM a with
    | true =>
      simp only [skip, hm, if_true] at h
      have := skip_cons h
      exact ⟨this.1, by simp [many3, hm, this.2]⟩
    | false =>
      simp only [skip, hm, Bool.false_eq_true, if_false] at h
      injection h with h1 h2
      subst h1 h2
      exact ⟨hm, by simp [many3, hm]; omega⟩
theorem replay_one : ∀ l v s, replay l [v] s = match skip l with
    | [] => ([], s)
    | o :: q => (q, wrap64 (s + gotOf o v))
  | [], v, s => rfl
  | o :: l, v, s => by
    cases hm : isM o with
    | true => rw [replay_mark hm, replay_one l]; simp [skip, hm]
    | false => rw [replay_acc hm, replay_nil]; simp [skip, hm]
theorem replay_more : ∀ (l : List Pop) (ts : List Int) (v s : Int), ts.length ≤ many3 l → replay l (ts ++ [v]) s = replay (replay l ts s).1 [v] (replay l ts s).2 := by
  intro l
  induction l with
  | nil =>
    intro ts v s h
    have : ts = [] := List.eq_nil_of_length_eq_zero (by simpa [many3] using h)
    subst this
    rfl
  | cons o l ih =>
    intro ts v s h
    cases ts with
    | nil => simp [replay_nil]
    | cons t ts =>
      cases hm : isM o with
      | true =>
        rw [List.cons_append, replay_mark hm, replay_mark hm, ← List.cons_append]
        exact ih (t :: ts) v s (by simpa [many3, hm] using h)
      | false =>
        rw [List.cons_append, replay_acc hm, replay_acc hm]
        exact ih ts v _ (by simp [many3, hm] at h; omega)
theorem replay_many : ∀ (l : List Pop) (ts : List Int) (s : Int), ts.length ≤ many3 l → many3 (replay l ts s).1 + ts.length = many3 l := by
  intro l
  induction l with
  | nil =>
    intro ts s h
    have : ts = [] := List.eq_nil_of_length_eq_zero (by simpa [many3] using h)
    subst this
    rfl
  | cons o l ih =>
    intro ts s h
    cases ts with
    | nil => simp [replay_nil]
    | cons t ts =>
      cases hm : isM o with
      | true =>
        rw [replay_mark hm]
        have := ih (t :: ts) s (by simpa [many3, hm] using h)
        simp [many3, hm] at this ⊢
        omega
      | false =>
        rw [replay_acc hm]
        have := ih ts (wrap64 (s + gotOf o t)) (by simp [many3, hm] at h; omega)
        simp [many3, hm] at this ⊢
        omega

/-- A step's run. -/
def stepR (l : List Pop) (time : Int) (T : Tr) (m : Mm) : Pst × Bool := runP l ⟨began time T, m, 0⟩

section
variable {l q : List Pop} {o : Pop} {time : Int} {T : Tr} {m : Mm}

theorem stepR_eq (h : T.told.length ≤ many3 l) : stepR l time T m = runP (skip (replay l T.told 0).1) ⟨{ T with ph := 1, place := T.told.length, time := time }, m, (replay l T.told 0).2⟩ ∧ wrap64 (replay l T.told 0).2 = (replay l T.told 0).2 := by
  have := run_again l T.told ⟨began time T, m, 0⟩ rfl rfl h wrap_zero
  simp only at this
  unfold stepR
  rw [this.1]
  refine ⟨?_, this.2⟩
  rw [run_skip _ _ rfl this.2]
  simp [began]
/-- No access is left: the task is over. -/
theorem step_none (h : T.told.length ≤ many3 l) (hs : skip (replay l T.told 0).1 = []) :
    (ended (stepR l time T m).1.T).told = T.told ∧ (ended (stepR l time T m).1.T).marks = T.marks ∧ (ended (stepR l time T m).1.T).over = true ∧ dry (stepR l time T m).1.T = false ∧ (stepR l time T m).1.m = m ∧ (stepR l time T m).2 = true ∧ (stepR l time T m).1.s = (replay l T.told 0).2 := by
  rw [(stepR_eq h).1, hs]
  simp [runP, ended, dry]
/-- A wait goes on. -/
theorem step_waits (h : T.told.length ≤ many3 l) (hs : skip (replay l T.told 0).1 = o :: q) (hok : okOf (o.kd % 6) o.i o.old m = false) :
    (ended (stepR l time T m).1.T).told = T.told ∧ (ended (stepR l time T m).1.T).marks = T.marks ∧ (ended (stepR l time T m).1.T).over = false ∧ dry (stepR l time T m).1.T = true ∧ (stepR l time T m).1.m = memOf (o.kd % 6) o.i (popV o (replay l T.told 0).2) o.old m ∧ (stepR l time T m).2 = false := by
  rw [(stepR_eq h).1, hs]
  have h5 := isM_no (skip_cons hs).1
  simp [runP, ended, dry, pop, popT, popM, h5, accT, accM, hok]
/-- The next access is done. -/
theorem step_does (h : T.told.length ≤ many3 l) (hs : skip (replay l T.told 0).1 = o :: q) (hok : okOf (o.kd % 6) o.i o.old m = true) :
    (ended (stepR l time T m).1.T).told = T.told ++ [toldOf (o.kd % 6) o.i o.old m] ∧ (ended (stepR l time T m).1.T).marks = T.marks ++ lead time q ∧ (ended (stepR l time T m).1.T).over = decide (skip q = []) ∧ dry (stepR l time T m).1.T = !decide (skip q = []) ∧ (stepR l time T m).1.m = memOf (o.kd % 6) o.i (popV o (replay l T.told 0).2) o.old m ∧ (stepR l time T m).2 = decide (skip q = []) ∧
      (skip q = [] → (stepR l time T m).1.s = wrap64 ((replay l T.told 0).2 + gotOf o (toldOf (o.kd % 6) o.i o.old m))) := by
  rw [(stepR_eq h).1, hs]
  have h5 := isM_no (skip_cons hs).1
  have e : pop o ⟨{ T with ph := 1, place := T.told.length, time := time }, m, (replay l T.told 0).2⟩ = ⟨{ T with told := T.told ++ [toldOf (o.kd % 6) o.i o.old m], ph := 2, place := T.told.length + 1, time := time }, memOf (o.kd % 6) o.i (popV o (replay l T.told 0).2) o.old m, wrap64 ((replay l T.told 0).2 + gotOf o (toldOf (o.kd % 6) o.i o.old m))⟩ := by
    simp only [pop, popT, popM, popG, h5, if_false, accT, accM, accV, if_true, hok, and_self, gotOf]
    congr 2
    by_cases h0 : o.kd % 6 = 0 ∨ o.kd % 6 = 2
    · simp [h0]
    · by_cases h3 : o.kd % 6 = 3
      · simp [h3, okOf]
      · simp [h0, h3]
  have hd : dry { T with told := T.told ++ [toldOf (o.kd % 6) o.i o.old m], ph := 2, place := T.told.length + 1, time := time } = false := by simp [dry]
  simp only [runP, e, hd, Bool.false_eq_true, if_false]
  have := run_lead q ⟨{ T with told := T.told ++ [toldOf (o.kd % 6) o.i o.old m], ph := 2, place := T.told.length + 1, time := time }, memOf (o.kd % 6) o.i (popV o (replay l T.told 0).2) o.old m, wrap64 ((replay l T.told 0).2 + gotOf o (toldOf (o.kd % 6) o.i o.old m))⟩ rfl (wrap_wrap _)
  obtain ⟨h1, h2, h3, h4⟩ := this
  rw [h1, h2, h3]
  refine ⟨rfl, rfl, ?_, ?_, rfl, rfl, h4⟩
  · by_cases hq : skip q = [] <;> simp [ended, dry, hq]
  · by_cases hq : skip q = [] <;> simp [dry, hq]
end
end Go.Proofs.Ytodclnfhhaiblaa
