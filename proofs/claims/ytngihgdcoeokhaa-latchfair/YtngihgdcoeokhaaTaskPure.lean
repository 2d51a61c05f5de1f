/-
  Tasks as programs of accesses, pure, for whatever layer: what a task does on a trail, and what a step of it comes to.
-/
import Derived.Test.YtngihgdcoeokhaaTrailKit
namespace Go.Proofs.Ytngihgdcoeokhaa
open Go.RowKit
set_option linter.unusedVariables false

/-- A task: it answers, or does an access (0 load, 1 store, 2 add, 3 swap, 4 wait) and goes on with what it is told, or asks whether the trail is dry. -/
inductive Task (α : Type) where
  | ret (a : α)
  | acc (k i v old : Int) (next : Int → Task α)
  | ask (next : Bool → Task α)

/-- What is left of a run. -/
structure Out (α : Type) where
  a : α
  T : Tr
  m : Mm

variable {α : Type}
/-- The run, on a trail at whatever phase. -/
def play : Task α → Tr → Mm → Out α
  | .ret a, T, m => ⟨a, T, m⟩
  | .acc k i v old f, T, m => play (f (accV k i old T m)) (accT k i old T m) (accM k i v old T m)
  | .ask f, T, m => play (f (dry T)) T m

/-- Its answer on a dry trail. -/
def deadv : Task α → α
  | .ret a => a
  | .acc _ _ _ _ f => deadv (f 0)
  | .ask f => deadv (f true)
/-- Its answer behind the access that was done. -/
def spentv : Task α → α
  | .ret a => a
  | .acc _ _ _ _ f => deadv (f 0)
  | .ask f => spentv (f false)
/-- Is there no access any more? -/
def ends : Task α → Bool
  | .ret _ => true
  | .acc _ _ _ _ _ => false
  | .ask f => ends (f false)

/-- What comes of a step. -/
structure Turn (α : Type) where
  new : List Int
  m : Mm
  over : Bool
  a : α
/-- A step of the task, that was told l till now. -/
def turn : Task α → List Int → Mm → Turn α
  | .ret a, _, m => ⟨[], m, true, a⟩
  | .ask f, l, m => turn (f false) l m
  | .acc _ _ _ _ f, x :: l, m => turn (f x) l m
  | .acc k i v old f, [], m =>
    if okOf k i old m then ⟨[toldOf k i old m], memOf k i v old m, ends (f (toldOf k i old m)), spentv (f (toldOf k i old m))⟩ else ⟨[], memOf k i v old m, false, deadv (f 0)⟩

theorem play_dead (p : Task α) (T : Tr) (m : Mm) (h : T.ph = 4) : play p T m = ⟨deadv p, T, m⟩ := by
  induction p with
  | ret a => rfl
  | acc k i v old f ih =>
    have h1 : accT k i old T m = T := by simp [accT, h]
    have h2 : accM k i v old T m = m := by simp [accM, h]
    have h3 : accV k i old T m = 0 := by simp [accV, h]
    simp only [play, h1, h2, h3, deadv]
    exact ih 0
  | ask f ih =>
    have h1 : dry T = true := by simp [dry, h]
    simp only [play, h1, deadv]
    exact ih true

theorem play_waits (p : Task α) (T : Tr) (m : Mm) (h : T.ph = 3) : (play p T m).a = deadv p ∧ (play p T m).m = m ∧ (play p T m).T.told = T.told ∧ (play p T m).T.marks = T.marks ∧ (play p T m).T.over = T.over ∧ dry (play p T m).T = true := by
  induction p with
  | ret a => exact ⟨rfl, rfl, rfl, rfl, rfl, by simp [play, dry, h]⟩
  | acc k i v old f ih =>
    have h1 : accT k i old T m = { T with ph := 4 } := by simp [accT, h]
    have h2 : accM k i v old T m = m := by simp [accM, h]
    have h3 : accV k i old T m = 0 := by simp [accV, h]
    simp only [play, h1, h2, h3, deadv]
    rw [play_dead _ _ _ rfl]
    exact ⟨rfl, rfl, rfl, rfl, rfl, by simp [dry]⟩
  | ask f ih =>
    have h1 : dry T = true := by simp [dry, h]
    simp only [play, h1, deadv]
    exact ih true

theorem play_spent (p : Task α) (T : Tr) (m : Mm) (h : T.ph = 2) : (play p T m).a = spentv p ∧ (play p T m).m = m ∧ (play p T m).T.told = T.told ∧ (play p T m).T.marks = T.marks ∧ (play p T m).T.over = T.over ∧ dry (play p T m).T = !ends p := by
  induction p with
  | ret a => exact ⟨rfl, rfl, rfl, rfl, rfl, by simp [play, dry, h, ends]⟩
  | acc k i v old f ih =>
    have h1 : accT k i old T m = { T with ph := 4 } := by simp [accT, h]
    have h2 : accM k i v old T m = m := by simp [accM, h]
    have h3 : accV k i old T m = 0 := by simp [accV, h]
    simp only [play, h1, h2, h3, spentv, ends]
    rw [play_dead _ _ _ rfl]
    exact ⟨rfl, rfl, rfl, rfl, rfl, by simp [dry]⟩
  | ask f ih =>
    have h1 : dry T = false := by simp [dry, h]
    simp only [play, h1, spentv, ends]
    exact ih false

/-- A step does what turn says. -/
theorem play_turn (p : Task α) (l : List Int) (T : Tr) (m : Mm) (h : T.ph = 1) (hp : T.place ≤ T.told.length) (hl : T.told.drop T.place = l) :
    (play p T m).a = (turn p l m).a ∧ (play p T m).m = (turn p l m).m ∧ (play p T m).T.told = T.told ++ (turn p l m).new ∧ (play p T m).T.marks = T.marks ∧ (play p T m).T.over = T.over ∧ dry (play p T m).T = !(turn p l m).over := by
  induction p generalizing l T with
  | ret a => exact ⟨rfl, rfl, by simp [play, turn], rfl, rfl, by simp [play, turn, dry, h]⟩
  | ask f ih =>
    have h1 : dry T = false := by simp [dry, h]
    simp only [play, h1, turn]
    exact ih false l T h hp hl
  | acc k i v old f ih =>
    match l, hl with
    | [], hl =>
      have he : T.place = T.told.length := by
        have := List.drop_eq_nil_iff.1 hl
        omega
      have h2 : accM k i v old T m = memOf k i v old m := by simp [accM, h, he]
      by_cases hok : okOf k i old m = true
      · have h1 : accT k i old T m = { T with told := T.told ++ [toldOf k i old m], ph := 2, place := T.place + 1 } := by simp [accT, h, he, hok]
        have h3 : accV k i old T m = toldOf k i old m := by simp [accV, h, he, hok]
        simp only [play, h1, h2, h3, turn, hok, if_true]
        exact play_spent _ _ _ rfl
      · have h1 : accT k i old T m = { T with ph := 3 } := by simp [accT, h, he, hok]
        have h3 : accV k i old T m = 0 := by simp [accV, h, he, hok]
        have := play_waits (f 0) { T with ph := 3 } (memOf k i v old m) rfl
        simp only [play, h1, h2, h3, turn, hok]
        refine ⟨this.1, this.2.1, ?_, this.2.2.2.1, this.2.2.2.2.1, this.2.2.2.2.2⟩
        rw [this.2.2.1]
        simp
    | x :: l, hl =>
      have hlt : T.place < T.told.length := by
        rcases Nat.lt_or_ge T.place T.told.length with h1 | h1
        · exact h1
        · rw [List.drop_eq_nil_of_le h1] at hl; cases hl
      rw [List.drop_eq_getElem_cons hlt] at hl
      injection hl with hx hl
      have h1 : accT k i old T m = { T with place := T.place + 1 } := by
        have : T.place ≠ T.told.length := by omega
        simp [accT, h, this]
      have h2 : accM k i v old T m = m := by
        have : T.place ≠ T.told.length := by omega
        simp [accM, h, this]
      have h3 : accV k i old T m = x := by
        have : T.place ≠ T.told.length := by omega
        simp [accV, h, this, nth, List.getD_eq_getElem?_getD, List.getElem?_eq_getElem hlt, hx]
      simp only [play, h1, h2, h3, turn]
      exact ih x l { T with place := T.place + 1 } h hlt hl

theorem play_fine (p : Task α) (T : Tr) (m : Mm) (h : Fine T) : Fine (play p T m).T := by
  induction p generalizing T m with
  | ret a => exact h
  | acc k i v old f ih => exact ih _ _ _ (accT_fine h)
  | ask f ih => exact ih _ _ _ h
/-- Whole, from where a step begins. -/
theorem began_turn (p : Task α) (time : Int) (T : Tr) (m : Mm) :
    (play p (began time T) m).a = (turn p T.told m).a ∧ (play p (began time T) m).m = (turn p T.told m).m ∧ (play p (began time T) m).T.told = T.told ++ (turn p T.told m).new ∧ (play p (began time T) m).T.marks = T.marks ∧ (play p (began time T) m).T.over = T.over ∧ dry (play p (began time T) m).T = !(turn p T.told m).over :=
  play_turn p T.told (began time T) m rfl (Nat.zero_le _) (by simp [began])
theorem turn_cnt (p : Task α) (l : List Int) (m : Mm) : (turn p l m).m.cnt ≤ m.cnt + 1 ∧ (turn p l m).new.length ≤ 1 := by
  induction p generalizing l with
  | ret a => exact ⟨by simp only [turn]; omega, by simp [turn]⟩
  | ask f ih => exact ih false l
  | acc k i v old f ih =>
    match l with
    | [] =>
      have := memOf_cnt k i v old m
      simp only [turn]
      split
      · exact ⟨this, by simp⟩
      · exact ⟨this, by simp⟩
    | x :: l => exact ih x l
end Go.Proofs.Ytngihgdcoeokhaa
