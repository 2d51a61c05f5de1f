/-
  Layer 5: one trail whose memory lies elsewhere, with a cell of its own that its task lays: for whatever task.
-/
import Derived.Test.YtngihgdcoeokhaaLatchTask
namespace Go.Proofs.Ytngihgdcoeokhaa
open Go.ChangeShapes Go.WideShapes Go.ChangeAt Go.RowKit
set_option linter.unusedVariables false

/-- Where a task is: what it was told, whether it is over, the memory, what lies in its cell. -/
structure One where
  told : List Int
  over : Bool
  m : Mm
  v : Value
/-- A step of it. -/
def one (p : Task (Option Value)) (X : One) : One :=
  if X.over then X else ⟨X.told ++ (turn p X.told X.m).new, (turn p X.told X.m).over, (turn p X.told X.m).m, (turn p X.told X.m).a.getD X.v⟩
def ones (p : Task (Option Value)) : Nat → One → One
  | 0, X => X
  | n + 1, X => one p (ones p n X)
theorem one_few (p : Task (Option Value)) (X : One) : (one p X).told.length ≤ X.told.length + 1 ∧ (one p X).m.cnt ≤ X.m.cnt + 1 := by
  have := turn_cnt p X.told X.m
  unfold one
  split
  · exact ⟨by omega, by omega⟩
  · simp only [List.length_append]
    exact ⟨by omega, this.1⟩
theorem ones_few (p : Task (Option Value)) (n : Nat) (X : One) : (ones p n X).told.length ≤ X.told.length + n ∧ (ones p n X).m.cnt ≤ X.m.cnt + n := by
  induction n with
  | zero => exact ⟨by simp [ones], by simp [ones]⟩
  | succ n ih =>
    have := one_few p (ones p n X)
    simp only [ones]
    exact ⟨by omega, by push_cast; omega⟩
theorem one_over (p : Task (Option Value)) (X : One) (h : X.over = true) : one p X = X := by simp [one, h]

/-- Steps of F are steps of the program p. -/
def StepsBy (F : FuncId) (p : Task (Option Value)) : Prop :=
  ∀ (w : World) (b g tb : Nat) (tv mv : Value) (T : Tr) (m : Mm) (a : Addr) (time : Int), St w b g tb tv mv T m → T.over = false → T.ph = 0 → CellIn w b g tb tv mv (some a) → T.told.length + 5 ≤ 1000 → m.cnt + 5 ≤ 4611686018427387904 →
    Calls Try.prog 11 #[.pointer (some ⟨tb, 0, none⟩), .int .i64 time, .func (.func F) #[.agg #[.pointer (some a)]] #[]] w fun e w' =>
      e = .returned (.bool (turn p T.told m).over) ∧ ∃ T' tv' mv', SteppedL w b g tb tv mv (some a) T (turn p T.told m) T' tv' mv' w'
theorem user_steps : StepsBy 12 userP := fun _ _ _ _ _ _ _ _ _ time h ho hp hsp hr hu => user_step time h ho hp hsp hr hu
theorem idler_steps : StepsBy 17 idlerP := fun _ _ _ _ _ _ _ _ _ time h ho hp hsp hr hu => idler_step time h ho hp hsp hr hu

/-- One trail of its own, over a memory. -/
structure Lone (w0 : World) (b g tb qb : Nat) (ty : TypeId) (X : One) (T : Tr) (tv mv : Value) (w : World) : Prop where
  st : St w b g tb tv mv T X.m
  told : T.told = X.told
  over : T.over = X.over
  ph : T.ph = 0
  cell : Whole w qb ty #[X.v]
  apart : ¬ All b g tb tv mv qb
  only : Only (Two b g) w0 w
  new : ∀ k, All b g tb tv mv k → Two b g k ∨ w0.heap.size ≤ k
  qnew : w0.heap.size ≤ qb

section
variable {w0 w w1 w' : World} {b g tb qb : Nat} {ty : TypeId} {X : One} {T : Tr} {tv mv : Value}

theorem Lone.still (h : Lone w0 b g tb qb ty X T tv mv w) (hb : Below w.heap.size w w') : Lone w0 b g tb qb ty X T tv mv w' :=
  ⟨h.st.still hb, h.told, h.over, h.ph, h.cell.below hb h.cell.lt, h.apart, h.only.trans (Only.of_below hb _), h.new, h.qnew⟩

theorem lone_step {F : FuncId} {p : Task (Option Value)} (hF : StepsBy F p) (time : Int) (h : Lone w0 b g tb qb ty X T tv mv w) (hr : X.told.length + 5 ≤ 1000) (hu : X.m.cnt + 5 ≤ 4611686018427387904) :
    Calls Try.prog 11 #[.pointer (some ⟨tb, 0, none⟩), .int .i64 time, .func (.func F) #[.agg #[.pointer (some ⟨qb, 0, none⟩)]] #[]] w fun e w' =>
      ∃ T' tv' mv', e = .returned (.bool (one p X).over) ∧ Lone w0 b g tb qb ty (one p X) T' tv' mv' w' := by
  cases ho : X.over with
  | true =>
    refine (step_over time _ h.st (h.over.trans ho)).mono ?_
    rintro e w' ⟨rfl, rfl⟩
    rw [one_over p X ho]
    exact ⟨T, tv, mv, by rw [ho], h⟩
  | false =>
    have hsp : CellIn w b g tb tv mv (some ⟨qb, 0, none⟩) := by
      intro a ha
      injection ha with ha
      subst ha
      exact ⟨⟨X.v, h.cell.cell 0⟩, h.cell.frozen 0, h.apart⟩
    refine (hF w b g tb tv mv T X.m ⟨qb, 0, none⟩ time h.st (h.over.trans ho) h.ph hsp (by rw [h.told]; exact hr) hu).mono ?_
    rw [h.told]
    rintro e w' ⟨rfl, T', tv', mv', hS⟩
    have e1 : one p X = ⟨X.told ++ (turn p X.told X.m).new, (turn p X.told X.m).over, (turn p X.told X.m).m, (turn p X.told X.m).a.getD X.v⟩ := by simp [one, ho]
    rw [e1]
    have hqlt := h.cell.lt
    refine ⟨T', tv', mv', rfl, hS.st, ?_, hS.over, hS.ph, ?_, ?_, ?_, ?_, h.qnew⟩
    · rw [hS.told, h.told]
    · have := hS.cells h.cell h.apart
      cases ha : (turn p X.told X.m).a with
      | none => rw [ha] at this; exact this
      | some u => rw [ha] at this; exact this
    · exact fun ha => h.apart (hS.all hqlt ha)
    · refine ⟨hS.only.os.trans h.only.os, hS.only.tape.trans h.only.tape, hS.only.output.trans h.only.output, Nat.le_trans h.only.size hS.only.size, fun k hk hn2 => ?_⟩
      refine (hS.only.block k (Nat.lt_of_lt_of_le hk h.only.size) ?_).trans (h.only.block k hk hn2)
      rintro (hA | ⟨a, hp, rfl⟩)
      · rcases h.new k hA with h2 | h2
        · exact hn2 h2
        · omega
      · injection hp with hp
        subst hp
        have := h.qnew
        simp only at hk
        omega
    · intro k hk
      by_cases hlt : k < w.heap.size
      · exact h.new k (hS.all hlt hk)
      · have := h.only.size; exact .inr (by omega)

/-- A new trail and a new cell. -/
theorem lone_new {m : Mm} (ty : TypeId) (v : Value) (hs : St w1 b g tb (.slice none 0 0) (.slice none 0 0) newTr m) (hb : Below w.heap.size w w1) (htb : w.heap.size ≤ tb) :
    Lone w b g tb w1.heap.size ty ⟨[], false, m, v⟩ newTr (.slice none 0 0) (.slice none 0 0) (w1.alloc (.cells #[v] ty)) := by
  have hb3 : Below w1.heap.size w1 (w1.alloc (.cells #[v] ty)) := (Below.refl _ _).alloc (Nat.le_refl _) _
  refine ⟨hs.still hb3, rfl, rfl, rfl, Whole.new w1 _ _, not_all_new (w' := w1) hs (Nat.le_refl _), (Only.of_below hb _).trans (Only.of_below hb3 _), ?_, hb.size⟩
  rintro k (hk | hk | hk | hk | hk)
  · exact .inl (.inl hk)
  · exact .inl (.inr hk)
  · exact .inr (by omega)
  · simp [Value.ownBlock] at hk
  · simp [Value.ownBlock] at hk
/-- Behind a change of the memory. -/
theorem Lone.mem {m' : Mm} (h : Lone w0 b g tb qb ty X T tv mv w) (hm : MemAt w' b g m'.cs m'.cnt) (ho : Only (Two b g) w w') :
    Lone w0 b g tb qb ty ⟨X.told, X.over, m', X.v⟩ T tv mv w' := by
  have hn : ∀ k, Two b g k → All b g tb tv mv k := fun k hk => hk.elim .inl (fun h => .inr (.inl h))
  refine ⟨⟨h.st.tr.only ho (fun h2 => h2.elim h.st.nb h.st.ng) (fun k hk h2 => ?_) (fun k hk h2 => ?_), hm, h.st.apart⟩, h.told, h.over, h.ph, h.cell.only ho (fun h2 => h.apart (hn _ h2)), h.apart, h.only.trans ho, h.new, h.qnew⟩
  · rcases h2 with rfl | rfl
    · exact h.st.tb_ hk
    · exact h.st.apart hk
  · rcases h2 with rfl | rfl
    · exact h.st.mb hk
    · exact h.st.mg hk
end
/-- Steps of a loop. -/
def LoneRel (w0 : World) (b g tb qb : Nat) (ty : TypeId) (p : Task (Option Value)) (X : One) (n : Nat) (iv : Value) (wr : World) : Prop :=
  ∃ (k : Nat) (T : Tr) (tv mv : Value), k ≤ n ∧ iv = .int .i64 k ∧ Lone w0 b g tb qb ty (ones p k X) T tv mv wr
end Go.Proofs.Ytngihgdcoeokhaa
