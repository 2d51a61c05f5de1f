/-
  Layer 5: a thread as the reference says it: its steps, what was told where it is, and that a step of the task agrees.
-/
import Derived.Test.YtngihgdcoeokhaaLatchLaw
namespace Go.Proofs.Ytngihgdcoeokhaa
open Go.ChangeShapes Go.WideShapes Go.ChangeAt Go.RowKit
set_option linter.unusedVariables false
set_option linter.unusedSimpArgs false

/-- A thread of the reference. -/
structure Th where
  at_ : Nat
  tk : Int
  saw : Int
/-- The number, and the latch's cells. -/
structure Bd where
  n : Int
  d : Int
  s : Int
def th0 : Th := ⟨0, 0, 0⟩
def Bd.cells (B : Bd) : List Int := [B.n, B.d, B.s]
/-- A step of the reference. -/
def ustep (x : Th) (B : Bd) : Th × Bd :=
  if x.at_ = 0 then (⟨1, B.d, x.saw⟩, ⟨B.n, wrap64 (B.d + 1), B.s⟩)
  else if x.at_ = 1 then (if B.s = x.tk then (⟨2, x.tk, x.saw⟩, B) else (x, B))
  else if x.at_ = 2 then (⟨3, x.tk, B.n⟩, B)
  else if x.at_ = 3 then (⟨4, x.tk, x.saw⟩, ⟨wrap64 (x.saw + 1), B.d, B.s⟩)
  else if x.at_ = 4 then (⟨5, x.tk, x.saw⟩, ⟨B.n, B.d, wrap64 (x.tk + 1)⟩)
  else (x, B)
/-- What is laid into the task's cell. -/
def lays (x : Th) : Option Int := if x.at_ = 4 then some x.tk else none
/-- What the trail was told, where the thread is. -/
def ToldAs (x : Th) (l : List Int) : Prop :=
  (x.at_ = 0 ∧ l = []) ∨ (x.at_ = 1 ∧ l = [x.tk]) ∨ (x.at_ = 2 ∧ ∃ z, l = [x.tk, z]) ∨ (x.at_ = 3 ∧ ∃ z, l = [x.tk, z, x.saw]) ∨ (x.at_ = 4 ∧ ∃ z y, l = [x.tk, z, x.saw, y]) ∨ (x.at_ = 5 ∧ l.length = 5)
theorem ToldAs.len {x : Th} {l : List Int} (h : ToldAs x l) : l.length ≤ 5 ∧ x.at_ ≤ 5 := by
  rcases h with ⟨h, rfl⟩ | ⟨h, rfl⟩ | ⟨h, z, rfl⟩ | ⟨h, z, rfl⟩ | ⟨h, z, y, rfl⟩ | ⟨h, h2⟩
  all_goals simp_all

theorem turn_agrees (x : Th) (B : Bd) (l : List Int) (c : Int) (h : ToldAs x l) (h5 : x.at_ ≠ 5) :
    turn userP l ⟨B.cells, c⟩ = ⟨(turn userP l ⟨B.cells, c⟩).new, ⟨(ustep x B).2.cells, c + 1⟩, (ustep x B).1.at_ == 5, (lays x).map (Value.int .i64)⟩ ∧ ToldAs (ustep x B).1 (l ++ (turn userP l ⟨B.cells, c⟩).new) := by
  obtain ⟨n, d, s⟩ := B
  simp only [Bd.cells]
  rcases h with ⟨h, rfl⟩ | ⟨h, rfl⟩ | ⟨h, z, rfl⟩ | ⟨h, z, rfl⟩ | ⟨h, z, y, rfl⟩ | ⟨h, h2⟩
  · simp [user0, ustep, lays, h, ToldAs]
  · by_cases hs : s = x.tk
    · subst hs
      simp [user1 n d x.tk c x.tk rfl, ustep, lays, h, ToldAs]
    · simp [user1' _ _ _ _ _ hs, ustep, lays, h, ToldAs, hs]
  · simp [user2, ustep, lays, h, ToldAs]
  · simp [user3, ustep, lays, h, ToldAs]
  · simp [user4, ustep, lays, h, ToldAs]
  · exact absurd h h5
theorem ustep_over (x : Th) (B : Bd) (h : x.at_ = 5) : ustep x B = (x, B) := by simp [ustep, h]

/-- The trail is where the thread is. -/
structure Sim (x : Th) (T : Tr) : Prop where
  told : ToldAs x T.told
  over : T.over = (x.at_ == 5)
  ph : T.ph = 0
theorem sim_new : Sim th0 newTr := ⟨.inl ⟨rfl, rfl⟩, rfl, rfl⟩

/-- What a step leaves. -/
structure US (x : Th) (B : Bd) (w : World) (b g tb : Nat) (tv mv : Value) (p : Addr) (c : Int) (T' : Tr) (c' : Int) (tv' mv' : Value) (w' : World) : Prop where
  st : St w' b g tb tv' mv' T' ⟨(ustep x B).2.cells, c'⟩
  sim : Sim (ustep x B).1 T'
  cnt : c' ≤ c + 1
  only : Only (May b g tb tv mv (some p)) w w'
  t : ∀ k, tv'.ownBlock = some k → tv.ownBlock = some k ∨ w.heap.size ≤ k
  m : ∀ k, mv'.ownBlock = some k → mv.ownBlock = some k ∨ w.heap.size ≤ k
  laid : ¬ All b g tb tv mv p.block → p.block < w.heap.size → w'.heap[p.block]? = (laidAt (some p) ((lays x).map (Value.int .i64)) w).heap[p.block]?

section
variable {w w' : World} {b g tb : Nat} {tv mv tv' mv' : Value} {T T' : Tr} {p : Addr} {x : Th} {B : Bd} {c c' : Int}
theorem US.got {qb qi : Nat} {gl : List Int} (h : US x B w b g tb tv mv ⟨qb, qi, none⟩ c T' c' tv' mv' w') (hw : Whole w qb 2 (nums gl)) (hn : ¬ All b g tb tv mv qb) :
    Whole w' qb 2 (nums (match lays x with | none => gl | some k => gl.set qi k)) := by
  have := h.laid hn hw.lt
  unfold Whole
  simp only at this
  rw [this]
  unfold laidAt
  cases lays x with
  | none => exact hw
  | some k =>
    have := hw.put qi (.int .i64 k)
    rw [nums_set] at this
    exact this

theorem thread_step (time : Int) (h : St w b g tb tv mv T ⟨B.cells, c⟩) (hs : Sim x T) (hsp : CellIn w b g tb tv mv (some p)) (hu : c + 5 ≤ 4611686018427387904) :
    Calls Try.prog 11 #[.pointer (some ⟨tb, 0, none⟩), .int .i64 time, .func (.func 12) #[.agg #[.pointer (some p)]] #[]] w fun e w' =>
      e = .returned (.bool ((ustep x B).1.at_ == 5)) ∧ ∃ T' c' tv' mv', US x B w b g tb tv mv p c T' c' tv' mv' w' := by
  by_cases h5 : x.at_ = 5
  · refine (step_over time _ h (by rw [hs.over, h5]; rfl)).mono ?_
    rintro e w' ⟨rfl, rfl⟩
    have hl : lays x = none := by simp [lays, h5]
    refine ⟨by rw [ustep_over x B h5, h5]; rfl, T, c, tv, mv, ?_, ?_, by omega, Only.refl _ _, fun _ h => .inl h, fun _ h => .inl h, fun _ _ => by rw [hl]; rfl⟩
    · rw [ustep_over x B h5]; exact h
    · rw [ustep_over x B h5]; exact hs
  · have hlen := hs.told.len
    have ho : T.over = false := by rw [hs.over]; simpa using h5
    obtain ⟨e1, e2⟩ := turn_agrees x B T.told c hs.told h5
    refine (user_step time h ho hs.ph hsp (by omega) hu).mono ?_
    rintro e w' ⟨rfl, T', tv', mv', hS⟩
    generalize turn userP T.told ⟨B.cells, c⟩ = u at *
    obtain ⟨nw, m', ov, a⟩ := u
    injection e1 with _ e3 e4 e5
    simp only at e2 hS
    subst e3 e4 e5
    exact ⟨rfl, T', _, tv', mv', hS.st, ⟨by rw [hS.told]; exact e2, hS.over, hS.ph⟩, by omega, hS.only, hS.t, hS.m, fun hn hl => hS.flag p rfl hn hl⟩
end
end Go.Proofs.Ytngihgdcoeokhaa
