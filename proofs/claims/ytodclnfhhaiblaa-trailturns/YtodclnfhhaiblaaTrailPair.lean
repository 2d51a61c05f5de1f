/-
  Layer 3: a trail and the reference's thread, side by side.
-/
import Derived.Test.YtodclnfhhaiblaaTrailThreadStep
namespace Go.Proofs.Ytodclnfhhaiblaa
open Go.RowKit

/-- Both are at the same place of the program; s is what the task has laid. -/
structure Pair (l : List Pop) (T : Tr) (h : Th) (z : Int) : Prop where
  ph : T.ph = 0
  le : T.told.length ≤ many3 l
  a : h.a ≤ l.length
  t : h.t = T.told.length
  mks : h.mks = T.marks
  s : h.s = (replay l T.told 0).2
  at_ : skip (l.drop h.a) = skip (replay l T.told 0).1
  few : T.marks.length ≤ T.told.length * l.length
  over : T.over = true → skip (l.drop h.a) = [] ∧ z = h.s

theorem pair_new (l : List Pop) (s : Int) : Pair l ⟨[], [], false, 0, 0, 0⟩ ⟨0, 0, 0, []⟩ s :=
  ⟨rfl, Nat.zero_le _, Nat.zero_le _, rfl, rfl, by rw [replay_nil], by rw [replay_nil]; rfl, by simp, fun h => by cases h⟩

section
variable {l : List Pop} {T : Tr} {h : Th} {s time : Int} {m : Mm}

/-- Both take a step. -/
theorem pair_step (P : Pair l T h s) (_ho : T.over = false) (a' : Nat) (ha : a' ≤ l.length) (hs : skip (l.drop a') = (nxt (skip (l.drop h.a)) time h m).r) :
    (nxt (skip (l.drop h.a)) time h m).m = (stepR l time T m).1.m ∧
    Pair l (ended (stepR l time T m).1.T) ⟨a', (nxt (skip (l.drop h.a)) time h m).t, (nxt (skip (l.drop h.a)) time h m).s, (nxt (skip (l.drop h.a)) time h m).mks⟩ (if (stepR l time T m).2 then (stepR l time T m).1.s else s) ∧
    (!dry (stepR l time T m).1.T) = decide (skip (l.drop a') = []) ∧ (ended (stepR l time T m).1.T).over = decide (skip (l.drop a') = []) ∧ (stepR l time T m).1.m.cnt ≤ m.cnt + 1 := by
  cases hr : skip (replay l T.told 0).1 with
  | nil =>
    obtain ⟨d1, d2, d3, d4, d5, d6, d7⟩ := step_none (time := time) (m := m) P.le hr
    have e0 : skip (l.drop h.a) = [] := P.at_.trans hr
    rw [e0] at hs ⊢
    simp only [nxt] at hs ⊢
    rw [d5, d6, d7, d4, hs, d3]
    refine ⟨rfl, ⟨rfl, by rw [d1]; exact P.le, ha, by rw [d1]; exact P.t, by rw [d2]; exact P.mks, by rw [d1]; exact P.s, by rw [d1, hr]; exact hs, by rw [d1, d2]; exact P.few, fun _ => ⟨hs, by simp [P.s]⟩⟩, by simp, by simp, by omega⟩
  | cons o q =>
    have e0 : skip (l.drop h.a) = o :: q := P.at_.trans hr
    rw [e0] at hs ⊢
    cases hok : okOf (o.kd % 6) o.i o.old m with
    | false =>
      obtain ⟨d1, d2, d3, d4, d5, d6⟩ := step_waits (time := time) (m := m) P.le hr hok
      simp only [nxt, hok, Bool.false_eq_true, if_false] at hs ⊢
      rw [d5, d6, d4, hs, d3, ← P.s]
      refine ⟨rfl, ⟨rfl, by rw [d1]; exact P.le, ha, by rw [d1]; exact P.t, by rw [d2]; exact P.mks, by rw [d1]; exact P.s, by rw [d1, hr]; exact hs, by rw [d1, d2]; exact P.few, fun hh => by rw [d3] at hh; cases hh⟩, by simp, by simp, memOf_cnt ..⟩
    | true =>
      obtain ⟨d1, d2, d3, d4, d5, d6, d7⟩ := step_does (time := time) (m := m) P.le hr hok
      have hmn := replay_many l T.told 0 P.le
      have hsc := (skip_cons hr).2
      have hrep : replay l (T.told ++ [toldOf (o.kd % 6) o.i o.old m]) 0 = (q, wrap64 ((replay l T.told 0).2 + gotOf o (toldOf (o.kd % 6) o.i o.old m))) := by
        rw [replay_more _ _ _ _ P.le, replay_one, hr]
      simp only [nxt, hok, if_true] at hs ⊢
      have hql : (lead time q).length ≤ l.length := by
        have h1 := replay_len l T.told 0
        have h2 := skip_len (replay l T.told 0).1
        rw [hr] at h2
        simp at h2
        have h3 := lead_len time q
        omega
      have hsd : decide (skip q = []) = decide (skip (l.drop a') = []) := by rw [hs]
      refine ⟨by rw [d5, P.s], ⟨rfl, ?_, ha, ?_, ?_, ?_, ?_, ?_, ?_⟩, ?_, ?_, ?_⟩
      · rw [d1]; simp; omega
      · rw [d1]; simp [P.t]
      · rw [d2]; simp [P.mks]
      · rw [d1, hrep]; simp [P.s]
      · rw [d1, hrep]; exact hs
      · rw [d1, d2]
        have h1 := P.few
        simp only [List.length_append, List.length_cons, List.length_nil, Nat.zero_add, Nat.add_mul, Nat.one_mul]
        omega
      · intro hh
        rw [d3, decide_eq_true_eq] at hh
        refine ⟨by rw [hs]; exact hh, ?_⟩
        rw [d6]
        simp [hh, d7 hh, P.s]
      · rw [d4, hsd]; simp
      · rw [d3, hsd]
      · rw [d5]; exact memOf_cnt ..
end
end Go.Proofs.Ytodclnfhhaiblaa
