/-
  Layer 1: an access as the statements do it, by the memory and by the reference: the same plain function tells both.
-/
import Derived.Test.YtodclnfhhaiblaaCellLook
import Derived.BigQuiet
import Derived.Deep.QuietTactic
import Derived.Deep.DeepCutAuto
import Derived.StillTailTactics
namespace Go.Proofs.Ytodclnfhhaiblaa
open Go.ChangeShapes Go.WideShapes Go.ChangeAt Go.RowKit
set_option linter.unusedVariables false

/-- Is there a cell i? -/
abbrev Within (i : Int) (cs : List Int) : Prop := 0 ≤ i ∧ i < (cs.length : Int)

/-- What an access tells: its value and its error. -/
def told (q i v old : Int) (cs : List Int) : Int × Int :=
  if Within i cs then
    if q = 0 then (nth cs i.toNat, 0) else if q = 1 then (0, 0) else if q = 2 then (nth cs i.toNat, 0) else if nth cs i.toNat = old then (1, 0) else (0, 0)
  else (0, 1)
/-- The cells behind it. -/
def turned (q i v old : Int) (cs : List Int) : List Int :=
  if Within i cs then
    if q = 0 then cs else if q = 1 then cs.set i.toNat v else if q = 2 then cs.set i.toNat (wrap64 (nth cs i.toNat + v)) else if nth cs i.toNat = old then cs.set i.toNat v else cs
  else cs
/-- How many accesses more there are. -/
def tick (i : Int) (cs : List Int) : Int := if Within i cs then 1 else 0

theorem turned_length (q i v old : Int) (cs : List Int) : (turned q i v old cs).length = cs.length := by
  unfold turned; repeat' split
  all_goals simp
theorem tick_le (i : Int) (cs : List Int) : 0 ≤ tick i cs ∧ tick i cs ≤ 1 := by unfold tick; split <;> omega

section
variable {q i v old : Int} {cs : List Int}
theorem told_out (h : ¬ Within i cs) : told q i v old cs = (0, 1) := by simp only [told, if_neg h]
theorem turned_out (h : ¬ Within i cs) : turned q i v old cs = cs := by simp only [turned, if_neg h]
theorem tick_out (h : ¬ Within i cs) : tick i cs = 0 := by simp only [tick, if_neg h]
theorem tick_in (h : Within i cs) : tick i cs = 1 := by simp only [tick, if_pos h]
theorem told_0 (h : Within i cs) (hq : q = 0) : told q i v old cs = (nth cs i.toNat, 0) := by subst hq; simp only [told, if_pos h, if_pos]
theorem turned_0 (h : Within i cs) (hq : q = 0) : turned q i v old cs = cs := by subst hq; simp only [turned, if_pos h, if_pos]
theorem told_1 (h : Within i cs) (hq : q = 1) : told q i v old cs = (0, 0) := by subst hq; rw [told, if_pos h, if_neg (by omega), if_pos rfl]
theorem turned_1 (h : Within i cs) (hq : q = 1) : turned q i v old cs = cs.set i.toNat v := by subst hq; rw [turned, if_pos h, if_neg (by omega), if_pos rfl]
theorem told_2 (h : Within i cs) (hq : q = 2) : told q i v old cs = (nth cs i.toNat, 0) := by subst hq; rw [told, if_pos h, if_neg (by omega), if_neg (by omega), if_pos rfl]
theorem turned_2 (h : Within i cs) (hq : q = 2) : turned q i v old cs = cs.set i.toNat (wrap64 (nth cs i.toNat + v)) := by subst hq; rw [turned, if_pos h, if_neg (by omega), if_neg (by omega), if_pos rfl]
theorem told_3 (h : Within i cs) (hq : q = 3) (hs : nth cs i.toNat = old) : told q i v old cs = (1, 0) := by subst hq; rw [told, if_pos h, if_neg (by omega), if_neg (by omega), if_neg (by omega), if_pos hs]
theorem turned_3 (h : Within i cs) (hq : q = 3) (hs : nth cs i.toNat = old) : turned q i v old cs = cs.set i.toNat v := by subst hq; rw [turned, if_pos h, if_neg (by omega), if_neg (by omega), if_neg (by omega), if_pos hs]
theorem told_4 (h : Within i cs) (hq : q = 3) (hs : ¬ nth cs i.toNat = old) : told q i v old cs = (0, 0) := by subst hq; rw [told, if_pos h, if_neg (by omega), if_neg (by omega), if_neg (by omega), if_neg hs]
theorem turned_4 (h : Within i cs) (hq : q = 3) (hs : ¬ nth cs i.toNat = old) : turned q i v old cs = cs := by subst hq; rw [turned, if_pos h, if_neg (by omega), if_neg (by omega), if_neg (by omega), if_neg hs]
end

/-- What is left by an access of a memory. -/
def DidOp (w : World) (b g : Nat) (r : Int × Int) (cs : List Int) (cnt : Int) (e : Ending) (w' : World) : Prop :=
  e = .returned (.tuple #[.int .i64 r.1, .int .i64 r.2]) ∧ MemAt w' b g cs cnt ∧ Only (Two b g) w w'

theorem MemAt.alloc {w : World} {b g : Nat} {cs : List Int} {cnt : Int} (h : MemAt w b g cs cnt) (o : Obj) : MemAt (w.alloc o) b g cs cnt := ⟨h.top.alloc o, h.row.alloc o, h.few, h.lo, h.hi⟩
theorem only_new {S : Nat → Prop} {w w' : World} {o : Obj} (h : Only S (w.alloc o) w') : Only S w w' := ((Only.refl S w).alloc o).trans h

end Go.Proofs.Ytodclnfhhaiblaa
