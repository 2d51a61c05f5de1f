/-
  Layer 1: an access as the statements do it, by the memory and by the reference: the same plain function tells both.
-/
import Derived.Test.YtdnedmmhpgppmaaCellLook
import Derived.BigQuiet
import Derived.Deep.QuietTactic
import Derived.Deep.DeepCutAuto
import Derived.StillTailTactics
namespace Go.Proofs.Ytdnedmmhpgppmaa
open Go.ChangeShapes Go.WideShapes Go.ChangeAt Go.RowKit
set_option linter.unusedVariables false

/-- Is there a cell i? -/
abbrev Within (i : Int) (cs : List Int) : Prop := 0 ≤ i ∧ i < (cs.length : Int)

/-- What an access tells: its value and its error. -/
def told (q i v old : Int) (cs : List Int) : Int × Int :=
  if Within i cs then
    if q = 0 then (nth cs i.toNat, 0) else if q = 1 then (0, 0) else if q = 2 then (nth cs i.toNat, 0) else if nth cs i.toNat = old then (1, 0) else (0, 0)
  else (0, 1)
/-- The cells behind it. -/
def turned (q i v old : Int) (cs : List Int) : List Int :=
  if Within i cs then
    if q = 0 then cs else if q = 1 then cs.set i.toNat v else if q = 2 then cs.set i.toNat (wrap64 (nth cs i.toNat + v)) else if nth cs i.toNat = old then cs.set i.toNat v else cs
  else cs
/-- How many accesses more there are. -/
def tick (i : Int) (cs : List Int) : Int := if Within i cs then 1 else 0

theorem turned_length (q i v old : Int) (cs : List Int) : (turned q i v old cs).length = cs.length := by
  unfold turned; repeat' split
  all_goals simp
theorem tick_le (i : Int) (cs : List Int) : 0 ≤ tick i cs ∧ tick i cs ≤ 1 := by unfold tick; split <;> omega

section
variable {q i v old : Int} {cs : List Int}
theorem told_out (h : ¬ Within i cs) : told q i v old cs = (0, 1) := by simp only [told, if_neg h]
theorem turned_out (h : ¬ Within i cs) : turned q i v old cs = cs := by simp only [turned, if_neg h]
theorem tick_out (h : ¬ Within i cs) : tick i cs = 0 := by simp only [tick, if_neg h]
theorem tick_in (h : Within i cs) : tick i cs = 1 := by simp only [tick, if_pos h]
theorem told_0 (h : Within i cs) (hq : q = 0) : told q i v old cs = (nth cs i.toNat, 0) := by subst hq; simp only [told, if_pos h, if_pos]
theorem turned_0 (h : Within i cs) (hq : q = 0) : turned q i v old cs = cs := by subst hq; simp only [turned, if_pos h, if_pos]
theorem told_1 (h : Within i cs) (hq : q = 1) : told q i v old cs = (0, 0) := by subst hq; rw [told, if_pos h, if_neg (by omega), if_pos rfl]
theorem turned_1 (h : Within i cs) (hq : q = 1) : turned q i v old cs = cs.set i.toNat v := by subst hq; rw [turned, if_pos h, if_neg (by omega), if_pos rfl]
theorem told_2 (h : Within i cs) (hq : q = 2) : told q i v old cs = (nth cs i.toNat, 0) := by subst hq; rw [told, if_pos h, if_neg (by omega), if_neg (by omega), if_pos rfl]
theorem turned_2 (h : Within i cs) (hq : q = 2) : turned q i v old cs = cs.set i.toNat (wrap64 (nth cs i.toNat + v)) := by subst hq; rw [turned, if_pos h, if_neg (by omega), if_neg (by omega), if_pos rfl]
theorem told_3 (h : Within i cs) (hq : q = 3) (hs : nth cs i.toNat = old) : told q i v old cs = (1, 0) := by subst hq; rw [told, if_pos h, if_neg (by omega), if_neg (by omega), if_neg (by omega), if_pos hs]
theorem turned_3 (h : Within i cs) (hq : q = 3) (hs : nth cs i.toNat = old) : turned q i v old cs = cs.set i.toNat v := by subst hq; rw [turned, if_pos h, if_neg (by omega), if_neg (by omega), if_neg (by omega), if_pos hs]
theorem told_4 (h : Within i cs) (hq : q = 3) (hs : ¬ nth cs i.toNat = old) : told q i v old cs = (0, 0) := by subst hq; rw [told, if_pos h, if_neg (by omega), if_neg (by omega), if_neg (by omega), if_neg hs]
theorem turned_4 (h : Within i cs) (hq : q = 3) (hs : ¬ nth cs i.toNat = old) : turned q i v old cs = cs := by subst hq; rw [turned, if_pos h, if_neg (by omega), if_neg (by omega), if_neg (by omega), if_neg hs]
end

/-- What is left by an access of a memory. -/
def DidOp (w : World) (b g : Nat) (r : Int × Int) (cs : List Int) (cnt : Int) (e : Ending) (w' : World) : Prop :=
  e = .returned (.tuple #[.int .i64 r.1, .int .i64 r.2]) ∧ MemAt w' b g cs cnt ∧ Only (Two b g) w w'

theorem MemAt.alloc {w : World} {b g : Nat} {cs : List Int} {cnt : Int} (h : MemAt w b g cs cnt) (o : Obj) : MemAt (w.alloc o) b g cs cnt := ⟨h.top.alloc o, h.row.alloc o, h.few, h.lo, h.hi⟩
theorem only_new {S : Nat → Prop} {w w' : World} {o : Obj} (h : Only S (w.alloc o) w') : Only S w w' := ((Only.refl S w).alloc o).trans h

set_option maxHeartbeats 2000000 in
theorem do_any {w : World} {b g : Nat} {cs : List Int} {cnt : Int} (kd i v old : Int) (hk0 : 0 ≤ kd) (hk1 : kd ≤ 255) (h : MemAt w b g cs cnt) (hu : cnt + 1 ≤ 4611686018427387904) :
    Calls Try.prog 11 #[.pointer (some ⟨b, 0, none⟩), .agg #[.int .u8 kd, .int .i64 i, .int .i64 v, .int .i64 old]] w (DidOp w b g (told (kd % 4) i v old cs) (turned (kd % 4) i v old cs) (cnt + tick i cs)) := by
  have h' := h.alloc (.cells #[.int .u8 kd, .int .i64 i, .int .i64 v, .int .i64 old] 33)
  have H := Lib.hid h'
  clear h h'
  have hq : kd % 4 = 0 ∨ kd % 4 = 1 ∨ kd % 4 = 2 ∨ kd % 4 = 3 := by omega
  by_cases hin : Within i cs
  · obtain ⟨hi0, hi1⟩ := hin
    have HIN : Hid (Within i cs) := ⟨hi0, hi1⟩
    rcases hq with hq | hq | hq | hq
    · have h0 : (kd % 4 == 0) = true := beq_iff_eq.2 hq
      have HQ := Lib.hid hq
      clear hq
      go_enter Try.func11, Try.ntmps11
      go_wp2_with fail
      refine (load_in _ H.out hi0 hi1 hu).mono ?_
      rintro e w1 ⟨rfl, hm, ho⟩
      go_wp2_with fail
      go_ret2
      exact ⟨by rw [told_0 HIN.out HQ.out]; rfl, by rw [turned_0 HIN.out HQ.out, tick_in HIN.out]; exact hm, only_new ho⟩
    · have h0 : (kd % 4 == 0) = false := beq_eq_false_iff_ne.2 (by omega)
      have h1 : (kd % 4 == 1) = true := beq_iff_eq.2 hq
      have HQ := Lib.hid hq
      clear hq
      go_enter Try.func11, Try.ntmps11
      go_wp2_with fail
      refine (store_in _ _ H.out hi0 hi1 hu).mono ?_
      rintro e w1 ⟨rfl, hm, ho⟩
      go_wp2_with fail
      go_ret2
      exact ⟨by rw [told_1 HIN.out HQ.out]; rfl, by rw [turned_1 HIN.out HQ.out, tick_in HIN.out]; exact hm, only_new ho⟩
    · have h0 : (kd % 4 == 0) = false := beq_eq_false_iff_ne.2 (by omega)
      have h1 : (kd % 4 == 1) = false := beq_eq_false_iff_ne.2 (by omega)
      have h2 : (kd % 4 == 2) = true := beq_iff_eq.2 hq
      have HQ := Lib.hid hq
      clear hq
      go_enter Try.func11, Try.ntmps11
      go_wp2_with fail
      refine (add_in _ _ H.out hi0 hi1 hu).mono ?_
      rintro e w1 ⟨rfl, hm, ho⟩
      go_wp2_with fail
      go_ret2
      exact ⟨by rw [told_2 HIN.out HQ.out]; rfl, by rw [turned_2 HIN.out HQ.out, tick_in HIN.out]; exact hm, only_new ho⟩
    · have h0 : (kd % 4 == 0) = false := beq_eq_false_iff_ne.2 (by omega)
      have h1 : (kd % 4 == 1) = false := beq_eq_false_iff_ne.2 (by omega)
      have h2 : (kd % 4 == 2) = false := beq_eq_false_iff_ne.2 (by omega)
      have HQ := Lib.hid hq
      clear hq
      by_cases hs : nth cs i.toNat = old
      · have HSW := Lib.hid hs
        clear hs
        go_enter Try.func11, Try.ntmps11
        go_wp2_with fail
        refine (swap_yes _ _ _ H.out hi0 hi1 hu HSW.out).mono ?_
        rintro e w1 ⟨rfl, hm, ho⟩
        go_wp2_with fail
        go_ret2
        exact ⟨by rw [told_3 HIN.out HQ.out HSW.out]; rfl, by rw [turned_3 HIN.out HQ.out HSW.out, tick_in HIN.out]; exact hm, only_new ho⟩
      · have HSW := Lib.hid hs
        clear hs
        go_enter Try.func11, Try.ntmps11
        go_wp2_with fail
        refine (swap_no _ _ _ H.out hi0 hi1 hu HSW.out).mono ?_
        rintro e w1 ⟨rfl, hm, ho⟩
        go_wp2_with fail
        go_ret2
        exact ⟨by rw [told_4 HIN.out HQ.out HSW.out]; rfl, by rw [turned_4 HIN.out HQ.out HSW.out, tick_in HIN.out]; exact hm, only_new ho⟩
  · have hout : i < 0 ∨ (cs.length : Int) ≤ i := by unfold Within at hin; omega
    have HOUT := Lib.hid hout
    have HIN := Lib.hid hin
    clear hout hin
    rcases hq with hq | hq | hq | hq
    · have h0 : (kd % 4 == 0) = true := beq_iff_eq.2 hq
      have HQ := Lib.hid hq
      clear hq
      go_enter Try.func11, Try.ntmps11
      go_wp2_with fail
      refine (load_out _ H.out HOUT.out).mono ?_
      rintro e w1 ⟨rfl, rfl⟩
      go_wp2_with fail
      go_ret2
      exact ⟨by rw [told_out HIN.out]; rfl, by rw [turned_out HIN.out, tick_out HIN.out, Int.add_zero]; exact H.out, (Only.refl _ _).alloc _⟩
    · have h0 : (kd % 4 == 0) = false := beq_eq_false_iff_ne.2 (by omega)
      have h1 : (kd % 4 == 1) = true := beq_iff_eq.2 hq
      have HQ := Lib.hid hq
      clear hq
      go_enter Try.func11, Try.ntmps11
      go_wp2_with fail
      refine (store_out _ _ H.out HOUT.out).mono ?_
      rintro e w1 ⟨rfl, rfl⟩
      go_wp2_with fail
      go_ret2
      exact ⟨by rw [told_out HIN.out]; rfl, by rw [turned_out HIN.out, tick_out HIN.out, Int.add_zero]; exact H.out, (Only.refl _ _).alloc _⟩
    · have h0 : (kd % 4 == 0) = false := beq_eq_false_iff_ne.2 (by omega)
      have h1 : (kd % 4 == 1) = false := beq_eq_false_iff_ne.2 (by omega)
      have h2 : (kd % 4 == 2) = true := beq_iff_eq.2 hq
      have HQ := Lib.hid hq
      clear hq
      go_enter Try.func11, Try.ntmps11
      go_wp2_with fail
      refine (add_out _ _ H.out HOUT.out).mono ?_
      rintro e w1 ⟨rfl, rfl⟩
      go_wp2_with fail
      go_ret2
      exact ⟨by rw [told_out HIN.out]; rfl, by rw [turned_out HIN.out, tick_out HIN.out, Int.add_zero]; exact H.out, (Only.refl _ _).alloc _⟩
    · have h0 : (kd % 4 == 0) = false := beq_eq_false_iff_ne.2 (by omega)
      have h1 : (kd % 4 == 1) = false := beq_eq_false_iff_ne.2 (by omega)
      have h2 : (kd % 4 == 2) = false := beq_eq_false_iff_ne.2 (by omega)
      have HQ := Lib.hid hq
      clear hq
      go_enter Try.func11, Try.ntmps11
      go_wp2_with fail
      refine (swap_out _ _ _ H.out HOUT.out).mono ?_
      rintro e w1 ⟨rfl, rfl⟩
      go_wp2_with fail
      go_ret2
      exact ⟨by rw [told_out HIN.out]; rfl, by rw [turned_out HIN.out, tick_out HIN.out, Int.add_zero]; exact H.out, (Only.refl _ _).alloc _⟩
end Go.Proofs.Ytdnedmmhpgppmaa
