/-
  Layer 2: whether a handle is right, and what is told, or done, on the strength of it.
-/
import Derived.Test.YtlgaihlbfjndhaaArena
namespace Go.Proofs.Ytlgaihlbfjndhaa
open Go.ChangeShapes Go.WideShapes Go.ChangeAt Go.RowKit
set_option linter.unusedVariables false

section
variable {w : World} {b g : Nat} {fst : Int} {l : Slots} {st db : Bool}

set_option maxHeartbeats 1000000 in
theorem right_any (h G : Int) (H : ArAt w b g fst l st db) (hG : Gens l G) (hG0 : 0 ≤ G) (hG1 : G ≤ 1099511627776) (hh : h ≤ 9223372036854775807) :
    Calls Try.prog 16 #[.pointer (some ⟨b, 0, none⟩), .int .i64 h] w fun e w' => e = .returned (.bool (rightB l h)) ∧ Below w.heap.size w w' := by
  have hiff := right_iff (h := h) hG hG0 H.few
  have hc := H.c1
  have hlo := slotOf_lo h
  have hhi := slotOf_hi h
  have hfew := H.few
  by_cases hin : 1 ≤ slotOf h ∧ slotOf h ≤ l.length
  · obtain ⟨h1, h2⟩ := hin
    obtain ⟨i, hi⟩ : ∃ i : Nat, slotOf h = (i : Int) + 1 := ⟨(slotOf h - 1).toNat, by omega⟩
    have hil : i < l.length := by omega
    have e1 : (slotOf h - 1).toNat = i := by omega
    rw [e1] at hiff
    have c1 := H.gen i hil
    have c2 := H.live i hil
    have g1 := gen_mem hG i hG0
    have ch : hndAt l i = genAt l i * 65536 + ((i : Int) + 1) := rfl
    have HI := Lib.hid hi
    have HIFF := Lib.hid hiff
    have CH := Lib.hid ch
    clear hiff hi e1 ch hlo hhi h1 h2
    have g1a := g1.1
    have g1b := g1.2
    generalize hx : genAt l i = x at *
    generalize l.length = n at *
    have HX := Lib.hid hx
    clear hx H hG g1
    cases hv : liveAt l i with
    | false =>
      rw [hv] at c2
      have HR : Hid (rightB l h = false) := by
        unfold Hid; rw [Bool.eq_false_iff]; intro hr
        have := (HIFF.out.1 hr).2.1
        rw [hv] at this; cases this
      clear HIFF hv
      go_enter Try.func16, Try.ntmps16
      go_wp2_with fail
      refine (slot_any _ _ hh).mono ?_
      rw [HI.out]
      rintro e w' ⟨rfl, rfl⟩
      go_wp2_with fail
      refine (has_yes b g n _ _ hc (by omega) (by omega)).mono ?_
      rintro e w' ⟨rfl, rfl⟩
      go_wp2_with fail
      go_ret
      exact ⟨by rw [HR.out]; rfl, (Below.refl _ _).alloc (Nat.le_refl _) _⟩
    | true =>
      rw [hv] at c2
      have HV := Lib.hid hv
      clear hv
      by_cases he : x * 65536 + ((i : Int) + 1) = h
      · have HR : Hid (rightB l h = true) := HIFF.out.2 ⟨by rw [HI.out]; omega, HV.out, by rw [CH.out]; exact he⟩
        have hb : (x * 65536 + ((i : Int) + 1) == h) = true := beq_iff_eq.2 he
        clear HIFF he
        go_enter Try.func16, Try.ntmps16
        go_wp2_with fail
        refine (slot_any _ _ hh).mono ?_
        rw [HI.out]
        rintro e w' ⟨rfl, rfl⟩
        go_wp2_with fail
        refine (has_yes b g n _ _ hc (by omega) (by omega)).mono ?_
        rintro e w' ⟨rfl, rfl⟩
        go_wp2_with fail
        refine (handle_any _ _ _ g1a (by omega) (by omega) (by omega)).mono ?_
        rintro e w' ⟨rfl, rfl⟩
        go_wp2_with fail
        go_ret
        exact ⟨by rw [HR.out]; rfl, (Below.refl _ _).alloc (Nat.le_refl _) _⟩
      · have HR : Hid (rightB l h = false) := by
          unfold Hid; rw [Bool.eq_false_iff]; intro hr
          have := (HIFF.out.1 hr).2.2
          rw [CH.out] at this; exact he this
        have hb : (x * 65536 + ((i : Int) + 1) == h) = false := beq_eq_false_iff_ne.2 he
        clear HIFF he
        go_enter Try.func16, Try.ntmps16
        go_wp2_with fail
        refine (slot_any _ _ hh).mono ?_
        rw [HI.out]
        rintro e w' ⟨rfl, rfl⟩
        go_wp2_with fail
        refine (has_yes b g n _ _ hc (by omega) (by omega)).mono ?_
        rintro e w' ⟨rfl, rfl⟩
        go_wp2_with fail
        refine (handle_any _ _ _ g1a (by omega) (by omega) (by omega)).mono ?_
        rintro e w' ⟨rfl, rfl⟩
        go_wp2_with fail
        go_ret
        exact ⟨by rw [HR.out]; rfl, (Below.refl _ _).alloc (Nat.le_refl _) _⟩
  · have HR : Hid (rightB l h = false) := by
      unfold Hid; rw [Bool.eq_false_iff]; intro hr
      exact hin (hiff.1 hr).1
    have hno : slotOf h < 1 ∨ (l.length : Int) < slotOf h := by omega
    have HN := Lib.hid hno
    clear hiff hin hno hlo hhi
    go_enter Try.func16, Try.ntmps16
    go_wp2_with fail
    refine (slot_any _ _ hh).mono ?_
    rintro e w' ⟨rfl, rfl⟩
    go_wp2_with fail
    refine (has_no b g _ _ _ hc HN.out).mono ?_
    rintro e w' ⟨rfl, rfl⟩
    go_wp2_with fail
    go_ret
    exact ⟨by rw [HR.out]; rfl, Below.refl _ _⟩

/-- What a call on an arena leaves: its answer, and the arena; and nothing else has turned. -/
def ArDid (w : World) (b g : Nat) (v : Value) (fst : Int) (l : Slots) (st db : Bool) (e : Ending) (w' : World) : Prop :=
  e = .returned v ∧ ArAt w' b g fst l st db ∧ Only (ArTwo b g) w w'

theorem touch_any (h G : Int) (H : ArAt w b g fst l st db) (hG : Gens l G) (hG0 : 0 ≤ G) (hG1 : G ≤ 1099511627776) (hh : h ≤ 9223372036854775807) :
    Calls Try.prog 14 #[.pointer (some ⟨b, 0, none⟩), .int .i64 h] w (ArDid w b g (.tuple #[]) fst l (st || !rightB l h) db) := by
  have HH := Lib.hid H
  have HG := Lib.hid hG
  clear H hG
  cases hr : rightB l h with
  | true =>
    have HR := Lib.hid hr
    clear hr
    go_enter Try.func14, Try.ntmps14
    go_wp2_with fail
    refine (right_any h G HH.out HG.out hG0 hG1 hh).mono ?_
    rw [HR.out]
    rintro e w1 ⟨rfl, hb⟩
    go_wp2_with fail
    go_end0
    exact ⟨rfl, by simpa using HH.out.still hb, Only.of_below hb _⟩
  | false =>
    have HR := Lib.hid hr
    clear hr
    go_enter Try.func14, Try.ntmps14
    go_wp2_with fail
    refine (right_any h G HH.out HG.out hG0 hG1 hh).mono ?_
    rw [HR.out]
    rintro e w1 ⟨rfl, hb⟩
    have h1 := HH.out.still hb
    have c2 := h1.c2
    have f2 := h1.fr 2
    have H1 := Lib.hid h1
    clear h1
    go_wp2_with fail
    go_end0
    exact ⟨rfl, by simpa using H1.out.stale true, (Only.of_below hb _).setCell (p := ⟨b, 2, none⟩) (.inl (.inl rfl)) _⟩
end
end Go.Proofs.Ytlgaihlbfjndhaa
