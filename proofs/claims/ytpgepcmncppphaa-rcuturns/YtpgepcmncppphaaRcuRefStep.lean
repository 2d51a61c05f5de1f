/-
  Layer 4: the reference's step, as a call.
-/
import Derived.Test.YtpgepcmncppphaaRcuHoldsWalk
import Derived.BigRegion
namespace Go.Proofs.Ytpgepcmncppphaa
open Go.ChangeShapes Go.WideShapes Go.ChangeAt Go.RowKit
set_option linter.unusedVariables false

/-- The reference's task at o of the row in hb, and its board; and what was there at first. -/
structure Rs (w0 : World) (cs0 : Array Value) (hb o bb : Nat) (kd : Int) (r : Nat) (x : Rt) (bl : List Int) (cs : Array Value) (w : World) : Prop where
  whole : Whole w hb 37 cs
  fit : o + 6 ≤ cs.size
  k0 : cs[o]? = some (.int .u8 kd)
  k1 : cs[o + 1]? = some (.int .i64 r)
  k2 : cs[o + 2]? = some (.int .i64 x.at_)
  k3 : cs[o + 3]? = some (.int .i64 x.saw)
  k4 : cs[o + 4]? = some (.bool x.over)
  k5 : cs[o + 5]? = some (.bool x.went)
  size : cs.size = cs0.size
  same : ∀ j, j < o ∨ o + 6 ≤ j → cs[j]? = cs0[j]?
  board : Whole w bb 29 (nums bl)
  len : bl.length = 17
  only : Only (fun k => k = hb ∨ k = bb) w0 w

section
variable {w0 w : World} {cs0 cs : Array Value} {hb o bb : Nat} {kd : Int} {r : Nat} {x : Rt} {bl : List Int}

theorem set_at {cs : Array Value} {i : Nat} (u : Value) (h : i < cs.size) (j : Nat) : (cs.setIfInBounds i u)[j]? = if j = i then some u else cs[j]? := by
  rw [Array.getElem?_setIfInBounds]
  by_cases hj : i = j
  · subst hj; simp [h]
  · simp [hj, Ne.symm hj]
theorem Rs.ne (h : Rs w0 cs0 hb o bb kd r x bl cs w) : hb ≠ bb := h.whole.apart h.board (by decide)
theorem Rs.at_ (h : Rs w0 cs0 hb o bb kd r x bl cs w) (n : Nat) : Rs w0 cs0 hb o bb kd r { x with at_ := n } bl (cs.setIfInBounds (o + 2) (.int .i64 n)) (w.setCell ⟨hb, o + 2, none⟩ (.int .i64 n)) := by
  have hf := h.fit
  have key := fun j => set_at (i := o + 2) (.int .i64 (n : Int)) (show o + 2 < cs.size by omega) j
  refine ⟨h.whole.put _ _, by simpa using hf, ?_, ?_, ?_, ?_, ?_, ?_, by simpa using h.size, fun j hj => ?_, h.board.far (Ne.symm h.ne) _, h.len, h.only.setCell (.inl (.inl rfl)) _⟩
  · rw [key, if_neg (by omega)]; exact h.k0
  · rw [key, if_neg (by omega)]; exact h.k1
  · rw [key, if_pos rfl]
  · rw [key, if_neg (by omega)]; exact h.k3
  · rw [key, if_neg (by omega)]; exact h.k4
  · rw [key, if_neg (by omega)]; exact h.k5
  · rw [key, if_neg (by omega)]; exact h.same j hj
theorem Rs.saw (h : Rs w0 cs0 hb o bb kd r x bl cs w) (n : Int) : Rs w0 cs0 hb o bb kd r { x with saw := n } bl (cs.setIfInBounds (o + 3) (.int .i64 n)) (w.setCell ⟨hb, o + 3, none⟩ (.int .i64 n)) := by
  have hf := h.fit
  have key := fun j => set_at (i := o + 3) (.int .i64 (n : Int)) (show o + 3 < cs.size by omega) j
  refine ⟨h.whole.put _ _, by simpa using hf, ?_, ?_, ?_, ?_, ?_, ?_, by simpa using h.size, fun j hj => ?_, h.board.far (Ne.symm h.ne) _, h.len, h.only.setCell (.inl (.inl rfl)) _⟩
  · rw [key, if_neg (by omega)]; exact h.k0
  · rw [key, if_neg (by omega)]; exact h.k1
  · rw [key, if_neg (by omega)]; exact h.k2
  · rw [key, if_pos rfl]
  · rw [key, if_neg (by omega)]; exact h.k4
  · rw [key, if_neg (by omega)]; exact h.k5
  · rw [key, if_neg (by omega)]; exact h.same j hj
theorem Rs.over (h : Rs w0 cs0 hb o bb kd r x bl cs w) (n : Bool) : Rs w0 cs0 hb o bb kd r { x with over := n } bl (cs.setIfInBounds (o + 4) (.bool n)) (w.setCell ⟨hb, o + 4, none⟩ (.bool n)) := by
  have hf := h.fit
  have key := fun j => set_at (i := o + 4) (.bool n) (show o + 4 < cs.size by omega) j
  refine ⟨h.whole.put _ _, by simpa using hf, ?_, ?_, ?_, ?_, ?_, ?_, by simpa using h.size, fun j hj => ?_, h.board.far (Ne.symm h.ne) _, h.len, h.only.setCell (.inl (.inl rfl)) _⟩
  · rw [key, if_neg (by omega)]; exact h.k0
  · rw [key, if_neg (by omega)]; exact h.k1
  · rw [key, if_neg (by omega)]; exact h.k2
  · rw [key, if_neg (by omega)]; exact h.k3
  · rw [key, if_pos rfl]
  · rw [key, if_neg (by omega)]; exact h.k5
  · rw [key, if_neg (by omega)]; exact h.same j hj
theorem Rs.went (h : Rs w0 cs0 hb o bb kd r x bl cs w) (n : Bool) : Rs w0 cs0 hb o bb kd r { x with went := n } bl (cs.setIfInBounds (o + 5) (.bool n)) (w.setCell ⟨hb, o + 5, none⟩ (.bool n)) := by
  have hf := h.fit
  have key := fun j => set_at (i := o + 5) (.bool n) (show o + 5 < cs.size by omega) j
  refine ⟨h.whole.put _ _, by simpa using hf, ?_, ?_, ?_, ?_, ?_, ?_, by simpa using h.size, fun j hj => ?_, h.board.far (Ne.symm h.ne) _, h.len, h.only.setCell (.inl (.inl rfl)) _⟩
  · rw [key, if_neg (by omega)]; exact h.k0
  · rw [key, if_neg (by omega)]; exact h.k1
  · rw [key, if_neg (by omega)]; exact h.k2
  · rw [key, if_neg (by omega)]; exact h.k3
  · rw [key, if_neg (by omega)]; exact h.k4
  · rw [key, if_pos rfl]
  · rw [key, if_neg (by omega)]; exact h.same j hj
theorem Rs.bset (h : Rs w0 cs0 hb o bb kd r x bl cs w) (i : Nat) (v : Int) : Rs w0 cs0 hb o bb kd r x (bl.set i v) cs (w.setCell ⟨bb, i, none⟩ (.int .i64 v)) := by
  refine ⟨h.whole.far h.ne _, h.fit, h.k0, h.k1, h.k2, h.k3, h.k4, h.k5, h.size, h.same, ?_, by simpa using h.len, h.only.setCell (.inl (.inr rfl)) _⟩
  have := h.board.put i (.int .i64 v)
  rw [nums_set] at this
  exact this
theorem Rs.drew (h : Rs w0 cs0 hb o bb kd r x bl cs w) : Rs w0 cs0 hb o bb kd r x bl cs w.drew :=
  ⟨h.whole.drew, h.fit, h.k0, h.k1, h.k2, h.k3, h.k4, h.k5, h.size, h.same, h.board.drew, h.len, h.only.drew⟩
theorem Rs.drewN (h : Rs w0 cs0 hb o bb kd r x bl cs w) (n : Nat) : Rs w0 cs0 hb o bb kd r x bl cs (w.drewN n) :=
  ⟨h.whole.drewN n, h.fit, h.k0, h.k1, h.k2, h.k3, h.k4, h.k5, h.size, h.same, h.board.drewN n, h.len, h.only.drewN n⟩
theorem Rs.c (h : Rs w0 cs0 hb o bb kd r x bl cs w) : w.cell? ⟨hb, o, none⟩ = some (.int .u8 kd) ∧ w.cell? ⟨hb, o + 1, none⟩ = some (.int .i64 r) ∧ w.cell? ⟨hb, o + 2, none⟩ = some (.int .i64 x.at_) ∧ w.cell? ⟨hb, o + 3, none⟩ = some (.int .i64 x.saw) ∧ w.cell? ⟨hb, o + 4, none⟩ = some (.bool x.over) ∧ w.cell? ⟨hb, o + 5, none⟩ = some (.bool x.went) :=
  ⟨(h.whole.cell _).trans h.k0, (h.whole.cell _).trans h.k1, (h.whole.cell _).trans h.k2, (h.whole.cell _).trans h.k3, (h.whole.cell _).trans h.k4, (h.whole.cell _).trans h.k5⟩
theorem Rs.b (h : Rs w0 cs0 hb o bb kd r x bl cs w) (i : Nat) (hi : i < 17) : w.cell? ⟨bb, i, none⟩ = some (.int .i64 (nth bl i)) := (h.board.cell i).trans (nums_at bl i (by rw [h.len]; exact hi))
end

/-- What the reference's step leaves. -/
def RDid (w0 : World) (cs0 : Array Value) (hb o bb : Nat) (kd : Int) (r : Nat) (y : Rt × List Int) (e : Ending) (w : World) : Prop :=
  e = .returned (.tuple #[]) ∧ ∃ cs, Rs w0 cs0 hb o bb kd r y.1 y.2 cs w

section
variable {w0 w : World} {cs0 cs : Array Value} {hb o bb : Nat} {kd : Int} {r : Nat} {x : Rt} {bl : List Int}

set_option maxHeartbeats 2000000 in
theorem ref_over (h : Rs w0 cs0 hb o bb kd r x bl cs w) (ho : x.over = true) :
    Calls Try.prog 12 #[.pointer (some ⟨hb, o, none⟩), .pointer (some ⟨bb, 0, none⟩)] w (RDid w0 cs0 hb o bb kd r (rstep kd r x bl)) := by
  have c4 := h.c.2.2.2.2.1
  rw [ho] at c4
  have FIN : Hid (RDid w0 cs0 hb o bb kd r (rstep kd r x bl) (.returned (.tuple #[])) w) := by
    rw [rstep_over _ _ _ _ ho]
    exact ⟨rfl, cs, h⟩
  clear h
  go_enter Try.func12, Try.ntmps12
  go_wp2_with fail
  go_end0
  exact FIN.out

set_option maxHeartbeats 8000000 in
theorem ref_goes (h : Rs w0 cs0 hb o bb kd r x bl cs w) (ho : x.over = false) (hk0 : 0 ≤ kd) (hr : r < 16) (hat : x.at_ ≤ 18) :
    Calls Try.prog 12 #[.pointer (some ⟨hb, o, none⟩), .pointer (some ⟨bb, 0, none⟩)] w (RDid w0 cs0 hb o bb kd r (rstep kd r x bl)) := by
  obtain ⟨cs1, hR⟩ : ∃ cs1, Rs w0 cs0 hb o bb kd r { x with at_ := x.at_ + 1 } bl cs1 (w.setCell ⟨hb, o + 2, none⟩ (.int .i64 ((x.at_ : Int) + 1))) := ⟨_, by
    have := h.at_ (x.at_ + 1)
    push_cast at this
    exact this⟩
  have R1 := Lib.hid hR
  clear hR
  obtain ⟨c0, c1, c2, c3, c4, c5⟩ := h.c
  rw [ho] at c4
  have hne := h.ne
  have f2 := h.whole.frozen (o + 2)
  clear h
  go_enter Try.func12, Try.ntmps12
  go_upto_region 2 with (fail)
  clear c0 c1 c2 c3 c4 c5 f2
  generalize w.setCell ⟨hb, o + 2, none⟩ (.int .i64 ((x.at_ : Int) + 1)) = w1 at *
  obtain ⟨c0, c1, c2, c3, c4, c5⟩ := R1.out.c
  simp only at c2 c3 c4 c5
  have hm := rem3 kd hk0
  have f3 := R1.out.whole.frozen (o + 3)
  have f4 := R1.out.whole.frozen (o + 4)
  have f5 := R1.out.whole.frozen (o + 5)
  have cb0 := R1.out.b 0 (by omega)
  have fb0 := R1.out.board.frozen 0
  have r0 : (0 : Int) ≤ (r : Int) := by omega
  have r1 : (r : Int) < 16 := by omega
  have cbr := R1.out.b (1 + r) (by omega)
  have fbr := R1.out.board.frozen (1 + r)
  have hcase : kd % 3 = 0 ∨ kd % 3 = 1 ∨ kd % 3 = 2 := by omega
  rcases hcase with hc | hc | hc
  · rw [hc] at hm
    by_cases h0 : x.at_ = 0
    · have FIN : Hid (RDid w0 cs0 hb o bb kd r (rstep kd r x bl) (.returned (.tuple #[])) (w1.setCell ⟨hb, o + 3, none⟩ (.int .i64 (nth bl 0)))) := by
        have := R1.out.saw (nth bl 0)
        have hR : rstep kd r x bl = ({ x with at_ := x.at_ + 1, saw := nth bl 0 }, bl) := by simp [rstep, ho, hc, h0]
        rw [hR]
        exact ⟨rfl, _, this⟩
      rw [h0] at c2
      generalize nth bl 0 = e0 at *
      clear R1
      go_wp2_with fail
      go_end0
      exact FIN.out
    · have FIN : Hid (RDid w0 cs0 hb o bb kd r (rstep kd r x bl) (.returned (.tuple #[])) ((w1.setCell ⟨bb, 1 + r, none⟩ (.int .i64 (wrap64 (x.saw + 1)))).drew.setCell ⟨hb, o + 4, none⟩ (.bool true))) := by
        have := (R1.out.bset (1 + r) (wrap64 (x.saw + 1))).drew.over true
        have hR : rstep kd r x bl = ({ x with at_ := x.at_ + 1, over := true }, bl.set (1 + r) (wrap64 (x.saw + 1))) := by simp [rstep, ho, hc, h0]
        rw [hR]
        exact ⟨rfl, _, this⟩
      clear R1
      generalize x.saw = sw at *
      generalize x.at_ = xa at *
      go_upto_region 14 with (fail)
      go_region
      go_wp2_with fail
      go_end0
      exact FIN.out
  · rw [hc] at hm
    have FIN : Hid (RDid w0 cs0 hb o bb kd r (rstep kd r x bl) (.returned (.tuple #[])) ((w1.setCell ⟨bb, 1 + r, none⟩ (.int .i64 0)).drew.setCell ⟨hb, o + 4, none⟩ (.bool true))) := by
      have := (R1.out.bset (1 + r) 0).drew.over true
      have hR : rstep kd r x bl = ({ x with at_ := x.at_ + 1, over := true }, bl.set (1 + r) 0) := by simp [rstep, ho, hc]
      rw [hR]
      exact ⟨rfl, _, this⟩
    clear R1
    generalize x.saw = sw at *
    generalize x.at_ = xa at *
    go_upto_region 17 with (fail)
    go_region
    go_wp2_with fail
    go_end0
    exact FIN.out
  · rw [hc] at hm
    by_cases h0 : x.at_ = 0
    · have FIN : Hid (RDid w0 cs0 hb o bb kd r (rstep kd r x bl) (.returned (.tuple #[])) (w1.setCell ⟨hb, o + 3, none⟩ (.int .i64 (nth bl 0)))) := by
        have := R1.out.saw (nth bl 0)
        have hR : rstep kd r x bl = ({ x with at_ := x.at_ + 1, saw := nth bl 0 }, bl) := by simp [rstep, ho, hc, h0]
        rw [hR]
        exact ⟨rfl, _, this⟩
      rw [h0] at c2
      generalize nth bl 0 = e0 at *
      clear R1
      go_wp2_with fail
      go_end0
      exact FIN.out
    · by_cases h16 : x.at_ ≤ 16
      · obtain ⟨j, hj⟩ : ∃ j, x.at_ = j + 1 := ⟨x.at_ - 1, by omega⟩
        have FIN : Hid (∀ n, RDid w0 cs0 hb o bb kd r (rstep kd r x bl) (.returned (.tuple #[])) ((w1.drewN n).setCell ⟨hb, o + 4, none⟩ (.bool (holds (nth bl (1 + j)) x.saw)))) := by
          refine Lib.hid (fun n => ?_)
          have := (R1.out.drewN n).over (holds (nth bl (1 + j)) x.saw)
          have hR : rstep kd r x bl = ({ x with at_ := x.at_ + 1, over := holds (nth bl x.at_) x.saw }, bl) := by
            unfold rstep
            rw [if_neg (by simp [ho]), if_neg (by omega), if_neg (by omega), if_neg (by omega), if_pos h16]
          rw [hR, show x.at_ = 1 + j from by omega]
          rw [show x.at_ = 1 + j from by omega] at this
          exact ⟨rfl, _, this⟩
        have cbj := R1.out.b (1 + j) (by omega)
        have c2' : w1.cell? ⟨hb, o + 2, none⟩ = some (.int .i64 ((j : Int) + 2)) := by
          rw [c2, hj]; push_cast; rw [Int.add_assoc]; rfl
        have j0 : (0 : Int) ≤ (j : Int) := by omega
        have j1 : (j : Int) < 16 := by omega
        have hh : Hid (holds (nth bl (1 + j)) x.saw = ((nth bl (1 + j) != 0) && (nth bl (1 + j) != wrap64 (x.saw + 1)))) := rfl
        clear R1 c2 hj h0 h16 hat
        generalize holds (nth bl (1 + j)) x.saw = hd at *
        generalize nth bl (1 + j) = v at *
        generalize x.saw = sw at *
        go_upto_region 6 with (fail)
        go_quiet (fail)
        have FX := Lib.hid (FIN.out nq)
        clear FIN
        cases hv : (v != 0) with
        | false =>
          obtain rfl : hd = false := by rw [hh.out, hv]; rfl
          go_wp2_with fail
          go_end0
          exact FX.out
        | true =>
          obtain rfl : hd = (v != wrap64 (sw + 1)) := by rw [hh.out, hv]; rfl
          go_wp2_with fail
          go_end0
          exact FX.out
      · have FIN : Hid (RDid w0 cs0 hb o bb kd r (rstep kd r x bl) (.returned (.tuple #[])) (((w1.setCell ⟨bb, 0, none⟩ (.int .i64 (wrap64 (x.saw + 1)))).setCell ⟨hb, o + 4, none⟩ (.bool true)).setCell ⟨hb, o + 5, none⟩ (.bool true))) := by
          have := ((R1.out.bset 0 (wrap64 (x.saw + 1))).over true).went true
          have hR : rstep kd r x bl = ({ x with at_ := x.at_ + 1, over := true, went := true }, bl.set 0 (wrap64 (x.saw + 1))) := by
            unfold rstep
            rw [if_neg (by simp [ho]), if_neg (by omega), if_neg (by omega), if_neg (by omega), if_neg (by omega)]
          rw [hR]
          exact ⟨rfl, _, this⟩
        clear R1
        generalize x.saw = sw at *
        generalize x.at_ = xa at *
        go_wp2_with fail
        go_end0
        exact FIN.out
/-- The reference's step. -/
theorem ref_step (h : Rs w0 cs0 hb o bb kd r x bl cs w) (hk0 : 0 ≤ kd) (hr : r < 16) (hat : x.at_ ≤ 18) :
    Calls Try.prog 12 #[.pointer (some ⟨hb, o, none⟩), .pointer (some ⟨bb, 0, none⟩)] w (RDid w0 cs0 hb o bb kd r (rstep kd r x bl)) := by
  cases ho : x.over with
  | true => exact ref_over h ho
  | false => exact ref_goes h ho hk0 hr hat
end
end Go.Proofs.Ytpgepcmncppphaa
