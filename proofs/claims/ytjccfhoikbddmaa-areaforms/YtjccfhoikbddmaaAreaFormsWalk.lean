/-
  Layer 6: the walk of the statement on areas that are formed, and what their pages have.
-/
import Derived.Test.YtjccfhoikbddmaaAreaRef
import Derived.Test.YtjccfhoikbddmaaBag
namespace Go.Proofs.Ytjccfhoikbddmaa
open Go.ChangeShapes Go.WideShapes Go.ChangeAt Go.RowKit
set_option linter.unusedVariables false

/-- The page's attributes, by address and by number, are the same. -/
theorem attr_is {a : Ar} {x : Int} (h : HasA a x) : a.at (x / 4096) = a.attr x := by
  have hf := (formed_iff a).1 h.formed
  have h1 := h.lo
  unfold Ar.at Ar.attr Ar.from pg
  simp only
  congr 1
  by_cases hb : a.bk = 0
  · rw [if_neg (by omega), if_pos hb, hf.2.2.2.2.1 hb]
  · rw [if_pos (by omega), if_neg hb]
    omega

set_option maxHeartbeats 2000000 in
theorem areaForms_walk (a : Ar) (x : Int) (w : World) : Calls Try.prog 4 #[a.v, .int .i64 x] w fun e w' => e = .returned (.bool true) ∧ Below w.heap.size w w' := by
  have S0 := Lib.hid ((Bag.new w).add 23 a.cells)
  have X := Lib.hid (attr_any a x)
  have F := Lib.hid (formed_any a)
  have R := Lib.hid (refFormed_any a)
  have HA := Lib.hid (has_any a x)
  by_cases hf : Formed a
  · rw [show decide (Formed a) = true from decide_eq_true hf] at F R
    by_cases hx : a.s ≤ x ∧ x < a.e
    · have hh : HasA a x := ⟨hf, hx.1, hx.2⟩
      rw [if_pos hh] at X
      rw [show decide (HasA a x) = true from decide_eq_true hh] at HA
      have g := (formed_iff a).1 hf
      have T := Lib.hid (refAttr_in a (x / 4096) (by omega) (by omega) (by omega) (by omega) (by omega) (by omega))
      rw [attr_is hh] at T
      have hd := tdiv_up (show 0 ≤ x by omega)
      have h3 : 0 ≤ x := by omega
      have h4 : x ≤ 2097152 := by omega
      have h5 : 0 ≤ x / 4096 := by omega
      have h6 : x / 4096 ≤ 512 := by omega
      obtain ⟨h1, h2⟩ := hx
      clear hf hh g
      generalize a.attr x = r at *
      obtain ⟨s, t, p, sh, bk, off⟩ := a
      obtain ⟨rp, rsh, rbk, roff⟩ := r
      unfold Ar.v Ar.cells At.v at *
      simp only at *
      go_enter Try.func4, Try.ntmps4
      go_upto_region 1 with (fail)
      generalize w.alloc _ = w0 at *
      generalize hq : w.heap.size = q at *
      have HQ := Lib.hid hq
      clear hq
      obtain ⟨c0, c1, c2, c3, c4, c5⟩ := row6 S0.out.v0
      go_wp2_with fail
      refine (X.out _).mono ?_
      rintro e w1 ⟨rfl, hb⟩
      have S1 := Lib.hid (S0.out.still hb)
      clear hb S0 c0 c1 c2 c3 c4 c5
      have S2 := Lib.hid (S1.out.add 32 #[.int .i64 rp, .bool rsh, .int .i64 rbk, .int .i64 roff])
      go_upto_region 2 with (fail)
      clear S1 
      generalize hw2 : World.alloc _ _ = w2 at *
      clear hw2
      generalize w1.heap.size = y at *
      obtain ⟨c0, c1, c2, c3, c4, c5⟩ := row6 S2.out.v1
      go_wp2_with fail
      refine (R.out _).mono ?_
      rintro e w3 ⟨rfl, hb⟩
      have S3 := Lib.hid (S2.out.still hb)
      clear hb S2 c0 c1 c2 c3 c4 c5
      obtain ⟨c0, c1, c2, c3, c4, c5⟩ := row6 S3.out.v1
      go_wp2_with fail
      refine (area_awake _).mono ?_
      rintro e w4 ⟨rfl, hb⟩
      have S4 := Lib.hid (S3.out.still hb)
      clear hb S3 c0 c1 c2 c3 c4 c5
      obtain ⟨c0, c1, c2, c3, c4, c5⟩ := row6 S4.out.v1
      go_wp2_with fail
      refine (F.out _).mono ?_
      rintro e w5 ⟨rfl, hb⟩
      have S5 := Lib.hid (S4.out.still hb)
      clear hb S4 c0 c1 c2 c3 c4 c5
      obtain ⟨c0, c1, c2, c3, c4, c5⟩ := row6 S5.out.v1
      go_wp2_with fail
      refine (HA.out _).mono ?_
      rintro e w6 ⟨rfl, hb⟩
      have S6 := Lib.hid (S5.out.still hb)
      clear hb S5 c0 c1 c2 c3 c4 c5
      obtain ⟨c0, c1, c2, c3, c4, c5⟩ := row6 S6.out.v1
      go_wp2_with fail
      refine (T.out _).mono ?_
      rintro e w7 ⟨rfl, hb⟩
      have S7 := Lib.hid (S6.out.still hb)
      clear hb S6 c0 c1 c2 c3 c4 c5
      have S8 := Lib.hid (S7.out.add 32 #[.int .i64 rp, .bool rsh, .int .i64 rbk, .int .i64 roff])
      go_upto_region 9 with (fail)
      clear S7 
      generalize hw8 : World.alloc _ _ = w8 at *
      clear hw8
      generalize w7.heap.size = z at *
      obtain ⟨d0, d1, d2, d3⟩ := row4 S8.out.v0
      obtain ⟨f0, f1, f2, f3⟩ := row4 S8.out.v1
      go_wp2_with fail
      go_ret
      exact ⟨rfl, S8.out.bel⟩
    · have hh : ¬ HasA a x := fun h => hx ⟨h.lo, h.hi⟩
      rw [if_neg hh] at X
      rw [show decide (HasA a x) = false from decide_eq_false hh] at HA
      have hx' : x < a.s ∨ (a.s ≤ x ∧ a.e ≤ x) := by omega
      clear hf hh hx
      obtain ⟨s, t, p, sh, bk, off⟩ := a
      unfold Ar.v Ar.cells At.v At.nil at *
      simp only at *
      rcases hx' with hx | ⟨hx0, hx⟩
      all_goals
        try have e1 : decide (x < t) = false := decide_eq_false (by omega)
        go_enter Try.func4, Try.ntmps4
        go_upto_region 1 with (fail)
        generalize w.alloc _ = w0 at *
        generalize hq : w.heap.size = q at *
        have HQ := Lib.hid hq
        clear hq
        obtain ⟨c0, c1, c2, c3, c4, c5⟩ := row6 S0.out.v0
        go_wp2_with fail
        refine (X.out _).mono ?_
        rintro e w1 ⟨rfl, hb⟩
        have S1 := Lib.hid (S0.out.still hb)
        clear hb S0 c0 c1 c2 c3 c4 c5
        have S2 := Lib.hid (S1.out.add 32 #[.int .i64 0, .bool false, .int .i64 0, .int .i64 0])
        go_upto_region 2 with (fail)
        clear S1 
        generalize hw2 : World.alloc _ _ = w2 at *
        clear hw2
        generalize w1.heap.size = y at *
        obtain ⟨c0, c1, c2, c3, c4, c5⟩ := row6 S2.out.v1
        go_wp2_with fail
        refine (R.out _).mono ?_
        rintro e w3 ⟨rfl, hb⟩
        have S3 := Lib.hid (S2.out.still hb)
        clear hb S2 c0 c1 c2 c3 c4 c5
        obtain ⟨c0, c1, c2, c3, c4, c5⟩ := row6 S3.out.v1
        go_wp2_with fail
        refine (area_awake _).mono ?_
        rintro e w4 ⟨rfl, hb⟩
        have S4 := Lib.hid (S3.out.still hb)
        clear hb S3 c0 c1 c2 c3 c4 c5
        obtain ⟨c0, c1, c2, c3, c4, c5⟩ := row6 S4.out.v1
        go_wp2_with fail
        refine (F.out _).mono ?_
        rintro e w5 ⟨rfl, hb⟩
        have S5 := Lib.hid (S4.out.still hb)
        clear hb S4 c0 c1 c2 c3 c4 c5
        obtain ⟨c0, c1, c2, c3, c4, c5⟩ := row6 S5.out.v1
        go_wp2_with fail
        refine (HA.out _).mono ?_
        rintro e w6 ⟨rfl, hb⟩
        have S6 := Lib.hid (S5.out.still hb)
        clear hb S5 c0 c1 c2 c3 c4 c5
        obtain ⟨d0, d1, d2, d3⟩ := row4 S6.out.v0
        go_wp2_with fail
        go_ret
        exact ⟨rfl, S6.out.bel⟩
  · rw [show decide (Formed a) = false from decide_eq_false hf] at F R
    have hh : ¬ HasA a x := fun h => hf h.formed
    rw [if_neg hh] at X
    rw [show decide (HasA a x) = false from decide_eq_false hh] at HA
    clear hf hh
    obtain ⟨s, t, p, sh, bk, off⟩ := a
    unfold Ar.v Ar.cells At.v At.nil at *
    simp only at *
    go_enter Try.func4, Try.ntmps4
    go_upto_region 1 with (fail)
    generalize w.alloc _ = w0 at *
    generalize hq : w.heap.size = q at *
    have HQ := Lib.hid hq
    clear hq
    obtain ⟨c0, c1, c2, c3, c4, c5⟩ := row6 S0.out.v0
    go_wp2_with fail
    refine (X.out _).mono ?_
    rintro e w1 ⟨rfl, hb⟩
    have S1 := Lib.hid (S0.out.still hb)
    clear hb S0 c0 c1 c2 c3 c4 c5
    have S2 := Lib.hid (S1.out.add 32 #[.int .i64 0, .bool false, .int .i64 0, .int .i64 0])
    go_upto_region 2 with (fail)
    clear S1 
    generalize hw2 : World.alloc _ _ = w2 at *
    clear hw2
    generalize w1.heap.size = y at *
    obtain ⟨c0, c1, c2, c3, c4, c5⟩ := row6 S2.out.v1
    go_wp2_with fail
    refine (R.out _).mono ?_
    rintro e w3 ⟨rfl, hb⟩
    have S3 := Lib.hid (S2.out.still hb)
    clear hb S2 c0 c1 c2 c3 c4 c5
    obtain ⟨c0, c1, c2, c3, c4, c5⟩ := row6 S3.out.v1
    go_wp2_with fail
    refine (area_awake _).mono ?_
    rintro e w4 ⟨rfl, hb⟩
    have S4 := Lib.hid (S3.out.still hb)
    clear hb S3 c0 c1 c2 c3 c4 c5
    obtain ⟨c0, c1, c2, c3, c4, c5⟩ := row6 S4.out.v1
    go_wp2_with fail
    refine (F.out _).mono ?_
    rintro e w5 ⟨rfl, hb⟩
    have S5 := Lib.hid (S4.out.still hb)
    clear hb S4 c0 c1 c2 c3 c4 c5
    obtain ⟨c0, c1, c2, c3, c4, c5⟩ := row6 S5.out.v1
    go_wp2_with fail
    refine (HA.out _).mono ?_
    rintro e w6 ⟨rfl, hb⟩
    have S6 := Lib.hid (S5.out.still hb)
    clear hb S5 c0 c1 c2 c3 c4 c5
    obtain ⟨d0, d1, d2, d3⟩ := row4 S6.out.v0
    go_wp2_with fail
    go_ret
    exact ⟨rfl, S6.out.bel⟩
end Go.Proofs.Ytjccfhoikbddmaa
