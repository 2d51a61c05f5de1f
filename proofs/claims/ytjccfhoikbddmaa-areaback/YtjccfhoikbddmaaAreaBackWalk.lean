/-
  Layer 6: the walk of the statement on an area that is cut in two, and joined again.
-/
import Derived.Test.YtjccfhoikbddmaaAreaPure
import Derived.Test.YtjccfhoikbddmaaBag
namespace Go.Proofs.Ytjccfhoikbddmaa
open Go.ChangeShapes Go.WideShapes Go.ChangeAt Go.RowKit
set_option linter.unusedVariables false

set_option maxHeartbeats 2000000 in
theorem areaBack_walk (a : Ar) (x : Int) (w : World) : Calls Try.prog 7 #[a.v, .int .i64 x] w fun e w' => e = .returned (.bool true) ∧ Below w.heap.size w w' := by
  have S0 := Lib.hid ((Bag.new w).add 23 a.cells)
  have F := Lib.hid (formed_any a)
  by_cases hf : Formed a
  · rw [show decide (Formed a) = true from decide_eq_true hf] at F
    by_cases hx : a.s < x ∧ x < a.e
    · have g := (formed_iff a).1 hf
      have hg := pg_le x
      have hd : x.tmod 4096 = x % 4096 := tmod_up (by omega)
      have hp : x - x % 4096 = pg x := rfl
      have h3 : 0 ≤ x := by omega
      have h4 : x ≤ 2097152 := by omega
      have h5 : 0 ≤ x % 4096 := by omega
      have h6 : x % 4096 ≤ 4095 := by omega
      by_cases hs : pg x = a.s
      · have X : Hid (Says 10 #[a.v, .int .i64 a.s, .int .i64 (pg x)] (.tuple #[Ar.nil.v, .bool false])) := by
          have := part_any a a.s (pg x)
          rw [if_neg (fun h => by have := h.some; omega)] at this
          exact this
        have Y : Hid (Says 10 #[a.v, .int .i64 (pg x), .int .i64 a.e] (.tuple #[a.v, .bool true])) := by
          have h9 := part_tail hf (x := pg x) (by omega) (by omega) (by omega)
          have := part_any a (pg x) a.e
          rw [if_pos h9.1, h9.2, hs, from_self] at this
          rw [hs]
          exact this
        obtain ⟨h1, h2⟩ := hx
        clear hf g hg
        generalize pg x = y at *
        subst hs
        obtain ⟨s, t, p, sh, bk, off⟩ := a
        unfold Ar.v Ar.cells Ar.nil at *
        simp only at *
        go_enter Try.func7, Try.ntmps7
        go_upto_region 1 with (fail)
        generalize w.alloc _ = w0 at *
        generalize hq : w.heap.size = q at *
        have HQ := Lib.hid hq
        clear hq
        go_wp2_with fail
        refine (area_awake _).mono ?_
        rintro e w1 ⟨rfl, hb⟩
        have S1 := Lib.hid (S0.out.still hb)
        clear hb S0 
        obtain ⟨c0, c1, c2, c3, c4, c5⟩ := row6 S1.out.v0
        go_wp2_with fail
        refine (F.out _).mono ?_
        rintro e w2 ⟨rfl, hb⟩
        have S2 := Lib.hid (S1.out.still hb)
        clear hb S1 c0 c1 c2 c3 c4 c5
        obtain ⟨c0, c1, c2, c3, c4, c5⟩ := row6 S2.out.v0
        go_wp2_with fail
        refine (X.out _).mono ?_
        rintro e w3 ⟨rfl, hb⟩
        have S3 := Lib.hid (S2.out.still hb)
        clear hb S2 c0 c1 c2 c3 c4 c5
        have S4 := Lib.hid (S3.out.add 23 #[.int .i64 0, .int .i64 0, .int .i64 0, .bool false, .int .i64 0, .int .i64 0])
        go_upto_region 5 with (fail)
        clear S3 
        generalize hw4 : World.alloc _ _ = w4 at *
        clear hw4
        generalize w3.heap.size = u at *
        obtain ⟨c0, c1, c2, c3, c4, c5⟩ := row6 S4.out.v1
        go_wp2_with fail
        refine (Y.out _).mono ?_
        rintro e w5 ⟨rfl, hb⟩
        have S5 := Lib.hid (S4.out.still hb)
        clear hb S4 c0 c1 c2 c3 c4 c5
        have S6 := Lib.hid (S5.out.add 23 #[.int .i64 s, .int .i64 t, .int .i64 p, .bool sh, .int .i64 bk, .int .i64 off])
        go_upto_region 6 with (fail)
        clear S5 
        generalize hw6 : World.alloc _ _ = w6 at *
        clear hw6
        generalize w5.heap.size = v at *
        obtain ⟨d0, d1, d2, d3, d4, d5⟩ := row6 S6.out.v0
        obtain ⟨c0, c1, c2, c3, c4, c5⟩ := row6 S6.out.v2
        go_wp2_with fail
        go_ret
        exact ⟨rfl, S6.out.bel⟩
      · have hs' : (pg x == a.s) = false := by simpa using hs
        have X : Hid (Says 10 #[a.v, .int .i64 a.s, .int .i64 (pg x)] (.tuple #[{ a with e := pg x }.v, .bool true])) := by
          have h9 := part_head hf (y := pg x) (by omega) (by omega) (by omega)
          have := part_any a a.s (pg x)
          rw [if_pos h9.1, h9.2] at this
          exact this
        have Y : Hid (Says 10 #[a.v, .int .i64 (pg x), .int .i64 a.e] (.tuple #[(a.from (pg x)).v, .bool true])) := by
          have h9 := part_tail hf (x := pg x) (by omega) (by omega) (by omega)
          have := part_any a (pg x) a.e
          rw [if_pos h9.1, h9.2] at this
          exact this
        have hgo := goes_cut hf (x := pg x) (by omega) (by omega) (by omega)
        have J : Hid (Says 15 #[{ a with e := pg x }.v, (a.from (pg x)).v] (.tuple #[a.v, .bool true])) := by
          have := join_any { a with e := pg x } (a.from (pg x))
          rw [if_pos hgo] at this
          exact this
        have G : Hid (Says 17 #[{ a with e := pg x }.v, (a.from (pg x)).v] (.bool true)) := by
          have := goes_any { a with e := pg x } (a.from (pg x))
          rw [show decide (GoesA _ _) = true from decide_eq_true hgo] at this
          exact this
        obtain ⟨h1, h2⟩ := hx
        clear hf g hg hgo hs
        generalize pg x = y at *
        generalize a.from y = f at *
        obtain ⟨s, t, p, sh, bk, off⟩ := a
        obtain ⟨s', t', p', sh', bk', off'⟩ := f
        unfold Ar.v Ar.cells at *
        simp only at *
        go_enter Try.func7, Try.ntmps7
        go_upto_region 1 with (fail)
        generalize w.alloc _ = w0 at *
        generalize hq : w.heap.size = q at *
        have HQ := Lib.hid hq
        clear hq
        go_wp2_with fail
        refine (area_awake _).mono ?_
        rintro e w1 ⟨rfl, hb⟩
        have S1 := Lib.hid (S0.out.still hb)
        clear hb S0 
        obtain ⟨c0, c1, c2, c3, c4, c5⟩ := row6 S1.out.v0
        go_wp2_with fail
        refine (F.out _).mono ?_
        rintro e w2 ⟨rfl, hb⟩
        have S2 := Lib.hid (S1.out.still hb)
        clear hb S1 c0 c1 c2 c3 c4 c5
        obtain ⟨c0, c1, c2, c3, c4, c5⟩ := row6 S2.out.v0
        go_wp2_with fail
        refine (X.out _).mono ?_
        rintro e w3 ⟨rfl, hb⟩
        have S3 := Lib.hid (S2.out.still hb)
        clear hb S2 c0 c1 c2 c3 c4 c5
        have S4 := Lib.hid (S3.out.add 23 #[.int .i64 s, .int .i64 y, .int .i64 p, .bool sh, .int .i64 bk, .int .i64 off])
        go_upto_region 5 with (fail)
        clear S3 
        generalize hw4 : World.alloc _ _ = w4 at *
        clear hw4
        generalize w3.heap.size = u at *
        obtain ⟨c0, c1, c2, c3, c4, c5⟩ := row6 S4.out.v1
        go_wp2_with fail
        refine (Y.out _).mono ?_
        rintro e w5 ⟨rfl, hb⟩
        have S5 := Lib.hid (S4.out.still hb)
        clear hb S4 c0 c1 c2 c3 c4 c5
        have S6 := Lib.hid (S5.out.add 23 #[.int .i64 s', .int .i64 t', .int .i64 p', .bool sh', .int .i64 bk', .int .i64 off'])
        go_upto_region 6 with (fail)
        clear S5 
        generalize hw6 : World.alloc _ _ = w6 at *
        clear hw6
        generalize w5.heap.size = v at *
        obtain ⟨d0, d1, d2, d3, d4, d5⟩ := row6 S6.out.v0
        obtain ⟨f0, f1, f2, f3, f4, f5⟩ := row6 S6.out.v1
        obtain ⟨c0, c1, c2, c3, c4, c5⟩ := row6 S6.out.v2
        go_wp2_with fail
        refine (J.out _).mono ?_
        rintro e w7 ⟨rfl, hb⟩
        have S7 := Lib.hid (S6.out.still hb)
        clear hb S6 d0 d1 d2 d3 d4 d5 f0 f1 f2 f3 f4 f5 c0 c1 c2 c3 c4 c5
        have S8 := Lib.hid (S7.out.add 23 #[.int .i64 s, .int .i64 t, .int .i64 p, .bool sh, .int .i64 bk, .int .i64 off])
        go_upto_region 9 with (fail)
        clear S7 
        generalize hw8 : World.alloc _ _ = w8 at *
        clear hw8
        generalize w7.heap.size = z at *
        obtain ⟨d0, d1, d2, d3, d4, d5⟩ := row6 S8.out.v0
        obtain ⟨f0, f1, f2, f3, f4, f5⟩ := row6 S8.out.v1
        obtain ⟨g0, g1, g2, g3, g4, g5⟩ := row6 S8.out.v2
        obtain ⟨c0, c1, c2, c3, c4, c5⟩ := row6 S8.out.v3
        go_wp2_with fail
        refine (G.out _).mono ?_
        rintro e w9 ⟨rfl, hb⟩
        have S9 := Lib.hid (S8.out.still hb)
        clear hb S8 d0 d1 d2 d3 d4 d5 f0 f1 f2 f3 f4 f5 g0 g1 g2 g3 g4 g5 c0 c1 c2 c3 c4 c5
        go_wp2_with fail
        go_ret
        exact ⟨rfl, S9.out.bel⟩
    · have hx' : x ≤ a.s ∨ (a.s < x ∧ a.e ≤ x) := by omega
      clear hf hx
      obtain ⟨s, t, p, sh, bk, off⟩ := a
      unfold Ar.v Ar.cells at *
      simp only at *
      rcases hx' with hx | ⟨hx0, hx⟩
      all_goals
        go_enter Try.func7, Try.ntmps7
        go_upto_region 1 with (fail)
        generalize w.alloc _ = w0 at *
        generalize hq : w.heap.size = q at *
        have HQ := Lib.hid hq
        clear hq
        go_wp2_with fail
        refine (area_awake _).mono ?_
        rintro e w1 ⟨rfl, hb⟩
        have S1 := Lib.hid (S0.out.still hb)
        clear hb S0 
        obtain ⟨c0, c1, c2, c3, c4, c5⟩ := row6 S1.out.v0
        go_wp2_with fail
        refine (F.out _).mono ?_
        rintro e w2 ⟨rfl, hb⟩
        have S2 := Lib.hid (S1.out.still hb)
        clear hb S1 c0 c1 c2 c3 c4 c5
        obtain ⟨c0, c1, c2, c3, c4, c5⟩ := row6 S2.out.v0
        go_wp2_with fail
        refine (area_awake _).mono ?_
        rintro e w3 ⟨rfl, hb⟩
        have S3 := Lib.hid (S2.out.still hb)
        clear hb S2 c0 c1 c2 c3 c4 c5
        go_wp2_with fail
        go_ret
        exact ⟨rfl, S3.out.bel⟩
  · rw [show decide (Formed a) = false from decide_eq_false hf] at F
    clear hf
    obtain ⟨s, t, p, sh, bk, off⟩ := a
    unfold Ar.v Ar.cells at *
    simp only at *
    go_enter Try.func7, Try.ntmps7
    go_upto_region 1 with (fail)
    generalize w.alloc _ = w0 at *
    generalize hq : w.heap.size = q at *
    have HQ := Lib.hid hq
    clear hq
    go_wp2_with fail
    refine (area_awake _).mono ?_
    rintro e w1 ⟨rfl, hb⟩
    have S1 := Lib.hid (S0.out.still hb)
    clear hb S0 
    obtain ⟨c0, c1, c2, c3, c4, c5⟩ := row6 S1.out.v0
    go_wp2_with fail
    refine (F.out _).mono ?_
    rintro e w2 ⟨rfl, hb⟩
    have S2 := Lib.hid (S1.out.still hb)
    clear hb S1 c0 c1 c2 c3 c4 c5
    go_wp2_with fail
    refine (area_awake _).mono ?_
    rintro e w3 ⟨rfl, hb⟩
    have S3 := Lib.hid (S2.out.still hb)
    clear hb S2 
    go_wp2_with fail
    go_ret
    exact ⟨rfl, S3.out.bel⟩
end Go.Proofs.Ytjccfhoikbddmaa
