/-
  Layer 6: the walk of the statement on a part of a part.
-/
import Derived.Test.YtjccfhoikbddmaaAreaPure
import Derived.Test.YtjccfhoikbddmaaBag
import Derived.BigQuiet
namespace Go.Proofs.Ytjccfhoikbddmaa
open Go.ChangeShapes Go.WideShapes Go.ChangeAt Go.RowKit
set_option linter.unusedVariables false

theorem nil_not : ¬ Formed Ar.nil := fun h => by have := h.placed.lo; simp [Ar.nil] at this
theorem part_yes {a f : Ar} {lo hi : Int} (h : PartA a lo hi) (hf : a.part lo hi = f) : Says 10 #[a.v, .int .i64 lo, .int .i64 hi] (.tuple #[f.v, .bool true]) := by
  have := part_any a lo hi
  rw [if_pos h, hf] at this
  exact this
theorem part_not {a : Ar} {lo hi : Int} (h : ¬ PartA a lo hi) : Says 10 #[a.v, .int .i64 lo, .int .i64 hi] (.tuple #[Ar.nil.v, .bool false]) := by
  have := part_any a lo hi
  rw [if_neg h] at this
  exact this

set_option maxHeartbeats 2000000 in
theorem areaNested_walk (a : Ar) (x y z u : Int) (w : World) (hx : 0 ≤ x ∧ x ≤ 65535) (hy : 0 ≤ y ∧ y ≤ 65535) (hz : 0 ≤ z ∧ z ≤ 65535) (hu : 0 ≤ u ∧ u ≤ 65535) :
    Calls Try.prog 3 #[a.v, .agg #[.int .u16 x, .int .u16 y, .int .u16 z, .int .u16 u]] w fun e w' => e = .returned (.bool true) ∧ Below w.heap.size w w' := by
  have S0 := Lib.hid (Bag.two w 23 25 a.cells #[.int .u16 x, .int .u16 y, .int .u16 z, .int .u16 u])
  have e0 : ∀ v : Int, 0 ≤ v → v.tmod 600 = v % 600 := fun v h => Int.tmod_eq_emod_of_nonneg h
  have m1 := e0 x hx.1
  have m2 := e0 y hy.1
  have m3 := e0 z hz.1
  have m4 := e0 u hu.1
  have r1 : 0 ≤ x % 600 ∧ x % 600 ≤ 599 := by omega
  have r2 : 0 ≤ y % 600 ∧ y % 600 ≤ 599 := by omega
  have r3 : 0 ≤ z % 600 ∧ z % 600 ≤ 599 := by omega
  have r4 : 0 ≤ u % 600 ∧ u % 600 ≤ 599 := by omega
  have F := Lib.hid (formed_any a)
  clear e0 hx hy hz hu
  generalize x % 600 = x' at *
  generalize y % 600 = y' at *
  generalize z % 600 = z' at *
  generalize u % 600 = u' at *
  obtain ⟨p1, p2⟩ := r1
  obtain ⟨p3, p4⟩ := r2
  obtain ⟨p5, p6⟩ := r3
  obtain ⟨p7, p8⟩ := r4
  by_cases hf : Formed a
  · rw [show decide (Formed a) = true from decide_eq_true hf] at F
    generalize hL : 65536 + 4096 * x' = lo
    generalize hH : 65536 + 4096 * y' = hi
    generalize hG : 65536 + 4096 * z' = fr
    generalize hT : 65536 + 4096 * u' = too
    have a1 : lo % 4096 = 0 := by omega
    have a2 : hi % 4096 = 0 := by omega
    have a3 : fr % 4096 = 0 := by omega
    have a4 : too % 4096 = 0 := by omega
    have HL := Lib.hid hL
    have HH := Lib.hid hH
    have HG := Lib.hid hG
    have HT := Lib.hid hT
    clear hL hH hG hT
    have E1 : Hid ((if lo < fr then fr else lo) = max lo fr) := max_if _ _
    have E2 : Hid ((if too < hi then too else hi) = min hi too) := min_if _ _
    by_cases hp : PartA a lo hi
    · obtain ⟨k1, k2⟩ := part_part hf a1 a2 a3 a4 hp
      by_cases hq : PartA a (max lo fr) (min hi too)
      · have X := Lib.hid (part_yes hp (f := a.part lo hi) rfl)
        have Y := Lib.hid (part_yes (k1.2 hq) k2)
        have Z := Lib.hid (part_yes hq rfl)
        clear hf hp hq k1 k2 a1 a2 a3 a4
        generalize a.part (max lo fr) (min hi too) = g at *
        generalize a.part lo hi = f at *
        generalize max lo fr = M at *
        generalize min hi too = N at *
        obtain ⟨s, t, p, sh, bk, off⟩ := a
        obtain ⟨s', t', p', sh', bk', off'⟩ := f
        obtain ⟨s2, t2, p2', sh2, bk2, off2⟩ := g
        unfold Ar.v Ar.cells at *
        simp only at *
        go_enter Try.func3, Try.ntmps3
        go_upto_region 1 with (fail)
        generalize (w.alloc _).alloc _ = w0 at *
        generalize hq : w.heap.size = q at *
        have HQ := Lib.hid hq
        clear hq
        go_wp2_with fail
        refine (area_awake _).mono ?_
        rintro e w1 ⟨rfl, hb⟩
        have S1 := Lib.hid (S0.out.still hb)
        clear hb S0 
        obtain ⟨c0, c1, c2, c3, c4, c5⟩ := row6 S1.out.v1
        go_wp2_with fail
        refine (F.out _).mono ?_
        rintro e w2 ⟨rfl, hb⟩
        have S2 := Lib.hid (S1.out.still hb)
        clear hb S1 c0 c1 c2 c3 c4 c5
        obtain ⟨c0, c1, c2, c3⟩ := row4 S2.out.v0
        go_upto_region 4 with (fail)
        go_quiet (fail)
        have S3 := Lib.hid (S2.out.drewN nq)
        clear S2 c0 c1 c2 c3
        generalize hw3 : w2.drewN nq = w3 at *
        clear hw3
        rw [HL.out, HH.out, HG.out, HT.out]
        obtain ⟨c0, c1, c2, c3, c4, c5⟩ := row6 S3.out.v1
        go_wp2_with fail
        refine (X.out _).mono ?_
        rintro e w4 ⟨rfl, hb⟩
        have S4 := Lib.hid (S3.out.still hb)
        clear hb S3 c0 c1 c2 c3 c4 c5
        have S5 := Lib.hid (S4.out.add 23 #[.int .i64 s', .int .i64 t', .int .i64 p', .bool sh', .int .i64 bk', .int .i64 off'])
        go_upto_region 6 with (fail)
        clear S4 
        generalize hw5 : World.alloc _ _ = w5 at *
        clear hw5
        generalize w4.heap.size = u1 at *
        obtain ⟨c0, c1, c2, c3, c4, c5⟩ := row6 S5.out.v0
        go_wp2_with fail
        refine (Y.out _).mono ?_
        rintro e w6 ⟨rfl, hb⟩
        have S6 := Lib.hid (S5.out.still hb)
        clear hb S5 c0 c1 c2 c3 c4 c5
        have S7 := Lib.hid (S6.out.add 23 #[.int .i64 s2, .int .i64 t2, .int .i64 p2', .bool sh2, .int .i64 bk2, .int .i64 off2])
        go_upto_region 7 with (fail)
        clear S6 
        generalize hw7 : World.alloc _ _ = w7 at *
        clear hw7
        generalize w6.heap.size = u2 at *
        obtain ⟨c0, c1, c2, c3, c4, c5⟩ := row6 S7.out.v3
        have e1 := E1.out
        have e2 := E2.out
        go_wp2_with fail
        refine (Z.out _).mono ?_
        rintro e w8 ⟨rfl, hb⟩
        have S8 := Lib.hid (S7.out.still hb)
        clear hb S7 c0 c1 c2 c3 c4 c5
        clear e1 e2
        have S9 := Lib.hid (S8.out.add 23 #[.int .i64 s2, .int .i64 t2, .int .i64 p2', .bool sh2, .int .i64 bk2, .int .i64 off2])
        go_upto_region 8 with (fail)
        clear S8 
        generalize hw9 : World.alloc _ _ = w9 at *
        clear hw9
        generalize w8.heap.size = u3 at *
        obtain ⟨d0, d1, d2, d3, d4, d5⟩ := row6 S9.out.v0
        obtain ⟨c0, c1, c2, c3, c4, c5⟩ := row6 S9.out.v1
        go_wp2_with fail
        go_ret
        exact ⟨rfl, S9.out.bel⟩
      · have X := Lib.hid (part_yes hp (f := a.part lo hi) rfl)
        have Y := Lib.hid (part_not (fun h => hq (k1.1 h)))
        have Z := Lib.hid (part_not hq)
        clear hf hp hq k1 k2 a1 a2 a3 a4
        generalize a.part lo hi = f at *
        generalize max lo fr = M at *
        generalize min hi too = N at *
        obtain ⟨s, t, p, sh, bk, off⟩ := a
        obtain ⟨s', t', p', sh', bk', off'⟩ := f
        unfold Ar.v Ar.cells Ar.nil at *
        simp only at *
        go_enter Try.func3, Try.ntmps3
        go_upto_region 1 with (fail)
        generalize (w.alloc _).alloc _ = w0 at *
        generalize hq : w.heap.size = q at *
        have HQ := Lib.hid hq
        clear hq
        go_wp2_with fail
        refine (area_awake _).mono ?_
        rintro e w1 ⟨rfl, hb⟩
        have S1 := Lib.hid (S0.out.still hb)
        clear hb S0 
        obtain ⟨c0, c1, c2, c3, c4, c5⟩ := row6 S1.out.v1
        go_wp2_with fail
        refine (F.out _).mono ?_
        rintro e w2 ⟨rfl, hb⟩
        have S2 := Lib.hid (S1.out.still hb)
        clear hb S1 c0 c1 c2 c3 c4 c5
        obtain ⟨c0, c1, c2, c3⟩ := row4 S2.out.v0
        go_upto_region 4 with (fail)
        go_quiet (fail)
        have S3 := Lib.hid (S2.out.drewN nq)
        clear S2 c0 c1 c2 c3
        generalize hw3 : w2.drewN nq = w3 at *
        clear hw3
        rw [HL.out, HH.out, HG.out, HT.out]
        obtain ⟨c0, c1, c2, c3, c4, c5⟩ := row6 S3.out.v1
        go_wp2_with fail
        refine (X.out _).mono ?_
        rintro e w4 ⟨rfl, hb⟩
        have S4 := Lib.hid (S3.out.still hb)
        clear hb S3 c0 c1 c2 c3 c4 c5
        have S5 := Lib.hid (S4.out.add 23 #[.int .i64 s', .int .i64 t', .int .i64 p', .bool sh', .int .i64 bk', .int .i64 off'])
        go_upto_region 6 with (fail)
        clear S4 
        generalize hw5 : World.alloc _ _ = w5 at *
        clear hw5
        generalize w4.heap.size = u1 at *
        obtain ⟨c0, c1, c2, c3, c4, c5⟩ := row6 S5.out.v0
        go_wp2_with fail
        refine (Y.out _).mono ?_
        rintro e w6 ⟨rfl, hb⟩
        have S6 := Lib.hid (S5.out.still hb)
        clear hb S5 c0 c1 c2 c3 c4 c5
        have S7 := Lib.hid (S6.out.add 23 #[.int .i64 0, .int .i64 0, .int .i64 0, .bool false, .int .i64 0, .int .i64 0])
        go_upto_region 7 with (fail)
        clear S6 
        generalize hw7 : World.alloc _ _ = w7 at *
        clear hw7
        generalize w6.heap.size = u2 at *
        obtain ⟨c0, c1, c2, c3, c4, c5⟩ := row6 S7.out.v3
        have e1 := E1.out
        have e2 := E2.out
        go_wp2_with fail
        refine (Z.out _).mono ?_
        rintro e w8 ⟨rfl, hb⟩
        have S8 := Lib.hid (S7.out.still hb)
        clear hb S7 c0 c1 c2 c3 c4 c5
        clear e1 e2
        have S9 := Lib.hid (S8.out.add 23 #[.int .i64 0, .int .i64 0, .int .i64 0, .bool false, .int .i64 0, .int .i64 0])
        go_upto_region 8 with (fail)
        clear S8 
        generalize hw9 : World.alloc _ _ = w9 at *
        clear hw9
        generalize w8.heap.size = u3 at *
        obtain ⟨d0, d1, d2, d3, d4, d5⟩ := row6 S9.out.v0
        obtain ⟨c0, c1, c2, c3, c4, c5⟩ := row6 S9.out.v1
        go_wp2_with fail
        go_ret
        exact ⟨rfl, S9.out.bel⟩
    · have X := Lib.hid (part_not hp)
      have Y := Lib.hid (part_not (a := Ar.nil) (lo := fr) (hi := too) (fun h => nil_not h.formed))
      have Z := Lib.hid (part_not (no_part hf (fr := fr) (too := too) hp))
      clear hf hp a1 a2 a3 a4
      generalize max lo fr = M at *
      generalize min hi too = N at *
      obtain ⟨s, t, p, sh, bk, off⟩ := a
      unfold Ar.v Ar.cells Ar.nil at *
      simp only at *
      go_enter Try.func3, Try.ntmps3
      go_upto_region 1 with (fail)
      generalize (w.alloc _).alloc _ = w0 at *
      generalize hq : w.heap.size = q at *
      have HQ := Lib.hid hq
      clear hq
      go_wp2_with fail
      refine (area_awake _).mono ?_
      rintro e w1 ⟨rfl, hb⟩
      have S1 := Lib.hid (S0.out.still hb)
      clear hb S0 
      obtain ⟨c0, c1, c2, c3, c4, c5⟩ := row6 S1.out.v1
      go_wp2_with fail
      refine (F.out _).mono ?_
      rintro e w2 ⟨rfl, hb⟩
      have S2 := Lib.hid (S1.out.still hb)
      clear hb S1 c0 c1 c2 c3 c4 c5
      obtain ⟨c0, c1, c2, c3⟩ := row4 S2.out.v0
      go_upto_region 4 with (fail)
      go_quiet (fail)
      have S3 := Lib.hid (S2.out.drewN nq)
      clear S2 c0 c1 c2 c3
      generalize hw3 : w2.drewN nq = w3 at *
      clear hw3
      rw [HL.out, HH.out, HG.out, HT.out]
      obtain ⟨c0, c1, c2, c3, c4, c5⟩ := row6 S3.out.v1
      go_wp2_with fail
      refine (X.out _).mono ?_
      rintro e w4 ⟨rfl, hb⟩
      have S4 := Lib.hid (S3.out.still hb)
      clear hb S3 c0 c1 c2 c3 c4 c5
      have S5 := Lib.hid (S4.out.add 23 #[.int .i64 0, .int .i64 0, .int .i64 0, .bool false, .int .i64 0, .int .i64 0])
      go_upto_region 6 with (fail)
      clear S4 
      generalize hw5 : World.alloc _ _ = w5 at *
      clear hw5
      generalize w4.heap.size = u1 at *
      obtain ⟨c0, c1, c2, c3, c4, c5⟩ := row6 S5.out.v0
      go_wp2_with fail
      refine (Y.out _).mono ?_
      rintro e w6 ⟨rfl, hb⟩
      have S6 := Lib.hid (S5.out.still hb)
      clear hb S5 c0 c1 c2 c3 c4 c5
      have S7 := Lib.hid (S6.out.add 23 #[.int .i64 0, .int .i64 0, .int .i64 0, .bool false, .int .i64 0, .int .i64 0])
      go_upto_region 7 with (fail)
      clear S6 
      generalize hw7 : World.alloc _ _ = w7 at *
      clear hw7
      generalize w6.heap.size = u2 at *
      obtain ⟨c0, c1, c2, c3, c4, c5⟩ := row6 S7.out.v3
      have e1 := E1.out
      have e2 := E2.out
      go_wp2_with fail
      refine (Z.out _).mono ?_
      rintro e w8 ⟨rfl, hb⟩
      have S8 := Lib.hid (S7.out.still hb)
      clear hb S7 c0 c1 c2 c3 c4 c5
      clear e1 e2
      have S9 := Lib.hid (S8.out.add 23 #[.int .i64 0, .int .i64 0, .int .i64 0, .bool false, .int .i64 0, .int .i64 0])
      go_upto_region 8 with (fail)
      clear S8 
      generalize hw9 : World.alloc _ _ = w9 at *
      clear hw9
      generalize w8.heap.size = u3 at *
      obtain ⟨d0, d1, d2, d3, d4, d5⟩ := row6 S9.out.v0
      obtain ⟨c0, c1, c2, c3, c4, c5⟩ := row6 S9.out.v1
      go_wp2_with fail
      go_ret
      exact ⟨rfl, S9.out.bel⟩
  · rw [show decide (Formed a) = false from decide_eq_false hf] at F
    clear hf
    obtain ⟨s, t, p, sh, bk, off⟩ := a
    unfold Ar.v Ar.cells at *
    simp only at *
    go_enter Try.func3, Try.ntmps3
    go_upto_region 1 with (fail)
    generalize (w.alloc _).alloc _ = w0 at *
    generalize hq : w.heap.size = q at *
    have HQ := Lib.hid hq
    clear hq
    go_wp2_with fail
    refine (area_awake _).mono ?_
    rintro e w1 ⟨rfl, hb⟩
    have S1 := Lib.hid (S0.out.still hb)
    clear hb S0 
    obtain ⟨c0, c1, c2, c3, c4, c5⟩ := row6 S1.out.v1
    go_wp2_with fail
    refine (F.out _).mono ?_
    rintro e w2 ⟨rfl, hb⟩
    have S2 := Lib.hid (S1.out.still hb)
    clear hb S1 c0 c1 c2 c3 c4 c5
    go_wp2_with fail
    refine (area_awake _).mono ?_
    rintro e w3 ⟨rfl, hb⟩
    have S3 := Lib.hid (S2.out.still hb)
    clear hb S2 
    go_wp2_with fail
    go_ret
    exact ⟨rfl, S3.out.bel⟩
end Go.Proofs.Ytjccfhoikbddmaa
