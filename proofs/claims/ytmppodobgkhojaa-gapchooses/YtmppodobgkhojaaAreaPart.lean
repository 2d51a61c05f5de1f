/-
  Layer 6: parts, and what an area allows: a contract for each call.
-/
import Derived.Test.YtmppodobgkhojaaAreaJoin
namespace Go.Proofs.Ytmppodobgkhojaa
open Go.ChangeShapes Go.WideShapes Go.ChangeAt Go.RowKit
set_option linter.unusedVariables false

/-- The first whole page that isn't ahead of an address. -/
def upg (x : Int) : Int := x + 4095 - (x + 4095) % 4096
/-- What an area has from lo on, ahead of hi. -/
def Ar.part (a : Ar) (lo hi : Int) : Ar := { a.from (pg (max lo a.s)) with e := upg (min hi a.e) }
/-- Whether it has anything there. -/
structure PartA (a : Ar) (lo hi : Int) : Prop where
  formed : Formed a
  some : max lo a.s < min hi a.e
instance (a : Ar) (lo hi : Int) : Decidable (PartA a lo hi) := decidable_of_iff (Formed a ∧ max lo a.s < min hi a.e) ⟨fun ⟨a, b⟩ => ⟨a, b⟩, fun ⟨a, b⟩ => ⟨a, b⟩⟩

theorem max_if (x y : Int) : (if x < y then y else x) = max x y := by split <;> omega
theorem min_if (x y : Int) : (if y < x then y else x) = min x y := by split <;> omega

set_option maxHeartbeats 1000000 in
theorem part_any (a : Ar) (lo hi : Int) : Says 48 #[a.v, .int .i64 lo, .int .i64 hi] (if PartA a lo hi then .tuple #[(a.part lo hi).v, .bool true] else .tuple #[Ar.nil.v, .bool false]) := by
  intro w
  have A0 := Lib.hid (Two.new w a 35 Ar.nil.cells)
  have X := Lib.hid (formed_any a)
  have E1 : Hid ((if lo < a.s then a.s else lo) = max lo a.s) := max_if _ _
  have E2 : Hid ((if a.e < hi then a.e else hi) = min hi a.e) := min_if _ _
  by_cases hp : Formed a
  · rw [show decide (Formed a) = true from decide_eq_true hp] at X
    have h1 := hp.off0
    have h2 := hp.placed.lo
    have h3 := hp.placed.hi
    have h4 := hp.placed.some
    by_cases hs : max lo a.s < min hi a.e
    · rw [if_pos ⟨hp, hs⟩]
      have D := Lib.hid (down_any (max lo a.s) (by omega) (by omega))
      have F := Lib.hid (from_any a (max lo a.s - max lo a.s % 4096) (by omega) (by omega) (by omega) (by omega) (by omega) (by omega))
      have U := Lib.hid (up_any (min hi a.e) (by omega) (by omega))
      clear hp h1 h2 h3 h4
      unfold Ar.part pg upg
      generalize hL : max lo a.s = L at *
      generalize hH : min hi a.e = H at *
      clear hL hH
      generalize hF : a.from (L - L % 4096) = f at *
      clear hF
      generalize hY : H + 4095 - (H + 4095) % 4096 = Y at *
      clear hY
      obtain ⟨s, t, p, sh, bk, off⟩ := a
      obtain ⟨s', t', p', sh', bk', off'⟩ := f
      unfold Ar.v Ar.cells Ar.nil at *
      go_enter Try.func48, Try.ntmps48
      go_upto_region 1 with (fail)
      simp only at A0
      generalize (w.alloc _).alloc _ = w0 at *
      generalize hq : w.heap.size = q at *
      have HQ := Lib.hid hq
      clear hq
      obtain ⟨c0, c1, c2, c3, c4, c5⟩ := A0.out.var.cs
      go_region
      have A1 := Lib.hid A0.out.drew
      clear A0 c0 c1 c2 c3 c4 c5
      have e1 := E1.out
      have e2 := E2.out
      simp only at e1 e2
      rw [e1, e2]
      clear e1 e2
      generalize w0.drew = w1 at *
      obtain ⟨c0, c1, c2, c3, c4, c5⟩ := A1.out.var.cs
      go_wp2_with fail
      refine (X.out _).mono ?_
      rintro e w2 ⟨rfl, hb1⟩
      have A2 := Lib.hid (A1.out.still hb1)
      clear c0 c1 c2 c3 c4 c5 hb1 A1
      obtain ⟨c0, c1, c2, c3, c4, c5⟩ := A2.out.var.cs
      go_wp2_with fail
      have A2' := Lib.hid A2.out.drew
      go_region_with (first
        | (go_at_call 57; refine (D.out _).mono ?_; rintro e w' ⟨rfl, rfl⟩)
        | (go_at_call 50; refine (F.out _).mono ?_; rintro e w3 ⟨rfl, hb3⟩; have A3 := Lib.hid (A2'.out.still hb3); obtain ⟨d0, d1, d2, d3, d4, d5⟩ := A3.out.var.cs; have f0 := A3.out.var.fr 0; have f1 := A3.out.var.fr 1; have f2 := A3.out.var.fr 2; have f3 := A3.out.var.fr 3; have f4 := A3.out.var.fr 4; have f5 := A3.out.var.fr 5))
      all_goals
        have A4 := Lib.hid (A3.out.put ⟨s', t', p', sh', bk', off'⟩)
        simp only at A4
        clear c0 c1 c2 c3 c4 c5 d0 d1 d2 d3 d4 d5 f0 f1 f2 f3 f4 f5 A3 A2 A2' hb3
        generalize World.setCell _ _ _ = w4 at *
        go_wp2_with fail
        refine (U.out _).mono ?_
        rintro e w5 ⟨rfl, rfl⟩
        obtain ⟨c0, c1, c2, c3, c4, c5⟩ := A4.out.var.cs
        have f1 := A4.out.var.fr 1
        go_upto_region 6 with (fail)
        have A5 := Lib.hid (A4.out.end Y)
        simp only at A5
        clear c0 c1 c2 c3 c4 c5 f1 A4
        generalize World.setCell _ _ _ = w5 at *
        obtain ⟨c0, c1, c2, c3, c4, c5⟩ := A5.out.var.cs
        obtain ⟨d0, d1, d2, d3, d4, d5, f0, f1, f2, f3, f4, f5⟩ := cs6 A5.out.res
        go_wp2_with fail
        refine bodyPost_ret (results_row_tmp rfl _ _ (q + 1) 35 _ (0, 0) _ rfl (put6 A5.out.res _ _ _ _ _ _) Try.underlying35 rfl (by kernel_rfl)) rfl ?_
        refine ⟨rfl, ?_⟩
        rw [HQ.out]
        exact below6 A5.out.bel (by omega) _ _ _ _ _ _
    · rw [if_neg (fun h => hs h.some)]
      clear hp h1 h2 h3 h4
      generalize hL : max lo a.s = L at *
      generalize hH : min hi a.e = H at *
      clear hL hH
      obtain ⟨s, t, p, sh, bk, off⟩ := a
      unfold Ar.v Ar.cells Ar.nil at *
      go_enter Try.func48, Try.ntmps48
      go_upto_region 1 with (fail)
      simp only at A0
      generalize (w.alloc _).alloc _ = w0 at *
      generalize hq : w.heap.size = q at *
      have HQ := Lib.hid hq
      clear hq
      obtain ⟨c0, c1, c2, c3, c4, c5⟩ := A0.out.var.cs
      go_region
      have A1 := Lib.hid A0.out.drew
      clear A0 c0 c1 c2 c3 c4 c5
      have e1 := E1.out
      have e2 := E2.out
      simp only at e1 e2
      rw [e1, e2]
      clear e1 e2
      generalize w0.drew = w1 at *
      obtain ⟨c0, c1, c2, c3, c4, c5⟩ := A1.out.var.cs
      go_wp2_with fail
      refine (X.out _).mono ?_
      rintro e w2 ⟨rfl, hb1⟩
      have A2 := Lib.hid (A1.out.still hb1)
      clear c0 c1 c2 c3 c4 c5 hb1 A1
      obtain ⟨d0, d1, d2, d3, d4, d5, f0, f1, f2, f3, f4, f5⟩ := cs6 A2.out.res
      go_wp2_with fail
      refine bodyPost_ret (results_row_tmp rfl _ _ (q + 1) 35 _ (0, 0) _ rfl (put6 A2.out.res _ _ _ _ _ _) Try.underlying35 rfl (by kernel_rfl)) rfl ?_
      refine ⟨rfl, ?_⟩
      rw [HQ.out]
      exact below6 A2.out.bel (by omega) _ _ _ _ _ _
  · rw [if_neg (fun h => hp h.formed)]
    rw [show decide (Formed a) = false from decide_eq_false hp] at X
    clear hp
    generalize hL : max lo a.s = L at *
    generalize hH : min hi a.e = H at *
    clear hL hH
    obtain ⟨s, t, p, sh, bk, off⟩ := a
    unfold Ar.v Ar.cells Ar.nil at *
    go_enter Try.func48, Try.ntmps48
    go_upto_region 1 with (fail)
    simp only at A0
    generalize (w.alloc _).alloc _ = w0 at *
    generalize hq : w.heap.size = q at *
    have HQ := Lib.hid hq
    clear hq
    obtain ⟨c0, c1, c2, c3, c4, c5⟩ := A0.out.var.cs
    go_region
    have A1 := Lib.hid A0.out.drew
    clear A0 c0 c1 c2 c3 c4 c5
    have e1 := E1.out
    have e2 := E2.out
    simp only at e1 e2
    rw [e1, e2]
    clear e1 e2
    generalize w0.drew = w1 at *
    obtain ⟨c0, c1, c2, c3, c4, c5⟩ := A1.out.var.cs
    go_wp2_with fail
    refine (X.out _).mono ?_
    rintro e w2 ⟨rfl, hb1⟩
    have A2 := Lib.hid (A1.out.still hb1)
    clear c0 c1 c2 c3 c4 c5 hb1 A1
    obtain ⟨d0, d1, d2, d3, d4, d5, f0, f1, f2, f3, f4, f5⟩ := cs6 A2.out.res
    go_wp2_with fail
    refine bodyPost_ret (results_row_tmp rfl _ _ (q + 1) 35 _ (0, 0) _ rfl (put6 A2.out.res _ _ _ _ _ _) Try.underlying35 rfl (by kernel_rfl)) rfl ?_
    refine ⟨rfl, ?_⟩
    rw [HQ.out]
    exact below6 A2.out.bel (by omega) _ _ _ _ _ _
end Go.Proofs.Ytmppodobgkhojaa
