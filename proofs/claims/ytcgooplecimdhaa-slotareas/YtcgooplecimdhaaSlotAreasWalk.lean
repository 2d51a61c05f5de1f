/-
  Layer 15: an area's words. (Written by gen/SlLaws.py.)
-/
import Derived.Test.YtcgooplecimdhaaPkWi
import Derived.Deep.LoopGhost
import Derived.Deep.RegionHeld3
import Derived.BigQuiet
namespace Go.Proofs.Ytcgooplecimdhaa
open Go.ChangeShapes Go.WideShapes Go.ChangeAt Go.RowKit
set_option linter.unusedVariables false


set_option maxRecDepth 4000 in
set_option maxHeartbeats 8000000 in
theorem areas_yes {a : Ar} {d : Bool} (ha : Formed a) (w : World) :
    Calls Try.prog 5 #[a.v, .bool d] w fun e w' => e = .returned (.bool true) ∧ Below w.heap.size w w' := by
  have W0 := Lib.hid sl_awake
  have G := Lib.hid ((Bag.new w).add 34 a.cells)
  have CP : Hid (∀ W, Calls Try.prog 21 #[a.v, .bool d] W fun e w' => ∃ v', e = .returned v' ∧ Mw W.heap.size w' v' (packA a d) ∧ Below W.heap.size W w') := Lib.hid (fun W => packA_yes ha W)
  have CA := Lib.hid (refArea_c a (r := true) ⟨fun _ => ha, fun _ => rfl⟩)
  have CU : Hid (∀ B W v, Mw B W v (packA a d) → Calls Try.prog 18 #[v] W fun e w' => e = .returned (.tuple #[a.v, .bool d, .bool true]) ∧ Below W.heap.size W w') := Lib.hid (fun B W v h => unpA_yes ha h)
  have CQ : Hid (∀ W, Calls Try.prog 20 #[a.v, .bool d] W fun e w' => ∃ v', e = .returned v' ∧ Wds w' v' (packA a d) ∧ Below W.heap.size W w') := Lib.hid (fun W => refPackA_c a d W)
  have CS : Hid (∀ B W u v, Mw B W u (packA a d) → Wds W v (packA a d) → Calls Try.prog 15 #[u, v] W fun e w' => e = .returned (.bool true) ∧ Below W.heap.size W w') := Lib.hid (fun B W u v h k => same_c h.wds k (r := true) ⟨fun _ => rfl, fun _ => rfl⟩ (by rw [packA_len]; omega))
  have HLP := Lib.hid (packA_len a d)
  generalize packA a d = pk at *
  clear ha
  obtain ⟨s, t, p, sh, bk, off⟩ := a
  unfold Ar.v Ar.cells at *
  simp only at *
  go_enter Try.func5, Try.ntmps5
  obtain ⟨d0, d1, d2, d3, d4, d5⟩ := row6 G.out.v0
  go_wp2_with fail
  refine (CP.out _).mono ?_
  rintro e w1 ⟨vp, rfl, hm, hb⟩
  have G := Lib.hid (G.out.still hb)
  have HM := Lib.hid hm
  clear hm
  clear hb CP
  clear d0 d1 d2 d3 d4 d5
  obtain ⟨d0, d1, d2, d3, d4, d5⟩ := row6 G.out.v0
  clear d0 d1 d2 d3 d4 d5
  go_wp2_with fail
  refine (CU.out _ _ _ HM.out).mono ?_
  rintro e w2 ⟨rfl, hb⟩
  have G := Lib.hid (G.out.still hb)
  have HM := Lib.hid (HM.out.still hb)
  clear hb CU
  obtain ⟨d0, d1, d2, d3, d4, d5⟩ := row6 G.out.v0
  clear d0 d1 d2 d3 d4 d5
  have G := Lib.hid (G.out.add 34 #[.int .i64 s, .int .i64 t, .int .i64 p, .bool sh, .int .i64 bk, .int .i64 off])
  have HM := Lib.hid (HM.out.still (below_new _ (.cells #[.int .i64 s, .int .i64 t, .int .i64 p, .bool sh, .int .i64 bk, .int .i64 off] 34)))
  obtain ⟨m0, m1, m2, m3, m4, m5⟩ := row6 G.out.v0
  obtain ⟨d0, d1, d2, d3, d4, d5⟩ := row6 G.out.v1
  go_wp2_with fail
  refine (W0.out _).mono ?_
  rintro e w3 ⟨rfl, hb⟩
  have G := Lib.hid (G.out.still hb)
  have HM := Lib.hid (HM.out.still hb)
  clear hb
  clear m0 m1 m2 m3 m4 m5 d0 d1 d2 d3 d4 d5
  obtain ⟨m0, m1, m2, m3, m4, m5⟩ := row6 G.out.v0
  obtain ⟨d0, d1, d2, d3, d4, d5⟩ := row6 G.out.v1
  go_wp2_with fail
  refine (CA.out _).mono ?_
  rintro e w4 ⟨rfl, hb⟩
  have G := Lib.hid (G.out.still hb)
  have HM := Lib.hid (HM.out.still hb)
  clear hb CA
  clear m0 m1 m2 m3 m4 m5 d0 d1 d2 d3 d4 d5
  obtain ⟨m0, m1, m2, m3, m4, m5⟩ := row6 G.out.v0
  obtain ⟨d0, d1, d2, d3, d4, d5⟩ := row6 G.out.v1
  go_wp2_with fail
  refine (CQ.out _).mono ?_
  rintro e w5 ⟨vq, rfl, hw2, hb⟩
  have G := Lib.hid (G.out.still hb)
  have HM := Lib.hid (HM.out.still hb)
  have HQ := Lib.hid hw2
  clear hw2
  clear hb CQ
  clear m0 m1 m2 m3 m4 m5 d0 d1 d2 d3 d4 d5
  obtain ⟨m0, m1, m2, m3, m4, m5⟩ := row6 G.out.v0
  obtain ⟨d0, d1, d2, d3, d4, d5⟩ := row6 G.out.v1
  go_wp2_with fail
  refine (CS.out _ _ _ _ HM.out HQ.out).mono ?_
  rintro e w6 ⟨rfl, hb⟩
  have G := Lib.hid (G.out.still hb)
  have HM := Lib.hid (HM.out.still hb)
  clear hb CS HQ
  clear m0 m1 m2 m3 m4 m5 d0 d1 d2 d3 d4 d5
  obtain ⟨m0, m1, m2, m3, m4, m5⟩ := row6 G.out.v0
  obtain ⟨d0, d1, d2, d3, d4, d5⟩ := row6 G.out.v1
  go_wp2_with fail
  go_ret
  exact ⟨rfl, G.out.bel⟩

set_option maxRecDepth 4000 in
set_option maxHeartbeats 8000000 in
theorem areas_no {a : Ar} {d : Bool} (ha : ¬ Formed a) (w : World) :
    Calls Try.prog 5 #[a.v, .bool d] w fun e w' => e = .returned (.bool true) ∧ Below w.heap.size w w' := by
  have W0 := Lib.hid sl_awake
  have G := Lib.hid ((Bag.new w).add 34 a.cells)
  have CP : Hid (∀ W, Calls Try.prog 21 #[a.v, .bool d] W fun e w' => ∃ v', e = .returned v' ∧ Mw W.heap.size w' v' [] ∧ Below W.heap.size W w') := Lib.hid (fun W => by
    have := packA_c a d W
    unfold wordsA at this
    rwa [if_neg ha] at this)
  have CA := Lib.hid (refArea_c a (r := false) ⟨(fun e => by cases e), fun f => absurd f ha⟩)
  clear ha
  obtain ⟨s, t, p, sh, bk, off⟩ := a
  unfold Ar.v Ar.cells at *
  simp only at *
  go_enter Try.func5, Try.ntmps5
  obtain ⟨d0, d1, d2, d3, d4, d5⟩ := row6 G.out.v0
  go_wp2_with fail
  refine (CP.out _).mono ?_
  rintro e w1 ⟨vp, rfl, hm, hb⟩
  have G := Lib.hid (G.out.still hb)
  have HM := Lib.hid hm
  clear hm
  clear hb CP
  clear d0 d1 d2 d3 d4 d5
  obtain ⟨d0, d1, d2, d3, d4, d5⟩ := row6 G.out.v0
  clear d0 d1 d2 d3 d4 d5
  go_wp2_with fail
  refine (unpA_none HM.out).mono ?_
  rintro e w2 ⟨rfl, hb⟩
  have G := Lib.hid (G.out.still hb)
  have HM := Lib.hid (HM.out.still hb)
  clear hb
  obtain ⟨d0, d1, d2, d3, d4, d5⟩ := row6 G.out.v0
  clear d0 d1 d2 d3 d4 d5
  unfold Ar.nil Ar.v
  simp only
  have G := Lib.hid (G.out.add 34 #[.int .i64 0, .int .i64 0, .int .i64 0, .bool false, .int .i64 0, .int .i64 0])
  have HM := Lib.hid (HM.out.still (below_new _ (.cells #[.int .i64 0, .int .i64 0, .int .i64 0, .bool false, .int .i64 0, .int .i64 0] 34)))
  obtain ⟨m0, m1, m2, m3, m4, m5⟩ := row6 G.out.v0
  obtain ⟨d0, d1, d2, d3, d4, d5⟩ := row6 G.out.v1
  clear m0 m1 m2 m3 m4 m5 d0 d1 d2 d3 d4 d5
  obtain ⟨Av, cv, rfl⟩ := HM.out.wds.is
  simp only [List.length_nil] at *
  obtain ⟨m0, m1, m2, m3, m4, m5⟩ := row6 G.out.v0
  obtain ⟨d0, d1, d2, d3, d4, d5⟩ := row6 G.out.v1
  go_wp2_with fail
  refine (W0.out _).mono ?_
  rintro e w3 ⟨rfl, hb⟩
  have G := Lib.hid (G.out.still hb)
  have HM := Lib.hid (HM.out.still hb)
  clear hb
  clear m0 m1 m2 m3 m4 m5 d0 d1 d2 d3 d4 d5
  obtain ⟨m0, m1, m2, m3, m4, m5⟩ := row6 G.out.v0
  obtain ⟨d0, d1, d2, d3, d4, d5⟩ := row6 G.out.v1
  go_wp2_with fail
  refine (CA.out _).mono ?_
  rintro e w4 ⟨rfl, hb⟩
  have G := Lib.hid (G.out.still hb)
  have HM := Lib.hid (HM.out.still hb)
  clear hb CA
  clear m0 m1 m2 m3 m4 m5 d0 d1 d2 d3 d4 d5
  obtain ⟨m0, m1, m2, m3, m4, m5⟩ := row6 G.out.v0
  obtain ⟨d0, d1, d2, d3, d4, d5⟩ := row6 G.out.v1
  go_wp2_with fail
  refine (W0.out _).mono ?_
  rintro e w5 ⟨rfl, hb⟩
  have G := Lib.hid (G.out.still hb)
  have HM := Lib.hid (HM.out.still hb)
  clear hb
  clear m0 m1 m2 m3 m4 m5 d0 d1 d2 d3 d4 d5
  obtain ⟨m0, m1, m2, m3, m4, m5⟩ := row6 G.out.v0
  obtain ⟨d0, d1, d2, d3, d4, d5⟩ := row6 G.out.v1
  go_wp2_with fail
  go_ret
  exact ⟨rfl, G.out.bel⟩

theorem areas_any (a : Ar) (d : Bool) (w : World) :
    Calls Try.prog 5 #[a.v, .bool d] w fun e w' => e = .returned (.bool true) ∧ Below w.heap.size w w' := by
  by_cases ha : Formed a
  · exact areas_yes ha w
  · exact areas_no ha w
end Go.Proofs.Ytcgooplecimdhaa
