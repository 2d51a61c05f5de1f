/-
  Layer 15: what is handed in stays. (Written by gen/SlLaws.py.)
-/
import Derived.Test.YtcgooplecimdhaaPkWi
import Derived.Test.YtcgooplecimdhaaPkWj
import Derived.Deep.LoopGhost
import Derived.Deep.RegionHeld3
import Derived.BigQuiet
namespace Go.Proofs.Ytcgooplecimdhaa
open Go.ChangeShapes Go.WideShapes Go.ChangeAt Go.RowKit
set_option linter.unusedVariables false


set_option maxRecDepth 4000 in
set_option maxHeartbeats 8000000 in
theorem own_many {n : Nd} {x y z : Value} (w : World) (h : NdIn w n x y z) (hw : ¬ Few n) :
    Calls Try.prog 7 #[n.val x y z] w fun e w' => e = .returned (.bool true) ∧ Below w.heap.size w w' := by
  obtain ⟨A1, c1, rfl⟩ := h.we.is
  obtain ⟨A2, c2, rfl⟩ := h.ws.is
  obtain ⟨A3, c3, rfl⟩ := h.wg.is
  have W0 := Lib.hid sl_awake
  have G : Hid (Bag w (w.alloc (.cells #[.bool n.inner, .int .i64 n.lo, .slice A1 n.ends.length c1, .slice A2 n.slots.length c2, .slice A3 n.gaps.length c3] 24)) [(w.heap.size, 24, #[.bool n.inner, .int .i64 n.lo, .slice A1 n.ends.length c1, .slice A2 n.slots.length c2, .slice A3 n.gaps.length c3])]) := Lib.hid ((Bag.new w).add 24 #[.bool n.inner, .int .i64 n.lo, .slice A1 n.ends.length c1, .slice A2 n.slots.length c2, .slice A3 n.gaps.length c3])
  have HN := Lib.hid (h.still G.out.bel)
  have CW : Hid (∀ W, NdIn W n (.slice A1 n.ends.length c1) (.slice A2 n.slots.length c2) (.slice A3 n.gaps.length c3) → Calls Try.prog 9 #[.agg #[.bool n.inner, .int .i64 n.lo, .slice A1 n.ends.length c1, .slice A2 n.slots.length c2, .slice A3 n.gaps.length c3]] W fun e w' => e = .returned (.bool false) ∧ Below W.heap.size W w') := Lib.hid (fun W h => few_c h (r := false) ⟨(fun e => by cases e), fun f => absurd f hw⟩)
  clear h hw
  unfold Nd.val
  go_enter Try.func7, Try.ntmps7
  obtain ⟨d0, d1, d2, d3, d4⟩ := row5 G.out.v0
  go_wp2_with fail
  refine (W0.out _).mono ?_
  rintro e w1 ⟨rfl, hb⟩
  have G := Lib.hid (G.out.still hb)
  have HN := Lib.hid (HN.out.still hb)
  clear hb
  clear d0 d1 d2 d3 d4
  obtain ⟨d0, d1, d2, d3, d4⟩ := row5 G.out.v0
  go_wp2_with fail
  refine (CW.out _ HN.out).mono ?_
  rintro e w2 ⟨rfl, hb⟩
  have G := Lib.hid (G.out.still hb)
  have HN := Lib.hid (HN.out.still hb)
  clear hb CW
  clear d0 d1 d2 d3 d4
  obtain ⟨d0, d1, d2, d3, d4⟩ := row5 G.out.v0
  go_wp2_with fail
  refine (W0.out _).mono ?_
  rintro e w3 ⟨rfl, hb⟩
  have G := Lib.hid (G.out.still hb)
  have HN := Lib.hid (HN.out.still hb)
  clear hb
  clear d0 d1 d2 d3 d4
  obtain ⟨d0, d1, d2, d3, d4⟩ := row5 G.out.v0
  go_wp2_with fail
  go_ret
  exact ⟨rfl, G.out.bel⟩

set_option maxRecDepth 4000 in
set_option maxHeartbeats 8000000 in
theorem own_no {n : Nd} {x y z : Value} (w : World) (h : NdIn w n x y z) (hw : Few n) (hf : ¬ NdF n) :
    Calls Try.prog 7 #[n.val x y z] w fun e w' => e = .returned (.bool true) ∧ Below w.heap.size w w' := by
  obtain ⟨A1, c1, rfl⟩ := h.we.is
  obtain ⟨A2, c2, rfl⟩ := h.ws.is
  obtain ⟨A3, c3, rfl⟩ := h.wg.is
  have W0 := Lib.hid sl_awake
  have G : Hid (Bag w (w.alloc (.cells #[.bool n.inner, .int .i64 n.lo, .slice A1 n.ends.length c1, .slice A2 n.slots.length c2, .slice A3 n.gaps.length c3] 24)) [(w.heap.size, 24, #[.bool n.inner, .int .i64 n.lo, .slice A1 n.ends.length c1, .slice A2 n.slots.length c2, .slice A3 n.gaps.length c3])]) := Lib.hid ((Bag.new w).add 24 #[.bool n.inner, .int .i64 n.lo, .slice A1 n.ends.length c1, .slice A2 n.slots.length c2, .slice A3 n.gaps.length c3])
  have HN := Lib.hid (h.still G.out.bel)
  have CW : Hid (∀ W, NdIn W n (.slice A1 n.ends.length c1) (.slice A2 n.slots.length c2) (.slice A3 n.gaps.length c3) → Calls Try.prog 9 #[.agg #[.bool n.inner, .int .i64 n.lo, .slice A1 n.ends.length c1, .slice A2 n.slots.length c2, .slice A3 n.gaps.length c3]] W fun e w' => e = .returned (.bool true) ∧ Below W.heap.size W w') := Lib.hid (fun W h => few_c h (r := true) ⟨fun _ => hw, fun _ => rfl⟩)
  have CF : Hid (∀ W, NdIn W n (.slice A1 n.ends.length c1) (.slice A2 n.slots.length c2) (.slice A3 n.gaps.length c3) → Calls Try.prog 11 #[.agg #[.bool n.inner, .int .i64 n.lo, .slice A1 n.ends.length c1, .slice A2 n.slots.length c2, .slice A3 n.gaps.length c3]] W fun e w' => e = .returned (.bool false) ∧ Below W.heap.size W w') := Lib.hid (fun W h => formed_c h (r := false) ⟨(fun e => by cases e), fun f => absurd f hf⟩)
  clear h hw hf
  unfold Nd.val
  go_enter Try.func7, Try.ntmps7
  obtain ⟨d0, d1, d2, d3, d4⟩ := row5 G.out.v0
  go_wp2_with fail
  refine (W0.out _).mono ?_
  rintro e w1 ⟨rfl, hb⟩
  have G := Lib.hid (G.out.still hb)
  have HN := Lib.hid (HN.out.still hb)
  clear hb
  clear d0 d1 d2 d3 d4
  obtain ⟨d0, d1, d2, d3, d4⟩ := row5 G.out.v0
  go_wp2_with fail
  refine (CW.out _ HN.out).mono ?_
  rintro e w2 ⟨rfl, hb⟩
  have G := Lib.hid (G.out.still hb)
  have HN := Lib.hid (HN.out.still hb)
  clear hb CW
  clear d0 d1 d2 d3 d4
  obtain ⟨d0, d1, d2, d3, d4⟩ := row5 G.out.v0
  go_wp2_with fail
  refine (CF.out _ HN.out).mono ?_
  rintro e w3 ⟨rfl, hb⟩
  have G := Lib.hid (G.out.still hb)
  have HN := Lib.hid (HN.out.still hb)
  clear hb CF
  clear d0 d1 d2 d3 d4
  obtain ⟨d0, d1, d2, d3, d4⟩ := row5 G.out.v0
  go_wp2_with fail
  refine (W0.out _).mono ?_
  rintro e w4 ⟨rfl, hb⟩
  have G := Lib.hid (G.out.still hb)
  have HN := Lib.hid (HN.out.still hb)
  clear hb
  clear d0 d1 d2 d3 d4
  obtain ⟨d0, d1, d2, d3, d4⟩ := row5 G.out.v0
  go_wp2_with fail
  go_ret
  exact ⟨rfl, G.out.bel⟩

set_option maxRecDepth 4000 in
set_option maxHeartbeats 8000000 in
theorem own_yes {n : Nd} {x y z : Value} (w : World) (h : NdIn w n x y z) (hw : Few n) (hf : NdF n) (fs : Fits n.slots) :
    Calls Try.prog 7 #[n.val x y z] w fun e w' => e = .returned (.bool true) ∧ Below w.heap.size w w' := by
  obtain ⟨A1, c1, rfl⟩ := h.we.is
  obtain ⟨A2, c2, rfl⟩ := h.ws.is
  obtain ⟨A3, c3, rfl⟩ := h.wg.is
  have W0 := Lib.hid sl_awake
  have G : Hid (Bag w (w.alloc (.cells #[.bool n.inner, .int .i64 n.lo, .slice A1 n.ends.length c1, .slice A2 n.slots.length c2, .slice A3 n.gaps.length c3] 24)) [(w.heap.size, 24, #[.bool n.inner, .int .i64 n.lo, .slice A1 n.ends.length c1, .slice A2 n.slots.length c2, .slice A3 n.gaps.length c3])]) := Lib.hid ((Bag.new w).add 24 #[.bool n.inner, .int .i64 n.lo, .slice A1 n.ends.length c1, .slice A2 n.slots.length c2, .slice A3 n.gaps.length c3])
  have HN := Lib.hid (h.still G.out.bel)
  have HN0 := Lib.hid h
  have CW : Hid (∀ W, NdIn W n (.slice A1 n.ends.length c1) (.slice A2 n.slots.length c2) (.slice A3 n.gaps.length c3) → Calls Try.prog 9 #[.agg #[.bool n.inner, .int .i64 n.lo, .slice A1 n.ends.length c1, .slice A2 n.slots.length c2, .slice A3 n.gaps.length c3]] W fun e w' => e = .returned (.bool true) ∧ Below W.heap.size W w') := Lib.hid (fun W h => few_c h (r := true) ⟨fun _ => hw, fun _ => rfl⟩)
  have CF : Hid (∀ W, NdIn W n (.slice A1 n.ends.length c1) (.slice A2 n.slots.length c2) (.slice A3 n.gaps.length c3) → Calls Try.prog 11 #[.agg #[.bool n.inner, .int .i64 n.lo, .slice A1 n.ends.length c1, .slice A2 n.slots.length c2, .slice A3 n.gaps.length c3]] W fun e w' => e = .returned (.bool true) ∧ Below W.heap.size W w') := Lib.hid (fun W h => formed_c h (r := true) ⟨fun _ => hf, fun _ => rfl⟩)
  have CP : Hid (∀ W, NdIn W n (.slice A1 n.ends.length c1) (.slice A2 n.slots.length c2) (.slice A3 n.gaps.length c3) → Calls Try.prog 10 #[.agg #[.bool n.inner, .int .i64 n.lo, .slice A1 n.ends.length c1, .slice A2 n.slots.length c2, .slice A3 n.gaps.length c3]] W fun e w' => ∃ v', e = .returned v' ∧ Mw W.heap.size w' v' (packN n) ∧ Below W.heap.size W w') := Lib.hid (fun W h => pack_yes h hf)
  have CQ : Hid (∀ W, NdIn W n (.slice A1 n.ends.length c1) (.slice A2 n.slots.length c2) (.slice A3 n.gaps.length c3) → Calls Try.prog 16 #[.agg #[.bool n.inner, .int .i64 n.lo, .slice A1 n.ends.length c1, .slice A2 n.slots.length c2, .slice A3 n.gaps.length c3]] W fun e w' => ∃ v', e = .returned v' ∧ Wds w' v' (packN n) ∧ Below W.heap.size W w') := Lib.hid (fun W h => refPackN_c h hf.cnt)
  have CU : Hid (∀ B W v, Mw B W v (packN n) → Calls Try.prog 13 #[v] W fun e w' => ∃ x y z, e = .returned (.tuple #[n.val x y z, .bool true]) ∧ NdMine W.heap.size w' n x y z ∧ Below W.heap.size W w') := Lib.hid (fun B W v h => unp_yes hf fs h)
  have CS : Hid (∀ B W u v, Mw B W u (packN n) → Wds W v (packN n) → Calls Try.prog 15 #[u, v] W fun e w' => e = .returned (.bool true) ∧ Below W.heap.size W w') := Lib.hid (fun B W u v h k => same_c h.wds k (r := true) ⟨fun _ => rfl, fun _ => rfl⟩ (by rw [pack_len hf.cnt]; omega))
  have CN : Hid (∀ W x y z, NdIn W n x y z → NdIn W n (.slice A1 n.ends.length c1) (.slice A2 n.slots.length c2) (.slice A3 n.gaps.length c3) → Calls Try.prog 17 #[n.val x y z, .agg #[.bool n.inner, .int .i64 n.lo, .slice A1 n.ends.length c1, .slice A2 n.slots.length c2, .slice A3 n.gaps.length c3]] W fun e w' => e = .returned (.bool true) ∧ Below W.heap.size W w') := Lib.hid (fun W x y z k h => sameN_c k h (by have := hw.e; omega) (by have := hw.s; omega) (by have := hw.g; omega) (r := true) ⟨fun _ => rfl, fun _ => rfl⟩)
  have HC := Lib.hid hf.cnt
  have hK8 := hf.cnt.few
  clear h hw hf fs
  unfold Nd.val
  go_enter Try.func7, Try.ntmps7
  obtain ⟨d0, d1, d2, d3, d4⟩ := row5 G.out.v0
  go_wp2_with fail
  refine (W0.out _).mono ?_
  rintro e w1 ⟨rfl, hb⟩
  have G := Lib.hid (G.out.still hb)
  have HN := Lib.hid (HN.out.still hb)
  clear hb
  clear d0 d1 d2 d3 d4
  obtain ⟨d0, d1, d2, d3, d4⟩ := row5 G.out.v0
  go_wp2_with fail
  refine (CW.out _ HN.out).mono ?_
  rintro e w2 ⟨rfl, hb⟩
  have G := Lib.hid (G.out.still hb)
  have HN := Lib.hid (HN.out.still hb)
  clear hb CW W0
  clear d0 d1 d2 d3 d4
  obtain ⟨d0, d1, d2, d3, d4⟩ := row5 G.out.v0
  go_wp2_with fail
  refine (CF.out _ HN.out).mono ?_
  rintro e w3 ⟨rfl, hb⟩
  have G := Lib.hid (G.out.still hb)
  have HN := Lib.hid (HN.out.still hb)
  clear hb CF
  clear d0 d1 d2 d3 d4
  obtain ⟨d0, d1, d2, d3, d4⟩ := row5 G.out.v0
  go_wp2_with fail
  refine (CP.out _ HN.out).mono ?_
  rintro e w4 ⟨vp, rfl, hm, hb⟩
  have G := Lib.hid (G.out.still hb)
  have HN := Lib.hid (HN.out.still hb)
  have HM := Lib.hid hm
  have HM0 := Lib.hid hm
  clear hm
  clear hb CP
  clear d0 d1 d2 d3 d4
  obtain ⟨d0, d1, d2, d3, d4⟩ := row5 G.out.v0
  have BA := Lib.hid (Below.refl w4.heap.size w4)
  have LA := Lib.hid G.out.bel.size
  go_wp2_with fail
  refine (CU.out _ _ _ HM.out).mono ?_
  rintro e w5 ⟨x, y, z, rfl, hmm, hb⟩
  obtain ⟨p1, p2, p3, pe1, pe2, pe3, rfl, rfl, rfl, pn12, pn13, pn23⟩ := hmm.blocks HC.out
  have G := Lib.hid (G.out.still hb)
  have HN := Lib.hid (HN.out.still hb)
  have HM := Lib.hid (HM.out.still hb)
  have MP := Lib.hid hmm
  have BA := Lib.hid (below_then BA.out hb (Nat.le_refl _))
  clear hmm
  clear hb
  clear d0 d1 d2 d3 d4
  obtain ⟨d0, d1, d2, d3, d4⟩ := row5 G.out.v0
  clear d0 d1 d2 d3 d4
  unfold Nd.val
  have G := Lib.hid (G.out.add 24 #[.bool n.inner, .int .i64 n.lo, .slice (some ⟨p1, 0, none⟩) n.ends.length pe1, .slice (some ⟨p2, 0, none⟩) n.ends.length pe2, .slice (some ⟨p3, 0, none⟩) n.ends.length pe3])
  have HN := Lib.hid (HN.out.still (below_new _ (.cells #[.bool n.inner, .int .i64 n.lo, .slice (some ⟨p1, 0, none⟩) n.ends.length pe1, .slice (some ⟨p2, 0, none⟩) n.ends.length pe2, .slice (some ⟨p3, 0, none⟩) n.ends.length pe3] 24)))
  have HM := Lib.hid (HM.out.still (below_new _ (.cells #[.bool n.inner, .int .i64 n.lo, .slice (some ⟨p1, 0, none⟩) n.ends.length pe1, .slice (some ⟨p2, 0, none⟩) n.ends.length pe2, .slice (some ⟨p3, 0, none⟩) n.ends.length pe3] 24)))
  have MP := Lib.hid (MP.out.still (below_new _ (.cells #[.bool n.inner, .int .i64 n.lo, .slice (some ⟨p1, 0, none⟩) n.ends.length pe1, .slice (some ⟨p2, 0, none⟩) n.ends.length pe2, .slice (some ⟨p3, 0, none⟩) n.ends.length pe3] 24)))
  have BA := Lib.hid (below_then BA.out (below_new _ (.cells #[.bool n.inner, .int .i64 n.lo, .slice (some ⟨p1, 0, none⟩) n.ends.length pe1, .slice (some ⟨p2, 0, none⟩) n.ends.length pe2, .slice (some ⟨p3, 0, none⟩) n.ends.length pe3] 24)) (Nat.le_refl _))
  obtain ⟨pd0, pd1, pd2, pd3, pd4⟩ := row5 G.out.v0
  obtain ⟨d0, d1, d2, d3, d4⟩ := row5 G.out.v1
  have LP := Lib.hid (fun q o => MP.out.lts q o)
  go_wp2_with fail
  refine (CU.out _ _ _ HM.out).mono ?_
  rintro e w6 ⟨x, y, z, rfl, hmm, hb⟩
  obtain ⟨q1, q2, q3, qe1, qe2, qe3, rfl, rfl, rfl, qn12, qn13, qn23⟩ := hmm.blocks HC.out
  have G := Lib.hid (G.out.still hb)
  have HN := Lib.hid (HN.out.still hb)
  have HM := Lib.hid (HM.out.still hb)
  have MP := Lib.hid (MP.out.still hb)
  have MQ := Lib.hid hmm
  have BA := Lib.hid (below_then BA.out hb (Nat.le_refl _))
  clear hmm
  clear hb
  clear pd0 pd1 pd2 pd3 pd4 d0 d1 d2 d3 d4
  obtain ⟨pd0, pd1, pd2, pd3, pd4⟩ := row5 G.out.v0
  obtain ⟨d0, d1, d2, d3, d4⟩ := row5 G.out.v1
  clear pd0 pd1 pd2 pd3 pd4 d0 d1 d2 d3 d4
  unfold Nd.val
  have G := Lib.hid (G.out.add 24 #[.bool n.inner, .int .i64 n.lo, .slice (some ⟨q1, 0, none⟩) n.ends.length qe1, .slice (some ⟨q2, 0, none⟩) n.ends.length qe2, .slice (some ⟨q3, 0, none⟩) n.ends.length qe3])
  have HN := Lib.hid (HN.out.still (below_new _ (.cells #[.bool n.inner, .int .i64 n.lo, .slice (some ⟨q1, 0, none⟩) n.ends.length qe1, .slice (some ⟨q2, 0, none⟩) n.ends.length qe2, .slice (some ⟨q3, 0, none⟩) n.ends.length qe3] 24)))
  have HM := Lib.hid (HM.out.still (below_new _ (.cells #[.bool n.inner, .int .i64 n.lo, .slice (some ⟨q1, 0, none⟩) n.ends.length qe1, .slice (some ⟨q2, 0, none⟩) n.ends.length qe2, .slice (some ⟨q3, 0, none⟩) n.ends.length qe3] 24)))
  have MP := Lib.hid (MP.out.still (below_new _ (.cells #[.bool n.inner, .int .i64 n.lo, .slice (some ⟨q1, 0, none⟩) n.ends.length qe1, .slice (some ⟨q2, 0, none⟩) n.ends.length qe2, .slice (some ⟨q3, 0, none⟩) n.ends.length qe3] 24)))
  have MQ := Lib.hid (MQ.out.still (below_new _ (.cells #[.bool n.inner, .int .i64 n.lo, .slice (some ⟨q1, 0, none⟩) n.ends.length qe1, .slice (some ⟨q2, 0, none⟩) n.ends.length qe2, .slice (some ⟨q3, 0, none⟩) n.ends.length qe3] 24)))
  have BA := Lib.hid (below_then BA.out (below_new _ (.cells #[.bool n.inner, .int .i64 n.lo, .slice (some ⟨q1, 0, none⟩) n.ends.length qe1, .slice (some ⟨q2, 0, none⟩) n.ends.length qe2, .slice (some ⟨q3, 0, none⟩) n.ends.length qe3] 24)) (Nat.le_refl _))
  obtain ⟨qd0, qd1, qd2, qd3, qd4⟩ := row5 G.out.v0
  obtain ⟨pd0, pd1, pd2, pd3, pd4⟩ := row5 G.out.v1
  obtain ⟨d0, d1, d2, d3, d4⟩ := row5 G.out.v2
  go_wp2_with fail
  clear qd0 qd1 qd2 qd3 qd4 pd0 pd1 pd2 pd3 pd4 d0 d1 d2 d3 d4
  generalize (w6.alloc (.cells #[.bool n.inner, .int .i64 n.lo, .slice (some ⟨q1, 0, none⟩) n.ends.length qe1, .slice (some ⟨q2, 0, none⟩) n.ends.length qe2, .slice (some ⟨q3, 0, none⟩) n.ends.length qe3] 24)) = wC at *
  have HI0 := Lib.hid (Inc.start MP.out HC.out)
  go_loopg [8] n.ends.length (fun g s8 wr => ∃ (k : Nat) (E S Q : List Int), k ≤ n.ends.length ∧ n.ends.length - k ≤ g ∧ s8 = .int .i64 k ∧ Hid (Inc wC wr w4.heap.size n.ends.length (.slice (some ⟨p1, 0, none⟩) n.ends.length pe1) (.slice (some ⟨p2, 0, none⟩) n.ends.length pe2) (.slice (some ⟨p3, 0, none⟩) n.ends.length pe3) E S Q))
  case atStart => exact ⟨0, _, _, _, by omega, by omega, rfl, HI0⟩
  case round =>
    obtain ⟨k, E, S, Q, hk, hg, rfl, HI⟩ := hrel
    have GR := Lib.hid (bag_inc G.out MP.out HI.out.only LA.out (by intro e he; simp at he; rcases he with rfl | rfl | rfl <;> (show 2 ≠ 24; decide)))
    obtain ⟨m0, m1, m2, m3, m4⟩ := row5 GR.out.v1
    by_cases hlt : k < n.ends.length
    · have hz1 : (k : Int) < (n.ends.length : Int) := by omega
      have hz0 : (0 : Int) ≤ (k : Int) := by omega
      obtain ⟨c0, f0⟩ := own_cell HI.out.me HI.out.le k hlt
      obtain ⟨c1, f1⟩ := own_cell HI.out.ms HI.out.ls k hlt
      obtain ⟨c2, f2⟩ := own_cell HI.out.mg HI.out.lg k hlt
      have HP := Lib.hid (HI.out.put pn12 pn13 pn23 k (wrap64 (nth E k + 1)) (wrap64 (nth S k + 1)) (wrap64 (nth Q k + 1)))
      have NQ := MP.out.not G.out.v1 (by decide)
      have o1 : ¬ p1 = w5.heap.size := fun e => NQ (.inl (congrArg some e))
      have r1 : ¬ w5.heap.size = p1 := fun e => o1 e.symm
      have o2 : ¬ p2 = w5.heap.size := fun e => NQ (.inr (.inl (congrArg some e)))
      have r2 : ¬ w5.heap.size = p2 := fun e => o2 e.symm
      have o3 : ¬ p3 = w5.heap.size := fun e => NQ (.inr (.inr (congrArg some e)))
      have r3 : ¬ w5.heap.size = p3 := fun e => o3 e.symm
      have n1 : ¬ p1 = p2 := pn12
      have n2 : ¬ p1 = p3 := pn13
      have n3 : ¬ p2 = p3 := pn23
      have n4 : ¬ p2 = p1 := fun e => pn12 e.symm
      have n5 : ¬ p3 = p1 := fun e => pn13 e.symm
      have n6 : ¬ p3 = p2 := fun e => pn23 e.symm
      clear NQ
      generalize nth E k = x at *
      generalize nth S k = h at *
      generalize nth Q k = y at *
      go_wp2_with fail
      go_roundg (n.ends.length - (k + 1))
      case measure => omega
      case rel => exact ⟨k + 1, _, _, _, by omega, by omega, by go_num, HP⟩
    · obtain rfl : k = n.ends.length := by omega
      have HN := Lib.hid (HN0.out.still GR.out.bel)
      have HM := Lib.hid (HM0.out.still (BA.out.trans (HI.out.only.below (fun q o => (MP.out.lts q o).1) BA.out.size)))
      have HH := Lib.hid (MQ.out.beside HI.out.only (fun q o => (LP.out q o).2)).here
      have G := GR
      clear GR HI HI0 MP MQ LP BA HM0 HN0
      obtain ⟨qd0, qd1, qd2, qd3, qd4⟩ := row5 G.out.v0
      obtain ⟨d0, d1, d2, d3, d4⟩ := row5 G.out.v2
      go_wp2_with fail
      refine (CN.out _ _ _ _ HH.out HN.out).mono ?_
      rintro e w7 ⟨rfl, hb⟩
      have G := Lib.hid (G.out.still hb)
      have HN := Lib.hid (HN.out.still hb)
      have HM := Lib.hid (HM.out.still hb)
      have HH := Lib.hid (HH.out.still hb)
      clear hb CN
      clear qd0 qd1 qd2 qd3 qd4 d0 d1 d2 d3 d4 m0 m1 m2 m3 m4
      obtain ⟨qd0, qd1, qd2, qd3, qd4⟩ := row5 G.out.v0
      obtain ⟨d0, d1, d2, d3, d4⟩ := row5 G.out.v2
      go_wp2_with fail
      refine (CQ.out _ HN.out).mono ?_
      rintro e w8 ⟨vq, rfl, hw2, hb⟩
      have G := Lib.hid (G.out.still hb)
      have HN := Lib.hid (HN.out.still hb)
      have HM := Lib.hid (HM.out.still hb)
      have HH := Lib.hid (HH.out.still hb)
      have HQ := Lib.hid hw2
      clear hw2
      clear hb CQ
      clear qd0 qd1 qd2 qd3 qd4 d0 d1 d2 d3 d4
      obtain ⟨qd0, qd1, qd2, qd3, qd4⟩ := row5 G.out.v0
      obtain ⟨d0, d1, d2, d3, d4⟩ := row5 G.out.v2
      go_wp2_with fail
      refine (CS.out _ _ _ _ HM.out HQ.out).mono ?_
      rintro e w9 ⟨rfl, hb⟩
      have G := Lib.hid (G.out.still hb)
      have HN := Lib.hid (HN.out.still hb)
      have HM := Lib.hid (HM.out.still hb)
      have HH := Lib.hid (HH.out.still hb)
      clear hb CS HQ
      clear qd0 qd1 qd2 qd3 qd4 d0 d1 d2 d3 d4
      obtain ⟨qd0, qd1, qd2, qd3, qd4⟩ := row5 G.out.v0
      obtain ⟨d0, d1, d2, d3, d4⟩ := row5 G.out.v2
      go_wp2_with fail
      go_ret
      exact ⟨rfl, G.out.bel⟩

theorem own_any {n : Nd} {x y z : Value} (w : World) (h : NdIn w n x y z) (fs : Fits n.slots) :
    Calls Try.prog 7 #[n.val x y z] w fun e w' => e = .returned (.bool true) ∧ Below w.heap.size w w' := by
  by_cases hw : Few n
  · by_cases hf : NdF n
    · exact own_yes w h hw hf fs
    · exact own_no w h hw hf
  · exact own_many w h hw
end Go.Proofs.Ytcgooplecimdhaa
