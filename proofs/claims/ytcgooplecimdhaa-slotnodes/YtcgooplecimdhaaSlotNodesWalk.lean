/-
  Layer 15: the nodes that are told. (Written by gen/SlLaws.py.)
-/
import Derived.Test.YtcgooplecimdhaaPkWi
import Derived.Deep.LoopGhost
import Derived.Deep.RegionHeld3
import Derived.BigQuiet
namespace Go.Proofs.Ytcgooplecimdhaa
open Go.ChangeShapes Go.WideShapes Go.ChangeAt Go.RowKit
set_option linter.unusedVariables false

set_option maxRecDepth 4000 in
set_option maxHeartbeats 8000000 in
theorem nodes_many {n : Nd} {x y z : Value} (w : World) (h : NdIn w n x y z) (hw : ¬ Few n) :
    Calls Try.prog 3 #[n.val x y z] w fun e w' => e = .returned (.bool true) ∧ Below w.heap.size w w' := by
  have hr : Tells false (Few n) := ⟨(fun e => by cases e), fun f => absurd f hw⟩
  obtain ⟨A1, c1, rfl⟩ := h.we.is
  obtain ⟨A2, c2, rfl⟩ := h.ws.is
  obtain ⟨A3, c3, rfl⟩ := h.wg.is
  have W0 := Lib.hid sl_awake
  have G : Hid (Bag w (w.alloc (.cells #[.bool n.inner, .int .i64 n.lo, .slice A1 n.ends.length c1, .slice A2 n.slots.length c2, .slice A3 n.gaps.length c3] 24)) [(w.heap.size, 24, #[.bool n.inner, .int .i64 n.lo, .slice A1 n.ends.length c1, .slice A2 n.slots.length c2, .slice A3 n.gaps.length c3])]) := Lib.hid ((Bag.new w).add 24 #[.bool n.inner, .int .i64 n.lo, .slice A1 n.ends.length c1, .slice A2 n.slots.length c2, .slice A3 n.gaps.length c3])
  have CW : Hid (∀ W, NdIn W n (.slice A1 n.ends.length c1) (.slice A2 n.slots.length c2) (.slice A3 n.gaps.length c3) → Calls Try.prog 9 #[.agg #[.bool n.inner, .int .i64 n.lo, .slice A1 n.ends.length c1, .slice A2 n.slots.length c2, .slice A3 n.gaps.length c3]] W fun e w' => e = .returned (.bool false) ∧ Below W.heap.size W w') := Lib.hid (fun W h => few_c h (r := false) hr)
  have HN := Lib.hid (h.still G.out.bel)
  clear h hr hw
  unfold Nd.val
  go_enter Try.func3, Try.ntmps3
  obtain ⟨d0, d1, d2, d3, d4⟩ := row5 G.out.v0
  go_wp2_with fail
  refine (W0.out _).mono ?_
  rintro e w1 ⟨rfl, hb⟩
  have G := Lib.hid (G.out.still hb)
  have HN := Lib.hid (HN.out.still hb)
  clear hb
  clear d0 d1 d2 d3 d4
  obtain ⟨d0, d1, d2, d3, d4⟩ := row5 G.out.v0
  go_wp2_with fail
  refine (CW.out _ HN.out).mono ?_
  rintro e w2 ⟨rfl, hb⟩
  have G := Lib.hid (G.out.still hb)
  have HN := Lib.hid (HN.out.still hb)
  clear hb CW
  clear d0 d1 d2 d3 d4
  obtain ⟨d0, d1, d2, d3, d4⟩ := row5 G.out.v0
  go_wp2_with fail
  refine (W0.out _).mono ?_
  rintro e w3 ⟨rfl, hb⟩
  have G := Lib.hid (G.out.still hb)
  have HN := Lib.hid (HN.out.still hb)
  clear hb
  clear d0 d1 d2 d3 d4
  obtain ⟨d0, d1, d2, d3, d4⟩ := row5 G.out.v0
  go_wp2_with fail
  go_ret
  exact ⟨rfl, G.out.bel⟩

set_option maxRecDepth 4000 in
set_option maxHeartbeats 8000000 in
theorem nodes_no {n : Nd} {x y z : Value} (w : World) (h : NdIn w n x y z) (hw : Few n) (hf : ¬ NdF n) :
    Calls Try.prog 3 #[n.val x y z] w fun e w' => e = .returned (.bool true) ∧ Below w.heap.size w w' := by
  have hr : Tells true (Few n) := ⟨fun _ => hw, fun _ => rfl⟩
  have hq : Tells false (NdF n) := ⟨(fun e => by cases e), fun f => absurd f hf⟩
  obtain ⟨A1, c1, rfl⟩ := h.we.is
  obtain ⟨A2, c2, rfl⟩ := h.ws.is
  obtain ⟨A3, c3, rfl⟩ := h.wg.is
  have W0 := Lib.hid sl_awake
  have G : Hid (Bag w (w.alloc (.cells #[.bool n.inner, .int .i64 n.lo, .slice A1 n.ends.length c1, .slice A2 n.slots.length c2, .slice A3 n.gaps.length c3] 24)) [(w.heap.size, 24, #[.bool n.inner, .int .i64 n.lo, .slice A1 n.ends.length c1, .slice A2 n.slots.length c2, .slice A3 n.gaps.length c3])]) := Lib.hid ((Bag.new w).add 24 #[.bool n.inner, .int .i64 n.lo, .slice A1 n.ends.length c1, .slice A2 n.slots.length c2, .slice A3 n.gaps.length c3])
  have CW : Hid (∀ W, NdIn W n (.slice A1 n.ends.length c1) (.slice A2 n.slots.length c2) (.slice A3 n.gaps.length c3) → Calls Try.prog 9 #[.agg #[.bool n.inner, .int .i64 n.lo, .slice A1 n.ends.length c1, .slice A2 n.slots.length c2, .slice A3 n.gaps.length c3]] W fun e w' => e = .returned (.bool true) ∧ Below W.heap.size W w') := Lib.hid (fun W h => few_c h (r := true) hr)
  have HN := Lib.hid (h.still G.out.bel)
  have CP : Hid (∀ W, NdIn W n (.slice A1 n.ends.length c1) (.slice A2 n.slots.length c2) (.slice A3 n.gaps.length c3) → Calls Try.prog 10 #[.agg #[.bool n.inner, .int .i64 n.lo, .slice A1 n.ends.length c1, .slice A2 n.slots.length c2, .slice A3 n.gaps.length c3]] W fun e w' => ∃ v', e = .returned v' ∧ Mw W.heap.size w' v' [] ∧ Below W.heap.size W w') := Lib.hid (fun W h => pack_c h (r := false) hq)
  have CF : Hid (∀ W, NdIn W n (.slice A1 n.ends.length c1) (.slice A2 n.slots.length c2) (.slice A3 n.gaps.length c3) → Calls Try.prog 11 #[.agg #[.bool n.inner, .int .i64 n.lo, .slice A1 n.ends.length c1, .slice A2 n.slots.length c2, .slice A3 n.gaps.length c3]] W fun e w' => e = .returned (.bool false) ∧ Below W.heap.size W w') := Lib.hid (fun W h => formed_c h (r := false) hq)
  have CR : Hid (∀ W, NdIn W n (.slice A1 n.ends.length c1) (.slice A2 n.slots.length c2) (.slice A3 n.gaps.length c3) → Calls Try.prog 12 #[.agg #[.bool n.inner, .int .i64 n.lo, .slice A1 n.ends.length c1, .slice A2 n.slots.length c2, .slice A3 n.gaps.length c3]] W fun e w' => e = .returned (.bool false) ∧ Below W.heap.size W w') := Lib.hid (fun W h => refFormedN_c h (r := false) hq)
  have CL : Hid (∀ W, NdIn W n (.slice A1 n.ends.length c1) (.slice A2 n.slots.length c2) (.slice A3 n.gaps.length c3) → Calls Try.prog 14 #[.agg #[.bool n.inner, .int .i64 n.lo, .slice A1 n.ends.length c1, .slice A2 n.slots.length c2, .slice A3 n.gaps.length c3]] W fun e w' => e = .returned (.int .i64 0) ∧ Below W.heap.size W w') := Lib.hid (fun W h => largest_c h (r := false) hq (by have := hw.g; omega))
  clear h hr hq hf hw
  unfold Nd.val
  go_enter Try.func3, Try.ntmps3
  obtain ⟨d0, d1, d2, d3, d4⟩ := row5 G.out.v0
  go_wp2_with fail
  refine (W0.out _).mono ?_
  rintro e w1 ⟨rfl, hb⟩
  have G := Lib.hid (G.out.still hb)
  have HN := Lib.hid (HN.out.still hb)
  clear hb
  clear d0 d1 d2 d3 d4
  obtain ⟨d0, d1, d2, d3, d4⟩ := row5 G.out.v0
  go_wp2_with fail
  refine (CW.out _ HN.out).mono ?_
  rintro e w2 ⟨rfl, hb⟩
  have G := Lib.hid (G.out.still hb)
  have HN := Lib.hid (HN.out.still hb)
  clear hb CW W0
  clear d0 d1 d2 d3 d4
  obtain ⟨d0, d1, d2, d3, d4⟩ := row5 G.out.v0
  go_wp2_with fail
  refine (CP.out _ HN.out).mono ?_
  rintro e w3 ⟨vp, rfl, hm, hb⟩
  have G := Lib.hid (G.out.still hb)
  have HN := Lib.hid (HN.out.still hb)
  have HM := Lib.hid hm
  clear hm
  clear hb CP
  clear d0 d1 d2 d3 d4
  obtain ⟨d0, d1, d2, d3, d4⟩ := row5 G.out.v0
  clear d0 d1 d2 d3 d4
  have HK : Hid (∀ W, Below w3.heap.size w3 W → (W.cell? ⟨w.heap.size, 0, none⟩ = some (.bool n.inner) ∧ W.cell? ⟨w.heap.size, 1, none⟩ = some (.int .i64 n.lo) ∧ W.cell? ⟨w.heap.size, 2, none⟩ = some (.slice A1 n.ends.length c1) ∧ W.cell? ⟨w.heap.size, 3, none⟩ = some (.slice A2 n.slots.length c2) ∧ W.cell? ⟨w.heap.size, 4, none⟩ = some (.slice A3 n.gaps.length c3))) := Lib.hid (fun W h => row5 ((G.out.still h).v0))
  have KN := Lib.hid (fun W h => HN.out.still (w' := W) h)
  have BB := Lib.hid (below_drew (Below.refl w3.heap.size w3))
  go_wp2_with fail
  go_region_held3 (fun W => W.cell? ⟨w.heap.size, 0, none⟩ = some (.bool n.inner) ∧ W.cell? ⟨w.heap.size, 1, none⟩ = some (.int .i64 n.lo) ∧ W.cell? ⟨w.heap.size, 2, none⟩ = some (.slice A1 n.ends.length c1) ∧ W.cell? ⟨w.heap.size, 3, none⟩ = some (.slice A2 n.slots.length c2) ∧ W.cell? ⟨w.heap.size, 4, none⟩ = some (.slice A3 n.gaps.length c3))
    (first | with_reducible exact HK.out _ BB.out)
    (first
    | (go_at_call 11; refine (CF.out _ (KN.out _ BB.out)).mono ?_; rintro e wn ⟨rfl, hb⟩; have BB := Lib.hid (below_then BB.out hb (Nat.le_refl _)); clear hb CF)
    | (go_at_call 12; refine (CR.out _ (KN.out _ BB.out)).mono ?_; rintro e wo ⟨rfl, hb⟩; have BB := Lib.hid (below_then BB.out hb (Nat.le_refl _)); clear hb)
    | fail)
  all_goals
    have G := Lib.hid (G.out.still BB.out)
    have HN := Lib.hid (HN.out.still BB.out)
    have HM := Lib.hid (HM.out.still BB.out)
    rename_i hs
    clear hs BB HK KN
    obtain ⟨d0, d1, d2, d3, d4⟩ := row5 G.out.v0
    go_wp2_with fail
    refine (unp_none HM.out).mono ?_
    rintro e w4 ⟨rfl, hb⟩
    have G := Lib.hid (G.out.still hb)
    have HN := Lib.hid (HN.out.still hb)
    have HM := Lib.hid (HM.out.still hb)
    clear hb
    clear d0 d1 d2 d3 d4
    obtain ⟨d0, d1, d2, d3, d4⟩ := row5 G.out.v0
    clear d0 d1 d2 d3 d4
    unfold nilN
    have G := Lib.hid (G.out.add 24 nilC)
    have HN := Lib.hid (HN.out.still (below_new _ (.cells nilC 24)))
    have HM := Lib.hid (HM.out.still (below_new _ (.cells nilC 24)))
    unfold nilC at *
    obtain ⟨Av, cv, rfl⟩ := HM.out.wds.is
    simp only [List.length_nil] at *
    obtain ⟨m0, m1, m2, m3, m4⟩ := row5 G.out.v0
    obtain ⟨d0, d1, d2, d3, d4⟩ := row5 G.out.v1
    go_wp2_with fail
    refine (CR.out _ HN.out).mono ?_
    rintro e w5 ⟨rfl, hb⟩
    have G := Lib.hid (G.out.still hb)
    have HN := Lib.hid (HN.out.still hb)
    have HM := Lib.hid (HM.out.still hb)
    clear hb CR
    clear m0 m1 m2 m3 m4 d0 d1 d2 d3 d4
    obtain ⟨m0, m1, m2, m3, m4⟩ := row5 G.out.v0
    obtain ⟨d0, d1, d2, d3, d4⟩ := row5 G.out.v1
    go_wp2_with fail
    refine (CL.out _ HN.out).mono ?_
    rintro e w6 ⟨rfl, hb⟩
    have G := Lib.hid (G.out.still hb)
    have HN := Lib.hid (HN.out.still hb)
    have HM := Lib.hid (HM.out.still hb)
    clear hb CL
    clear m0 m1 m2 m3 m4 d0 d1 d2 d3 d4
    obtain ⟨m0, m1, m2, m3, m4⟩ := row5 G.out.v0
    obtain ⟨d0, d1, d2, d3, d4⟩ := row5 G.out.v1
    go_wp2_with fail
    go_ret
    exact ⟨rfl, G.out.bel⟩

set_option maxRecDepth 4000 in
set_option maxHeartbeats 8000000 in
theorem nodes_yes {n : Nd} {x y z : Value} (w : World) (h : NdIn w n x y z) (hw : Few n) (hf : NdF n) (fs : Fits n.slots) :
    Calls Try.prog 3 #[n.val x y z] w fun e w' => e = .returned (.bool true) ∧ Below w.heap.size w w' := by
  have hr : Tells true (Few n) := ⟨fun _ => hw, fun _ => rfl⟩
  have hq : Tells true (NdF n) := ⟨fun _ => hf, fun _ => rfl⟩
  obtain ⟨A1, c1, rfl⟩ := h.we.is
  obtain ⟨A2, c2, rfl⟩ := h.ws.is
  obtain ⟨A3, c3, rfl⟩ := h.wg.is
  have W0 := Lib.hid sl_awake
  have G : Hid (Bag w (w.alloc (.cells #[.bool n.inner, .int .i64 n.lo, .slice A1 n.ends.length c1, .slice A2 n.slots.length c2, .slice A3 n.gaps.length c3] 24)) [(w.heap.size, 24, #[.bool n.inner, .int .i64 n.lo, .slice A1 n.ends.length c1, .slice A2 n.slots.length c2, .slice A3 n.gaps.length c3])]) := Lib.hid ((Bag.new w).add 24 #[.bool n.inner, .int .i64 n.lo, .slice A1 n.ends.length c1, .slice A2 n.slots.length c2, .slice A3 n.gaps.length c3])
  have CW : Hid (∀ W, NdIn W n (.slice A1 n.ends.length c1) (.slice A2 n.slots.length c2) (.slice A3 n.gaps.length c3) → Calls Try.prog 9 #[.agg #[.bool n.inner, .int .i64 n.lo, .slice A1 n.ends.length c1, .slice A2 n.slots.length c2, .slice A3 n.gaps.length c3]] W fun e w' => e = .returned (.bool true) ∧ Below W.heap.size W w') := Lib.hid (fun W h => few_c h (r := true) hr)
  have HN := Lib.hid (h.still G.out.bel)
  have CP : Hid (∀ W, NdIn W n (.slice A1 n.ends.length c1) (.slice A2 n.slots.length c2) (.slice A3 n.gaps.length c3) → Calls Try.prog 10 #[.agg #[.bool n.inner, .int .i64 n.lo, .slice A1 n.ends.length c1, .slice A2 n.slots.length c2, .slice A3 n.gaps.length c3]] W fun e w' => ∃ v', e = .returned v' ∧ Mw W.heap.size w' v' (packN n) ∧ Below W.heap.size W w') := Lib.hid (fun W h => pack_yes h hf)
  have CF : Hid (∀ W, NdIn W n (.slice A1 n.ends.length c1) (.slice A2 n.slots.length c2) (.slice A3 n.gaps.length c3) → Calls Try.prog 11 #[.agg #[.bool n.inner, .int .i64 n.lo, .slice A1 n.ends.length c1, .slice A2 n.slots.length c2, .slice A3 n.gaps.length c3]] W fun e w' => e = .returned (.bool true) ∧ Below W.heap.size W w') := Lib.hid (fun W h => formed_c h (r := true) hq)
  have CR : Hid (∀ W, NdIn W n (.slice A1 n.ends.length c1) (.slice A2 n.slots.length c2) (.slice A3 n.gaps.length c3) → Calls Try.prog 12 #[.agg #[.bool n.inner, .int .i64 n.lo, .slice A1 n.ends.length c1, .slice A2 n.slots.length c2, .slice A3 n.gaps.length c3]] W fun e w' => e = .returned (.bool true) ∧ Below W.heap.size W w') := Lib.hid (fun W h => refFormedN_c h (r := true) hq)
  have CL : Hid (∀ W, NdIn W n (.slice A1 n.ends.length c1) (.slice A2 n.slots.length c2) (.slice A3 n.gaps.length c3) → Calls Try.prog 14 #[.agg #[.bool n.inner, .int .i64 n.lo, .slice A1 n.ends.length c1, .slice A2 n.slots.length c2, .slice A3 n.gaps.length c3]] W fun e w' => e = .returned (.int .i64 (mx n.gaps n.gaps.length)) ∧ Below W.heap.size W w') := Lib.hid (fun W h => largest_c h (r := true) hq (by have := hw.g; omega))
  have CQ : Hid (∀ W, NdIn W n (.slice A1 n.ends.length c1) (.slice A2 n.slots.length c2) (.slice A3 n.gaps.length c3) → Calls Try.prog 16 #[.agg #[.bool n.inner, .int .i64 n.lo, .slice A1 n.ends.length c1, .slice A2 n.slots.length c2, .slice A3 n.gaps.length c3]] W fun e w' => ∃ v', e = .returned v' ∧ Wds w' v' (packN n) ∧ Below W.heap.size W w') := Lib.hid (fun W h => refPackN_c h hf.cnt)
  have CU : Hid (∀ B W v, Mw B W v (packN n) → Calls Try.prog 13 #[v] W fun e w' => ∃ x y z, e = .returned (.tuple #[n.val x y z, .bool true]) ∧ NdMine W.heap.size w' n x y z ∧ Below W.heap.size W w') := Lib.hid (fun B W v h => unp_yes hf fs h)
  have CS : Hid (∀ B W u v, Mw B W u (packN n) → Wds W v (packN n) → Calls Try.prog 15 #[u, v] W fun e w' => e = .returned (.bool true) ∧ Below W.heap.size W w') := Lib.hid (fun B W u v h k => same_c h.wds k (r := true) ⟨fun _ => rfl, fun _ => rfl⟩ (by rw [pack_len hf.cnt]; omega))
  have CN : Hid (∀ W x y z, NdIn W n x y z → NdIn W n (.slice A1 n.ends.length c1) (.slice A2 n.slots.length c2) (.slice A3 n.gaps.length c3) → Calls Try.prog 17 #[n.val x y z, .agg #[.bool n.inner, .int .i64 n.lo, .slice A1 n.ends.length c1, .slice A2 n.slots.length c2, .slice A3 n.gaps.length c3]] W fun e w' => e = .returned (.bool true) ∧ Below W.heap.size W w') := Lib.hid (fun W x y z k h => sameN_c k h (by have := hw.e; omega) (by have := hw.s; omega) (by have := hw.g; omega) (r := true) ⟨fun _ => rfl, fun _ => rfl⟩)
  have HG20 := hw.g
  have HX := Lib.hid (show ∀ k, mx n.gaps (k + 1) = if mx n.gaps k < nth n.gaps k then nth n.gaps k else mx n.gaps k from fun k => rfl)
  have HX0 : mx n.gaps 0 = 0 := rfl
  have HLP := Lib.hid (pack_len hf.cnt)
  clear h hr hq hf hw fs
  unfold Nd.val
  go_enter Try.func3, Try.ntmps3
  obtain ⟨d0, d1, d2, d3, d4⟩ := row5 G.out.v0
  go_wp2_with fail
  refine (W0.out _).mono ?_
  rintro e w1 ⟨rfl, hb⟩
  have G := Lib.hid (G.out.still hb)
  have HN := Lib.hid (HN.out.still hb)
  clear hb
  clear d0 d1 d2 d3 d4
  obtain ⟨d0, d1, d2, d3, d4⟩ := row5 G.out.v0
  go_wp2_with fail
  refine (CW.out _ HN.out).mono ?_
  rintro e w2 ⟨rfl, hb⟩
  have G := Lib.hid (G.out.still hb)
  have HN := Lib.hid (HN.out.still hb)
  clear hb CW W0
  clear d0 d1 d2 d3 d4
  obtain ⟨d0, d1, d2, d3, d4⟩ := row5 G.out.v0
  go_wp2_with fail
  refine (CP.out _ HN.out).mono ?_
  rintro e w3 ⟨vp, rfl, hm, hb⟩
  have G := Lib.hid (G.out.still hb)
  have HN := Lib.hid (HN.out.still hb)
  have HM := Lib.hid hm
  clear hm
  clear hb CP
  clear d0 d1 d2 d3 d4
  obtain ⟨d0, d1, d2, d3, d4⟩ := row5 G.out.v0
  clear d0 d1 d2 d3 d4
  have HK : Hid (∀ W, Below w3.heap.size w3 W → (W.cell? ⟨w.heap.size, 0, none⟩ = some (.bool n.inner) ∧ W.cell? ⟨w.heap.size, 1, none⟩ = some (.int .i64 n.lo) ∧ W.cell? ⟨w.heap.size, 2, none⟩ = some (.slice A1 n.ends.length c1) ∧ W.cell? ⟨w.heap.size, 3, none⟩ = some (.slice A2 n.slots.length c2) ∧ W.cell? ⟨w.heap.size, 4, none⟩ = some (.slice A3 n.gaps.length c3))) := Lib.hid (fun W h => row5 ((G.out.still h).v0))
  have KN := Lib.hid (fun W h => HN.out.still (w' := W) h)
  have BB := Lib.hid (below_drew (Below.refl w3.heap.size w3))
  go_wp2_with fail
  go_region_held3 (fun W => W.cell? ⟨w.heap.size, 0, none⟩ = some (.bool n.inner) ∧ W.cell? ⟨w.heap.size, 1, none⟩ = some (.int .i64 n.lo) ∧ W.cell? ⟨w.heap.size, 2, none⟩ = some (.slice A1 n.ends.length c1) ∧ W.cell? ⟨w.heap.size, 3, none⟩ = some (.slice A2 n.slots.length c2) ∧ W.cell? ⟨w.heap.size, 4, none⟩ = some (.slice A3 n.gaps.length c3))
    (first | with_reducible exact HK.out _ BB.out)
    (first
    | (go_at_call 11; refine (CF.out _ (KN.out _ BB.out)).mono ?_; rintro e wn ⟨rfl, hb⟩; have BB := Lib.hid (below_then BB.out hb (Nat.le_refl _)); clear hb CF)
    | (go_at_call 12; refine (CR.out _ (KN.out _ BB.out)).mono ?_; rintro e wo ⟨rfl, hb⟩; have BB := Lib.hid (below_then BB.out hb (Nat.le_refl _)); clear hb)
    | fail)
  all_goals
    have G := Lib.hid (G.out.still BB.out)
    have HN := Lib.hid (HN.out.still BB.out)
    have HM := Lib.hid (HM.out.still BB.out)
    rename_i hs
    clear hs BB HK KN
    obtain ⟨d0, d1, d2, d3, d4⟩ := row5 G.out.v0
    go_wp2_with fail
    refine (CU.out _ _ _ HM.out).mono ?_
    rintro e w4 ⟨x, y, z, rfl, hmm, hb⟩
    have HH := Lib.hid hmm.here
    clear hmm
    obtain ⟨M1, e1, rfl⟩ := HH.out.we.is
    obtain ⟨M2, e2, rfl⟩ := HH.out.ws.is
    obtain ⟨M3, e3, rfl⟩ := HH.out.wg.is
    have G := Lib.hid (G.out.still hb)
    have HN := Lib.hid (HN.out.still hb)
    have HM := Lib.hid (HM.out.still hb)
    clear hb CU
    clear d0 d1 d2 d3 d4
    obtain ⟨d0, d1, d2, d3, d4⟩ := row5 G.out.v0
    clear d0 d1 d2 d3 d4
    unfold Nd.val at *
    have G := Lib.hid (G.out.add 24 #[.bool n.inner, .int .i64 n.lo, .slice M1 n.ends.length e1, .slice M2 n.slots.length e2, .slice M3 n.gaps.length e3])
    have HN := Lib.hid (HN.out.still (below_new _ (.cells #[.bool n.inner, .int .i64 n.lo, .slice M1 n.ends.length e1, .slice M2 n.slots.length e2, .slice M3 n.gaps.length e3] 24)))
    have HM := Lib.hid (HM.out.still (below_new _ (.cells #[.bool n.inner, .int .i64 n.lo, .slice M1 n.ends.length e1, .slice M2 n.slots.length e2, .slice M3 n.gaps.length e3] 24)))
    have HH := Lib.hid (HH.out.still (below_new _ (.cells #[.bool n.inner, .int .i64 n.lo, .slice M1 n.ends.length e1, .slice M2 n.slots.length e2, .slice M3 n.gaps.length e3] 24)))
    obtain ⟨m0, m1, m2, m3, m4⟩ := row5 G.out.v0
    obtain ⟨d0, d1, d2, d3, d4⟩ := row5 G.out.v1
    go_wp2_with fail
    refine (CR.out _ HN.out).mono ?_
    rintro e w5 ⟨rfl, hb⟩
    have G := Lib.hid (G.out.still hb)
    have HN := Lib.hid (HN.out.still hb)
    have HM := Lib.hid (HM.out.still hb)
    have HH := Lib.hid (HH.out.still hb)
    clear hb CR
    clear m0 m1 m2 m3 m4 d0 d1 d2 d3 d4
    obtain ⟨m0, m1, m2, m3, m4⟩ := row5 G.out.v0
    obtain ⟨d0, d1, d2, d3, d4⟩ := row5 G.out.v1
    clear m0 m1 m2 m3 m4 d0 d1 d2 d3 d4
    go_wp2_with fail
    have KG := HN.out.wg
    obtain ⟨AA, cc, hAA, hcc, hGA⟩ := KG
    simp only [Value.slice.injEq] at hAA
    obtain ⟨rfl, -, rfl⟩ := hAA
    have HGA := Lib.hid hGA
    clear hGA hcc
    have HGL := Lib.hid HG20
    clear HG20
    obtain ⟨m0, m1, m2, m3, m4⟩ := row5 G.out.v0
    obtain ⟨d0, d1, d2, d3, d4⟩ := row5 G.out.v1
    have hK20 := HGL.out
    go_loopg [6, 7] n.gaps.length (fun g s6 s7 wr => ∃ k : Nat, k ≤ n.gaps.length ∧ n.gaps.length - k ≤ g ∧ s7 = .int .i64 k ∧ s6 = .int .i64 (mx n.gaps k) ∧ wr = w5)
    case atStart => exact ⟨0, by omega, by omega, rfl, by rw [HX0], rfl⟩
    case round =>
      obtain ⟨k, hk, hg, rfl, rfl, rfl⟩ := hrel
      by_cases hlt : k < n.gaps.length
      · have hz1 : (k : Int) < (n.gaps.length : Int) := by omega
        have hz0 : (0 : Int) ≤ (k : Int) := by omega
        obtain ⟨b, off, rfl, ca⟩ := HGA.out (by omega)
        have c0 := ca k hlt
        have hx := HX.out k
        clear ca
        generalize nth n.gaps k = p at *
        generalize hq : mx n.gaps k = q at *
        by_cases hqp : q < p
        · rw [if_pos hqp] at hx
          have HXX := Lib.hid hx
          clear hx hq
          go_wp2_with fail
          go_roundg (n.gaps.length - (k + 1))
          case measure => omega
          case rel => exact ⟨k + 1, by omega, by omega, by go_num, by rw [HXX.out], rfl⟩
        · rw [if_neg hqp] at hx
          have HXX := Lib.hid hx
          have hqp2 : p ≤ q := by omega
          clear hx hq
          go_wp2_with fail
          go_roundg (n.gaps.length - (k + 1))
          case measure => omega
          case rel => exact ⟨k + 1, by omega, by omega, by go_num, by rw [HXX.out], rfl⟩
      · obtain rfl : k = n.gaps.length := by omega
        clear HX HX0 HGA
        go_wp2_with fail
        refine (CQ.out _ HN.out).mono ?_
        rintro e w6 ⟨vq, rfl, hw2, hb⟩
        have G := Lib.hid (G.out.still hb)
        have HN := Lib.hid (HN.out.still hb)
        have HM := Lib.hid (HM.out.still hb)
        have HH := Lib.hid (HH.out.still hb)
        have HQ := Lib.hid hw2
        clear hw2
        clear hb CQ
        clear m0 m1 m2 m3 m4 d0 d1 d2 d3 d4
        obtain ⟨m0, m1, m2, m3, m4⟩ := row5 G.out.v0
        obtain ⟨d0, d1, d2, d3, d4⟩ := row5 G.out.v1
        go_wp2_with fail
        refine (CS.out _ _ _ _ HM.out HQ.out).mono ?_
        rintro e w7 ⟨rfl, hb⟩
        have G := Lib.hid (G.out.still hb)
        have HN := Lib.hid (HN.out.still hb)
        have HM := Lib.hid (HM.out.still hb)
        have HH := Lib.hid (HH.out.still hb)
        clear hb CS HQ
        clear m0 m1 m2 m3 m4 d0 d1 d2 d3 d4
        obtain ⟨m0, m1, m2, m3, m4⟩ := row5 G.out.v0
        obtain ⟨d0, d1, d2, d3, d4⟩ := row5 G.out.v1
        go_wp2_with fail
        refine (CN.out _ _ _ _ HH.out HN.out).mono ?_
        rintro e w8 ⟨rfl, hb⟩
        have G := Lib.hid (G.out.still hb)
        have HN := Lib.hid (HN.out.still hb)
        have HM := Lib.hid (HM.out.still hb)
        have HH := Lib.hid (HH.out.still hb)
        clear hb CN
        clear m0 m1 m2 m3 m4 d0 d1 d2 d3 d4
        obtain ⟨m0, m1, m2, m3, m4⟩ := row5 G.out.v0
        obtain ⟨d0, d1, d2, d3, d4⟩ := row5 G.out.v1
        go_wp2_with fail
        refine (CL.out _ HN.out).mono ?_
        rintro e w9 ⟨rfl, hb⟩
        have G := Lib.hid (G.out.still hb)
        have HN := Lib.hid (HN.out.still hb)
        have HM := Lib.hid (HM.out.still hb)
        have HH := Lib.hid (HH.out.still hb)
        clear hb CL
        clear m0 m1 m2 m3 m4 d0 d1 d2 d3 d4
        obtain ⟨m0, m1, m2, m3, m4⟩ := row5 G.out.v0
        obtain ⟨d0, d1, d2, d3, d4⟩ := row5 G.out.v1
        go_wp2_with fail
        go_ret
        exact ⟨rfl, G.out.bel⟩

theorem nodes_any {n : Nd} {x y z : Value} (w : World) (h : NdIn w n x y z) (fs : Fits n.slots) :
    Calls Try.prog 3 #[n.val x y z] w fun e w' => e = .returned (.bool true) ∧ Below w.heap.size w w' := by
  by_cases hw : Few n
  · by_cases hf : NdF n
    · exact nodes_yes w h hw hf fs
    · exact nodes_no w h hw hf
  · exact nodes_many w h hw
end Go.Proofs.Ytcgooplecimdhaa
