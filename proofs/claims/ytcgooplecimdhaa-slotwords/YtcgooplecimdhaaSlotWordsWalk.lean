/-
  Layer 15: words that are told. (Written by gen/SlLaws.py.)
-/
import Derived.Test.YtcgooplecimdhaaPkWi
import Derived.Deep.LoopGhost
import Derived.Deep.RegionHeld3
import Derived.BigQuiet
namespace Go.Proofs.Ytcgooplecimdhaa
open Go.ChangeShapes Go.WideShapes Go.ChangeAt Go.RowKit
set_option linter.unusedVariables false

set_option maxRecDepth 4000 in
set_option maxHeartbeats 8000000 in
theorem words_many {l : List Int} {v : Value} (w : World) (h : Wds w v l) (hl : 60 < l.length) :
    Calls Try.prog 4 #[v] w fun e w' => e = .returned (.bool true) ∧ Below w.heap.size w w' := by
  obtain ⟨A, c, rfl⟩ := h.is
  have W0 := Lib.hid sl_awake
  have G := Lib.hid (Bag.new w)
  clear h
  generalize l.length = k at *
  have hz : (60 : Int) < (k : Int) := by omega
  go_enter Try.func4, Try.ntmps4
  go_wp2_with fail
  refine (W0.out _).mono ?_
  rintro e w1 ⟨rfl, hb⟩
  have G := Lib.hid (G.out.still hb)
  clear hb
  go_wp2_with fail
  refine (W0.out _).mono ?_
  rintro e w2 ⟨rfl, hb⟩
  have G := Lib.hid (G.out.still hb)
  clear hb
  go_wp2_with fail
  go_ret
  exact ⟨rfl, G.out.bel⟩

set_option maxRecDepth 4000 in
set_option maxHeartbeats 8000000 in
theorem words_few {l : List Int} {v : Value} (w : World) (h : Wds w v l) (hf : Fits l) (hl : l.length ≤ 60) :
    Calls Try.prog 4 #[v] w fun e w' => e = .returned (.bool true) ∧ Below w.heap.size w w' := by
  obtain ⟨A, c, rfl⟩ := h.is
  have W0 := Lib.hid sl_awake
  have G := Lib.hid (Bag.new w)
  have HV := Lib.hid h
  have CU : Hid (∀ W, Wds W (.slice A l.length c) l → Calls Try.prog 13 #[.slice A l.length c] W fun e w' => UnAns W.heap.size w' e l ∧ Below W.heap.size W w') := Lib.hid (fun W h => unpack_c h hf (by omega))
  have CA : Hid (∀ W, Wds W (.slice A l.length c) l → Calls Try.prog 18 #[.slice A l.length c] W fun e w' => UnAnsA e l ∧ Below W.heap.size W w') := Lib.hid (fun W h => unpackA_c h (by omega))
  have CS : Hid (∀ W u, Wds W u l → Wds W (.slice A l.length c) l → Calls Try.prog 15 #[u, .slice A l.length c] W fun e w' => e = .returned (.bool true) ∧ Below W.heap.size W w') := Lib.hid (fun W u h k => same_c h k (r := true) ⟨fun _ => rfl, fun _ => rfl⟩ (by omega))
  have hz : ¬ (60 : Int) < (l.length : Int) := by omega
  clear h hf
  generalize hK : l.length = K at *
  have HK := Lib.hid hK
  clear hK
  go_enter Try.func4, Try.ntmps4
  go_wp2_with fail
  refine (W0.out _).mono ?_
  rintro e w1 ⟨rfl, hb⟩
  have G := Lib.hid (G.out.still hb)
  have HV := Lib.hid (HV.out.still hb)
  clear hb W0
  go_wp2_with fail
  refine (CU.out _ HV.out).mono ?_
  rintro e w2 ⟨hu, hb⟩
  rcases hu with ⟨n, x, y, z, rfl, hn, he, hM⟩ | ⟨rfl, hno⟩
  · have HH := Lib.hid hM.here
    clear hM
    obtain ⟨A1, c1, rfl⟩ := HH.out.we.is
    obtain ⟨A2, c2, rfl⟩ := HH.out.ws.is
    obtain ⟨A3, c3, rfl⟩ := HH.out.wg.is
    have G := Lib.hid (G.out.still hb)
    have HV := Lib.hid (HV.out.still hb)
    clear hb CU
    unfold Nd.val at *
    have G := Lib.hid (G.out.add 24 #[.bool n.inner, .int .i64 n.lo, .slice A1 n.ends.length c1, .slice A2 n.slots.length c2, .slice A3 n.gaps.length c3])
    have HV := Lib.hid (HV.out.still (below_new _ (.cells #[.bool n.inner, .int .i64 n.lo, .slice A1 n.ends.length c1, .slice A2 n.slots.length c2, .slice A3 n.gaps.length c3] 24)))
    have HH := Lib.hid (HH.out.still (below_new _ (.cells #[.bool n.inner, .int .i64 n.lo, .slice A1 n.ends.length c1, .slice A2 n.slots.length c2, .slice A3 n.gaps.length c3] 24)))
    have CR : Hid (∀ W, NdIn W n (.slice A1 n.ends.length c1) (.slice A2 n.slots.length c2) (.slice A3 n.gaps.length c3) → Calls Try.prog 12 #[.agg #[.bool n.inner, .int .i64 n.lo, .slice A1 n.ends.length c1, .slice A2 n.slots.length c2, .slice A3 n.gaps.length c3]] W fun e w' => e = .returned (.bool true) ∧ Below W.heap.size W w') := Lib.hid (fun W h => refFormedN_c h (r := true) ⟨fun _ => hn, fun _ => rfl⟩)
    have CQ : Hid (∀ W, NdIn W n (.slice A1 n.ends.length c1) (.slice A2 n.slots.length c2) (.slice A3 n.gaps.length c3) → Calls Try.prog 16 #[.agg #[.bool n.inner, .int .i64 n.lo, .slice A1 n.ends.length c1, .slice A2 n.slots.length c2, .slice A3 n.gaps.length c3]] W fun e w' => ∃ v', e = .returned v' ∧ Wds w' v' l ∧ Below W.heap.size W w') := Lib.hid (fun W h => he ▸ refPackN_c h hn.cnt)
    have HX : Hid (∀ a d, packA a d ≠ l) := Lib.hid (fun a d e => node_no_area hn.cnt a d (he.trans e.symm))
    clear hn he
    obtain ⟨d0, d1, d2, d3, d4⟩ := row5 G.out.v0
    go_wp2_with fail
    refine (CA.out _ HV.out).mono ?_
    rintro e w3 ⟨hu, hb⟩
    rcases hu with ⟨b, e, rfl, hm, hbe⟩ | ⟨rfl, _⟩
    · exact absurd hbe (HX.out _ _)
    have G := Lib.hid (G.out.still hb)
    have HV := Lib.hid (HV.out.still hb)
    have HH := Lib.hid (HH.out.still hb)
    clear hb CA
    clear d0 d1 d2 d3 d4
    obtain ⟨d0, d1, d2, d3, d4⟩ := row5 G.out.v0
    clear d0 d1 d2 d3 d4
    unfold Ar.nil Ar.v
    simp only
    have G := Lib.hid (G.out.add 34 #[.int .i64 0, .int .i64 0, .int .i64 0, .bool false, .int .i64 0, .int .i64 0])
    have HV := Lib.hid (HV.out.still (below_new _ (.cells #[.int .i64 0, .int .i64 0, .int .i64 0, .bool false, .int .i64 0, .int .i64 0] 34)))
    have HH := Lib.hid (HH.out.still (below_new _ (.cells #[.int .i64 0, .int .i64 0, .int .i64 0, .bool false, .int .i64 0, .int .i64 0] 34)))
    obtain ⟨m0, m1, m2, m3, m4, m5⟩ := row6 G.out.v0
    obtain ⟨d0, d1, d2, d3, d4⟩ := row5 G.out.v1
    go_wp2_with fail
    refine (CR.out _ HH.out).mono ?_
    rintro e w4 ⟨rfl, hb⟩
    have G := Lib.hid (G.out.still hb)
    have HV := Lib.hid (HV.out.still hb)
    have HH := Lib.hid (HH.out.still hb)
    clear hb CR
    clear m0 m1 m2 m3 m4 m5 d0 d1 d2 d3 d4
    obtain ⟨m0, m1, m2, m3, m4, m5⟩ := row6 G.out.v0
    obtain ⟨d0, d1, d2, d3, d4⟩ := row5 G.out.v1
    go_wp2_with fail
    refine (CQ.out _ HH.out).mono ?_
    rintro e w5 ⟨vq, rfl, hw2, hb⟩
    have G := Lib.hid (G.out.still hb)
    have HV := Lib.hid (HV.out.still hb)
    have HH := Lib.hid (HH.out.still hb)
    have HQ := Lib.hid hw2
    clear hw2
    clear hb CQ
    clear m0 m1 m2 m3 m4 m5 d0 d1 d2 d3 d4
    obtain ⟨m0, m1, m2, m3, m4, m5⟩ := row6 G.out.v0
    obtain ⟨d0, d1, d2, d3, d4⟩ := row5 G.out.v1
    go_wp2_with fail
    refine (CS.out _ _ HQ.out HV.out).mono ?_
    rintro e w6 ⟨rfl, hb⟩
    have G := Lib.hid (G.out.still hb)
    have HV := Lib.hid (HV.out.still hb)
    have HH := Lib.hid (HH.out.still hb)
    clear hb CS HQ
    clear m0 m1 m2 m3 m4 m5 d0 d1 d2 d3 d4
    obtain ⟨m0, m1, m2, m3, m4, m5⟩ := row6 G.out.v0
    obtain ⟨d0, d1, d2, d3, d4⟩ := row5 G.out.v1
    go_wp2_with fail
    go_ret
    exact ⟨rfl, G.out.bel⟩
  · have G := Lib.hid (G.out.still hb)
    have HV := Lib.hid (HV.out.still hb)
    clear hb CU hno
    unfold nilN
    have G := Lib.hid (G.out.add 24 nilC)
    have HV := Lib.hid (HV.out.still (below_new _ (.cells nilC 24)))
    unfold nilC at *
    obtain ⟨d0, d1, d2, d3, d4⟩ := row5 G.out.v0
    go_wp2_with fail
    refine (CA.out _ HV.out).mono ?_
    rintro e w3 ⟨hu, hb⟩
    rcases hu with ⟨a, d, rfl, ha, hbe⟩ | ⟨rfl, _⟩
    · have CB := Lib.hid (refArea_c a (r := true) ⟨fun _ => ha, fun _ => rfl⟩)
      have CQ : Hid (∀ W, Calls Try.prog 20 #[a.v, .bool d] W fun e w' => ∃ v', e = .returned v' ∧ Wds w' v' l ∧ Below W.heap.size W w') := Lib.hid (fun W => hbe ▸ refPackA_c a d W)
      clear ha hbe
      obtain ⟨s, t, p, sh, bk, off⟩ := a
      unfold Ar.v at *
      simp only at *
      have G := Lib.hid (G.out.still hb)
      have HV := Lib.hid (HV.out.still hb)
      clear hb CA
      clear d0 d1 d2 d3 d4
      obtain ⟨d0, d1, d2, d3, d4⟩ := row5 G.out.v0
      clear d0 d1 d2 d3 d4
      have G := Lib.hid (G.out.add 34 #[.int .i64 s, .int .i64 t, .int .i64 p, .bool sh, .int .i64 bk, .int .i64 off])
      have HV := Lib.hid (HV.out.still (below_new _ (.cells #[.int .i64 s, .int .i64 t, .int .i64 p, .bool sh, .int .i64 bk, .int .i64 off] 34)))
      obtain ⟨m0, m1, m2, m3, m4, m5⟩ := row6 G.out.v0
      obtain ⟨d0, d1, d2, d3, d4⟩ := row5 G.out.v1
      go_wp2_with fail
      refine (CB.out _).mono ?_
      rintro e w4 ⟨rfl, hb⟩
      have G := Lib.hid (G.out.still hb)
      have HV := Lib.hid (HV.out.still hb)
      clear hb CB
      clear m0 m1 m2 m3 m4 m5 d0 d1 d2 d3 d4
      obtain ⟨m0, m1, m2, m3, m4, m5⟩ := row6 G.out.v0
      obtain ⟨d0, d1, d2, d3, d4⟩ := row5 G.out.v1
      go_wp2_with fail
      refine (CQ.out _).mono ?_
      rintro e w5 ⟨vq, rfl, hw2, hb⟩
      have G := Lib.hid (G.out.still hb)
      have HV := Lib.hid (HV.out.still hb)
      have HQ := Lib.hid hw2
      clear hw2
      clear hb CQ
      clear m0 m1 m2 m3 m4 m5 d0 d1 d2 d3 d4
      obtain ⟨m0, m1, m2, m3, m4, m5⟩ := row6 G.out.v0
      obtain ⟨d0, d1, d2, d3, d4⟩ := row5 G.out.v1
      go_wp2_with fail
      refine (CS.out _ _ HQ.out HV.out).mono ?_
      rintro e w6 ⟨rfl, hb⟩
      have G := Lib.hid (G.out.still hb)
      have HV := Lib.hid (HV.out.still hb)
      clear hb CS HQ
      clear m0 m1 m2 m3 m4 m5 d0 d1 d2 d3 d4
      obtain ⟨m0, m1, m2, m3, m4, m5⟩ := row6 G.out.v0
      obtain ⟨d0, d1, d2, d3, d4⟩ := row5 G.out.v1
      go_wp2_with fail
      go_ret
      exact ⟨rfl, G.out.bel⟩
    · have G := Lib.hid (G.out.still hb)
      have HV := Lib.hid (HV.out.still hb)
      clear hb CA
      clear d0 d1 d2 d3 d4
      obtain ⟨d0, d1, d2, d3, d4⟩ := row5 G.out.v0
      clear d0 d1 d2 d3 d4
      unfold Ar.nil Ar.v
      simp only
      have G := Lib.hid (G.out.add 34 #[.int .i64 0, .int .i64 0, .int .i64 0, .bool false, .int .i64 0, .int .i64 0])
      have HV := Lib.hid (HV.out.still (below_new _ (.cells #[.int .i64 0, .int .i64 0, .int .i64 0, .bool false, .int .i64 0, .int .i64 0] 34)))
      obtain ⟨m0, m1, m2, m3, m4, m5⟩ := row6 G.out.v0
      obtain ⟨d0, d1, d2, d3, d4⟩ := row5 G.out.v1
      go_wp2_with fail
      go_ret
      exact ⟨rfl, G.out.bel⟩

theorem words_any {l : List Int} {v : Value} (w : World) (h : Wds w v l) (hf : Fits l) :
    Calls Try.prog 4 #[v] w fun e w' => e = .returned (.bool true) ∧ Below w.heap.size w w' := by
  by_cases hl : l.length ≤ 60
  · exact words_few w h hf hl
  · exact words_many w h (by omega)
end Go.Proofs.Ytcgooplecimdhaa
