/-
  Layer 16: the walk of the statement on areas and nodes.
-/
import Derived.Test.YtiiclmaphiajmaaSeekLooksWalk
import Derived.Test.YtiiclmaphiajmaaPkYd
import Derived.Test.YtiiclmaphiajmaaPkYe
import Derived.Test.YtiiclmaphiajmaaPkWg
namespace Go.Proofs.Ytiiclmaphiajmaa
open Go.ChangeShapes Go.WideShapes Go.ChangeAt Go.RowKit
set_option linter.unusedVariables false

theorem areaR_is (r : Option (Ar × Bool)) : ∃ (a : Ar) (D K : Bool), areaR r = ⟨0, D, K, a, Nd.nil⟩ ∧ areaV r = .tuple #[a.v, .bool D, .bool K] := by
  cases r with
  | none => exact ⟨Ar.nil, false, false, rfl, rfl⟩
  | some p => obtain ⟨a, d⟩ := p; exact ⟨a, d, true, rfl, rfl⟩
theorem nodeW_few (x : List Int) : 0 < (nodeW x).2 ∧ (nodeW x).2 ≤ 26 := by
  unfold nodeW
  have := entK_hi (nth x 0)
  split
  · simp only; omega
  · simp
theorem nodeW_is (x : List Int) : ∃ (n : Nd) (K : Bool), nodeR (nodeW x).1 = ⟨0, false, K, Ar.nil, n⟩ ∧ (n.ends.length ≤ 8 ∧ n.slots.length ≤ 8 ∧ n.gaps.length ≤ 8) ∧ ∀ base w e, NodeWPost base w e (nodeW x) → ∃ a b c, e = .returned (.tuple #[n.val a b c, .bool K, .int .i64 ((nodeW x).2 : Int)]) ∧ NdMine base w n a b c := by
  unfold NodeWPost
  cases h : (nodeW x).1 with
  | none => exact ⟨Nd.nil, false, rfl, by simp [Nd.nil], fun base w e he => ⟨_, _, _, he, mine_nil w⟩⟩
  | some n =>
    have hF : NdF n := by
      unfold nodeW at h
      split at h
      · simp only at h
        split at h
        · rename_i hf; injection h with h; rw [← h]; exact hf
        · cases h
      · cases h
    have := hF.cnt.few
    have := hF.cnt.sl
    have := hF.cnt.gl
    exact ⟨n, true, rfl, by omega, fun base w e he => he⟩
theorem area_rs {m : Mm} {c : Int → Int} {x : List Int} {h : Int} (W : Words m c x) : (areaRs c h).ans m = areaR (areaOf (eight x)) ∧ ((areaRs c h).reads m).length = 8 := by
  obtain ⟨h1, h2⟩ := area_ans (h := h) W
  obtain ⟨g1, g2⟩ := rs_ans (areaP c h) areaR m
  unfold areaRs
  rw [g1, g2, h1]
  exact ⟨rfl, h2⟩
theorem node_rs {m : Mm} {c : Int → Int} {x : List Int} {h : Int} (W : Words m c x) : (nodeRs c h).ans m = nodeR (nodeW x).1 ∧ ((nodeRs c h).reads m).length = (nodeW x).2 := by
  obtain ⟨h1, h2⟩ := node_ans (h := h) W
  obtain ⟨g1, g2⟩ := rs_ans (nodeP c h) nodeR m
  unfold nodeRs
  rw [g1, g2, h1]
  exact ⟨rfl, h2⟩
/-- What an area's looker, over one slot, leaves. -/
def AreaPost (w : World) (mb mg ab ag : Nat) (x : List Int) (a : Ar) (D K : Bool) (e : Ending) (w' : World) : Prop :=
  ∃ (A1 : Option Addr) (c1 : Nat) (A2 : Option Addr) (c2 : Nat) (A3 : Option Addr) (c3 : Nat) (cnt : Int) (st : Bool), e = .returned (.tuple #[.agg #[.int .i64 0, .bool D, .bool K, .int .i64 a.s, .int .i64 a.e, .int .i64 a.p, .bool a.sh, .int .i64 a.bk, .int .i64 a.off, .bool false, .int .i64 0, .slice A1 0 c1, .slice A2 0 c2, .slice A3 0 c3], .int .i64 8, .bool true]) ∧
    MemAt w' mb mg (oneM x cnt).cs (oneM x cnt).cnt ∧ cnt ≤ 900 ∧ ArAt w' ab ag 3 (bornTo 1 1) st false ∧ Only (fun k => CTwo mb mg k ∨ ArTwo ab ag k) w w'
theorem all_area {w : World} {mb mg ab ag : Nat} {x : List Int} {a : Ar} {D K : Bool} (hr : areaR (areaOf (eight x)) = ⟨0, D, K, a, Nd.nil⟩) (hx : x.length = 28) (hf : Fits x) (M : MemAt w mb mg (oneM x 28).cs (oneM x 28).cnt) (A : ArAt w ab ag 3 (bornTo 1 1) false false) :
    Calls Try.prog 10 #[.pointer (some ⟨mb, 0, none⟩), .agg #[.pointer (some ⟨ab, 0, none⟩), .int .i64 65537, .int .i64 0, .int .i64 1, .pointer none]] w (AreaPost w mb mg ab ag x a D K) := by
  obtain ⟨r1, r2⟩ := area_rs (h := 65537) (one_words hx 28 false)
  refine (all_one hx hf (by omega) M A (looks_area (x := wiOf 1 false) 65537 0 (by omega)) (by rw [r2]; omega) (by rw [r2]; omega)).mono ?_
  rw [r1, r2, hr]
  rintro e w' ⟨A1, c1, A2, c2, A3, c3, cnt, st, rfl, _, hm, hc, ha, ho⟩
  exact ⟨A1, c1, A2, c2, A3, c3, cnt, st, rfl, hm, by omega, ha, ho⟩
/-- What a node's looker, over one slot, leaves. -/
def NodePost (w : World) (mb mg ab ag : Nat) (n : Nd) (K : Bool) (k : Nat) (e : Ending) (w' : World) : Prop :=
  ∃ (A1 : Option Addr) (c1 : Nat) (A2 : Option Addr) (c2 : Nat) (A3 : Option Addr) (c3 : Nat), e = .returned (.tuple #[.agg #[.int .i64 0, .bool false, .bool K, .int .i64 0, .int .i64 0, .int .i64 0, .bool false, .int .i64 0, .int .i64 0, .bool n.inner, .int .i64 n.lo, .slice A1 n.ends.length c1, .slice A2 n.slots.length c2, .slice A3 n.gaps.length c3], .int .i64 (k : Int), .bool true]) ∧
    NdIn w' n (.slice A1 n.ends.length c1) (.slice A2 n.slots.length c2) (.slice A3 n.gaps.length c3) ∧ Only (fun k => CTwo mb mg k ∨ ArTwo ab ag k) w w'
theorem all_node {w : World} {mb mg ab ag : Nat} {x : List Int} {cnt : Int} {st : Bool} {n : Nd} {K : Bool} (hr : nodeR (nodeW x).1 = ⟨0, false, K, Ar.nil, n⟩) (hx : x.length = 28) (hf : Fits x) (hc : cnt ≤ 1000) (M : MemAt w mb mg (oneM x cnt).cs (oneM x cnt).cnt) (A : ArAt w ab ag 3 (bornTo 1 1) st false) :
    Calls Try.prog 10 #[.pointer (some ⟨mb, 0, none⟩), .agg #[.pointer (some ⟨ab, 0, none⟩), .int .i64 65537, .int .i64 0, .int .i64 2, .pointer none]] w (NodePost w mb mg ab ag n K (nodeW x).2) := by
  obtain ⟨r1, r2⟩ := node_rs (h := 65537) (one_words hx cnt st)
  have hk := nodeW_few x
  refine (all_one hx hf hc M A (looks_node (x := wiOf 1 st) 65537 0 (by omega)) (by rw [r2]; omega) (by rw [r2]; omega)).mono ?_
  rw [r1, r2, hr]
  rintro e w' ⟨A1, c1, A2, c2, A3, c3, cnt, st, rfl, hn, _, _, _, ho⟩
  exact ⟨A1, c1, A2, c2, A3, c3, rfl, hn.here, ho⟩

set_option maxHeartbeats 4000000 in
theorem seekThings_many {v : Value} {l : List Int} (w : World) (h : Wds w v l) (hl : 60 < l.length) (hm : l.length ≤ 9223372036854775807) : Calls Try.prog 4 #[v] w fun e w' => e = .returned (.bool true) ∧ Below w.heap.size w w' := by
  have hnot : ∀ (x : Bool) (w : World), (Op.unary .not (.bool x)).run Try.prog w = .ok (.bool (!x)) w := fun _ _ => rfl
  obtain ⟨A, c, rfl⟩ := h.is
  have i1 : decide ((60 : Int) < (l.length : Int)) = true := decide_eq_true (by omega)
  clear h
  generalize l.length = n at *
  go_enter Try.func4, Try.ntmps4
  go_wp2_with fail
  refine (seek_awake _).mono ?_
  rintro e w1 ⟨rfl, hb1⟩
  have B1 := Lib.hid hb1
  clear hb1
  go_wp2_with fail
  refine (seek_awake _).mono ?_
  rintro e w2 ⟨rfl, hb2⟩
  have B2 := Lib.hid (below_then B1.out hb2 (Nat.le_refl _))
  clear hb2 B1
  go_wp2_with fail
  go_ret
  exact ⟨rfl, B2.out⟩
set_option maxRecDepth 4000 in
set_option maxHeartbeats 8000000 in
theorem seekThings_few {v : Value} {l : List Int} (w : World) (h : Wds w v l) (hf : Fits l) (hl : l.length ≤ 60) : Calls Try.prog 4 #[v] w fun e w' => e = .returned (.bool true) ∧ Below w.heap.size w w' := by
  have hnot : ∀ (x : Bool) (w : World), (Op.unary .not (.bool x)).run Try.prog w = .ok (.bool (!x)) w := fun _ _ => rfl
  have HW := Lib.hid h
  obtain ⟨A, c, rfl⟩ := h.is
  have i1 : decide ((60 : Int) < (l.length : Int)) = false := decide_eq_false (by omega)
  have WC : Hid (∀ W, Below w.heap.size w W → Calls Try.prog 8 #[.slice A l.length c] W fun e w' => ∃ q, e = .returned (.slice (some ⟨q, 0, none⟩) 28 28) ∧ Whole w' q 2 (nums (w28 l)) ∧ W.heap.size ≤ q ∧ Below W.heap.size W w') := Lib.hid (fun W hb => words_c (HW.out.still hb) hl)
  have HX := Lib.hid (w28_len l)
  have HF := Lib.hid (w28_fits hf)
  clear h hf HW
  generalize w28 l = x at *
  generalize l.length = n at *
  have HK := Lib.hid (nodeW_few x)
  obtain ⟨a, D, K, hr1, hv1⟩ := areaR_is (areaOf (eight x))
  obtain ⟨n2, K2, hr2, hl2, hp2⟩ := nodeW_is x
  have HR1 := Lib.hid hr1
  have HV1 := Lib.hid hv1
  have HR2 := Lib.hid hr2
  have HL2 := Lib.hid hl2
  have HP2 := Lib.hid hp2
  clear hr1 hv1 hr2 hl2 hp2
  go_enter Try.func4, Try.ntmps4
  go_wp2_with fail
  refine (seek_awake _).mono ?_
  rintro e w1 ⟨rfl, hb1⟩
  have B1 := Lib.hid hb1
  have W1 := Lib.hid (WC.out _ hb1)
  clear hb1 WC
  go_wp2_with fail
  refine W1.out.mono ?_
  rintro e w2 ⟨q, rfl, hq, hqs, hb2⟩
  have Q2 := Lib.hid hq
  have B2 := Lib.hid (below_then B1.out hb2 (Nat.le_refl _))
  have WD : Hid (∀ W, Whole W q 2 (nums x) → Wds W (.slice (some ⟨q, 0, none⟩) 28 28) x) := Lib.hid (fun W h => by
    have := nums_wds h (c := 28) (by rw [HX.out]; omega)
    rw [HX.out] at this
    exact this)
  have SL := Lib.hid (slots_one (wss_one (WD.out _ hq)) HX.out)
  have B3 := Lib.hid (below_then B2.out (below_new w2 (.cells #[.slice (some ⟨q, 0, none⟩) 28 28] 22)) (Nat.le_refl _))
  have Q3 := Lib.hid (hq.alloc (.cells #[.slice (some ⟨q, 0, none⟩) 28 28] 22))
  clear hq hqs hb2 W1 B1 B2 Q2
  go_wp2_with fail
  refine SL.out.mono ?_
  rintro e w3 ⟨mb, mg, ab, ag, rfl, hm, ha, m1, m2, m3, m4, hb3⟩
  have AL := Lib.hid (all_area HR1.out HX.out HF.out hm ha)
  have QL : Hid (q < (w2.alloc (.cells #[.slice (some ⟨q, 0, none⟩) 28 28] 22)).heap.size) := Lib.hid Q3.out.lt
  have Q4 := Lib.hid (Q3.out.below hb3 Q3.out.lt)
  have MM := Lib.hid (⟨m1, m2, m3, m4⟩ : _ ∧ _ ∧ _ ∧ _)
  have M0 : Hid (w.heap.size ≤ mb ∧ w.heap.size ≤ mg ∧ w.heap.size ≤ ab ∧ w.heap.size ≤ ag) := Lib.hid (by have := B3.out.size; omega)
  have B4 := Lib.hid (below_then B3.out hb3 (Nat.le_refl _))
  have RA : Hid (∀ W, Whole W q 2 (nums x) → Calls Try.prog 14 #[.slice (some ⟨q, 0, none⟩) 28 28] W fun e w' => e = .returned (.tuple #[a.v, .bool D, .bool K]) ∧ Below W.heap.size W w') := Lib.hid (fun W h => by rw [← HV1.out]; exact refAreaW_c (WD.out W h) HX.out)
  have RN : Hid (∀ W, Whole W q 2 (nums x) → Calls Try.prog 15 #[.slice (some ⟨q, 0, none⟩) 28 28] W fun e w' => NodeWPost W.heap.size w' e (nodeW x) ∧ Below W.heap.size W w') := Lib.hid (fun W h => refNodeW_c (WD.out W h) HX.out HF.out)
  clear hm ha m1 m2 m3 m4 hb3 SL B3 Q3 WD HR1 HV1
  go_wp2_with fail
  refine AL.out.mono ?_
  rintro e w4 ⟨A1, c1, A2, c2, A3, c3, cnt, st, rfl, hm, hcn, ha, ho⟩
  have B5 := Lib.hid (one_below B4.out ho M0.out.1 M0.out.2.1 M0.out.2.2.1 M0.out.2.2.2)
  have Q5 := Lib.hid (one_whole Q4.out QL.out ho MM.out.1 MM.out.2.1 MM.out.2.2.1 MM.out.2.2.2)
  have AL2 : Hid (∀ W, Below w4.heap.size w4 W → Calls Try.prog 10 #[.pointer (some ⟨mb, 0, none⟩), .agg #[.pointer (some ⟨ab, 0, none⟩), .int .i64 65537, .int .i64 0, .int .i64 2, .pointer none]] W (NodePost W mb mg ab ag n2 K2 (nodeW x).2)) := Lib.hid (fun W hb => all_node HR2.out HX.out HF.out (by omega) (hm.only (Only.of_below hb (fun _ => False)) id id) (ha.still hb))
  clear hm ha ho AL Q4 B4 HR2
  go_upto_region 6 with (fail)
  have V0 := Lib.hid (Whole.new w4 35 #[.int .i64 0, .bool D, .bool K, .int .i64 a.s, .int .i64 a.e, .int .i64 a.p, .bool a.sh, .int .i64 a.bk, .int .i64 a.off, .bool false, .int .i64 0, .slice A1 0 c1, .slice A2 0 c2, .slice A3 0 c3])
  have HB := Lib.hid (below_new w4 (.cells #[.int .i64 0, .bool D, .bool K, .int .i64 a.s, .int .i64 a.e, .int .i64 a.p, .bool a.sh, .int .i64 a.bk, .int .i64 a.off, .bool false, .int .i64 0, .slice A1 0 c1, .slice A2 0 c2, .slice A3 0 c3] 35))
  have B6 := Lib.hid (below_then B5.out HB.out (Nat.le_refl _))
  have Q6 := Lib.hid (Q5.out.below HB.out Q5.out.lt)
  clear B5 Q5
  generalize hw5 : w4.alloc (.cells #[.int .i64 0, .bool D, .bool K, .int .i64 a.s, .int .i64 a.e, .int .i64 a.p, .bool a.sh, .int .i64 a.bk, .int .i64 a.off, .bool false, .int .i64 0, .slice A1 0 c1, .slice A2 0 c2, .slice A3 0 c3] 35) = w5 at *
  generalize hqr : w4.heap.size = qr at *
  have HQR : Hid (qr ≤ w4.heap.size) := Lib.hid (by omega)
  clear hw5 hqr
  have R6 := Lib.hid (RA.out _ Q6.out)
  clear RA
  rw [area_cells] at R6
  go_wp2_with fail
  refine R6.out.mono ?_
  rintro e w6 ⟨rfl, hb6⟩
  have V0 := Lib.hid (V0.out.below hb6 V0.out.lt)
  have HB := Lib.hid (below_then HB.out hb6 HQR.out)
  have B7 := Lib.hid (below_then B6.out hb6 (Nat.le_refl _))
  have Q7 := Lib.hid (Q6.out.below hb6 Q6.out.lt)
  clear hb6 B6 Q6 R6
  go_upto_region 7 with (fail)
  have V1 := Lib.hid (Whole.new w6 31 #[.int .i64 a.s, .int .i64 a.e, .int .i64 a.p, .bool a.sh, .int .i64 a.bk, .int .i64 a.off])
  have hb := below_new w6 (.cells #[.int .i64 a.s, .int .i64 a.e, .int .i64 a.p, .bool a.sh, .int .i64 a.bk, .int .i64 a.off] 31)
  have V0 := Lib.hid (V0.out.below hb V0.out.lt)
  have HB := Lib.hid (below_then HB.out hb HQR.out)
  have B8 := Lib.hid (below_then B7.out hb (Nat.le_refl _))
  have Q8 := Lib.hid (Q7.out.below hb Q7.out.lt)
  clear hb B7 Q7
  generalize hw7 : w6.alloc (.cells #[.int .i64 a.s, .int .i64 a.e, .int .i64 a.p, .bool a.sh, .int .i64 a.bk, .int .i64 a.off] 31) = w7 at *
  generalize w6.heap.size = qa at *
  clear hw7
  obtain ⟨z0, z1, z2, z3, z4, z5, z6, z7, z8, z9, z10, z11, z12, z13⟩ := row14 V0.out
  obtain ⟨y0, y1, y2, y3, y4, y5⟩ := row6 V1.out
  have AL3 := Lib.hid (AL2.out w7 HB.out)
  clear AL2
  have j1 : ∀ b : Bool, (b != b) = false := fun b => by simp
  have j2 : ∀ b : Int, (b != b) = false := fun b => by simp
  have j3 : ∀ b : Bool, (b == b) = true := fun b => by simp
  have j4 : ∀ b : Int, (b == b) = true := fun b => by simp
  go_upto_region 9 with (fail)
  clear z0 z1 z2 z3 z4 z5 z6 z7 z8 z9 z10 z11 z12 z13 y0 y1 y2 y3 y4 y5 V0 V1 HB
  go_wp2_with fail
  refine AL3.out.mono ?_
  rintro e w8 ⟨A1, c1, A2, c2, A3, c3, rfl, hn, ho⟩
  have B9 := Lib.hid (one_below B8.out ho M0.out.1 M0.out.2.1 M0.out.2.2.1 M0.out.2.2.2)
  have Q9 := Lib.hid (one_whole Q8.out QL.out ho MM.out.1 MM.out.2.1 MM.out.2.2.1 MM.out.2.2.2)
  have N9 := Lib.hid hn
  clear hn ho AL3 B8 Q8 MM M0 QL
  go_upto_region 10 with (fail)
  have V2 := Lib.hid (Whole.new w8 35 #[.int .i64 0, .bool false, .bool K2, .int .i64 0, .int .i64 0, .int .i64 0, .bool false, .int .i64 0, .int .i64 0, .bool n2.inner, .int .i64 n2.lo, .slice A1 n2.ends.length c1, .slice A2 n2.slots.length c2, .slice A3 n2.gaps.length c3])
  have hb := below_new w8 (.cells #[.int .i64 0, .bool false, .bool K2, .int .i64 0, .int .i64 0, .int .i64 0, .bool false, .int .i64 0, .int .i64 0, .bool n2.inner, .int .i64 n2.lo, .slice A1 n2.ends.length c1, .slice A2 n2.slots.length c2, .slice A3 n2.gaps.length c3] 35)
  have B10 := Lib.hid (below_then B9.out hb (Nat.le_refl _))
  have Q10 := Lib.hid (Q9.out.below hb Q9.out.lt)
  have N10 := Lib.hid (N9.out.still hb)
  clear hb B9 Q9 N9
  generalize hw9 : w8.alloc (.cells #[.int .i64 0, .bool false, .bool K2, .int .i64 0, .int .i64 0, .int .i64 0, .bool false, .int .i64 0, .int .i64 0, .bool n2.inner, .int .i64 n2.lo, .slice A1 n2.ends.length c1, .slice A2 n2.slots.length c2, .slice A3 n2.gaps.length c3] 35) = w9 at *
  generalize w8.heap.size = qs at *
  clear hw9
  have R10 := Lib.hid (RN.out _ Q10.out)
  clear RN
  go_wp2_with fail
  refine R10.out.mono ?_
  rintro e w10 ⟨hp, hb⟩
  obtain ⟨t1, t2, t3, rfl, hmi⟩ := HP2.out _ _ _ hp
  obtain ⟨T1, d1, rfl⟩ := own_slice hmi.me
  obtain ⟨T2, d2, rfl⟩ := own_slice hmi.ms
  obtain ⟨T3, d3, rfl⟩ := own_slice hmi.mg
  have M10 := Lib.hid hmi.here
  have V2 := Lib.hid (V2.out.below hb V2.out.lt)
  have B11 := Lib.hid (below_then B10.out hb (Nat.le_refl _))
  have N11 := Lib.hid (N10.out.still hb)
  clear hb hp hmi B10 Q10 R10 N10
  unfold Nd.val
  go_upto_region 11 with (fail)
  have V3 := Lib.hid (Whole.new w10 33 #[.bool n2.inner, .int .i64 n2.lo, .slice T1 n2.ends.length d1, .slice T2 n2.slots.length d2, .slice T3 n2.gaps.length d3])
  have hb := below_new w10 (.cells #[.bool n2.inner, .int .i64 n2.lo, .slice T1 n2.ends.length d1, .slice T2 n2.slots.length d2, .slice T3 n2.gaps.length d3] 33)
  have V2 := Lib.hid (V2.out.below hb V2.out.lt)
  have B12 := Lib.hid (below_then B11.out hb (Nat.le_refl _))
  have CS := Lib.hid (sameN_c (N11.out.still hb) (M10.out.still hb) (by have := HL2.out; omega) (by have := HL2.out; omega) (by have := HL2.out; omega) (r := true) ⟨fun _ => rfl, fun _ => rfl⟩)
  clear hb B11 N11 M10
  generalize hw11 : w10.alloc (.cells #[.bool n2.inner, .int .i64 n2.lo, .slice T1 n2.ends.length d1, .slice T2 n2.slots.length d2, .slice T3 n2.gaps.length d3] 33) = w11 at *
  generalize w10.heap.size = qn at *
  clear hw11
  unfold Nd.val at CS
  generalize n2.ends.length = L1 at *
  generalize n2.slots.length = L2 at *
  generalize n2.gaps.length = L3 at *
  obtain ⟨z0, z1, z2, z3, z4, z5, z6, z7, z8, z9, z10, z11, z12, z13⟩ := row14 V2.out
  obtain ⟨y0, y1, y2, y3, y4⟩ := row5 V3.out
  go_wp2_with fail
  refine CS.out.mono ?_
  rintro e w12 ⟨rfl, hb⟩
  have B13 := Lib.hid (below_then B12.out hb (Nat.le_refl _))
  clear hb CS B12
  go_wp2_with fail
  go_ret
  exact ⟨rfl, B13.out⟩
theorem seekThings_any {v : Value} {l : List Int} (w : World) (h : Wds w v l) (hf : Fits l) (hm : l.length ≤ 9223372036854775807) : Calls Try.prog 4 #[v] w fun e w' => e = .returned (.bool true) ∧ Below w.heap.size w w' := by
  by_cases hl : l.length ≤ 60
  · exact seekThings_few w h hf hl
  · exact seekThings_many w h (by omega) hm
end Go.Proofs.Ytiiclmaphiajmaa
