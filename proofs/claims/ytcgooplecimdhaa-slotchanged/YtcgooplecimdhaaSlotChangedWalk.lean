/-
  Layer 15: one word otherwise. (Written by gen/SlLaws.py.)
-/
import Derived.Test.YtcgooplecimdhaaPkWi
import Derived.Test.YtcgooplecimdhaaPkWj
import Derived.Deep.LoopGhost
import Derived.Deep.RegionHeld3
import Derived.BigQuiet
namespace Go.Proofs.Ytcgooplecimdhaa
open Go.ChangeShapes Go.WideShapes Go.ChangeAt Go.RowKit
set_option linter.unusedVariables false

theorem row2 {w : World} {q : Nat} {t : TypeId} {a b : Value} (h : Whole w q t #[a, b]) : w.cell? ⟨q, 0, none⟩ = some a ∧ w.cell? ⟨q, 1, none⟩ = some b := ⟨h.cell 0, h.cell 1⟩

set_option maxRecDepth 4000 in
set_option maxHeartbeats 8000000 in
theorem changed_many {n : Nd} {x y z : Value} {p v : Int} {a : Ar} (w : World) (h : NdIn w n x y z) (hw : ¬ Few n) :
    Calls Try.prog 6 #[n.val x y z, .agg #[.int .i64 p, .int .i64 v], a.v] w fun e w' => e = .returned (.bool true) ∧ Below w.heap.size w w' := by
  have hr : Tells false (Few n) := ⟨(fun e => by cases e), fun f => absurd f hw⟩
  obtain ⟨A1, c1, rfl⟩ := h.we.is
  obtain ⟨A2, c2, rfl⟩ := h.ws.is
  obtain ⟨A3, c3, rfl⟩ := h.wg.is
  have W0 := Lib.hid sl_awake
  have G := Lib.hid ((((Bag.new w).add 24 #[.bool n.inner, .int .i64 n.lo, .slice A1 n.ends.length c1, .slice A2 n.slots.length c2, .slice A3 n.gaps.length c3]).add 41 #[.int .i64 p, .int .i64 v]).add 34 a.cells)
  have HN := Lib.hid (h.still G.out.bel)
  rw [World.size_alloc, World.size_alloc] at G
  have CW : Hid (∀ W, NdIn W n (.slice A1 n.ends.length c1) (.slice A2 n.slots.length c2) (.slice A3 n.gaps.length c3) → Calls Try.prog 9 #[.agg #[.bool n.inner, .int .i64 n.lo, .slice A1 n.ends.length c1, .slice A2 n.slots.length c2, .slice A3 n.gaps.length c3]] W fun e w' => e = .returned (.bool false) ∧ Below W.heap.size W w') := Lib.hid (fun W h => few_c h (r := false) hr)
  clear h hr hw
  obtain ⟨s, t, pr, sh, bk, off⟩ := a
  unfold Ar.v Ar.cells at *
  unfold Nd.val
  simp only at *
  go_enter Try.func6, Try.ntmps6
  obtain ⟨e0, e1, e2, e3, e4, e5⟩ := row6 G.out.v0
  obtain ⟨t0, t1⟩ := row2 G.out.v1
  obtain ⟨d0, d1, d2, d3, d4⟩ := row5 G.out.v2
  go_wp2_with fail
  go_quiet (fail)
  have G := Lib.hid (G.out.drewN nq)
  have HN := Lib.hid (HN.out.still (below_drewN (Below.refl _ _) nq))
  clear e0 e1 e2 e3 e4 e5 t0 t1 d0 d1 d2 d3 d4
  obtain ⟨e0, e1, e2, e3, e4, e5⟩ := row6 G.out.v0
  obtain ⟨t0, t1⟩ := row2 G.out.v1
  obtain ⟨d0, d1, d2, d3, d4⟩ := row5 G.out.v2
  go_wp2_with fail
  refine (W0.out _).mono ?_
  rintro e w1 ⟨rfl, hb⟩
  have G := Lib.hid (G.out.still hb)
  have HN := Lib.hid (HN.out.still hb)
  clear hb
  clear e0 e1 e2 e3 e4 e5 t0 t1 d0 d1 d2 d3 d4
  obtain ⟨e0, e1, e2, e3, e4, e5⟩ := row6 G.out.v0
  obtain ⟨t0, t1⟩ := row2 G.out.v1
  obtain ⟨d0, d1, d2, d3, d4⟩ := row5 G.out.v2
  go_wp2_with fail
  refine (CW.out _ HN.out).mono ?_
  rintro e w2 ⟨rfl, hb⟩
  have G := Lib.hid (G.out.still hb)
  have HN := Lib.hid (HN.out.still hb)
  clear hb CW
  clear e0 e1 e2 e3 e4 e5 t0 t1 d0 d1 d2 d3 d4
  obtain ⟨e0, e1, e2, e3, e4, e5⟩ := row6 G.out.v0
  obtain ⟨t0, t1⟩ := row2 G.out.v1
  obtain ⟨d0, d1, d2, d3, d4⟩ := row5 G.out.v2
  go_wp2_with fail
  refine (W0.out _).mono ?_
  rintro e w3 ⟨rfl, hb⟩
  have G := Lib.hid (G.out.still hb)
  have HN := Lib.hid (HN.out.still hb)
  clear hb
  clear e0 e1 e2 e3 e4 e5 t0 t1 d0 d1 d2 d3 d4
  obtain ⟨e0, e1, e2, e3, e4, e5⟩ := row6 G.out.v0
  obtain ⟨t0, t1⟩ := row2 G.out.v1
  obtain ⟨d0, d1, d2, d3, d4⟩ := row5 G.out.v2
  go_wp2_with fail
  go_ret
  exact ⟨rfl, G.out.bel⟩

set_option maxRecDepth 4000 in
set_option maxHeartbeats 8000000 in
theorem changed_few {n : Nd} {x y z : Value} {p v : Int} {a : Ar} (w : World) (h : NdIn w n x y z) (hw : Few n) (fs : Fits n.slots) (hv : -9223372036854775808 ≤ v ∧ v ≤ 9223372036854775807) :
    Calls Try.prog 6 #[n.val x y z, .agg #[.int .i64 p, .int .i64 v], a.v] w fun e w' => e = .returned (.bool true) ∧ Below w.heap.size w w' := by
  have hr : Tells true (Few n) := ⟨fun _ => hw, fun _ => rfl⟩
  have HN0 := Lib.hid h
  obtain ⟨A1, c1, rfl⟩ := h.we.is
  obtain ⟨A2, c2, rfl⟩ := h.ws.is
  obtain ⟨A3, c3, rfl⟩ := h.wg.is
  have W0 := Lib.hid sl_awake
  have G := Lib.hid ((((Bag.new w).add 24 #[.bool n.inner, .int .i64 n.lo, .slice A1 n.ends.length c1, .slice A2 n.slots.length c2, .slice A3 n.gaps.length c3]).add 41 #[.int .i64 p, .int .i64 v]).add 34 a.cells)
  have HN := Lib.hid (h.still G.out.bel)
  rw [World.size_alloc, World.size_alloc] at G
  have CW : Hid (∀ W, NdIn W n (.slice A1 n.ends.length c1) (.slice A2 n.slots.length c2) (.slice A3 n.gaps.length c3) → Calls Try.prog 9 #[.agg #[.bool n.inner, .int .i64 n.lo, .slice A1 n.ends.length c1, .slice A2 n.slots.length c2, .slice A3 n.gaps.length c3]] W fun e w' => e = .returned (.bool true) ∧ Below W.heap.size W w') := Lib.hid (fun W h => few_c h (r := true) hr)
  have HN0 := HN0
  obtain ⟨r, hq⟩ := tells_any (NdF n)
  have CP : Hid (∀ W, NdIn W n (.slice A1 n.ends.length c1) (.slice A2 n.slots.length c2) (.slice A3 n.gaps.length c3) → Calls Try.prog 10 #[.agg #[.bool n.inner, .int .i64 n.lo, .slice A1 n.ends.length c1, .slice A2 n.slots.length c2, .slice A3 n.gaps.length c3]] W fun e w' => ∃ v', e = .returned v' ∧ Mw W.heap.size w' v' (wordsN r n) ∧ Below W.heap.size W w') := Lib.hid (fun W h => pack_c h hq)
  have CX : Hid (∀ W, Calls Try.prog 21 #[a.v, .bool false] W fun e w' => ∃ v', e = .returned v' ∧ Mw W.heap.size w' v' (wordsA a false) ∧ Below W.heap.size W w') := Lib.hid (fun W => packA_c a false W)
  have CN : Hid (∀ W m x y z, (m : Nd).ends.length ≤ 8 ∧ m.slots.length ≤ 8 ∧ m.gaps.length ≤ 8 → m ≠ n → NdIn W m x y z → NdIn W n (.slice A1 n.ends.length c1) (.slice A2 n.slots.length c2) (.slice A3 n.gaps.length c3) → Calls Try.prog 17 #[m.val x y z, .agg #[.bool n.inner, .int .i64 n.lo, .slice A1 n.ends.length c1, .slice A2 n.slots.length c2, .slice A3 n.gaps.length c3]] W fun e w' => e = .returned (.bool false) ∧ Below W.heap.size W w') := Lib.hid (fun W m x y z hm hne k h => sameN_c k h (by omega) (by omega) (by omega) (r := false) ⟨(fun e => by cases e), fun e => absurd e hne⟩)
  have HF := Lib.hid (show r = true → NdF n from hq.1)
  have HFS := Lib.hid fs
  have HV := Lib.hid hv
  have hu0 : 0 ≤ p % 256 := by omega
  have hu1 : p % 256 < 256 := by omega
  have hu2 : IntKind.i64.wrap (p % 256) = p % 256 := by rw [IntKind.wrap_i64]; omega
  obtain ⟨I, hI⟩ : ∃ I : Nat, p % 256 % 28 = (I : Int) := ⟨(p % 256 % 28).toNat, by omega⟩
  have hI0 : (0 : Int) ≤ (I : Int) := by omega
  have hI1 : (I : Int) < 28 := by omega
  have hI2 : I < 28 := by omega
  have hIm : (p % 256).tmod 28 = (I : Int) := by rw [Int.tmod_eq_emod_of_nonneg hu0, hI]
  clear h hr hw hq fs hv
  have HWA : Hid (wordsA a false = [] ∨ wordsA a false = packA a false) := Lib.hid (by unfold wordsA; by_cases hf : Formed a; (· rw [if_pos hf]; exact .inr rfl); (· rw [if_neg hf]; exact .inl rfl))
  have HPL := Lib.hid (packA_len a false)
  have HPA : Hid (∀ b d, b = a → d = false → packA b d = packA a false) := Lib.hid (fun b d e f => by rw [e, f])
  generalize packA a false = pa at *
  generalize wordsA a false = l2 at *
  obtain ⟨s, t, pr, sh, bk, off⟩ := a
  unfold Ar.v Ar.cells at *
  unfold Nd.val
  simp only at *
  go_enter Try.func6, Try.ntmps6
  obtain ⟨e0, e1, e2, e3, e4, e5⟩ := row6 G.out.v0
  obtain ⟨t0, t1⟩ := row2 G.out.v1
  obtain ⟨d0, d1, d2, d3, d4⟩ := row5 G.out.v2
  go_wp2_with fail
  go_quiet (fail)
  have G := Lib.hid (G.out.drewN nq)
  have HN := Lib.hid (HN.out.still (below_drewN (Below.refl _ _) nq))
  clear e0 e1 e2 e3 e4 e5 t0 t1 d0 d1 d2 d3 d4
  obtain ⟨e0, e1, e2, e3, e4, e5⟩ := row6 G.out.v0
  obtain ⟨t0, t1⟩ := row2 G.out.v1
  obtain ⟨d0, d1, d2, d3, d4⟩ := row5 G.out.v2
  go_wp2_with fail
  refine (W0.out _).mono ?_
  rintro e w1 ⟨rfl, hb⟩
  have G := Lib.hid (G.out.still hb)
  have HN := Lib.hid (HN.out.still hb)
  clear hb
  clear e0 e1 e2 e3 e4 e5 t0 t1 d0 d1 d2 d3 d4
  obtain ⟨e0, e1, e2, e3, e4, e5⟩ := row6 G.out.v0
  obtain ⟨t0, t1⟩ := row2 G.out.v1
  obtain ⟨d0, d1, d2, d3, d4⟩ := row5 G.out.v2
  go_wp2_with fail
  refine (CW.out _ HN.out).mono ?_
  rintro e w2 ⟨rfl, hb⟩
  have G := Lib.hid (G.out.still hb)
  have HN := Lib.hid (HN.out.still hb)
  clear hb CW W0
  clear e0 e1 e2 e3 e4 e5 t0 t1 d0 d1 d2 d3 d4
  obtain ⟨e0, e1, e2, e3, e4, e5⟩ := row6 G.out.v0
  obtain ⟨t0, t1⟩ := row2 G.out.v1
  obtain ⟨d0, d1, d2, d3, d4⟩ := row5 G.out.v2
  clear e0 e1 e2 e3 e4 e5 t0 t1 d0 d1 d2 d3 d4
  have HK : Hid (∀ W, Below w2.heap.size w2 W → (W.cell? ⟨w.heap.size, 0, none⟩ = some (.bool n.inner) ∧ W.cell? ⟨w.heap.size, 1, none⟩ = some (.int .i64 n.lo) ∧ W.cell? ⟨w.heap.size, 2, none⟩ = some (.slice A1 n.ends.length c1) ∧ W.cell? ⟨w.heap.size, 3, none⟩ = some (.slice A2 n.slots.length c2) ∧ W.cell? ⟨w.heap.size, 4, none⟩ = some (.slice A3 n.gaps.length c3) ∧ W.cell? ⟨w.heap.size + 1 + 1, 0, none⟩ = some (.int .i64 s) ∧ W.cell? ⟨w.heap.size + 1 + 1, 1, none⟩ = some (.int .i64 t) ∧ W.cell? ⟨w.heap.size + 1 + 1, 2, none⟩ = some (.int .i64 pr) ∧ W.cell? ⟨w.heap.size + 1 + 1, 3, none⟩ = some (.bool sh) ∧ W.cell? ⟨w.heap.size + 1 + 1, 4, none⟩ = some (.int .i64 bk) ∧ W.cell? ⟨w.heap.size + 1 + 1, 5, none⟩ = some (.int .i64 off))) := Lib.hid (fun W h => by
    obtain ⟨d0, d1, d2, d3, d4⟩ := row5 ((G.out.still h).v2)
    obtain ⟨e0, e1, e2, e3, e4, e5⟩ := row6 ((G.out.still h).v0)
    exact ⟨d0, d1, d2, d3, d4, e0, e1, e2, e3, e4, e5⟩)
  have KN := Lib.hid (fun W h => HN.out.still (w' := W) h)
  have BB := Lib.hid (below_drew (Below.refl w2.heap.size w2))
  obtain ⟨e0, e1, e2, e3, e4, e5⟩ := row6 G.out.v0
  obtain ⟨t0, t1⟩ := row2 G.out.v1
  obtain ⟨d0, d1, d2, d3, d4⟩ := row5 G.out.v2
  go_wp2_with fail
  clear e0 e1 e2 e3 e4 e5 t0 t1 d0 d1 d2 d3 d4
  go_region_held3 (fun W => W.cell? ⟨w.heap.size, 0, none⟩ = some (.bool n.inner) ∧ W.cell? ⟨w.heap.size, 1, none⟩ = some (.int .i64 n.lo) ∧ W.cell? ⟨w.heap.size, 2, none⟩ = some (.slice A1 n.ends.length c1) ∧ W.cell? ⟨w.heap.size, 3, none⟩ = some (.slice A2 n.slots.length c2) ∧ W.cell? ⟨w.heap.size, 4, none⟩ = some (.slice A3 n.gaps.length c3) ∧ W.cell? ⟨w.heap.size + 1 + 1, 0, none⟩ = some (.int .i64 s) ∧ W.cell? ⟨w.heap.size + 1 + 1, 1, none⟩ = some (.int .i64 t) ∧ W.cell? ⟨w.heap.size + 1 + 1, 2, none⟩ = some (.int .i64 pr) ∧ W.cell? ⟨w.heap.size + 1 + 1, 3, none⟩ = some (.bool sh) ∧ W.cell? ⟨w.heap.size + 1 + 1, 4, none⟩ = some (.int .i64 bk) ∧ W.cell? ⟨w.heap.size + 1 + 1, 5, none⟩ = some (.int .i64 off))
    (first | with_reducible exact HK.out _ BB.out)
    (first
    | (go_at_call 10; refine (CP.out _ (KN.out _ BB.out)).mono ?_; rintro e wn ⟨vp, rfl, hm, hb⟩; have SB := Lib.hid BB.out.size; have BB := Lib.hid (below_then BB.out hb (Nat.le_refl _)); have M1 := Lib.hid (hm.base' SB.out); clear hb hm CP)
    | (go_at_call 21; have B9 := BB; refine (CX.out _).mono ?_; rintro e wo ⟨vx, rfl, hm, hb⟩; have BB := Lib.hid (below_then BB.out hb (Nat.le_refl _)); have N12 := Lib.hid (apart_new M1.out hm (Nat.le_refl _)); have M1 := Lib.hid (M1.out.still hb); have M2 := Lib.hid (hm.base' B9.out.size); clear hb hm CX)
    | fail)
  all_goals
    have LA := Lib.hid G.out.bel.size
    have G := Lib.hid (G.out.still BB.out)
    have HN := Lib.hid (HN.out.still BB.out)
    rename_i hs
    clear hs BB HK KN SB B9
    obtain ⟨e0, e1, e2, e3, e4, e5⟩ := row6 G.out.v0
    obtain ⟨t0, t1⟩ := row2 G.out.v1
    obtain ⟨d0, d1, d2, d3, d4⟩ := row5 G.out.v2
    have HL : Hid (∀ W l, Mw w2.heap.size W vx l → l = l2 → True) := Lib.hid (fun _ _ _ _ => trivial)
    rcases HWA.out with e2 | e2
    · subst e2
      obtain ⟨Ax, cx, rfl⟩ := M2.out.wds.is
      simp only [List.length_nil] at *
      cases r with
      | false =>
        have M1 : Hid (Mw w2.heap.size wo vp []) := M1
        obtain ⟨Av, cv, rfl⟩ := M1.out.wds.is
        simp only [List.length_nil] at *
        go_wp2_with fail
        go_ret
        exact ⟨rfl, G.out.bel⟩
      | true =>
        have M1 : Hid (Mw w2.heap.size wo vp (packN n)) := M1
        have hn := HF.out rfl
        have HLN := Lib.hid (pack_len hn.cnt)
        have HFN := Lib.hid (fits_pack hn HFS.out)
        have HPN : Hid (∀ m : Nd, m = n → packN m = packN n) := Lib.hid (fun m e => by rw [e])
        clear hn
        generalize packN n = l1 at *
        obtain ⟨g, cg, rfl, _, _⟩ := form28 M1.out HLN.out
        have HG : Hid (Value.ownBlock (.slice Ax 0 cx) ≠ some g) := Lib.hid (N12.out g rfl)
        obtain ⟨y0, y1⟩ := own_cell M1.out HLN.out I hI2
        by_cases he : nth l1 I = v
        · rw [he] at y0
          go_wp2_with fail
          go_ret
          exact ⟨rfl, G.out.bel⟩
        · have hbn : (nth l1 I != v) = true := by simpa using he
          generalize hold : nth l1 I = old at *
          go_wp2_with fail
          have M9 := Lib.hid (own_set M1.out HLN.out I v)
          have M2 : Hid (Mw w2.heap.size (wo.setCell ⟨g, I, none⟩ (.int .i64 v)) _ _) := Lib.hid (own_far (p := ⟨g, I, none⟩) M2.out HG.out (.int .i64 v))
          have G := Lib.hid (bag_row G.out M1.out LA.out (by intro e he; simp at he; rcases he with rfl | rfl | rfl; (· show 2 ≠ 34; decide); (· show 2 ≠ 41; decide); (· show 2 ≠ 24; decide)) I (.int .i64 v))
          have HN := Lib.hid (HN0.out.still G.out.bel)
          refine (unp_other (fits_set HFN.out I HV.out.1 HV.out.2) M9.out (by rw [List.length_set, HLN.out]; omega)).mono ?_
          rintro e w3 ⟨⟨m, mx_, my_, mz_, ok, rfl, hok, hM⟩, hb⟩
          have HM := Lib.hid hM
          obtain ⟨B1, b1, rfl⟩ := hM.we.is
          obtain ⟨B2, b2, rfl⟩ := hM.ws.is
          obtain ⟨B3, b3, rfl⟩ := hM.wg.is
          clear hM
          have HOK := Lib.hid hok
          clear hok
          unfold Nd.val
          have G := Lib.hid (G.out.still hb)
          have HN := Lib.hid (HN.out.still hb)
          have M2 := Lib.hid (M2.out.still hb)
          clear hb M9 y0 y1 M1
          clear e0 e1 e2 e3 e4 e5 t0 t1 d0 d1 d2 d3 d4
          obtain ⟨e0, e1, e2, e3, e4, e5⟩ := row6 G.out.v0
          obtain ⟨t0, t1⟩ := row2 G.out.v1
          obtain ⟨d0, d1, d2, d3, d4⟩ := row5 G.out.v2
          clear e0 e1 e2 e3 e4 e5 t0 t1 d0 d1 d2 d3 d4
          have G := Lib.hid (G.out.still (below_new _ (.cells #[.bool m.inner, .int .i64 m.lo, .slice B1 m.ends.length b1, .slice B2 m.slots.length b2, .slice B3 m.gaps.length b3] 24)))
          have HN := Lib.hid (HN.out.still (below_new _ (.cells #[.bool m.inner, .int .i64 m.lo, .slice B1 m.ends.length b1, .slice B2 m.slots.length b2, .slice B3 m.gaps.length b3] 24)))
          have M2 := Lib.hid (M2.out.still (below_new _ (.cells #[.bool m.inner, .int .i64 m.lo, .slice B1 m.ends.length b1, .slice B2 m.slots.length b2, .slice B3 m.gaps.length b3] 24)))
          have HM := Lib.hid (HM.out.still (below_new _ (.cells #[.bool m.inner, .int .i64 m.lo, .slice B1 m.ends.length b1, .slice B2 m.slots.length b2, .slice B3 m.gaps.length b3] 24)))
          obtain ⟨e0, e1, e2, e3, e4, e5⟩ := row6 G.out.v0
          obtain ⟨t0, t1⟩ := row2 G.out.v1
          obtain ⟨d0, d1, d2, d3, d4⟩ := row5 G.out.v2
          cases ok with
          | false =>
            go_wp2_with fail
            go_ret
            exact ⟨rfl, G.out.bel⟩
          | true =>
            have HMC : Hid (m.ends.length ≤ 8 ∧ m.slots.length ≤ 8 ∧ m.gaps.length ≤ 8) := Lib.hid (by have h := (HOK.out rfl).1.cnt; have := h.few; have := h.sl; have := h.gl; omega)
            have HMN : Hid (m ≠ n) := Lib.hid (fun e => set_other (by rw [HLN.out]; exact hI2) (by rw [hold]; exact he) ((HOK.out rfl).2.symm.trans (HPN.out m e)))
            clear HOK
            go_wp2_with fail
            refine (CN.out _ _ _ _ _ HMC.out HMN.out HM.out HN.out).mono ?_
            rintro e w4 ⟨rfl, hb⟩
            have G := Lib.hid (G.out.still hb)
            have HN := Lib.hid (HN.out.still hb)
            have M2 := Lib.hid (M2.out.still hb)
            clear hb
            clear e0 e1 e2 e3 e4 e5 t0 t1 d0 d1 d2 d3 d4
            obtain ⟨e0, e1, e2, e3, e4, e5⟩ := row6 G.out.v0
            obtain ⟨t0, t1⟩ := row2 G.out.v1
            obtain ⟨d0, d1, d2, d3, d4⟩ := row5 G.out.v2
            go_wp2_with fail
            go_ret
            exact ⟨rfl, G.out.bel⟩
    · subst e2
      obtain ⟨gx, cx, rfl, _, _⟩ := form28 M2.out HPL.out
      cases r with
      | false =>
        have M1 : Hid (Mw w2.heap.size wo vp []) := M1
        obtain ⟨Av, cv, rfl⟩ := M1.out.wds.is
        simp only [List.length_nil] at *
        obtain ⟨x0, x1⟩ := own_cell M2.out HPL.out I hI2
        by_cases he2 : nth l2 I = v
        · rw [he2] at x0
          go_wp2_with fail
          go_ret
          exact ⟨rfl, G.out.bel⟩
        · have hb2 : (nth l2 I != v) = true := by simpa using he2
          generalize hold2 : nth l2 I = old2 at *
          go_wp2_with fail
          have M9 := Lib.hid (own_set M2.out HPL.out I v)
          have G := Lib.hid (bag_row G.out M2.out LA.out (by intro e he; simp at he; rcases he with rfl | rfl | rfl; (· show 2 ≠ 34; decide); (· show 2 ≠ 41; decide); (· show 2 ≠ 24; decide)) I (.int .i64 v))
          refine (unpA_other M9.out (by rw [List.length_set, HPL.out]; omega)).mono ?_
          rintro e w3 ⟨⟨b, dd, ok2, rfl, hok2⟩, hb⟩
          obtain ⟨s9, t9, p9, h9, b9, o9⟩ := b
          have hne : ¬ ((s9 = s ∧ t9 = t ∧ p9 = pr ∧ h9 = sh ∧ b9 = bk ∧ o9 = off) ∧ dd = false ∧ ok2 = true) := by
            rintro ⟨⟨rfl, rfl, rfl, rfl, rfl, rfl⟩, rfl, rfl⟩
            have h1 := (hok2 rfl).2
            rw [HPA.out _ _ rfl rfl] at h1
            exact set_other (by rw [HPL.out]; exact hI2) (by rw [hold2]; exact he2) h1.symm
          clear hok2
          have HNE := Lib.hid hne
          clear hne
          unfold Ar.v
          simp only
          have G := Lib.hid (G.out.still hb)
          clear hb M9 M2
          clear e0 e1 e2 e3 e4 e5 t0 t1 d0 d1 d2 d3 d4
          obtain ⟨e0, e1, e2, e3, e4, e5⟩ := row6 G.out.v0
          obtain ⟨t0, t1⟩ := row2 G.out.v1
          obtain ⟨d0, d1, d2, d3, d4⟩ := row5 G.out.v2
          clear e0 e1 e2 e3 e4 e5 t0 t1 d0 d1 d2 d3 d4
          have GB := Lib.hid (fun (o : Obj) => (G.out.still (below_new _ o)).bel)
          have G := Lib.hid (G.out.still (below_new _ (.cells #[.int .i64 s9, .int .i64 t9, .int .i64 p9, .bool h9, .int .i64 b9, .int .i64 o9] 34)))
          obtain ⟨e0, e1, e2, e3, e4, e5⟩ := row6 G.out.v0
          obtain ⟨t0, t1⟩ := row2 G.out.v1
          obtain ⟨d0, d1, d2, d3, d4⟩ := row5 G.out.v2
          cases ok2 with
          | false =>
            go_wp2_with fail
            go_ret
            exact ⟨rfl, G.out.bel⟩
          | true =>
            go_wp2
            all_goals
              go_ret
              first
              | exact ⟨rfl, GB.out _⟩
              | (exfalso; rename_i hd; exact HNE.out ⟨⟨by assumption, by assumption, by assumption, by assumption, by assumption, by assumption⟩, by simpa using hd, trivial⟩)
      | true =>
        have M1 : Hid (Mw w2.heap.size wo vp (packN n)) := M1
        have hn := HF.out rfl
        have HLN := Lib.hid (pack_len hn.cnt)
        have HFN := Lib.hid (fits_pack hn HFS.out)
        have HPN : Hid (∀ m : Nd, m = n → packN m = packN n) := Lib.hid (fun m e => by rw [e])
        clear hn
        generalize packN n = l1 at *
        obtain ⟨g, cg, rfl, _, _⟩ := form28 M1.out HLN.out
        have HG : Hid (Value.ownBlock (.slice (some ⟨gx, 0, none⟩) 28 cx) ≠ some g) := Lib.hid (N12.out g rfl)
        obtain ⟨y0, y1⟩ := own_cell M1.out HLN.out I hI2
        by_cases he : nth l1 I = v
        · rw [he] at y0
          obtain ⟨x0, x1⟩ := own_cell M2.out HPL.out I hI2
          by_cases he2 : nth l2 I = v
          · rw [he2] at x0
            go_wp2_with fail
            go_ret
            exact ⟨rfl, G.out.bel⟩
          · have hb2 : (nth l2 I != v) = true := by simpa using he2
            generalize hold2 : nth l2 I = old2 at *
            go_wp2_with fail
            have M9 := Lib.hid (own_set M2.out HPL.out I v)
            have G := Lib.hid (bag_row G.out M2.out LA.out (by intro e he; simp at he; rcases he with rfl | rfl | rfl; (· show 2 ≠ 34; decide); (· show 2 ≠ 41; decide); (· show 2 ≠ 24; decide)) I (.int .i64 v))
            refine (unpA_other M9.out (by rw [List.length_set, HPL.out]; omega)).mono ?_
            rintro e w3 ⟨⟨b, dd, ok2, rfl, hok2⟩, hb⟩
            obtain ⟨s9, t9, p9, h9, b9, o9⟩ := b
            have hne : ¬ ((s9 = s ∧ t9 = t ∧ p9 = pr ∧ h9 = sh ∧ b9 = bk ∧ o9 = off) ∧ dd = false ∧ ok2 = true) := by
              rintro ⟨⟨rfl, rfl, rfl, rfl, rfl, rfl⟩, rfl, rfl⟩
              have h1 := (hok2 rfl).2
              rw [HPA.out _ _ rfl rfl] at h1
              exact set_other (by rw [HPL.out]; exact hI2) (by rw [hold2]; exact he2) h1.symm
            clear hok2
            have HNE := Lib.hid hne
            clear hne
            unfold Ar.v
            simp only
            have G := Lib.hid (G.out.still hb)
            clear hb M9 M2
            clear e0 e1 e2 e3 e4 e5 t0 t1 d0 d1 d2 d3 d4
            obtain ⟨e0, e1, e2, e3, e4, e5⟩ := row6 G.out.v0
            obtain ⟨t0, t1⟩ := row2 G.out.v1
            obtain ⟨d0, d1, d2, d3, d4⟩ := row5 G.out.v2
            clear e0 e1 e2 e3 e4 e5 t0 t1 d0 d1 d2 d3 d4
            have GB := Lib.hid (fun (o : Obj) => (G.out.still (below_new _ o)).bel)
            have G := Lib.hid (G.out.still (below_new _ (.cells #[.int .i64 s9, .int .i64 t9, .int .i64 p9, .bool h9, .int .i64 b9, .int .i64 o9] 34)))
            obtain ⟨e0, e1, e2, e3, e4, e5⟩ := row6 G.out.v0
            obtain ⟨t0, t1⟩ := row2 G.out.v1
            obtain ⟨d0, d1, d2, d3, d4⟩ := row5 G.out.v2
            cases ok2 with
            | false =>
              go_wp2_with fail
              go_ret
              exact ⟨rfl, G.out.bel⟩
            | true =>
              go_wp2
              all_goals
                go_ret
                first
                | exact ⟨rfl, GB.out _⟩
                | (exfalso; rename_i hd; exact HNE.out ⟨⟨by assumption, by assumption, by assumption, by assumption, by assumption, by assumption⟩, by simpa using hd, trivial⟩)
        · have hbn : (nth l1 I != v) = true := by simpa using he
          generalize hold : nth l1 I = old at *
          go_wp2_with fail
          have M9 := Lib.hid (own_set M1.out HLN.out I v)
          have M2 : Hid (Mw w2.heap.size (wo.setCell ⟨g, I, none⟩ (.int .i64 v)) _ _) := Lib.hid (own_far (p := ⟨g, I, none⟩) M2.out HG.out (.int .i64 v))
          have G := Lib.hid (bag_row G.out M1.out LA.out (by intro e he; simp at he; rcases he with rfl | rfl | rfl; (· show 2 ≠ 34; decide); (· show 2 ≠ 41; decide); (· show 2 ≠ 24; decide)) I (.int .i64 v))
          have HN := Lib.hid (HN0.out.still G.out.bel)
          refine (unp_other (fits_set HFN.out I HV.out.1 HV.out.2) M9.out (by rw [List.length_set, HLN.out]; omega)).mono ?_
          rintro e w3 ⟨⟨m, mx_, my_, mz_, ok, rfl, hok, hM⟩, hb⟩
          have HM := Lib.hid hM
          obtain ⟨B1, b1, rfl⟩ := hM.we.is
          obtain ⟨B2, b2, rfl⟩ := hM.ws.is
          obtain ⟨B3, b3, rfl⟩ := hM.wg.is
          clear hM
          have HOK := Lib.hid hok
          clear hok
          unfold Nd.val
          have G := Lib.hid (G.out.still hb)
          have HN := Lib.hid (HN.out.still hb)
          have M2 := Lib.hid (M2.out.still hb)
          clear hb M9 y0 y1 M1
          clear e0 e1 e2 e3 e4 e5 t0 t1 d0 d1 d2 d3 d4
          obtain ⟨e0, e1, e2, e3, e4, e5⟩ := row6 G.out.v0
          obtain ⟨t0, t1⟩ := row2 G.out.v1
          obtain ⟨d0, d1, d2, d3, d4⟩ := row5 G.out.v2
          clear e0 e1 e2 e3 e4 e5 t0 t1 d0 d1 d2 d3 d4
          have G := Lib.hid (G.out.still (below_new _ (.cells #[.bool m.inner, .int .i64 m.lo, .slice B1 m.ends.length b1, .slice B2 m.slots.length b2, .slice B3 m.gaps.length b3] 24)))
          have HN := Lib.hid (HN.out.still (below_new _ (.cells #[.bool m.inner, .int .i64 m.lo, .slice B1 m.ends.length b1, .slice B2 m.slots.length b2, .slice B3 m.gaps.length b3] 24)))
          have M2 := Lib.hid (M2.out.still (below_new _ (.cells #[.bool m.inner, .int .i64 m.lo, .slice B1 m.ends.length b1, .slice B2 m.slots.length b2, .slice B3 m.gaps.length b3] 24)))
          have HM := Lib.hid (HM.out.still (below_new _ (.cells #[.bool m.inner, .int .i64 m.lo, .slice B1 m.ends.length b1, .slice B2 m.slots.length b2, .slice B3 m.gaps.length b3] 24)))
          obtain ⟨e0, e1, e2, e3, e4, e5⟩ := row6 G.out.v0
          obtain ⟨t0, t1⟩ := row2 G.out.v1
          obtain ⟨d0, d1, d2, d3, d4⟩ := row5 G.out.v2
          cases ok with
          | false =>
            obtain ⟨x0, x1⟩ := own_cell M2.out HPL.out I hI2
            by_cases he2 : nth l2 I = v
            · rw [he2] at x0
              go_wp2_with fail
              go_ret
              exact ⟨rfl, G.out.bel⟩
            · have hb2 : (nth l2 I != v) = true := by simpa using he2
              generalize hold2 : nth l2 I = old2 at *
              go_wp2_with fail
              have M9 := Lib.hid (own_set M2.out HPL.out I v)
              have G := Lib.hid (bag_row G.out M2.out LA.out (by intro e he; simp at he; rcases he with rfl | rfl | rfl; (· show 2 ≠ 34; decide); (· show 2 ≠ 41; decide); (· show 2 ≠ 24; decide)) I (.int .i64 v))
              refine (unpA_other M9.out (by rw [List.length_set, HPL.out]; omega)).mono ?_
              rintro e w4 ⟨⟨b, dd, ok2, rfl, hok2⟩, hb⟩
              obtain ⟨s9, t9, p9, h9, b9, o9⟩ := b
              have hne : ¬ ((s9 = s ∧ t9 = t ∧ p9 = pr ∧ h9 = sh ∧ b9 = bk ∧ o9 = off) ∧ dd = false ∧ ok2 = true) := by
                rintro ⟨⟨rfl, rfl, rfl, rfl, rfl, rfl⟩, rfl, rfl⟩
                have h1 := (hok2 rfl).2
                rw [HPA.out _ _ rfl rfl] at h1
                exact set_other (by rw [HPL.out]; exact hI2) (by rw [hold2]; exact he2) h1.symm
              clear hok2
              have HNE := Lib.hid hne
              clear hne
              unfold Ar.v
              simp only
              have G := Lib.hid (G.out.still hb)
              clear hb M9 M2
              clear e0 e1 e2 e3 e4 e5 t0 t1 d0 d1 d2 d3 d4
              obtain ⟨e0, e1, e2, e3, e4, e5⟩ := row6 G.out.v0
              obtain ⟨t0, t1⟩ := row2 G.out.v1
              obtain ⟨d0, d1, d2, d3, d4⟩ := row5 G.out.v2
              clear e0 e1 e2 e3 e4 e5 t0 t1 d0 d1 d2 d3 d4
              have GB := Lib.hid (fun (o : Obj) => (G.out.still (below_new _ o)).bel)
              have G := Lib.hid (G.out.still (below_new _ (.cells #[.int .i64 s9, .int .i64 t9, .int .i64 p9, .bool h9, .int .i64 b9, .int .i64 o9] 34)))
              obtain ⟨e0, e1, e2, e3, e4, e5⟩ := row6 G.out.v0
              obtain ⟨t0, t1⟩ := row2 G.out.v1
              obtain ⟨d0, d1, d2, d3, d4⟩ := row5 G.out.v2
              cases ok2 with
              | false =>
                go_wp2_with fail
                go_ret
                exact ⟨rfl, G.out.bel⟩
              | true =>
                go_wp2
                all_goals
                  go_ret
                  first
                  | exact ⟨rfl, GB.out _⟩
                  | (exfalso; rename_i hd; exact HNE.out ⟨⟨by assumption, by assumption, by assumption, by assumption, by assumption, by assumption⟩, by simpa using hd, trivial⟩)
          | true =>
            have HMC : Hid (m.ends.length ≤ 8 ∧ m.slots.length ≤ 8 ∧ m.gaps.length ≤ 8) := Lib.hid (by have h := (HOK.out rfl).1.cnt; have := h.few; have := h.sl; have := h.gl; omega)
            have HMN : Hid (m ≠ n) := Lib.hid (fun e => set_other (by rw [HLN.out]; exact hI2) (by rw [hold]; exact he) ((HOK.out rfl).2.symm.trans (HPN.out m e)))
            clear HOK
            go_wp2_with fail
            refine (CN.out _ _ _ _ _ HMC.out HMN.out HM.out HN.out).mono ?_
            rintro e w4 ⟨rfl, hb⟩
            have G := Lib.hid (G.out.still hb)
            have HN := Lib.hid (HN.out.still hb)
            have M2 := Lib.hid (M2.out.still hb)
            clear hb
            clear e0 e1 e2 e3 e4 e5 t0 t1 d0 d1 d2 d3 d4
            obtain ⟨e0, e1, e2, e3, e4, e5⟩ := row6 G.out.v0
            obtain ⟨t0, t1⟩ := row2 G.out.v1
            obtain ⟨d0, d1, d2, d3, d4⟩ := row5 G.out.v2
            obtain ⟨x0, x1⟩ := own_cell M2.out HPL.out I hI2
            by_cases he2 : nth l2 I = v
            · rw [he2] at x0
              go_wp2_with fail
              go_ret
              exact ⟨rfl, G.out.bel⟩
            · have hb2 : (nth l2 I != v) = true := by simpa using he2
              generalize hold2 : nth l2 I = old2 at *
              go_wp2_with fail
              have M9 := Lib.hid (own_set M2.out HPL.out I v)
              have G := Lib.hid (bag_row G.out M2.out LA.out (by intro e he; simp at he; rcases he with rfl | rfl | rfl; (· show 2 ≠ 34; decide); (· show 2 ≠ 41; decide); (· show 2 ≠ 24; decide)) I (.int .i64 v))
              refine (unpA_other M9.out (by rw [List.length_set, HPL.out]; omega)).mono ?_
              rintro e w5 ⟨⟨b, dd, ok2, rfl, hok2⟩, hb⟩
              obtain ⟨s9, t9, p9, h9, b9, o9⟩ := b
              have hne : ¬ ((s9 = s ∧ t9 = t ∧ p9 = pr ∧ h9 = sh ∧ b9 = bk ∧ o9 = off) ∧ dd = false ∧ ok2 = true) := by
                rintro ⟨⟨rfl, rfl, rfl, rfl, rfl, rfl⟩, rfl, rfl⟩
                have h1 := (hok2 rfl).2
                rw [HPA.out _ _ rfl rfl] at h1
                exact set_other (by rw [HPL.out]; exact hI2) (by rw [hold2]; exact he2) h1.symm
              clear hok2
              have HNE := Lib.hid hne
              clear hne
              unfold Ar.v
              simp only
              have G := Lib.hid (G.out.still hb)
              clear hb M9 M2
              clear e0 e1 e2 e3 e4 e5 t0 t1 d0 d1 d2 d3 d4
              obtain ⟨e0, e1, e2, e3, e4, e5⟩ := row6 G.out.v0
              obtain ⟨t0, t1⟩ := row2 G.out.v1
              obtain ⟨d0, d1, d2, d3, d4⟩ := row5 G.out.v2
              clear e0 e1 e2 e3 e4 e5 t0 t1 d0 d1 d2 d3 d4
              have GB := Lib.hid (fun (o : Obj) => (G.out.still (below_new _ o)).bel)
              have G := Lib.hid (G.out.still (below_new _ (.cells #[.int .i64 s9, .int .i64 t9, .int .i64 p9, .bool h9, .int .i64 b9, .int .i64 o9] 34)))
              obtain ⟨e0, e1, e2, e3, e4, e5⟩ := row6 G.out.v0
              obtain ⟨t0, t1⟩ := row2 G.out.v1
              obtain ⟨d0, d1, d2, d3, d4⟩ := row5 G.out.v2
              cases ok2 with
              | false =>
                go_wp2_with fail
                go_ret
                exact ⟨rfl, G.out.bel⟩
              | true =>
                go_wp2
                all_goals
                  go_ret
                  first
                  | exact ⟨rfl, GB.out _⟩
                  | (exfalso; rename_i hd; exact HNE.out ⟨⟨by assumption, by assumption, by assumption, by assumption, by assumption, by assumption⟩, by simpa using hd, trivial⟩)

theorem changed_any {n : Nd} {x y z : Value} {p v : Int} {a : Ar} (w : World) (h : NdIn w n x y z) (fs : Fits n.slots) (hv : -9223372036854775808 ≤ v ∧ v ≤ 9223372036854775807) :
    Calls Try.prog 6 #[n.val x y z, .agg #[.int .i64 p, .int .i64 v], a.v] w fun e w' => e = .returned (.bool true) ∧ Below w.heap.size w w' := by
  by_cases hw : Few n
  · exact changed_few w h hw fs hv
  · exact changed_many w h hw
end Go.Proofs.Ytcgooplecimdhaa
