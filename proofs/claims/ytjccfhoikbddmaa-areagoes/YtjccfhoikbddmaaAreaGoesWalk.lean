/-
  Layer 6: the walk of the statement on areas that go on in others.
-/
import Derived.Test.YtjccfhoikbddmaaAreaPure
import Derived.Test.YtjccfhoikbddmaaBag
namespace Go.Proofs.Ytjccfhoikbddmaa
open Go.ChangeShapes Go.WideShapes Go.ChangeAt Go.RowKit
set_option linter.unusedVariables false

/-- What is told of the last page of one area and the first page of another one. -/
def AfterA (a b : At) : Prop := a.p = b.p ∧ a.sh = b.sh ∧ a.bk = b.bk ∧ b.off = if 0 < a.bk then a.off + 4096 else a.off
theorem after_goes {a b : Ar} (ha : Formed a) (hb : Formed b) (h : a.e = b.s) : AfterA (a.at (a.e / 4096 - 1)) (b.at (b.s / 4096)) ↔ GoesA a b := by
  have ga := (formed_iff a).1 ha
  have gb := (formed_iff b).1 hb
  unfold AfterA Ar.at
  simp only
  constructor
  · rintro ⟨h1, h2, h3, h4⟩
    refine ⟨ha, hb, h, h1, h2, h3, fun hn => ?_⟩
    rw [if_pos (by omega), if_pos (by omega), if_pos (by omega)] at h4
    omega
  · rintro ⟨_, _, _, h1, h2, h3, h4⟩
    refine ⟨h1, h2, h3, ?_⟩
    by_cases hn : 0 < a.bk
    · have := h4 (by omega)
      rw [if_pos (by omega), if_pos (by omega), if_pos (by omega)]
      omega
    · rw [if_neg (by omega), if_neg hn, if_neg hn]
/-- What is joined has its pages as they were: those of the second one. -/
theorem join_at {a b : Ar} (h : GoesA a b) (n : Int) : b.at n = a.at n := by
  have ga := (formed_iff a).1 h.fa
  have gb := (formed_iff b).1 h.fb
  have h1 := h.at'
  unfold Ar.at
  rw [h.p, h.sh, h.bk]
  congr 1
  by_cases hn : 0 < b.bk
  · have := h.off (by have := h.bk; omega)
    rw [if_pos hn, if_pos hn]
    omega
  · rw [if_neg hn, if_neg hn]
theorem formed_join {a b : Ar} (h : GoesA a b) : Formed { a with e := b.e } := by
  have ga := (formed_iff a).1 h.fa
  have gb := (formed_iff b).1 h.fb
  have h1 := h.at'
  have h2 := h.bk
  have h3 := h.off
  rw [formed_iff]
  simp only
  by_cases hn : a.bk = 0
  · have := ga.2.2.2.2.1 hn
    omega
  · have := h3 hn
    omega
theorem at_off {a : Ar} (h : Formed a) {n : Int} (h1 : a.s / 4096 ≤ n) (h2 : n < a.e / 4096) : 0 ≤ (a.at n).off ∧ (a.at n).off ≤ 1099511627776 := by
  have g := (formed_iff a).1 h
  unfold Ar.at
  simp only
  by_cases hn : 0 < a.bk
  · rw [if_pos hn]; omega
  · rw [if_neg hn]; omega

/-- The pages from one to another one, and the variables. -/
def GoesRel (w : World) (l : List (Nat × TypeId × Array Value)) (lo hi : Int) (iv : Value) (wr : World) : Prop := ∃ n : Int, lo ≤ n ∧ n ≤ hi ∧ iv = .int .i64 n ∧ Bag w wr l

set_option maxRecDepth 4000 in
set_option maxHeartbeats 4000000 in
theorem areaGoes_yes (a b : Ar) (w : World) (hg : GoesA a b) : Calls Try.prog 5 #[a.v, b.v] w fun e w' => e = .returned (.bool true) ∧ Below w.heap.size w w' := by
  have S0 := Lib.hid (Bag.two w 23 23 a.cells b.cells)
  have ga := (formed_iff a).1 hg.fa
  have gb := (formed_iff b).1 hg.fb
  have h1 := hg.at'
  have X : Hid (Says 15 #[a.v, b.v] (.tuple #[{ a with e := b.e }.v, .bool true])) := by
    have := join_any a b
    rw [if_pos hg] at this
    exact this
  have R1 : Hid (Says 12 #[a.v] (.bool true)) := by
    have := refFormed_any a
    rw [show decide (Formed a) = true from decide_eq_true hg.fa] at this
    exact this
  have R2 : Hid (Says 12 #[b.v] (.bool true)) := by
    have := refFormed_any b
    rw [show decide (Formed b) = true from decide_eq_true hg.fb] at this
    exact this
  have RJ : Hid (Says 12 #[{ a with e := b.e }.v] (.bool true)) := by
    have := refFormed_any { a with e := b.e }
    rw [show decide (Formed _) = true from decide_eq_true (formed_join hg)] at this
    exact this
  have G : Hid (Says 17 #[a.v, b.v] (.bool true)) := by
    have := goes_any a b
    rw [show decide (GoesA a b) = true from decide_eq_true hg] at this
    exact this
  have T1 := Lib.hid (refAttr_in a (a.e / 4096 - 1) (by omega) (by omega) (by omega) (by omega) (by omega) (by omega))
  have T2 := Lib.hid (refAttr_in b (b.s / 4096) (by omega) (by omega) (by omega) (by omega) (by omega) (by omega))
  have o1 := at_off hg.fa (n := a.e / 4096 - 1) (by omega) (by omega)
  have AF : Hid (Says 16 #[(a.at (a.e / 4096 - 1)).v, (b.at (b.s / 4096)).v] (.bool true)) :=
    refAfter_any _ _ o1.1 o1.2 (r := true) ⟨(fun _ => (after_goes hg.fa hg.fb h1).2 hg), (fun _ => rfl)⟩
  have P1 : Hid (∀ n, a.s / 4096 ≤ n → n < a.e / 4096 → Says 14 #[a.v, .int .i64 n] (.tuple #[(a.at n).v, .bool true])) := fun n k1 k2 => refAttr_in a n (by omega) (by omega) (by omega) (by omega) (by omega) (by omega)
  have P2 : Hid (∀ n, a.e / 4096 ≤ n → Says 14 #[a.v, .int .i64 n] (.tuple #[At.nil.v, .bool false])) := fun n k1 => refAttr_out a n (by omega) (by omega) (by omega) (by omega)
  have P3 : Hid (∀ n, b.s / 4096 ≤ n → n < b.e / 4096 → Says 14 #[b.v, .int .i64 n] (.tuple #[(a.at n).v, .bool true])) := fun n k1 k2 => by
    rw [← join_at hg]
    exact refAttr_in b n (by omega) (by omega) (by omega) (by omega) (by omega) (by omega)
  have P4 : Hid (∀ n, n < b.s / 4096 → Says 14 #[b.v, .int .i64 n] (.tuple #[At.nil.v, .bool false])) := fun n k1 => refAttr_out b n (by omega) (by omega) (by omega) (by omega)
  have P5 : Hid (∀ n, a.s / 4096 ≤ n → n < b.e / 4096 → Says 14 #[{ a with e := b.e }.v, .int .i64 n] (.tuple #[(a.at n).v, .bool true])) := fun n k1 k2 => by
    have := refAttr_in { a with e := b.e } n (by show 0 ≤ a.s; omega) k1 k2 (by show b.e ≤ 2097152; omega) (by show 0 ≤ a.off; omega) (by show a.off ≤ 1099511627776; omega)
    exact this
  have d1 := tdiv_up (show 0 ≤ a.s by omega)
  have d2 := tdiv_up (show 0 ≤ a.e by omega)
  have d3 := tdiv_up (show 0 ≤ b.e by omega)
  have b1 : 16 ≤ a.s / 4096 := by omega
  have b2 : a.s / 4096 < a.e / 4096 := by omega
  have b3 : a.e / 4096 < b.e / 4096 := by omega
  have b4 : b.e / 4096 ≤ 512 := by omega
  rw [← h1] at T2 AF P3 P4
  clear ga gb o1
  have HG := Lib.hid hg
  clear hg
  obtain ⟨s, t, p, sh, bk, off⟩ := a
  obtain ⟨s1, t1, p1, sh1, bk1, off1⟩ := b
  simp only at h1
  subst h1
  simp only at *
  generalize s / 4096 = sn at *
  generalize t / 4096 = tn at *
  generalize t1 / 4096 = un at *
  generalize Ar.at ⟨s, t, p, sh, bk, off⟩ (tn - 1) = ya at *
  generalize Ar.at ⟨t, t1, p1, sh1, bk1, off1⟩ tn = yb at *
  obtain ⟨ap, ash, abk, aoff⟩ := ya
  obtain ⟨bp, bsh, bbk, boff⟩ := yb
  unfold Ar.v Ar.cells at *
  unfold At.v At.nil at *
  simp only at *
  go_enter Try.func5, Try.ntmps5
  go_upto_region 1 with (fail)
  generalize (w.alloc _).alloc _ = w0 at *
  generalize hq : w.heap.size = q at *
  have HQ := Lib.hid hq
  clear hq
  obtain ⟨d0, d1, d2, d3, d4, d5⟩ := row6 S0.out.v0
  obtain ⟨c0, c1, c2, c3, c4, c5⟩ := row6 S0.out.v1
  go_wp2_with fail
  refine (X.out _).mono ?_
  rintro e w1 ⟨rfl, hb⟩
  have S1 := Lib.hid (S0.out.still hb)
  clear hb S0 d0 d1 d2 d3 d4 d5 c0 c1 c2 c3 c4 c5
  have S2 := Lib.hid (S1.out.add 23 #[.int .i64 s, .int .i64 t1, .int .i64 p, .bool sh, .int .i64 bk, .int .i64 off])
  go_upto_region 2 with (fail)
  clear S1 
  generalize hw2 : World.alloc _ _ = w2 at *
  clear hw2
  generalize w1.heap.size = jb at *
  obtain ⟨d0, d1, d2, d3, d4, d5⟩ := row6 S2.out.v1
  obtain ⟨c0, c1, c2, c3, c4, c5⟩ := row6 S2.out.v2
  go_wp2_with fail
  refine (R1.out _).mono ?_
  rintro e w3 ⟨rfl, hb⟩
  have S3 := Lib.hid (S2.out.still hb)
  clear hb S2 d0 d1 d2 d3 d4 d5 c0 c1 c2 c3 c4 c5
  obtain ⟨d0, d1, d2, d3, d4, d5⟩ := row6 S3.out.v1
  obtain ⟨c0, c1, c2, c3, c4, c5⟩ := row6 S3.out.v2
  go_wp2_with fail
  refine (R2.out _).mono ?_
  rintro e w4 ⟨rfl, hb⟩
  have S4 := Lib.hid (S3.out.still hb)
  clear hb S3 d0 d1 d2 d3 d4 d5 c0 c1 c2 c3 c4 c5
  obtain ⟨d0, d1, d2, d3, d4, d5⟩ := row6 S4.out.v1
  obtain ⟨c0, c1, c2, c3, c4, c5⟩ := row6 S4.out.v2
  go_wp2_with fail
  refine (T1.out _).mono ?_
  rintro e w5 ⟨rfl, hb⟩
  have S5 := Lib.hid (S4.out.still hb)
  clear hb S4 d0 d1 d2 d3 d4 d5 c0 c1 c2 c3 c4 c5
  have S6 := Lib.hid (S5.out.add 32 #[.int .i64 ap, .bool ash, .int .i64 abk, .int .i64 aoff])
  go_upto_region 5 with (fail)
  clear S5 
  generalize hw6 : World.alloc _ _ = w6 at *
  clear hw6
  generalize w5.heap.size = xb at *
  obtain ⟨d0, d1, d2, d3, d4, d5⟩ := row6 S6.out.v2
  go_wp2_with fail
  refine (T2.out _).mono ?_
  rintro e w7 ⟨rfl, hb⟩
  have S7 := Lib.hid (S6.out.still hb)
  clear hb S6 d0 d1 d2 d3 d4 d5
  have S8 := Lib.hid (S7.out.add 32 #[.int .i64 bp, .bool bsh, .int .i64 bbk, .int .i64 boff])
  go_upto_region 6 with (fail)
  clear S7 
  generalize hw8 : World.alloc _ _ = w8 at *
  clear hw8
  generalize w7.heap.size = yb at *
  obtain ⟨d0, d1, d2, d3⟩ := row4 S8.out.v0
  obtain ⟨c0, c1, c2, c3⟩ := row4 S8.out.v1
  go_wp2_with fail
  refine (AF.out _).mono ?_
  rintro e w9 ⟨rfl, hb⟩
  have S9 := Lib.hid (S8.out.still hb)
  clear hb S8 d0 d1 d2 d3 c0 c1 c2 c3
  go_wp2_with fail
  refine (area_awake _).mono ?_
  rintro e w10 ⟨rfl, hb⟩
  have S10 := Lib.hid (S9.out.still hb)
  clear hb S9 
  obtain ⟨d0, d1, d2, d3, d4, d5⟩ := row6 S10.out.v3
  obtain ⟨c0, c1, c2, c3, c4, c5⟩ := row6 S10.out.v4
  go_wp2_with fail
  refine (G.out _).mono ?_
  rintro e w11 ⟨rfl, hb⟩
  have S11 := Lib.hid (S10.out.still hb)
  clear hb S10 d0 d1 d2 d3 d4 d5 c0 c1 c2 c3 c4 c5
  obtain ⟨d0, d1, d2, d3, d4, d5⟩ := row6 S11.out.v3
  obtain ⟨c0, c1, c2, c3, c4, c5⟩ := row6 S11.out.v4
  go_wp2_with fail
  have SL := Lib.hid S11.out.tail.tail
  clear S11 d0 d1 d2 d3 d4 d5 c0 c1 c2 c3 c4 c5 X R1 R2 G T1 T2 AF
  go_loopw [12] (fun iv wr => GoesRel w [(jb, 23, #[.int .i64 s, .int .i64 t1, .int .i64 p, .bool sh, .int .i64 bk, .int .i64 off]), (q + 1, 23, #[.int .i64 t, .int .i64 t1, .int .i64 p1, .bool sh1, .int .i64 bk1, .int .i64 off1]), (q, 23, #[.int .i64 s, .int .i64 t, .int .i64 p, .bool sh, .int .i64 bk, .int .i64 off])] sn un iv wr) (fun iv _ => (un - intOf iv).toNat)
  case atStart => exact ⟨sn, by omega, by omega, rfl, SL.out⟩
  case round =>
    obtain ⟨n, n1, n2, rfl, hS⟩ := hrel
    have S0 := Lib.hid hS
    clear hS SL
    by_cases hin : n < un
    · by_cases hlt : n < tn
      · skip
        have X1 := Lib.hid (P1.out n n1 hlt)
        have X2 := Lib.hid (P4.out n hlt)
        have X3 := Lib.hid (P5.out n n1 hin)
        generalize Ar.at ⟨s, t, p, sh, bk, off⟩ n = ny at *
        obtain ⟨np, nsh, nbk, noff⟩ := ny
        simp only at X1 X2 X3
        obtain ⟨d0, d1, d2, d3, d4, d5⟩ := row6 S0.out.v1
        obtain ⟨c0, c1, c2, c3, c4, c5⟩ := row6 S0.out.v2
        go_wp2_with fail
        refine (X1.out _).mono ?_
        rintro e w101 ⟨rfl, hb⟩
        have S1 := Lib.hid (S0.out.still hb)
        clear hb S0 d0 d1 d2 d3 d4 d5 c0 c1 c2 c3 c4 c5
        have S2 := Lib.hid (S1.out.add 32 #[.int .i64 np, .bool nsh, .int .i64 nbk, .int .i64 noff])
        go_upto_region 15 with (fail)
        clear S1 
        generalize hw102 : World.alloc _ _ = w102 at *
        clear hw102
        generalize w101.heap.size = k1 at *
        obtain ⟨d0, d1, d2, d3, d4, d5⟩ := row6 S2.out.v2
        go_wp2_with fail
        refine (X2.out _).mono ?_
        rintro e w103 ⟨rfl, hb⟩
        have S3 := Lib.hid (S2.out.still hb)
        clear hb S2 d0 d1 d2 d3 d4 d5
        have S4 := Lib.hid (S3.out.add 32 #[.int .i64 0, .bool false, .int .i64 0, .int .i64 0])
        go_upto_region 16 with (fail)
        clear S3 
        generalize hw104 : World.alloc _ _ = w104 at *
        clear hw104
        generalize w103.heap.size = k2 at *
        obtain ⟨d0, d1, d2, d3, d4, d5⟩ := row6 S4.out.v2
        go_wp2_with fail
        refine (X3.out _).mono ?_
        rintro e w105 ⟨rfl, hb⟩
        have S5 := Lib.hid (S4.out.still hb)
        clear hb S4 d0 d1 d2 d3 d4 d5
        have S6 := Lib.hid (S5.out.add 32 #[.int .i64 np, .bool nsh, .int .i64 nbk, .int .i64 noff])
        go_upto_region 17 with (fail)
        clear S5 
        generalize hw106 : World.alloc _ _ = w106 at *
        clear hw106
        generalize w105.heap.size = k3 at *
        obtain ⟨d0, d1, d2, d3⟩ := row4 S6.out.v0
        obtain ⟨f0, f1, f2, f3⟩ := row4 S6.out.v1
        obtain ⟨c0, c1, c2, c3⟩ := row4 S6.out.v2
        go_wp2_with fail
        go_roundw
        case rel => exact ⟨n + 1, by omega, by omega, by go_num, S6.out.tail.tail.tail⟩
        case measure => simp [intOf]; omega
      · have hge : tn ≤ n := by omega
        have X1 := Lib.hid (P2.out n hge)
        have X2 := Lib.hid (P3.out n hge hin)
        have X3 := Lib.hid (P5.out n n1 hin)
        generalize Ar.at ⟨s, t, p, sh, bk, off⟩ n = ny at *
        obtain ⟨np, nsh, nbk, noff⟩ := ny
        simp only at X1 X2 X3
        obtain ⟨d0, d1, d2, d3, d4, d5⟩ := row6 S0.out.v1
        obtain ⟨c0, c1, c2, c3, c4, c5⟩ := row6 S0.out.v2
        go_wp2_with fail
        refine (X1.out _).mono ?_
        rintro e w101 ⟨rfl, hb⟩
        have S1 := Lib.hid (S0.out.still hb)
        clear hb S0 d0 d1 d2 d3 d4 d5 c0 c1 c2 c3 c4 c5
        have S2 := Lib.hid (S1.out.add 32 #[.int .i64 0, .bool false, .int .i64 0, .int .i64 0])
        go_upto_region 15 with (fail)
        clear S1 
        generalize hw102 : World.alloc _ _ = w102 at *
        clear hw102
        generalize w101.heap.size = k1 at *
        obtain ⟨d0, d1, d2, d3, d4, d5⟩ := row6 S2.out.v2
        go_wp2_with fail
        refine (X2.out _).mono ?_
        rintro e w103 ⟨rfl, hb⟩
        have S3 := Lib.hid (S2.out.still hb)
        clear hb S2 d0 d1 d2 d3 d4 d5
        have S4 := Lib.hid (S3.out.add 32 #[.int .i64 np, .bool nsh, .int .i64 nbk, .int .i64 noff])
        go_upto_region 16 with (fail)
        clear S3 
        generalize hw104 : World.alloc _ _ = w104 at *
        clear hw104
        generalize w103.heap.size = k2 at *
        obtain ⟨d0, d1, d2, d3, d4, d5⟩ := row6 S4.out.v2
        go_wp2_with fail
        refine (X3.out _).mono ?_
        rintro e w105 ⟨rfl, hb⟩
        have S5 := Lib.hid (S4.out.still hb)
        clear hb S4 d0 d1 d2 d3 d4 d5
        have S6 := Lib.hid (S5.out.add 32 #[.int .i64 np, .bool nsh, .int .i64 nbk, .int .i64 noff])
        go_upto_region 17 with (fail)
        clear S5 
        generalize hw106 : World.alloc _ _ = w106 at *
        clear hw106
        generalize w105.heap.size = k3 at *
        obtain ⟨d0, d1, d2, d3⟩ := row4 S6.out.v0
        obtain ⟨f0, f1, f2, f3⟩ := row4 S6.out.v1
        obtain ⟨c0, c1, c2, c3⟩ := row4 S6.out.v2
        go_wp2_with fail
        go_roundw
        case rel => exact ⟨n + 1, by omega, by omega, by go_num, S6.out.tail.tail.tail⟩
        case measure => simp [intOf]; omega
    · have hnn : un ≤ n := by omega
      obtain ⟨f0, f1, f2, f3, f4, f5⟩ := row6 S0.out.v0
      obtain ⟨d0, d1, d2, d3, d4, d5⟩ := row6 S0.out.v1
      obtain ⟨c0, c1, c2, c3, c4, c5⟩ := row6 S0.out.v2
      go_wp2_with fail
      refine (RJ.out _).mono ?_
      rintro e w101 ⟨rfl, hb⟩
      have S1 := Lib.hid (S0.out.still hb)
      clear hb S0 f0 f1 f2 f3 f4 f5 d0 d1 d2 d3 d4 d5 c0 c1 c2 c3 c4 c5
      obtain ⟨f0, f1, f2, f3, f4, f5⟩ := row6 S1.out.v0
      obtain ⟨d0, d1, d2, d3, d4, d5⟩ := row6 S1.out.v1
      obtain ⟨c0, c1, c2, c3, c4, c5⟩ := row6 S1.out.v2
      go_wp2_with fail
      go_ret
      exact ⟨rfl, S1.out.bel⟩

set_option maxRecDepth 4000 in
set_option maxHeartbeats 4000000 in
theorem areaGoes_not (a b : Ar) (w : World) (hg : ¬ GoesA a b) : Calls Try.prog 5 #[a.v, b.v] w fun e w' => e = .returned (.bool true) ∧ Below w.heap.size w w' := by
  have S0 := Lib.hid (Bag.two w 23 23 a.cells b.cells)
  have X : Hid (Says 15 #[a.v, b.v] (.tuple #[Ar.nil.v, .bool false])) := by
    have := join_any a b
    rw [if_neg hg] at this
    exact this
  have G : Hid (Says 17 #[a.v, b.v] (.bool false)) := by
    have := goes_any a b
    rw [show decide (GoesA a b) = false from decide_eq_false hg] at this
    exact this
  have R1 := Lib.hid (refFormed_any a)
  have R2 := Lib.hid (refFormed_any b)
  by_cases ha : Formed a
  · rw [show decide (Formed a) = true from decide_eq_true ha] at R1
    by_cases hb : Formed b
    · rw [show decide (Formed b) = true from decide_eq_true hb] at R2
      by_cases he : a.e = b.s
      · have ga := (formed_iff a).1 ha
        have gb := (formed_iff b).1 hb
        have T1 := Lib.hid (refAttr_in a (a.e / 4096 - 1) (by omega) (by omega) (by omega) (by omega) (by omega) (by omega))
        have T2 := Lib.hid (refAttr_in b (b.s / 4096) (by omega) (by omega) (by omega) (by omega) (by omega) (by omega))
        have o1 := at_off ha (n := a.e / 4096 - 1) (by omega) (by omega)
        have AF : Hid (Says 16 #[(a.at (a.e / 4096 - 1)).v, (b.at (b.s / 4096)).v] (.bool false)) :=
          refAfter_any _ _ o1.1 o1.2 (r := false) ⟨(fun h => by cases h), (fun h => absurd ((after_goes ha hb he).1 h) hg)⟩
        have d2 := tdiv_up (show 0 ≤ a.e by omega)
        have b1 : 16 ≤ a.e / 4096 := by omega
        have b4 : a.e / 4096 ≤ 512 := by omega
        rw [← he] at T2 AF
        clear ga gb o1 ha hb hg
        obtain ⟨s, t, p, sh, bk, off⟩ := a
        obtain ⟨s1, t1, p1, sh1, bk1, off1⟩ := b
        simp only at he
        subst he
        simp only at *
        generalize t / 4096 = tn at *
        generalize Ar.at ⟨s, t, p, sh, bk, off⟩ (tn - 1) = ya at *
        generalize Ar.at ⟨t, t1, p1, sh1, bk1, off1⟩ tn = yb at *
        obtain ⟨ap, ash, abk, aoff⟩ := ya
        obtain ⟨bp, bsh, bbk, boff⟩ := yb
        unfold Ar.v Ar.cells Ar.nil at *
        unfold At.v at *
        simp only at *
        go_enter Try.func5, Try.ntmps5
        go_upto_region 1 with (fail)
        generalize (w.alloc _).alloc _ = w0 at *
        generalize hq : w.heap.size = q at *
        have HQ := Lib.hid hq
        clear hq
        obtain ⟨d0, d1, d2, d3, d4, d5⟩ := row6 S0.out.v0
        obtain ⟨c0, c1, c2, c3, c4, c5⟩ := row6 S0.out.v1
        go_wp2_with fail
        refine (X.out _).mono ?_
        rintro e w1 ⟨rfl, hb⟩
        have S1 := Lib.hid (S0.out.still hb)
        clear hb S0 d0 d1 d2 d3 d4 d5 c0 c1 c2 c3 c4 c5
        have S2 := Lib.hid (S1.out.add 23 #[.int .i64 0, .int .i64 0, .int .i64 0, .bool false, .int .i64 0, .int .i64 0])
        go_upto_region 2 with (fail)
        clear S1 
        generalize hw2 : World.alloc _ _ = w2 at *
        clear hw2
        generalize w1.heap.size = jb at *
        obtain ⟨d0, d1, d2, d3, d4, d5⟩ := row6 S2.out.v1
        obtain ⟨c0, c1, c2, c3, c4, c5⟩ := row6 S2.out.v2
        go_wp2_with fail
        refine (R1.out _).mono ?_
        rintro e w3 ⟨rfl, hb⟩
        have S3 := Lib.hid (S2.out.still hb)
        clear hb S2 d0 d1 d2 d3 d4 d5 c0 c1 c2 c3 c4 c5
        obtain ⟨d0, d1, d2, d3, d4, d5⟩ := row6 S3.out.v1
        obtain ⟨c0, c1, c2, c3, c4, c5⟩ := row6 S3.out.v2
        go_wp2_with fail
        refine (R2.out _).mono ?_
        rintro e w4 ⟨rfl, hb⟩
        have S4 := Lib.hid (S3.out.still hb)
        clear hb S3 d0 d1 d2 d3 d4 d5 c0 c1 c2 c3 c4 c5
        obtain ⟨d0, d1, d2, d3, d4, d5⟩ := row6 S4.out.v1
        obtain ⟨c0, c1, c2, c3, c4, c5⟩ := row6 S4.out.v2
        go_wp2_with fail
        refine (T1.out _).mono ?_
        rintro e w5 ⟨rfl, hb⟩
        have S5 := Lib.hid (S4.out.still hb)
        clear hb S4 d0 d1 d2 d3 d4 d5 c0 c1 c2 c3 c4 c5
        have S6 := Lib.hid (S5.out.add 32 #[.int .i64 ap, .bool ash, .int .i64 abk, .int .i64 aoff])
        go_upto_region 5 with (fail)
        clear S5 
        generalize hw6 : World.alloc _ _ = w6 at *
        clear hw6
        generalize w5.heap.size = xb at *
        obtain ⟨d0, d1, d2, d3, d4, d5⟩ := row6 S6.out.v2
        go_wp2_with fail
        refine (T2.out _).mono ?_
        rintro e w7 ⟨rfl, hb⟩
        have S7 := Lib.hid (S6.out.still hb)
        clear hb S6 d0 d1 d2 d3 d4 d5
        have S8 := Lib.hid (S7.out.add 32 #[.int .i64 bp, .bool bsh, .int .i64 bbk, .int .i64 boff])
        go_upto_region 6 with (fail)
        clear S7 
        generalize hw8 : World.alloc _ _ = w8 at *
        clear hw8
        generalize w7.heap.size = yb at *
        obtain ⟨d0, d1, d2, d3⟩ := row4 S8.out.v0
        obtain ⟨c0, c1, c2, c3⟩ := row4 S8.out.v1
        go_wp2_with fail
        refine (AF.out _).mono ?_
        rintro e w9 ⟨rfl, hb⟩
        have S9 := Lib.hid (S8.out.still hb)
        clear hb S8 d0 d1 d2 d3 c0 c1 c2 c3
        go_wp2_with fail
        refine (area_awake _).mono ?_
        rintro e w10 ⟨rfl, hb⟩
        have S10 := Lib.hid (S9.out.still hb)
        clear hb S9 
        obtain ⟨d0, d1, d2, d3, d4, d5⟩ := row6 S10.out.v3
        obtain ⟨c0, c1, c2, c3, c4, c5⟩ := row6 S10.out.v4
        go_wp2_with fail
        refine (G.out _).mono ?_
        rintro e w11 ⟨rfl, hb⟩
        have S11 := Lib.hid (S10.out.still hb)
        clear hb S10 d0 d1 d2 d3 d4 d5 c0 c1 c2 c3 c4 c5
        obtain ⟨c0, c1, c2, c3, c4, c5⟩ := row6 S11.out.v2
        go_wp2_with fail
        go_ret
        exact ⟨rfl, S11.out.bel⟩
      · have he' : (a.e == b.s) = false := by simpa using he
        clear ha hb hg he
        obtain ⟨s, t, p, sh, bk, off⟩ := a
        obtain ⟨s1, t1, p1, sh1, bk1, off1⟩ := b
        unfold Ar.v Ar.cells Ar.nil at *
        simp only at *
        go_enter Try.func5, Try.ntmps5
        go_upto_region 1 with (fail)
        generalize (w.alloc _).alloc _ = w0 at *
        generalize hq : w.heap.size = q at *
        have HQ := Lib.hid hq
        clear hq
        obtain ⟨d0, d1, d2, d3, d4, d5⟩ := row6 S0.out.v0
        obtain ⟨c0, c1, c2, c3, c4, c5⟩ := row6 S0.out.v1
        go_wp2_with fail
        refine (X.out _).mono ?_
        rintro e w1 ⟨rfl, hb⟩
        have S1 := Lib.hid (S0.out.still hb)
        clear hb S0 d0 d1 d2 d3 d4 d5 c0 c1 c2 c3 c4 c5
        have S2 := Lib.hid (S1.out.add 23 #[.int .i64 0, .int .i64 0, .int .i64 0, .bool false, .int .i64 0, .int .i64 0])
        go_upto_region 2 with (fail)
        clear S1 
        generalize hw2 : World.alloc _ _ = w2 at *
        clear hw2
        generalize w1.heap.size = jb at *
        obtain ⟨d0, d1, d2, d3, d4, d5⟩ := row6 S2.out.v1
        obtain ⟨c0, c1, c2, c3, c4, c5⟩ := row6 S2.out.v2
        go_wp2_with fail
        refine (R1.out _).mono ?_
        rintro e w3 ⟨rfl, hb⟩
        have S3 := Lib.hid (S2.out.still hb)
        clear hb S2 d0 d1 d2 d3 d4 d5 c0 c1 c2 c3 c4 c5
        obtain ⟨d0, d1, d2, d3, d4, d5⟩ := row6 S3.out.v1
        obtain ⟨c0, c1, c2, c3, c4, c5⟩ := row6 S3.out.v2
        go_wp2_with fail
        refine (R2.out _).mono ?_
        rintro e w4 ⟨rfl, hb⟩
        have S4 := Lib.hid (S3.out.still hb)
        clear hb S3 d0 d1 d2 d3 d4 d5 c0 c1 c2 c3 c4 c5
        obtain ⟨d0, d1, d2, d3, d4, d5⟩ := row6 S4.out.v1
        obtain ⟨c0, c1, c2, c3, c4, c5⟩ := row6 S4.out.v2
        go_wp2_with fail
        refine (area_awake _).mono ?_
        rintro e w5 ⟨rfl, hb⟩
        have S5 := Lib.hid (S4.out.still hb)
        clear hb S4 d0 d1 d2 d3 d4 d5 c0 c1 c2 c3 c4 c5
        obtain ⟨d0, d1, d2, d3, d4, d5⟩ := row6 S5.out.v1
        obtain ⟨c0, c1, c2, c3, c4, c5⟩ := row6 S5.out.v2
        go_wp2_with fail
        refine (G.out _).mono ?_
        rintro e w6 ⟨rfl, hb⟩
        have S6 := Lib.hid (S5.out.still hb)
        clear hb S5 d0 d1 d2 d3 d4 d5 c0 c1 c2 c3 c4 c5
        obtain ⟨c0, c1, c2, c3, c4, c5⟩ := row6 S6.out.v0
        go_wp2_with fail
        go_ret
        exact ⟨rfl, S6.out.bel⟩
    · rw [show decide (Formed b) = false from decide_eq_false hb] at R2
      clear ha hb hg
      obtain ⟨s, t, p, sh, bk, off⟩ := a
      obtain ⟨s1, t1, p1, sh1, bk1, off1⟩ := b
      unfold Ar.v Ar.cells Ar.nil at *
      simp only at *
      go_enter Try.func5, Try.ntmps5
      go_upto_region 1 with (fail)
      generalize (w.alloc _).alloc _ = w0 at *
      generalize hq : w.heap.size = q at *
      have HQ := Lib.hid hq
      clear hq
      obtain ⟨d0, d1, d2, d3, d4, d5⟩ := row6 S0.out.v0
      obtain ⟨c0, c1, c2, c3, c4, c5⟩ := row6 S0.out.v1
      go_wp2_with fail
      refine (X.out _).mono ?_
      rintro e w1 ⟨rfl, hb⟩
      have S1 := Lib.hid (S0.out.still hb)
      clear hb S0 d0 d1 d2 d3 d4 d5 c0 c1 c2 c3 c4 c5
      have S2 := Lib.hid (S1.out.add 23 #[.int .i64 0, .int .i64 0, .int .i64 0, .bool false, .int .i64 0, .int .i64 0])
      go_upto_region 2 with (fail)
      clear S1 
      generalize hw2 : World.alloc _ _ = w2 at *
      clear hw2
      generalize w1.heap.size = jb at *
      obtain ⟨d0, d1, d2, d3, d4, d5⟩ := row6 S2.out.v1
      obtain ⟨c0, c1, c2, c3, c4, c5⟩ := row6 S2.out.v2
      go_wp2_with fail
      refine (R1.out _).mono ?_
      rintro e w3 ⟨rfl, hb⟩
      have S3 := Lib.hid (S2.out.still hb)
      clear hb S2 d0 d1 d2 d3 d4 d5 c0 c1 c2 c3 c4 c5
      obtain ⟨d0, d1, d2, d3, d4, d5⟩ := row6 S3.out.v1
      obtain ⟨c0, c1, c2, c3, c4, c5⟩ := row6 S3.out.v2
      go_wp2_with fail
      refine (R2.out _).mono ?_
      rintro e w4 ⟨rfl, hb⟩
      have S4 := Lib.hid (S3.out.still hb)
      clear hb S3 d0 d1 d2 d3 d4 d5 c0 c1 c2 c3 c4 c5
      go_wp2_with fail
      refine (area_awake _).mono ?_
      rintro e w5 ⟨rfl, hb⟩
      have S5 := Lib.hid (S4.out.still hb)
      clear hb S4 
      obtain ⟨d0, d1, d2, d3, d4, d5⟩ := row6 S5.out.v1
      obtain ⟨c0, c1, c2, c3, c4, c5⟩ := row6 S5.out.v2
      go_wp2_with fail
      refine (G.out _).mono ?_
      rintro e w6 ⟨rfl, hb⟩
      have S6 := Lib.hid (S5.out.still hb)
      clear hb S5 d0 d1 d2 d3 d4 d5 c0 c1 c2 c3 c4 c5
      obtain ⟨c0, c1, c2, c3, c4, c5⟩ := row6 S6.out.v0
      go_wp2_with fail
      go_ret
      exact ⟨rfl, S6.out.bel⟩
  · rw [show decide (Formed a) = false from decide_eq_false ha] at R1
    clear ha hg
    obtain ⟨s, t, p, sh, bk, off⟩ := a
    obtain ⟨s1, t1, p1, sh1, bk1, off1⟩ := b
    unfold Ar.v Ar.cells Ar.nil at *
    simp only at *
    go_enter Try.func5, Try.ntmps5
    go_upto_region 1 with (fail)
    generalize (w.alloc _).alloc _ = w0 at *
    generalize hq : w.heap.size = q at *
    have HQ := Lib.hid hq
    clear hq
    obtain ⟨d0, d1, d2, d3, d4, d5⟩ := row6 S0.out.v0
    obtain ⟨c0, c1, c2, c3, c4, c5⟩ := row6 S0.out.v1
    go_wp2_with fail
    refine (X.out _).mono ?_
    rintro e w1 ⟨rfl, hb⟩
    have S1 := Lib.hid (S0.out.still hb)
    clear hb S0 d0 d1 d2 d3 d4 d5 c0 c1 c2 c3 c4 c5
    have S2 := Lib.hid (S1.out.add 23 #[.int .i64 0, .int .i64 0, .int .i64 0, .bool false, .int .i64 0, .int .i64 0])
    go_upto_region 2 with (fail)
    clear S1 
    generalize hw2 : World.alloc _ _ = w2 at *
    clear hw2
    generalize w1.heap.size = jb at *
    obtain ⟨d0, d1, d2, d3, d4, d5⟩ := row6 S2.out.v1
    obtain ⟨c0, c1, c2, c3, c4, c5⟩ := row6 S2.out.v2
    go_wp2_with fail
    refine (R1.out _).mono ?_
    rintro e w3 ⟨rfl, hb⟩
    have S3 := Lib.hid (S2.out.still hb)
    clear hb S2 d0 d1 d2 d3 d4 d5 c0 c1 c2 c3 c4 c5
    go_wp2_with fail
    refine (area_awake _).mono ?_
    rintro e w4 ⟨rfl, hb⟩
    have S4 := Lib.hid (S3.out.still hb)
    clear hb S3 
    obtain ⟨d0, d1, d2, d3, d4, d5⟩ := row6 S4.out.v1
    obtain ⟨c0, c1, c2, c3, c4, c5⟩ := row6 S4.out.v2
    go_wp2_with fail
    refine (G.out _).mono ?_
    rintro e w5 ⟨rfl, hb⟩
    have S5 := Lib.hid (S4.out.still hb)
    clear hb S4 d0 d1 d2 d3 d4 d5 c0 c1 c2 c3 c4 c5
    obtain ⟨c0, c1, c2, c3, c4, c5⟩ := row6 S5.out.v0
    go_wp2_with fail
    go_ret
    exact ⟨rfl, S5.out.bel⟩
end Go.Proofs.Ytjccfhoikbddmaa
