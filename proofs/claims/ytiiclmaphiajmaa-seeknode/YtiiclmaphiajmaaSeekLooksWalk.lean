/-
  Layer 16: the walk of the statement on looking for addresses.
-/
import Derived.Test.YtiiclmaphiajmaaPkYc
import Derived.Test.YtiiclmaphiajmaaPkYd
namespace Go.Proofs.Ytiiclmaphiajmaa
open Go.ChangeShapes Go.WideShapes Go.ChangeAt Go.RowKit
set_option linter.unusedVariables false

theorem lookW_few (x : List Int) (addr : Int) : 0 < (lookW x addr).2 ∧ (lookW x addr).2 ≤ 10 := by
  have key : ∀ n i inn, i + n ≤ 8 → 0 < (lookFromW x addr inn n i).2 ∧ (lookFromW x addr inn n i).2 ≤ 10 := by
    intro n
    induction n with
    | zero => intro i inn h; simp only [lookFromW]; omega
    | succ n ih =>
      intro i inn h
      simp only [lookFromW]
      split
      · exact ih (i + 1) inn (by omega)
      · simp only; omega
  unfold lookW
  split
  · exact key _ _ _ (by have := entK_hi (nth x 0); omega)
  · simp
theorem look_rs {m : Mm} {c : Int → Int} {x : List Int} {h : Int} (W : Words m c x) (addr : Int) :
    (lookRs c h addr).ans m = ⟨(lookW x addr).1.1, (lookW x addr).1.2.1, (lookW x addr).1.2.2, Ar.nil, Nd.nil⟩ ∧ ((lookRs c h addr).reads m).length = (lookW x addr).2 ∧ ∀ q ∈ (lookRs c h addr).reads m, inb q.1 m = true ∧ q.2 = h := by
  obtain ⟨h1, h2, h3⟩ := look_ans (h := h) W addr
  obtain ⟨g1, g2⟩ := rs_ans (lookP c h addr) (fun r => ⟨r.1, r.2.1, r.2.2, Ar.nil, Nd.nil⟩) m
  unfold lookRs
  rw [g1, g2, h1]
  exact ⟨rfl, h2, h3⟩
/-- A looker for an address, over one slot, alone. -/
theorem all_look {w : World} {mb mg ab ag : Nat} {x : List Int} {addr : Int} (hx : x.length = 28) (hf : Fits x) (M : MemAt w mb mg (oneM x 28).cs (oneM x 28).cnt) (A : ArAt w ab ag 3 (bornTo 1 1) false false) :
    Calls Try.prog 10 #[.pointer (some ⟨mb, 0, none⟩), .agg #[.pointer (some ⟨ab, 0, none⟩), .int .i64 65537, .int .i64 addr, .int .i64 0, .pointer none]] w fun e w' =>
      ∃ (A1 : Option Addr) (c1 : Nat) (A2 : Option Addr) (c2 : Nat) (A3 : Option Addr) (c3 : Nat), e = .returned (.tuple #[.agg #[.int .i64 (lookW x addr).1.1, .bool (lookW x addr).1.2.1, .bool (lookW x addr).1.2.2, .int .i64 0, .int .i64 0, .int .i64 0, .bool false, .int .i64 0, .int .i64 0, .bool false, .int .i64 0, .slice A1 0 c1, .slice A2 0 c2, .slice A3 0 c3], .int .i64 ((lookW x addr).2 : Int), .bool true]) ∧
        MemAt w' mb mg (oneM x 28).cs (28 + ((lookW x addr).2 : Int)) ∧ ArAt w' ab ag 3 (bornTo 1 1) false false ∧ Only (fun k => CTwo mb mg k ∨ ArTwo ab ag k) w w' := by
  obtain ⟨r1, r2, r3⟩ := look_rs (h := 65537) (one_words hx 28 false) addr
  have hk := lookW_few x addr
  have hcn : (oneM x 28).cnt = 28 := rfl
  refine (all_c (x := wiOf 1 false) M A (wiOf_ok 1 false) (one_fits hx hf 28) (by rw [hcn]; omega) (by rw [r2]; omega) (by rw [r2]; omega) (looks_look (x := wiOf 1 false) 65537 addr (by omega))).mono ?_
  rintro e w' ⟨A1, c1, A2, c2, A3, c3, rfl, hn, hm, ha, ho⟩
  rw [inbs_all _ _ (fun q hq => (r3 q hq).1), r2, hcn] at hm
  have hst := evsW_right (x := wiOf 1 false) ((lookRs (cellOf (wiOf 1 false).fst (wiOf 1 false).l.length 65537) 65537 addr).reads (oneM x 28)) (fun q hq => by rw [(r3 q hq).2]; exact wiOf_right false 0 (by omega))
  rw [hst] at ha
  rw [r1, r2]
  exact ⟨A1, c1, A2, c2, A3, c3, rfl, hm, ha, ho⟩
/-- What was there ahead of a memory and an arena is as it was. -/
theorem one_whole {w0 w w' : World} {mb mg ab ag k : Nat} {t : TypeId} {cs : Array Value} (h : Whole w k t cs) (hk : k < w0.heap.size) (ho : Only (fun k => CTwo mb mg k ∨ ArTwo ab ag k) w w') (h1 : w0.heap.size ≤ mb) (h2 : w0.heap.size ≤ mg) (h3 : w0.heap.size ≤ ab) (h4 : w0.heap.size ≤ ag) : Whole w' k t cs :=
  h.only ho (by rintro ((h5 | h5) | (h5 | h5)) <;> omega)

set_option maxHeartbeats 4000000 in
theorem seekLooks_many {v : Value} {l : List Int} {addr : Int} (w : World) (h : Wds w v l) (hl : 60 < l.length) (hm : l.length ≤ 9223372036854775807) : Calls Try.prog 3 #[v, .int .i64 addr] w fun e w' => e = .returned (.bool true) ∧ Below w.heap.size w w' := by
  have hnot : ∀ (x : Bool) (w : World), (Op.unary .not (.bool x)).run Try.prog w = .ok (.bool (!x)) w := fun _ _ => rfl
  obtain ⟨A, c, rfl⟩ := h.is
  have i1 : decide ((60 : Int) < (l.length : Int)) = true := decide_eq_true (by omega)
  clear h
  generalize l.length = n at *
  go_enter Try.func3, Try.ntmps3
  go_wp2_with fail
  refine (seek_awake _).mono ?_
  rintro e w1 ⟨rfl, hb1⟩
  have B1 := Lib.hid hb1
  clear hb1
  go_wp2_with fail
  refine (seek_awake _).mono ?_
  rintro e w2 ⟨rfl, hb2⟩
  have B2 := Lib.hid (below_then B1.out hb2 (Nat.le_refl _))
  clear hb2 B1
  go_wp2_with fail
  go_ret
  exact ⟨rfl, B2.out⟩
set_option maxRecDepth 4000 in
set_option maxHeartbeats 8000000 in
theorem seekLooks_few {v : Value} {l : List Int} {addr : Int} (w : World) (h : Wds w v l) (hf : Fits l) (hl : l.length ≤ 60) : Calls Try.prog 3 #[v, .int .i64 addr] w fun e w' => e = .returned (.bool true) ∧ Below w.heap.size w w' := by
  have hnot : ∀ (x : Bool) (w : World), (Op.unary .not (.bool x)).run Try.prog w = .ok (.bool (!x)) w := fun _ _ => rfl
  have HW := Lib.hid h
  obtain ⟨A, c, rfl⟩ := h.is
  have i1 : decide ((60 : Int) < (l.length : Int)) = false := decide_eq_false (by omega)
  have WC : Hid (∀ W, Below w.heap.size w W → Calls Try.prog 8 #[.slice A l.length c] W fun e w' => ∃ q, e = .returned (.slice (some ⟨q, 0, none⟩) 28 28) ∧ Whole w' q 2 (nums (w28 l)) ∧ W.heap.size ≤ q ∧ Below W.heap.size W w') := Lib.hid (fun W hb => words_c (HW.out.still hb) hl)
  have HX := Lib.hid (w28_len l)
  have HF := Lib.hid (w28_fits hf)
  clear h hf HW
  generalize w28 l = x at *
  generalize l.length = n at *
  have HK := Lib.hid (lookW_few x addr)
  go_enter Try.func3, Try.ntmps3
  go_wp2_with fail
  refine (seek_awake _).mono ?_
  rintro e w1 ⟨rfl, hb1⟩
  have B1 := Lib.hid hb1
  have W1 := Lib.hid (WC.out _ hb1)
  clear hb1 WC
  go_wp2_with fail
  refine W1.out.mono ?_
  rintro e w2 ⟨q, rfl, hq, hqs, hb2⟩
  have Q2 := Lib.hid hq
  have B2 := Lib.hid (below_then B1.out hb2 (Nat.le_refl _))
  have WD : Hid (∀ W, Whole W q 2 (nums x) → Wds W (.slice (some ⟨q, 0, none⟩) 28 28) x) := Lib.hid (fun W h => by
    have := nums_wds h (c := 28) (by rw [HX.out]; omega)
    rw [HX.out] at this
    exact this)
  have SL := Lib.hid (slots_one (wss_one (WD.out _ hq)) HX.out)
  have B3 := Lib.hid (below_then B2.out (below_new w2 (.cells #[.slice (some ⟨q, 0, none⟩) 28 28] 22)) (Nat.le_refl _))
  have Q3 := Lib.hid (hq.alloc (.cells #[.slice (some ⟨q, 0, none⟩) 28 28] 22))
  clear hq hqs hb2 W1 B1 B2 Q2
  go_wp2_with fail
  refine SL.out.mono ?_
  rintro e w3 ⟨mb, mg, ab, ag, rfl, hm, ha, m1, m2, m3, m4, hb3⟩
  have AL := Lib.hid (all_look (addr := addr) HX.out HF.out hm ha)
  have QL : Hid (q < (w2.alloc (.cells #[.slice (some ⟨q, 0, none⟩) 28 28] 22)).heap.size) := Lib.hid Q3.out.lt
  have Q4 := Lib.hid (Q3.out.below hb3 Q3.out.lt)
  have MM := Lib.hid (⟨m1, m2, m3, m4⟩ : _ ∧ _ ∧ _ ∧ _)
  have M0 : Hid (w.heap.size ≤ mb ∧ w.heap.size ≤ mg ∧ w.heap.size ≤ ab ∧ w.heap.size ≤ ag) := Lib.hid (by have := B3.out.size; omega)
  have B4 := Lib.hid (below_then B3.out hb3 (Nat.le_refl _))
  have RL : Hid (∀ W, Whole W q 2 (nums x) → Calls Try.prog 11 #[.slice (some ⟨q, 0, none⟩) 28 28, .int .i64 addr] W fun e w' => e = .returned (lookWV (lookW x addr)) ∧ Below W.heap.size W w') := Lib.hid (fun W h => refLook_c (WD.out W h) HX.out HF.out addr)
  clear hm ha m1 m2 m3 m4 hb3 SL B3 Q3 WD
  unfold lookWV at RL
  generalize lookW x addr = r at *
  obtain ⟨⟨V, I, O⟩, k⟩ := r
  simp only at HK AL RL
  go_wp2_with fail
  refine AL.out.mono ?_
  rintro e w4 ⟨A1, c1, A2, c2, A3, c3, rfl, hm, ha, ho⟩
  have B5 := Lib.hid (one_below B4.out ho M0.out.1 M0.out.2.1 M0.out.2.2.1 M0.out.2.2.2)
  have Q5 := Lib.hid (one_whole Q4.out QL.out ho MM.out.1 MM.out.2.1 MM.out.2.2.1 MM.out.2.2.2)
  have HM := Lib.hid hm
  have HA := Lib.hid ha
  clear hm ha ho AL Q4 B4 MM M0
  go_upto_region 6 with (fail)
  have V0 := Lib.hid (Whole.new w4 35 #[.int .i64 V, .bool I, .bool O, .int .i64 0, .int .i64 0, .int .i64 0, .bool false, .int .i64 0, .int .i64 0, .bool false, .int .i64 0, .slice A1 0 c1, .slice A2 0 c2, .slice A3 0 c3])
  have HB := below_new w4 (.cells #[.int .i64 V, .bool I, .bool O, .int .i64 0, .int .i64 0, .int .i64 0, .bool false, .int .i64 0, .int .i64 0, .bool false, .int .i64 0, .slice A1 0 c1, .slice A2 0 c2, .slice A3 0 c3] 35)
  have B6 := Lib.hid (below_then B5.out HB (Nat.le_refl _))
  have Q6 := Lib.hid (Q5.out.below HB Q5.out.lt)
  have HM := Lib.hid (HM.out.only (Only.of_below HB (fun _ => False)) id id)
  have HA := Lib.hid (HA.out.still HB)
  clear HB B5 Q5
  generalize hw5 : w4.alloc (.cells #[.int .i64 V, .bool I, .bool O, .int .i64 0, .int .i64 0, .int .i64 0, .bool false, .int .i64 0, .int .i64 0, .bool false, .int .i64 0, .slice A1 0 c1, .slice A2 0 c2, .slice A3 0 c3] 35) = w5 at *
  generalize w4.heap.size = qr at *
  clear hw5
  have R6 := Lib.hid (RL.out _ Q6.out)
  clear RL QL
  go_wp2_with fail
  refine R6.out.mono ?_
  rintro e w6 ⟨rfl, hb6⟩
  have V0 := Lib.hid (V0.out.below hb6 V0.out.lt)
  have B7 := Lib.hid (below_then B6.out hb6 (Nat.le_refl _))
  have HM := Lib.hid (HM.out.only (Only.of_below hb6 (fun _ => False)) id id)
  have HA := Lib.hid (HA.out.still hb6)
  have ST := Lib.hid (stale_any ab false w6 HA.out.c2)
  have CT := Lib.hid (count_any mb _ w6 HM.out.c1)
  clear hb6 B6 Q6 R6 HM HA
  obtain ⟨z0, z1, z2, z3, z4, z5, z6, z7, z8, z9, z10, z11, z12, z13⟩ := row14 V0.out
  have hk := HK.out
  have hw : IntKind.i64.wrap ((k : Int) + 28) = (k : Int) + 28 := by rw [IntKind.wrap_i64]; omega
  have e1 : (28 : Int) + (k : Int) = (k : Int) + 28 := by omega
  rw [e1] at CT
  clear e1 hk HK
  have j1 : (V == V) = true := by simp
  have j2 : (I == I) = true := by simp
  have j3 : (O == O) = true := by simp
  have j4 : ((k : Int) == (k : Int)) = true := by simp
  have j5 : ((k : Int) + 28 == (k : Int) + 28) = true := by simp
  go_wp2_with fail
  refine ST.out.mono ?_
  rintro e w7 ⟨rfl, rfl⟩
  clear ST
  go_wp2_with fail
  refine CT.out.mono ?_
  rintro e w7 ⟨rfl, rfl⟩
  clear CT
  go_wp2_with fail
  go_ret
  exact ⟨rfl, B7.out⟩
theorem seekLooks_any {v : Value} {l : List Int} {addr : Int} (w : World) (h : Wds w v l) (hf : Fits l) (hm : l.length ≤ 9223372036854775807) : Calls Try.prog 3 #[v, .int .i64 addr] w fun e w' => e = .returned (.bool true) ∧ Below w.heap.size w w' := by
  by_cases hl : l.length ≤ 60
  · exact seekLooks_few w h hf hl
  · exact seekLooks_many w h (by omega) hm
end Go.Proofs.Ytiiclmaphiajmaa
