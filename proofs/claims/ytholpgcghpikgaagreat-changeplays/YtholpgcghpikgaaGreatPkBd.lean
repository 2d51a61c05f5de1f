/-
  Texts of our own, one behind the other (BkRef): what the laws' proofs rest on; each says at its head what it holds. No conditions.
-/
import Derived.Test.YtholpgcghpikgaaGreatPkBb
import Derived.Test.YtholpgcghpikgaaGreatPkT0
import Derived.Test.YtholpgcghpikgaaGreatPkH
import Derived.Test.YtholpgcghpikgaaGreatPkB
/-
  Layer 13: the reference's Move: a contract.
-/
namespace Go.Proofs.YtholpgcghpikgaaGreat
open Go.ChangeShapes Go.WideShapes Go.ChangeAt Go.RowKit Go.Shelf
set_option linter.unusedVariables false
attribute [local go_sem ↓] Go.wp_at_zero Go.wp_at_succ

/-- A list, a break, and an answer. -/
def GivesBH (w : World) (Y : List Ar) (n e x : Int) (r : Ending) (w' : World) : Prop := ∃ v', r = .returned (.tuple #[v', .int .i64 n, ansV e x]) ∧ Holds w' v' Y ∧ Below w.heap.size w w'
theorem wpList_want_midB {P : Program} {ops : Array Oper} {rest : List Oper} {op : Oper} {a : Act} {w : World} {Q : Exit → Act → World → Prop} (ty : TypeId) (x : Operand) (ho : op.op = .load ty x) (hg : Region.wanted op (yielded ops a.tmps) = true)
    (b o : Nat) (hx : a.eval x = .pointer (some ⟨b, o, none⟩)) (cs : List Value) (d : TypeDesc) (hc : w.rangeAt b o cs)
    (hu : P.underlying ty = some d) (hd : d.isRow = true) (hi : (P.info? ty).map (·.size) = some cs.length)
    (h : wpList P ops Q rest (a.put op.dst (.agg cs.toArray)) w) : wpList P ops Q (op :: rest) a w :=
  wpList_step fun K hK => by rw [if_pos hg]; exact wp_load_mid ty x ho b o hx cs d hc hu hd hi (hK _ _ h)

/-! Breaks. -/
theorem refBkRight_any (n : Int) : Says 35 #[.int .i64 n] (.bool (decide (bkIn n))) := by
  intro w
  by_cases h1 : 65536 ≤ n
  · by_cases h2 : n ≤ 327680
    · rw [decide_eq_true (show bkIn n from ⟨h1, h2⟩)]
      go_enter Tryz.func35, Tryz.ntmps35
      go_wp2_with fail
      go_ret
      exact ⟨rfl, Below.refl _ _⟩
    · rw [decide_eq_false (fun k : bkIn n => h2 k.2)]
      go_enter Tryz.func35, Tryz.ntmps35
      go_wp2_with fail
      go_ret
      exact ⟨rfl, Below.refl _ _⟩
  · rw [decide_eq_false (fun k : bkIn n => h1 k.1)]
    go_enter Tryz.func35, Tryz.ntmps35
    go_wp2_with fail
    go_ret
    exact ⟨rfl, Below.refl _ _⟩
theorem refBkEnd_any (n : Int) (h : bkIn n) {m : Nat} (hm : bkEnd n = 4096 * (m : Int)) : Says 70 #[.int .i64 n] (.int .i64 (m : Int)) := by
  intro w
  have h1 : 65536 ≤ n := h.1
  have h2 : n ≤ 327680 := h.2
  have e1 : n.tdiv 4096 = n / 4096 := Int.tdiv_eq_ediv_of_nonneg (by omega)
  have e2 : n.tmod 4096 = n % 4096 := Int.tmod_eq_emod_of_nonneg (by omega)
  unfold bkEnd at hm
  clear h
  by_cases h0 : 0 < n % 4096
  · have hv : (m : Int) = n / 4096 + 1 := by omega
    have e3 : IntKind.i64.wrap (n / 4096 + 1) = n / 4096 + 1 := by rw [IntKind.wrap_i64]; omega
    rw [hv]
    clear hv hm
    go_enter Tryz.func70, Tryz.ntmps70
    go_wp2_with fail
    go_ret
    exact ⟨rfl, Below.refl _ _⟩
  · have hv : (m : Int) = n / 4096 := by omega
    rw [hv]
    clear hv hm
    go_enter Tryz.func70, Tryz.ntmps70
    go_wp2_with fail
    go_ret
    exact ⟨rfl, Below.refl _ _⟩

section
variable {w : World} {v : Value} {X : List Ar}
set_option maxRecDepth 100000 in
set_option maxHeartbeats 8000000 in
theorem rb_zero (h : Holds w v X) (hX : MayL X) (now a : Int) (hn : bkIn now) (ha : a = 0) : Calls Tryz.prog 32 #[v, .int .i64 now, .int .i64 a] w (GivesBH w X now 0 now) := by
  have G := Lib.hid ((Bag.new w).add 34 (ansC 0 0))
  have KX := Lib.hid (h.still G.out.bel)
  have HA := Lib.hid h
  obtain ⟨A, cc, rfl⟩ := h.is
  clear h hX hn
  generalize hn : X.length = n at *
  clear hn
  subst ha
  go_enter Tryz.func32, Tryz.ntmps32
  go_wp2_with fail
  refine bodyPost_ret (results_tmp2_row rfl _ _ w.heap.size 34 (ansC 0 now) (0, 0) _ rfl (Whole.new w 34 (ansC 0 now)) Tryz.underlying34 rfl (by kernel_rfl)) rfl ?_
  exact ⟨_, rfl, HA.out.still (below_new _ _), below_new _ _⟩

set_option maxRecDepth 100000 in
set_option maxHeartbeats 8000000 in
theorem rb_range (h : Holds w v X) (hX : MayL X) (now a : Int) (hn : bkIn now) (ha : a ≠ 0) (hb : ¬ bkIn a) : Calls Tryz.prog 32 #[v, .int .i64 now, .int .i64 a] w (GivesBH w X now 4 0) := by
  have G := Lib.hid ((Bag.new w).add 34 (ansC 0 0))
  have KX := Lib.hid (h.still G.out.bel)
  have HA := Lib.hid h
  have CR := Lib.hid (refBkRight_any a)
  rw [decide_eq_false hb] at CR
  clear hn hb
  have ha' : (a == 0) = false := by simpa using ha
  obtain ⟨A, cc, rfl⟩ := h.is
  clear h hX
  generalize hn : X.length = n at *
  clear hn
  go_enter Tryz.func32, Tryz.ntmps32
  go_wp2_with fail
  refine (CR.out _).mono ?_
  rintro e w1 ⟨rfl, hb⟩
  have G := Lib.hid (G.out.still hb)
  have KX := Lib.hid (KX.out.still hb)
  clear hb CR
  obtain ⟨⟨x0, x1, x2, x3, x4, x5⟩, ⟨f0, f1, f2, f3, f4, f5⟩⟩ := six_of G.out.v0
  have HB := Lib.hid (fun x0 x1 x2 x3 x4 x5 => G.out.bel.trans ((six_only _ w.heap.size x0 x1 x2 x3 x4 x5).below (fun k hk => by omega) G.out.bel.size))
  go_wp2_with fail
  refine bodyPost_ret (results_tmp2_row rfl _ _ w.heap.size 34 (ansC 4 0) (0, 0) _ rfl (six_put G.out.v0 _ _ _ _ _ _) Tryz.underlying34 rfl (by kernel_rfl)) rfl ?_
  exact ⟨_, rfl, HA.out.still (HB.out _ _ _ _ _ _), HB.out _ _ _ _ _ _⟩

set_option maxRecDepth 100000 in
set_option maxHeartbeats 8000000 in
theorem rb_space (h : Holds w v X) (hX : MayL X) (now a : Int) (hn : bkIn now) (hb : bkIn a) (hlt : bkEnd now < bkEnd a) (hf : ¬ FitsAt X (bkEnd now) (bkEnd a - bkEnd now)) : Calls Tryz.prog 32 #[v, .int .i64 now, .int .i64 a] w (GivesBH w X now 5 0) := by
  have G := Lib.hid ((Bag.new w).add 34 (ansC 0 0))
  have KX := Lib.hid (h.still G.out.bel)
  have HA := Lib.hid h
  have CR := Lib.hid (refBkRight_any a)
  rw [decide_eq_true hb] at CR
  have n1 := bkEnd_num hn
  have n2 := bkEnd_num hb
  obtain ⟨m0, hm0⟩ : ∃ m0 : Nat, bkEnd now = 4096 * (m0 : Int) := ⟨(bkEnd now / 4096).toNat, by omega⟩
  obtain ⟨m1, hm1⟩ : ∃ m1 : Nat, bkEnd a = 4096 * (m1 : Int) := ⟨(bkEnd a / 4096).toNat, by omega⟩
  have CE0 := Lib.hid (refBkEnd_any now hn hm0)
  have CE1 := Lib.hid (refBkEnd_any a hb hm1)
  have CO : Hid (∀ w' u, Holds w' u X → Calls Tryz.prog 63 #[u] w' fun e w'' => e = .returned (.agg (spl (spK X X.length) 512).toArray) ∧ Below w'.heap.size w' w'') := Lib.hid (fun w' u h => by
    obtain ⟨A, c, rfl, hc, hA⟩ := h
    exact ofL_any X hX.1 A c w' hA)
  have ha' : (a == 0) = false := by have := hb.1; simp; omega
  have nm : 16 ≤ m0 ∧ m0 ≤ 80 ∧ 16 ≤ m1 ∧ m1 ≤ 80 := by omega
  have hlt2 : m0 < m1 := by omega
  have hz2 : (m0 : Int) < (m1 : Int) := by omega
  have hsub : (m1 : Int) - (m0 : Int) = ((m1 - m0 : Nat) : Int) := by omega
  have hww : IntKind.i64.wrap ((m1 : Int) - (m0 : Int)) = (m1 : Int) - (m0 : Int) := by rw [IntKind.wrap_i64]; omega
  have CF : Hid (∀ w', Calls Tryz.prog 68 #[.agg (spl (spK X X.length) 512).toArray, .int .i64 (m0 : Int), .int .i64 ((m1 : Int) - (m0 : Int))] w' fun e w'' => e = .returned (.bool false) ∧ Below w'.heap.size w' w'') := Lib.hid (fun w' => by
    rw [hsub]
    refine free_any _ m0 (m1 - m0) (by omega) (by omega) ⟨fun k => (by cases k), fun k => ?_⟩ w'
    refine absurd ((free_fits hX.1 m0 (m1 - m0)).1 k) ?_
    rw [← hm0, show 4096 * ((m1 - m0 : Nat) : Int) = bkEnd a - bkEnd now by omega]
    exact hf)
  clear hf hlt hsub hm0 hm1
  obtain ⟨nm1, nm2, nm3, nm4⟩ := nm
  clear n1 n2 hn hb
  generalize spK X X.length = s at *
  obtain ⟨A, cc, rfl⟩ := h.is
  clear h hX
  generalize hn : X.length = n at *
  clear hn
  go_enter Tryz.func32, Tryz.ntmps32
  go_wp2_with fail
  refine (CR.out _).mono ?_
  rintro e w1 ⟨rfl, hb⟩
  have G := Lib.hid (G.out.still hb)
  have KX := Lib.hid (KX.out.still hb)
  clear hb CR
  go_wp2_with fail
  refine (CE0.out _).mono ?_
  rintro e w2 ⟨rfl, hb⟩
  have G := Lib.hid (G.out.still hb)
  have KX := Lib.hid (KX.out.still hb)
  clear hb CE0
  go_wp2_with fail
  refine (CE1.out _).mono ?_
  rintro e w3 ⟨rfl, hb⟩
  have G := Lib.hid (G.out.still hb)
  have KX := Lib.hid (KX.out.still hb)
  clear hb CE1
  go_wp2_with fail
  refine (CO.out _ _ KX.out).mono ?_
  rintro e w4 ⟨rfl, hb⟩
  have G := Lib.hid (G.out.still hb)
  have KX := Lib.hid (KX.out.still hb)
  clear hb CO
  have HC := Lib.hid (ChAt.new (Below.refl w4.heap.size w4) s)
  have TH : Hid ((w4.alloc (.cells Tryz.zeroCells97 97)).there w4.heap.size 0 (spl s 512).toArray.size) := Lib.hid (SpIn.there (s := fun _ => none) (by rw [zero_spc]; exact Whole.new _ _ _))
  have KX := Lib.hid (KX.out.still HC.out.bel)
  have HQ : Hid (w.heap.size ≤ w4.heap.size ∧ w4.heap.size ≠ w.heap.size) := Lib.hid (by have := (G.out.v0).lt; omega)
  have G := Lib.hid ((G.out.still HC.out.bel).join HC.out.s)
  clear HC
  go_upto_region 7 with (refine wpList_store_mid rfl 97 (.tmp 11) (.tmp 31) (by rfl) w4.heap.size 0 (spl s 512).toArray (by rfl) (by rfl) TH.out (space_size' _) (spl_one _ _) ?_)
  generalize w4.heap.size = q at *
  clear TH
  generalize World.setCells _ _ _ _ = W1 at *
  go_wp2_with (refine wpList_want_midB 97 (.tmp 11) rfl (by rfl) q 0 (by rfl) (spl s 512) _ (SpIn.range (G.out.v0)) Tryz.underlying97 rfl (space_size _) ?_)
  refine (CF.out _).mono ?_
  rintro e w5 ⟨rfl, hb⟩
  have G := Lib.hid (G.out.still hb)
  have KX := Lib.hid (KX.out.still hb)
  clear hb CF
  obtain ⟨⟨x0, x1, x2, x3, x4, x5⟩, ⟨f0, f1, f2, f3, f4, f5⟩⟩ := six_of G.out.v1
  have HB := Lib.hid (fun x0 x1 x2 x3 x4 x5 => G.out.bel.trans ((six_only _ w.heap.size x0 x1 x2 x3 x4 x5).below (fun k hk => by omega) G.out.bel.size))
  go_wp2_with fail
  refine bodyPost_ret (results_tmp2_row rfl _ _ w.heap.size 34 (ansC 5 0) (0, 0) _ rfl (six_put G.out.v1 _ _ _ _ _ _) Tryz.underlying34 rfl (by kernel_rfl)) rfl ?_
  exact ⟨_, rfl, HA.out.still (HB.out _ _ _ _ _ _), HB.out _ _ _ _ _ _⟩

set_option maxRecDepth 100000 in
set_option maxHeartbeats 8000000 in
theorem rb_put (h : Holds w v X) (hX : MayL X) (now a : Int) (hn : bkIn now) (hb : bkIn a) {m0 m1 : Nat} (hm0 : bkEnd now = 4096 * (m0 : Int)) (hm1 : bkEnd a = 4096 * (m1 : Int)) (hlt : bkEnd now < bkEnd a) (hf : FitsAt X (bkEnd now) (bkEnd a - bkEnd now)) {Y Z : List Ar} {ae ax nx : Int} (hY : listTo (withS (spK X X.length) (bkA (4096 * (m0 : Int)) (4096 * (m1 : Int)))) 512 = Y) (hZ : (24 < Y.length ∧ Z = X ∧ ae = 9 ∧ ax = 0) ∨ (Y.length ≤ 24 ∧ Z = Y ∧ ae = 0 ∧ ax = a)) (hx : (ae = 9 ∧ nx = now) ∨ (ae = 0 ∧ nx = a)) : Calls Tryz.prog 32 #[v, .int .i64 now, .int .i64 a] w (GivesBH w Z nx ae ax) := by
  have G := Lib.hid ((Bag.new w).add 34 (ansC 0 0))
  have KX := Lib.hid (h.still G.out.bel)
  have HA := Lib.hid h
  have CR := Lib.hid (refBkRight_any a)
  rw [decide_eq_true hb] at CR
  have n1 := bkEnd_num hn
  have n2 := bkEnd_num hb
  have CE0 := Lib.hid (refBkEnd_any now hn hm0)
  have CE1 := Lib.hid (refBkEnd_any a hb hm1)
  have CO : Hid (∀ w' u, Holds w' u X → Calls Tryz.prog 63 #[u] w' fun e w'' => e = .returned (.agg (spl (spK X X.length) 512).toArray) ∧ Below w'.heap.size w' w'') := Lib.hid (fun w' u h => by
    obtain ⟨A, c, rfl, hc, hA⟩ := h
    exact ofL_any X hX.1 A c w' hA)
  have ha' : (a == 0) = false := by have := hb.1; simp; omega
  have nm : 16 ≤ m0 ∧ m0 ≤ 80 ∧ 16 ≤ m1 ∧ m1 ≤ 80 := by omega
  have hlt2 : m0 < m1 := by omega
  have hz2 : (m0 : Int) < (m1 : Int) := by omega
  have hsub : (m1 : Int) - (m0 : Int) = ((m1 - m0 : Nat) : Int) := by omega
  have hww : IntKind.i64.wrap ((m1 : Int) - (m0 : Int)) = (m1 : Int) - (m0 : Int) := by rw [IntKind.wrap_i64]; omega
  have hw0 : IntKind.i64.wrap (4096 * (m0 : Int)) = 4096 * (m0 : Int) := by rw [IntKind.wrap_i64]; omega
  have hw1 : IntKind.i64.wrap (4096 * (m1 : Int)) = 4096 * (m1 : Int) := by rw [IntKind.wrap_i64]; omega
  have hfo : Formed (bkA (4096 * (m0 : Int)) (4096 * (m1 : Int))) := by rw [← hm0, ← hm1]; exact fits_formed (X := X) hn hb hlt
  have CF : Hid (∀ w', Calls Tryz.prog 68 #[.agg (spl (spK X X.length) 512).toArray, .int .i64 (m0 : Int), .int .i64 ((m1 : Int) - (m0 : Int))] w' fun e w'' => e = .returned (.bool true) ∧ Below w'.heap.size w' w'') := Lib.hid (fun w' => by
    rw [hsub]
    refine free_any _ m0 (m1 - m0) (by omega) (by omega) ⟨fun k => ?_, fun _ => rfl⟩ w'
    refine (free_fits hX.1 m0 (m1 - m0)).2 ?_
    rw [← hm0, show 4096 * ((m1 - m0 : Nat) : Int) = bkEnd a - bkEnd now by omega]
    exact hf)
  have CW : Hid (∀ w', Calls Tryz.prog 62 #[.agg (spl (spK X X.length) 512).toArray, .int .i64 (4096 * (m0 : Int)), .int .i64 (4096 * (m1 : Int)), .agg #[.int .i64 3, .bool false, .int .i64 0, .int .i64 0]] w' fun e w'' => e = .returned (.agg (spl (withS (spK X X.length) (bkA (4096 * (m0 : Int)) (4096 * (m1 : Int)))) 512).toArray) ∧ Below w'.heap.size w' w'') := Lib.hid (fun w' => with_any _ _ hfo w')
  have CK : Hid (∀ w' u, Holds w' u X → Calls Tryz.prog 61 #[u, .agg (spl (withS (spK X X.length) (bkA (4096 * (m0 : Int)) (4096 * (m1 : Int)))) 512).toArray, .int .i64 a] w' fun e w'' => ∃ v', e = .returned (.tuple #[v', .agg #[.int .i64 ae, .int .i64 ax, .int .i64 0, .bool false, .int .i64 0, .int .i64 0]]) ∧ ((v' = u ∧ Z = X) ∨ Mine w'.heap.size w'' v' Z) ∧ Below w'.heap.size w' w'') := Lib.hid (fun w' u h => refKept_c h _ (with_good (spK_good hX.1) hfo) hY a hZ)
  have hZ' : (Z = X ∧ ae = 9 ∧ ax = 0 ∧ nx = now) ∨ (ae = 0 ∧ nx = a) := by
    rcases hZ with ⟨_, h1, h2, h3⟩ | ⟨_, _, h2, _⟩
    · rcases hx with ⟨_, h4⟩ | ⟨h4, _⟩
      · exact .inl ⟨h1, h2, h3, h4⟩
      · omega
    · rcases hx with ⟨h4, _⟩ | ⟨_, h4⟩
      · omega
      · exact .inr ⟨h2, h4⟩
  clear hf hlt hsub hm0 hm1 hfo hY hZ hx
  obtain ⟨nm1, nm2, nm3, nm4⟩ := nm
  clear n1 n2 hn hb
  generalize withS (spK X X.length) (bkA (4096 * (m0 : Int)) (4096 * (m1 : Int))) = s2 at *
  generalize spK X X.length = s at *
  obtain ⟨A, cc, rfl⟩ := h.is
  clear h hX
  generalize hn : X.length = n at *
  clear hn
  go_enter Tryz.func32, Tryz.ntmps32
  go_wp2_with fail
  refine (CR.out _).mono ?_
  rintro e w1 ⟨rfl, hb⟩
  have G := Lib.hid (G.out.still hb)
  have KX := Lib.hid (KX.out.still hb)
  clear hb CR
  go_wp2_with fail
  refine (CE0.out _).mono ?_
  rintro e w2 ⟨rfl, hb⟩
  have G := Lib.hid (G.out.still hb)
  have KX := Lib.hid (KX.out.still hb)
  clear hb CE0
  go_wp2_with fail
  refine (CE1.out _).mono ?_
  rintro e w3 ⟨rfl, hb⟩
  have G := Lib.hid (G.out.still hb)
  have KX := Lib.hid (KX.out.still hb)
  clear hb CE1
  go_wp2_with fail
  refine (CO.out _ _ KX.out).mono ?_
  rintro e w4 ⟨rfl, hb⟩
  have G := Lib.hid (G.out.still hb)
  have KX := Lib.hid (KX.out.still hb)
  clear hb CO
  have HC := Lib.hid (ChAt.new (Below.refl w4.heap.size w4) s)
  have TH : Hid ((w4.alloc (.cells Tryz.zeroCells97 97)).there w4.heap.size 0 (spl s 512).toArray.size) := Lib.hid (SpIn.there (s := fun _ => none) (by rw [zero_spc]; exact Whole.new _ _ _))
  have KX := Lib.hid (KX.out.still HC.out.bel)
  have HQ : Hid (w.heap.size ≤ w4.heap.size ∧ w4.heap.size ≠ w.heap.size) := Lib.hid (by have := (G.out.v0).lt; omega)
  have G := Lib.hid ((G.out.still HC.out.bel).join HC.out.s)
  clear HC
  go_upto_region 7 with (refine wpList_store_mid rfl 97 (.tmp 11) (.tmp 31) (by rfl) w4.heap.size 0 (spl s 512).toArray (by rfl) (by rfl) TH.out (space_size' _) (spl_one _ _) ?_)
  generalize w4.heap.size = q at *
  clear TH
  generalize World.setCells _ _ _ _ = W1 at *
  go_wp2_with (refine wpList_want_midB 97 (.tmp 11) rfl (by rfl) q 0 (by rfl) (spl s 512) _ (SpIn.range (G.out.v0)) Tryz.underlying97 rfl (space_size _) ?_)
  refine (CF.out _).mono ?_
  rintro e w5 ⟨rfl, hb⟩
  have G := Lib.hid (G.out.still hb)
  have KX := Lib.hid (KX.out.still hb)
  clear hb CF
  go_wp2_with (refine wpList_load_mid rfl 97 (.tmp 11) (by rfl) q 0 (by rfl) (spl s 512) _ (SpIn.range (G.out.v0)) Tryz.underlying97 rfl (space_size _) ?_)
  refine (CW.out _).mono ?_
  rintro e w6 ⟨rfl, hb⟩
  have G := Lib.hid (G.out.still hb)
  have KX := Lib.hid (KX.out.still hb)
  clear hb CW
  have TH : Hid (w6.there q 0 (spl s2 512).toArray.size) := Lib.hid (SpIn.there (G.out.v0))
  have HS2 : Hid (SpIn (w6.setCells q 0 (spl s2 512)) q s2) := Lib.hid (SpIn.all (G.out.v0))
  have ho := only_many (q := q) (spl s2 512) 0 w6
  have HKX : Hid (Holds (w6.setCells q 0 (spl s2 512)) (.slice A n cc) X) := Lib.hid (HA.out.still (G.out.bel.trans (ho.below (fun k hk => by have := HQ.out; omega) G.out.bel.size)))
  have G : Hid (Bag w (w6.setCells q 0 (spl s2 512)) [(q, 97, spc s2), (w.heap.size, 34, ansC 0 0)]) := Lib.hid (by
    have h3 := G.out.v1.only ho (fun e => HQ.out.2 e.symm)
    refine ⟨fun x hx => ?_, G.out.bel.trans (ho.below (fun k hk => by have := HQ.out; omega) G.out.bel.size)⟩
    simp only [List.mem_cons, List.not_mem_nil, or_false] at hx
    rcases hx with rfl | rfl
    · exact HS2.out
    · exact h3)
  clear ho KX HS2
  have KX := HKX
  clear HKX
  go_upto_region 12 with (refine wpList_store_mid rfl 97 (.tmp 11) (.tmp 56) (by rfl) q 0 (spl s2 512).toArray (by rfl) (by rfl) TH.out (space_size' _) (spl_one _ _) ?_)
  clear TH
  generalize World.setCells _ _ _ _ = W3 at *
  go_wp2_with (refine wpList_load_mid rfl 97 (.tmp 11) (by rfl) q 0 (by rfl) (spl s2 512) _ (SpIn.range (G.out.v0)) Tryz.underlying97 rfl (space_size _) ?_)
  refine (CK.out _ _ KX.out).mono ?_
  rintro e w7 ⟨v7, rfl, hh, hb⟩
  have SZ0 := Lib.hid G.out.bel.size
  have G := Lib.hid ((G.out.still hb).add 34 #[.int .i64 ae, .int .i64 ax, .int .i64 0, .bool false, .int .i64 0, .int .i64 0])
  have BN := below_new w7 (.cells #[.int .i64 ae, .int .i64 ax, .int .i64 0, .bool false, .int .i64 0, .int .i64 0] 34)
  have HH : Hid (Holds (w7.alloc (.cells #[.int .i64 ae, .int .i64 ax, .int .i64 0, .bool false, .int .i64 0, .int .i64 0] 34)) v7 Z ∧ ((v7 = .slice A n cc ∧ Z = X) ∨ Mine w.heap.size (w7.alloc (.cells #[.int .i64 ae, .int .i64 ax, .int .i64 0, .bool false, .int .i64 0, .int .i64 0] 34)) v7 Z)) := Lib.hid (by
    have SZ := SZ0.out
    rcases hh with ⟨rfl, rfl⟩ | hm
    · exact ⟨(KX.out.still hb).still BN, .inl ⟨rfl, rfl⟩⟩
    · exact ⟨(hm.still BN).holds, .inr ((hm.base SZ).still BN)⟩)
  clear hh hb CK KX BN SZ0
  go_upto_region 13 with (fail)
  generalize hw8 : World.alloc w7 _ = w8 at *
  clear hw8
  generalize w7.heap.size = qa at *
  obtain ⟨d0, d1, d2, d3, d4, d5⟩ := row6 G.out.v0
  obtain ⟨⟨g0, g1, g2, g3, g4, g5⟩, ⟨f0, f1, f2, f3, f4, f5⟩⟩ := six_of G.out.v2
  rcases hZ' with ⟨rfl, rfl, rfl, rfl⟩ | ⟨rfl, rfl⟩
  · go_upto_region 14 with (fail)
    go_region
    have GW : Hid (Whole (set6 w8 w.heap.size (.int .i64 9) (.int .i64 0) (.int .i64 0) (.bool false) (.int .i64 0) (.int .i64 0)).drew w.heap.size 34 (ansC 9 0)) := Lib.hid (six_put G.out.v2 _ _ _ _ _ _).drew
    have HB : Hid (Below w.heap.size w (set6 w8 w.heap.size (.int .i64 9) (.int .i64 0) (.int .i64 0) (.bool false) (.int .i64 0) (.int .i64 0)).drew) := Lib.hid (below_drew (G.out.bel.trans ((six_only w8 w.heap.size _ _ _ _ _ _).below (fun k hk => by omega) G.out.bel.size)))
    clear G HH d0 d1 d2 d3 d4 d5 g0 g1 g2 g3 g4 g5 f0 f1 f2 f3 f4 f5
    unfold set6 at GW HB
    generalize World.drew _ = wz at *
    go_wp2_with fail
    refine bodyPost_ret (results_tmp2_row rfl _ _ w.heap.size 34 (ansC 9 0) (0, 0) _ rfl GW.out Tryz.underlying34 rfl (by kernel_rfl)) rfl ?_
    exact ⟨_, rfl, HA.out.still HB.out, HB.out⟩
  · go_upto_region 15 with (fail)
    go_region
    have GW : Hid (Whole (set6 w8 w.heap.size (.int .i64 0) (.int .i64 ax) (.int .i64 0) (.bool false) (.int .i64 0) (.int .i64 0)).drew w.heap.size 34 (ansC 0 ax)) := Lib.hid (six_put G.out.v2 _ _ _ _ _ _).drew
    have HB : Hid (Below w.heap.size w (set6 w8 w.heap.size (.int .i64 0) (.int .i64 ax) (.int .i64 0) (.bool false) (.int .i64 0) (.int .i64 0)).drew) := Lib.hid (below_drew (G.out.bel.trans ((six_only w8 w.heap.size _ _ _ _ _ _).below (fun k hk => by omega) G.out.bel.size)))
    have MM : Hid (Holds (set6 w8 w.heap.size (.int .i64 0) (.int .i64 ax) (.int .i64 0) (.bool false) (.int .i64 0) (.int .i64 0)).drew v7 Z) := Lib.hid (by
      rcases HH.out.2 with ⟨rfl, rfl⟩ | hm
      · exact HA.out.still HB.out
      · exact ((mine_far hm G.out.v2 _ _ _ _ _ _).still (below_drew (Below.refl _ _))).holds)
    clear G HH d0 d1 d2 d3 d4 d5 g0 g1 g2 g3 g4 g5 f0 f1 f2 f3 f4 f5
    unfold set6 at GW MM HB
    generalize World.drew _ = wz at *
    go_wp2_with fail
    refine bodyPost_ret (results_tmp2_row rfl _ _ w.heap.size 34 (ansC 0 ax) (0, 0) _ rfl GW.out Tryz.underlying34 rfl (by kernel_rfl)) rfl ?_
    exact ⟨_, rfl, MM.out, HB.out⟩

set_option maxRecDepth 100000 in
set_option maxHeartbeats 8000000 in
theorem rb_cut (h : Holds w v X) (hX : MayL X) (now a : Int) (hn : bkIn now) (hb : bkIn a) {m0 m1 : Nat} (hm0 : bkEnd now = 4096 * (m0 : Int)) (hm1 : bkEnd a = 4096 * (m1 : Int)) (hlt : ¬ bkEnd now < bkEnd a) {Y Z : List Ar} {ae ax nx : Int} (hY : listTo (cutTo (spK X X.length) m1 m0) 512 = Y) (hZ : (24 < Y.length ∧ Z = X ∧ ae = 9 ∧ ax = 0) ∨ (Y.length ≤ 24 ∧ Z = Y ∧ ae = 0 ∧ ax = a)) (hx : (ae = 9 ∧ nx = now) ∨ (ae = 0 ∧ nx = a)) : Calls Tryz.prog 32 #[v, .int .i64 now, .int .i64 a] w (GivesBH w Z nx ae ax) := by
  have G := Lib.hid ((Bag.new w).add 34 (ansC 0 0))
  have KX := Lib.hid (h.still G.out.bel)
  have HA := Lib.hid h
  have CR := Lib.hid (refBkRight_any a)
  rw [decide_eq_true hb] at CR
  have n1 := bkEnd_num hn
  have n2 := bkEnd_num hb
  have CE0 := Lib.hid (refBkEnd_any now hn hm0)
  have CE1 := Lib.hid (refBkEnd_any a hb hm1)
  have CO : Hid (∀ w' u, Holds w' u X → Calls Tryz.prog 63 #[u] w' fun e w'' => e = .returned (.agg (spl (spK X X.length) 512).toArray) ∧ Below w'.heap.size w' w'') := Lib.hid (fun w' u h => by
    obtain ⟨A, c, rfl, hc, hA⟩ := h
    exact ofL_any X hX.1 A c w' hA)
  have ha' : (a == 0) = false := by have := hb.1; simp; omega
  have nm : 16 ≤ m0 ∧ m0 ≤ 80 ∧ 16 ≤ m1 ∧ m1 ≤ 80 := by omega
  have hz2 : ¬ (m0 : Int) < (m1 : Int) := by omega
  have hz3 : decide (m0 < m1) = false := decide_eq_false (by omega)
  have hz4 : ¬ m0 < m1 := by omega
  have hw0 : IntKind.i64.wrap (4096 * (m0 : Int)) = 4096 * (m0 : Int) := by rw [IntKind.wrap_i64]; omega
  have hw1 : IntKind.i64.wrap (4096 * (m1 : Int)) = 4096 * (m1 : Int) := by rw [IntKind.wrap_i64]; omega
  have CW : Hid (∀ w', Calls Tryz.prog 65 #[.agg (spl (spK X X.length) 512).toArray, .int .i64 (4096 * (m1 : Int)), .int .i64 (4096 * (m0 : Int))] w' fun e w'' => e = .returned (.agg (spl (cutTo (spK X X.length) m1 m0) 512).toArray) ∧ Below w'.heap.size w' w'') := Lib.hid (fun w' => without_any _ m1 m0 (by omega) (by omega) w')
  have CK : Hid (∀ w' u, Holds w' u X → Calls Tryz.prog 61 #[u, .agg (spl (cutTo (spK X X.length) m1 m0) 512).toArray, .int .i64 a] w' fun e w'' => ∃ v', e = .returned (.tuple #[v', .agg #[.int .i64 ae, .int .i64 ax, .int .i64 0, .bool false, .int .i64 0, .int .i64 0]]) ∧ ((v' = u ∧ Z = X) ∨ Mine w'.heap.size w'' v' Z) ∧ Below w'.heap.size w' w'') := Lib.hid (fun w' u h => refKept_c h _ (cutTo_good (spK_good hX.1) _ _) hY a hZ)
  have hZ' : (Z = X ∧ ae = 9 ∧ ax = 0 ∧ nx = now) ∨ (ae = 0 ∧ nx = a) := by
    rcases hZ with ⟨_, h1, h2, h3⟩ | ⟨_, _, h2, _⟩
    · rcases hx with ⟨_, h4⟩ | ⟨h4, _⟩
      · exact .inl ⟨h1, h2, h3, h4⟩
      · omega
    · rcases hx with ⟨h4, _⟩ | ⟨_, h4⟩
      · omega
      · exact .inr ⟨h2, h4⟩
  clear hlt hm0 hm1 hY hZ hx
  obtain ⟨nm1, nm2, nm3, nm4⟩ := nm
  clear n1 n2 hn hb
  generalize cutTo (spK X X.length) m1 m0 = s2 at *
  generalize spK X X.length = s at *
  obtain ⟨A, cc, rfl⟩ := h.is
  clear h hX
  generalize hn : X.length = n at *
  clear hn
  go_enter Tryz.func32, Tryz.ntmps32
  go_wp2_with fail
  refine (CR.out _).mono ?_
  rintro e w1 ⟨rfl, hb⟩
  have G := Lib.hid (G.out.still hb)
  have KX := Lib.hid (KX.out.still hb)
  clear hb CR
  go_wp2_with fail
  refine (CE0.out _).mono ?_
  rintro e w2 ⟨rfl, hb⟩
  have G := Lib.hid (G.out.still hb)
  have KX := Lib.hid (KX.out.still hb)
  clear hb CE0
  go_wp2_with fail
  refine (CE1.out _).mono ?_
  rintro e w3 ⟨rfl, hb⟩
  have G := Lib.hid (G.out.still hb)
  have KX := Lib.hid (KX.out.still hb)
  clear hb CE1
  go_wp2_with fail
  refine (CO.out _ _ KX.out).mono ?_
  rintro e w4 ⟨rfl, hb⟩
  have G := Lib.hid (G.out.still hb)
  have KX := Lib.hid (KX.out.still hb)
  clear hb CO
  have HC := Lib.hid (ChAt.new (Below.refl w4.heap.size w4) s)
  have TH : Hid ((w4.alloc (.cells Tryz.zeroCells97 97)).there w4.heap.size 0 (spl s 512).toArray.size) := Lib.hid (SpIn.there (s := fun _ => none) (by rw [zero_spc]; exact Whole.new _ _ _))
  have KX := Lib.hid (KX.out.still HC.out.bel)
  have HQ : Hid (w.heap.size ≤ w4.heap.size ∧ w4.heap.size ≠ w.heap.size) := Lib.hid (by have := (G.out.v0).lt; omega)
  have G := Lib.hid ((G.out.still HC.out.bel).join HC.out.s)
  clear HC
  go_upto_region 7 with (refine wpList_store_mid rfl 97 (.tmp 11) (.tmp 31) (by rfl) w4.heap.size 0 (spl s 512).toArray (by rfl) (by rfl) TH.out (space_size' _) (spl_one _ _) ?_)
  generalize w4.heap.size = q at *
  clear TH
  generalize World.setCells _ _ _ _ = W1 at *
  go_wp2_with (refine wpList_load_mid rfl 97 (.tmp 11) (by rfl) q 0 (by rfl) (spl s 512) _ (SpIn.range (G.out.v0)) Tryz.underlying97 rfl (space_size _) ?_)
  refine (CW.out _).mono ?_
  rintro e w6 ⟨rfl, hb⟩
  have G := Lib.hid (G.out.still hb)
  have KX := Lib.hid (KX.out.still hb)
  clear hb CW
  have TH : Hid (w6.there q 0 (spl s2 512).toArray.size) := Lib.hid (SpIn.there (G.out.v0))
  have HS2 : Hid (SpIn (w6.setCells q 0 (spl s2 512)) q s2) := Lib.hid (SpIn.all (G.out.v0))
  have ho := only_many (q := q) (spl s2 512) 0 w6
  have HKX : Hid (Holds (w6.setCells q 0 (spl s2 512)) (.slice A n cc) X) := Lib.hid (HA.out.still (G.out.bel.trans (ho.below (fun k hk => by have := HQ.out; omega) G.out.bel.size)))
  have G : Hid (Bag w (w6.setCells q 0 (spl s2 512)) [(q, 97, spc s2), (w.heap.size, 34, ansC 0 0)]) := Lib.hid (by
    have h3 := G.out.v1.only ho (fun e => HQ.out.2 e.symm)
    refine ⟨fun x hx => ?_, G.out.bel.trans (ho.below (fun k hk => by have := HQ.out; omega) G.out.bel.size)⟩
    simp only [List.mem_cons, List.not_mem_nil, or_false] at hx
    rcases hx with rfl | rfl
    · exact HS2.out
    · exact h3)
  clear ho KX HS2
  have KX := HKX
  clear HKX
  go_upto_region 12 with (refine wpList_store_mid rfl 97 (.tmp 11) (.tmp 62) (by rfl) q 0 (spl s2 512).toArray (by rfl) (by rfl) TH.out (space_size' _) (spl_one _ _) ?_)
  clear TH
  generalize World.setCells _ _ _ _ = W3 at *
  go_wp2_with (refine wpList_load_mid rfl 97 (.tmp 11) (by rfl) q 0 (by rfl) (spl s2 512) _ (SpIn.range (G.out.v0)) Tryz.underlying97 rfl (space_size _) ?_)
  refine (CK.out _ _ KX.out).mono ?_
  rintro e w7 ⟨v7, rfl, hh, hb⟩
  have SZ0 := Lib.hid G.out.bel.size
  have G := Lib.hid ((G.out.still hb).add 34 #[.int .i64 ae, .int .i64 ax, .int .i64 0, .bool false, .int .i64 0, .int .i64 0])
  have BN := below_new w7 (.cells #[.int .i64 ae, .int .i64 ax, .int .i64 0, .bool false, .int .i64 0, .int .i64 0] 34)
  have HH : Hid (Holds (w7.alloc (.cells #[.int .i64 ae, .int .i64 ax, .int .i64 0, .bool false, .int .i64 0, .int .i64 0] 34)) v7 Z ∧ ((v7 = .slice A n cc ∧ Z = X) ∨ Mine w.heap.size (w7.alloc (.cells #[.int .i64 ae, .int .i64 ax, .int .i64 0, .bool false, .int .i64 0, .int .i64 0] 34)) v7 Z)) := Lib.hid (by
    have SZ := SZ0.out
    rcases hh with ⟨rfl, rfl⟩ | hm
    · exact ⟨(KX.out.still hb).still BN, .inl ⟨rfl, rfl⟩⟩
    · exact ⟨(hm.still BN).holds, .inr ((hm.base SZ).still BN)⟩)
  clear hh hb CK KX BN SZ0
  go_upto_region 13 with (fail)
  generalize hw8 : World.alloc w7 _ = w8 at *
  clear hw8
  generalize w7.heap.size = qa at *
  obtain ⟨d0, d1, d2, d3, d4, d5⟩ := row6 G.out.v0
  obtain ⟨⟨g0, g1, g2, g3, g4, g5⟩, ⟨f0, f1, f2, f3, f4, f5⟩⟩ := six_of G.out.v2
  rcases hZ' with ⟨rfl, rfl, rfl, rfl⟩ | ⟨rfl, rfl⟩
  · go_upto_region 14 with (fail)
    go_region
    have GW : Hid (Whole (set6 w8 w.heap.size (.int .i64 9) (.int .i64 0) (.int .i64 0) (.bool false) (.int .i64 0) (.int .i64 0)).drew w.heap.size 34 (ansC 9 0)) := Lib.hid (six_put G.out.v2 _ _ _ _ _ _).drew
    have HB : Hid (Below w.heap.size w (set6 w8 w.heap.size (.int .i64 9) (.int .i64 0) (.int .i64 0) (.bool false) (.int .i64 0) (.int .i64 0)).drew) := Lib.hid (below_drew (G.out.bel.trans ((six_only w8 w.heap.size _ _ _ _ _ _).below (fun k hk => by omega) G.out.bel.size)))
    clear G HH d0 d1 d2 d3 d4 d5 g0 g1 g2 g3 g4 g5 f0 f1 f2 f3 f4 f5
    unfold set6 at GW HB
    generalize World.drew _ = wz at *
    go_wp2_with fail
    refine bodyPost_ret (results_tmp2_row rfl _ _ w.heap.size 34 (ansC 9 0) (0, 0) _ rfl GW.out Tryz.underlying34 rfl (by kernel_rfl)) rfl ?_
    exact ⟨_, rfl, HA.out.still HB.out, HB.out⟩
  · go_upto_region 15 with (fail)
    go_region
    have GW : Hid (Whole (set6 w8 w.heap.size (.int .i64 0) (.int .i64 ax) (.int .i64 0) (.bool false) (.int .i64 0) (.int .i64 0)).drew w.heap.size 34 (ansC 0 ax)) := Lib.hid (six_put G.out.v2 _ _ _ _ _ _).drew
    have HB : Hid (Below w.heap.size w (set6 w8 w.heap.size (.int .i64 0) (.int .i64 ax) (.int .i64 0) (.bool false) (.int .i64 0) (.int .i64 0)).drew) := Lib.hid (below_drew (G.out.bel.trans ((six_only w8 w.heap.size _ _ _ _ _ _).below (fun k hk => by omega) G.out.bel.size)))
    have MM : Hid (Holds (set6 w8 w.heap.size (.int .i64 0) (.int .i64 ax) (.int .i64 0) (.bool false) (.int .i64 0) (.int .i64 0)).drew v7 Z) := Lib.hid (by
      rcases HH.out.2 with ⟨rfl, rfl⟩ | hm
      · exact HA.out.still HB.out
      · exact ((mine_far hm G.out.v2 _ _ _ _ _ _).still (below_drew (Below.refl _ _))).holds)
    clear G HH d0 d1 d2 d3 d4 d5 g0 g1 g2 g3 g4 g5 f0 f1 f2 f3 f4 f5
    unfold set6 at GW MM HB
    generalize World.drew _ = wz at *
    go_wp2_with fail
    refine bodyPost_ret (results_tmp2_row rfl _ _ w.heap.size 34 (ansC 0 ax) (0, 0) _ rfl GW.out Tryz.underlying34 rfl (by kernel_rfl)) rfl ?_
    exact ⟨_, rfl, MM.out, HB.out⟩


theorem refMove_c (h : Holds w v X) (hX : MayL X) (now a : Int) (hn : bkIn now) : Calls Tryz.prog 32 #[v, .int .i64 now, .int .i64 a] w (GivesBH w (bkR X now a).1 (bkR X now a).2.1 (bkR X now a).2.2.1 (bkR X now a).2.2.2) := by
  by_cases ha : a = 0
  · rw [bk_stay hX hn (.inl ha)]
    exact rb_zero h hX now a hn ha
  · have ht : bkTo now a = a := by rw [bkTo_is, if_neg ha]
    by_cases hb : bkIn a
    · have n1 := bkEnd_num hn
      have n2 := bkEnd_num hb
      obtain ⟨m0, hm0⟩ : ∃ m0 : Nat, bkEnd now = 4096 * (m0 : Int) := ⟨(bkEnd now / 4096).toNat, by omega⟩
      obtain ⟨m1, hm1⟩ : ∃ m1 : Nat, bkEnd a = 4096 * (m1 : Int) := ⟨(bkEnd a / 4096).toNat, by omega⟩
      have hw : bkW X now a = bkM X (bkEnd now) (bkEnd a) := by unfold bkW; rw [if_pos (bwE_zero.2 ⟨hX, hn, hb⟩)]
      unfold bkR
      rw [ht, hw]
      unfold bkM
      by_cases hlt : bkEnd now < bkEnd a
      · rw [if_pos hlt]
        by_cases hf : FitsAt X (bkEnd now) (bkEnd a - bkEnd now)
        · rw [if_pos hf, if_pos rfl]
          have hfo : Formed (bkA (bkEnd now) (bkEnd a)) := fits_formed (X := X) hn hb hlt
          have hY : listTo (withS (spK X X.length) (bkA (4096 * (m0 : Int)) (4096 * (m1 : Int)))) 512 = putC X (bkA (bkEnd now) (bkEnd a)) := by rw [← hm0, ← hm1]; exact with_list hX.1 hfo
          simp only
          by_cases hl : (putC X (bkA (bkEnd now) (bkEnd a))).length ≤ 24
          · rw [if_pos hl]
            exact rb_put h hX now a hn hb hm0 hm1 hlt hf hY (.inr ⟨hl, rfl, rfl, rfl⟩) (.inr ⟨rfl, rfl⟩)
          · rw [if_neg hl]
            exact rb_put h hX now a hn hb hm0 hm1 hlt hf hY (.inl ⟨by omega, rfl, rfl, rfl⟩) (.inl ⟨rfl, rfl⟩)
        · rw [if_neg hf, if_neg (by decide)]
          exact rb_space h hX now a hn hb hlt hf
      · rw [if_neg hlt, if_pos rfl]
        have hY : listTo (cutTo (spK X X.length) m1 m0) 512 = outsideL (bkEnd a) (bkEnd now) X := by rw [hm0, hm1]; exact cut_list hX.1 (by omega)
        simp only
        by_cases hl : (outsideL (bkEnd a) (bkEnd now) X).length ≤ 24
        · rw [if_pos hl]
          exact rb_cut h hX now a hn hb hm0 hm1 hlt hY (.inr ⟨hl, rfl, rfl, rfl⟩) (.inr ⟨rfl, rfl⟩)
        · rw [if_neg hl]
          exact rb_cut h hX now a hn hb hm0 hm1 hlt hY (.inl ⟨by omega, rfl, rfl, rfl⟩) (.inl ⟨rfl, rfl⟩)
    · have he : bwE X now a = 4 := by rw [bwE_is, if_pos ⟨hX, hn⟩, if_neg hb]
      unfold bkR
      rw [ht, bwE_ne (by rw [he]; decide), he, if_neg (by decide)]
      exact rb_range h hX now a hn ha hb
end
end Go.Proofs.YtholpgcghpikgaaGreat
