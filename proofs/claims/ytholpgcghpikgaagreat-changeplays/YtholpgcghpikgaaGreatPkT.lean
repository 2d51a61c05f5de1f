/-
  Texts of our own, one behind the other (MapRefP): what the laws' proofs rest on; each says at its head what it holds. No conditions.
-/
import Derived.Test.YtholpgcghpikgaaGreatPkT0
import Derived.Test.YtholpgcghpikgaaGreatPkN
/-
  Layer 10: the reference's place: a contract for the call.
-/
namespace Go.Proofs.YtholpgcghpikgaaGreat
open Go.ChangeShapes Go.WideShapes Go.ChangeAt Go.RowKit Go.Shelf
set_option linter.unusedVariables false
attribute [local go_sem ↓] Go.wp_at_zero Go.wp_at_succ

theorem some_inside {X : List Ar} (hX : RightL X) (lo hi : Int) : SomeS (spK X X.length) lo hi ↔ insideL lo hi X ≠ [] := by
  rw [inside_iff hX]
  unfold SomeS spK
  rw [List.take_length]
  constructor
  · rintro ⟨p, _, h1, h2⟩; exact ⟨p, h1, h2⟩
  · rintro ⟨p, h1, h2⟩
    cases ht : tab X p with
    | none => exact absurd ht h1
    | some x =>
      obtain ⟨a, ha, hc, _⟩ := tab_some ht
      have := formed_num (right_formed hX a ha)
      unfold Cov at hc
      obtain ⟨n, rfl⟩ : ∃ n : Nat, p = (n : Int) := ⟨p.toNat, by omega⟩
      exact ⟨n, by omega, h1, h2⟩
section
variable {w : World} {v : Value} {X : List Ar}
open Classical in
theorem rfits_yes (h : Holds w v X) (hX : RightL X) {a s : Int} (hf : FitsAt X a s) : Calls Tryz.prog 100 #[v, .int .i64 a, .int .i64 s] w fun e w' => e = .returned (.bool true) ∧ Below w.heap.size w w' := by
  have := refFits_c h hX a s
  rwa [decide_eq_true hf] at this
open Classical in
theorem rfits_no (h : Holds w v X) (hX : RightL X) {a s : Int} (hf : ¬ FitsAt X a s) : Calls Tryz.prog 100 #[v, .int .i64 a, .int .i64 s] w fun e w' => e = .returned (.bool false) ∧ Below w.heap.size w w' := by
  have := refFits_c h hX a s
  rwa [decide_eq_false hf] at this
set_option maxRecDepth 100000 in
set_option maxHeartbeats 4000000 in
theorem rplace_range (h : Holds w v X) (hX : MayL X) (a s f : Int) (h0 : 0 ≤ f) (hf : f < 256) (h1 : f % 2 = 1) (he : rgE a s ≠ 0) : Calls Tryz.prog 60 #[v, .int .i64 a, .int .i64 s, .int .i64 f] w fun e w' => e = .returned (plV (0, rgE a s)) ∧ Below w.heap.size w w' := by
  have CR := Lib.hid (refRange_any a s)
  have he' : (rgE a s != 0) = true := by simpa using he
  generalize rgE a s = er at *
  generalize rgA a s = ra at *
  generalize rgB a s = rb at *
  have k1 : (f % 2 == 1) = true := by simpa using h1
  have d1 : f.tmod 2 = f % 2 := Int.tmod_eq_emod_of_nonneg h0
  have d2 : f.tdiv 2 = f / 2 := Int.tdiv_eq_ediv_of_nonneg h0
  have d3 : (f / 2).tmod 2 = f / 2 % 2 := Int.tmod_eq_emod_of_nonneg (by omega)
  have d4 : f.tdiv 8 = f / 8 := Int.tdiv_eq_ediv_of_nonneg h0
  have d5 : (f / 8).tmod 2 = f / 8 % 2 := Int.tmod_eq_emod_of_nonneg (by omega)
  have KX := Lib.hid h
  have B := Lib.hid (Below.refl w.heap.size w)
  clear hX
  obtain ⟨A, c, rfl⟩ := h.is
  clear h
  generalize hn : X.length = n at *
  clear hn he
  go_enter Tryz.func60, Tryz.ntmps60
  go_wp2_with fail
  refine (CR.out _).mono ?_
  rintro e w1 ⟨rfl, hb⟩
  have B := Lib.hid (below_then B.out hb (Nat.le_refl _))
  have KX := Lib.hid (KX.out.still hb)
  clear hb CR
  go_wp2_with fail
  go_ret2
  exact ⟨rfl, B.out⟩
set_option maxRecDepth 100000 in
set_option maxHeartbeats 4000000 in
theorem rplace_fixed (h : Holds w v X) (hX : MayL X) (a s f : Int) (h0 : 0 ≤ f) (hf : f < 256) (h1 : f % 2 = 1) (he : rgE a s = 0) (h2 : f / 2 % 2 = 0) : Calls Tryz.prog 60 #[v, .int .i64 a, .int .i64 s, .int .i64 f] w fun e w' => e = .returned (plV (a, 0)) ∧ Below w.heap.size w w' := by
  have CR := Lib.hid (refRange_any a s)
  rw [he] at CR
  generalize rgA a s = ra at *
  generalize rgB a s = rb at *
  have k1 : (f % 2 == 1) = true := by simpa using h1
  have k2 : (f / 2 % 2 == 1) = false := by rw [h2]; rfl
  have d1 : f.tmod 2 = f % 2 := Int.tmod_eq_emod_of_nonneg h0
  have d2 : f.tdiv 2 = f / 2 := Int.tdiv_eq_ediv_of_nonneg h0
  have d3 : (f / 2).tmod 2 = f / 2 % 2 := Int.tmod_eq_emod_of_nonneg (by omega)
  have d4 : f.tdiv 8 = f / 8 := Int.tdiv_eq_ediv_of_nonneg h0
  have d5 : (f / 8).tmod 2 = f / 8 % 2 := Int.tmod_eq_emod_of_nonneg (by omega)
  have KX := Lib.hid h
  have B := Lib.hid (Below.refl w.heap.size w)
  clear hX
  obtain ⟨A, c, rfl⟩ := h.is
  clear h
  generalize hn : X.length = n at *
  clear hn he
  go_enter Tryz.func60, Tryz.ntmps60
  go_wp2_with fail
  refine (CR.out _).mono ?_
  rintro e w1 ⟨rfl, hb⟩
  have B := Lib.hid (below_then B.out hb (Nat.le_refl _))
  have KX := Lib.hid (KX.out.still hb)
  clear hb CR
  go_wp2_with fail
  go_ret2
  exact ⟨rfl, B.out⟩
set_option maxRecDepth 100000 in
set_option maxHeartbeats 4000000 in
theorem rplace_exists (h : Holds w v X) (hX : MayL X) (a s f : Int) (h0 : 0 ≤ f) (hf : f < 256) (h1 : f % 2 = 1) (he : rgE a s = 0) (h2 : f / 2 % 2 = 1) (hi : insideL (rgA a s) (rgB a s) X ≠ []) : Calls Tryz.prog 60 #[v, .int .i64 a, .int .i64 s, .int .i64 f] w fun e w' => e = .returned (plV (0, 6)) ∧ Below w.heap.size w w' := by
  have CR := Lib.hid (refRange_any a s)
  rw [he] at CR
  have CO : Hid (∀ w' u, Holds w' u X → Calls Tryz.prog 63 #[u] w' fun e w'' => e = .returned (.agg (spc (spK X X.length))) ∧ Below w'.heap.size w' w'') := Lib.hid (fun w' u h => by
    obtain ⟨A, c, rfl, hc, hA⟩ := h
    exact ofL_any X hX.1 A c w' hA)
  have CS : Hid (∀ w', Calls Tryz.prog 99 #[.agg (spc (spK X X.length)), .int .i64 (rgA a s), .int .i64 (rgB a s)] w' fun e w'' => e = .returned (.bool true) ∧ Below w'.heap.size w' w'') := Lib.hid (fun w' => refSome_any _ _ _ ⟨fun _ => (some_inside hX.1 _ _).2 hi, fun _ => rfl⟩ w')
  generalize spc (spK X X.length) = sp at *
  generalize rgA a s = ra at *
  generalize rgB a s = rb at *
  have k1 : (f % 2 == 1) = true := by simpa using h1
  have k2 : (f / 2 % 2 == 1) = true := by rw [h2]; rfl
  have d1 : f.tmod 2 = f % 2 := Int.tmod_eq_emod_of_nonneg h0
  have d2 : f.tdiv 2 = f / 2 := Int.tdiv_eq_ediv_of_nonneg h0
  have d3 : (f / 2).tmod 2 = f / 2 % 2 := Int.tmod_eq_emod_of_nonneg (by omega)
  have d4 : f.tdiv 8 = f / 8 := Int.tdiv_eq_ediv_of_nonneg h0
  have d5 : (f / 8).tmod 2 = f / 8 % 2 := Int.tmod_eq_emod_of_nonneg (by omega)
  have KX := Lib.hid h
  have B := Lib.hid (Below.refl w.heap.size w)
  clear hX
  obtain ⟨A, c, rfl⟩ := h.is
  clear h
  generalize hn : X.length = n at *
  clear hn he hi
  go_enter Tryz.func60, Tryz.ntmps60
  go_wp2_with fail
  refine (CR.out _).mono ?_
  rintro e w1 ⟨rfl, hb⟩
  have B := Lib.hid (below_then B.out hb (Nat.le_refl _))
  have KX := Lib.hid (KX.out.still hb)
  clear hb CR
  go_wp2_with fail
  refine (CO.out _ _ KX.out).mono ?_
  rintro e w2 ⟨rfl, hb⟩
  have B := Lib.hid (below_then B.out hb (Nat.le_refl _))
  have KX := Lib.hid (KX.out.still hb)
  clear hb CO
  go_wp2_with fail
  refine (CS.out _).mono ?_
  rintro e w3 ⟨rfl, hb⟩
  have B := Lib.hid (below_then B.out hb (Nat.le_refl _))
  have KX := Lib.hid (KX.out.still hb)
  clear hb CS
  go_wp2_with fail
  go_ret2
  exact ⟨rfl, B.out⟩
set_option maxRecDepth 100000 in
set_option maxHeartbeats 4000000 in
theorem rplace_free (h : Holds w v X) (hX : MayL X) (a s f : Int) (h0 : 0 ≤ f) (hf : f < 256) (h1 : f % 2 = 1) (he : rgE a s = 0) (h2 : f / 2 % 2 = 1) (hi : insideL (rgA a s) (rgB a s) X = []) : Calls Tryz.prog 60 #[v, .int .i64 a, .int .i64 s, .int .i64 f] w fun e w' => e = .returned (plV (a, 0)) ∧ Below w.heap.size w w' := by
  have CR := Lib.hid (refRange_any a s)
  rw [he] at CR
  have CO : Hid (∀ w' u, Holds w' u X → Calls Tryz.prog 63 #[u] w' fun e w'' => e = .returned (.agg (spc (spK X X.length))) ∧ Below w'.heap.size w' w'') := Lib.hid (fun w' u h => by
    obtain ⟨A, c, rfl, hc, hA⟩ := h
    exact ofL_any X hX.1 A c w' hA)
  have CS : Hid (∀ w', Calls Tryz.prog 99 #[.agg (spc (spK X X.length)), .int .i64 (rgA a s), .int .i64 (rgB a s)] w' fun e w'' => e = .returned (.bool false) ∧ Below w'.heap.size w' w'') := Lib.hid (fun w' => refSome_any _ _ _ ⟨fun h => (by cases h), fun h => absurd hi ((some_inside hX.1 _ _).1 h)⟩ w')
  generalize spc (spK X X.length) = sp at *
  generalize rgA a s = ra at *
  generalize rgB a s = rb at *
  have k1 : (f % 2 == 1) = true := by simpa using h1
  have k2 : (f / 2 % 2 == 1) = true := by rw [h2]; rfl
  have d1 : f.tmod 2 = f % 2 := Int.tmod_eq_emod_of_nonneg h0
  have d2 : f.tdiv 2 = f / 2 := Int.tdiv_eq_ediv_of_nonneg h0
  have d3 : (f / 2).tmod 2 = f / 2 % 2 := Int.tmod_eq_emod_of_nonneg (by omega)
  have d4 : f.tdiv 8 = f / 8 := Int.tdiv_eq_ediv_of_nonneg h0
  have d5 : (f / 8).tmod 2 = f / 8 % 2 := Int.tmod_eq_emod_of_nonneg (by omega)
  have KX := Lib.hid h
  have B := Lib.hid (Below.refl w.heap.size w)
  clear hX
  obtain ⟨A, c, rfl⟩ := h.is
  clear h
  generalize hn : X.length = n at *
  clear hn he hi
  go_enter Tryz.func60, Tryz.ntmps60
  go_wp2_with fail
  refine (CR.out _).mono ?_
  rintro e w1 ⟨rfl, hb⟩
  have B := Lib.hid (below_then B.out hb (Nat.le_refl _))
  have KX := Lib.hid (KX.out.still hb)
  clear hb CR
  go_wp2_with fail
  refine (CO.out _ _ KX.out).mono ?_
  rintro e w2 ⟨rfl, hb⟩
  have B := Lib.hid (below_then B.out hb (Nat.le_refl _))
  have KX := Lib.hid (KX.out.still hb)
  clear hb CO
  go_wp2_with fail
  refine (CS.out _).mono ?_
  rintro e w3 ⟨rfl, hb⟩
  have B := Lib.hid (below_then B.out hb (Nat.le_refl _))
  have KX := Lib.hid (KX.out.still hb)
  clear hb CS
  go_wp2_with fail
  go_ret2
  exact ⟨rfl, B.out⟩
set_option maxRecDepth 100000 in
set_option maxHeartbeats 4000000 in
theorem rplace_hint (h : Holds w v X) (hX : MayL X) (a s f : Int) (h0 : 0 ≤ f) (hf : f < 256) (h1 : f % 2 = 0) (hfit : FitsAt X a s) : Calls Tryz.prog 60 #[v, .int .i64 a, .int .i64 s, .int .i64 f] w fun e w' => e = .returned (plV (a, 0)) ∧ Below w.heap.size w w' := by
  have CF : Hid (∀ w' u, Holds w' u X → Calls Tryz.prog 100 #[u, .int .i64 a, .int .i64 s] w' fun e w'' => e = .returned (.bool true) ∧ Below w'.heap.size w' w'') := Lib.hid (fun w' u h => rfits_yes h hX.1 hfit)
  have ha : (a != 0) = true := by simp only [bne_iff_ne, ne_eq]; intro e; have := fits_in hfit; omega
  have k1 : (f % 2 == 1) = false := by rw [h1]; rfl
  have d1 : f.tmod 2 = f % 2 := Int.tmod_eq_emod_of_nonneg h0
  have d2 : f.tdiv 2 = f / 2 := Int.tdiv_eq_ediv_of_nonneg h0
  have d3 : (f / 2).tmod 2 = f / 2 % 2 := Int.tmod_eq_emod_of_nonneg (by omega)
  have d4 : f.tdiv 8 = f / 8 := Int.tdiv_eq_ediv_of_nonneg h0
  have d5 : (f / 8).tmod 2 = f / 8 % 2 := Int.tmod_eq_emod_of_nonneg (by omega)
  have KX := Lib.hid h
  have B := Lib.hid (Below.refl w.heap.size w)
  clear hX
  obtain ⟨A, c, rfl⟩ := h.is
  clear h
  generalize hn : X.length = n at *
  clear hn hfit
  go_enter Tryz.func60, Tryz.ntmps60
  go_wp2_with fail
  refine (CF.out _ _ KX.out).mono ?_
  rintro e w1 ⟨rfl, hb⟩
  have B := Lib.hid (below_then B.out hb (Nat.le_refl _))
  have KX := Lib.hid (KX.out.still hb)
  clear hb CF
  go_wp2_with fail
  go_ret2
  exact ⟨rfl, B.out⟩
set_option maxRecDepth 100000 in
set_option maxHeartbeats 4000000 in
theorem rplace_none0 (h : Holds w v X) (hX : MayL X) (a s f : Int) (h0 : 0 ≤ f) (hf : f < 256) (h1 : f % 2 = 0) (ha : a = 0) (b : Int) (hb : Best X 65536 2097152 s (f / 8 % 2 == 0) b) (hn2 : b < 0) : Calls Tryz.prog 60 #[v, .int .i64 a, .int .i64 s, .int .i64 f] w fun e w' => e = .returned (plV (0, 5)) ∧ Below w.heap.size w w' := by
  have CC : Hid (∀ w' u, Holds w' u X → Calls Tryz.prog 69 #[u, .int .i64 65536, .int .i64 2097152, .int .i64 s, .bool (f / 8 % 2 == 0)] w' fun e w'' => e = .returned (.int .i64 b) ∧ Below w'.heap.size w' w'') := Lib.hid (fun w' u h => choose_c h hX.1 65536 2097152 s _ hb)
  subst ha
  have k1 : (f % 2 == 1) = false := by rw [h1]; rfl
  have d1 : f.tmod 2 = f % 2 := Int.tmod_eq_emod_of_nonneg h0
  have d2 : f.tdiv 2 = f / 2 := Int.tdiv_eq_ediv_of_nonneg h0
  have d3 : (f / 2).tmod 2 = f / 2 % 2 := Int.tmod_eq_emod_of_nonneg (by omega)
  have d4 : f.tdiv 8 = f / 8 := Int.tdiv_eq_ediv_of_nonneg h0
  have d5 : (f / 8).tmod 2 = f / 8 % 2 := Int.tmod_eq_emod_of_nonneg (by omega)
  have KX := Lib.hid h
  have B := Lib.hid (Below.refl w.heap.size w)
  clear hX
  obtain ⟨A, c, rfl⟩ := h.is
  clear h
  generalize hn : X.length = n at *
  clear hn hb
  go_enter Tryz.func60, Tryz.ntmps60
  go_wp2_with fail
  refine (CC.out _ _ KX.out).mono ?_
  rintro e w1 ⟨rfl, hb⟩
  have B := Lib.hid (below_then B.out hb (Nat.le_refl _))
  have KX := Lib.hid (KX.out.still hb)
  clear hb CC
  go_wp2_with fail
  go_ret2
  exact ⟨rfl, B.out⟩
set_option maxRecDepth 100000 in
set_option maxHeartbeats 4000000 in
theorem rplace_none (h : Holds w v X) (hX : MayL X) (a s f : Int) (h0 : 0 ≤ f) (hf : f < 256) (h1 : f % 2 = 0) (ha0 : a ≠ 0) (hfit : ¬ FitsAt X a s) (b : Int) (hb : Best X 65536 2097152 s (f / 8 % 2 == 0) b) (hn2 : b < 0) : Calls Tryz.prog 60 #[v, .int .i64 a, .int .i64 s, .int .i64 f] w fun e w' => e = .returned (plV (0, 5)) ∧ Below w.heap.size w w' := by
  have CC : Hid (∀ w' u, Holds w' u X → Calls Tryz.prog 69 #[u, .int .i64 65536, .int .i64 2097152, .int .i64 s, .bool (f / 8 % 2 == 0)] w' fun e w'' => e = .returned (.int .i64 b) ∧ Below w'.heap.size w' w'') := Lib.hid (fun w' u h => choose_c h hX.1 65536 2097152 s _ hb)
  have CF : Hid (∀ w' u, Holds w' u X → Calls Tryz.prog 100 #[u, .int .i64 a, .int .i64 s] w' fun e w'' => e = .returned (.bool false) ∧ Below w'.heap.size w' w'') := Lib.hid (fun w' u h => rfits_no h hX.1 hfit)
  have ha : (a != 0) = true := by simpa using ha0
  have k1 : (f % 2 == 1) = false := by rw [h1]; rfl
  have d1 : f.tmod 2 = f % 2 := Int.tmod_eq_emod_of_nonneg h0
  have d2 : f.tdiv 2 = f / 2 := Int.tdiv_eq_ediv_of_nonneg h0
  have d3 : (f / 2).tmod 2 = f / 2 % 2 := Int.tmod_eq_emod_of_nonneg (by omega)
  have d4 : f.tdiv 8 = f / 8 := Int.tdiv_eq_ediv_of_nonneg h0
  have d5 : (f / 8).tmod 2 = f / 8 % 2 := Int.tmod_eq_emod_of_nonneg (by omega)
  have KX := Lib.hid h
  have B := Lib.hid (Below.refl w.heap.size w)
  clear hX
  obtain ⟨A, c, rfl⟩ := h.is
  clear h
  generalize hn : X.length = n at *
  clear hn hb hfit ha0
  go_enter Tryz.func60, Tryz.ntmps60
  go_wp2_with fail
  refine (CF.out _ _ KX.out).mono ?_
  rintro e w1 ⟨rfl, hb⟩
  have B := Lib.hid (below_then B.out hb (Nat.le_refl _))
  have KX := Lib.hid (KX.out.still hb)
  clear hb CF
  go_wp2_with fail
  refine (CC.out _ _ KX.out).mono ?_
  rintro e w2 ⟨rfl, hb⟩
  have B := Lib.hid (below_then B.out hb (Nat.le_refl _))
  have KX := Lib.hid (KX.out.still hb)
  clear hb CC
  go_wp2_with fail
  go_ret2
  exact ⟨rfl, B.out⟩
set_option maxRecDepth 100000 in
set_option maxHeartbeats 4000000 in
theorem rplace_some0 (h : Holds w v X) (hX : MayL X) (a s f : Int) (h0 : 0 ≤ f) (hf : f < 256) (h1 : f % 2 = 0) (ha : a = 0) (b : Int) (hb : Best X 65536 2097152 s (f / 8 % 2 == 0) b) (hn2 : ¬ b < 0) : Calls Tryz.prog 60 #[v, .int .i64 a, .int .i64 s, .int .i64 f] w fun e w' => e = .returned (plV (b, 0)) ∧ Below w.heap.size w w' := by
  have CC : Hid (∀ w' u, Holds w' u X → Calls Tryz.prog 69 #[u, .int .i64 65536, .int .i64 2097152, .int .i64 s, .bool (f / 8 % 2 == 0)] w' fun e w'' => e = .returned (.int .i64 b) ∧ Below w'.heap.size w' w'') := Lib.hid (fun w' u h => choose_c h hX.1 65536 2097152 s _ hb)
  subst ha
  have k1 : (f % 2 == 1) = false := by rw [h1]; rfl
  have d1 : f.tmod 2 = f % 2 := Int.tmod_eq_emod_of_nonneg h0
  have d2 : f.tdiv 2 = f / 2 := Int.tdiv_eq_ediv_of_nonneg h0
  have d3 : (f / 2).tmod 2 = f / 2 % 2 := Int.tmod_eq_emod_of_nonneg (by omega)
  have d4 : f.tdiv 8 = f / 8 := Int.tdiv_eq_ediv_of_nonneg h0
  have d5 : (f / 8).tmod 2 = f / 8 % 2 := Int.tmod_eq_emod_of_nonneg (by omega)
  have KX := Lib.hid h
  have B := Lib.hid (Below.refl w.heap.size w)
  clear hX
  obtain ⟨A, c, rfl⟩ := h.is
  clear h
  generalize hn : X.length = n at *
  clear hn hb
  go_enter Tryz.func60, Tryz.ntmps60
  go_wp2_with fail
  refine (CC.out _ _ KX.out).mono ?_
  rintro e w1 ⟨rfl, hb⟩
  have B := Lib.hid (below_then B.out hb (Nat.le_refl _))
  have KX := Lib.hid (KX.out.still hb)
  clear hb CC
  go_wp2_with fail
  go_ret2
  exact ⟨rfl, B.out⟩
set_option maxRecDepth 100000 in
set_option maxHeartbeats 4000000 in
theorem rplace_some (h : Holds w v X) (hX : MayL X) (a s f : Int) (h0 : 0 ≤ f) (hf : f < 256) (h1 : f % 2 = 0) (ha0 : a ≠ 0) (hfit : ¬ FitsAt X a s) (b : Int) (hb : Best X 65536 2097152 s (f / 8 % 2 == 0) b) (hn2 : ¬ b < 0) : Calls Tryz.prog 60 #[v, .int .i64 a, .int .i64 s, .int .i64 f] w fun e w' => e = .returned (plV (b, 0)) ∧ Below w.heap.size w w' := by
  have CC : Hid (∀ w' u, Holds w' u X → Calls Tryz.prog 69 #[u, .int .i64 65536, .int .i64 2097152, .int .i64 s, .bool (f / 8 % 2 == 0)] w' fun e w'' => e = .returned (.int .i64 b) ∧ Below w'.heap.size w' w'') := Lib.hid (fun w' u h => choose_c h hX.1 65536 2097152 s _ hb)
  have CF : Hid (∀ w' u, Holds w' u X → Calls Tryz.prog 100 #[u, .int .i64 a, .int .i64 s] w' fun e w'' => e = .returned (.bool false) ∧ Below w'.heap.size w' w'') := Lib.hid (fun w' u h => rfits_no h hX.1 hfit)
  have ha : (a != 0) = true := by simpa using ha0
  have k1 : (f % 2 == 1) = false := by rw [h1]; rfl
  have d1 : f.tmod 2 = f % 2 := Int.tmod_eq_emod_of_nonneg h0
  have d2 : f.tdiv 2 = f / 2 := Int.tdiv_eq_ediv_of_nonneg h0
  have d3 : (f / 2).tmod 2 = f / 2 % 2 := Int.tmod_eq_emod_of_nonneg (by omega)
  have d4 : f.tdiv 8 = f / 8 := Int.tdiv_eq_ediv_of_nonneg h0
  have d5 : (f / 8).tmod 2 = f / 8 % 2 := Int.tmod_eq_emod_of_nonneg (by omega)
  have KX := Lib.hid h
  have B := Lib.hid (Below.refl w.heap.size w)
  clear hX
  obtain ⟨A, c, rfl⟩ := h.is
  clear h
  generalize hn : X.length = n at *
  clear hn hb hfit ha0
  go_enter Tryz.func60, Tryz.ntmps60
  go_wp2_with fail
  refine (CF.out _ _ KX.out).mono ?_
  rintro e w1 ⟨rfl, hb⟩
  have B := Lib.hid (below_then B.out hb (Nat.le_refl _))
  have KX := Lib.hid (KX.out.still hb)
  clear hb CF
  go_wp2_with fail
  refine (CC.out _ _ KX.out).mono ?_
  rintro e w2 ⟨rfl, hb⟩
  have B := Lib.hid (below_then B.out hb (Nat.le_refl _))
  have KX := Lib.hid (KX.out.still hb)
  clear hb CC
  go_wp2_with fail
  go_ret2
  exact ⟨rfl, B.out⟩

theorem rplace_high (hX : RightL X) (s : Int) : ∃ b, Best X 65536 2097152 s true b ∧ ((b < 0 ∧ highOf s (roomsL 65536 2097152 s X) = (0, false)) ∨ (¬ b < 0 ∧ highOf s (roomsL 65536 2097152 s X) = (b, true))) := by
  rcases high_is X 65536 2097152 s with ⟨h1, h2⟩ | ⟨a, h1, h2, h3⟩
  · exact ⟨-1, .inl ⟨rfl, h2⟩, .inl ⟨by omega, h1⟩⟩
  · have := may_num h2
    exact ⟨a, high_best h2 h3, .inr ⟨by omega, h1⟩⟩
theorem rplace_low (hX : RightL X) (s : Int) : ∃ b, Best X 65536 2097152 s false b ∧ ((b < 0 ∧ lowOf (roomsL 65536 2097152 s X) = (0, false)) ∨ (¬ b < 0 ∧ lowOf (roomsL 65536 2097152 s X) = (b, true))) := by
  rcases low_is X 65536 2097152 s with ⟨h1, h2⟩ | ⟨a, h1, h2, h3⟩
  · exact ⟨-1, .inl ⟨rfl, h2⟩, .inl ⟨by omega, h1⟩⟩
  · have := may_num h2
    exact ⟨a, low_best h2 h3, .inr ⟨by omega, h1⟩⟩
theorem rplace_best (h : Holds w v X) (hX : MayL X) (a s f : Int) (h0 : 0 ≤ f) (hf : f < 256) (h1 : f % 2 = 0) (hfit : ¬ FitsAt X a s) {b : Int} (hb : Best X 65536 2097152 s (f / 8 % 2 == 0) b) {r : Int × Bool} (hr : (b < 0 ∧ r = (0, false)) ∨ (¬ b < 0 ∧ r = (b, true))) :
    Calls Tryz.prog 60 #[v, .int .i64 a, .int .i64 s, .int .i64 f] w fun e w' => e = .returned (plV (if r.2 then r.1 else 0, if r.2 then 0 else 5)) ∧ Below w.heap.size w w' := by
  rcases hr with ⟨h2, rfl⟩ | ⟨h2, rfl⟩
  · simp only [Bool.false_eq_true, if_false]
    by_cases ha : a = 0
    · exact rplace_none0 h hX a s f h0 hf h1 ha b hb h2
    · exact rplace_none h hX a s f h0 hf h1 ha hfit b hb h2
  · simp only [if_true]
    by_cases ha : a = 0
    · exact rplace_some0 h hX a s f h0 hf h1 ha b hb h2
    · exact rplace_some h hX a s f h0 hf h1 ha hfit b hb h2
open Classical in
theorem refPlace_c (h : Holds w v X) (hX : MayL X) (a s f : Int) (h0 : 0 ≤ f) (hf : f < 256) : Calls Tryz.prog 60 #[v, .int .i64 a, .int .i64 s, .int .i64 f] w fun e w' => e = .returned (plV (plR X a s f)) ∧ Below w.heap.size w w' := by
  obtain ⟨e1, e2, _, e8⟩ := bits_byte h0 hf
  unfold plR
  by_cases h1 : f % 2 = 1
  · rw [e1, if_pos (by simpa using h1)]
    by_cases he : rgE a s = 0
    · rw [if_neg (fun h => h he), e2]
      by_cases h2 : f / 2 % 2 = 1
      · by_cases hi : insideL (rgA a s) (rgB a s) X = []
        · rw [if_neg (fun h => h.2 hi)]; exact rplace_free h hX a s f h0 hf h1 he h2 hi
        · rw [if_pos ⟨by simpa using h2, hi⟩]; exact rplace_exists h hX a s f h0 hf h1 he h2 hi
      · rw [if_neg (fun h => h2 (by simpa using h.1))]; exact rplace_fixed h hX a s f h0 hf h1 he (by omega)
    · rw [if_pos he]; exact rplace_range h hX a s f h0 hf h1 he
  · rw [e1, if_neg (by simpa using h1)]
    by_cases hfit : FitsAt X a s
    · rw [if_pos hfit]; exact rplace_hint h hX a s f h0 hf (by omega) hfit
    · rw [if_neg hfit, e8]
      by_cases h8 : f / 8 % 2 = 1
      · rw [if_pos (by simpa using h8)]
        obtain ⟨b, hb, hr⟩ := rplace_low hX.1 s
        exact rplace_best h hX a s f h0 hf (by omega) hfit (by rw [show (f / 8 % 2 == 0) = false by rw [h8]; rfl]; exact hb) hr
      · rw [if_neg (by simpa using h8)]
        obtain ⟨b, hb, hr⟩ := rplace_high hX.1 s
        exact rplace_best h hX a s f h0 hf (by omega) hfit (by rw [show (f / 8 % 2 == 0) = true by rw [show f / 8 % 2 = 0 by omega]; rfl]; exact hb) hr
end
end Go.Proofs.YtholpgcghpikgaaGreat
