/-
  Texts of our own, one behind the other (MapRef, MapRefP): what the laws' proofs rest on; each says at its head what it holds. No conditions.
-/
import Derived.Test.YtfejoeidffnadaaPkS
import Derived.Test.YtfejoeidffnadaaPkN
/-
  Layer 10: the reference: what is kept, the place, mapping and unmapping: a contract for each call.
-/
namespace Go.Proofs.Ytfejoeidffnadaa
open Go.ChangeShapes Go.WideShapes Go.ChangeAt Go.RowKit Go.Shelf
set_option linter.unusedVariables false
attribute [local go_sem ↓] Go.wp_at_zero Go.wp_at_succ

/-- A list, and an answer. -/
def GivesH (w : World) (Y : List Ar) (e x : Int) (r : Ending) (w' : World) : Prop := ∃ v', r = .returned (.tuple #[v', ansV e x]) ∧ Holds w' v' Y ∧ Below w.heap.size w w'

/-- The list that came, or one of its own, and an answer. -/
def GivesK (w : World) (v : Value) (X Y : List Ar) (e x : Int) (r : Ending) (w' : World) : Prop := ∃ v', r = .returned (.tuple #[v', ansV e x]) ∧ ((v' = v ∧ Y = X) ∨ Mine w.heap.size w' v' Y) ∧ Below w.heap.size w w'

/-! Pages as a list. -/
/-- The list of pages that lie in the space is a right list, with those pages. -/
theorem list_is {s : Sp} (hg : GoodS s) {Y : List Ar} (hY : RightL Y) (ht : ∀ p : Nat, p < 512 → 16 ≤ p → s p = tab Y p) : listTo s 512 = Y := by
  obtain ⟨T, hT⟩ : ∃ T : Nat, T = 512 := ⟨_, rfl⟩
  rw [← hT] at ht ⊢
  have hj := listTo_joined hg (n := T) (by omega)
  refine right_same hj.right hY fun p => ?_
  rw [hj.tab]
  by_cases h1 : p < T
  · by_cases h2 : 16 ≤ p
    · rw [pages_tab hg h1 h2, ht p h1 h2]
    · rw [pages_tab_out (.inl (by omega))]
      exact (tab_none fun a ha hc => by have := formed_num (right_formed hY a ha); unfold Cov at hc; omega).symm
  · rw [pages_tab_out (.inr (by omega))]
    exact (tab_none fun a ha hc => by have := formed_num (right_formed hY a ha); unfold Cov at hc; omega).symm
theorem spK_good {X : List Ar} (hX : RightL X) : GoodS (spK X X.length) := fun p x h => by
  unfold spK at h
  rw [List.take_length] at h
  obtain ⟨a, ha, hc, he⟩ := tab_some h
  rw [← he]
  exact at_good (right_formed hX a ha) hc
theorem with_good {s : Sp} (hs : GoodS s) {a : Ar} (ha : Formed a) : GoodS (withS s a) := fun p x h => by
  unfold withS at h
  by_cases hc : Cov a p
  · rw [if_pos hc] at h; injection h with h; rw [← h]; exact at_good ha hc
  · rw [if_neg hc] at h; exact hs p x h
theorem cutTo_good {s : Sp} (hs : GoodS s) (m n : Nat) : GoodS (cutTo s m n) := fun p x h => by
  unfold cutTo at h
  by_cases hc : m ≤ p ∧ p < n
  · rw [if_pos hc] at h; cases h
  · rw [if_neg hc] at h; exact hs p x h
theorem with_list {X : List Ar} (hX : RightL X) {a : Ar} (ha : Formed a) : listTo (withS (spK X X.length) a) 512 = putC X a := by
  refine list_is (with_good (spK_good hX) ha) (putC_right hX ha) fun p _ _ => ?_
  rw [(putC_is hX ha).2]
  unfold withS spK
  rw [List.take_length]
theorem cut_list {X : List Ar} (hX : RightL X) {m0 m1 : Nat} (hm : m0 ≤ m1) : listTo (cutTo (spK X X.length) m0 m1) 512 = outsideL (4096 * (m0 : Int)) (4096 * (m1 : Int)) X := by
  refine list_is (cutTo_good (spK_good hX) _ _) (outside_right _ _ hX) fun p _ _ => ?_
  rw [cut_is hm, outside_tab _ _ hX]
  unfold cutS spK
  rw [List.take_length]

section
variable {w : World} {v : Value} {X Y : List Ar}
set_option maxRecDepth 100000 in
set_option maxHeartbeats 4000000 in
theorem refKept_c (h : Holds w v X) (s : Sp) (hg : GoodS s) (hY : listTo s 512 = Y) (x : Int) {Z : List Ar} {ae ax : Int} (hz : (24 < Y.length ∧ Z = X ∧ ae = 9 ∧ ax = 0) ∨ (Y.length ≤ 24 ∧ Z = Y ∧ ae = 0 ∧ ax = x)) :
    Calls Try.prog 28 #[v, .agg (spc s), .int .i64 x] w (GivesK w v X Z ae ax) := by
  have HS : Hid (SpIn (w.alloc (.cells (spc s) 44)) w.heap.size s) := Lib.hid (Whole.new _ _ _)
  have G := Lib.hid (((Bag.new w).add 44 (spc s)).add 31 (ansC 0 0))
  rw [World.size_alloc] at G
  have HS : Hid (SpIn ((w.alloc (.cells (spc s) 44)).alloc (.cells (ansC 0 0) 31)) w.heap.size s) := Lib.hid G.out.v1
  have CL : Hid (∀ w', Calls Try.prog 47 #[.agg (spl s 512).toArray] w' fun e w'' => ∃ v', e = .returned v' ∧ Mine w'.heap.size w'' v' Y ∧ Below w'.heap.size w' w'') := Lib.hid (fun w' => by
    have := refList_any s hg w'
    rw [hY] at this
    exact this)
  have HA := Lib.hid h
  obtain ⟨A, c, rfl⟩ := h.is
  clear h hg hY
  generalize hn : X.length = n at *
  clear hn
  go_enter Try.func28, Try.ntmps28
  go_wp2_with (refine wpList_load_mid rfl 44 (.tmp 4) (by rfl) w.heap.size 0 (by rfl) (spl s 512) _ HS.out.range Try.underlying44 rfl (space_size _) ?_)
  refine (CL.out _).mono ?_
  rintro e w1 ⟨v1, rfl, hm, hb⟩
  have SZ := Lib.hid G.out.bel.size
  have G := Lib.hid (G.out.still hb)
  have M := Lib.hid (hm.base SZ.out)
  obtain ⟨A1, c1, rfl⟩ := hm.is
  clear hm hb CL HS SZ
  obtain ⟨⟨c0, c1, c2, c3, c4, c5⟩, ⟨f0, f1, f2, f3, f4, f5⟩⟩ := six_of G.out.v0
  have HB : Hid (∀ x0 x1 x2 x3 x4 x5, Below w.heap.size w (set6 w1 (w.heap.size + 1) x0 x1 x2 x3 x4 x5)) := Lib.hid (fun x0 x1 x2 x3 x4 x5 => G.out.bel.trans ((six_only w1 (w.heap.size + 1) _ _ _ _ _ _).below (fun k hk => by omega) G.out.bel.size))
  rcases hz with ⟨hz, rfl, rfl, rfl⟩ | ⟨hz, rfl, rfl, rfl⟩
  · generalize Y.length = m at *
    have hz1 : (24 : Int) < (m : Int) := by omega
    go_wp2_with fail
    refine bodyPost_ret (results_tmp_row rfl _ _ (w.heap.size + 1) 31 (ansC 9 0) (0, 0) _ rfl (six_put G.out.v0 _ _ _ _ _ _) Try.underlying31 rfl (by kernel_rfl)) rfl ?_
    exact ⟨_, rfl, .inl ⟨rfl, rfl⟩, HB.out _ _ _ _ _ _⟩
  · have HM := Lib.hid (fun x0 x1 x2 x3 x4 x5 => mine_far M.out G.out.v0 x0 x1 x2 x3 x4 x5)
    generalize Z.length = m at *
    have hz1 : ¬ (24 : Int) < (m : Int) := by omega
    go_wp2_with fail
    refine bodyPost_ret (results_tmp_row rfl _ _ (w.heap.size + 1) 31 (ansC 0 ax) (0, 0) _ rfl (six_put G.out.v0 _ _ _ _ _ _) Try.underlying31 rfl (by kernel_rfl)) rfl ?_
    exact ⟨_, rfl, .inr (HM.out _ _ _ _ _ _), HB.out _ _ _ _ _ _⟩
end
end Go.Proofs.Ytfejoeidffnadaa

/-
  Layer 10: the reference's place: a contract for the call.
-/
namespace Go.Proofs.Ytfejoeidffnadaa
open Go.ChangeShapes Go.WideShapes Go.ChangeAt Go.RowKit Go.Shelf
set_option linter.unusedVariables false
attribute [local go_sem ↓] Go.wp_at_zero Go.wp_at_succ

theorem some_inside {X : List Ar} (hX : RightL X) (lo hi : Int) : SomeS (spK X X.length) lo hi ↔ insideL lo hi X ≠ [] := by
  rw [inside_iff hX]
  unfold SomeS spK
  rw [List.take_length]
  constructor
  · rintro ⟨p, _, h1, h2⟩; exact ⟨p, h1, h2⟩
  · rintro ⟨p, h1, h2⟩
    cases ht : tab X p with
    | none => exact absurd ht h1
    | some x =>
      obtain ⟨a, ha, hc, _⟩ := tab_some ht
      have := formed_num (right_formed hX a ha)
      unfold Cov at hc
      obtain ⟨n, rfl⟩ : ∃ n : Nat, p = (n : Int) := ⟨p.toNat, by omega⟩
      exact ⟨n, by omega, h1, h2⟩
section
variable {w : World} {v : Value} {X : List Ar}
open Classical in
theorem rfits_yes (h : Holds w v X) (hX : RightL X) {a s : Int} (hf : FitsAt X a s) : Calls Try.prog 42 #[v, .int .i64 a, .int .i64 s] w fun e w' => e = .returned (.bool true) ∧ Below w.heap.size w w' := by
  have := refFits_c h hX a s
  rwa [decide_eq_true hf] at this
open Classical in
theorem rfits_no (h : Holds w v X) (hX : RightL X) {a s : Int} (hf : ¬ FitsAt X a s) : Calls Try.prog 42 #[v, .int .i64 a, .int .i64 s] w fun e w' => e = .returned (.bool false) ∧ Below w.heap.size w w' := by
  have := refFits_c h hX a s
  rwa [decide_eq_false hf] at this
set_option maxRecDepth 100000 in
set_option maxHeartbeats 4000000 in
theorem rplace_range (h : Holds w v X) (hX : MayL X) (a s f : Int) (h0 : 0 ≤ f) (hf : f < 256) (h1 : f % 2 = 1) (he : rgE a s ≠ 0) : Calls Try.prog 18 #[v, .int .i64 a, .int .i64 s, .int .i64 f] w fun e w' => e = .returned (plV (0, rgE a s)) ∧ Below w.heap.size w w' := by
  have CR := Lib.hid (refRange_any a s)
  have he' : (rgE a s != 0) = true := by simpa using he
  generalize rgE a s = er at *
  generalize rgA a s = ra at *
  generalize rgB a s = rb at *
  have k1 : (f % 2 == 1) = true := by simpa using h1
  have d1 : f.tmod 2 = f % 2 := Int.tmod_eq_emod_of_nonneg h0
  have d2 : f.tdiv 2 = f / 2 := Int.tdiv_eq_ediv_of_nonneg h0
  have d3 : (f / 2).tmod 2 = f / 2 % 2 := Int.tmod_eq_emod_of_nonneg (by omega)
  have d4 : f.tdiv 8 = f / 8 := Int.tdiv_eq_ediv_of_nonneg h0
  have d5 : (f / 8).tmod 2 = f / 8 % 2 := Int.tmod_eq_emod_of_nonneg (by omega)
  have KX := Lib.hid h
  have B := Lib.hid (Below.refl w.heap.size w)
  clear hX
  obtain ⟨A, c, rfl⟩ := h.is
  clear h
  generalize hn : X.length = n at *
  clear hn he
  go_enter Try.func18, Try.ntmps18
  go_wp2_with fail
  refine (CR.out _).mono ?_
  rintro e w1 ⟨rfl, hb⟩
  have B := Lib.hid (below_then B.out hb (Nat.le_refl _))
  have KX := Lib.hid (KX.out.still hb)
  clear hb CR
  go_wp2_with fail
  go_ret2
  exact ⟨rfl, B.out⟩
set_option maxRecDepth 100000 in
set_option maxHeartbeats 4000000 in
theorem rplace_fixed (h : Holds w v X) (hX : MayL X) (a s f : Int) (h0 : 0 ≤ f) (hf : f < 256) (h1 : f % 2 = 1) (he : rgE a s = 0) (h2 : f / 2 % 2 = 0) : Calls Try.prog 18 #[v, .int .i64 a, .int .i64 s, .int .i64 f] w fun e w' => e = .returned (plV (a, 0)) ∧ Below w.heap.size w w' := by
  have CR := Lib.hid (refRange_any a s)
  rw [he] at CR
  generalize rgA a s = ra at *
  generalize rgB a s = rb at *
  have k1 : (f % 2 == 1) = true := by simpa using h1
  have k2 : (f / 2 % 2 == 1) = false := by rw [h2]; rfl
  have d1 : f.tmod 2 = f % 2 := Int.tmod_eq_emod_of_nonneg h0
  have d2 : f.tdiv 2 = f / 2 := Int.tdiv_eq_ediv_of_nonneg h0
  have d3 : (f / 2).tmod 2 = f / 2 % 2 := Int.tmod_eq_emod_of_nonneg (by omega)
  have d4 : f.tdiv 8 = f / 8 := Int.tdiv_eq_ediv_of_nonneg h0
  have d5 : (f / 8).tmod 2 = f / 8 % 2 := Int.tmod_eq_emod_of_nonneg (by omega)
  have KX := Lib.hid h
  have B := Lib.hid (Below.refl w.heap.size w)
  clear hX
  obtain ⟨A, c, rfl⟩ := h.is
  clear h
  generalize hn : X.length = n at *
  clear hn he
  go_enter Try.func18, Try.ntmps18
  go_wp2_with fail
  refine (CR.out _).mono ?_
  rintro e w1 ⟨rfl, hb⟩
  have B := Lib.hid (below_then B.out hb (Nat.le_refl _))
  have KX := Lib.hid (KX.out.still hb)
  clear hb CR
  go_wp2_with fail
  go_ret2
  exact ⟨rfl, B.out⟩
set_option maxRecDepth 100000 in
set_option maxHeartbeats 4000000 in
theorem rplace_exists (h : Holds w v X) (hX : MayL X) (a s f : Int) (h0 : 0 ≤ f) (hf : f < 256) (h1 : f % 2 = 1) (he : rgE a s = 0) (h2 : f / 2 % 2 = 1) (hi : insideL (rgA a s) (rgB a s) X ≠ []) : Calls Try.prog 18 #[v, .int .i64 a, .int .i64 s, .int .i64 f] w fun e w' => e = .returned (plV (0, 6)) ∧ Below w.heap.size w w' := by
  have CR := Lib.hid (refRange_any a s)
  rw [he] at CR
  have CO : Hid (∀ w' u, Holds w' u X → Calls Try.prog 19 #[u] w' fun e w'' => e = .returned (.agg (spc (spK X X.length))) ∧ Below w'.heap.size w' w'') := Lib.hid (fun w' u h => by
    obtain ⟨A, c, rfl, hc, hA⟩ := h
    exact ofL_any X hX.1 A c w' hA)
  have CS : Hid (∀ w', Calls Try.prog 20 #[.agg (spc (spK X X.length)), .int .i64 (rgA a s), .int .i64 (rgB a s)] w' fun e w'' => e = .returned (.bool true) ∧ Below w'.heap.size w' w'') := Lib.hid (fun w' => refSome_any _ _ _ ⟨fun _ => (some_inside hX.1 _ _).2 hi, fun _ => rfl⟩ w')
  generalize spc (spK X X.length) = sp at *
  generalize rgA a s = ra at *
  generalize rgB a s = rb at *
  have k1 : (f % 2 == 1) = true := by simpa using h1
  have k2 : (f / 2 % 2 == 1) = true := by rw [h2]; rfl
  have d1 : f.tmod 2 = f % 2 := Int.tmod_eq_emod_of_nonneg h0
  have d2 : f.tdiv 2 = f / 2 := Int.tdiv_eq_ediv_of_nonneg h0
  have d3 : (f / 2).tmod 2 = f / 2 % 2 := Int.tmod_eq_emod_of_nonneg (by omega)
  have d4 : f.tdiv 8 = f / 8 := Int.tdiv_eq_ediv_of_nonneg h0
  have d5 : (f / 8).tmod 2 = f / 8 % 2 := Int.tmod_eq_emod_of_nonneg (by omega)
  have KX := Lib.hid h
  have B := Lib.hid (Below.refl w.heap.size w)
  clear hX
  obtain ⟨A, c, rfl⟩ := h.is
  clear h
  generalize hn : X.length = n at *
  clear hn he hi
  go_enter Try.func18, Try.ntmps18
  go_wp2_with fail
  refine (CR.out _).mono ?_
  rintro e w1 ⟨rfl, hb⟩
  have B := Lib.hid (below_then B.out hb (Nat.le_refl _))
  have KX := Lib.hid (KX.out.still hb)
  clear hb CR
  go_wp2_with fail
  refine (CO.out _ _ KX.out).mono ?_
  rintro e w2 ⟨rfl, hb⟩
  have B := Lib.hid (below_then B.out hb (Nat.le_refl _))
  have KX := Lib.hid (KX.out.still hb)
  clear hb CO
  go_wp2_with fail
  refine (CS.out _).mono ?_
  rintro e w3 ⟨rfl, hb⟩
  have B := Lib.hid (below_then B.out hb (Nat.le_refl _))
  have KX := Lib.hid (KX.out.still hb)
  clear hb CS
  go_wp2_with fail
  go_ret2
  exact ⟨rfl, B.out⟩
set_option maxRecDepth 100000 in
set_option maxHeartbeats 4000000 in
theorem rplace_free (h : Holds w v X) (hX : MayL X) (a s f : Int) (h0 : 0 ≤ f) (hf : f < 256) (h1 : f % 2 = 1) (he : rgE a s = 0) (h2 : f / 2 % 2 = 1) (hi : insideL (rgA a s) (rgB a s) X = []) : Calls Try.prog 18 #[v, .int .i64 a, .int .i64 s, .int .i64 f] w fun e w' => e = .returned (plV (a, 0)) ∧ Below w.heap.size w w' := by
  have CR := Lib.hid (refRange_any a s)
  rw [he] at CR
  have CO : Hid (∀ w' u, Holds w' u X → Calls Try.prog 19 #[u] w' fun e w'' => e = .returned (.agg (spc (spK X X.length))) ∧ Below w'.heap.size w' w'') := Lib.hid (fun w' u h => by
    obtain ⟨A, c, rfl, hc, hA⟩ := h
    exact ofL_any X hX.1 A c w' hA)
  have CS : Hid (∀ w', Calls Try.prog 20 #[.agg (spc (spK X X.length)), .int .i64 (rgA a s), .int .i64 (rgB a s)] w' fun e w'' => e = .returned (.bool false) ∧ Below w'.heap.size w' w'') := Lib.hid (fun w' => refSome_any _ _ _ ⟨fun h => (by cases h), fun h => absurd hi ((some_inside hX.1 _ _).1 h)⟩ w')
  generalize spc (spK X X.length) = sp at *
  generalize rgA a s = ra at *
  generalize rgB a s = rb at *
  have k1 : (f % 2 == 1) = true := by simpa using h1
  have k2 : (f / 2 % 2 == 1) = true := by rw [h2]; rfl
  have d1 : f.tmod 2 = f % 2 := Int.tmod_eq_emod_of_nonneg h0
  have d2 : f.tdiv 2 = f / 2 := Int.tdiv_eq_ediv_of_nonneg h0
  have d3 : (f / 2).tmod 2 = f / 2 % 2 := Int.tmod_eq_emod_of_nonneg (by omega)
  have d4 : f.tdiv 8 = f / 8 := Int.tdiv_eq_ediv_of_nonneg h0
  have d5 : (f / 8).tmod 2 = f / 8 % 2 := Int.tmod_eq_emod_of_nonneg (by omega)
  have KX := Lib.hid h
  have B := Lib.hid (Below.refl w.heap.size w)
  clear hX
  obtain ⟨A, c, rfl⟩ := h.is
  clear h
  generalize hn : X.length = n at *
  clear hn he hi
  go_enter Try.func18, Try.ntmps18
  go_wp2_with fail
  refine (CR.out _).mono ?_
  rintro e w1 ⟨rfl, hb⟩
  have B := Lib.hid (below_then B.out hb (Nat.le_refl _))
  have KX := Lib.hid (KX.out.still hb)
  clear hb CR
  go_wp2_with fail
  refine (CO.out _ _ KX.out).mono ?_
  rintro e w2 ⟨rfl, hb⟩
  have B := Lib.hid (below_then B.out hb (Nat.le_refl _))
  have KX := Lib.hid (KX.out.still hb)
  clear hb CO
  go_wp2_with fail
  refine (CS.out _).mono ?_
  rintro e w3 ⟨rfl, hb⟩
  have B := Lib.hid (below_then B.out hb (Nat.le_refl _))
  have KX := Lib.hid (KX.out.still hb)
  clear hb CS
  go_wp2_with fail
  go_ret2
  exact ⟨rfl, B.out⟩
set_option maxRecDepth 100000 in
set_option maxHeartbeats 4000000 in
theorem rplace_hint (h : Holds w v X) (hX : MayL X) (a s f : Int) (h0 : 0 ≤ f) (hf : f < 256) (h1 : f % 2 = 0) (hfit : FitsAt X a s) : Calls Try.prog 18 #[v, .int .i64 a, .int .i64 s, .int .i64 f] w fun e w' => e = .returned (plV (a, 0)) ∧ Below w.heap.size w w' := by
  have CF : Hid (∀ w' u, Holds w' u X → Calls Try.prog 42 #[u, .int .i64 a, .int .i64 s] w' fun e w'' => e = .returned (.bool true) ∧ Below w'.heap.size w' w'') := Lib.hid (fun w' u h => rfits_yes h hX.1 hfit)
  have ha : (a != 0) = true := by simp only [bne_iff_ne, ne_eq]; intro e; have := fits_in hfit; omega
  have k1 : (f % 2 == 1) = false := by rw [h1]; rfl
  have d1 : f.tmod 2 = f % 2 := Int.tmod_eq_emod_of_nonneg h0
  have d2 : f.tdiv 2 = f / 2 := Int.tdiv_eq_ediv_of_nonneg h0
  have d3 : (f / 2).tmod 2 = f / 2 % 2 := Int.tmod_eq_emod_of_nonneg (by omega)
  have d4 : f.tdiv 8 = f / 8 := Int.tdiv_eq_ediv_of_nonneg h0
  have d5 : (f / 8).tmod 2 = f / 8 % 2 := Int.tmod_eq_emod_of_nonneg (by omega)
  have KX := Lib.hid h
  have B := Lib.hid (Below.refl w.heap.size w)
  clear hX
  obtain ⟨A, c, rfl⟩ := h.is
  clear h
  generalize hn : X.length = n at *
  clear hn hfit
  go_enter Try.func18, Try.ntmps18
  go_wp2_with fail
  refine (CF.out _ _ KX.out).mono ?_
  rintro e w1 ⟨rfl, hb⟩
  have B := Lib.hid (below_then B.out hb (Nat.le_refl _))
  have KX := Lib.hid (KX.out.still hb)
  clear hb CF
  go_wp2_with fail
  go_ret2
  exact ⟨rfl, B.out⟩
set_option maxRecDepth 100000 in
set_option maxHeartbeats 4000000 in
theorem rplace_none0 (h : Holds w v X) (hX : MayL X) (a s f : Int) (h0 : 0 ≤ f) (hf : f < 256) (h1 : f % 2 = 0) (ha : a = 0) (b : Int) (hb : Best X 65536 2097152 s (f / 8 % 2 == 0) b) (hn2 : b < 0) : Calls Try.prog 18 #[v, .int .i64 a, .int .i64 s, .int .i64 f] w fun e w' => e = .returned (plV (0, 5)) ∧ Below w.heap.size w w' := by
  have CC : Hid (∀ w' u, Holds w' u X → Calls Try.prog 43 #[u, .int .i64 65536, .int .i64 2097152, .int .i64 s, .bool (f / 8 % 2 == 0)] w' fun e w'' => e = .returned (.int .i64 b) ∧ Below w'.heap.size w' w'') := Lib.hid (fun w' u h => choose_c h hX.1 65536 2097152 s _ hb)
  subst ha
  have k1 : (f % 2 == 1) = false := by rw [h1]; rfl
  have d1 : f.tmod 2 = f % 2 := Int.tmod_eq_emod_of_nonneg h0
  have d2 : f.tdiv 2 = f / 2 := Int.tdiv_eq_ediv_of_nonneg h0
  have d3 : (f / 2).tmod 2 = f / 2 % 2 := Int.tmod_eq_emod_of_nonneg (by omega)
  have d4 : f.tdiv 8 = f / 8 := Int.tdiv_eq_ediv_of_nonneg h0
  have d5 : (f / 8).tmod 2 = f / 8 % 2 := Int.tmod_eq_emod_of_nonneg (by omega)
  have KX := Lib.hid h
  have B := Lib.hid (Below.refl w.heap.size w)
  clear hX
  obtain ⟨A, c, rfl⟩ := h.is
  clear h
  generalize hn : X.length = n at *
  clear hn hb
  go_enter Try.func18, Try.ntmps18
  go_wp2_with fail
  refine (CC.out _ _ KX.out).mono ?_
  rintro e w1 ⟨rfl, hb⟩
  have B := Lib.hid (below_then B.out hb (Nat.le_refl _))
  have KX := Lib.hid (KX.out.still hb)
  clear hb CC
  go_wp2_with fail
  go_ret2
  exact ⟨rfl, B.out⟩
set_option maxRecDepth 100000 in
set_option maxHeartbeats 4000000 in
theorem rplace_none (h : Holds w v X) (hX : MayL X) (a s f : Int) (h0 : 0 ≤ f) (hf : f < 256) (h1 : f % 2 = 0) (ha0 : a ≠ 0) (hfit : ¬ FitsAt X a s) (b : Int) (hb : Best X 65536 2097152 s (f / 8 % 2 == 0) b) (hn2 : b < 0) : Calls Try.prog 18 #[v, .int .i64 a, .int .i64 s, .int .i64 f] w fun e w' => e = .returned (plV (0, 5)) ∧ Below w.heap.size w w' := by
  have CC : Hid (∀ w' u, Holds w' u X → Calls Try.prog 43 #[u, .int .i64 65536, .int .i64 2097152, .int .i64 s, .bool (f / 8 % 2 == 0)] w' fun e w'' => e = .returned (.int .i64 b) ∧ Below w'.heap.size w' w'') := Lib.hid (fun w' u h => choose_c h hX.1 65536 2097152 s _ hb)
  have CF : Hid (∀ w' u, Holds w' u X → Calls Try.prog 42 #[u, .int .i64 a, .int .i64 s] w' fun e w'' => e = .returned (.bool false) ∧ Below w'.heap.size w' w'') := Lib.hid (fun w' u h => rfits_no h hX.1 hfit)
  have ha : (a != 0) = true := by simpa using ha0
  have k1 : (f % 2 == 1) = false := by rw [h1]; rfl
  have d1 : f.tmod 2 = f % 2 := Int.tmod_eq_emod_of_nonneg h0
  have d2 : f.tdiv 2 = f / 2 := Int.tdiv_eq_ediv_of_nonneg h0
  have d3 : (f / 2).tmod 2 = f / 2 % 2 := Int.tmod_eq_emod_of_nonneg (by omega)
  have d4 : f.tdiv 8 = f / 8 := Int.tdiv_eq_ediv_of_nonneg h0
  have d5 : (f / 8).tmod 2 = f / 8 % 2 := Int.tmod_eq_emod_of_nonneg (by omega)
  have KX := Lib.hid h
  have B := Lib.hid (Below.refl w.heap.size w)
  clear hX
  obtain ⟨A, c, rfl⟩ := h.is
  clear h
  generalize hn : X.length = n at *
  clear hn hb hfit ha0
  go_enter Try.func18, Try.ntmps18
  go_wp2_with fail
  refine (CF.out _ _ KX.out).mono ?_
  rintro e w1 ⟨rfl, hb⟩
  have B := Lib.hid (below_then B.out hb (Nat.le_refl _))
  have KX := Lib.hid (KX.out.still hb)
  clear hb CF
  go_wp2_with fail
  refine (CC.out _ _ KX.out).mono ?_
  rintro e w2 ⟨rfl, hb⟩
  have B := Lib.hid (below_then B.out hb (Nat.le_refl _))
  have KX := Lib.hid (KX.out.still hb)
  clear hb CC
  go_wp2_with fail
  go_ret2
  exact ⟨rfl, B.out⟩
set_option maxRecDepth 100000 in
set_option maxHeartbeats 4000000 in
theorem rplace_some0 (h : Holds w v X) (hX : MayL X) (a s f : Int) (h0 : 0 ≤ f) (hf : f < 256) (h1 : f % 2 = 0) (ha : a = 0) (b : Int) (hb : Best X 65536 2097152 s (f / 8 % 2 == 0) b) (hn2 : ¬ b < 0) : Calls Try.prog 18 #[v, .int .i64 a, .int .i64 s, .int .i64 f] w fun e w' => e = .returned (plV (b, 0)) ∧ Below w.heap.size w w' := by
  have CC : Hid (∀ w' u, Holds w' u X → Calls Try.prog 43 #[u, .int .i64 65536, .int .i64 2097152, .int .i64 s, .bool (f / 8 % 2 == 0)] w' fun e w'' => e = .returned (.int .i64 b) ∧ Below w'.heap.size w' w'') := Lib.hid (fun w' u h => choose_c h hX.1 65536 2097152 s _ hb)
  subst ha
  have k1 : (f % 2 == 1) = false := by rw [h1]; rfl
  have d1 : f.tmod 2 = f % 2 := Int.tmod_eq_emod_of_nonneg h0
  have d2 : f.tdiv 2 = f / 2 := Int.tdiv_eq_ediv_of_nonneg h0
  have d3 : (f / 2).tmod 2 = f / 2 % 2 := Int.tmod_eq_emod_of_nonneg (by omega)
  have d4 : f.tdiv 8 = f / 8 := Int.tdiv_eq_ediv_of_nonneg h0
  have d5 : (f / 8).tmod 2 = f / 8 % 2 := Int.tmod_eq_emod_of_nonneg (by omega)
  have KX := Lib.hid h
  have B := Lib.hid (Below.refl w.heap.size w)
  clear hX
  obtain ⟨A, c, rfl⟩ := h.is
  clear h
  generalize hn : X.length = n at *
  clear hn hb
  go_enter Try.func18, Try.ntmps18
  go_wp2_with fail
  refine (CC.out _ _ KX.out).mono ?_
  rintro e w1 ⟨rfl, hb⟩
  have B := Lib.hid (below_then B.out hb (Nat.le_refl _))
  have KX := Lib.hid (KX.out.still hb)
  clear hb CC
  go_wp2_with fail
  go_ret2
  exact ⟨rfl, B.out⟩
set_option maxRecDepth 100000 in
set_option maxHeartbeats 4000000 in
theorem rplace_some (h : Holds w v X) (hX : MayL X) (a s f : Int) (h0 : 0 ≤ f) (hf : f < 256) (h1 : f % 2 = 0) (ha0 : a ≠ 0) (hfit : ¬ FitsAt X a s) (b : Int) (hb : Best X 65536 2097152 s (f / 8 % 2 == 0) b) (hn2 : ¬ b < 0) : Calls Try.prog 18 #[v, .int .i64 a, .int .i64 s, .int .i64 f] w fun e w' => e = .returned (plV (b, 0)) ∧ Below w.heap.size w w' := by
  have CC : Hid (∀ w' u, Holds w' u X → Calls Try.prog 43 #[u, .int .i64 65536, .int .i64 2097152, .int .i64 s, .bool (f / 8 % 2 == 0)] w' fun e w'' => e = .returned (.int .i64 b) ∧ Below w'.heap.size w' w'') := Lib.hid (fun w' u h => choose_c h hX.1 65536 2097152 s _ hb)
  have CF : Hid (∀ w' u, Holds w' u X → Calls Try.prog 42 #[u, .int .i64 a, .int .i64 s] w' fun e w'' => e = .returned (.bool false) ∧ Below w'.heap.size w' w'') := Lib.hid (fun w' u h => rfits_no h hX.1 hfit)
  have ha : (a != 0) = true := by simpa using ha0
  have k1 : (f % 2 == 1) = false := by rw [h1]; rfl
  have d1 : f.tmod 2 = f % 2 := Int.tmod_eq_emod_of_nonneg h0
  have d2 : f.tdiv 2 = f / 2 := Int.tdiv_eq_ediv_of_nonneg h0
  have d3 : (f / 2).tmod 2 = f / 2 % 2 := Int.tmod_eq_emod_of_nonneg (by omega)
  have d4 : f.tdiv 8 = f / 8 := Int.tdiv_eq_ediv_of_nonneg h0
  have d5 : (f / 8).tmod 2 = f / 8 % 2 := Int.tmod_eq_emod_of_nonneg (by omega)
  have KX := Lib.hid h
  have B := Lib.hid (Below.refl w.heap.size w)
  clear hX
  obtain ⟨A, c, rfl⟩ := h.is
  clear h
  generalize hn : X.length = n at *
  clear hn hb hfit ha0
  go_enter Try.func18, Try.ntmps18
  go_wp2_with fail
  refine (CF.out _ _ KX.out).mono ?_
  rintro e w1 ⟨rfl, hb⟩
  have B := Lib.hid (below_then B.out hb (Nat.le_refl _))
  have KX := Lib.hid (KX.out.still hb)
  clear hb CF
  go_wp2_with fail
  refine (CC.out _ _ KX.out).mono ?_
  rintro e w2 ⟨rfl, hb⟩
  have B := Lib.hid (below_then B.out hb (Nat.le_refl _))
  have KX := Lib.hid (KX.out.still hb)
  clear hb CC
  go_wp2_with fail
  go_ret2
  exact ⟨rfl, B.out⟩

theorem rplace_high (hX : RightL X) (s : Int) : ∃ b, Best X 65536 2097152 s true b ∧ ((b < 0 ∧ highOf s (roomsL 65536 2097152 s X) = (0, false)) ∨ (¬ b < 0 ∧ highOf s (roomsL 65536 2097152 s X) = (b, true))) := by
  rcases high_is X 65536 2097152 s with ⟨h1, h2⟩ | ⟨a, h1, h2, h3⟩
  · exact ⟨-1, .inl ⟨rfl, h2⟩, .inl ⟨by omega, h1⟩⟩
  · have := may_num h2
    exact ⟨a, high_best h2 h3, .inr ⟨by omega, h1⟩⟩
theorem rplace_low (hX : RightL X) (s : Int) : ∃ b, Best X 65536 2097152 s false b ∧ ((b < 0 ∧ lowOf (roomsL 65536 2097152 s X) = (0, false)) ∨ (¬ b < 0 ∧ lowOf (roomsL 65536 2097152 s X) = (b, true))) := by
  rcases low_is X 65536 2097152 s with ⟨h1, h2⟩ | ⟨a, h1, h2, h3⟩
  · exact ⟨-1, .inl ⟨rfl, h2⟩, .inl ⟨by omega, h1⟩⟩
  · have := may_num h2
    exact ⟨a, low_best h2 h3, .inr ⟨by omega, h1⟩⟩
theorem rplace_best (h : Holds w v X) (hX : MayL X) (a s f : Int) (h0 : 0 ≤ f) (hf : f < 256) (h1 : f % 2 = 0) (hfit : ¬ FitsAt X a s) {b : Int} (hb : Best X 65536 2097152 s (f / 8 % 2 == 0) b) {r : Int × Bool} (hr : (b < 0 ∧ r = (0, false)) ∨ (¬ b < 0 ∧ r = (b, true))) :
    Calls Try.prog 18 #[v, .int .i64 a, .int .i64 s, .int .i64 f] w fun e w' => e = .returned (plV (if r.2 then r.1 else 0, if r.2 then 0 else 5)) ∧ Below w.heap.size w w' := by
  rcases hr with ⟨h2, rfl⟩ | ⟨h2, rfl⟩
  · simp only [Bool.false_eq_true, if_false]
    by_cases ha : a = 0
    · exact rplace_none0 h hX a s f h0 hf h1 ha b hb h2
    · exact rplace_none h hX a s f h0 hf h1 ha hfit b hb h2
  · simp only [if_true]
    by_cases ha : a = 0
    · exact rplace_some0 h hX a s f h0 hf h1 ha b hb h2
    · exact rplace_some h hX a s f h0 hf h1 ha hfit b hb h2
open Classical in
theorem refPlace_c (h : Holds w v X) (hX : MayL X) (a s f : Int) (h0 : 0 ≤ f) (hf : f < 256) : Calls Try.prog 18 #[v, .int .i64 a, .int .i64 s, .int .i64 f] w fun e w' => e = .returned (plV (plR X a s f)) ∧ Below w.heap.size w w' := by
  obtain ⟨e1, e2, _, e8⟩ := bits_byte h0 hf
  unfold plR
  by_cases h1 : f % 2 = 1
  · rw [e1, if_pos (by simpa using h1)]
    by_cases he : rgE a s = 0
    · rw [if_neg (fun h => h he), e2]
      by_cases h2 : f / 2 % 2 = 1
      · by_cases hi : insideL (rgA a s) (rgB a s) X = []
        · rw [if_neg (fun h => h.2 hi)]; exact rplace_free h hX a s f h0 hf h1 he h2 hi
        · rw [if_pos ⟨by simpa using h2, hi⟩]; exact rplace_exists h hX a s f h0 hf h1 he h2 hi
      · rw [if_neg (fun h => h2 (by simpa using h.1))]; exact rplace_fixed h hX a s f h0 hf h1 he (by omega)
    · rw [if_pos he]; exact rplace_range h hX a s f h0 hf h1 he
  · rw [e1, if_neg (by simpa using h1)]
    by_cases hfit : FitsAt X a s
    · rw [if_pos hfit]; exact rplace_hint h hX a s f h0 hf (by omega) hfit
    · rw [if_neg hfit, e8]
      by_cases h8 : f / 8 % 2 = 1
      · rw [if_pos (by simpa using h8)]
        obtain ⟨b, hb, hr⟩ := rplace_low hX.1 s
        exact rplace_best h hX a s f h0 hf (by omega) hfit (by rw [show (f / 8 % 2 == 0) = false by rw [h8]; rfl]; exact hb) hr
      · rw [if_neg (by simpa using h8)]
        obtain ⟨b, hb, hr⟩ := rplace_high hX.1 s
        exact rplace_best h hX a s f h0 hf (by omega) hfit (by rw [show (f / 8 % 2 == 0) = true by rw [show f / 8 % 2 = 0 by omega]; rfl]; exact hb) hr
end
end Go.Proofs.Ytfejoeidffnadaa
